/-
  Contracts of the code's functions, part 10.
-/
import Derived.Test.YtefldbbiajkbnaaGreatDoorDaI
import Derived.Test.YtefldbbiajkbnaaGreatDoorDaF
import Derived.Test.YtefldbbiajkbnaaGreatDoorDaE
import Derived.Maps.AppendAt
/-
  Small lemmas on types in memory, on blocks of four cells, on tokens: for every walk over types.
-/
namespace Go.Proofs.YtefldbbiajkbnaaGreatDoor
open Go.RowKit Lx Tx
set_option maxRecDepth 100000

theorem strV_len (l : List (List UInt8)) : (strV l).length = l.length := by simp [strV]

theorem strV_at (l : List (List UInt8)) (k : Nat) (h : k < l.length) : (strV l)[k]? = some (.string ⟨l[k].toArray⟩) := by simp [strV, List.getElem?_map, List.getElem?_eq_getElem h]

theorem not_take {α : Type} [DecidableEq α] (x : α) (l : List α) (k : Nat) (hk : k < l.length) (h : x ∉ l.take k) (hx : ¬ l[k] = x) : x ∉ l.take (k + 1) := by
  rw [List.take_succ_eq_append_getElem hk, List.mem_append]
  rintro (e | e)
  · exact h e
  · simp at e; exact hx e.symm

theorem strT (a b : ByteArray) (h : a = b) : (a.toList == b.toList) = true := by rw [h]; simp

theorem strF (a b : ByteArray) (h : ¬ a = b) : (a.toList == b.toList) = false := by
  rw [beq_eq_false_iff_ne]
  intro e
  rw [Lib.toList_data, Lib.toList_data] at e
  exact h (ByteArray.ext (by simpa using e))

theorem kF (a b : Nat) (h : ¬ a = b) : ((a : Int) == (b : Int)) = false := by
  rw [Bool.eq_false_iff]; intro e; simp at e; omega

theorem take_snoc {α : Type} (l : List α) (k : Nat) (h : k < l.length) : l.take (k + 1) = l.take k ++ [l[k]] := List.take_succ_eq_append_getElem h

theorem depth_kids (t : Ty) : t.depth = depthL (kids t) + 1 := by
  cases t <;> rw [Ty.depth, kids] <;> simp [depthL]

theorem depthL_snoc (l : List Ty) (t : Ty) : depthL (l ++ [t]) = max (depthL l) t.depth := by
  induction l with
  | nil => simp [depthL]
  | cons a r ih => rw [List.cons_append, depthL, depthL, ih]; omega

theorem size_kids (t : Ty) : t.size = sizeL (kids t) + 1 := by
  cases t <;> rw [Ty.size, kids] <;> simp [sizeL] <;> omega

theorem sizeL_at (l : List Ty) (i : Nat) (h : i < l.length) : l[i].size ≤ sizeL l := by
  induction l generalizing i with
  | nil => simp at h
  | cons a r ih =>
    rw [sizeL]
    cases i with
    | zero => simp
    | succ i => have := ih i (by simpa using h); simp; omega

theorem sizeL_len (l : List Ty) : l.length ≤ sizeL l := by
  induction l with
  | nil => simp
  | cons a r ih => rw [sizeL, List.length_cons]; have := size_kids a; omega

theorem kid_size (t : Ty) (i : Nat) (h : i < (kids t).length) : (kids t)[i].size < t.size := by
  have := sizeL_at _ i h
  rw [size_kids t]; omega

theorem kids_len (t : Ty) : (kids t).length < t.size := by
  have := sizeL_len (kids t)
  rw [size_kids t]; omega

mutual
theorem depth_size : (t : Ty) → t.depth ≤ t.size
  | .var _ => by rw [Ty.depth, Ty.size]; omega
  | .mt _ => by rw [Ty.depth, Ty.size]; omega
  | .con _ l => by rw [Ty.depth, Ty.size]; have := depth_sizeL l; omega
  | .fn a b => by rw [Ty.depth, Ty.size]; have := depth_size a; have := depth_size b; omega
  | .all _ t => by rw [Ty.depth, Ty.size]; have := depth_size t; omega
theorem depth_sizeL : (l : List Ty) → depthL l ≤ sizeL l
  | [] => by rw [depthL]; omega
  | t :: r => by rw [depthL, sizeL]; have := depth_size t; have := depth_sizeL r; omega
end

/-- the block that a parameter is boxed in, and the cells of the i-th argument -/
theorem kid_cells {S : Nat → Prop} {w w' : World} {t : Ty} {A : Option Addr} {i m : Nat} (h : Args S w t A) (hm : (kids t).length = m) (hi : i < m) (hk : ∀ g, S g → w'.heap[g]? = w.heap[g]?) :
    ∃ g u K X Z A1 n1 c1, A = some ⟨g, 0, none⟩ ∧ S g ∧ w'.cell? ⟨g, i * 4, none⟩ = some (.int .i64 K) ∧ w'.cell? ⟨g, i * 4 + 1, none⟩ = some (.string X) ∧ w'.cell? ⟨g, i * 4 + 2, none⟩ = some (.int .i64 Z) ∧
      w'.cell? ⟨g, i * 4 + 3, none⟩ = some (.slice A1 n1 c1) ∧ (kids t)[i]? = some u ∧ RdV S w' u (.agg #[.int .i64 K, .string X, .int .i64 Z, .slice A1 n1 c1]) ∧ u.size < t.size := by
  subst hm
  obtain ⟨g, h1, h2, A1, c1, h3, h4⟩ := h.kid i hi
  obtain ⟨e0, e1, e2, e3⟩ := h3.keep (hk g h2)
  exact ⟨g, (kids t)[i], _, _, _, A1, _, c1, h1, h2, e0, e1, e2, e3, List.getElem?_eq_getElem hi, ⟨A1, c1, rfl, h4.keep (fun _ h => h) hk⟩, kid_size t i hi⟩

/-- t's value as four parts -/
theorem RdV.parts {S : Nat → Prop} {w : World} {t : Ty} {v : Value} (h : RdV S w t v) : ∃ K X Z A m c, v = .agg #[.int .i64 K, .string X, .int .i64 Z, .slice A m c] ∧ K = (kd t : Nat) ∧ X = nmB t ∧ Z = (nn t : Nat) ∧ (kids t).length = m ∧ Args S w t A := by
  obtain ⟨A, c, rfl, ha⟩ := h
  exact ⟨_, _, _, A, _, c, rfl, rfl, rfl, rfl, rfl, ha⟩

theorem depth_take (l : List Ty) (i a : Nat) (u : Ty) (h : Hid (depthL (l.take i) = a)) (hu : l[i]? = some u) : depthL (l.take (i + 1)) = max a u.depth := by
  obtain ⟨hi, e⟩ := List.getElem?_eq_some_iff.1 hu
  rw [take_snoc l i hi, depthL_snoc, e, h.out]

/-- a struct and a number: what the function leaves -/
theorem results_ct {P : Program} {fn : Func} {p u : Tmp} {ty : TypeId} (h : fn.results = #[.cell p ty, .tmp u]) (tmps : Array Value) (w : World) (g : Nat) (t : TypeId) (cs : Array Value) (fr : Nat × Nat) (d : TypeDesc)
    (hp : tmps.getD p undef = .pointer (some ⟨g, 0, none⟩)) (hg : w.heap[g]? = some (.cells cs t fr))
    (hu : P.underlying ty = some d) (hd : (match d with | .struct _ | .array _ _ => true | _ => false) = true) (hi : (P.info? ty).map (·.size) = some cs.size) :
    (results fn tmps).run P w = .ok (.tuple #[.agg cs, tmps.getD u undef]) w := by
  have hp' : tmps[p]?.getD undef = .pointer (some ⟨g, 0, none⟩) := by simpa using hp
  simp [results, h, hp', asAddr, run_loadVar_row w g t ty cs fr d hg hu hd hi]

/-- the four cells of a block are written -/
theorem blk_set4 {w : World} {g : Nat} {t : TypeId} {a0 a1 a2 a3 : Value} (b0 b1 b2 b3 : Value) (h : Blk w g t #[a0, a1, a2, a3]) :
    Blk ((((w.setCell ⟨g, 0, none⟩ b0).setCell ⟨g, 1, none⟩ b1).setCell ⟨g, 2, none⟩ b2).setCell ⟨g, 3, none⟩ b3) g t #[b0, b1, b2, b3] := by
  have h1 := heap_setCell_same _ g 0 _ t b0 h
  have h2 := heap_setCell_same _ g 1 _ t b1 h1
  have h3 := heap_setCell_same _ g 2 _ t b2 h2
  have h4 := heap_setCell_same _ g 3 _ t b3 h3
  exact h4

theorem below_set4 {w w' : World} {B g : Nat} (h : Below B w w') (b0 b1 b2 b3 : Value) (hg : B ≤ g) :
    Below B w ((((w'.setCell ⟨g, 0, none⟩ b0).setCell ⟨g, 1, none⟩ b1).setCell ⟨g, 2, none⟩ b2).setCell ⟨g, 3, none⟩ b3) :=
  (((h.setCell (p := ⟨g, 0, none⟩) hg _).setCell (p := ⟨g, 1, none⟩) hg _).setCell (p := ⟨g, 2, none⟩) hg _).setCell (p := ⟨g, 3, none⟩) hg _

theorem blk_facts4 {w : World} {g : Nat} {t : TypeId} {a0 a1 a2 a3 : Value} (h : Blk w g t #[a0, a1, a2, a3]) :
    w.cell? ⟨g, 0, none⟩ = some a0 ∧ w.cell? ⟨g, 1, none⟩ = some a1 ∧ w.cell? ⟨g, 2, none⟩ = some a2 ∧ w.cell? ⟨g, 3, none⟩ = some a3 ∧
      w.frozen? ⟨g, 0, none⟩ = false ∧ w.frozen? ⟨g, 1, none⟩ = false ∧ w.frozen? ⟨g, 2, none⟩ = false ∧ w.frozen? ⟨g, 3, none⟩ = false ∧ g < w.heap.size :=
  ⟨h.cell 0, h.cell 1, h.cell 2, h.cell 3, h.frozen 0, h.frozen 1, h.frozen 2, h.frozen 3, h.lt⟩

theorem good_meta (t : Tok) (h : Lx.Good t) (hk : t.kind = 5) : (∀ d ∈ t.text.drop 1, isDig d = true) ∧ (t.text.drop 1).length ≤ 6 ∧ 1 ≤ t.text.length := by
  obtain ⟨h1, h2, _⟩ := h
  rw [hk] at h2
  cases hx : t.text with
  | nil => exact absurd hx h1
  | cons c r =>
    rw [hx] at h2
    show (∀ d ∈ r, isDig d = true) ∧ r.length ≤ 6 ∧ _
    rw [first] at h2
    split at h2
    · exfalso
      unfold word at h2
      split at h2
      · injection h2 with a _; omega
      · injection h2 with a _
        unfold wordKind at a
        split at a
        · omega
        · split at a <;> omega
    · split at h2
      · exfalso
        rcases number_cases (c :: r) with e | ⟨e, _, _⟩ <;> rw [e] at h2 <;> injection h2 with a _ <;> omega
      · split at h2
        · unfold meta_ at h2
          split at h2
          · injection h2 with a _; omega
          · rename_i hn
            injection h2 with _ b
            rw [show (c :: r).drop 1 = r from rfl] at b hn
            rcases number_cases r with e | ⟨e, _, h6⟩
            · rw [e] at hn; exact absurd rfl hn
            · rw [e] at b
              simp at b
              have hs : span isDig r = r.length := by omega
              exact ⟨span_full isDig r hs, by omega, by simp⟩
        · exfalso
          unfold sign at h2
          split at h2
          · injection h2 with a _; omega
          · split at h2
            · injection h2 with a _; omega
            · injection h2 with a _; omega

theorem neq_int (m : Nat) (k : Int) (j : Nat) (hk : k = j) (h : ¬ m = j) : ((m : Int) == k) = false := by subst hk; exact kF m j h

theorem heap_set4 (w : World) (g : Nat) (b0 b1 b2 b3 : Value) (k : Nat) (hk : k ≠ g) : ((((w.setCell ⟨g, 0, none⟩ b0).setCell ⟨g, 1, none⟩ b1).setCell ⟨g, 2, none⟩ b2).setCell ⟨g, 3, none⟩ b3).heap[k]? = w.heap[k]? := by
  rw [Below.heap_setCell _ _ _ _ hk, Below.heap_setCell _ _ _ _ hk, Below.heap_setCell _ _ _ _ hk, Below.heap_setCell _ _ _ _ hk]

theorem own_shape {w : World} {base : Nat} {e : TypeId} {size n : Nat} {v : Value} {xs : List Value} (h : w.ownsRow base e size v n xs) : ∃ a c, v = .slice a n c := by
  rcases h.2 with ⟨rfl, h0⟩ | ⟨g, cap, cur, rfl, _⟩
  · exact ⟨none, 0, by rw [h0]⟩
  · exact ⟨_, _, rfl⟩

theorem app_step {o : Option (List Ty × List Tok)} {p : Option (List Ty × List Tok)} {done : List Ty} {x : Ty} (h : o = (p.map fun y => (x :: y.1, y.2)).map fun y => (done ++ y.1, y.2)) : o = p.map fun y => ((done ++ [x]) ++ y.1, y.2) := by
  rw [h]
  cases p with
  | none => rfl
  | some y => simp

theorem new_cells' (w : World) (cs : Array Value) (t : TypeId) (g : Nat) (hg : g = w.heap.size) : ∀ j u, cs.toList[j]? = some u → (w.alloc (.cells cs t)).cell? ((⟨g, 0, none⟩ : Addr).add j) = some u := by
  subst hg
  exact new_cells w cs t

/-- two types as a function's cells -/
theorem fn_cells {w' : World} {t u : Ty} {S : Nat → Prop} {K1 K2 Z1 Z2 : Int} {X1 X2 : ByteArray} {A1 A2 : Option Addr} {m1 m2 c1 c2 g c : Nat}
    (h1 : RdV S w' t (.agg #[.int .i64 K1, .string X1, .int .i64 Z1, .slice A1 m1 c1])) (h2 : RdV S w' u (.agg #[.int .i64 K2, .string X2, .int .i64 Z2, .slice A2 m2 c2]))
    (hg : S g) (hb : ∀ j v, [Value.int .i64 K1, .string X1, .int .i64 Z1, .slice A1 m1 c1, .int .i64 K2, .string X2, .int .i64 Z2, .slice A2 m2 c2][j]? = some v → w'.cell? ⟨g, j, none⟩ = some v) :
    RdV S w' (.fn t u) (.agg #[.int .i64 4, .string ⟨#[]⟩, .int .i64 0, .slice (some ⟨g, 0, none⟩) 2 c]) := by
  obtain ⟨A, a, e1, r1⟩ := h1
  obtain ⟨B, b, e2, r2⟩ := h2
  injection e1 with e1
  injection e2 with e2
  have e1 := congrArg Array.toList e1
  have e2 := congrArg Array.toList e2
  simp only [List.cons.injEq, Value.int.injEq, Value.string.injEq, Value.slice.injEq, and_true, true_and] at e1 e2
  obtain ⟨rfl, rfl, rfl, rfl, rfl, rfl⟩ := e1
  obtain ⟨rfl, rfl, rfl, rfl, rfl, rfl⟩ := e2
  refine ⟨some ⟨g, 0, none⟩, c, rfl, ?_⟩
  rw [Args]
  exact ⟨g, rfl, hg, ⟨_, _, ⟨hb 0 _ rfl, hb 1 _ rfl, hb 2 _ rfl, hb 3 _ rfl⟩, r1⟩, ⟨_, _, ⟨hb 4 _ rfl, hb 5 _ rfl, hb 6 _ rfl, hb 7 _ rfl⟩, r2⟩⟩

theorem add_zero_addr (g j : Nat) : (⟨g, 0, none⟩ : Addr).add j = ⟨g, j, none⟩ := by unfold Addr.add; split <;> simp_all

theorem all_cells {w' : World} {x : List UInt8} {t : Ty} {S S' : Nat → Prop} {w : World} {K1 Z1 : Int} {X1 Y : ByteArray} {A1 : Option Addr} {m1 c1 g c : Nat} (hx : Y = ⟨x.toArray⟩)
    (h1 : RdV S w t (.agg #[.int .i64 K1, .string X1, .int .i64 Z1, .slice A1 m1 c1])) (hS : ∀ g, S g → S' g) (hk : ∀ g, S g → w'.heap[g]? = w.heap[g]?)
    (hg : S' g) (hb : ∀ j v, [Value.int .i64 K1, .string X1, .int .i64 Z1, .slice A1 m1 c1][j]? = some v → w'.cell? ⟨g, j, none⟩ = some v) :
    RdV S' w' (.all x t) (.agg #[.int .i64 5, .string Y, .int .i64 0, .slice (some ⟨g, 0, none⟩) 1 c]) := by
  obtain ⟨A, a, e1, r1⟩ := h1
  injection e1 with e1
  have e1 := congrArg Array.toList e1
  simp only [List.cons.injEq, Value.int.injEq, Value.string.injEq, Value.slice.injEq, and_true, true_and] at e1
  obtain ⟨rfl, rfl, rfl, rfl, rfl, rfl⟩ := e1
  subst hx
  refine ⟨some ⟨g, 0, none⟩, c, rfl, ?_⟩
  rw [Args]
  exact ⟨g, rfl, hg, _, _, ⟨hb 0 _ rfl, hb 1 _ rfl, hb 2 _ rfl, hb 3 _ rfl⟩, Args.keep hS hk t _ r1⟩

theorem blk_far4 {w : World} {g g' : Nat} {t : TypeId} {cs : Array Value} {b0 b1 b2 b3 : Value} (hg : g ≠ g') (h : Blk w g t cs) :
    Blk ((((w.setCell ⟨g', 0, none⟩ b0).setCell ⟨g', 1, none⟩ b1).setCell ⟨g', 2, none⟩ b2).setCell ⟨g', 3, none⟩ b3) g t cs :=
  (((h.far (p := ⟨g', 0, none⟩) hg _).far (p := ⟨g', 1, none⟩) hg _).far (p := ⟨g', 2, none⟩) hg _).far (p := ⟨g', 3, none⟩) hg _

theorem alls_step (V : List (List UInt8)) (d : Nat) (t : Ty) (h : d < V.length) : alls (V.drop d) t = .all (V.getD d []) (alls (V.drop (d + 1)) t) := by
  rw [List.drop_eq_getElem_cons h, alls, List.foldr_cons, List.getD_eq_getElem?_getD, List.getElem?_eq_getElem h]
  rfl

end Go.Proofs.YtefldbbiajkbnaaGreatDoor

/-
  What Parse tells of a text, out of its tokens; what it leaves.
-/
namespace Go.Proofs.YtefldbbiajkbnaaGreatDoor
open Go.RowKit Lx Tx

theorem scan_good (s : List UInt8) (ts : List Tok) (a : Nat) (h : scanS s = (ts, a, 0)) : AllG ts ∧ ts.length ≤ 4000 := by
  have hl : s.length ≤ 4000 := by
    rcases Nat.lt_or_ge 4000 s.length with h4 | h4
    · unfold scanS at h; rw [if_pos h4] at h; injection h with _ h; injection h with _ h; omega
    · exact h4
  have hx : lex s = .ok ts := by
    unfold scanS at h
    rw [if_neg (by omega)] at h
    cases hl : lex s with
    | error a => rw [hl] at h; injection h with _ h; injection h with _ h; omega
    | ok us => rw [hl] at h; injection h with h _; rw [h]
  refine ⟨fun t ht => good_lex s ts hx t ht, ?_⟩
  have hc := lex_cov s ts hx
  have key : ∀ (ts : List Tok) (f : Nat), Cov s f ts → f + ts.length ≤ s.length := by
    intro ts
    induction ts with
    | nil => intro f h; exact h.1
    | cons x r ih =>
      intro f h
      obtain ⟨h1, h2, _, _, _, _, h7⟩ := h
      have := ih _ h7
      have : 0 < x.text.length := List.length_pos_iff.2 h2
      simp only [List.length_cons]
      omega
  have := key ts 0 hc
  omega

theorem neqT (a b : Int) (h : ¬ a = b) : (a != b) = true := by simpa using h
end Go.Proofs.YtefldbbiajkbnaaGreatDoor
