/-
  Contracts of the code's functions, part 10.
-/
import Derived.Test.YtaomnlcplmkokaaGreatDoorBuG
import Derived.Test.YtaomnlcplmkokaaGreatDoorBuF
import Derived.Test.YtaomnlcplmkokaaGreatDoorBuE
import Derived.Laws.IdiomStrings
import Derived.Deep.RegionWith
import Derived.Deep.RegionHeld3
import Derived.Deep.AppendLies
import Derived.IntWalk
import Derived.Maps.AppendAt
/-
  Small lemmas on types that are written, gone through, numbered: for every walk over types.
-/
namespace Go.Proofs.YtaomnlcplmkokaaGreatDoor
open Go.RowKit Lx Tx
set_option maxRecDepth 100000

theorem printL_snoc (l : List Ty) (t : Ty) : printL (l ++ [t]) = printL l ++ (if t.big then 32 :: 40 :: (t.print ++ [41]) else 32 :: t.print) := by
  induction l with
  | nil => simp [printL]
  | cons a r ih => rw [List.cons_append, printL, printL, ih]; simp

theorem printL_take (l : List Ty) (i : Nat) (hi : i < l.length) : printL (l.take (i + 1)) = printL (l.take i) ++ (if l[i].big then 32 :: 40 :: (l[i].print ++ [41]) else 32 :: l[i].print) := by
  rw [take_snoc l i hi, printL_snoc]

theorem printL_take_le (l : List Ty) (i : Nat) : (printL (l.take i)).length ≤ (printL l).length := by
  induction l generalizing i with
  | nil => simp
  | cons t r ih =>
    cases i with
    | zero => simp [printL]
    | succ i => rw [List.take_succ_cons, printL, printL]; have := ih i; simp; omega

theorem nm_kid {t : Ty} (h : Nm t) (i : Nat) (hi : i < (kids t).length) : Nm (kids t)[i] := by
  cases h with
  | var x _ => simp [kids] at hi
  | mt n _ => simp [kids] at hi
  | con c l _ hl => exact hl _ (List.getElem_mem hi)
  | fn a b ha hb =>
    match i, hi with
    | 0, _ => exact ha
    | 1, _ => exact hb
    | i + 2, hi => exact absurd hi (by simp [kids])
  | all x t _ ht =>
    match i, hi with
    | 0, _ => exact ht
    | i + 1, hi => simp [kids] at hi

/-- the cells of the i-th argument, and what is to be known of it -/
theorem kid_cells2 {S : Nat → Prop} {w w' : World} {t : Ty} {A : Option Addr} {i m : Nat} (h : Args S w t A) (hm : (kids t).length = m) (hi : i < m) (hk : ∀ g, S g → w'.heap[g]? = w.heap[g]?) :
    ∃ g u K X Z A1 n1 c1, A = some ⟨g, 0, none⟩ ∧ S g ∧ w'.cell? ⟨g, i * 4, none⟩ = some (.int .i64 K) ∧ w'.cell? ⟨g, i * 4 + 1, none⟩ = some (.string X) ∧ w'.cell? ⟨g, i * 4 + 2, none⟩ = some (.int .i64 Z) ∧
      w'.cell? ⟨g, i * 4 + 3, none⟩ = some (.slice A1 n1 c1) ∧ (∃ hi : i < (kids t).length, (kids t)[i] = u) ∧ RdV S w' u (.agg #[.int .i64 K, .string X, .int .i64 Z, .slice A1 n1 c1]) ∧ u.size < t.size ∧ K = (kd u : Nat) ∧ n1 = (kids u).length := by
  subst hm
  obtain ⟨g, h1, h2, A1, c1, h3, h4⟩ := h.kid i hi
  obtain ⟨e0, e1, e2, e3⟩ := h3.keep (hk g h2)
  exact ⟨g, (kids t)[i], _, _, _, A1, _, c1, h1, h2, e0, e1, e2, e3, ⟨hi, rfl⟩, ⟨A1, c1, rfl, h4.keep (fun _ h => h) hk⟩, kid_size t i hi, rfl, rfl⟩

/-- the parts of a type's value in memory, with the cells by names -/
theorem cell4_parts {S : Nat → Prop} {w : World} {u : Ty} {A : Option Addr} {c g o : Nat} (h : Cell4 w u A c g o) (ha : Args S w u A) :
    ∃ K X Z n, w.cell? ⟨g, o, none⟩ = some (.int .i64 K) ∧ w.cell? ⟨g, o + 1, none⟩ = some (.string X) ∧ w.cell? ⟨g, o + 2, none⟩ = some (.int .i64 Z) ∧ w.cell? ⟨g, o + 3, none⟩ = some (.slice A n c) ∧
      RdV S w u (.agg #[.int .i64 K, .string X, .int .i64 Z, .slice A n c]) ∧ K = (kd u : Nat) ∧ n = (kids u).length :=
  ⟨_, _, _, _, h.1, h.2.1, h.2.2.1, h.2.2.2, ⟨A, c, rfl, ha⟩, rfl, rfl⟩

theorem all_open {S : Nat → Prop} {w : World} {y : List UInt8} {u : Ty} {K Z : Int} {X : ByteArray} {A : Option Addr} {m c : Nat} (h : RdV S w (.all y u) (.agg #[.int .i64 K, .string X, .int .i64 Z, .slice A m c])) :
    K = 5 ∧ X = ⟨y.toArray⟩ ∧ m = 1 ∧ ∃ g, A = some ⟨g, 0, none⟩ ∧ S g ∧ ∃ K1 X1 Z1 A1 n1 c1, w.cell? ⟨g, 0, none⟩ = some (.int .i64 K1) ∧ w.cell? ⟨g, 1, none⟩ = some (.string X1) ∧ w.cell? ⟨g, 2, none⟩ = some (.int .i64 Z1) ∧ w.cell? ⟨g, 3, none⟩ = some (.slice A1 n1 c1) ∧
      RdV S w u (.agg #[.int .i64 K1, .string X1, .int .i64 Z1, .slice A1 n1 c1]) := by
  obtain ⟨A', c', hv, ha⟩ := h
  injection hv with hv
  have hv := congrArg Array.toList hv
  simp only [List.cons.injEq, Value.int.injEq, Value.string.injEq, Value.slice.injEq, and_true, true_and] at hv
  obtain ⟨rfl, rfl, rfl, rfl, rfl, rfl⟩ := hv
  rw [Args] at ha
  obtain ⟨g, rfl, hg, A1, c1, h1, r1⟩ := ha
  obtain ⟨K1, X1, Z1, n1, e0, e1, e2, e3, rd1, -, -⟩ := cell4_parts h1 r1
  exact ⟨rfl, rfl, rfl, g, rfl, hg, K1, X1, Z1, A1, n1, c1, e0, e1, e2, e3, rd1⟩

theorem polyL_snoc (l : List Ty) (t : Ty) : polyL (l ++ [t]) = (polyL l || t.poly) := by
  induction l with
  | nil => simp [polyL]
  | cons a r ih => rw [List.cons_append, polyL, polyL, ih, Bool.or_assoc]

/-- a row of values, nil if there are none -/
def RowN (w : World) (v : Value) (l : List Value) : Prop := RowV w v l ∧ (l = [] → v = .slice none 0 0)

theorem RowN.below {w w' : World} {v : Value} {l : List Value} (h : RowN w v l) (hb : Below w.heap.size w w') : RowN w' v l := ⟨h.1.below hb, h.2⟩

theorem RowN.nil (w : World) : RowN w (.slice none 0 0) [] := ⟨⟨none, 0, rfl, fun h => by simp at h⟩, fun _ => rfl⟩

theorem RowN.of_own {w : World} {base n : Nat} {v : Value} {l : List Value} {e : TypeId} (h : w.ownsRow base e 1 v n l) (hn : l ≠ []) : RowN w v l := ⟨RowV.of_own h, fun e => absurd e hn⟩

theorem alloc_at (w : World) (o : Obj) (g : Nat) (hg : g = w.heap.size) : (w.alloc o).heap[g]? = some o := by
  subst hg; exact heap_alloc_new w o

theorem alloc_below (w : World) (o : Obj) (g : Nat) (x : Obj) (h : w.heap[g]? = some x) : (w.alloc o).heap[g]? = some x :=
  (Below.heap_alloc w o g (lt_of_block h)).trans h

theorem owns_empty {w : World} {base b : Nat} {e : TypeId} (h : w.heap[b]? = some (.cells #[] e (0, 0))) (hb : base ≤ b) : w.ownsRow base e 1 (.slice (some ⟨b, 0, none⟩) 0 0) 0 [] :=
  ⟨rfl, .inr ⟨b, 0, #[], rfl, hb, h, Nat.le_refl _, by unfold maxLen; omega, rfl, rfl⟩⟩


theorem sizeL_take (l : List Ty) (i : Nat) : sizeL (l.take i) + sizeL (l.drop i) = sizeL l := by
  induction l generalizing i with
  | nil => simp [sizeL]
  | cons t r ih =>
    cases i with
    | zero => simp [sizeL]
    | succ i => rw [List.take_succ_cons, List.drop_succ_cons, sizeL, sizeL]; have := ih i; omega

theorem intV_snoc (l : List Nat) (x : Nat) : intV (l ++ [x]) = intV l ++ [.int .i64 (x : Nat)] := by simp [intV]

theorem rown_snocI {w : World} {base n : Nat} {v : Value} {xs : List Value} {e : TypeId} (out : List Nat) (x : Nat) (h : w.ownsRow base e 1 v n xs) (hxs : xs = intV out ++ [.int .i64 (x : Nat)]) : RowN w v (intV (out ++ [x])) := by
  rw [intV_snoc, ← hxs]
  exact RowN.of_own h (by rw [hxs]; simp)

theorem one_intV (l : List Nat) : ∀ u ∈ intV l, u.oneCell' = true := by
  intro u hu
  obtain ⟨x, _, rfl⟩ := List.mem_map.1 hu
  rfl

theorem drewN_add (w : World) (a b : Nat) : w.drewN (a + b) = (w.drewN a).drewN b := by
  unfold World.drewN
  simp [Nat.add_assoc]

theorem metasO_kids (t : Ty) (out : List Nat) (h : ∀ n, t ≠ .mt n) : t.metasO out = metasOL (kids t) out := by
  cases t with
  | var x => rw [Ty.metasO, kids, metasOL]
  | mt n => exact absurd rfl (h n)
  | con c l => rw [Ty.metasO, kids]
  | fn a c => rw [Ty.metasO, kids, metasOL, metasOL, metasOL]
  | all x t => rw [Ty.metasO, kids, metasOL, metasOL]

theorem metasOL_snoc (l : List Ty) (t : Ty) (out : List Nat) : metasOL (l ++ [t]) out = t.metasO (metasOL l out) := by
  induction l generalizing out with
  | nil => simp [metasOL]
  | cons a r ih => rw [List.cons_append, metasOL, metasOL, ih]

theorem metasOL_take (l : List Ty) (i : Nat) (u : Ty) (out o : List Nat) (h : Hid (o = metasOL (l.take i) out)) (hu : l[i]? = some u) : u.metasO o = metasOL (l.take (i + 1)) out := by
  obtain ⟨hi, e⟩ := List.getElem?_eq_some_iff.1 hu
  rw [take_snoc l i hi, metasOL_snoc, e, h.out]

theorem addN_lenI (x : Nat) (l : List Nat) : (addN x l).length ≤ l.length + 1 := by
  unfold addN; split <;> simp

mutual
theorem metasO_len : (t : Ty) → ∀ out, (t.metasO out).length ≤ out.length + t.size
  | .var x, out => by rw [Ty.metasO, Ty.size]; omega
  | .mt n, out => by rw [Ty.metasO, Ty.size]; exact addN_lenI n out
  | .con c l, out => by rw [Ty.metasO, Ty.size]; have := metasOL_len l out; omega
  | .fn t u, out => by rw [Ty.metasO, Ty.size]; have := metasO_len t out; have := metasO_len u (t.metasO out); omega
  | .all x t, out => by rw [Ty.metasO, Ty.size]; have := metasO_len t out; omega
theorem metasOL_len : (l : List Ty) → ∀ out, (metasOL l out).length ≤ out.length + sizeL l
  | [], out => by rw [metasOL, sizeL]; omega
  | t :: r, out => by rw [metasOL, sizeL]; have := metasO_len t out; have := metasOL_len r (t.metasO out); omega
end

def MetasPost (t : Ty) (out : List Nat) (w : World) (e : Ending) (w' : World) : Prop :=
  ∃ v', e = .returned v' ∧ RowN w' v' (intV (t.metasO out)) ∧ Below w.heap.size w w'

/-- the names that are bound, and what they are called, as a value: the innermost last -/
def NmV (w : World) (v : Value) (xs ys : List (List UInt8)) : Prop := ∃ F T, v = .agg #[F, T] ∧ RowN w F (strV xs.reverse) ∧ RowN w T (strV ys.reverse)

theorem NmV.below {w w' : World} {v : Value} {xs ys : List (List UInt8)} (h : NmV w v xs ys) (hb : Below w.heap.size w w') : NmV w' v xs ys := by
  obtain ⟨F, T, rfl, h1, h2⟩ := h
  exact ⟨F, T, rfl, h1.below hb, h2.below hb⟩

end Go.Proofs.YtaomnlcplmkokaaGreatDoor

/-
  The walks over Decimal, number, Has, Is of the document's answer for types.
-/
namespace Go.Proofs.YtaomnlcplmkokaaGreatDoor
open Go.RowKit Lx Tx
set_option maxRecDepth 100000

end Go.Proofs.YtaomnlcplmkokaaGreatDoor

/-
  The walks over number, Has, Is of the document's answer for types.
-/
namespace Go.Proofs.YtaomnlcplmkokaaGreatDoor
open Go.RowKit Lx Tx
set_option maxRecDepth 100000

set_option maxHeartbeats 800000 in
theorem ref2_has (v : Value) (l : List (List UInt8)) (s : ByteArray) (w : World) (h : RowV w v (strV l)) (hl : l.length ≤ 1000000) :
    Calls Tryz.prog 24 #[v, .string s] w fun e w' => e = .returned (.bool (decide (s.data.toList ∈ l))) ∧ w = w' := by
  obtain ⟨A, c, rfl, hp⟩ := h
  rw [strV_len] at *
  obtain ⟨n, hn⟩ : ∃ n, l.length = n := ⟨_, rfl⟩
  rw [hn] at hl hp ⊢
  have HP := hidE hp
  obtain ⟨R, hR⟩ : ∃ R, decide (s.data.toList ∈ l) = R := ⟨_, rfl⟩
  have HR := hidE hR
  have HN := hidE hn
  rw [hR]
  clear hp hR hn
  go_enter Tryz.func24, Tryz.ntmps24
  go_wp2
  go_loopg [5] n (fun gg v wr => ∃ k : Nat, gg = n - k ∧ v = .int .i64 k ∧ wr = w ∧ k ≤ n ∧ Hid (s.data.toList ∉ l.take k))
  case atStart => exact ⟨0, rfl, rfl, rfl, by omega, hidE (by simp)⟩
  case round =>
    obtain ⟨k, rfl, rfl, rfl, hk, hn⟩ := hrel
    by_cases hlt : k < n
    · obtain ⟨g, rfl, _, hc⟩ := HP.out (by omega)
      have hck := hc k _ (strV_at l k (by rw [HN.out]; exact hlt))
      clear hc
      obtain ⟨X, hX⟩ : ∃ X : ByteArray, ⟨(l[k]'(by rw [HN.out]; exact hlt)).toArray⟩ = X := ⟨_, rfl⟩
      rw [hX] at hck
      have HX := hidE hX
      clear hX
      by_cases he : X = s
      · have hr := hidE (show R = true by rw [← HR.out, ← he, ← HX.out]; simp)
        have dq := strT X s he
        clear he
        go_wp2
        go_ret
        exact ⟨ret_bool hr.out.symm, rfl⟩
      · have hr := hidE (not_take _ l k (by rw [HN.out]; exact hlt) hn (fun e => he (by rw [← HX.out, e])))
        have dq := strF X s he
        clear he
        go_wp2
        go_roundg (n - (k + 1))
        case measure => omega
        case rel => exact ⟨k + 1, rfl, by go_num, rfl, by omega, hr⟩
    · have hr := hidE (show R = false by rw [← HR.out]; rw [List.take_of_length_le (by rw [HN.out]; omega)] at hn; exact decide_eq_false hn.out)
      go_wp2
      go_ret
      exact ⟨ret_bool hr.out.symm, rfl⟩

set_option maxHeartbeats 800000 in
theorem ref2_is (v : Value) (ts : List Tok) (i K : Nat) (X : ByteArray) (k : Int) (hkK : k = K) (w : World) (h : RdT w v ts) :
    Calls Tryz.prog 84 #[v, .int .i64 i, .int .i64 k, .string X] w fun e w' => e = .returned (.bool (isAt ts i K X.data.toList)) ∧ w = w' := by
  subst hkK
  obtain ⟨R, hR⟩ : ∃ R, isAt ts i K X.data.toList = R := ⟨_, rfl⟩
  rw [hR]
  by_cases hi : i < ts.length
  · obtain ⟨g, c, rfl, h0, h1, h2⟩ := h.at_ i hi
    rw [isAt_at ts i K _ hi] at hR
    obtain ⟨T, hT⟩ : ∃ T : ByteArray, ⟨ts[i].text.toArray⟩ = T := ⟨_, rfl⟩
    have hT' : ts[i].text = T.data.toList := by rw [← hT]
    obtain ⟨m, hm⟩ : ∃ m, ts[i].kind = m := ⟨_, rfl⟩
    rw [hT] at h1
    rw [hm] at h0 hR
    rw [hT'] at hR
    clear h2 hT hT' hm h
    obtain ⟨n, hn⟩ : ∃ n, ts.length = n := ⟨_, rfl⟩
    rw [hn] at hi ⊢
    clear hn
    by_cases hk : m = K
    · have dk := kT m K hk
      by_cases hx : X = ⟨#[]⟩
      · have dx : X.toList.isEmpty = true := by rw [hx, Lib.toList_data]; rfl
        have hr := hidE (show R = true by rw [← hR, hx, hk]; simp)
        clear hk hx hR
        go_enter Tryz.func84, Tryz.ntmps84
        go_wp2
        go_ret
        exact ⟨ret_bool hr.out.symm, rfl⟩
      · have hx' : X.data.toList ≠ [] := fun e => hx (ByteArray.ext (by simpa using e))
        have dx : X.toList.isEmpty = false := by rw [Lib.toList_data]; cases hz : X.data.toList with | nil => exact absurd hz hx' | cons a b => rfl
        by_cases he : T = X
        · have dt := strT T X he
          have hr := hidE (show R = true by rw [← hR, he, hk]; simp)
          clear hk hx hx' he hR
          go_enter Tryz.func84, Tryz.ntmps84
          go_wp2
          go_ret
          exact ⟨ret_bool hr.out.symm, rfl⟩
        · have dt := strF T X he
          have he' : ¬ T.data.toList = X.data.toList := fun e => he (ByteArray.ext (by simpa using e))
          have hr := hidE (show R = false by rw [← hR, hk, beq_eq_false_iff_ne.2 hx', beq_eq_false_iff_ne.2 he']; simp)
          clear hk hx hx' he he' hR
          go_enter Tryz.func84, Tryz.ntmps84
          go_wp2
          go_ret
          exact ⟨ret_bool hr.out.symm, rfl⟩
    · have dk := kF m K hk
      have hr := hidE (show R = false by rw [← hR]; simp [hk])
      clear hk hR
      go_enter Tryz.func84, Tryz.ntmps84
      go_wp2
      go_ret
      exact ⟨ret_bool hr.out.symm, rfl⟩
  · rw [isAt_end ts i K _ (by omega)] at hR
    obtain ⟨A, c, rfl, _⟩ := h
    obtain ⟨n, hn⟩ : ∃ n, ts.length = n := ⟨_, rfl⟩
    rw [hn] at hi ⊢
    clear hn
    have hr := hidE hR
    clear hR
    go_enter Tryz.func84, Tryz.ntmps84
    go_wp2
    go_ret
    exact ⟨ret_bool hr.out, rfl⟩

set_option maxHeartbeats 800000 in
theorem ref2_number (s : ByteArray) (w : World) (hd : ∀ c ∈ s.data.toList, isDig c = true) (hs : s.size ≤ 6) :
    Calls Tryz.prog 124 #[.string s] w fun e w' => e = .returned (.int .i64 (numOf s.data.toList : Nat)) ∧ w = w' := by
  obtain ⟨R, hR⟩ : ∃ R, numOf s.data.toList = R := ⟨_, rfl⟩
  have HR := hidE hR
  have HD := hidE hd
  rw [hR]
  clear hR hd
  go_enter Tryz.func124, Tryz.ntmps124
  go_wp2
  go_loopg [3, 4] s.size (fun gg vn v wr => ∃ k n : Nat, gg = s.size - k ∧ vn = .int .i64 n ∧ v = .int .i64 k ∧ wr = w ∧ k ≤ s.size ∧ n < 1000000 ∧ Hid (numOf (s.data.toList.take k) = n))
  case atStart => exact ⟨0, 0, rfl, rfl, rfl, rfl, by omega, by omega, hidE rfl⟩
  case round =>
    obtain ⟨k, n, rfl, rfl, rfl, rfl, hk, hn6, hn⟩ := hrel
    by_cases hlt : k < s.size
    · have hkl : k < s.data.toList.length := by rw [← Lib.size_eq]; exact hlt
      have hdg : isDig s[k] = true := HD.out _ (by rw [show s[k] = s.data.toList[k] from rfl]; exact List.getElem_mem _)
      have h48 : 48 ≤ s[k].toNat := by simp [isDig] at hdg; exact hdg.1
      obtain ⟨d, hd⟩ : ∃ d, s[k].toNat - 48 = d := ⟨_, rfl⟩
      have hlt2 : s[k].toNat < 256 := s[k].toNat_lt
      have q1 : IntKind.u8.wrap ((s[k].toNat : Int) - 48) = (d : Int) := by simp [IntKind.wrap, IntKind.signed, IntKind.bits]; omega
      have hr : Hid (numOf (s.data.toList.take (k + 1)) = 10 * n + d) := hidE (by rw [take_snoc _ k hkl, numOf_snoc, hn.out, ← hd]; rfl)
      have hn7 : 10 * n + d < 1000000 := by
        rw [← hr.out]
        refine Nat.lt_of_lt_of_le (numOf_lt _ (fun c hc => HD.out c (List.mem_of_mem_take hc))) ?_
        rw [List.length_take]
        exact Nat.le_trans (Nat.pow_le_pow_right (by omega) (show min (k + 1) s.data.toList.length ≤ 6 by omega)) (by decide)
      have hd8 : d < 256 := by omega
      clear hdg hd hlt2
      go_wp2
      go_roundg (s.size - (k + 1))
      case measure => omega
      case rel => exact ⟨k + 1, 10 * n + d, rfl, by go_num, by go_num, rfl, by omega, hn7, hr⟩
    · have hr := hidE (show n = R by rw [← HR.out, ← hn.out, List.take_of_length_le (by rw [← Lib.size_eq]; omega)])
      go_wp2
      go_ret
      exact ⟨ret_i64 (by rw [hr.out]), rfl⟩

end Go.Proofs.YtaomnlcplmkokaaGreatDoor

/-
  The walks over Depth of the document's answer for types.
-/
namespace Go.Proofs.YtaomnlcplmkokaaGreatDoor
open Go.RowKit Lx Tx
set_option maxRecDepth 100000

set_option maxHeartbeats 800000 in
theorem ref2_depth (n : Nat) : ∀ (t : Ty) (S : Nat → Prop) (v : Value) (w : World), t.size ≤ n → n ≤ 1000000 → RdV S w t v → (∀ g, S g → g < w.heap.size) →
    Calls Tryz.prog 59 #[v] w fun e w' => e = .returned (.int .i64 (t.depth : Nat)) ∧ Below w.heap.size w w' := by
  induction n with
  | zero => intro t S v w h; rw [size_kids] at h; omega
  | succ n ih =>
    intro t S v w hn h5 hv hS
    obtain ⟨K, X, Z, A, m, c, rfl, -, -, -, hm, ha⟩ := hv.parts
    obtain ⟨R, hR⟩ : ∃ R, t.depth = R := ⟨_, rfl⟩
    have hR1 : depthL (kids t) + 1 = R := by rw [← depth_kids]; exact hR
    have hm6 : m ≤ n := by have := kids_len t; omega
    have hR6 : R ≤ n + 1 := by have := depth_size t; omega
    have HM := hidE hm
    have HA := hidE ha
    have IH := hidE ih
    have HS := hidE hS
    have HN := hidE hn
    have HR1 := hidE hR1
    rw [hR]
    clear hm hR ha ih hS hn hR1 hv
    go_enter Tryz.func59, Tryz.ntmps59
    go_wp2
    go_loopg [3, 4] m (fun gg va vi wr => ∃ i a : Nat, gg = m - i ∧ va = .int .i64 a ∧ vi = .int .i64 i ∧ i ≤ m ∧ Hid (depthL ((kids t).take i) = a) ∧ Below (w.heap.size + 1) (w.alloc (.cells #[.int .i64 K, .string X, .int .i64 Z, .slice A m c] 29)) wr)
    case atStart => exact ⟨0, 0, rfl, rfl, rfl, by omega, hidE rfl, Below.refl _ _⟩
    case round =>
      obtain ⟨i, a, rfl, rfl, rfl, hi, hd, hb⟩ := hrel
      have c3 : wr.cell? ⟨w.heap.size, 3, none⟩ = some (.slice A m c) := (hb.cell (p := ⟨w.heap.size, 3, none⟩) (by simp)).trans (cell_of_row _ _ _ _ _ _ (heap_alloc_new _ _))
      have HB := hidE hb
      clear hb
      by_cases hlt : i < m
      · obtain ⟨g, u, K1, X1, Z1, A1, n1, c1, rfl, hg, e0, e1, e2, e3, hu, hrd, hsz⟩ := kid_cells (w' := wr) HA.out HM.out hlt (fun g hg => by rw [HB.out.block g (by have := HS.out g hg; omega), Below.heap_alloc _ _ _ (HS.out g hg)])
        have hcall := IH.out u S _ wr (by have := HN.out; omega) (by omega) hrd (fun g hg => by have := HB.out.size; have := HS.out g hg; simp at *; omega)
        have hmx := hidE (depth_take _ _ _ _ hd hu)
        obtain ⟨D, hD⟩ : ∃ D, u.depth = D := ⟨_, rfl⟩
        rw [hD] at hmx hcall
        clear hrd hu hD
        go_wp2_with (go_at_call 59; refine hcall.mono ?_; rintro e w1 ⟨rfl, b1⟩)
        all_goals
          have HB2 := hidE (HB.out.trans (b1.mono (by have := HB.out.size; simp at this; omega)))
          go_roundg (m - (i + 1))
          case measure => omega
          case rel => exact ⟨i + 1, _, rfl, rfl, by go_num, by omega, hidE (by rw [hmx.out]; omega), HB2.out⟩
      · have hr := hidE (show a + 1 = R by rw [List.take_of_length_le (by rw [HM.out]; omega)] at hd; rw [hd.out] at HR1; exact HR1.out)
        have ha6 : a < 1000001 := by have := hr.out; omega
        go_wp2_with fail
        go_ret
        exact ⟨ret_i64 (by rw [← hr.out]; rfl), ((Below.refl _ w).alloc (Nat.le_refl _) _).trans (HB.out.mono (by omega))⟩

end Go.Proofs.YtaomnlcplmkokaaGreatDoor

/-
  The walk over atom of the document's answer for types.
-/
namespace Go.Proofs.YtaomnlcplmkokaaGreatDoor
open Go.RowKit Lx Tx
set_option maxRecDepth 100000

set_option maxHeartbeats 800000 in
theorem ref2_atom (f : Nat) (ts : List Tok) (v : Value) (w : World) (i : Nat) (hv : RdT w v ts) (hg : AllG ts) (hn : ts.length ≤ 100000) (hi : i ≤ ts.length) (hf : 4 * (ts.length - i) + 2 ≤ f + 1)
    (IH : ∀ (w : World) (i : Nat), RdT w v ts → i ≤ ts.length → 4 * (ts.length - i) + 4 ≤ f → Calls Tryz.prog 58 #[v, .int .i64 i] w (RPost ts i w (read f (ts.drop i)))) :
    Calls Tryz.prog 108 #[v, .int .i64 i] w (RPost ts i w (atom (f + 1) (ts.drop i))) := by
  by_cases hlt : i < ts.length
  · have hdr := drop_tok ts i hlt
    obtain ⟨g, c, rfl, h0, h1, h2⟩ := hv.at_ i hlt
    have hgood := hg _ (List.getElem_mem hlt)
    have hgl := hv.lt (by omega)
    rw [hdr]
    generalize hT : ts[i] = T at *
    obtain ⟨m, s, p⟩ := T
    obtain ⟨X, hX⟩ : ∃ X : ByteArray, ⟨s.toArray⟩ = X := ⟨_, rfl⟩
    obtain ⟨n, hN⟩ : ∃ n, ts.length = n := ⟨_, rfl⟩
    have HX := hidE hX
    have HN := hidE hN
    simp only at h0 h1 h2
    rw [hX] at h1
    rw [hN] at hv hlt hn hi hf IH ⊢
    have HV := hidE hv
    have HIH := hidE IH
    have HG := hidE hgood
    clear h2 hv IH hX hN hgood hT hdr hg
    obtain ⟨O, hO⟩ : ∃ O, atom (f + 1) (⟨m, s, p⟩ :: ts.drop (i + 1)) = O := ⟨_, rfl⟩
    rw [hO]
    rw [atom] at hO
    replace hO := hO.symm
    simp only at hO
    by_cases k1 : m = 1
    · have HO := hidE (hO.trans (if_pos k1))
      subst k1
      clear hO
      have h0 : w.cell? ⟨g, i * 3, none⟩ = some (.int .i64 1) := h0
      go_enter Tryz.func108, Tryz.ntmps108
      go_wp2_with fail
      try simp only [Exit.inBlock, Exit.then]
      refine bodyPost_ret (results_ct rfl _ _ w.heap.size 29 _ (0, 0) _ rfl (heap_alloc_new _ _) Tryz.underlying29 rfl (by kernel_rfl)) rfl ?_
      exact rpost_some ts i w _ _ _ 1 X 0 none 0 0 (.var s) (i + 1) ((Below.refl _ w).alloc (Nat.le_refl _) _) (by omega) (by rw [HN.out]; omega) HO.out rfl ⟨none, 0, by rw [← HX.out]; rfl, by rw [Args]; trivial⟩
    · have d1 := neq_int m 1 1 rfl k1
      rw [if_neg k1] at hO
      by_cases k2 : m = 2
      · have HO := hidE (hO.trans (if_pos k2))
        subst k2
        clear hO
        have h0 : w.cell? ⟨g, i * 3, none⟩ = some (.int .i64 2) := h0
        go_enter Tryz.func108, Tryz.ntmps108
        go_wp2_with fail
        try simp only [Exit.inBlock, Exit.then]
        refine bodyPost_ret (results_ct rfl _ _ w.heap.size 29 _ (0, 0) _ rfl (heap_alloc_new _ _) Tryz.underlying29 rfl (by kernel_rfl)) rfl ?_
        exact rpost_some ts i w _ _ _ 3 X 0 none 0 0 (.con s []) (i + 1) ((Below.refl _ w).alloc (Nat.le_refl _) _) (by omega) (by rw [HN.out]; omega) HO.out rfl ⟨none, 0, by rw [← HX.out]; rfl, by rw [Args]; intro h; exact absurd rfl h⟩
      · have d2 := neq_int m 2 2 rfl k2
        rw [if_neg k2] at hO
        by_cases k5 : m = 5
        · have HO := hidE (hO.trans (if_pos k5))
          subst k5
          clear hO
          have h0 : w.cell? ⟨g, i * 3, none⟩ = some (.int .i64 5) := h0
          obtain ⟨g1, g2, g3⟩ := good_meta _ HG.out rfl
          have hXs : X.data.toList = s := by rw [← HX.out]
          have hX1 : 1 ≤ X.size := by rw [Lib.size_eq, hXs]; exact g3
          have hXe : (X.extract 1 X.size).data.toList = s.drop 1 := by rw [Lib.extract_eq, hXs]; simp only []; rw [List.take_of_length_le]; rw [List.length_drop, ← hXs, ← Lib.size_eq]; omega
          have hnum := fun w => ref2_number (X.extract 1 X.size) w (by rw [hXe]; exact g1) (by rw [Lib.size_eq, hXe]; exact g2)
          rw [hXe] at hnum
          clear hXe hXs g1 g2 g3
          obtain ⟨N, hNn⟩ : ∃ N, numOf (s.drop 1) = N := ⟨_, rfl⟩
          rw [hNn] at hnum HO
          clear hNn
          go_enter Tryz.func108, Tryz.ntmps108
          go_wp2_with (go_at_call 124; refine (hnum _).mono ?_; rintro e w1 ⟨rfl, rfl⟩)
          try simp only [Exit.inBlock, Exit.then]
          refine bodyPost_ret (results_ct rfl _ _ w.heap.size 29 _ (0, 0) _ rfl (heap_alloc_new _ _) Tryz.underlying29 rfl (by kernel_rfl)) rfl ?_
          exact rpost_some ts i w _ _ _ 2 ⟨#[]⟩ (N : Nat) none 0 0 (.mt N) (i + 1) ((Below.refl _ w).alloc (Nat.le_refl _) _) (by omega) (by rw [HN.out]; omega) HO.out rfl ⟨none, 0, rfl, by rw [Args]; trivial⟩
        · have d5 := neq_int m 5 5 rfl k5
          rw [if_neg k5] at hO
          by_cases k40 : s = [40]
          · have dX : (X.toList == [40]) = true := by rw [Lib.toList_data, ← HX.out, k40]; rfl
            have HO := hidE (hO.trans (if_pos k40))
            clear hO k40
            go_enter Tryz.func108, Tryz.ntmps108
            go_wp2_with fail
            refine (HIH.out _ (i + 1) (HV.out.alloc _) (by omega) (by omega)).mono ?_
            rintro e w1 ⟨b1, K1, X1, Z1, A1, m1, c1, hcases⟩
            have hblk : Blk w1 w.heap.size 29 #[.int .i64 0, .string ⟨#[]⟩, .int .i64 0, .slice none 0 0] := Blk.below (heap_alloc_new _ _) b1 (by simp)
            obtain ⟨a0, a1, a2, a3, r0, r1, r2, r3, hlw⟩ := blk_facts4 hblk
            have HBLK := hidE hblk
            clear hblk
            rcases hcases with ⟨ho, rfl⟩ | ⟨t, k, hk, hkn, ho, rfl, hr⟩
            · have HO := hidE (HO.out.trans (by rw [ho]))
              have B1 := hidE b1
              clear b1 ho
              go_wp2_with fail
              try simp only [Exit.inBlock, Exit.then]
              refine bodyPost_ret (results_ct rfl _ _ w.heap.size 29 _ (0, 0) _ rfl ((blk_set4 _ _ _ _ HBLK.out).alloc _) Tryz.underlying29 rfl (by kernel_rfl)) rfl ?_
              exact rpost_none ts i w _ _ _ 0 ⟨#[]⟩ 0 none 0 0 ((below_set4 (below_pre B1.out (Nat.le_refl _)) _ _ _ _ (Nat.le_refl _)).alloc (by simp; omega) _) HO.out rfl
            · obtain ⟨q, hq⟩ : ∃ q, isAt ts k 6 [41] = q := ⟨_, rfl⟩
              have HO : Hid (O = (eat (isSign · [41]) (ts.drop k)).map fun r3 => (t, r3)) := hidE (HO.out.trans (by rw [ho]))
              have B1 := hidE b1
              have HQ := hidE hq
              have hIs : ∀ w, RdT w (.slice (some ⟨g, 0, none⟩) n c) ts → Calls Tryz.prog 84 #[.slice (some ⟨g, 0, none⟩) n c, .int .i64 k, .int .i64 6, .string ⟨#[41]⟩] w fun e w' => e = .returned (.bool q) ∧ w = w' := by
                intro w hv
                rw [← hq]
                exact ref2_is _ ts k 6 ⟨#[41]⟩ 6 rfl w hv
              clear hq
              have HR := hidE hr
              clear b1 ho hr
              cases q
              · go_wp2_with (go_at_call 84; refine (hIs _ (((HV.out.alloc _).below B1.out).alloc _)).mono ?_; rintro e w2 ⟨rfl, rfl⟩)
                try simp only [Exit.inBlock, Exit.then]
                refine bodyPost_ret (results_ct rfl _ _ w.heap.size 29 _ (0, 0) _ rfl ((blk_set4 _ _ _ _ HBLK.out).alloc _) Tryz.underlying29 rfl (by kernel_rfl)) rfl ?_
                exact rpost_none ts i w _ _ _ 0 ⟨#[]⟩ 0 none 0 0 ((below_set4 (below_pre B1.out (Nat.le_refl _)) _ _ _ _ (Nat.le_refl _)).alloc (by simp; omega) _) (HO.out.trans (by rw [eat_sign _ _ _ (by simp), HQ.out, if_neg (by simp)]; rfl)) rfl
              · have hkl := isAt_lt _ _ _ _ HQ.out
                have hk5 : k < 100000 := by rw [HN.out] at hkl; omega
                go_wp2_with (go_at_call 84; refine (hIs _ (((HV.out.alloc _).below B1.out).alloc _)).mono ?_; rintro e w2 ⟨rfl, rfl⟩)
                try simp only [Exit.inBlock, Exit.then]
                refine bodyPost_ret (results_ct rfl _ _ w.heap.size 29 _ (0, 0) _ rfl ((blk_set4 _ _ _ _ HBLK.out).alloc _) Tryz.underlying29 rfl (by kernel_rfl)) rfl ?_
                refine rpost_some ts i w _ _ _ K1 X1 Z1 A1 m1 c1 t (k + 1) ((below_set4 (below_pre B1.out (Nat.le_refl _)) _ _ _ _ (Nat.le_refl _)).alloc (by simp; omega) _) (by omega) (by omega) (HO.out.trans (by rw [eat_sign _ _ _ (by simp), HQ.out, if_pos rfl]; rfl)) rfl ?_
                exact HR.out.keep (fun g hg => by simp at hg ⊢; omega) (fun g hg => by
                  simp at hg
                  rw [Below.heap_alloc _ _ _ (by simp; omega), Below.heap_setCell _ _ _ _ (by simp; omega), Below.heap_setCell _ _ _ _ (by simp; omega), Below.heap_setCell _ _ _ _ (by simp; omega), Below.heap_setCell _ _ _ _ (by simp; omega)])
          · have dX : (X.toList == [40]) = false := by rw [Lib.toList_data, ← HX.out]; exact beq_eq_false_iff_ne.2 k40
            have HO := hidE (hO.trans (if_neg k40))
            clear hO k40
            go_enter Tryz.func108, Tryz.ntmps108
            go_wp2_with fail
            try simp only [Exit.inBlock, Exit.then]
            refine bodyPost_ret (results_ct rfl _ _ w.heap.size 29 _ (0, 0) _ rfl (heap_alloc_new _ _) Tryz.underlying29 rfl (by kernel_rfl)) rfl ?_
            exact rpost_none ts i w _ _ _ 0 ⟨#[]⟩ 0 none 0 0 ((Below.refl _ w).alloc (Nat.le_refl _) _) HO.out rfl
  · have HO : atom (f + 1) (ts.drop i) = none := by rw [List.drop_eq_nil_of_le (by omega), atom]
    obtain ⟨A, c, rfl, _⟩ := hv
    obtain ⟨n, hN⟩ : ∃ n, ts.length = n := ⟨_, rfl⟩
    rw [hN] at hlt hn hi ⊢
    rw [HO]
    clear hN IH HO hf hg
    go_enter Tryz.func108, Tryz.ntmps108
    go_wp2_with fail
    try simp only [Exit.inBlock, Exit.then]
    refine bodyPost_ret (results_ct rfl _ _ w.heap.size 29 _ (0, 0) _ rfl (heap_alloc_new _ _) Tryz.underlying29 rfl (by kernel_rfl)) rfl ?_
    exact rpost_none ts i w _ _ _ 0 ⟨#[]⟩ 0 none 0 0 ((Below.refl _ w).alloc (Nat.le_refl _) _) rfl rfl

end Go.Proofs.YtaomnlcplmkokaaGreatDoor

/-
  The walk over app of the document's answer for types.
-/
namespace Go.Proofs.YtaomnlcplmkokaaGreatDoor
open Go.RowKit Lx Tx
set_option maxRecDepth 100000

theorem ref2_info : (Tryz.prog.info? 29).map (fun i => (i.zero, i.size, i.bytes)) = some (some (.agg #[.int .i64 0, .string ⟨#[]⟩, .int .i64 0, .slice none 0 0]), 4, 56) := by kernel_rfl

/-- what holds at the head of each round of app -/
def HeadA (ts : List Tok) (f n i : Nat) (X : ByteArray) (w : World) (g : Nat) (vk : Value) (wr : World) : Prop :=
  ∃ k f' done v', g = n - k ∧ vk = .int .i64 k ∧ i < k ∧ k ≤ n ∧ 4 * (n - k) + 3 ≤ f' ∧ f' ≤ f ∧ Hid (args f (ts.drop (i + 1)) = (args f' (ts.drop k)).map fun y => (done ++ y.1, y.2)) ∧ done.length ≤ k ∧
    Built (fun _ => False) (w.heap.size + 2) 29 wr done v' ∧ Blk wr (w.heap.size + 1) 29 #[.int .i64 3, .string X, .int .i64 0, v'] ∧
    Blk wr w.heap.size 29 #[.int .i64 0, .string ⟨#[]⟩, .int .i64 0, .slice none 0 0] ∧ Below w.heap.size w wr

set_option maxHeartbeats 1600000 in
theorem ref2_app (f : Nat) (ts : List Tok) (v : Value) (w : World) (i : Nat) (hv : RdT w v ts) (hn : ts.length ≤ 100000) (hi : i ≤ ts.length) (hf : 4 * (ts.length - i) + 3 ≤ f + 1)
    (IH : ∀ f1, f1 ≤ f → ∀ (w : World) (i : Nat), RdT w v ts → i ≤ ts.length → 4 * (ts.length - i) + 2 ≤ f1 → Calls Tryz.prog 108 #[v, .int .i64 i] w (RPost ts i w (atom f1 (ts.drop i)))) :
    Calls Tryz.prog 85 #[v, .int .i64 i] w (RPost ts i w (app (f + 1) (ts.drop i))) := by
  obtain ⟨q, hq⟩ : ∃ q, isAt ts i 2 [] = q := ⟨_, rfl⟩
  have HQ := hidE hq
  have hIs : ∀ w, RdT w v ts → Calls Tryz.prog 84 #[v, .int .i64 i, .int .i64 2, .string ⟨#[]⟩] w fun e w' => e = .returned (.bool q) ∧ w = w' := by
    intro w hv
    rw [← hq]
    exact ref2_is _ ts i 2 ⟨#[]⟩ 2 rfl w hv
  clear hq
  have HV := hidE hv
  have HIH := hidE IH
  clear IH
  cases q
  · have HO : Hid (app (f + 1) (ts.drop i) = atom f (ts.drop i)) := by
      refine hidE ?_
      by_cases hlt : i < ts.length
      · have h2 := HQ.out
        rw [isAt_at ts i 2 [] hlt] at h2
        simp at h2
        rw [drop_tok ts i hlt, app]
        simp only [if_neg h2]
      · rw [List.drop_eq_nil_of_le (by omega), app]
        obtain ⟨f', rfl⟩ : ∃ f', f = f' + 1 := ⟨f - 1, by omega⟩
        rw [atom]
    rw [HO.out]
    clear HO hv
    go_enter Tryz.func85, Tryz.ntmps85
    go_wp2_with (go_at_call 84; refine (hIs _ (HV.out.alloc _)).mono ?_; rintro e w2 ⟨rfl, rfl⟩)
    go_at_call 108
    refine (HIH.out f (Nat.le_refl _) _ i (HV.out.alloc _) hi (by omega)).mono ?_
    rintro e w1 ⟨b1, K1, X1, Z1, A1, m1, c1, hcases⟩
    have hblk : Blk w1 w.heap.size 29 #[.int .i64 0, .string ⟨#[]⟩, .int .i64 0, .slice none 0 0] := Blk.below (heap_alloc_new _ _) b1 (by simp)
    obtain ⟨a0, a1, a2, a3, r0, r1, r2, r3, hlw⟩ := blk_facts4 hblk
    have HBLK := hidE hblk
    have B1 := hidE b1
    clear hblk b1
    rcases hcases with ⟨ho, rfl⟩ | ⟨t, k, hk, hkn, ho, rfl, hr⟩
    · have HO := hidE ho
      clear ho
      go_wp2_with fail
      try simp only [Exit.inBlock, Exit.then]
      refine bodyPost_ret (results_ct rfl _ _ w.heap.size 29 _ (0, 0) _ rfl (blk_set4 _ _ _ _ HBLK.out) Tryz.underlying29 rfl (by kernel_rfl)) rfl ?_
      exact rpost_none ts i w _ _ _ K1 X1 Z1 A1 m1 c1 (below_set4 (below_pre B1.out (Nat.le_refl _)) _ _ _ _ (Nat.le_refl _)) HO.out rfl
    · have HO := hidE ho
      have HR := hidE hr
      clear ho hr
      go_wp2_with fail
      try simp only [Exit.inBlock, Exit.then]
      refine bodyPost_ret (results_ct rfl _ _ w.heap.size 29 _ (0, 0) _ rfl (blk_set4 _ _ _ _ HBLK.out) Tryz.underlying29 rfl (by kernel_rfl)) rfl ?_
      refine rpost_some ts i w _ _ _ K1 X1 Z1 A1 m1 c1 t k (below_set4 (below_pre B1.out (Nat.le_refl _)) _ _ _ _ (Nat.le_refl _)) hk hkn HO.out rfl ?_
      exact HR.out.keep (fun g hg => by simp at hg ⊢; omega) (fun g hg => heap_set4 _ _ _ _ _ _ _ (by simp at hg; omega))
  · have hlt := isAt_lt _ _ _ _ HQ.out
    have hk2 := HQ.out
    rw [isAt_at ts i 2 [] hlt] at hk2
    simp at hk2
    obtain ⟨g, c, rfl, h0, h1, _⟩ := hv.at_ i hlt
    have hgl := hv.lt (by omega)
    obtain ⟨X, hX⟩ : ∃ X : ByteArray, ⟨ts[i].text.toArray⟩ = X := ⟨_, rfl⟩
    obtain ⟨n, hN⟩ : ∃ n, ts.length = n := ⟨_, rfl⟩
    have HO : Hid (app (f + 1) (ts.drop i) = (args f (ts.drop (i + 1))).map fun x => (.con X.data.toList x.1, x.2)) := by
      refine hidE ?_
      rw [drop_tok ts i hlt, app, ← hX]
      simp only [if_pos hk2]
    have HN := hidE hN
    rw [hX] at h1
    rw [HO.out]
    clear hX h0 hv HQ hk2
    have hlt' : i < n := by omega
    obtain ⟨i0, hi0, hz0, hz1, hz2⟩ := info_parts ref2_info
    rw [hN] at hn hi hf HIH HV hIs ⊢
    clear hN HO
    go_enter Tryz.func85, Tryz.ntmps85
    go_wp2_with (go_at_call 84; refine (hIs _ (HV.out.alloc _)).mono ?_; rintro e w2 ⟨rfl, rfl⟩)
    go_loopg [8] (n - (i + 1)) (fun gg vk wr => HeadA ts f n i X w gg vk wr)
    case atStart =>
      refine ⟨i + 1, f, [], .slice none 0 0, rfl, by go_num, by omega, by omega, by omega, Nat.le_refl _, hidE (by simp), by simp, Built.nil _ _ _ _, ?_, ?_, ((Below.refl _ w).alloc (Nat.le_refl _) _).alloc (by simp) _⟩
      · exact heap_alloc2_new _ _ _
      · exact heap_alloc2_old _ _ _
    case round =>
      obtain ⟨k, f', done, v', rfl, rfl, hik, hkn, hf1, hf2, hargs, hdl, hbuilt, hb1, hb0, hbel⟩ := hrel
      obtain ⟨f1, rfl⟩ : ∃ f1, f' = f1 + 1 := ⟨f' - 1, by omega⟩
      obtain ⟨vs, hown, hrow⟩ := hbuilt
      obtain ⟨A0, c0, rfl⟩ := own_shape hown
      have hvt := HV.out.below hbel
      have HVT := hidE hvt
      have HOWN := hidE hown
      have HROW := hidE hrow
      have HB1 := hidE hb1
      have HB0 := hidE hb0
      have HBEL := hidE hbel
      have hown2 := hown.lt
      have HLT := hidE hown2
      obtain ⟨a0, a1, a2, a3, r0, r1, r2, r3, hlw⟩ := blk_facts4 hb0
      obtain ⟨p0, p1, p2, p3, s0, s1, s2, s3, hlx⟩ := blk_facts4 hb1
      by_cases hkl : k < n
      · have hkt : k < ts.length := by rw [HN.out]; exact hkl
        obtain ⟨e0, e1⟩ := hvt.cells k hkt
        obtain ⟨Y, hY⟩ : ∃ Y : ByteArray, ⟨ts[k].text.toArray⟩ = Y := ⟨_, rfl⟩
        rw [hY] at e1
        by_cases hat : atomic ts[k] = true
        · have hw := atomic_ways _ Y hY hat
          have HAT := hidE hat
          obtain ⟨m, hm⟩ : ∃ m, ts[k].kind = m := ⟨_, rfl⟩
          rw [hm] at e0 hw
          have hglw : g < wr.heap.size := by have := hbel.size; omega
          clear hY hat hm hvt hown hrow hb1 hb0 hbel hown2
          rcases hw with d1 | ⟨d1, d5⟩ | ⟨d1, d5, d2⟩ | ⟨d1, d5, d2, dX⟩
          · go_wp2_with fail
            refine (HIH.out f1 (by omega) wr k HVT.out (by omega) (by omega)).mono ?_
            rintro e w1 ⟨b1, K1, X1, Z1, A1, m1, c1, hcases⟩
            have hb0 := HB0.out.below b1 hlw
            have hb1 := HB1.out.below b1 hlx
            obtain ⟨a0, a1, a2, a3, r0, r1, r2, r3, hlw1⟩ := blk_facts4 hb0
            obtain ⟨p0, p1, p2, p3, s0, s1, s2, s3, hlx1⟩ := blk_facts4 hb1
            have HC0 := hidE hb0
            have HC1 := hidE hb1
            have BB1 := hidE b1
            clear b1 hb0 hb1
            rcases hcases with ⟨ho, rfl⟩ | ⟨t, k2, hk, hk2n, ho, rfl, hr⟩
            · have HO : Hid (args f (ts.drop (i + 1)) = none) := hidE (hargs.out.trans (by rw [args_none f1 ts k hkt HAT.out ho]; rfl))
              clear ho
              go_wp2_with fail
              try simp only [Exit.inBlock, Exit.then]
              refine bodyPost_ret (results_ct rfl _ _ w.heap.size 29 _ (0, 0) _ rfl ((blk_set4 _ _ _ _ HC0.out).alloc _) Tryz.underlying29 rfl (by kernel_rfl)) rfl ?_
              exact rpost_none ts i w _ _ _ 0 ⟨#[]⟩ 0 none 0 0 ((below_set4 (bnext HBEL.out BB1.out (Nat.le_refl _)) _ _ _ _ (Nat.le_refl _)).alloc (by simp; omega) _) (by rw [HO.out]; rfl) rfl
            · have HO := hidE (app_step (hargs.out.trans (by rw [args_some f1 ts k hkt HAT.out t _ ho])))
              have HR := hidE hr
              have hown2 := hidE (((own_below HOWN.out BB1.out).alloc (.cells #[.int .i64 K1, .string X1, .int .i64 Z1, .slice A1 m1 c1] 29)).alloc (.cells #[.int .i64 K1, .string X1, .int .i64 Z1, .slice A1 m1 c1] 29))
              clear ho hr
              go_wp2_with (at_builtin; refine wpList_append_own_at _ rfl (.tmp 75) (.tmp 77) 27 rfl (w.heap.size + 2) 29 i0 _ 4 56 Tryz.underlying27 hi0 hz0 hz1 hz2 rfl (by decide) _ done.length vs rfl hown2.out ⟨w1.heap.size + 1, 0, none⟩ 1 1 [.int .i64 K1, .string X1, .int .i64 Z1, .slice A1 m1 c1] rfl rfl (new_cells' _ _ _ _ (by simp)) (by intro u hu; simp at hu; rcases hu with rfl | rfl | rfl | rfl <;> rfl) (by unfold maxLen; omega) (by omega) (by have := BB1.out.size; have := HBEL.out.size; simp; omega) ?_; intro v2 w3 hown3 hgrow _ hat3; obtain ⟨A2, c2, rfl⟩ := own_shape hown3; have HO3 := hidE hown3; have HG3 := hidE hgrow; have HT3 := hidE hat3; clear hown3 hgrow hat3; have hc1 := ((HC1.out.alloc _).alloc _).grown HG3.out (fun e => by have := HLT.out _ e.symm; omega); have hc0 := ((HC0.out.alloc _).alloc _).grown HG3.out (fun e => by have := HLT.out _ e.symm; omega); obtain ⟨y0, y1, y2, y3, z0, z1, z2, z3, hly⟩ := blk_facts4 hc1; have HD1 := hidE hc1; have HD0 := hidE hc0; clear hc1 hc0)
              go_roundg (n - k2)
              case measure => omega
              case rel =>
                have hb := Built.next (w := wr) (w1 := w1) (fun _ h => h.elim) (by omega) HOWN.out HROW.out BB1.out (HR.out.keep (fun _ h => .inr h) (fun _ _ => rfl)) (((Below.refl _ w1).alloc (Nat.le_refl _) _).alloc (by simp) _) HO3.out HG3.out HT3.out
                have hsz := HBEL.out.size
                have hsz1 := BB1.out.size
                refine ⟨k2, f1, done ++ [t], _, rfl, rfl, by omega, by rw [HN.out] at hk2n; exact hk2n, by omega, by omega, HO, by simp; omega, hb.setCell _ (by simp) (fun h => h), heap_setCell_same _ _ 3 _ _ _ HD1.out, HD0.out.far (by simp) _, ?_⟩
                exact (((bnext HBEL.out BB1.out (Nat.le_refl _)).alloc (by omega) _).alloc (by simp; omega) _ |>.grown HG3.out (by simp; omega) (fun j hj => by have := HLT.out _ hj; omega)).setCell (by simp) _
          · go_wp2_with fail
            refine (HIH.out f1 (by omega) wr k HVT.out (by omega) (by omega)).mono ?_
            rintro e w1 ⟨b1, K1, X1, Z1, A1, m1, c1, hcases⟩
            have hb0 := HB0.out.below b1 hlw
            have hb1 := HB1.out.below b1 hlx
            obtain ⟨a0, a1, a2, a3, r0, r1, r2, r3, hlw1⟩ := blk_facts4 hb0
            obtain ⟨p0, p1, p2, p3, s0, s1, s2, s3, hlx1⟩ := blk_facts4 hb1
            have HC0 := hidE hb0
            have HC1 := hidE hb1
            have BB1 := hidE b1
            clear b1 hb0 hb1
            rcases hcases with ⟨ho, rfl⟩ | ⟨t, k2, hk, hk2n, ho, rfl, hr⟩
            · have HO : Hid (args f (ts.drop (i + 1)) = none) := hidE (hargs.out.trans (by rw [args_none f1 ts k hkt HAT.out ho]; rfl))
              clear ho
              go_wp2_with fail
              try simp only [Exit.inBlock, Exit.then]
              refine bodyPost_ret (results_ct rfl _ _ w.heap.size 29 _ (0, 0) _ rfl ((blk_set4 _ _ _ _ HC0.out).alloc _) Tryz.underlying29 rfl (by kernel_rfl)) rfl ?_
              exact rpost_none ts i w _ _ _ 0 ⟨#[]⟩ 0 none 0 0 ((below_set4 (bnext HBEL.out BB1.out (Nat.le_refl _)) _ _ _ _ (Nat.le_refl _)).alloc (by simp; omega) _) (by rw [HO.out]; rfl) rfl
            · have HO := hidE (app_step (hargs.out.trans (by rw [args_some f1 ts k hkt HAT.out t _ ho])))
              have HR := hidE hr
              have hown2 := hidE (((own_below HOWN.out BB1.out).alloc (.cells #[.int .i64 K1, .string X1, .int .i64 Z1, .slice A1 m1 c1] 29)).alloc (.cells #[.int .i64 K1, .string X1, .int .i64 Z1, .slice A1 m1 c1] 29))
              clear ho hr
              go_wp2_with (at_builtin; refine wpList_append_own_at _ rfl (.tmp 75) (.tmp 77) 27 rfl (w.heap.size + 2) 29 i0 _ 4 56 Tryz.underlying27 hi0 hz0 hz1 hz2 rfl (by decide) _ done.length vs rfl hown2.out ⟨w1.heap.size + 1, 0, none⟩ 1 1 [.int .i64 K1, .string X1, .int .i64 Z1, .slice A1 m1 c1] rfl rfl (new_cells' _ _ _ _ (by simp)) (by intro u hu; simp at hu; rcases hu with rfl | rfl | rfl | rfl <;> rfl) (by unfold maxLen; omega) (by omega) (by have := BB1.out.size; have := HBEL.out.size; simp; omega) ?_; intro v2 w3 hown3 hgrow _ hat3; obtain ⟨A2, c2, rfl⟩ := own_shape hown3; have HO3 := hidE hown3; have HG3 := hidE hgrow; have HT3 := hidE hat3; clear hown3 hgrow hat3; have hc1 := ((HC1.out.alloc _).alloc _).grown HG3.out (fun e => by have := HLT.out _ e.symm; omega); have hc0 := ((HC0.out.alloc _).alloc _).grown HG3.out (fun e => by have := HLT.out _ e.symm; omega); obtain ⟨y0, y1, y2, y3, z0, z1, z2, z3, hly⟩ := blk_facts4 hc1; have HD1 := hidE hc1; have HD0 := hidE hc0; clear hc1 hc0)
              go_roundg (n - k2)
              case measure => omega
              case rel =>
                have hb := Built.next (w := wr) (w1 := w1) (fun _ h => h.elim) (by omega) HOWN.out HROW.out BB1.out (HR.out.keep (fun _ h => .inr h) (fun _ _ => rfl)) (((Below.refl _ w1).alloc (Nat.le_refl _) _).alloc (by simp) _) HO3.out HG3.out HT3.out
                have hsz := HBEL.out.size
                have hsz1 := BB1.out.size
                refine ⟨k2, f1, done ++ [t], _, rfl, rfl, by omega, by rw [HN.out] at hk2n; exact hk2n, by omega, by omega, HO, by simp; omega, hb.setCell _ (by simp) (fun h => h), heap_setCell_same _ _ 3 _ _ _ HD1.out, HD0.out.far (by simp) _, ?_⟩
                exact (((bnext HBEL.out BB1.out (Nat.le_refl _)).alloc (by omega) _).alloc (by simp; omega) _ |>.grown HG3.out (by simp; omega) (fun j hj => by have := HLT.out _ hj; omega)).setCell (by simp) _
          · go_wp2_with fail
            refine (HIH.out f1 (by omega) wr k HVT.out (by omega) (by omega)).mono ?_
            rintro e w1 ⟨b1, K1, X1, Z1, A1, m1, c1, hcases⟩
            have hb0 := HB0.out.below b1 hlw
            have hb1 := HB1.out.below b1 hlx
            obtain ⟨a0, a1, a2, a3, r0, r1, r2, r3, hlw1⟩ := blk_facts4 hb0
            obtain ⟨p0, p1, p2, p3, s0, s1, s2, s3, hlx1⟩ := blk_facts4 hb1
            have HC0 := hidE hb0
            have HC1 := hidE hb1
            have BB1 := hidE b1
            clear b1 hb0 hb1
            rcases hcases with ⟨ho, rfl⟩ | ⟨t, k2, hk, hk2n, ho, rfl, hr⟩
            · have HO : Hid (args f (ts.drop (i + 1)) = none) := hidE (hargs.out.trans (by rw [args_none f1 ts k hkt HAT.out ho]; rfl))
              clear ho
              go_wp2_with fail
              try simp only [Exit.inBlock, Exit.then]
              refine bodyPost_ret (results_ct rfl _ _ w.heap.size 29 _ (0, 0) _ rfl ((blk_set4 _ _ _ _ HC0.out).alloc _) Tryz.underlying29 rfl (by kernel_rfl)) rfl ?_
              exact rpost_none ts i w _ _ _ 0 ⟨#[]⟩ 0 none 0 0 ((below_set4 (bnext HBEL.out BB1.out (Nat.le_refl _)) _ _ _ _ (Nat.le_refl _)).alloc (by simp; omega) _) (by rw [HO.out]; rfl) rfl
            · have HO := hidE (app_step (hargs.out.trans (by rw [args_some f1 ts k hkt HAT.out t _ ho])))
              have HR := hidE hr
              have hown2 := hidE (((own_below HOWN.out BB1.out).alloc (.cells #[.int .i64 K1, .string X1, .int .i64 Z1, .slice A1 m1 c1] 29)).alloc (.cells #[.int .i64 K1, .string X1, .int .i64 Z1, .slice A1 m1 c1] 29))
              clear ho hr
              go_wp2_with (at_builtin; refine wpList_append_own_at _ rfl (.tmp 75) (.tmp 77) 27 rfl (w.heap.size + 2) 29 i0 _ 4 56 Tryz.underlying27 hi0 hz0 hz1 hz2 rfl (by decide) _ done.length vs rfl hown2.out ⟨w1.heap.size + 1, 0, none⟩ 1 1 [.int .i64 K1, .string X1, .int .i64 Z1, .slice A1 m1 c1] rfl rfl (new_cells' _ _ _ _ (by simp)) (by intro u hu; simp at hu; rcases hu with rfl | rfl | rfl | rfl <;> rfl) (by unfold maxLen; omega) (by omega) (by have := BB1.out.size; have := HBEL.out.size; simp; omega) ?_; intro v2 w3 hown3 hgrow _ hat3; obtain ⟨A2, c2, rfl⟩ := own_shape hown3; have HO3 := hidE hown3; have HG3 := hidE hgrow; have HT3 := hidE hat3; clear hown3 hgrow hat3; have hc1 := ((HC1.out.alloc _).alloc _).grown HG3.out (fun e => by have := HLT.out _ e.symm; omega); have hc0 := ((HC0.out.alloc _).alloc _).grown HG3.out (fun e => by have := HLT.out _ e.symm; omega); obtain ⟨y0, y1, y2, y3, z0, z1, z2, z3, hly⟩ := blk_facts4 hc1; have HD1 := hidE hc1; have HD0 := hidE hc0; clear hc1 hc0)
              go_roundg (n - k2)
              case measure => omega
              case rel =>
                have hb := Built.next (w := wr) (w1 := w1) (fun _ h => h.elim) (by omega) HOWN.out HROW.out BB1.out (HR.out.keep (fun _ h => .inr h) (fun _ _ => rfl)) (((Below.refl _ w1).alloc (Nat.le_refl _) _).alloc (by simp) _) HO3.out HG3.out HT3.out
                have hsz := HBEL.out.size
                have hsz1 := BB1.out.size
                refine ⟨k2, f1, done ++ [t], _, rfl, rfl, by omega, by rw [HN.out] at hk2n; exact hk2n, by omega, by omega, HO, by simp; omega, hb.setCell _ (by simp) (fun h => h), heap_setCell_same _ _ 3 _ _ _ HD1.out, HD0.out.far (by simp) _, ?_⟩
                exact (((bnext HBEL.out BB1.out (Nat.le_refl _)).alloc (by omega) _).alloc (by simp; omega) _ |>.grown HG3.out (by simp; omega) (fun j hj => by have := HLT.out _ hj; omega)).setCell (by simp) _
          · go_wp2_with fail
            refine (HIH.out f1 (by omega) wr k HVT.out (by omega) (by omega)).mono ?_
            rintro e w1 ⟨b1, K1, X1, Z1, A1, m1, c1, hcases⟩
            have hb0 := HB0.out.below b1 hlw
            have hb1 := HB1.out.below b1 hlx
            obtain ⟨a0, a1, a2, a3, r0, r1, r2, r3, hlw1⟩ := blk_facts4 hb0
            obtain ⟨p0, p1, p2, p3, s0, s1, s2, s3, hlx1⟩ := blk_facts4 hb1
            have HC0 := hidE hb0
            have HC1 := hidE hb1
            have BB1 := hidE b1
            clear b1 hb0 hb1
            rcases hcases with ⟨ho, rfl⟩ | ⟨t, k2, hk, hk2n, ho, rfl, hr⟩
            · have HO : Hid (args f (ts.drop (i + 1)) = none) := hidE (hargs.out.trans (by rw [args_none f1 ts k hkt HAT.out ho]; rfl))
              clear ho
              go_wp2_with fail
              try simp only [Exit.inBlock, Exit.then]
              refine bodyPost_ret (results_ct rfl _ _ w.heap.size 29 _ (0, 0) _ rfl ((blk_set4 _ _ _ _ HC0.out).alloc _) Tryz.underlying29 rfl (by kernel_rfl)) rfl ?_
              exact rpost_none ts i w _ _ _ 0 ⟨#[]⟩ 0 none 0 0 ((below_set4 (bnext HBEL.out BB1.out (Nat.le_refl _)) _ _ _ _ (Nat.le_refl _)).alloc (by simp; omega) _) (by rw [HO.out]; rfl) rfl
            · have HO := hidE (app_step (hargs.out.trans (by rw [args_some f1 ts k hkt HAT.out t _ ho])))
              have HR := hidE hr
              have hown2 := hidE (((own_below HOWN.out BB1.out).alloc (.cells #[.int .i64 K1, .string X1, .int .i64 Z1, .slice A1 m1 c1] 29)).alloc (.cells #[.int .i64 K1, .string X1, .int .i64 Z1, .slice A1 m1 c1] 29))
              clear ho hr
              go_wp2_with (at_builtin; refine wpList_append_own_at _ rfl (.tmp 75) (.tmp 77) 27 rfl (w.heap.size + 2) 29 i0 _ 4 56 Tryz.underlying27 hi0 hz0 hz1 hz2 rfl (by decide) _ done.length vs rfl hown2.out ⟨w1.heap.size + 1, 0, none⟩ 1 1 [.int .i64 K1, .string X1, .int .i64 Z1, .slice A1 m1 c1] rfl rfl (new_cells' _ _ _ _ (by simp)) (by intro u hu; simp at hu; rcases hu with rfl | rfl | rfl | rfl <;> rfl) (by unfold maxLen; omega) (by omega) (by have := BB1.out.size; have := HBEL.out.size; simp; omega) ?_; intro v2 w3 hown3 hgrow _ hat3; obtain ⟨A2, c2, rfl⟩ := own_shape hown3; have HO3 := hidE hown3; have HG3 := hidE hgrow; have HT3 := hidE hat3; clear hown3 hgrow hat3; have hc1 := ((HC1.out.alloc _).alloc _).grown HG3.out (fun e => by have := HLT.out _ e.symm; omega); have hc0 := ((HC0.out.alloc _).alloc _).grown HG3.out (fun e => by have := HLT.out _ e.symm; omega); obtain ⟨y0, y1, y2, y3, z0, z1, z2, z3, hly⟩ := blk_facts4 hc1; have HD1 := hidE hc1; have HD0 := hidE hc0; clear hc1 hc0)
              go_roundg (n - k2)
              case measure => omega
              case rel =>
                have hb := Built.next (w := wr) (w1 := w1) (fun _ h => h.elim) (by omega) HOWN.out HROW.out BB1.out (HR.out.keep (fun _ h => .inr h) (fun _ _ => rfl)) (((Below.refl _ w1).alloc (Nat.le_refl _) _).alloc (by simp) _) HO3.out HG3.out HT3.out
                have hsz := HBEL.out.size
                have hsz1 := BB1.out.size
                refine ⟨k2, f1, done ++ [t], _, rfl, rfl, by omega, by rw [HN.out] at hk2n; exact hk2n, by omega, by omega, HO, by simp; omega, hb.setCell _ (by simp) (fun h => h), heap_setCell_same _ _ 3 _ _ _ HD1.out, HD0.out.far (by simp) _, ?_⟩
                exact (((bnext HBEL.out BB1.out (Nat.le_refl _)).alloc (by omega) _).alloc (by simp; omega) _ |>.grown HG3.out (by simp; omega) (fun j hj => by have := HLT.out _ hj; omega)).setCell (by simp) _
        · have hat : atomic ts[k] = false := by simpa using hat
          have HO : Hid (args f (ts.drop (i + 1)) = some (done, ts.drop k)) := hidE (hargs.out.trans (by rw [args_stop f1 ts k (fun _ => hat)]; simp))
          have HARG := hidE (Built.args (t := .con X.data.toList done) (show Built _ _ _ wr (kids (.con X.data.toList done)) _ from ⟨vs, hown, hrow⟩)).2
          obtain ⟨d1, d5, d2, dX⟩ := atomic_not _ Y hY hat
          obtain ⟨m, hm⟩ : ∃ m, ts[k].kind = m := ⟨_, rfl⟩
          rw [hm] at e0 d1 d2 d5
          have hglw : g < wr.heap.size := by have := hbel.size; omega
          clear hY hat hm hvt hown hrow hb1 hb0 hbel hown2
          go_wp2_with fail
          try simp only [Exit.inBlock, Exit.then]
          refine bodyPost_ret (results_ct rfl _ _ w.heap.size 29 _ (0, 0) _ rfl (blk_set4 _ _ _ _ HB0.out) Tryz.underlying29 rfl (by kernel_rfl)) rfl ?_
          refine rpost_some ts i w _ _ _ 3 X 0 A0 done.length c0 (.con X.data.toList done) k (below_set4 HBEL.out _ _ _ _ (Nat.le_refl _)) hik (by rw [HN.out]; exact hkn) (by rw [HO.out]; rfl) rfl ?_
          refine ⟨A0, c0, by rw [nmB, Lib.mk_data]; rfl, Args.keep (fun g hg => ?_) (fun g hg => heap_set4 _ _ _ _ _ _ _ ?_) _ _ HARG.out⟩
          · rcases hg with hg | hg
            · exact hg.elim
            · simp; omega
          · rcases hg with hg | hg
            · exact hg.elim
            · omega
      · have HO : Hid (args f (ts.drop (i + 1)) = some (done, ts.drop k)) := hidE (hargs.out.trans (by rw [args_stop f1 ts k (fun h => absurd h (by rw [HN.out]; omega))]; simp))
        have HARG := hidE (Built.args (t := .con X.data.toList done) (show Built _ _ _ wr (kids (.con X.data.toList done)) _ from ⟨vs, hown, hrow⟩)).2
        clear hvt hown hrow hb1 hb0 hbel hown2
        go_wp2_with fail
        try simp only [Exit.inBlock, Exit.then]
        refine bodyPost_ret (results_ct rfl _ _ w.heap.size 29 _ (0, 0) _ rfl (blk_set4 _ _ _ _ HB0.out) Tryz.underlying29 rfl (by kernel_rfl)) rfl ?_
        refine rpost_some ts i w _ _ _ 3 X 0 A0 done.length c0 (.con X.data.toList done) k (below_set4 HBEL.out _ _ _ _ (Nat.le_refl _)) hik (by rw [HN.out]; exact hkn) (by rw [HO.out]; rfl) rfl ?_
        refine ⟨A0, c0, by rw [nmB, Lib.mk_data]; rfl, Args.keep (fun g hg => ?_) (fun g hg => heap_set4 _ _ _ _ _ _ _ ?_) _ _ HARG.out⟩
        · rcases hg with hg | hg
          · exact hg.elim
          · simp; omega
        · rcases hg with hg | hg
          · exact hg.elim
          · omega

end Go.Proofs.YtaomnlcplmkokaaGreatDoor

/-
  The walk over Read of the document's answer for types, where no for all begins.
-/
namespace Go.Proofs.YtaomnlcplmkokaaGreatDoor
open Go.RowKit Lx Tx
set_option maxRecDepth 100000

set_option maxHeartbeats 1600000 in
theorem ref2_read_app (f : Nat) (ts : List Tok) (v : Value) (w : World) (i : Nat) (hv : RdT w v ts) (hn : ts.length ≤ 100000) (hi : i ≤ ts.length) (hf : 4 * (ts.length - i) + 4 ≤ f + 1) (hq : isAt ts i 3 wForall = false)
    (IHA : ∀ (w : World) (i : Nat), RdT w v ts → i ≤ ts.length → 4 * (ts.length - i) + 3 ≤ f → Calls Tryz.prog 85 #[v, .int .i64 i] w (RPost ts i w (app f (ts.drop i))))
    (IHR : ∀ (w : World) (i : Nat), RdT w v ts → i ≤ ts.length → 4 * (ts.length - i) + 4 ≤ f → Calls Tryz.prog 58 #[v, .int .i64 i] w (RPost ts i w (read f (ts.drop i)))) :
    Calls Tryz.prog 58 #[v, .int .i64 i] w (RPost ts i w (read (f + 1) (ts.drop i))) := by
  have hIs : ∀ w, RdT w v ts → Calls Tryz.prog 84 #[v, .int .i64 i, .int .i64 3, .string ⟨#[102, 111, 114, 97, 108, 108]⟩] w fun e w' => e = .returned (.bool false) ∧ w = w' := by
    intro w hv
    rw [← hq]
    exact ref2_is _ ts i 3 ⟨#[102, 111, 114, 97, 108, 108]⟩ 3 rfl w hv
  have HO := hidE (read_arrow f ts i hq)
  obtain ⟨O, hO⟩ : ∃ O, read (f + 1) (ts.drop i) = O := ⟨_, rfl⟩
  rw [hO]
  rw [hO] at HO
  have HV := hidE hv
  have HA := hidE IHA
  have HR := hidE IHR
  clear hq hO hv IHA IHR
  go_enter Tryz.func58, Tryz.ntmps58
  go_wp2_with (go_at_call 84; refine (hIs _ (HV.out.alloc _)).mono ?_; rintro e w2 ⟨rfl, rfl⟩)
  go_at_call 85
  refine (HA.out _ i (HV.out.alloc _) hi (by omega)).mono ?_
  rintro e w1 ⟨b1, K1, X1, Z1, A1, m1, c1, hcases⟩
  have hblk : Blk w1 w.heap.size 29 #[.int .i64 0, .string ⟨#[]⟩, .int .i64 0, .slice none 0 0] := Blk.below (heap_alloc_new _ _) b1 (by simp)
  have HBLK := hidE hblk
  have B1 := hidE b1
  obtain ⟨a0, a1, a2, a3, r0, r1, r2, r3, hlw⟩ := blk_facts4 hblk
  clear hblk b1
  rcases hcases with ⟨ho, rfl⟩ | ⟨t, k, hk, hkn, ho, rfl, hr⟩
  · have HO : Hid (O = none) := hidE (HO.out.trans (by rw [ho]))
    clear ho
    go_wp2_with fail
    try simp only [Exit.inBlock, Exit.then]
    refine bodyPost_ret (results_ct rfl _ _ w.heap.size 29 _ (0, 0) _ rfl ((blk_set4 _ _ _ _ HBLK.out).alloc _) Tryz.underlying29 rfl (by kernel_rfl)) rfl ?_
    exact rpost_none ts i w _ _ _ 0 ⟨#[]⟩ 0 none 0 0 ((below_set4 (below_pre B1.out (Nat.le_refl _)) _ _ _ _ (Nat.le_refl _)).alloc (by simp; omega) _) HO.out rfl
  · obtain ⟨q, hq⟩ : ∃ q, isAt ts k 6 [45, 62] = q := ⟨_, rfl⟩
    have HQ := hidE hq
    have hIs2 : ∀ w, RdT w v ts → Calls Tryz.prog 84 #[v, .int .i64 k, .int .i64 6, .string ⟨#[45, 62]⟩] w fun e w' => e = .returned (.bool q) ∧ w = w' := by
      intro w hv
      rw [← hq]
      exact ref2_is _ ts k 6 ⟨#[45, 62]⟩ 6 rfl w hv
    clear hq
    have HO : Hid (O = match eat (isSign · [45, 62]) (ts.drop k) with | none => some (t, ts.drop k) | some r2 => (read f r2).map fun x => (.fn t x.1, x.2)) := hidE (HO.out.trans (by rw [ho]; rfl))
    have HT := hidE hr
    clear ho hr
    cases q
    · have HO : Hid (O = some (t, ts.drop k)) := hidE (HO.out.trans (by rw [eat_sign _ _ _ (by simp), HQ.out, if_neg (by simp)]))
      go_wp2_with (go_at_call 84; refine (hIs2 _ (((HV.out.alloc _).below B1.out).alloc _)).mono ?_; rintro e w2 ⟨rfl, rfl⟩)
      try simp only [Exit.inBlock, Exit.then]
      refine bodyPost_ret (results_ct rfl _ _ w.heap.size 29 _ (0, 0) _ rfl ((blk_set4 _ _ _ _ HBLK.out).alloc _) Tryz.underlying29 rfl (by kernel_rfl)) rfl ?_
      refine rpost_some ts i w _ _ _ K1 X1 Z1 A1 m1 c1 t k ((below_set4 (below_pre B1.out (Nat.le_refl _)) _ _ _ _ (Nat.le_refl _)).alloc (by simp; omega) _) hk hkn HO.out rfl ?_
      exact HT.out.keep (fun g hg => by simp at hg ⊢; omega) (fun g hg => by simp at hg; rw [Below.heap_alloc _ _ _ (by simp; omega)]; exact heap_set4 _ _ _ _ _ _ _ (by omega))
    · have hkl := isAt_lt _ _ _ _ HQ.out
      have HO : Hid (O = (read f (ts.drop (k + 1))).map fun x => (.fn t x.1, x.2)) := hidE (HO.out.trans (by rw [eat_sign _ _ _ (by simp), HQ.out, if_pos rfl]))
      go_wp2_with (go_at_call 84; refine (hIs2 _ (((HV.out.alloc _).below B1.out).alloc _)).mono ?_; rintro e w2 ⟨rfl, rfl⟩)
      have hV1 := hidE ((((HV.out.alloc (.cells #[.int .i64 0, .string ⟨#[]⟩, .int .i64 0, .slice none 0 0] 29)).below B1.out).alloc (.cells #[.int .i64 K1, .string X1, .int .i64 Z1, .slice A1 m1 c1] 29)))
      refine (HR.out _ (k + 1) hV1.out (by omega) (by omega)).mono ?_
      rintro e w3 ⟨b3, K2, X2, Z2, A2, m2, c2, hcases⟩
      have hb12 : Blk w3 w1.heap.size 29 #[.int .i64 K1, .string X1, .int .i64 Z1, .slice A1 m1 c1] := Blk.below (heap_alloc_new _ _) b3 (by simp)
      have hb0 : Blk w3 w.heap.size 29 #[.int .i64 0, .string ⟨#[]⟩, .int .i64 0, .slice none 0 0] := Blk.below (HBLK.out.alloc _) b3 (by simp; omega)
      obtain ⟨a0, a1, a2, a3, r0, r1, r2, r3, hlw3⟩ := blk_facts4 hb0
      obtain ⟨p0, p1, p2, p3, s0, s1, s2, s3, hlx3⟩ := blk_facts4 hb12
      have HB0 := hidE hb0
      have B3 := hidE b3
      have B13 := hidE (below_pre b3 (Nat.le_refl _))
      have hbel := hidE (bnext (below_pre B1.out (Nat.le_refl _)) B13.out (Nat.le_refl _))
      clear hb12 hb0 b3
      rcases hcases with ⟨ho, rfl⟩ | ⟨u, k2, hk2, hkn2, ho, rfl, hr⟩
      · have HO : Hid (O = none) := hidE (HO.out.trans (by rw [ho]; rfl))
        clear ho
        go_wp2_with fail
        try simp only [Exit.inBlock, Exit.then]
        refine bodyPost_ret (results_ct rfl _ _ w.heap.size 29 _ (0, 0) _ rfl (((blk_set4 _ _ _ _ HB0.out).alloc _).alloc _) Tryz.underlying29 rfl (by kernel_rfl)) rfl ?_
        exact rpost_none ts i w _ _ _ 4 ⟨#[]⟩ 0 _ 2 2 (((below_set4 hbel.out _ _ _ _ (Nat.le_refl _)).alloc (by simp; omega) _).alloc (by simp; omega) _) HO.out rfl
      · have HO : Hid (O = some (.fn t u, ts.drop k2)) := hidE (HO.out.trans (by rw [ho]; rfl))
        have HU := hidE hr
        clear ho hr
        go_wp2_with fail
        try simp only [Exit.inBlock, Exit.then]
        refine bodyPost_ret (results_ct rfl _ _ w.heap.size 29 _ (0, 0) _ rfl (((blk_set4 _ _ _ _ HB0.out).alloc _).alloc _) Tryz.underlying29 rfl (by kernel_rfl)) rfl ?_
        refine rpost_some ts i w _ _ _ 4 ⟨#[]⟩ 0 (some ⟨w3.heap.size + 1, 0, none⟩) 2 2 (.fn t u) k2 (((below_set4 hbel.out _ _ _ _ (Nat.le_refl _)).alloc (by simp; omega) _).alloc (by simp; omega) _) (by omega) hkn2 HO.out rfl ?_
        have s3 := B3.out.size
        simp at s3
        refine fn_cells (K1 := K1) (X1 := X1) (Z1 := Z1) (A1 := A1) (m1 := m1) (c1 := c1) (K2 := K2) (X2 := X2) (Z2 := Z2) (A2 := A2) (m2 := m2) (c2 := c2) ?_ ?_ (by simp; omega) ?_
        · exact HT.out.keep (fun g hg => by simp at hg ⊢; omega) (fun g hg => by
            simp at hg
            rw [Below.heap_alloc _ _ _ (by simp; omega), Below.heap_alloc _ _ _ (by simp; omega), heap_set4 _ _ _ _ _ _ _ (by omega)]
            exact B13.out.block g hg.2)
        · exact HU.out.keep (fun g hg => by simp at hg ⊢; omega) (fun g hg => by
            simp at hg
            rw [Below.heap_alloc _ _ _ (by simp; omega), Below.heap_alloc _ _ _ (by simp; omega), heap_set4 _ _ _ _ _ _ _ (by omega)])
        · intro j x hx
          have := new_cells' ((((((w3.setCell ⟨w.heap.size, 0, none⟩ (.int .i64 4)).setCell ⟨w.heap.size, 1, none⟩ (.string ⟨#[]⟩)).setCell ⟨w.heap.size, 2, none⟩ (.int .i64 0)).setCell ⟨w.heap.size, 3, none⟩ (.slice (some ⟨w3.heap.size + 1, 0, none⟩) 2 2))).alloc (.cells #[.int .i64 K2, .string X2, .int .i64 Z2, .slice A2 m2 c2] 29)) #[.int .i64 K1, .string X1, .int .i64 Z1, .slice A1 m1 c1, .int .i64 K2, .string X2, .int .i64 Z2, .slice A2 m2 c2] 29 (w3.heap.size + 1) (by simp) j x hx
          rw [add_zero_addr] at this
          exact this

end Go.Proofs.YtaomnlcplmkokaaGreatDoor

/-
  The walk over Read of the document's answer for types, where a for all begins; and all three by induction.
-/
namespace Go.Proofs.YtaomnlcplmkokaaGreatDoor
open Go.RowKit Lx Tx
set_option maxRecDepth 100000

/-- what holds at the head of each round of the second loop -/
def HeadR (i K0 b9 : Nat) (V : List (List UInt8)) (o : Option Ty) (w : World) (gg : Nat) (vj : Value) (wr : World) : Prop :=
  ∃ j K X Z A m c, gg = j - i ∧ vj = .int .i64 j ∧ i ≤ j ∧ j < K0 ∧ Blk wr b9 29 #[.int .i64 K, .string X, .int .i64 Z, .slice A m c] ∧
    Blk wr w.heap.size 29 #[.int .i64 0, .string ⟨#[]⟩, .int .i64 0, .slice none 0 0] ∧ Below w.heap.size w wr ∧
    ∀ t0, o = some t0 → RdV (fun g => w.heap.size < g ∧ g < wr.heap.size ∧ g ≠ b9) wr (alls (V.drop (j - i)) t0) (.agg #[.int .i64 K, .string X, .int .i64 Z, .slice A m c])

set_option maxHeartbeats 1600000 in
theorem ref2_read_all (f : Nat) (ts : List Tok) (v : Value) (w : World) (i : Nat) (hv : RdT w v ts) (hn : ts.length ≤ 100000) (hf : 4 * (ts.length - i) + 4 ≤ f + 1) (hq : isAt ts i 3 wForall = true)
    (IHR : ∀ (w : World) (i : Nat), RdT w v ts → i ≤ ts.length → 4 * (ts.length - i) + 4 ≤ f → Calls Tryz.prog 58 #[v, .int .i64 i] w (RPost ts i w (read f (ts.drop i)))) :
    Calls Tryz.prog 58 #[v, .int .i64 i] w (RPost ts i w (read (f + 1) (ts.drop i))) := by
  have hlt := isAt_lt _ _ _ _ hq
  have hIs : ∀ w, RdT w v ts → Calls Tryz.prog 84 #[v, .int .i64 i, .int .i64 3, .string ⟨#[102, 111, 114, 97, 108, 108]⟩] w fun e w' => e = .returned (.bool true) ∧ w = w' := by
    intro w hv
    rw [← hq]
    exact ref2_is _ ts i 3 ⟨#[102, 111, 114, 97, 108, 108]⟩ 3 rfl w hv
  obtain ⟨hv1, hv2, hv3, hv4⟩ := vars_at ts ts.length (i + 1) (by omega) (by omega)
  have HO0 := read_all f ts i hq _ rfl hv3
  generalize hVe : (vars (ts.drop (i + 1))).1 = V at *
  obtain ⟨O, hO⟩ : ∃ O, read (f + 1) (ts.drop i) = O := ⟨_, rfl⟩
  rw [hO]
  rw [hO] at HO0
  obtain ⟨K0, hK0⟩ : ∃ K0, i + 1 + V.length = K0 := ⟨_, rfl⟩
  rw [hK0] at hv2 hv4 HO0
  have HO := hidE HO0
  have HV1 : Hid (∀ k, i + 1 ≤ k → k < K0 → ∃ h : k < ts.length, ts[k].kind = 1 ∧ ts[k].text = V.getD (k - (i + 1)) []) := by
    refine hidE fun k h1 h2 => ?_
    obtain ⟨d, rfl⟩ : ∃ d, k = i + 1 + d := ⟨k - (i + 1), by omega⟩
    obtain ⟨h, e1, e2⟩ := hv1 d (by omega)
    exact ⟨h, e1, by rw [e2, Nat.add_sub_cancel_left, List.getD_eq_getElem?_getD, List.getElem?_eq_getElem (by omega)]; rfl⟩
  have HV4 := hidE hv4
  have HK0 := hidE hK0
  have hKi : i + 1 ≤ K0 := by omega
  obtain ⟨q, hq2⟩ : ∃ q, isAt ts K0 6 [46] = q := ⟨_, rfl⟩
  have HQ := hidE hq2
  have hIs2 : ∀ w, RdT w v ts → Calls Tryz.prog 84 #[v, .int .i64 K0, .int .i64 6, .string ⟨#[46]⟩] w fun e w' => e = .returned (.bool q) ∧ w = w' := by
    intro w hv
    rw [← hq2]
    exact ref2_is _ ts K0 6 ⟨#[46]⟩ 6 rfl w hv
  clear HO0 hVe hv1 hv3 hv4 hO hq hq2 hK0
  obtain ⟨g, c, rfl, _, _, _⟩ := hv.at_ i hlt
  have hgl := hv.lt (by omega)
  obtain ⟨n, hN⟩ : ∃ n, ts.length = n := ⟨_, rfl⟩
  have HN := hidE hN
  rw [hN] at hv hIs hIs2 hn hf hlt hv2 IHR ⊢
  have HV := hidE hv
  have HR := hidE IHR
  clear hN IHR hv
  go_enter Tryz.func58, Tryz.ntmps58
  go_wp2_with (go_at_call 84; refine (hIs _ (HV.out.alloc _)).mono ?_; rintro e w2 ⟨rfl, rfl⟩)
  go_loopg [7] (K0 - (i + 1)) (fun gg vk wr => ∃ k : Nat, gg = K0 - k ∧ vk = .int .i64 k ∧ wr = w.alloc (.cells #[.int .i64 0, .string ⟨#[]⟩, .int .i64 0, .slice none 0 0] 29) ∧ i + 1 ≤ k ∧ k ≤ K0)
  case atStart => exact ⟨i + 1, rfl, by go_num, rfl, by omega, hKi⟩
  case round =>
    obtain ⟨k, rfl, rfl, rfl, hk1, hk2⟩ := hrel
    by_cases hkK : k < K0
    · obtain ⟨hkn, e1, -⟩ := HV1.out k hk1 hkK
      have e0 := (HV.out.cells k hkn).1
      rw [e1] at e0
      have e0 : w.cell? ⟨g, k * 3, none⟩ = some (.int .i64 1) := e0
      have hkn' : k < n := by omega
      clear e1 hkn
      go_wp2_with fail
      go_roundg (K0 - (k + 1))
      case measure => omega
      case rel => exact ⟨k + 1, rfl, by go_num, rfl, by omega, by omega⟩
    · obtain rfl : k = K0 := by omega
      by_cases hkn : k < n
      · have hkn' : k < ts.length := by rw [HN.out]; exact hkn
        have e0 := (HV.out.cells k hkn').1
        obtain ⟨m, hm⟩ : ∃ m, ts[k].kind = m := ⟨_, rfl⟩
        have d1 := kF m 1 (by rw [← hm]; exact HV4.out hkn')
        rw [hm] at e0
        clear hm hkn'
        cases q
        · have HO : Hid (O = none) := hidE (HO.out.trans (by rw [HQ.out]; simp))
          go_wp2_with (go_at_call 84; refine (hIs2 _ (HV.out.alloc _)).mono ?_; rintro e w2 ⟨rfl, rfl⟩)
          try simp only [Exit.inBlock, Exit.then]
          refine bodyPost_ret (results_ct rfl _ _ w.heap.size 29 _ (0, 0) _ rfl (heap_alloc_new _ _) Tryz.underlying29 rfl (by kernel_rfl)) rfl ?_
          exact rpost_none ts i w _ _ _ 0 ⟨#[]⟩ 0 none 0 0 ((Below.refl _ w).alloc (Nat.le_refl _) _) HO.out rfl
        · by_cases hki : k = i + 1
          · have dk : ((k : Int) == (i : Int) + 1) = true := by simp; omega
            have hVn : V = [] := by cases V with | nil => rfl | cons a b => have := HK0.out; simp at this; omega
            have HO : Hid (O = none) := hidE (HO.out.trans (by rw [if_pos hVn]))
            clear hVn hki
            go_wp2_with (go_at_call 84; refine (hIs2 _ (HV.out.alloc _)).mono ?_; rintro e w2 ⟨rfl, rfl⟩)
            try simp only [Exit.inBlock, Exit.then]
            refine bodyPost_ret (results_ct rfl _ _ w.heap.size 29 _ (0, 0) _ rfl (heap_alloc_new _ _) Tryz.underlying29 rfl (by kernel_rfl)) rfl ?_
            exact rpost_none ts i w _ _ _ 0 ⟨#[]⟩ 0 none 0 0 ((Below.refl _ w).alloc (Nat.le_refl _) _) HO.out rfl
          · have dk : ((k : Int) == (i : Int) + 1) = false := by rw [Bool.eq_false_iff]; intro h; simp at h; omega
            have hVn : V ≠ [] := by intro e; have := HK0.out; rw [e] at this; simp at this; omega
            have HO : Hid (O = (read f (ts.drop (k + 1))).map fun x => (alls V x.1, x.2)) := hidE (HO.out.trans (by rw [if_neg hVn, HQ.out, if_pos rfl]))
            clear hVn
            go_wp2_with (go_at_call 84; refine (hIs2 _ (HV.out.alloc _)).mono ?_; rintro e w2 ⟨rfl, rfl⟩)
            refine (HR.out _ (k + 1) (HV.out.alloc _) (by omega) (by omega)).mono ?_
            rintro e w1 ⟨b1, K1, X1, Z1, A1, m1, c1, hcases⟩
            have hb0 : Blk w1 w.heap.size 29 #[.int .i64 0, .string ⟨#[]⟩, .int .i64 0, .slice none 0 0] := Blk.below (heap_alloc_new _ _) b1 (by simp)
            have HB0 := hidE hb0
            have B1 := hidE b1
            have hlw := hb0.lt
            clear hb0 b1
            rcases hcases with ⟨ho, rfl⟩ | ⟨t, k2, hk2, hkn2, ho, rfl, hr⟩
            · have HO : Hid (O = none) := hidE (HO.out.trans (by rw [ho]; rfl))
              clear ho
              go_wp2_with fail
              go_loopg [11] (k - 1 - i) (fun gg vj wr => HeadR i k w1.heap.size V none w gg vj wr)
              case atStart =>
                refine ⟨k - 1, K1, X1, Z1, A1, m1, c1, by omega, by go_num, by omega, by omega, heap_alloc_new _ _, HB0.out.alloc _, (below_pre B1.out (Nat.le_refl _)).alloc (by omega) _, ?_⟩
                intro t0 h; exact absurd h (by simp)
              case round =>
                obtain ⟨j, K, X, Z, A, mm, cc, rfl, rfl, hij, hjK, hb9, hb0, hbel, hrd⟩ := hrel
                obtain ⟨p0, p1, p2, p3, s0, s1, s2, s3, hlx⟩ := blk_facts4 hb9
                obtain ⟨a0, a1, a2, a3, r0, r1, r2, r3, hlw3⟩ := blk_facts4 hb0
                have HB9 := hidE hb9
                have HB0 := hidE hb0
                have HBEL := hidE hbel
                have HRD := hidE hrd
                have hgw : g < wr.heap.size := by have := hbel.size; omega
                clear hb9 hb0 hrd
                by_cases hji : i < j
                · obtain ⟨hjn, -, hjt⟩ := HV1.out j (by omega) (by omega)
                  obtain ⟨-, e1⟩ := (HV.out.below hbel).cells j hjn
                  obtain ⟨Y, hY⟩ : ∃ Y : ByteArray, ⟨ts[j].text.toArray⟩ = Y := ⟨_, rfl⟩
                  rw [hY] at e1
                  have HY : Hid (Y = ⟨(V.getD (j - (i + 1)) []).toArray⟩) := hidE (by rw [← hY, hjt])
                  have hjn' : j < n := by omega
                  clear hbel hjt hY hjn
                  go_wp2_with fail
                  go_region
                  go_wp2_with fail
                  go_roundg (j - 1 - i)
                  case measure => omega
                  case rel =>
                    have hsz := HBEL.out.size
                    have h9 : w.heap.size < w1.heap.size := hlw
                    refine ⟨j - 1, 5, Y, 0, some ⟨wr.heap.size, 0, none⟩, 1, 1, by omega, by go_num, by omega, by omega, ((blk_set4 _ _ _ _ HB9.out).alloc _).drew, ((blk_far4 (by omega) HB0.out).alloc _).drew, ((below_set4 HBEL.out _ _ _ _ (by omega)).alloc (by simp; omega) _).drew, fun t0 h => ?_⟩
                    rw [alls_step V (j - 1 - i) t0 (by have := HK0.out; omega), show j - 1 - i + 1 = j - i by omega]
                    refine all_cells (w := wr) (by rw [HY.out, show j - 1 - i = j - (i + 1) by omega]) (HRD.out t0 h) (fun g hg => ?_) (fun g hg => ?_) ?_ ?_
                    · have := hg.2.1
                      exact ⟨hg.1, by simp; omega, hg.2.2⟩
                    · exact (Below.heap_alloc _ _ _ (by simp; exact hg.2.1)).trans (heap_set4 _ _ _ _ _ _ _ hg.2.2)
                    · exact ⟨by omega, by simp, by omega⟩
                    · intro d u hu
                      have := new_cells' ((((wr.setCell ⟨w1.heap.size, 0, none⟩ (.int .i64 5)).setCell ⟨w1.heap.size, 1, none⟩ (.string Y)).setCell ⟨w1.heap.size, 2, none⟩ (.int .i64 0)).setCell ⟨w1.heap.size, 3, none⟩ (.slice (some ⟨wr.heap.size, 0, none⟩) 1 1)) #[.int .i64 K, .string X, .int .i64 Z, .slice A mm cc] 29 wr.heap.size (by simp) d u hu
                      rw [add_zero_addr] at this
                      exact this
                · clear hbel
                  go_wp2_with fail
                  try simp only [Exit.inBlock, Exit.then]
                  refine bodyPost_ret (results_ct rfl _ _ w.heap.size 29 _ (0, 0) _ rfl (blk_set4 _ _ _ _ HB0.out) Tryz.underlying29 rfl (by kernel_rfl)) rfl ?_
                  exact rpost_none ts i w _ _ _ K X Z A mm cc (below_set4 HBEL.out _ _ _ _ (Nat.le_refl _)) HO.out rfl
            · have HO : Hid (O = some (alls V t, ts.drop k2)) := hidE (HO.out.trans (by rw [ho]; rfl))
              have HT := hidE hr
              clear ho hr
              go_wp2_with fail
              go_loopg [11] (k - 1 - i) (fun gg vj wr => HeadR i k w1.heap.size V (some t) w gg vj wr)
              case atStart =>
                refine ⟨k - 1, K1, X1, Z1, A1, m1, c1, by omega, by go_num, by omega, by omega, heap_alloc_new _ _, HB0.out.alloc _, (below_pre B1.out (Nat.le_refl _)).alloc (by omega) _, ?_⟩
                intro t0 h
                injection h with h
                subst h
                rw [List.drop_eq_nil_of_le (by have := HK0.out; omega)]
                exact HT.out.keep (fun g hg => by simp at hg ⊢; omega) (fun g hg => Below.heap_alloc _ _ _ hg.2)
              case round =>
                obtain ⟨j, K, X, Z, A, mm, cc, rfl, rfl, hij, hjK, hb9, hb0, hbel, hrd⟩ := hrel
                obtain ⟨p0, p1, p2, p3, s0, s1, s2, s3, hlx⟩ := blk_facts4 hb9
                obtain ⟨a0, a1, a2, a3, r0, r1, r2, r3, hlw3⟩ := blk_facts4 hb0
                have HB9 := hidE hb9
                have HB0 := hidE hb0
                have HBEL := hidE hbel
                have HRD := hidE hrd
                have hgw : g < wr.heap.size := by have := hbel.size; omega
                clear hb9 hb0 hrd
                by_cases hji : i < j
                · obtain ⟨hjn, -, hjt⟩ := HV1.out j (by omega) (by omega)
                  obtain ⟨-, e1⟩ := (HV.out.below hbel).cells j hjn
                  obtain ⟨Y, hY⟩ : ∃ Y : ByteArray, ⟨ts[j].text.toArray⟩ = Y := ⟨_, rfl⟩
                  rw [hY] at e1
                  have HY : Hid (Y = ⟨(V.getD (j - (i + 1)) []).toArray⟩) := hidE (by rw [← hY, hjt])
                  have hjn' : j < n := by omega
                  clear hbel hjt hY hjn
                  go_wp2_with fail
                  go_region
                  go_wp2_with fail
                  go_roundg (j - 1 - i)
                  case measure => omega
                  case rel =>
                    have hsz := HBEL.out.size
                    have h9 : w.heap.size < w1.heap.size := hlw
                    refine ⟨j - 1, 5, Y, 0, some ⟨wr.heap.size, 0, none⟩, 1, 1, by omega, by go_num, by omega, by omega, ((blk_set4 _ _ _ _ HB9.out).alloc _).drew, ((blk_far4 (by omega) HB0.out).alloc _).drew, ((below_set4 HBEL.out _ _ _ _ (by omega)).alloc (by simp; omega) _).drew, fun t0 h => ?_⟩
                    rw [alls_step V (j - 1 - i) t0 (by have := HK0.out; omega), show j - 1 - i + 1 = j - i by omega]
                    refine all_cells (w := wr) (by rw [HY.out, show j - 1 - i = j - (i + 1) by omega]) (HRD.out t0 h) (fun g hg => ?_) (fun g hg => ?_) ?_ ?_
                    · have := hg.2.1
                      exact ⟨hg.1, by simp; omega, hg.2.2⟩
                    · exact (Below.heap_alloc _ _ _ (by simp; exact hg.2.1)).trans (heap_set4 _ _ _ _ _ _ _ hg.2.2)
                    · exact ⟨by omega, by simp, by omega⟩
                    · intro d u hu
                      have := new_cells' ((((wr.setCell ⟨w1.heap.size, 0, none⟩ (.int .i64 5)).setCell ⟨w1.heap.size, 1, none⟩ (.string Y)).setCell ⟨w1.heap.size, 2, none⟩ (.int .i64 0)).setCell ⟨w1.heap.size, 3, none⟩ (.slice (some ⟨wr.heap.size, 0, none⟩) 1 1)) #[.int .i64 K, .string X, .int .i64 Z, .slice A mm cc] 29 wr.heap.size (by simp) d u hu
                      rw [add_zero_addr] at this
                      exact this
                · clear hbel
                  go_wp2_with fail
                  try simp only [Exit.inBlock, Exit.then]
                  refine bodyPost_ret (results_ct rfl _ _ w.heap.size 29 _ (0, 0) _ rfl (blk_set4 _ _ _ _ HB0.out) Tryz.underlying29 rfl (by kernel_rfl)) rfl ?_
                  obtain rfl : i = j := by omega
                  have hr := HRD.out t rfl
                  rw [Nat.sub_self, List.drop_zero] at hr
                  refine rpost_some ts i w _ _ _ K X Z A mm cc (alls V t) k2 (below_set4 HBEL.out _ _ _ _ (Nat.le_refl _)) (by omega) hkn2 HO.out rfl ?_
                  exact hr.keep (fun g hg => by simp at hg ⊢; omega) (fun g hg => heap_set4 _ _ _ _ _ _ _ (by omega))
      · cases q
        · have HO : Hid (O = none) := hidE (HO.out.trans (by rw [HQ.out]; simp))
          go_wp2_with (go_at_call 84; refine (hIs2 _ (HV.out.alloc _)).mono ?_; rintro e w2 ⟨rfl, rfl⟩)
          try simp only [Exit.inBlock, Exit.then]
          refine bodyPost_ret (results_ct rfl _ _ w.heap.size 29 _ (0, 0) _ rfl (heap_alloc_new _ _) Tryz.underlying29 rfl (by kernel_rfl)) rfl ?_
          exact rpost_none ts i w _ _ _ 0 ⟨#[]⟩ 0 none 0 0 ((Below.refl _ w).alloc (Nat.le_refl _) _) HO.out rfl
        · exact absurd (isAt_lt _ _ _ _ HQ.out) (by rw [HN.out]; exact hkn)

/-- ALL THREE: what reading leaves -/
theorem ref2_all (ts : List Tok) (v : Value) (hg : AllG ts) (hn : ts.length ≤ 100000) (f : Nat) : ∀ f1, f1 ≤ f →
    (∀ (w : World) (i : Nat), RdT w v ts → i ≤ ts.length → 4 * (ts.length - i) + 4 ≤ f1 → Calls Tryz.prog 58 #[v, .int .i64 i] w (RPost ts i w (read f1 (ts.drop i)))) ∧
    (∀ (w : World) (i : Nat), RdT w v ts → i ≤ ts.length → 4 * (ts.length - i) + 3 ≤ f1 → Calls Tryz.prog 85 #[v, .int .i64 i] w (RPost ts i w (app f1 (ts.drop i)))) ∧
    (∀ (w : World) (i : Nat), RdT w v ts → i ≤ ts.length → 4 * (ts.length - i) + 2 ≤ f1 → Calls Tryz.prog 108 #[v, .int .i64 i] w (RPost ts i w (atom f1 (ts.drop i)))) := by
  induction f with
  | zero =>
    intro f1 h
    exact ⟨fun w i _ _ h2 => by omega, fun w i _ _ h2 => by omega, fun w i _ _ h2 => by omega⟩
  | succ f ih =>
    intro f1 h1
    by_cases h : f1 ≤ f
    · exact ih f1 h
    · obtain rfl : f1 = f + 1 := by omega
      have i0 := ih f (Nat.le_refl _)
      refine ⟨fun w i hv hi hf => ?_, fun w i hv hi hf => ?_, fun w i hv hi hf => ?_⟩
      · cases hq : isAt ts i 3 wForall with
        | true => exact ref2_read_all f ts v w i hv hn hf hq i0.1
        | false => exact ref2_read_app f ts v w i hv hn hi hf hq i0.2.1 i0.1
      · exact ref2_app f ts v w i hv hn hi hf (fun f1 h => (ih f1 h).2.2)
      · exact ref2_atom f ts v w i hv hg hn hi hf i0.1

/-- Read of the document's answer, from the first token on -/
theorem ref2_read (ts : List Tok) (v : Value) (w : World) (hg : AllG ts) (hn : ts.length ≤ 100000) (hv : RdT w v ts) :
    Calls Tryz.prog 58 #[v, .int .i64 0] w (RPost ts 0 w (read (enough ts) ts)) := by
  have := (ref2_all ts v hg hn (enough ts) (enough ts) (Nat.le_refl _)).1 w 0 hv (Nat.zero_le _) (by unfold enough; omega)
  rwa [List.drop_zero] at this

end Go.Proofs.YtaomnlcplmkokaaGreatDoor

/-
  The walk over Parse of the document's answer for types.
-/
namespace Go.Proofs.YtaomnlcplmkokaaGreatDoor
open Go.RowKit Lx Tx
set_option maxRecDepth 100000

end Go.Proofs.YtaomnlcplmkokaaGreatDoor

/-
  The walk over free of the document's answer for types: variables.
-/
namespace Go.Proofs.YtaomnlcplmkokaaGreatDoor
open Go.RowKit Lx Tx
set_option maxRecDepth 100000

end Go.Proofs.YtaomnlcplmkokaaGreatDoor

/-
  The walk over free of the document's answer for types: unknowns, constructors, functions.
-/
namespace Go.Proofs.YtaomnlcplmkokaaGreatDoor
open Go.RowKit Lx Tx
set_option maxRecDepth 100000

end Go.Proofs.YtaomnlcplmkokaaGreatDoor

/-
  The walk over metas of the document's answer for types: unknowns.
-/
namespace Go.Proofs.YtaomnlcplmkokaaGreatDoor
open Go.RowKit Lx Tx
set_option maxRecDepth 100000

theorem ref2_int_info : (Tryz.prog.info? 3).map (fun i => (i.zero, i.size, i.bytes)) = some (some (.int .i64 0), 1, 8) := by kernel_rfl

set_option maxRecDepth 2000 in
set_option maxHeartbeats 1600000 in
theorem ref2_metas_mt (k : Nat) (X : ByteArray) (A : Option Addr) (m c : Nat) (vo : Value) (out : List Nat) (w : World) (ho : RowN w vo (intV out)) (hol : out.length ≤ 100000) :
    Calls Tryz.prog 60 #[.agg #[.int .i64 2, .string X, .int .i64 k, .slice A m c], vo] w fun e w' => ∃ v', e = .returned v' ∧ RowN w' v' (intV (addN k out)) ∧ Below w.heap.size w w' := by
  obtain ⟨L, hL⟩ : ∃ L, addN k out = L := ⟨_, rfl⟩
  rw [hL]
  have HL := hidE hL
  clear hL
  have HO := hidE ho
  have HO1 := hidE ho.1
  obtain ⟨i0, hi0, hz0, hz1, hz2⟩ := info_parts ref2_int_info
  have hs0 : w.heap.size < (w.alloc (.cells #[.int .i64 2, .string X, .int .i64 k, .slice A m c] 29)).heap.size := by simp
  by_cases hz : out = []
  · obtain rfl := HO.out.2 (by rw [hz]; rfl)
    have HZ := hidE hz
    have HRES : Hid (L = out ++ [k]) := hidE (by rw [← HL.out, hz]; rfl)
    clear hz ho hol
    go_enter Tryz.func60, Tryz.ntmps60
    go_wp2_with fail
    go_loopg [5] 0 (fun gg vi wr => gg = 0 ∧ vi = .int .i64 0 ∧ wr = w.alloc (.cells #[.int .i64 2, .string X, .int .i64 k, .slice A m c] 29))
    case atStart => exact ⟨rfl, rfl, rfl⟩
    case round =>
      obtain ⟨rfl, rfl, rfl⟩ := hrel
      go_wp2_with fail
      go_region_held3 (fun w' => w'.cell? ⟨w.heap.size, 2, none⟩ = some (.int .i64 k)) (first | go_keep | (rw [hgrow2.cell_far _ (by first | omega | (simp; done) | (simp; omega)) (by intro e; injection e with e; simp at e; omega)]; assumption) | (rw [hgrow.cell_far _ (by first | omega | (simp; done) | (simp; omega)) (by simp [Value.ownBlock]; try omega)]; assumption))
        (((refine step_append_lies _ (by rfl) _ _ _ (by rfl) (w.heap.size + 1) 3 i0 _ 1 8 Tryz.underlying63 hi0 hz0 hz1 hz2 rfl (by omega) _ 0 [] (by rfl) (owns_empty (by first | exact alloc_at _ _ _ (by simp) | exact alloc_below _ _ _ _ (alloc_at _ _ _ (by simp))) (by first | omega | (simp; done) | (simp; omega))) _ 1 1 [.int .i64 k] (by rfl) (by rfl) (World.news_of_block (cs := #[.int .i64 k]) (t := 3) (fr := (0, 0)) (by first | exact alloc_at _ _ _ (by simp) | exact alloc_below _ _ _ _ (alloc_at _ _ _ (by simp)))) (by simp [Value.oneCell']) (by omega) (by unfold maxLen; omega) (by omega) (by first | omega | (simp; done) | (simp; omega)) _ rfl ?_); intro gg cap w2 hown1 hgrow hat hlt; have B2 : Hid (Below w.heap.size w w2) := hidE (Below.grown (by repeat first | exact Below.refl _ _ | exact B1.out | (refine Below.alloc ?_ (by first | omega | (simp; done) | (simp; omega)) _) | (refine Below.drew ?_)) hgrow (by first | omega | (simp; done) | (simp; omega)) (by intro k hk; simp [Value.ownBlock] at hk; omega)); have HW2 := hidE hown1; clear hat hown1))
      all_goals
        go_wp2_with fail
        go_ret
        exact ⟨_, rfl, by rw [HRES.out]; exact rown_snocI out k HW2.out (by rw [HZ.out]; rfl), B2.out⟩
  · have HZ := hidE hz
    obtain ⟨A0, c0, rfl, hcl⟩ := HO1.out
    rw [intV_len] at *
    have hk0 : 0 < out.length := List.length_pos_iff.2 hz
    obtain ⟨g0, rfl, hg0, hcells⟩ := hcl hk0
    have HSL : Hid ((intV out).length = out.length * 1) := hidE (by rw [intV_len, Nat.mul_one])
    have HCELLS : Hid (∀ W' : World, Below w.heap.size w W' → ∀ j u, (intV out)[j]? = some u → W'.cell? ((⟨g0, 0, none⟩ : Addr).add j) = some u) := hidE fun W' hb j u hu => by
      rw [add_zero_addr, hb.cell (p := ⟨g0, j, none⟩) hg0]; exact hcells j u hu
    have HAT : Hid (∀ j (h : j < out.length), w.cell? ⟨g0, j, none⟩ = some (.int .i64 (out[j] : Nat))) := hidE fun j h => hcells j _ (intV_at out j h)
    obtain ⟨z, hk⟩ : ∃ z, out.length = z := ⟨_, rfl⟩
    have HK := hidE hk
    rw [hk] at hk0 hol HSL ⊢
    have HO2 := hidE ho
    rw [hk] at HO2
    clear hz hcl hcells hk ho HO HO1
    go_enter Tryz.func60, Tryz.ntmps60
    go_wp2_with fail
    go_loopg [5] z (fun gg vi wr => ∃ (i : Nat) (nd : Nat), gg = z - i ∧ vi = .int .i64 i ∧ i ≤ z ∧ wr = (w.alloc (.cells #[.int .i64 2, .string X, .int .i64 k, .slice A m c] 29)).drewN nd ∧ Hid (k ∉ out.take i))
    case atStart => exact ⟨0, 0, rfl, rfl, by omega, rfl, hidE (by simp)⟩
    case round =>
      obtain ⟨i, nd, rfl, rfl, hi, rfl, hni⟩ := hrel
      by_cases hlt : i < z
      · have hol' : i < out.length := by rw [HK.out]; exact hlt
        obtain ⟨y, hy⟩ : ∃ y, out[i] = y := ⟨_, rfl⟩
        have e0 := HAT.out i hol'
        rw [hy] at e0
        have hlI : (i : Int) < (z : Int) := by omega
        have hiI : (0 : Int) ≤ (i : Int) := by omega
        by_cases hyk : y = k
        · have dy := kT y k hyk
          have HRES : Hid (L = out) := hidE (by rw [← HL.out, addN, if_pos (by rw [← hyk, ← hy]; exact List.getElem_mem hol')])
          clear hyk hy
          go_wp2_with fail
          go_quiet (fail)
          go_wp2_with fail
          go_ret
          have hb2 : Below w.heap.size w (((w.alloc (.cells #[.int .i64 2, .string X, .int .i64 k, .slice A m c] 29)).drewN nd).drewN nq) := below_drewN' (below_drewN' ((Below.refl _ w).alloc (Nat.le_refl _) _) nd) nq
          exact ⟨_, rfl, by rw [HRES.out]; exact HO2.out.below hb2, hb2⟩
        · have dy := kF y k hyk
          have hnx := hidE (not_take k out i hol' hni (by rw [hy]; exact hyk))
          clear hyk hy
          go_wp2_with fail
          go_quiet (fail)
          go_wp2_with fail
          go_roundg (z - (i + 1))
          case measure => omega
          case rel => exact ⟨i + 1, nd + nq, rfl, by go_num, by omega, by rw [drewN_add], hnx⟩
      · have HRES : Hid (L = out ++ [k]) := hidE (by rw [← HL.out, addN, if_neg (by have := hni.out; rwa [List.take_of_length_le (by rw [HK.out]; omega)] at this)])
        obtain ⟨W, hW⟩ : ∃ W : World, (w.alloc (.cells #[.int .i64 2, .string X, .int .i64 k, .slice A m c] 29)).drewN nd = W := ⟨_, rfl⟩
        have hwb : Hid (Below w.heap.size w W) := hidE (hW ▸ below_drewN' ((Below.refl _ w).alloc (Nat.le_refl _) _) nd)
        have x0 : W.cell? ⟨w.heap.size, 0, none⟩ = some (.int .i64 2) := hW ▸ cell_of_row _ _ _ _ _ _ (heap_alloc_new w (.cells #[.int .i64 2, .string X, .int .i64 k, .slice A m c] 29))
        have x2 : W.cell? ⟨w.heap.size, 2, none⟩ = some (.int .i64 k) := hW ▸ cell_of_row _ _ _ _ _ _ (heap_alloc_new w (.cells #[.int .i64 2, .string X, .int .i64 k, .slice A m c] 29))
        have hs1 : w.heap.size + 1 ≤ W.heap.size := by rw [← hW]; simp
        have hs2 : w.heap.size < W.heap.size := by omega
        rw [hW]
        clear hW hni
        go_wp2_with fail
        go_region_held3 (fun w' => w'.cell? ⟨w.heap.size, 2, none⟩ = some (.int .i64 k)) (first | go_keep | (rw [hgrow2.cell_far _ (by first | omega | (simp; done) | (simp; omega)) (by intro e; injection e with e; simp at e; omega)]; assumption) | (rw [hgrow.cell_far _ (by first | omega | (simp; done) | (simp; omega)) (by simp [Value.ownBlock]; try omega)]; assumption))
          (first | ((refine step_append_lies _ (by rfl) _ _ _ (by rfl) (w.heap.size + 1) 3 i0 _ 1 8 Tryz.underlying63 hi0 hz0 hz1 hz2 rfl (by omega) _ 0 [] (by rfl) (owns_empty (by first | exact alloc_at _ _ _ (by simp) | exact alloc_below _ _ _ _ (alloc_at _ _ _ (by simp))) (by first | omega | (simp; done) | (simp; omega))) ⟨g0, 0, none⟩ z c0 (intV out) (by rfl) HSL.out (HCELLS.out _ (by repeat first | exact hwb.out | exact B1.out | (refine Below.alloc ?_ (by first | omega | (simp; done) | (simp; omega)) _) | (refine Below.drew ?_))) (one_intV out) hk0 (by unfold maxLen; omega) (by omega) (by first | omega | (simp; done) | (simp; omega)) _ rfl ?_); intro gg cap w1 hown1 hgrow hat hlt; simp only [Nat.zero_add, List.nil_append] at hown1 ⊢; have B1 : Hid (Below w.heap.size w w1) := hidE (Below.grown (by repeat first | exact hwb.out | exact B1.out | (refine Below.alloc ?_ (by first | omega | (simp; done) | (simp; omega)) _) | (refine Below.drew ?_)) hgrow (by first | omega | (simp; done) | (simp; omega)) (by intro k hk; simp [Value.ownBlock] at hk; omega)); have HW1 := hidE hown1; have HGE : (w.heap.size + 1) ≤ gg := (hown1.lt gg rfl).1; first | (have HXB : Hid (w1.heap[W.heap.size + 1]? = some (.cells #[.int .i64 k] 3 (0, 0))) := hidE ((hgrow.block _ (by first | omega | (simp; done) | (simp; omega)) (by simp [Value.ownBlock])).trans (alloc_at _ _ _ (by simp)))) | (have HXB : Hid (w1.heap[W.heap.size]? = some (.cells #[.int .i64 k] 3 (0, 0))) := hidE ((hgrow.block _ (by first | omega | (simp; done) | (simp; omega)) (by simp [Value.ownBlock])).trans (alloc_below _ _ _ _ (alloc_at _ _ _ (by simp))))) | skip; clear hat hown1) | ((refine step_append_lies _ (by rfl) _ _ _ (by rfl) (w.heap.size + 1) 3 i0 _ 1 8 Tryz.underlying63 hi0 hz0 hz1 hz2 rfl (by omega) _ z (intV out) (by rfl) (by first | exact HW1.out | exact HW1.out.alloc _) _ 1 1 [.int .i64 k] (by rfl) (by rfl) (World.news_of_block (cs := #[.int .i64 k]) (t := 3) (fr := (0, 0)) (by first | exact HXB.out | exact alloc_at _ _ _ (by simp))) (by simp [Value.oneCell']) (by omega) (by unfold maxLen; omega) (by omega) (by first | omega | (simp; done) | (simp; omega)) _ rfl ?_); intro gg2 cap2 w2 hown2 hgrow2' hat2 hlt2; have hgrow2 : World.grownBy _ w2 (some gg) := hgrow2'; clear hgrow2'; have B2 : Hid (Below w.heap.size w w2) := hidE (Below.grown (by repeat first | exact Below.refl _ _ | exact B1.out | (refine Below.alloc ?_ (by first | omega | (simp; done) | (simp; omega)) _) | (refine Below.drew ?_)) hgrow2 (by first | omega | (simp; done) | (simp; omega)) (by intro k hk; injection hk with hk; omega)); have HW2 := hidE hown2; clear hat2 hown2))
        all_goals
          go_wp2_with fail
          go_ret
          exact ⟨_, rfl, by rw [HRES.out]; exact rown_snocI out k HW2.out rfl, B2.out⟩

end Go.Proofs.YtaomnlcplmkokaaGreatDoor

/-
  The walk over metas of the document's answer for types: whole.
-/
namespace Go.Proofs.YtaomnlcplmkokaaGreatDoor
open Go.RowKit Lx Tx
set_option maxRecDepth 100000

def MetasIH (n : Nat) : Prop := ∀ (t : Ty) (S : Nat → Prop) (v vo : Value) (out : List Nat) (w : World), t.size ≤ n → RdV S w t v → (∀ g, S g → g < w.heap.size) → RowN w vo (intV out) →
  out.length + t.size ≤ 100000 → Calls Tryz.prog 60 #[v, vo] w (MetasPost t out w)

set_option maxRecDepth 2000 in
set_option maxHeartbeats 1600000 in
theorem ref2_metas_kids (n : Nat) (IH : MetasIH n) (t : Ty) (S : Nat → Prop) (K : Int) (X : ByteArray) (Z : Int) (A : Option Addr) (m c : Nat) (vo : Value) (out : List Nat) (w : World) (hn : t.size ≤ n + 1)
    (d2 : ((K : Int) == 2) = false) (hf : t.metasO out = metasOL (kids t) out) (hm : (kids t).length = m) (ha : Args S w t A) (hS : ∀ g, S g → g < w.heap.size) (ho : RowN w vo (intV out))
    (hol : out.length + t.size ≤ 100000) :
    Calls Tryz.prog 60 #[.agg #[.int .i64 K, .string X, .int .i64 Z, .slice A m c], vo] w (MetasPost t out w) := by
  have HM := hidE hm
  have HA := hidE ha
  have HIH := hidE IH
  have HS := hidE hS
  have HN := hidE hn
  have HF := hidE hf
  have HO := hidE ho
  have HOL := hidE hol
  have hm6 : m ≤ 100000 := by have := kids_len t; omega
  clear hm ha IH hS hn hf ho hol
  go_enter Tryz.func60, Tryz.ntmps60
  go_wp2_with fail
  go_loopg [1, 6] m (fun gg vs vi wr => ∃ (i : Nat) (o : List Nat), gg = m - i ∧ vi = .int .i64 i ∧ i ≤ m ∧ Hid (o = metasOL ((kids t).take i) out) ∧ RowN wr vs (intV o) ∧ Below (w.heap.size + 1) (w.alloc (.cells #[.int .i64 K, .string X, .int .i64 Z, .slice A m c] 29)) wr)
  case atStart => exact ⟨0, out, rfl, rfl, by omega, hidE rfl, HO.out.below ((Below.refl _ _).alloc (Nat.le_refl _) _), Below.refl _ _⟩
  case round =>
    obtain ⟨i, o, rfl, rfl, hi, hd, hro, hb⟩ := hrel
    have c3 : wr.cell? ⟨w.heap.size, 3, none⟩ = some (.slice A m c) := (hb.cell (p := ⟨w.heap.size, 3, none⟩) (by simp)).trans (cell_of_row _ _ _ _ _ _ (heap_alloc_new _ _))
    have HB2 := hidE hb
    have HRO := hidE hro
    clear hb hro
    by_cases hlt : i < m
    · obtain ⟨g, u, K1, X1, Z1, A1, n1, c1, rfl, hg, e0, e1, e2, e3, hu, hrd, hsz⟩ := kid_cells (w' := wr) HA.out HM.out hlt (fun g hg => by rw [HB2.out.block g (by have := HS.out g hg; omega), Below.heap_alloc _ _ _ (HS.out g hg)])
      have hbw : Below w.heap.size w wr := ((Below.refl _ w).alloc (Nat.le_refl _) _).trans (HB2.out.mono (by omega))
      have hgw : g < wr.heap.size := by have := hbw.size; have := HS.out g hg; omega
      have hlen : o.length + u.size ≤ 100000 := by
        have h1 := metasOL_len ((kids t).take i) out
        rw [← hd.out] at h1
        obtain ⟨hil, hul⟩ := List.getElem?_eq_some_iff.1 hu
        have h2 := sizeL_take (kids t) i
        have h3 : u.size ≤ sizeL ((kids t).drop i) := by
          rw [List.drop_eq_getElem_cons hil, sizeL, hul]; omega
        have := size_kids t
        have := HOL.out
        omega
      have hcall := HIH.out u S _ u1 o wr (by have := HN.out; omega) hrd (fun g hg => by have := hbw.size; have := HS.out g hg; omega) HRO.out hlen
      have hnx := hidE (metasOL_take _ _ _ _ _ hd hu)
      clear hrd hu hd hbw hlen
      go_wp2_with (go_at_call 60; refine hcall.mono ?_; rintro e w1 ⟨v1, rfl, hr1, b1⟩)
      have HR1 := hidE hr1
      have HB3 := hidE (bnext HB2.out b1 (by simp))
      go_roundg (m - (i + 1))
      case measure => omega
      case rel => exact ⟨i + 1, _, rfl, by go_num, by omega, hnx, HR1.out, HB3.out⟩
    · have hr := hidE (show o = t.metasO out by rw [HF.out, hd.out, List.take_of_length_le (by rw [HM.out]; omega)])
      go_wp2_with fail
      go_ret
      exact ⟨_, rfl, by rw [← hr.out]; exact HRO.out, ((Below.refl _ w).alloc (Nat.le_refl _) _).trans (HB2.out.mono (by omega))⟩

theorem ref2_metasN (n : Nat) : MetasIH n := by
  induction n with
  | zero => intro t S v vo out w h; have := size_kids t; omega
  | succ n ih =>
    intro t S v vo out w hn hv hS ho hol
    obtain ⟨A, c, rfl, ha⟩ := hv
    cases t with
    | var x => exact ref2_metas_kids n ih (.var x) S _ _ _ A _ c vo out w hn rfl (metasO_kids _ _ (fun _ h => by cases h)) rfl ha hS ho hol
    | mt k =>
      refine (ref2_metas_mt k _ A _ c vo out w ho (by omega)).mono ?_
      rintro e w' ⟨v', h1, h2, h3⟩
      exact ⟨v', h1, by rw [Ty.metasO]; exact h2, h3⟩
    | con k l => exact ref2_metas_kids n ih (.con k l) S _ _ _ A _ c vo out w hn rfl (metasO_kids _ _ (fun _ h => by cases h)) rfl ha hS ho hol
    | fn t u => exact ref2_metas_kids n ih (.fn t u) S _ _ _ A _ c vo out w hn rfl (metasO_kids _ _ (fun _ h => by cases h)) rfl ha hS ho hol
    | all x t => exact ref2_metas_kids n ih (.all x t) S _ _ _ A _ c vo out w hn rfl (metasO_kids _ _ (fun _ h => by cases h)) rfl ha hS ho hol

/-- Metas: the unknowns' numbers, in a row of the call's own, or nil -/
theorem ref2_metas (t : Ty) (S : Nat → Prop) (v : Value) (w : World) (hs : t.size ≤ 100000) (hv : RdV S w t v) (hS : ∀ g, S g → g < w.heap.size) :
    Calls Tryz.prog 29 #[v] w fun e w' => ∃ v', e = .returned v' ∧ RowN w' v' (intV t.metas) ∧ Below w.heap.size w w' := by
  obtain ⟨K, X, Z, A, m, c, rfl, -, -, -, hm, ha⟩ := hv.parts
  have hcall := hidE (fun w' (hv' : RdV S w' t (.agg #[.int .i64 K, .string X, .int .i64 Z, .slice A m c])) hS' => ref2_metasN 100000 t S _ (.slice none 0 0) [] w' hs hv' hS' (RowN.nil w') (by simpa using hs))
  have HV := hidE (hv.keep (S' := S) (w' := w.alloc (.cells #[.int .i64 K, .string X, .int .i64 Z, .slice A m c] 29)) (fun _ h => h) (fun g hg => Below.heap_alloc _ _ _ (hS g hg)))
  have HS := hidE hS
  clear hv hm ha hS
  go_enter Tryz.func29, Tryz.ntmps29
  go_wp2_with (go_at_call 60; refine (hcall.out _ HV.out (fun g hg => by have := HS.out g hg; simp; omega)).mono ?_; rintro e w1 ⟨v1, rfl, hr1, b1⟩)
  go_ret
  exact ⟨_, rfl, hr1, below_pre b1 (Nat.le_refl _)⟩

end Go.Proofs.YtaomnlcplmkokaaGreatDoor

/-
  The document's Parse once more: where the text is no type, the type that comes with the error is the empty one.
-/
namespace Go.Proofs.YtaomnlcplmkokaaGreatDoor
open Go.RowKit Lx Tx
set_option maxRecDepth 100000

def PPostZ (s : List UInt8) (w : World) (e : Ending) (w' : World) : Prop :=
  Below w.heap.size w w' ∧ ∃ K X Z A m c,
    ((∃ n, n ≠ 0 ∧ parse s = .error n ∧ e = .returned (.tuple #[.agg #[.int .i64 0, .string ⟨#[]⟩, .int .i64 0, .slice none 0 0], .int .i64 (n : Nat)])) ∨
     (∃ t, parse s = .ok t ∧ e = .returned (.tuple #[.agg #[.int .i64 K, .string X, .int .i64 Z, .slice A m c], .int .i64 0]) ∧
       RdV (fun g => w.heap.size ≤ g ∧ g < w'.heap.size) w' t (.agg #[.int .i64 K, .string X, .int .i64 Z, .slice A m c])))
theorem ppostz_err (s : List UInt8) (w w' : World) (e : Ending) (n : Nat) (N : Int) (hb : Below w.heap.size w w') (h0 : n ≠ 0) (hp : parse s = .error n) (hN : N = n)
    (he : e = .returned (.tuple #[.agg #[.int .i64 0, .string ⟨#[]⟩, .int .i64 0, .slice none 0 0], .int .i64 N])) : PPostZ s w e w' :=
  ⟨hb, 0, ⟨#[]⟩, 0, none, 0, 0, .inl ⟨n, h0, hp, by rw [he, hN]⟩⟩

set_option maxHeartbeats 1600000 in
theorem ref2_parseZ (s : ByteArray) (w : World) (hs : s.size ≤ maxLen) : Calls Tryz.prog 28 #[.string s] w (PPostZ s.data.toList w) := by
  go_enter Tryz.func28, Tryz.ntmps28
  go_wp2_with fail
  refine (ref_any s _ hs).mono ?_
  rintro e w1 ⟨b1, v, ts, a, er, hsc, rfl, hown⟩
  have hb0 : Blk w1 w.heap.size 29 #[.int .i64 0, .string ⟨#[]⟩, .int .i64 0, .slice none 0 0] := Blk.below (heap_alloc_new _ _) b1 (by simp)
  obtain ⟨a0, a1, a2, a3, r0, r1, r2, r3, hlw⟩ := blk_facts4 hb0
  have HB0 := hidE hb0
  have B1 := hidE b1
  have HSC := hidE hsc
  have HRD := hidE (RdT.of_own hown)
  obtain ⟨P, c, rfl⟩ : ∃ P c, v = .slice P ts.length c := own_shape hown
  clear hb0 b1 hsc hown
  by_cases he : er = 0
  · subst he
    obtain ⟨hG, hL⟩ := scan_good _ _ _ HSC.out
    have HR := hidE (ref2_read ts (.slice P ts.length c) w1 hG (by omega) HRD.out)
    obtain ⟨n, hN⟩ : ∃ n, ts.length = n := ⟨_, rfl⟩
    have HN := hidE hN
    rw [hN] at HR hL ⊢
    clear hN
    go_wp2_with fail
    refine HR.out.mono ?_
    rintro e w2 ⟨b2, K1, X1, Z1, A1, m1, c1, hcases⟩
    have hb0 := HB0.out.below b2 hlw
    obtain ⟨a0, a1, a2, a3, r0, r1, r2, r3, hlw2⟩ := blk_facts4 hb0
    have HC0 := hidE hb0
    have B2 := hidE b2
    have HBEL := hidE (bnext (below_pre B1.out (Nat.le_refl _)) b2 (Nat.le_refl _))
    clear hb0 b2
    rcases hcases with ⟨ho, rfl⟩ | ⟨t, k, hk, hkn, ho, rfl, hr⟩
    · have HP := hidE (parse_bad _ _ _ HSC.out (by rw [ho]; simp))
      have dn : ((-1 : Int) != (n : Int)) = true := neqT _ _ (by omega)
      clear ho
      go_wp2_with fail
      try simp only [Exit.inBlock, Exit.then]
      refine bodyPost_ret (results_ct rfl _ _ w.heap.size 29 _ (0, 0) _ rfl ((blk_set4 _ _ _ _ HC0.out).alloc _) Tryz.underlying29 rfl (by kernel_rfl)) rfl ?_
      exact ppostz_err _ _ _ _ 20 20 ((below_set4 HBEL.out _ _ _ _ (Nat.le_refl _)).alloc (by simp; omega) _) (by decide) HP.out rfl rfl
    · by_cases hkk : k = n
      · have dn : ((k : Int) != (n : Int)) = false := neqF _ _ (by rw [hkk])
        have HP := hidE (parse_some _ _ _ t HSC.out (by rw [ho, List.drop_eq_nil_of_le (by rw [HN.out]; omega)]))
        have HT := hidE hr
        have hts : t.size ≤ 4000 := by
          have := ((read_nm _).1 ts t _ hG ho).2.2
          have := HN.out
          omega
        clear ho hr hkk hG
        have HD := hidE (fun w v hv hS => ref2_depth 1000000 t (fun g => w1.heap.size ≤ g ∧ g < w2.heap.size) v w (by omega) (by omega) hv hS)
        obtain ⟨D, hD⟩ : ∃ D, t.depth = D := ⟨_, rfl⟩
        rw [hD] at HP HD
        clear hD
        go_wp2_with fail
        refine (HD.out _ _ (HT.out.keep (fun _ h => h) (fun g hg => Below.heap_alloc _ _ _ hg.2)) (fun g hg => by simp; omega)).mono ?_
        rintro e w3 ⟨rfl, b3⟩
        have hb0 := (HC0.out.alloc (.cells #[.int .i64 K1, .string X1, .int .i64 Z1, .slice A1 m1 c1] 29)).below b3 (by simp; omega)
        have hb7 : Blk w3 w2.heap.size 29 #[.int .i64 K1, .string X1, .int .i64 Z1, .slice A1 m1 c1] := Blk.below (heap_alloc_new _ _) b3 (by simp)
        obtain ⟨a0, a1, a2, a3, r0, r1, r2, r3, hlw3⟩ := blk_facts4 hb0
        obtain ⟨p0, p1, p2, p3, s0, s1, s2, s3, hlx3⟩ := blk_facts4 hb7
        have HE0 := hidE hb0
        have hbel3 := hidE (bnext HBEL.out (below_pre b3 (Nat.le_refl _)) (by have := HBEL.out.size; omega))
        have HT3 := hidE (HT.out.keep (S' := fun g => w1.heap.size ≤ g ∧ g < w2.heap.size) (fun _ h => h) (fun g hg => (below_pre b3 (Nat.le_refl _)).block g hg.2))
        have hsz3 := (below_pre b3 (Nat.le_refl _)).size
        have hsz1 := HBEL.out.size
        have hsz0 := (below_pre B1.out (Nat.le_refl _)).size
        clear hb0 hb7 b3
        by_cases hd : 50 < D
        · have dd : decide ((50 : Int) < (D : Int)) = true := decide_eq_true (by omega)
          have HP := hidE (HP.out.trans (if_pos hd))
          clear hd
          go_wp2_with fail
          try simp only [Exit.inBlock, Exit.then]
          refine bodyPost_ret (results_ct rfl _ _ w.heap.size 29 _ (0, 0) _ rfl (blk_set4 _ _ _ _ HE0.out) Tryz.underlying29 rfl (by kernel_rfl)) rfl ?_
          exact ppostz_err _ _ _ _ 3 3 (below_set4 hbel3.out _ _ _ _ (Nat.le_refl _)) (by decide) HP.out rfl rfl
        · have dd : decide ((50 : Int) < (D : Int)) = false := decide_eq_false (by omega)
          have HP := hidE (HP.out.trans (if_neg hd))
          clear hd
          go_wp2_with fail
          try simp only [Exit.inBlock, Exit.then]
          refine bodyPost_ret (results_ct rfl _ _ w.heap.size 29 _ (0, 0) _ rfl (blk_set4 _ _ _ _ HE0.out) Tryz.underlying29 rfl (by kernel_rfl)) rfl ?_
          refine ⟨below_set4 hbel3.out _ _ _ _ (Nat.le_refl _), K1, X1, Z1, A1, m1, c1, .inr ⟨t, HP.out, rfl, ?_⟩⟩
          exact HT3.out.keep (fun g hg => by simp; omega) (fun g hg => heap_set4 _ _ _ _ _ _ _ (by omega))
      · have dn : ((k : Int) != (n : Int)) = true := neqT _ _ (by omega)
        have HP := hidE (parse_bad _ _ _ HSC.out (by
          rw [ho]
          intro t' e
          injection e with e
          injection e with _ e
          have := congrArg List.length e
          rw [List.length_drop, HN.out] at this
          simp at this
          rw [HN.out] at hkn
          omega))
        clear ho hr hkk
        go_wp2_with fail
        try simp only [Exit.inBlock, Exit.then]
        refine bodyPost_ret (results_ct rfl _ _ w.heap.size 29 _ (0, 0) _ rfl ((blk_set4 _ _ _ _ HC0.out).alloc _) Tryz.underlying29 rfl (by kernel_rfl)) rfl ?_
        exact ppostz_err _ _ _ _ 20 20 ((below_set4 HBEL.out _ _ _ _ (Nat.le_refl _)).alloc (by simp; omega) _) (by decide) HP.out rfl rfl
  · have de := neqT (er : Int) 0 (by omega)
    have HP := hidE (parse_err _ _ _ _ HSC.out he)
    have HE := hidE he
    clear he
    go_wp2_with fail
    try simp only [Exit.inBlock, Exit.then]
    refine bodyPost_ret (results_ct rfl _ _ w.heap.size 29 _ (0, 0) _ rfl (blk_set4 _ _ _ _ HB0.out) Tryz.underlying29 rfl (by kernel_rfl)) rfl ?_
    exact ppostz_err _ _ _ _ er er (below_set4 (below_pre B1.out (Nat.le_refl _)) _ _ _ _ (Nat.le_refl _)) HE.out HP.out rfl rfl

set_option maxHeartbeats 800000 in
/-- the empty type has no unknowns -/
theorem ref2_metasZ0 (w : World) : Calls Tryz.prog 60 #[.agg #[.int .i64 0, .string ⟨#[]⟩, .int .i64 0, .slice none 0 0], .slice none 0 0] w fun e w' => e = .returned (.slice none 0 0) ∧ Below w.heap.size w w' := by
  go_enter Tryz.func60, Tryz.ntmps60
  go_wp2_with fail
  go_loopg [1, 6] 0 (fun gg (vo vi : Value) wr => gg = 0 ∧ vo = .slice none 0 0 ∧ vi = .int .i64 0 ∧ wr = w.alloc (.cells #[.int .i64 0, .string ⟨#[]⟩, .int .i64 0, .slice none 0 0] 29))
  case atStart => exact ⟨rfl, rfl, rfl, rfl⟩
  case round =>
    obtain ⟨hgg, rfl, rfl, rfl⟩ := hrel
    go_wp2_with fail
    go_ret
    exact ⟨rfl, (Below.refl _ w).alloc (Nat.le_refl _) _⟩
set_option maxHeartbeats 800000 in
theorem ref2_metasZ (w : World) : Calls Tryz.prog 29 #[.agg #[.int .i64 0, .string ⟨#[]⟩, .int .i64 0, .slice none 0 0]] w fun e w' => e = .returned (.slice none 0 0) ∧ Below w.heap.size w w' := by
  go_enter Tryz.func29, Tryz.ntmps29
  go_wp2_with fail
  refine (ref2_metasZ0 _).mono ?_
  rintro e w1 ⟨rfl, b1⟩
  go_wp2_with fail
  go_ret
  exact ⟨rfl, below_pre b1 (Nat.le_refl _)⟩

end Go.Proofs.YtaomnlcplmkokaaGreatDoor
