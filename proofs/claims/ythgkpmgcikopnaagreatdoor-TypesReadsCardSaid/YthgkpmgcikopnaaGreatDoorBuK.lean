/-
  Package types and what it stands on: contracts of the code's functions, part 11.
-/
import Derived.Test.YthgkpmgcikopnaaGreatDoorBuG
import Derived.Test.YthgkpmgcikopnaaGreatDoorBuF
import Derived.Laws.IdiomStrings
import Derived.Deep.RegionWith
import Derived.Deep.RegionHeld3
import Derived.Deep.AppendLies
import Derived.IntWalk
/-
  Small lemmas on types that are written, gone through, numbered: for every walk over types.
-/
namespace Go.Proofs.YthgkpmgcikopnaaGreatDoor
open Go.RowKit Lx Tx
set_option maxRecDepth 100000

theorem decF_more (f g n : Nat) (hf : n < 10 ^ f) (hg : n < 10 ^ g) (h1 : 1 ≤ f) (h2 : 1 ≤ g) : decF f n = decF g n := by
  induction f generalizing g n with
  | zero => omega
  | succ f ih =>
    obtain ⟨g, rfl⟩ : ∃ k, g = k + 1 := ⟨g - 1, by omega⟩
    rw [decF, decF]
    split
    · rfl
    · rename_i hn
      rw [Nat.pow_succ] at hf hg
      have hf1 : 1 ≤ f := by
        rcases Nat.eq_zero_or_pos f with e | e
        · subst e; simp at hf; omega
        · exact e
      have hg1 : 1 ≤ g := by
        rcases Nat.eq_zero_or_pos g with e | e
        · subst e; simp at hg; omega
        · exact e
      rw [ih g (n / 10) (by omega) (by omega) hf1 hg1]

theorem ret_string {a b : ByteArray} (h : a = b) : Ending.returned (.string a) = .returned (.string b) := by rw [h]

theorem app_mk (l : List UInt8) (b : UInt8) : ((⟨l.toArray⟩ : ByteArray) ++ (⟨#[b]⟩ : ByteArray)) = ⟨(l ++ [b]).toArray⟩ := by
  apply ByteArray.ext
  simp

theorem printL_snoc (l : List Ty) (t : Ty) : printL (l ++ [t]) = printL l ++ (if t.big then 32 :: 40 :: (t.print ++ [41]) else 32 :: t.print) := by
  induction l with
  | nil => simp [printL]
  | cons a r ih => rw [List.cons_append, printL, printL, ih]; simp

theorem printL_take (l : List Ty) (i : Nat) (hi : i < l.length) : printL (l.take (i + 1)) = printL (l.take i) ++ (if l[i].big then 32 :: 40 :: (l[i].print ++ [41]) else 32 :: l[i].print) := by
  rw [take_snoc l i hi, printL_snoc]

theorem printL_take_le (l : List Ty) (i : Nat) : (printL (l.take i)).length ≤ (printL l).length := by
  induction l generalizing i with
  | nil => simp
  | cons t r ih =>
    cases i with
    | zero => simp [printL]
    | succ i => rw [List.take_succ_cons, printL, printL]; have := ih i; simp; omega

theorem printL_kid (l : List Ty) (i : Nat) (hi : i < l.length) : l[i].print.length < (printL l).length := by
  induction l generalizing i with
  | nil => simp at hi
  | cons t r ih =>
    rw [printL]
    cases i with
    | zero =>
      simp only [List.getElem_cons_zero, List.length_append]
      split
      · simp; omega
      · simp; omega
    | succ i => have := ih i (by simpa using hi); simp; omega

/-- the kinds of a type in parentheses, as they are asked -/
theorem big_ways (t : Ty) (h : t.big = true) : ((kd t : Int) == 4) = true ∨ (((kd t : Int) == 4) = false ∧ ((kd t : Int) == 5) = true) ∨ (((kd t : Int) == 4) = false ∧ ((kd t : Int) == 5) = false ∧ ((kd t : Int) == 3) = true ∧ 0 < (kids t).length) := by
  cases t with
  | var x => simp [Ty.big] at h
  | mt n => simp [Ty.big] at h
  | con c l =>
    cases l with
    | nil => simp [Ty.big] at h
    | cons a r => exact .inr (.inr ⟨rfl, rfl, rfl, by simp [kids]⟩)
  | fn a b => exact .inl rfl
  | all x t => exact .inr (.inl ⟨rfl, rfl⟩)

theorem small_ways (t : Ty) (h : t.big = false) : ((kd t : Int) == 4) = false ∧ ((kd t : Int) == 5) = false ∧ (((kd t : Int) == 3) = false ∨ (((kd t : Int) == 3) = true ∧ (kids t).length = 0)) := by
  cases t with
  | var x => exact ⟨rfl, rfl, .inl rfl⟩
  | mt n => exact ⟨rfl, rfl, .inl rfl⟩
  | con c l =>
    cases l with
    | nil => exact ⟨rfl, rfl, .inr ⟨rfl, rfl⟩⟩
    | cons a r => simp [Ty.big] at h
  | fn a b => simp [Ty.big] at h
  | all x t => simp [Ty.big] at h

theorem nm_kid {t : Ty} (h : Nm t) (i : Nat) (hi : i < (kids t).length) : Nm (kids t)[i] := by
  cases h with
  | var x _ => simp [kids] at hi
  | mt n _ => simp [kids] at hi
  | con c l _ hl => exact hl _ (List.getElem_mem hi)
  | fn a b ha hb =>
    match i, hi with
    | 0, _ => exact ha
    | 1, _ => exact hb
    | i + 2, hi => exact absurd hi (by simp [kids])
  | all x t _ ht =>
    match i, hi with
    | 0, _ => exact ht
    | i + 1, hi => simp [kids] at hi

theorem app_q (l : List UInt8) : ((⟨#[63]⟩ : ByteArray) ++ (⟨l.toArray⟩ : ByteArray)) = ⟨(63 :: l).toArray⟩ := by
  apply ByteArray.ext
  simp

theorem cat_small (a p : List UInt8) : (⟨a.toArray⟩ : ByteArray) ++ (⟨#[32]⟩ : ByteArray) ++ (⟨p.toArray⟩ : ByteArray) = ⟨(a ++ 32 :: p).toArray⟩ := by
  apply ByteArray.ext
  simp

theorem cat_big (a p : List UInt8) : (⟨a.toArray⟩ : ByteArray) ++ (⟨#[32, 40]⟩ : ByteArray) ++ (⟨p.toArray⟩ : ByteArray) ++ (⟨#[41]⟩ : ByteArray) = ⟨(a ++ 32 :: 40 :: (p ++ [41])).toArray⟩ := by
  apply ByteArray.ext
  simp

theorem mk_size (l : List UInt8) : (⟨l.toArray⟩ : ByteArray).size = l.length := rfl

/-- the cells of the i-th argument, and what is to be known of it -/
theorem kid_cells2 {S : Nat → Prop} {w w' : World} {t : Ty} {A : Option Addr} {i m : Nat} (h : Args S w t A) (hm : (kids t).length = m) (hi : i < m) (hk : ∀ g, S g → w'.heap[g]? = w.heap[g]?) :
    ∃ g u K X Z A1 n1 c1, A = some ⟨g, 0, none⟩ ∧ S g ∧ w'.cell? ⟨g, i * 4, none⟩ = some (.int .i64 K) ∧ w'.cell? ⟨g, i * 4 + 1, none⟩ = some (.string X) ∧ w'.cell? ⟨g, i * 4 + 2, none⟩ = some (.int .i64 Z) ∧
      w'.cell? ⟨g, i * 4 + 3, none⟩ = some (.slice A1 n1 c1) ∧ (∃ hi : i < (kids t).length, (kids t)[i] = u) ∧ RdV S w' u (.agg #[.int .i64 K, .string X, .int .i64 Z, .slice A1 n1 c1]) ∧ u.size < t.size ∧ K = (kd u : Nat) ∧ n1 = (kids u).length := by
  subst hm
  obtain ⟨g, h1, h2, A1, c1, h3, h4⟩ := h.kid i hi
  obtain ⟨e0, e1, e2, e3⟩ := h3.keep (hk g h2)
  exact ⟨g, (kids t)[i], _, _, _, A1, _, c1, h1, h2, e0, e1, e2, e3, ⟨hi, rfl⟩, ⟨A1, c1, rfl, h4.keep (fun _ h => h) hk⟩, kid_size t i hi, rfl, rfl⟩

theorem fa_ways (t : Ty) (h : t.isFA = true) : ((kd t : Int) == 4) = true ∨ (((kd t : Int) == 4) = false ∧ ((kd t : Int) == 5) = true) := by
  cases t with
  | var x => simp [Ty.isFA] at h
  | mt n => simp [Ty.isFA] at h
  | con c l => simp [Ty.isFA] at h
  | fn a b => exact .inl rfl
  | all x t => exact .inr ⟨rfl, rfl⟩

theorem fa_not (t : Ty) (h : t.isFA = false) : ((kd t : Int) == 4) = false ∧ ((kd t : Int) == 5) = false := by
  cases t with
  | var x => exact ⟨rfl, rfl⟩
  | mt n => exact ⟨rfl, rfl⟩
  | con c l => exact ⟨rfl, rfl⟩
  | fn a b => simp [Ty.isFA] at h
  | all x t => simp [Ty.isFA] at h

theorem cat_arrow (p q : List UInt8) : (⟨p.toArray⟩ : ByteArray) ++ (⟨#[32, 45, 62, 32]⟩ : ByteArray) ++ (⟨q.toArray⟩ : ByteArray) = ⟨(p ++ [32, 45, 62, 32] ++ q).toArray⟩ := by
  apply ByteArray.ext
  simp

theorem cat_arrow2 (p q : List UInt8) : (⟨#[40]⟩ : ByteArray) ++ (⟨p.toArray⟩ : ByteArray) ++ (⟨#[41, 32, 45, 62, 32]⟩ : ByteArray) ++ (⟨q.toArray⟩ : ByteArray) = ⟨(40 :: (p ++ [41]) ++ [32, 45, 62, 32] ++ q).toArray⟩ := by
  apply ByteArray.ext
  simp

/-- the parts of a type's value in memory, with the cells by names -/
theorem cell4_parts {S : Nat → Prop} {w : World} {u : Ty} {A : Option Addr} {c g o : Nat} (h : Cell4 w u A c g o) (ha : Args S w u A) :
    ∃ K X Z n, w.cell? ⟨g, o, none⟩ = some (.int .i64 K) ∧ w.cell? ⟨g, o + 1, none⟩ = some (.string X) ∧ w.cell? ⟨g, o + 2, none⟩ = some (.int .i64 Z) ∧ w.cell? ⟨g, o + 3, none⟩ = some (.slice A n c) ∧
      RdV S w u (.agg #[.int .i64 K, .string X, .int .i64 Z, .slice A n c]) ∧ K = (kd u : Nat) ∧ n = (kids u).length :=
  ⟨_, _, _, _, h.1, h.2.1, h.2.2.1, h.2.2.2, ⟨A, c, rfl, ha⟩, rfl, rfl⟩

theorem not_all (u : Ty) (h : ¬ ∃ y t, u = .all y t) : ((kd u : Int) == 5) = false ∧ printA u = [46, 32] ++ u.print := by
  refine ⟨?_, printA_other u (fun y t e => h ⟨y, t, e⟩)⟩
  cases u with
  | all y t => exact absurd ⟨y, t, rfl⟩ h
  | var x => rfl
  | mt k => rfl
  | con c l => rfl
  | fn a b => rfl

theorem cat_name (a y : List UInt8) (X Y : ByteArray) (hX : X.data.toList = a) (hY : Y = ⟨y.toArray⟩) : (X ++ (⟨#[32]⟩ : ByteArray) ++ Y).data.toList = a ++ 32 :: y := by
  subst hX hY
  simp

theorem cat_last (p : List UInt8) (X : ByteArray) : X ++ (⟨#[46, 32]⟩ : ByteArray) ++ (⟨p.toArray⟩ : ByteArray) = ⟨(X.data.toList ++ ([46, 32] ++ p)).toArray⟩ := by
  apply ByteArray.ext
  simp

theorem all_open {S : Nat → Prop} {w : World} {y : List UInt8} {u : Ty} {K Z : Int} {X : ByteArray} {A : Option Addr} {m c : Nat} (h : RdV S w (.all y u) (.agg #[.int .i64 K, .string X, .int .i64 Z, .slice A m c])) :
    K = 5 ∧ X = ⟨y.toArray⟩ ∧ m = 1 ∧ ∃ g, A = some ⟨g, 0, none⟩ ∧ S g ∧ ∃ K1 X1 Z1 A1 n1 c1, w.cell? ⟨g, 0, none⟩ = some (.int .i64 K1) ∧ w.cell? ⟨g, 1, none⟩ = some (.string X1) ∧ w.cell? ⟨g, 2, none⟩ = some (.int .i64 Z1) ∧ w.cell? ⟨g, 3, none⟩ = some (.slice A1 n1 c1) ∧
      RdV S w u (.agg #[.int .i64 K1, .string X1, .int .i64 Z1, .slice A1 n1 c1]) := by
  obtain ⟨A', c', hv, ha⟩ := h
  injection hv with hv
  have hv := congrArg Array.toList hv
  simp only [List.cons.injEq, Value.int.injEq, Value.string.injEq, Value.slice.injEq, and_true, true_and] at hv
  obtain ⟨rfl, rfl, rfl, rfl, rfl, rfl⟩ := hv
  rw [Args] at ha
  obtain ⟨g, rfl, hg, A1, c1, h1, r1⟩ := ha
  obtain ⟨K1, X1, Z1, n1, e0, e1, e2, e3, rd1, -, -⟩ := cell4_parts h1 r1
  exact ⟨rfl, rfl, rfl, g, rfl, hg, K1, X1, Z1, A1, n1, c1, e0, e1, e2, e3, rd1⟩

theorem rd_kind {S : Nat → Prop} {w : World} {u : Ty} {K Z : Int} {X : ByteArray} {A : Option Addr} {m c : Nat} (h : RdV S w u (.agg #[.int .i64 K, .string X, .int .i64 Z, .slice A m c])) : K = (kd u : Nat) ∧ m = (kids u).length := by
  obtain ⟨A', c', hv, ha⟩ := h
  injection hv with hv
  have hv := congrArg Array.toList hv
  simp only [List.cons.injEq, Value.int.injEq, Value.string.injEq, Value.slice.injEq, and_true, true_and] at hv
  exact ⟨hv.1, hv.2.2.2.2.1⟩

theorem poly_kids (t : Ty) : t.poly = (decide (kd t = 5) || polyL (kids t)) := by
  cases t <;> simp [Ty.poly, kd, kids, polyL]

theorem polyL_snoc (l : List Ty) (t : Ty) : polyL (l ++ [t]) = (polyL l || t.poly) := by
  induction l with
  | nil => simp [polyL]
  | cons a r ih => rw [List.cons_append, polyL, polyL, ih, Bool.or_assoc]

theorem polyL_take (l : List Ty) (i : Nat) (u : Ty) (h : Hid (polyL (l.take i) = false)) (hu : l[i]? = some u) : polyL (l.take (i + 1)) = u.poly := by
  obtain ⟨hi, e⟩ := List.getElem?_eq_some_iff.1 hu
  rw [take_snoc l i hi, polyL_snoc, e, h.out]; simp

theorem polyL_at (l : List Ty) (i : Nat) (u : Ty) (hu : l[i]? = some u) (h : u.poly = true) : polyL l = true := by
  induction l generalizing i with
  | nil => simp at hu
  | cons a r ih =>
    rw [polyL]
    cases i with
    | zero => simp at hu; rw [hu, h]; rfl
    | succ i => rw [ih i (by simpa using hu)]; simp

/-- a row of values, nil if there are none -/
def RowN (w : World) (v : Value) (l : List Value) : Prop := RowV w v l ∧ (l = [] → v = .slice none 0 0)

theorem RowN.below {w w' : World} {v : Value} {l : List Value} (h : RowN w v l) (hb : Below w.heap.size w w') : RowN w' v l := ⟨h.1.below hb, h.2⟩

theorem RowN.nil (w : World) : RowN w (.slice none 0 0) [] := ⟨⟨none, 0, rfl, fun h => by simp at h⟩, fun _ => rfl⟩

theorem RowN.of_own {w : World} {base n : Nat} {v : Value} {l : List Value} {e : TypeId} (h : w.ownsRow base e 1 v n l) (hn : l ≠ []) : RowN w v l := ⟨RowV.of_own h, fun e => absurd e hn⟩

theorem alloc_at (w : World) (o : Obj) (g : Nat) (hg : g = w.heap.size) : (w.alloc o).heap[g]? = some o := by
  subst hg; exact heap_alloc_new w o

theorem alloc_below (w : World) (o : Obj) (g : Nat) (x : Obj) (h : w.heap[g]? = some x) : (w.alloc o).heap[g]? = some x :=
  (Below.heap_alloc w o g (lt_of_block h)).trans h

theorem owns_empty {w : World} {base b : Nat} {e : TypeId} (h : w.heap[b]? = some (.cells #[] e (0, 0))) (hb : base ≤ b) : w.ownsRow base e 1 (.slice (some ⟨b, 0, none⟩) 0 0) 0 [] :=
  ⟨rfl, .inr ⟨b, 0, #[], rfl, hb, h, Nat.le_refl _, by unfold maxLen; omega, rfl, rfl⟩⟩

theorem strV_snoc (l : List (List UInt8)) (x : List UInt8) : strV (l ++ [x]) = strV l ++ [.string ⟨x.toArray⟩] := by simp [strV]

theorem one_strV (l : List (List UInt8)) : ∀ u ∈ strV l, u.oneCell' = true := by
  intro u hu
  obtain ⟨x, _, rfl⟩ := List.mem_map.1 hu
  rfl

theorem rown_snoc {w : World} {base n : Nat} {v : Value} {xs : List Value} {e : TypeId} (out : List (List UInt8)) (x : List UInt8) (X : ByteArray) (h : w.ownsRow base e 1 v n xs) (hX : (⟨x.toArray⟩ : ByteArray) = X) (hxs : xs = strV out ++ [.string X]) : RowN w v (strV (out ++ [x])) := by
  rw [strV_snoc, hX, ← hxs]
  exact RowN.of_own h (by rw [hxs]; simp)

def bnd (t : Ty) (b : List (List UInt8)) : List (List UInt8) :=
  match t with
  | .all x _ => b ++ [x]
  | _ => b

theorem freeO_kids (t : Ty) (b out : List (List UInt8)) (h : ∀ x, t ≠ .var x) : t.freeO b out = freeOL (bnd t b) (kids t) out := by
  cases t with
  | var x => exact absurd rfl (h x)
  | mt n => rw [Ty.freeO, kids, freeOL]
  | con c l => rw [Ty.freeO, kids]; rfl
  | fn a c => rw [Ty.freeO, kids, freeOL, freeOL, freeOL]; rfl
  | all x t => rw [Ty.freeO, kids, freeOL, freeOL]; rfl

theorem freeOL_snoc (b : List (List UInt8)) (l : List Ty) (t : Ty) (out : List (List UInt8)) : freeOL b (l ++ [t]) out = t.freeO b (freeOL b l out) := by
  induction l generalizing out with
  | nil => simp [freeOL]
  | cons a r ih => rw [List.cons_append, freeOL, freeOL, ih]

theorem freeOL_take (b : List (List UInt8)) (l : List Ty) (i : Nat) (u : Ty) (out o : List (List UInt8)) (h : Hid (o = freeOL b (l.take i) out)) (hu : l[i]? = some u) : u.freeO b o = freeOL b (l.take (i + 1)) out := by
  obtain ⟨hi, e⟩ := List.getElem?_eq_some_iff.1 hu
  rw [take_snoc l i hi, freeOL_snoc, e, h.out]

mutual
theorem freeO_len (b : List (List UInt8)) : (t : Ty) → ∀ out, (t.freeO b out).length ≤ out.length + t.size
  | .var x, out => by
    rw [Ty.freeO, Ty.size]
    split
    · omega
    · exact addN_len x out
  | .mt n, out => by rw [Ty.freeO, Ty.size]; omega
  | .con c l, out => by rw [Ty.freeO, Ty.size]; have := freeOL_len b l out; omega
  | .fn t u, out => by rw [Ty.freeO, Ty.size]; have := freeO_len b t out; have := freeO_len b u (t.freeO b out); omega
  | .all x t, out => by rw [Ty.freeO, Ty.size]; have := freeO_len (b ++ [x]) t out; omega
theorem freeOL_len (b : List (List UInt8)) : (l : List Ty) → ∀ out, (freeOL b l out).length ≤ out.length + sizeL l
  | [], out => by rw [freeOL, sizeL]; omega
  | t :: r, out => by rw [freeOL, sizeL]; have := freeO_len b t out; have := freeOL_len b r (t.freeO b out); omega
end

theorem sizeL_take (l : List Ty) (i : Nat) : sizeL (l.take i) + sizeL (l.drop i) = sizeL l := by
  induction l generalizing i with
  | nil => simp [sizeL]
  | cons t r ih =>
    cases i with
    | zero => simp [sizeL]
    | succ i => rw [List.take_succ_cons, List.drop_succ_cons, sizeL, sizeL]; have := ih i; omega

def FreePost (t : Ty) (b out : List (List UInt8)) (w : World) (e : Ending) (w' : World) : Prop :=
  ∃ v', e = .returned v' ∧ RowN w' v' (strV (t.freeO b out)) ∧ Below w.heap.size w w'

theorem intV_snoc (l : List Nat) (x : Nat) : intV (l ++ [x]) = intV l ++ [.int .i64 (x : Nat)] := by simp [intV]

theorem rown_snocI {w : World} {base n : Nat} {v : Value} {xs : List Value} {e : TypeId} (out : List Nat) (x : Nat) (h : w.ownsRow base e 1 v n xs) (hxs : xs = intV out ++ [.int .i64 (x : Nat)]) : RowN w v (intV (out ++ [x])) := by
  rw [intV_snoc, ← hxs]
  exact RowN.of_own h (by rw [hxs]; simp)

theorem one_intV (l : List Nat) : ∀ u ∈ intV l, u.oneCell' = true := by
  intro u hu
  obtain ⟨x, _, rfl⟩ := List.mem_map.1 hu
  rfl

theorem drewN_add (w : World) (a b : Nat) : w.drewN (a + b) = (w.drewN a).drewN b := by
  unfold World.drewN
  simp [Nat.add_assoc]

theorem metasO_kids (t : Ty) (out : List Nat) (h : ∀ n, t ≠ .mt n) : t.metasO out = metasOL (kids t) out := by
  cases t with
  | var x => rw [Ty.metasO, kids, metasOL]
  | mt n => exact absurd rfl (h n)
  | con c l => rw [Ty.metasO, kids]
  | fn a c => rw [Ty.metasO, kids, metasOL, metasOL, metasOL]
  | all x t => rw [Ty.metasO, kids, metasOL, metasOL]

theorem metasOL_snoc (l : List Ty) (t : Ty) (out : List Nat) : metasOL (l ++ [t]) out = t.metasO (metasOL l out) := by
  induction l generalizing out with
  | nil => simp [metasOL]
  | cons a r ih => rw [List.cons_append, metasOL, metasOL, ih]

theorem metasOL_take (l : List Ty) (i : Nat) (u : Ty) (out o : List Nat) (h : Hid (o = metasOL (l.take i) out)) (hu : l[i]? = some u) : u.metasO o = metasOL (l.take (i + 1)) out := by
  obtain ⟨hi, e⟩ := List.getElem?_eq_some_iff.1 hu
  rw [take_snoc l i hi, metasOL_snoc, e, h.out]

theorem addN_lenI (x : Nat) (l : List Nat) : (addN x l).length ≤ l.length + 1 := by
  unfold addN; split <;> simp

mutual
theorem metasO_len : (t : Ty) → ∀ out, (t.metasO out).length ≤ out.length + t.size
  | .var x, out => by rw [Ty.metasO, Ty.size]; omega
  | .mt n, out => by rw [Ty.metasO, Ty.size]; exact addN_lenI n out
  | .con c l, out => by rw [Ty.metasO, Ty.size]; have := metasOL_len l out; omega
  | .fn t u, out => by rw [Ty.metasO, Ty.size]; have := metasO_len t out; have := metasO_len u (t.metasO out); omega
  | .all x t, out => by rw [Ty.metasO, Ty.size]; have := metasO_len t out; omega
theorem metasOL_len : (l : List Ty) → ∀ out, (metasOL l out).length ≤ out.length + sizeL l
  | [], out => by rw [metasOL, sizeL]; omega
  | t :: r, out => by rw [metasOL, sizeL]; have := metasO_len t out; have := metasOL_len r (t.metasO out); omega
end

def MetasPost (t : Ty) (out : List Nat) (w : World) (e : Ending) (w' : World) : Prop :=
  ∃ v', e = .returned v' ∧ RowN w' v' (intV (t.metasO out)) ∧ Below w.heap.size w w'

/-- the names that are bound, and what they are called, as a value: the innermost last -/
def NmV (w : World) (v : Value) (xs ys : List (List UInt8)) : Prop := ∃ F T, v = .agg #[F, T] ∧ RowN w F (strV xs.reverse) ∧ RowN w T (strV ys.reverse)

theorem NmV.below {w w' : World} {v : Value} {xs ys : List (List UInt8)} (h : NmV w v xs ys) (hb : Below w.heap.size w w') : NmV w' v xs ys := by
  obtain ⟨F, T, rfl, h1, h2⟩ := h
  exact ⟨F, T, rfl, h1.below hb, h2.below hb⟩

/-- what numbered leaves -/
def NPost (o : Ty × Nat) (w : World) (e : Ending) (w' : World) : Prop :=
  Below w.heap.size w w' ∧ ∃ K X Z A m c, e = .returned (.tuple #[.agg #[.int .i64 K, .string X, .int .i64 Z, .slice A m c], .int .i64 (o.2 : Nat)]) ∧
    RdV (fun g => w.heap.size ≤ g ∧ g < w'.heap.size) w' o.1 (.agg #[.int .i64 K, .string X, .int .i64 Z, .slice A m c])

theorem idx_at (x : List UInt8) (xs : List (List UInt8)) (j : Nat) (hj : j < xs.length) (hn : x ∉ xs.take j) (he : xs[j] = x) : idx x xs = some j := by
  induction xs generalizing j with
  | nil => simp at hj
  | cons y r ih =>
    cases j with
    | zero => simp at he; rw [idx, if_pos he.symm]
    | succ j =>
      rw [List.take_succ_cons, List.mem_cons, not_or] at hn
      rw [idx, if_neg hn.1, ih j (by simpa using hj) hn.2 (by simpa using he)]
      rfl

theorem rev_at (xs : List (List UInt8)) (i : Nat) (hi : i < xs.length) : xs.reverse[i]'(by simpa using hi) = xs[xs.length - 1 - i] := by
  rw [List.getElem_reverse]

end Go.Proofs.YthgkpmgcikopnaaGreatDoor

/-
  The walks over Decimal, number, Has, Is of the document's answer for types.
-/
namespace Go.Proofs.YthgkpmgcikopnaaGreatDoor
open Go.RowKit Lx Tx
set_option maxRecDepth 100000

/-- a slice of one byte, as a string -/
theorem conv_byte (W : World) (x : Int) (b : UInt8) (hx : x = b.toNat) :
    (convert 79 9 (.slice (some ⟨W.heap.size, 0, none⟩) 1 1)).run Tryz.prog (W.alloc (.cells #[.int .u8 x] 5)) = .ok (.string ⟨#[b]⟩) (W.alloc (.cells #[.int .u8 x] 5)) := by
  subst hx
  refine run_convert_bytes_back (W.alloc (.cells #[.int .u8 (b.toNat : Int)] 5)) 79 9 5 ⟨W.heap.size, 0, none⟩ 1 [b] Tryz.underlying79 Tryz.underlying5 Tryz.underlying9 ?_
  intro j hj
  simp at hj
  subst hj
  rw [show (⟨W.heap.size, 0, none⟩ : Addr).add 0 = ⟨W.heap.size, 0, none⟩ from rfl, cell_of_row _ _ _ _ 5 (0, 0) (heap_alloc_new _ _)]
  rfl

/-- the same, wherever that byte lies -/
theorem conv_cell (W : World) (g : Nat) (x : Int) (b : UInt8) (hx : x = b.toNat) (hc : W.cell? ⟨g, 0, none⟩ = some (.int .u8 x)) :
    (convert 79 9 (.slice (some ⟨g, 0, none⟩) 1 1)).run Tryz.prog W = .ok (.string ⟨#[b]⟩) W := by
  subst hx
  refine run_convert_bytes_back W 79 9 5 ⟨g, 0, none⟩ 1 [b] Tryz.underlying79 Tryz.underlying5 Tryz.underlying9 ?_
  intro j hj
  simp at hj
  subst hj
  rw [show (⟨g, 0, none⟩ : Addr).add 0 = ⟨g, 0, none⟩ from rfl]
  exact hc

set_option maxHeartbeats 400000 in
theorem ref2_decF (f : Nat) : ∀ (n : Nat) (w : World), n < 10 ^ f → n < 10 ^ 18 → 1 ≤ f → f ≤ 20 →
    Calls Tryz.prog 51 #[.int .i64 n] w fun e w' => e = .returned (.string ⟨(decF f n).toArray⟩) ∧ Below w.heap.size w w' := by
  induction f with
  | zero => intro n w _ _ h; omega
  | succ f ih =>
    intro n w hn h18 _ hf20
    by_cases h10 : n < 10
    · have hconv := fun W => conv_byte W (48 + (n : Int)) (digit n) (by rw [digit_nat]; omega)
      have hd := hidE (show decF (f + 1) n = [digit n] by rw [decF, if_pos h10])
      clear ih hn
      go_enter Tryz.func51, Tryz.ntmps51
      go_wp2_with fail
      go_ret
      exact ⟨ret_string (by rw [hd.out]), (Below.refl _ _).alloc (Nat.le_refl _) _⟩
    · obtain ⟨m, hm⟩ : ∃ m, n / 10 = m := ⟨_, rfl⟩
      obtain ⟨d, hd0⟩ : ∃ d, n % 10 = d := ⟨_, rfl⟩
      have hd := hidE (show decF (f + 1) n = decF f m ++ [digit n] by rw [decF, if_neg h10, hm])
      have hf : 1 ≤ f := by
        rcases Nat.eq_zero_or_pos f with e | e
        · subst e; simp at hn; omega
        · exact e
      have hconv := fun W g => conv_cell W g (48 + (d : Int)) (digit n) (by rw [digit_nat, hd0]; omega)
      have IH := fun w => ih m w (by rw [Nat.pow_succ] at hn; omega) (by omega) hf (by omega)
      have hlen : (decF f m).length ≤ 20 := decF_len f 20 m (by omega) (by omega)
      obtain ⟨D, hD⟩ : ∃ D : ByteArray, ⟨(decF f m).toArray⟩ = D := ⟨_, rfl⟩
      have hDz : D.size ≤ 20 := by rw [← hD]; exact hlen
      rw [hD] at IH
      have HD := hidE hD
      have q1 : IntKind.i64.wrap ((n : Int) / 10) = (m : Int) := by rw [IntWalk.i64_in _ (by omega)]; omega
      have q2 : (n : Int).tmod 10 = (d : Int) := by rw [Int.tmod_eq_emod_of_nonneg (by omega)]; omega
      have q3 : IntKind.i64.wrap (48 + (d : Int)) = 48 + (d : Int) := IntWalk.i64_in _ (by omega)
      have q4 : IntKind.u8.wrap (48 + (d : Int)) = 48 + (d : Int) := by simp [IntKind.wrap, IntKind.signed, IntKind.bits]; omega
      have hd9 : d ≤ 9 := by omega
      clear ih hn hD hlen hm hd0
      go_enter Tryz.func51, Tryz.ntmps51
      go_wp2_with fail
      go_region_with (go_at_call 51; (with_reducible refine (IH _).mono ?_); rintro e w1 ⟨rfl, b1⟩; have B1 := hidE b1; (try have hc : w1.cell? ⟨w.heap.size, 0, none⟩ = some (.int .u8 (48 + (d : Int))) := (b1.cell (p := ⟨w.heap.size, 0, none⟩) (by simp)).trans (cell_of_row _ _ _ _ _ _ (heap_alloc_new _ _))); clear b1)
      all_goals (go_wp2_with fail; go_ret)
      · have B : Below w.heap.size w w1 := (Below.refl w.heap.size w).drew.trans B1.out
        exact ⟨ret_string (by rw [hd.out, ← HD.out, app_mk]), B.alloc B.size _⟩
      all_goals
        have B : Below w.heap.size w w1 := ((Below.refl w.heap.size w).alloc (Nat.le_refl _) _).drew.trans (B1.out.mono (by simp))
        exact ⟨ret_string (by rw [hd.out, ← HD.out, app_mk]), B⟩

theorem ref2_dec (n : Nat) (w : World) (h : n < 10 ^ 18) : Calls Tryz.prog 51 #[.int .i64 n] w fun e w' => e = .returned (.string ⟨(dec n).toArray⟩) ∧ Below w.heap.size w w' :=
  ref2_decF 20 n w (by omega) h (by omega) (by omega)

end Go.Proofs.YthgkpmgcikopnaaGreatDoor

/-
  The walks over number, Has, Is of the document's answer for types.
-/
namespace Go.Proofs.YthgkpmgcikopnaaGreatDoor
open Go.RowKit Lx Tx
set_option maxRecDepth 100000

set_option maxHeartbeats 800000 in
theorem ref2_has (v : Value) (l : List (List UInt8)) (s : ByteArray) (w : World) (h : RowV w v (strV l)) (hl : l.length ≤ 1000000) :
    Calls Tryz.prog 35 #[v, .string s] w fun e w' => e = .returned (.bool (decide (s.data.toList ∈ l))) ∧ w = w' := by
  obtain ⟨A, c, rfl, hp⟩ := h
  rw [strV_len] at *
  obtain ⟨n, hn⟩ : ∃ n, l.length = n := ⟨_, rfl⟩
  rw [hn] at hl hp ⊢
  have HP := hidE hp
  obtain ⟨R, hR⟩ : ∃ R, decide (s.data.toList ∈ l) = R := ⟨_, rfl⟩
  have HR := hidE hR
  have HN := hidE hn
  rw [hR]
  clear hp hR hn
  go_enter Tryz.func35, Tryz.ntmps35
  go_wp2
  go_loopg [5] n (fun gg v wr => ∃ k : Nat, gg = n - k ∧ v = .int .i64 k ∧ wr = w ∧ k ≤ n ∧ Hid (s.data.toList ∉ l.take k))
  case atStart => exact ⟨0, rfl, rfl, rfl, by omega, hidE (by simp)⟩
  case round =>
    obtain ⟨k, rfl, rfl, rfl, hk, hn⟩ := hrel
    by_cases hlt : k < n
    · obtain ⟨g, rfl, _, hc⟩ := HP.out (by omega)
      have hck := hc k _ (strV_at l k (by rw [HN.out]; exact hlt))
      clear hc
      obtain ⟨X, hX⟩ : ∃ X : ByteArray, ⟨(l[k]'(by rw [HN.out]; exact hlt)).toArray⟩ = X := ⟨_, rfl⟩
      rw [hX] at hck
      have HX := hidE hX
      clear hX
      by_cases he : X = s
      · have hr := hidE (show R = true by rw [← HR.out, ← he, ← HX.out]; simp)
        have dq := strT X s he
        clear he
        go_wp2
        go_ret
        exact ⟨ret_bool hr.out.symm, rfl⟩
      · have hr := hidE (not_take _ l k (by rw [HN.out]; exact hlt) hn (fun e => he (by rw [← HX.out, e])))
        have dq := strF X s he
        clear he
        go_wp2
        go_roundg (n - (k + 1))
        case measure => omega
        case rel => exact ⟨k + 1, rfl, by go_num, rfl, by omega, hr⟩
    · have hr := hidE (show R = false by rw [← HR.out]; rw [List.take_of_length_le (by rw [HN.out]; omega)] at hn; exact decide_eq_false hn.out)
      go_wp2
      go_ret
      exact ⟨ret_bool hr.out.symm, rfl⟩

set_option maxHeartbeats 800000 in
theorem ref2_is (v : Value) (ts : List Tok) (i K : Nat) (X : ByteArray) (k : Int) (hkK : k = K) (w : World) (h : RdT w v ts) :
    Calls Tryz.prog 78 #[v, .int .i64 i, .int .i64 k, .string X] w fun e w' => e = .returned (.bool (isAt ts i K X.data.toList)) ∧ w = w' := by
  subst hkK
  obtain ⟨R, hR⟩ : ∃ R, isAt ts i K X.data.toList = R := ⟨_, rfl⟩
  rw [hR]
  by_cases hi : i < ts.length
  · obtain ⟨g, c, rfl, h0, h1, h2⟩ := h.at_ i hi
    rw [isAt_at ts i K _ hi] at hR
    obtain ⟨T, hT⟩ : ∃ T : ByteArray, ⟨ts[i].text.toArray⟩ = T := ⟨_, rfl⟩
    have hT' : ts[i].text = T.data.toList := by rw [← hT]
    obtain ⟨m, hm⟩ : ∃ m, ts[i].kind = m := ⟨_, rfl⟩
    rw [hT] at h1
    rw [hm] at h0 hR
    rw [hT'] at hR
    clear h2 hT hT' hm h
    obtain ⟨n, hn⟩ : ∃ n, ts.length = n := ⟨_, rfl⟩
    rw [hn] at hi ⊢
    clear hn
    by_cases hk : m = K
    · have dk := kT m K hk
      by_cases hx : X = ⟨#[]⟩
      · have dx : X.toList.isEmpty = true := by rw [hx, Lib.toList_data]; rfl
        have hr := hidE (show R = true by rw [← hR, hx, hk]; simp)
        clear hk hx hR
        go_enter Tryz.func78, Tryz.ntmps78
        go_wp2
        go_ret
        exact ⟨ret_bool hr.out.symm, rfl⟩
      · have hx' : X.data.toList ≠ [] := fun e => hx (ByteArray.ext (by simpa using e))
        have dx : X.toList.isEmpty = false := by rw [Lib.toList_data]; cases hz : X.data.toList with | nil => exact absurd hz hx' | cons a b => rfl
        by_cases he : T = X
        · have dt := strT T X he
          have hr := hidE (show R = true by rw [← hR, he, hk]; simp)
          clear hk hx hx' he hR
          go_enter Tryz.func78, Tryz.ntmps78
          go_wp2
          go_ret
          exact ⟨ret_bool hr.out.symm, rfl⟩
        · have dt := strF T X he
          have he' : ¬ T.data.toList = X.data.toList := fun e => he (ByteArray.ext (by simpa using e))
          have hr := hidE (show R = false by rw [← hR, hk, beq_eq_false_iff_ne.2 hx', beq_eq_false_iff_ne.2 he']; simp)
          clear hk hx hx' he he' hR
          go_enter Tryz.func78, Tryz.ntmps78
          go_wp2
          go_ret
          exact ⟨ret_bool hr.out.symm, rfl⟩
    · have dk := kF m K hk
      have hr := hidE (show R = false by rw [← hR]; simp [hk])
      clear hk hR
      go_enter Tryz.func78, Tryz.ntmps78
      go_wp2
      go_ret
      exact ⟨ret_bool hr.out.symm, rfl⟩
  · rw [isAt_end ts i K _ (by omega)] at hR
    obtain ⟨A, c, rfl, _⟩ := h
    obtain ⟨n, hn⟩ : ∃ n, ts.length = n := ⟨_, rfl⟩
    rw [hn] at hi ⊢
    clear hn
    have hr := hidE hR
    clear hR
    go_enter Tryz.func78, Tryz.ntmps78
    go_wp2
    go_ret
    exact ⟨ret_bool hr.out, rfl⟩

set_option maxHeartbeats 800000 in
theorem ref2_number (s : ByteArray) (w : World) (hd : ∀ c ∈ s.data.toList, isDig c = true) (hs : s.size ≤ 6) :
    Calls Tryz.prog 145 #[.string s] w fun e w' => e = .returned (.int .i64 (numOf s.data.toList : Nat)) ∧ w = w' := by
  obtain ⟨R, hR⟩ : ∃ R, numOf s.data.toList = R := ⟨_, rfl⟩
  have HR := hidE hR
  have HD := hidE hd
  rw [hR]
  clear hR hd
  go_enter Tryz.func145, Tryz.ntmps145
  go_wp2
  go_loopg [3, 4] s.size (fun gg vn v wr => ∃ k n : Nat, gg = s.size - k ∧ vn = .int .i64 n ∧ v = .int .i64 k ∧ wr = w ∧ k ≤ s.size ∧ n < 1000000 ∧ Hid (numOf (s.data.toList.take k) = n))
  case atStart => exact ⟨0, 0, rfl, rfl, rfl, rfl, by omega, by omega, hidE rfl⟩
  case round =>
    obtain ⟨k, n, rfl, rfl, rfl, rfl, hk, hn6, hn⟩ := hrel
    by_cases hlt : k < s.size
    · have hkl : k < s.data.toList.length := by rw [← Lib.size_eq]; exact hlt
      have hdg : isDig s[k] = true := HD.out _ (by rw [show s[k] = s.data.toList[k] from rfl]; exact List.getElem_mem _)
      have h48 : 48 ≤ s[k].toNat := by simp [isDig] at hdg; exact hdg.1
      obtain ⟨d, hd⟩ : ∃ d, s[k].toNat - 48 = d := ⟨_, rfl⟩
      have hlt2 : s[k].toNat < 256 := s[k].toNat_lt
      have q1 : IntKind.u8.wrap ((s[k].toNat : Int) - 48) = (d : Int) := by simp [IntKind.wrap, IntKind.signed, IntKind.bits]; omega
      have hr : Hid (numOf (s.data.toList.take (k + 1)) = 10 * n + d) := hidE (by rw [take_snoc _ k hkl, numOf_snoc, hn.out, ← hd]; rfl)
      have hn7 : 10 * n + d < 1000000 := by
        rw [← hr.out]
        refine Nat.lt_of_lt_of_le (numOf_lt _ (fun c hc => HD.out c (List.mem_of_mem_take hc))) ?_
        rw [List.length_take]
        exact Nat.le_trans (Nat.pow_le_pow_right (by omega) (show min (k + 1) s.data.toList.length ≤ 6 by omega)) (by decide)
      have hd8 : d < 256 := by omega
      clear hdg hd hlt2
      go_wp2
      go_roundg (s.size - (k + 1))
      case measure => omega
      case rel => exact ⟨k + 1, 10 * n + d, rfl, by go_num, by go_num, rfl, by omega, hn7, hr⟩
    · have hr := hidE (show n = R by rw [← HR.out, ← hn.out, List.take_of_length_le (by rw [← Lib.size_eq]; omega)])
      go_wp2
      go_ret
      exact ⟨ret_i64 (by rw [hr.out]), rfl⟩

end Go.Proofs.YthgkpmgcikopnaaGreatDoor
