/-
  Contracts of the code's functions, part 6.
-/
import Derived.Test.YtefldbbiajkbnaaGreatDoorDaE
/-
  How a type lies in memory: its four cells, and behind the slice of its arguments the arguments' cells, all of them in blocks of a set S.
-/
namespace Go.Proofs.YtefldbbiajkbnaaGreatDoor
open Go.RowKit Lx Tx

def kd : Ty → Nat
  | .var _ => 1
  | .mt _ => 2
  | .con _ _ => 3
  | .fn _ _ => 4
  | .all _ _ => 5
def nmB : Ty → ByteArray
  | .var x => ⟨x.toArray⟩
  | .mt _ => ⟨#[]⟩
  | .con c _ => ⟨c.toArray⟩
  | .fn _ _ => ⟨#[]⟩
  | .all x _ => ⟨x.toArray⟩
def nn : Ty → Nat
  | .mt n => n
  | _ => 0
def kids : Ty → List Ty
  | .var _ => []
  | .mt _ => []
  | .con _ l => l
  | .fn a b => [a, b]
  | .all _ t => [t]

/-- the four cells at a place -/
def Cell4 (w : World) (t : Ty) (A : Option Addr) (cap : Nat) (g o : Nat) : Prop :=
  w.cell? ⟨g, o, none⟩ = some (.int .i64 (kd t : Nat)) ∧ w.cell? ⟨g, o + 1, none⟩ = some (.string (nmB t)) ∧ w.cell? ⟨g, o + 2, none⟩ = some (.int .i64 (nn t : Nat)) ∧
    w.cell? ⟨g, o + 3, none⟩ = some (.slice A (kids t).length cap)

mutual
/-- behind A lie the arguments of t -/
def Args (S : Nat → Prop) (w : World) : Ty → Option Addr → Prop
  | .var _, _ => True
  | .mt _, _ => True
  | .con _ l, A => l ≠ [] → ∃ g, A = some ⟨g, 0, none⟩ ∧ S g ∧ RowT S w l g 0
  | .fn a b, A => ∃ g, A = some ⟨g, 0, none⟩ ∧ S g ∧ (∃ A1 c1, Cell4 w a A1 c1 g 0 ∧ Args S w a A1) ∧ (∃ A2 c2, Cell4 w b A2 c2 g 4 ∧ Args S w b A2)
  | .all _ t, A => ∃ g, A = some ⟨g, 0, none⟩ ∧ S g ∧ ∃ A1 c1, Cell4 w t A1 c1 g 0 ∧ Args S w t A1
/-- from place o of block g on lie these types, one behind the other -/
def RowT (S : Nat → Prop) (w : World) : List Ty → Nat → Nat → Prop
  | [], _, _ => True
  | t :: r, g, o => (∃ A c, Cell4 w t A c g o ∧ Args S w t A) ∧ RowT S w r g (o + 4)
end

/-- v is this type's value -/
def RdV (S : Nat → Prop) (w : World) (t : Ty) (v : Value) : Prop :=
  ∃ A c, v = .agg #[.int .i64 (kd t : Nat), .string (nmB t), .int .i64 (nn t : Nat), .slice A (kids t).length c] ∧ Args S w t A

theorem kids_row (S : Nat → Prop) (w : World) (t : Ty) (A : Option Addr) : Args S w t A ↔ (kids t ≠ [] → ∃ g, A = some ⟨g, 0, none⟩ ∧ S g ∧ RowT S w (kids t) g 0) := by
  cases t with
  | var x => rw [Args, kids]; simp
  | mt n => rw [Args, kids]; simp
  | con c l => rw [Args, kids]
  | fn a b =>
    rw [Args, kids]
    constructor
    · rintro ⟨g, h1, h2, h3, h4⟩ _
      exact ⟨g, h1, h2, by rw [RowT, RowT, RowT]; exact ⟨h3, h4, trivial⟩⟩
    · intro h
      obtain ⟨g, h1, h2, h3⟩ := h (by simp)
      rw [RowT, RowT, RowT] at h3
      exact ⟨g, h1, h2, h3.1, h3.2.1⟩
  | all x t =>
    rw [Args, kids]
    constructor
    · rintro ⟨g, h1, h2, h3⟩ _
      exact ⟨g, h1, h2, by rw [RowT, RowT]; exact ⟨h3, trivial⟩⟩
    · intro h
      obtain ⟨g, h1, h2, h3⟩ := h (by simp)
      rw [RowT, RowT] at h3
      exact ⟨g, h1, h2, h3.1⟩

theorem Cell4.keep {w w' : World} {t : Ty} {A : Option Addr} {c g o : Nat} (h : Cell4 w t A c g o) (hk : w'.heap[g]? = w.heap[g]?) : Cell4 w' t A c g o := by
  have e : ∀ i, w'.cell? ⟨g, i, none⟩ = w.cell? ⟨g, i, none⟩ := fun i => World.cell?_of_block (w := w) (a := ⟨g, i, none⟩) hk
  exact ⟨(e _).trans h.1, (e _).trans h.2.1, (e _).trans h.2.2.1, (e _).trans h.2.2.2⟩

mutual
theorem Args.keep {S S' : Nat → Prop} {w w' : World} (hS : ∀ g, S g → S' g) (hk : ∀ g, S g → w'.heap[g]? = w.heap[g]?) : (t : Ty) → ∀ A, Args S w t A → Args S' w' t A
  | .var x, A, _ => by rw [Args]; trivial
  | .mt n, A, _ => by rw [Args]; trivial
  | .con c l, A, h => by
    rw [Args] at h ⊢
    intro hl
    obtain ⟨g, h1, h2, h3⟩ := h hl
    exact ⟨g, h1, hS g h2, RowT.keep hS hk l g 0 (hk g h2) h3⟩
  | .fn a b, A, h => by
    rw [Args] at h ⊢
    obtain ⟨g, h1, h2, ⟨A1, c1, h3, h4⟩, ⟨A2, c2, h5, h6⟩⟩ := h
    exact ⟨g, h1, hS g h2, ⟨A1, c1, h3.keep (hk g h2), Args.keep hS hk a A1 h4⟩, ⟨A2, c2, h5.keep (hk g h2), Args.keep hS hk b A2 h6⟩⟩
  | .all x t, A, h => by
    rw [Args] at h ⊢
    obtain ⟨g, h1, h2, A1, c1, h3, h4⟩ := h
    exact ⟨g, h1, hS g h2, A1, c1, h3.keep (hk g h2), Args.keep hS hk t A1 h4⟩
theorem RowT.keep {S S' : Nat → Prop} {w w' : World} (hS : ∀ g, S g → S' g) (hk : ∀ g, S g → w'.heap[g]? = w.heap[g]?) : (l : List Ty) → ∀ g o, w'.heap[g]? = w.heap[g]? → RowT S w l g o → RowT S' w' l g o
  | [], _, _, _, _ => by rw [RowT]; trivial
  | t :: r, g, o, hg, h => by
    rw [RowT] at h ⊢
    obtain ⟨⟨A, c, h1, h2⟩, h3⟩ := h
    exact ⟨⟨A, c, h1.keep hg, Args.keep hS hk t A h2⟩, RowT.keep hS hk r g (o + 4) hg h3⟩
end
theorem RdV.keep {S S' : Nat → Prop} {w w' : World} {t : Ty} {v : Value} (h : RdV S w t v) (hS : ∀ g, S g → S' g) (hk : ∀ g, S g → w'.heap[g]? = w.heap[g]?) : RdV S' w' t v := by
  obtain ⟨A, c, rfl, ha⟩ := h
  exact ⟨A, c, rfl, Args.keep hS hk t A ha⟩

/-- the i-th of a row of types -/
theorem RowT.at_ {S : Nat → Prop} {w : World} : (l : List Ty) → ∀ g o i (hi : i < l.length), RowT S w l g o → ∃ A c, Cell4 w l[i] A c g (o + i * 4) ∧ Args S w l[i] A
  | [], _, _, i, hi, _ => absurd hi (by simp)
  | t :: r, g, o, 0, _, h => by rw [RowT] at h; simpa using h.1
  | t :: r, g, o, i + 1, hi, h => by
    rw [RowT] at h
    have := RowT.at_ r g (o + 4) i (by simpa using hi) h.2
    rw [show o + 4 + i * 4 = o + (i + 1) * 4 by omega] at this
    simpa using this
theorem Args.kid {S : Nat → Prop} {w : World} {t : Ty} {A : Option Addr} (h : Args S w t A) (i : Nat) (hi : i < (kids t).length) :
    ∃ g, A = some ⟨g, 0, none⟩ ∧ S g ∧ ∃ A1 c1, Cell4 w (kids t)[i] A1 c1 g (i * 4) ∧ Args S w (kids t)[i] A1 := by
  obtain ⟨g, h1, h2, h3⟩ := (kids_row S w t A).1 h (by intro e; rw [e] at hi; simp at hi)
  have := RowT.at_ _ g 0 i hi h3
  rw [Nat.zero_add] at this
  exact ⟨g, h1, h2, this⟩

/-- the cells of a type's value, as a list -/
def tyV (t : Ty) (A : Option Addr) (c : Nat) : List Value := [.int .i64 (kd t : Nat), .string (nmB t), .int .i64 (nn t : Nat), .slice A (kids t).length c]
/-! ### rows that a function builds itself -/
/-- the cells of these types, one behind the other; what lies behind their arguments lies in S -/
def TyRow (S : Nat → Prop) (w : World) : List Ty → List Value → Prop
  | [], vs => vs = []
  | t :: r, vs => ∃ A c rest, vs = tyV t A c ++ rest ∧ Args S w t A ∧ TyRow S w r rest
theorem TyRow.len {S : Nat → Prop} {w : World} : (l : List Ty) → ∀ vs, TyRow S w l vs → vs.length = l.length * 4
  | [], vs, h => by rw [TyRow] at h; simp [h]
  | t :: r, vs, h => by
    rw [TyRow] at h
    obtain ⟨A, c, rest, rfl, _, h⟩ := h
    have := TyRow.len r rest h
    simp [tyV, this]; omega
theorem TyRow.snoc {S : Nat → Prop} {w : World} {t : Ty} {A : Option Addr} (c : Nat) (ha : Args S w t A) : (l : List Ty) → ∀ vs, TyRow S w l vs → TyRow S w (l ++ [t]) (vs ++ tyV t A c)
  | [], vs, h => by
    rw [TyRow] at h
    rw [List.nil_append, TyRow]
    exact ⟨A, c, [], by simp [h], ha, by rw [TyRow]⟩
  | u :: r, vs, h => by
    rw [TyRow] at h
    obtain ⟨A', c', rest, rfl, h1, h2⟩ := h
    rw [List.cons_append, TyRow]
    exact ⟨A', c', rest ++ tyV t A c, by simp, h1, TyRow.snoc c ha r rest h2⟩
theorem TyRow.keep {S S' : Nat → Prop} {w w' : World} (hS : ∀ g, S g → S' g) (hk : ∀ g, S g → w'.heap[g]? = w.heap[g]?) : (l : List Ty) → ∀ vs, TyRow S w l vs → TyRow S' w' l vs
  | [], vs, h => by rw [TyRow] at h ⊢; exact h
  | t :: r, vs, h => by
    rw [TyRow] at h ⊢
    obtain ⟨A, c, rest, e, h1, h2⟩ := h
    exact ⟨A, c, rest, e, Args.keep hS hk t A h1, TyRow.keep hS hk r rest h2⟩
theorem TyRow.row {S : Nat → Prop} {w : World} {g : Nat} : (l : List Ty) → ∀ vs o, TyRow S w l vs → (∀ j u, vs[j]? = some u → w.cell? ⟨g, o + j, none⟩ = some u) → RowT S w l g o
  | [], _, _, _, _ => by rw [RowT]; trivial
  | t :: r, vs, o, h, hc => by
    rw [TyRow] at h
    obtain ⟨A, c, rest, rfl, h1, h2⟩ := h
    rw [RowT]
    refine ⟨⟨A, c, ⟨hc 0 _ rfl, hc 1 _ rfl, hc 2 _ rfl, hc 3 _ rfl⟩, h1⟩, TyRow.row r rest (o + 4) h2 fun j u hu => ?_⟩
    rw [show o + 4 + j = o + (4 + j) by omega]
    exact hc (4 + j) u (by rw [List.getElem?_append_right (by simp [tyV])]; simpa [tyV] using hu)

/-- a row is kept by what leaves all blocks below the heap's size -/
theorem own_below {w w' : World} {B e size n : Nat} {v : Value} {xs : List Value} (h : w.ownsRow B e size v n xs) (hb : Below w.heap.size w w') : w'.ownsRow B e size v n xs := by
  refine ⟨h.1, ?_⟩
  rcases h.2 with hn | ⟨g, cap, cur, rfl, hg, hgg, rest⟩
  · exact .inl hn
  · exact .inr ⟨g, cap, cur, rfl, hg, by rw [hb.block g (Array.getElem?_eq_some_iff.1 hgg).1]; exact hgg, rest⟩

/-- v is a row of the call's own (of blocks from B on), with these types; what lies behind their arguments is in T, or made since B, and not in v's block -/
def Built (T : Nat → Prop) (B : Nat) (e : TypeId) (w : World) (l : List Ty) (v : Value) : Prop :=
  ∃ vs, w.ownsRow B e 4 v l.length vs ∧ TyRow (fun g => (T g ∨ B ≤ g ∧ g < w.heap.size) ∧ some g ≠ v.ownBlock) w l vs

theorem Built.nil (T : Nat → Prop) (B : Nat) (e : TypeId) (w : World) : Built T B e w [] (.slice none 0 0) := ⟨[], World.ownsRow_nil _ _ _ _, by rw [TyRow]⟩
theorem Built.below {T : Nat → Prop} {B : Nat} {e : TypeId} {w w' : World} {l : List Ty} {v : Value} (h : Built T B e w l v) (hT : ∀ g, T g → g < w.heap.size) (hb : Below w.heap.size w w') : Built T B e w' l v := by
  obtain ⟨vs, h1, h2⟩ := h
  refine ⟨vs, own_below h1 hb, TyRow.keep ?_ ?_ l vs h2⟩
  · rintro g ⟨h | h, h3⟩
    · exact ⟨.inl h, h3⟩
    · exact ⟨.inr ⟨h.1, Nat.lt_of_lt_of_le h.2 hb.size⟩, h3⟩
  · rintro g ⟨h | h, h3⟩
    · exact hb.block g (hT g h)
    · exact hb.block g h.2

/-- one more, by append: w is the world ahead of it, in which the new one's cells have just been laid -/
theorem Built.snoc {T : Nat → Prop} {B : Nat} {e : TypeId} {w w' : World} {l : List Ty} {t : Ty} {v v' : Value} {A : Option Addr} {c : Nat} {vs : List Value}
    (hT : ∀ g, T g → g < B) (hB : B ≤ w.heap.size) (hrow : TyRow (fun g => (T g ∨ B ≤ g ∧ g < w.heap.size) ∧ some g ≠ v.ownBlock) w l vs)
    (ha : Args (fun g => (T g ∨ B ≤ g ∧ g < w.heap.size) ∧ some g ≠ v.ownBlock) w t A)
    (hown : w'.ownsRow B e 4 v' (l.length + 1) (vs ++ tyV t A c)) (hg : w.grownBy w' v.ownBlock) (hat : v'.ownBlock = v.ownBlock ∨ v'.ownBlock = some w.heap.size) :
    Built T B e w' (l ++ [t]) v' := by
  have hsz : w.heap.size ≤ w'.heap.size := hg.size
  have hk : ∀ g, ((T g ∨ B ≤ g ∧ g < w.heap.size) ∧ some g ≠ v.ownBlock) → w'.heap[g]? = w.heap[g]? := fun g h => hg.block g (by rcases h.1 with h1 | h1; have := hT g h1; omega; exact h1.2) h.2
  have hS : ∀ g, ((T g ∨ B ≤ g ∧ g < w.heap.size) ∧ some g ≠ v.ownBlock) → ((T g ∨ B ≤ g ∧ g < w'.heap.size) ∧ some g ≠ v'.ownBlock) := by
    rintro g ⟨h1, h2⟩
    have hlt : g < w.heap.size := by rcases h1 with h1 | h1; have := hT g h1; omega; exact h1.2
    refine ⟨?_, ?_⟩
    · rcases h1 with h1 | h1
      · exact .inl h1
      · exact .inr ⟨h1.1, by omega⟩
    · rcases hat with h | h
      · rw [h]; exact h2
      · rw [h]; intro e; injection e with e; omega
  refine ⟨vs ++ tyV t A c, by rw [List.length_append]; exact hown, TyRow.snoc c (Args.keep hS hk t A ha) l vs (TyRow.keep hS hk l vs hrow)⟩

theorem Built.setCell {T : Nat → Prop} {B : Nat} {e : TypeId} {w : World} {l : List Ty} {v : Value} (h : Built T B e w l v) {p : Addr} (u : Value) (hp : p.block < B) (hT : ¬ T p.block) : Built T B e (w.setCell p u) l v := by
  obtain ⟨vs, h1, h2⟩ := h
  have hlt := h1.lt
  have k1 : ∀ g, (T g ∨ B ≤ g ∧ g < w.heap.size) ∧ some g ≠ v.ownBlock → (T g ∨ B ≤ g ∧ g < (w.setCell p u).heap.size) ∧ some g ≠ v.ownBlock := by
    rintro g ⟨h3 | h3, h4⟩
    · exact ⟨.inl h3, h4⟩
    · exact ⟨.inr ⟨h3.1, by simpa using h3.2⟩, h4⟩
  have k2 : ∀ g, (T g ∨ B ≤ g ∧ g < w.heap.size) ∧ some g ≠ v.ownBlock → (w.setCell p u).heap[g]? = w.heap[g]? := by
    rintro g ⟨h3, _⟩
    refine Below.heap_setCell w p u g fun e => ?_
    rcases h3 with h3 | h3
    · exact hT (e ▸ h3)
    · omega
  exact ⟨vs, ownsRow_setCell_other h1 (fun e => by have := hlt _ e; omega) u, TyRow.keep k1 k2 l vs h2⟩

/-- a built row holds the arguments of a type that has these -/
theorem Built.args {T : Nat → Prop} {B : Nat} {e : TypeId} {w : World} {t : Ty} {A : Option Addr} {n c : Nat} (h : Built T B e w (kids t) (.slice A n c)) :
    n = (kids t).length ∧ Args (fun g => T g ∨ B ≤ g ∧ g < w.heap.size) w t A := by
  obtain ⟨vs, h1, h2⟩ := h
  have hc := fun g hg => h1.cells (g := g) hg
  have hlt := h1.lt
  have hlen := h2.len
  rcases h1.2 with ⟨h3, h0⟩ | ⟨g, cap, cur, h3, _⟩
  · injection h3 with e1 e2 e3
    subst e1 e2 e3
    have hk : kids t = [] := by cases hk : kids t with | nil => rfl | cons a b => rw [hk] at h0; simp at h0
    exact ⟨by rw [hk]; rfl, (kids_row _ _ _ _).2 fun h => absurd hk h⟩
  · injection h3 with e1 e2 e3
    subst e1 e2 e3
    refine ⟨rfl, (kids_row _ _ _ _).2 fun h => ⟨g, rfl, .inr ⟨(hlt g rfl).1, (hlt g rfl).2⟩, RowT.keep (fun _ h => h) (fun _ _ => rfl) _ _ _ rfl (TyRow.row (kids t) vs 0 (TyRow.keep (fun _ h => h.1) (fun _ _ => rfl) _ _ h2) fun j u hu => ?_)⟩⟩
    have hadd : (⟨g, 0, none⟩ : Addr).add j = ⟨g, j, none⟩ := by unfold Addr.add; split <;> simp_all
    have := hc g rfl j u hu
    rw [hadd] at this
    rw [Nat.zero_add]; exact this

/-! ### rows of names, of numbers -/
def RowV (w : World) (v : Value) (l : List Value) : Prop :=
  ∃ A c, v = .slice A l.length c ∧ (0 < l.length → ∃ g, A = some ⟨g, 0, none⟩ ∧ g < w.heap.size ∧ ∀ j u, l[j]? = some u → w.cell? ⟨g, j, none⟩ = some u)
theorem RowV.of_own {w : World} {base n : Nat} {v : Value} {l : List Value} {e : TypeId} (h : w.ownsRow base e 1 v n l) : RowV w v l := by
  have hc := fun g hg => h.cells (g := g) hg
  have hlt := h.lt
  have hl := h.1
  rcases h.2 with ⟨rfl, h0⟩ | ⟨g, cap, cur, rfl, _⟩
  · exact ⟨none, 0, by rw [hl, h0], fun hp => by omega⟩
  · refine ⟨_, _, by rw [hl, Nat.mul_one], fun _ => ⟨g, rfl, (hlt g rfl).2, fun j u hu => ?_⟩⟩
    have hadd : (⟨g, 0, none⟩ : Addr).add j = ⟨g, j, none⟩ := by unfold Addr.add; split <;> simp_all
    have := hc g rfl j u hu
    rwa [hadd] at this
theorem RowV.keep {w w' : World} {v : Value} {l : List Value} (h : RowV w v l) (hs : w.heap.size ≤ w'.heap.size) (hk : ∀ k, k < w.heap.size → w'.heap[k]? = w.heap[k]?) : RowV w' v l := by
  obtain ⟨A, c, hv, hp⟩ := h
  refine ⟨A, c, hv, fun h0 => ?_⟩
  obtain ⟨g, hA, hg, hc⟩ := hp h0
  exact ⟨g, hA, by omega, fun j u hu => by rw [World.cell?_of_block (w := w) (hk g hg)]; exact hc j u hu⟩
theorem RowV.below {w w' : World} {v : Value} {l : List Value} (h : RowV w v l) (hb : Below w.heap.size w w') : RowV w' v l := h.keep hb.size hb.block
def strV (l : List (List UInt8)) : List Value := l.map fun x => .string ⟨x.toArray⟩
end Go.Proofs.YtefldbbiajkbnaaGreatDoor

/-
  The plain mathematics of layer 8 (syntax): trees of programs, how tokens are read as one, how one is written. It imports nothing of the program but what tokens and types are.
-/
namespace Go.Proofs.YtefldbbiajkbnaaGreatDoor
namespace Sx
open Lx Tx

abbrev Nm := List UInt8
mutual
inductive Ex where
  | var (x : Nm)
  | con (c : Nm)
  | lam (x : Nm) (e : Ex)
  | app (a b : Ex)
  | lt (x : Nm) (t : Option Ty) (a b : Ex)
  | cs (e : Ex) (l : List Al)
  | ann (e : Ex) (t : Ty)
inductive Al where
  | mk (c : Nm) (vs : List Nm) (b : Ex)
end
inductive De where
  | data (n : Nm) (ps : List Nm) (cs : List (Nm × Ty))
  | sig (x : Nm) (t : Ty)
  | bind (x : Nm) (e : Ex)

/-! ### reading -/
def wLet : Nm := [108, 101, 116]
def wIn : Nm := [105, 110]
def wCase : Nm := [99, 97, 115, 101]
def wOf : Nm := [111, 102]
def wData : Nm := [100, 97, 116, 97]
def pArr (t : Tok) : Bool := isSign t [45, 62]
def pEq (t : Tok) : Bool := isSign t [61]
def pCol (t : Tok) : Bool := isSign t [58]
def pSem (t : Tok) : Bool := isSign t [59]
def pOpn (t : Tok) : Bool := isSign t [123]
def pCls (t : Tok) : Bool := isSign t [125]
def pLam (t : Tok) : Bool := isSign t [92]
def pLp (t : Tok) : Bool := isSign t [40]
def pRp (t : Tok) : Bool := isSign t [41]
/-- may an atom of an expression begin with this token? -/
def atomE (t : Tok) : Bool := t.kind == 1 || t.kind == 2 || pLp t
/-- a token of this kind at the begin: its text, and what is behind it -/
def tok1 (k : Nat) : List Tok → Option (Nm × List Tok)
  | [] => none
  | t :: r => if t.kind = k then some (t.text, r) else none
def typ (l : List Tok) : Option (Ty × List Tok) := read (enough l) l
/-- a type behind a colon, if there is one -/
def told (l : List Tok) : Option (Option Ty × List Tok) :=
  match eat pCol l with
  | none => some (none, l)
  | some r => (typ r).map fun y => (some y.1, y.2)

mutual
def rdE : Nat → List Tok → Option (Ex × List Tok)
  | 0, _ => none
  | f + 1, l =>
    match eat pLam l with
    | some r =>
      match tok1 1 r with
      | none => none
      | some (x, r2) =>
        match eat pArr r2 with
        | none => none
        | some r3 => (rdE f r3).map fun y => (.lam x y.1, y.2)
    | none =>
      match eat (isKey · wLet) l with
      | some r => rdLet f r
      | none =>
        match eat (isKey · wCase) l with
        | some r => rdCase f r
        | none => rdApp f l
def rdLet : Nat → List Tok → Option (Ex × List Tok)
  | 0, _ => none
  | f + 1, l =>
    match tok1 1 l with
    | none => none
    | some (x, r) =>
      match told r with
      | none => none
      | some (t, r2) =>
        match eat pEq r2 with
        | none => none
        | some r3 =>
          match rdE f r3 with
          | none => none
          | some (a, r4) =>
            match eat (isKey · wIn) r4 with
            | none => none
            | some r5 => (rdE f r5).map fun y => (.lt x t a y.1, y.2)
def rdCase : Nat → List Tok → Option (Ex × List Tok)
  | 0, _ => none
  | f + 1, l =>
    match rdE f l with
    | none => none
    | some (a, r) =>
      match eat (isKey · wOf) r with
      | none => none
      | some r2 =>
        match eat pOpn r2 with
        | none => none
        | some r3 =>
          match eat pCls r3 with
          | some r4 => some (.cs a [], r4)
          | none =>
            match rdAlts f r3 with
            | none => none
            | some (als, r4) => (eat pCls r4).map fun r5 => (.cs a als, r5)
/-- alternatives, at least one, with semicolons between -/
def rdAlts : Nat → List Tok → Option (List Al × List Tok)
  | 0, _ => none
  | f + 1, l =>
    match tok1 2 l with
    | none => none
    | some (c, r) =>
      match eat pArr (vars r).2 with
      | none => none
      | some r2 =>
        match rdE f r2 with
        | none => none
        | some (b, r3) =>
          match eat pSem r3 with
          | none => some ([.mk c (vars r).1 b], r3)
          | some r4 => (rdAlts f r4).map fun y => (.mk c (vars r).1 b :: y.1, y.2)
def rdApp : Nat → List Tok → Option (Ex × List Tok)
  | 0, _ => none
  | f + 1, l =>
    match rdAtom f l with
    | none => none
    | some (a, r) => rdArgs f a r
/-- arguments, as long as there are any: what is applied to them -/
def rdArgs : Nat → Ex → List Tok → Option (Ex × List Tok)
  | 0, _, _ => none
  | f + 1, a, l =>
    match l with
    | [] => some (a, [])
    | t :: r =>
      if atomE t then
        match rdAtom f (t :: r) with
        | none => none
        | some (b, r2) => rdArgs f (.app a b) r2
      else some (a, t :: r)
def rdAtom : Nat → List Tok → Option (Ex × List Tok)
  | 0, _ => none
  | f + 1, l =>
    match tok1 1 l with
    | some (x, r) => some (.var x, r)
    | none =>
      match eat pLp l with
      | some r =>
        match rdE f r with
        | none => none
        | some (a, r2) =>
          match told r2 with
          | none => none
          | some (none, r3) => (eat pRp r3).map fun r4 => (a, r4)
          | some (some t, r3) => (eat pRp r3).map fun r4 => (.ann a t, r4)
      | none => (tok1 2 l).map fun y => (.con y.1, y.2)
end
/-- fuel that is enough -/
def enoughE (l : List Tok) : Nat := 3 * l.length + 3

/-- a constructor with its type -/
def rdCon (l : List Tok) : Option ((Nm × Ty) × List Tok) :=
  match tok1 2 l with
  | none => none
  | some (c, r) =>
    match eat pCol r with
    | none => none
    | some r2 => (typ r2).map fun y => ((c, y.1), y.2)
/-- pieces, at least one, with semicolons between -/
def sepF {α : Type} (p : List Tok → Option (α × List Tok)) : Nat → List Tok → Option (List α × List Tok)
  | 0, _ => none
  | f + 1, l =>
    match p l with
    | none => none
    | some (x, r) =>
      match eat pSem r with
      | none => some ([x], r)
      | some r2 => (sepF p f r2).map fun y => (x :: y.1, y.2)
def sep {α : Type} (p : List Tok → Option (α × List Tok)) (l : List Tok) : Option (List α × List Tok) := sepF p (l.length + 1) l
def rdData (l : List Tok) : Option (De × List Tok) :=
  match tok1 2 l with
  | none => none
  | some (n, r) =>
    match eat pOpn (vars r).2 with
    | none => none
    | some r2 =>
      match eat pCls r2 with
      | some r3 => some (.data n (vars r).1 [], r3)
      | none =>
        match sep rdCon r2 with
        | none => none
        | some (cs, r3) => (eat pCls r3).map fun r4 => (.data n (vars r).1 cs, r4)
def rdDecl (l : List Tok) : Option (De × List Tok) :=
  match eat (isKey · wData) l with
  | some r => rdData r
  | none =>
    match tok1 1 l with
    | none => none
    | some (x, r) =>
      match eat pCol r with
      | some r2 => (typ r2).map fun y => (.sig x y.1, y.2)
      | none =>
        match eat pEq r with
        | none => none
        | some r2 => (rdE (enoughE r2) r2).map fun y => (.bind x y.1, y.2)
def rdProg (l : List Tok) : Option (List De × List Tok) := if l = [] then some ([], []) else sep rdDecl l

/-! ### size, depth -/
mutual
def Ex.size : Ex → Nat
  | .var _ => 1
  | .con _ => 1
  | .lam _ e => e.size + 1
  | .app a b => a.size + b.size + 1
  | .lt _ _ a b => a.size + b.size + 1
  | .cs e l => e.size + sizeA l + 1
  | .ann e _ => e.size + 1
def Al.size : Al → Nat
  | .mk _ _ b => b.size
def sizeA : List Al → Nat
  | [] => 0
  | a :: r => a.size + sizeA r
end
mutual
def Ex.depth : Ex → Nat
  | .var _ => 1
  | .con _ => 1
  | .lam _ e => e.depth + 1
  | .app a b => max a.depth b.depth + 1
  | .lt _ _ a b => max a.depth b.depth + 1
  | .cs e l => max e.depth (depthA l) + 1
  | .ann e _ => e.depth + 1
def Al.depth : Al → Nat
  | .mk _ _ b => b.depth
def depthA : List Al → Nat
  | [] => 0
  | a :: r => max a.depth (depthA r)
end
def deepO : Option Ty → Bool
  | none => false
  | some t => decide (50 < t.depth)
mutual
/-- is a type in it too deep? -/
def Ex.deepT : Ex → Bool
  | .var _ => false
  | .con _ => false
  | .lam _ e => e.deepT
  | .app a b => a.deepT || b.deepT
  | .lt _ t a b => deepO t || (a.deepT || b.deepT)
  | .cs e l => e.deepT || deepA l
  | .ann e t => decide (50 < t.depth) || e.deepT
def Al.deepT : Al → Bool
  | .mk _ _ b => b.deepT
def deepA : List Al → Bool
  | [] => false
  | a :: r => a.deepT || deepA r
end
def Ex.tooDeep (e : Ex) : Bool := decide (50 < e.depth) || e.deepT
def De.tooDeep : De → Bool
  | .data _ _ cs => cs.any fun c => decide (50 < c.2.depth)
  | .sig _ t => decide (50 < t.depth)
  | .bind _ e => e.tooDeep

/-- H1 -/
def parseE (s : List UInt8) : Except Nat Ex :=
  match scanS s with
  | (ts, _, 0) =>
    match rdE (enoughE ts) ts with
    | some (e, []) => if e.tooDeep then .error 3 else .ok e
    | _ => .error 80
  | (_, _, e) => .error e
def parseP (s : List UInt8) : Except Nat (List De) :=
  match scanS s with
  | (ts, _, 0) =>
    match rdProg ts with
    | some (l, []) => if l.any De.tooDeep then .error 3 else .ok l
    | _ => .error 80
  | (_, _, e) => .error e

/-! ### writing -/
/-! ### the chapter's examples -/
end Sx
end Go.Proofs.YtefldbbiajkbnaaGreatDoor

/-
  The plain mathematics of layer 9 (scope): what is told of an expression, going through it; what stands free in it; renaming.
-/
namespace Go.Proofs.YtefldbbiajkbnaaGreatDoor
namespace Sx

/-! ### lists without what was there -/
def add1 (o : List Nm) (x : Nm) : List Nm := if x ∈ o then o else o ++ [x]
def addA (o l : List Nm) : List Nm := l.foldl add1 o
theorem addA_nil (o : List Nm) : addA o [] = o := rfl
theorem addA_cons (o : List Nm) (x : Nm) (l : List Nm) : addA o (x :: l) = addA (add1 o x) l := rfl
theorem addA_append (o a b : List Nm) : addA o (a ++ b) = addA (addA o a) b := by unfold addA; rw [List.foldl_append]
theorem mem_add1 {o : List Nm} {x y : Nm} : y ∈ add1 o x ↔ y ∈ o ∨ y = x := by
  unfold add1
  split
  · exact ⟨.inl, fun h => h.elim id fun e => e ▸ by assumption⟩
  · simp
theorem mem_addA {o l : List Nm} {y : Nm} : y ∈ addA o l ↔ y ∈ o ∨ y ∈ l := by
  induction l generalizing o with
  | nil => simp [addA_nil]
  | cons x l ih => rw [addA_cons, ih, mem_add1, List.mem_cons, or_assoc]
theorem addA_len {o l : List Nm} : (addA o l).length ≤ o.length + l.length := by
  induction l generalizing o with
  | nil => simp [addA_nil]
  | cons x l ih =>
    rw [addA_cons]
    have := ih (o := add1 o x)
    have h2 : (add1 o x).length ≤ o.length + 1 := by unfold add1; split <;> simp
    simp only [List.length_cons]
    omega
/-! ### what is told, going through an expression -/
inductive Ev where
  | use (x : Nm)
  | cn (c : Nm)
  | bi (xs : List Nm)
  | beg (xs : List Nm)
  | fin (xs : List Nm)
mutual
def evs : Ex → List Ev
  | .var x => [.use x]
  | .con c => [.cn c]
  | .lam x e => .bi [x] :: .beg [x] :: (evs e ++ [.fin [x]])
  | .app a b => .beg [] :: (evs a ++ evs b ++ [.fin []])
  | .lt x _ a b => .bi [x] :: .beg [] :: (evs a ++ .fin [] :: .beg [x] :: (evs b ++ [.fin [x]]))
  | .cs e l => .beg [] :: (evs e ++ .fin [] :: evsA l)
  | .ann e _ => .beg [] :: (evs e ++ [.fin []])
def evs1 : Al → List Ev
  | .mk c vs b => .cn c :: .bi vs :: .beg vs :: (evs b ++ [.fin vs])
def evsA : List Al → List Ev
  | [] => []
  | a :: r => evs1 a ++ evsA r
end

/-! ### what stands free -/
def but (vs : List Nm) (l : List Nm) : List Nm := l.filter fun y => !vs.contains y
mutual
/-- the free names, as often as they stand there -/
def fr : Ex → List Nm
  | .var x => [x]
  | .con _ => []
  | .lam x e => but [x] (fr e)
  | .app a b => fr a ++ fr b
  | .lt x _ a b => fr a ++ but [x] (fr b)
  | .cs e l => fr e ++ frA l
  | .ann e _ => fr e
def fr1 : Al → List Nm
  | .mk _ vs b => but vs (fr b)
def frA : List Al → List Nm
  | [] => []
  | a :: r => fr1 a ++ frA r
end
mutual
def cns : Ex → List Nm
  | .var _ => []
  | .con c => [c]
  | .lam _ e => cns e
  | .app a b => cns a ++ cns b
  | .lt _ _ a b => cns a ++ cns b
  | .cs e l => cns e ++ cnsA l
  | .ann e _ => cns e
def cns1 : Al → List Nm
  | .mk c _ b => c :: cns b
def cnsA : List Al → List Nm
  | [] => []
  | a :: r => cns1 a ++ cnsA r
end
mutual
def bis : Ex → List Nm
  | .var _ => []
  | .con _ => []
  | .lam x e => x :: bis e
  | .app a b => bis a ++ bis b
  | .lt x _ a b => x :: (bis a ++ bis b)
  | .cs e l => bis e ++ bisA l
  | .ann e _ => bis e
def bis1 : Al → List Nm
  | .mk _ vs b => vs ++ bis b
def bisA : List Al → List Nm
  | [] => []
  | a :: r => bis1 a ++ bisA r
end
def freeE (e : Ex) : List Nm := addA [] (fr e)
def consE (e : Ex) : List Nm := addA [] (cns e)
def boundE (e : Ex) : List Nm := addA [] (bis e)

theorem mem_but {vs l : List Nm} {y : Nm} : y ∈ but vs l ↔ y ∈ l ∧ y ∉ vs := by
  unfold but
  simp [List.mem_filter]

/-! ### the counts of what is bound, as they go on -/
abbrev Cts := Nm → Int
def bump (c : Cts) (d : Int) (xs : List Nm) : Cts := fun y => c y + d * (xs.count y : Nat)
theorem bump_nil (c : Cts) (d : Int) : bump c d [] = c := by funext y; simp [bump]
theorem bump_back (c : Cts) (xs : List Nm) : bump (bump c 1 xs) (-1) xs = c := by
  funext y
  unfold bump
  omega
def stF (c : Cts) : Ev → Cts
  | .beg xs => bump c 1 xs
  | .fin xs => bump c (-1) xs
  | _ => c
def tellF (c : Cts) : Ev → List Nm
  | .use x => if c x = 0 then [x] else []
  | _ => []
def runF (c : Cts) : List Ev → List Nm
  | [] => []
  | e :: r => tellF c e ++ runF (stF c e) r
def zeros (c : Cts) (l : List Nm) : List Nm := l.filter fun y => decide (c y = 0)
theorem zeros_append (c : Cts) (a b : List Nm) : zeros c (a ++ b) = zeros c a ++ zeros c b := by unfold zeros; rw [List.filter_append]
theorem zeros_bump {c : Cts} (h : ∀ y, 0 ≤ c y) (xs l : List Nm) : zeros (bump c 1 xs) l = zeros c (but xs l) := by
  unfold zeros but
  rw [List.filter_filter]
  congr 1
  funext y
  have h0 := h y
  unfold bump
  by_cases hy : y ∈ xs
  · have := List.count_pos_iff.2 hy
    have e1 : decide (c y + 1 * ((xs.count y : Nat) : Int) = 0) = false := by simp; omega
    rw [e1]; simp [hy]
  · have := List.count_eq_zero.2 hy
    rw [this]; simp [hy]
theorem bump_pos {c : Cts} (h : ∀ y, 0 ≤ c y) (xs : List Nm) : ∀ y, 0 ≤ bump c 1 xs y := fun y => by
  have := h y
  unfold bump
  omega
theorem runF_beg (c : Cts) (xs : List Nm) (r : List Ev) : runF c (.beg xs :: r) = runF (bump c 1 xs) r := rfl
theorem runF_fin (c : Cts) (xs : List Nm) (r : List Ev) : runF c (.fin xs :: r) = runF (bump c (-1) xs) r := rfl
theorem runF_bi (c : Cts) (xs : List Nm) (r : List Ev) : runF c (.bi xs :: r) = runF c r := rfl
theorem runF_cn (c : Cts) (x : Nm) (r : List Ev) : runF c (.cn x :: r) = runF c r := rfl
/-- what the counts tell is what is free -/
theorem runF_nil0 (c : Cts) (r : List Ev) : runF c (.beg [] :: r) = runF c r := by rw [runF_beg, bump_nil]
theorem runF_fin0 (c : Cts) (r : List Ev) : runF c (.fin [] :: r) = runF c r := by rw [runF_fin, bump_nil]
mutual
theorem runF_evs : ∀ (e : Ex) (c : Cts) (r : List Ev), (∀ y, 0 ≤ c y) → runF c (evs e ++ r) = zeros c (fr e) ++ runF c r
  | .var x, c, r, h => by
    show (if c x = 0 then [x] else []) ++ runF c r = _
    unfold fr zeros
    by_cases hx : c x = 0 <;> simp [hx]
  | .con x, c, r, h => by unfold evs fr zeros; rfl
  | .lam x e, c, r, h => by
    unfold evs fr
    rw [List.cons_append, List.cons_append, List.append_assoc, runF_bi, runF_beg, runF_evs e _ _ (bump_pos h _), zeros_bump h, List.singleton_append, runF_fin, bump_back]
  | .app a b, c, r, h => by
    unfold evs fr
    rw [List.cons_append, List.append_assoc, List.append_assoc, runF_nil0, runF_evs a c _ h, runF_evs b c _ h, List.singleton_append, runF_fin0, zeros_append, List.append_assoc]
  | .lt x t a b, c, r, h => by
    unfold evs fr
    rw [List.cons_append, List.cons_append, List.append_assoc, List.cons_append, List.cons_append, List.append_assoc, runF_bi, runF_nil0, runF_evs a c _ h, runF_fin0, runF_beg, runF_evs b _ _ (bump_pos h _), zeros_bump h, List.singleton_append, runF_fin, bump_back, zeros_append, List.append_assoc]
  | .cs e l, c, r, h => by
    unfold evs fr
    rw [List.cons_append, List.append_assoc, List.cons_append, runF_nil0, runF_evs e c _ h, runF_fin0, runF_evsA l c _ h, zeros_append, List.append_assoc]
  | .ann e t, c, r, h => by
    unfold evs fr
    rw [List.cons_append, List.append_assoc, runF_nil0, runF_evs e c _ h, List.singleton_append, runF_fin0]
theorem runF_evs1 : ∀ (a : Al) (c : Cts) (r : List Ev), (∀ y, 0 ≤ c y) → runF c (evs1 a ++ r) = zeros c (fr1 a) ++ runF c r
  | .mk k vs b, c, r, h => by
    unfold evs1 fr1
    rw [List.cons_append, List.cons_append, List.cons_append, List.append_assoc, runF_cn, runF_bi, runF_beg, runF_evs b _ _ (bump_pos h _), zeros_bump h, List.singleton_append, runF_fin, bump_back]
theorem runF_evsA : ∀ (l : List Al) (c : Cts) (r : List Ev), (∀ y, 0 ≤ c y) → runF c (evsA l ++ r) = zeros c (frA l) ++ runF c r
  | [], c, r, h => by unfold evsA frA zeros; rfl
  | a :: l, c, r, h => by
    unfold evsA frA
    rw [List.append_assoc, runF_evs1 a c _ h, runF_evsA l c _ h, zeros_append, List.append_assoc]
end
theorem runF_free (e : Ex) : runF (fun _ => 0) (evs e) = fr e := by
  have := runF_evs e (fun _ => 0) [] (fun _ => Int.le_refl _)
  rw [List.append_nil] at this
  rw [this]
  unfold zeros runF
  simp

/-! ### constructors and what is bound, off what is told -/
def cnOf : Ev → List Nm
  | .cn c => [c]
  | _ => []
def biOf : Ev → List Nm
  | .bi xs => xs
  | _ => []
mutual
theorem cns_evs : ∀ e : Ex, (evs e).flatMap cnOf = cns e
  | .var x => rfl
  | .con x => rfl
  | .lam x e => by simp [evs, cns, cnOf, cns_evs e]
  | .app a b => by simp [evs, cns, cnOf, cns_evs a, cns_evs b]
  | .lt x t a b => by simp [evs, cns, cnOf, cns_evs a, cns_evs b]
  | .cs e l => by simp [evs, cns, cnOf, cns_evs e, cns_evsA l]
  | .ann e t => by simp [evs, cns, cnOf, cns_evs e]
theorem cns_evs1 : ∀ a : Al, (evs1 a).flatMap cnOf = cns1 a
  | .mk k vs b => by simp [evs1, cns1, cnOf, cns_evs b]
theorem cns_evsA : ∀ l : List Al, (evsA l).flatMap cnOf = cnsA l
  | [] => rfl
  | a :: l => by simp [evsA, cnsA, cns_evs1 a, cns_evsA l]
end
mutual
theorem bis_evs : ∀ e : Ex, (evs e).flatMap biOf = bis e
  | .var x => rfl
  | .con x => rfl
  | .lam x e => by simp [evs, bis, biOf, bis_evs e]
  | .app a b => by simp [evs, bis, biOf, bis_evs a, bis_evs b]
  | .lt x t a b => by simp [evs, bis, biOf, bis_evs a, bis_evs b]
  | .cs e l => by simp [evs, bis, biOf, bis_evs e, bis_evsA l]
  | .ann e t => by simp [evs, bis, biOf, bis_evs e]
theorem bis_evs1 : ∀ a : Al, (evs1 a).flatMap biOf = bis1 a
  | .mk k vs b => by simp [evs1, bis1, biOf, bis_evs b]
theorem bis_evsA : ∀ l : List Al, (evsA l).flatMap biOf = bisA l
  | [] => rfl
  | a :: l => by simp [evsA, bisA, bis_evs1 a, bis_evsA l]
end

/-! ### another name in the place of a variable that is free -/
end Sx
end Go.Proofs.YtefldbbiajkbnaaGreatDoor

/-
  The plain mathematics of layer 9 (scope): whether all names of a program are as they may be; what passes is declared.
-/
namespace Go.Proofs.YtefldbbiajkbnaaGreatDoor
namespace Sx
open Lx Tx

/-- the first name that stands there for the second time, some being there already -/
def rep (s : List Nm) : List Nm → Option Nm
  | [] => none
  | x :: r => if x ∈ s then some x else rep (x :: s) r
theorem rep_mem {s l : List Nm} {x : Nm} (h : rep s l = some x) : x ∈ l := by
  induction l generalizing s with
  | nil => cases h
  | cons y r ih =>
    unfold rep at h
    split at h
    · injection h with h; simp [h]
    · exact List.mem_cons_of_mem _ (ih h)
def wAny : Nm := [65, 110, 121]
def conNames (cs : List (Nm × Ty)) : List Nm := cs.map (·.1)
/-- what is declared twice, some data, constructors, signatures, bindings being there already -/
def tw (d c s b : List Nm) : List De → Option Nm
  | [] => none
  | .data n ps cs :: r =>
    if n ∈ d then some n
    else match rep [] ps with
      | some x => some x
      | none => match rep c (conNames cs) with
        | some x => some x
        | none => tw (n :: d) (conNames cs ++ c) s b r
  | .sig x _ :: r => if x ∈ s then some x else tw d c (x :: s) b r
  | .bind x _ :: r => if x ∈ b then some x else tw d c s (x :: b) r
def bindOf : De → List Nm
  | .bind x _ => [x]
  | _ => []
def sigOf : De → List Nm
  | .sig x _ => [x]
  | _ => []
def conOf : De → List Nm
  | .data _ _ cs => conNames cs
  | _ => []
def exOf : De → List Ex
  | .bind _ e => [e]
  | _ => []
def binds (l : List De) : List Nm := l.flatMap bindOf
def sigs (l : List De) : List Nm := l.flatMap sigOf
def cons (l : List De) : List Nm := l.flatMap conOf
def exs (l : List De) : List Ex := l.flatMap exOf
def repV : Ev → Option Nm
  | .bi xs => rep [] xs
  | _ => none
/-- what is wrong with a binding's expression, and how -/
def mis (B C : List Nm) (e : Ex) : Option (Nm × Nat) :=
  match (boundE e).find? (fun x => decide (x ∈ B)) with
  | some x => some (x, 90)
  | none => match (evs e).findSome? repV with
    | some x => some (x, 90)
    | none => match (freeE e).find? (fun x => decide (x ∉ B)) with
      | some x => some (x, 91)
      | none => match (consE e).find? (fun x => decide (x ∉ C)) with
        | some x => some (x, 91)
        | none => none
/-- I2 -/
def chk (l : List De) : Nm × Nat :=
  match tw [wAny] [] [] [] l with
  | some x => (x, 90)
  | none => match (sigs l).find? (fun x => decide (x ∉ binds l)) with
    | some x => (x, 92)
    | none => match (exs l).findSome? (mis (binds l) (cons l)) with
      | some y => y
      | none => ([], 0)

/-! ### all names are words -/
def useOf : Ev → List Nm
  | .use x => [x]
  | .cn x => [x]
  | .bi xs => xs
  | _ => []
/-- all names of an expression -/
def nms (e : Ex) : List Nm := (evs e).flatMap useOf
def nmsD : De → List Nm
  | .data n ps cs => n :: (ps ++ conNames cs)
  | .sig x _ => [x]
  | .bind x e => x :: nms e
def Named (l : List De) : Prop := ∀ d ∈ l, ∀ x ∈ nmsD d, x ≠ []

mutual
theorem fr_nms : ∀ (e : Ex) (x : Nm), x ∈ fr e → x ∈ nms e
  | .var y, x, h => by simpa [fr, nms, evs, useOf] using h
  | .con y, x, h => by simp [fr] at h
  | .lam y e, x, h => by
    have := fr_nms e x (mem_but.1 h).1
    unfold nms at this ⊢
    simp only [evs, List.flatMap_cons, List.flatMap_append, List.mem_append]
    exact .inr (.inr (.inl this))
  | .app a b, x, h => by
    unfold fr at h
    have : x ∈ nms a ∨ x ∈ nms b := (List.mem_append.1 h).imp (fr_nms a x) (fr_nms b x)
    unfold nms at this ⊢
    simp only [evs, List.flatMap_cons, List.flatMap_append, List.mem_append]
    exact .inr (.inl this)
  | .lt y t a b, x, h => by
    unfold fr at h
    have : x ∈ nms a ∨ x ∈ nms b := (List.mem_append.1 h).imp (fr_nms a x) (fun h => fr_nms b x (mem_but.1 h).1)
    unfold nms at this ⊢
    simp only [evs, List.flatMap_cons, List.flatMap_append, List.mem_append]
    rcases this with h | h
    · exact .inr (.inr (.inl h))
    · exact .inr (.inr (.inr (.inr (.inr (.inl h)))))
  | .cs e l, x, h => by
    unfold fr at h
    have : x ∈ nms e ∨ x ∈ (evsA l).flatMap useOf := (List.mem_append.1 h).imp (fr_nms e x) (fr_nmsA l x)
    unfold nms at this ⊢
    simp only [evs, List.flatMap_cons, List.flatMap_append, List.mem_append]
    rcases this with h | h
    · exact .inr (.inl h)
    · exact .inr (.inr (.inr h))
  | .ann e t, x, h => by
    have := fr_nms e x h
    unfold nms at this ⊢
    simp only [evs, List.flatMap_cons, List.flatMap_append, List.mem_append]
    exact .inr (.inl this)
theorem fr_nms1 : ∀ (a : Al) (x : Nm), x ∈ fr1 a → x ∈ (evs1 a).flatMap useOf
  | .mk c vs b, x, h => by
    have := fr_nms b x (mem_but.1 h).1
    unfold nms at this
    simp only [evs1, List.flatMap_cons, List.flatMap_append, List.mem_append]
    exact .inr (.inr (.inr (.inl this)))
theorem fr_nmsA : ∀ (l : List Al) (x : Nm), x ∈ frA l → x ∈ (evsA l).flatMap useOf
  | [], x, h => by simp [frA] at h
  | a :: l, x, h => by
    unfold frA at h
    simp only [evsA, List.flatMap_append, List.mem_append]
    exact (List.mem_append.1 h).imp (fr_nms1 a x) (fr_nmsA l x)
end
theorem cns_nms (e : Ex) (x : Nm) (h : x ∈ cns e) : x ∈ nms e := by
  rw [← cns_evs] at h
  obtain ⟨v, hv, hx⟩ := List.mem_flatMap.1 h
  refine List.mem_flatMap.2 ⟨v, hv, ?_⟩
  cases v <;> simp_all [cnOf, useOf]
theorem bis_nms (e : Ex) (x : Nm) (h : x ∈ bis e) : x ∈ nms e := by
  rw [← bis_evs] at h
  obtain ⟨v, hv, hx⟩ := List.mem_flatMap.1 h
  refine List.mem_flatMap.2 ⟨v, hv, ?_⟩
  cases v <;> simp_all [biOf, useOf]

/-! ### what Check tells -/
theorem tw_mem {d c s b : List Nm} {l : List De} {x : Nm} (h : tw d c s b l = some x) : ∃ y ∈ l, x ∈ nmsD y := by
  induction l generalizing d c s b with
  | nil => cases h
  | cons y r ih =>
    have up : (∃ z ∈ r, x ∈ nmsD z) → ∃ z ∈ y :: r, x ∈ nmsD z := fun ⟨z, hz, hx⟩ => ⟨z, List.mem_cons_of_mem _ hz, hx⟩
    cases y with
    | data n ps cs =>
      unfold tw at h
      split at h
      · injection h with h; exact ⟨_, List.mem_cons_self, by simp [nmsD, h]⟩
      · split at h
        · rename_i x1 h1
          injection h with h; subst h
          exact ⟨_, List.mem_cons_self, by have := rep_mem h1; simp [nmsD, this]⟩
        · split at h
          · rename_i x1 h1
            injection h with h; subst h
            exact ⟨_, List.mem_cons_self, by have := rep_mem h1; simp [nmsD, this]⟩
          · exact up (ih h)
    | sig n t =>
      unfold tw at h
      split at h
      · injection h with h; exact ⟨_, List.mem_cons_self, by simp [nmsD, h]⟩
      · exact up (ih h)
    | bind n e =>
      unfold tw at h
      split at h
      · injection h with h; exact ⟨_, List.mem_cons_self, by simp [nmsD, h]⟩
      · exact up (ih h)
theorem tw_binds {d c s b : List Nm} {l : List De} (h : tw d c s b l = none) : (binds l).Nodup ∧ ∀ x ∈ binds l, x ∉ b := by
  induction l generalizing d c s b with
  | nil => exact ⟨by simp [binds], fun x hx => by simp [binds] at hx⟩
  | cons y r ih =>
    cases y with
    | data n ps cs =>
      unfold tw at h
      split at h
      · cases h
      · split at h
        · cases h
        · split at h
          · cases h
          · exact ih h
    | sig n t =>
      unfold tw at h
      split at h
      · cases h
      · exact ih h
    | bind n e =>
      unfold tw at h
      split at h
      · cases h
      · rename_i hn
        obtain ⟨h1, h2⟩ := ih h
        have e1 : binds (De.bind n e :: r) = n :: binds r := rfl
        rw [e1]
        refine ⟨List.nodup_cons.2 ⟨fun hm => h2 n hm (by simp), h1⟩, fun x hx => ?_⟩
        rcases List.mem_cons.1 hx with rfl | hx
        · exact hn
        · exact fun hs => h2 x hx (List.mem_cons_of_mem _ hs)
theorem findSome_mem {α β : Type} {f : α → Option β} {l : List α} {b : β} (h : l.findSome? f = some b) : ∃ a ∈ l, f a = some b := by
  induction l with
  | nil => cases h
  | cons x r ih =>
    rw [List.findSome?_cons] at h
    cases hx : f x with
    | some y => rw [hx] at h; injection h with h; exact ⟨x, List.mem_cons_self, by rw [hx, h]⟩
    | none => rw [hx] at h; obtain ⟨a, ha, h2⟩ := ih h; exact ⟨a, List.mem_cons_of_mem _ ha, h2⟩
theorem findSome_none {α β : Type} {f : α → Option β} {l : List α} (h : l.findSome? f = none) : ∀ a ∈ l, f a = none := by
  induction l with
  | nil => intro a ha; simp at ha
  | cons x r ih =>
    rw [List.findSome?_cons] at h
    cases hx : f x with
    | some y => rw [hx] at h; cases h
    | none =>
      rw [hx] at h
      intro a ha
      rcases List.mem_cons.1 ha with rfl | ha
      · exact hx
      · exact ih h a ha
theorem mis_some {B C : List Nm} {e : Ex} {y : Nm × Nat} (h : mis B C e = some y) : y.1 ∈ nms e ∧ (y.2 = 90 ∨ y.2 = 91) := by
  unfold mis at h
  split at h
  · rename_i x hx
    injection h with h; subst h
    have := List.mem_of_find?_eq_some hx
    exact ⟨bis_nms e x (by simpa [boundE, mem_addA] using this), .inl rfl⟩
  · split at h
    · rename_i x hx
      injection h with h; subst h
      obtain ⟨v, hv, h2⟩ := findSome_mem hx
      refine ⟨List.mem_flatMap.2 ⟨v, hv, ?_⟩, .inl rfl⟩
      cases v <;> simp_all [repV, useOf]
      exact rep_mem h2
    · split at h
      · rename_i x hx
        injection h with h; subst h
        have := List.mem_of_find?_eq_some hx
        exact ⟨fr_nms e x (by simpa [freeE, mem_addA] using this), .inr rfl⟩
      · split at h
        · rename_i x hx
          injection h with h; subst h
          have := List.mem_of_find?_eq_some hx
          exact ⟨cns_nms e x (by simpa [consE, mem_addA] using this), .inr rfl⟩
        · cases h
theorem mis_none {B C : List Nm} {e : Ex} (h : mis B C e = none) : (∀ x ∈ freeE e, x ∈ B) ∧ (∀ x ∈ boundE e, x ∉ B) ∧ (∀ x ∈ consE e, x ∈ C) := by
  unfold mis at h
  split at h
  · cases h
  · rename_i h1
    split at h
    · cases h
    · split at h
      · cases h
      · rename_i h2
        split at h
        · cases h
        · rename_i h3
          rw [List.find?_eq_none] at h1 h2 h3
          exact ⟨fun x hx => by simpa using h2 x hx, fun x hx => by simpa using h1 x hx, fun x hx => by simpa using h3 x hx⟩
theorem exs_mem {l : List De} {e : Ex} (h : e ∈ exs l) : ∃ x, De.bind x e ∈ l := by
  obtain ⟨d, hd, he⟩ := List.mem_flatMap.1 h
  cases d <;> simp [exOf] at he
  subst he
  exact ⟨_, hd⟩
theorem exs_of {l : List De} {x : Nm} {e : Ex} (h : De.bind x e ∈ l) : e ∈ exs l := List.mem_flatMap.2 ⟨_, h, by simp [exOf]⟩
/-- ScopeDeclares, its first half: what is told when something is wrong -/
theorem chk_bad {l : List De} (hn : Named l) {x : Nm} {e : Nat} (h : chk l = (x, e)) (he : e ≠ 0) : x ≠ [] ∧ (e = 90 ∨ e = 91 ∨ e = 92) := by
  unfold chk at h
  split at h
  · rename_i y hy
    injection h with h1 h2; subst h1 h2
    obtain ⟨d, hd, hx⟩ := tw_mem hy
    exact ⟨hn d hd _ hx, .inl rfl⟩
  · split at h
    · rename_i y hy
      injection h with h1 h2; subst h1 h2
      obtain ⟨d, hd, hx⟩ := List.mem_flatMap.1 (List.mem_of_find?_eq_some hy)
      refine ⟨hn d hd _ ?_, .inr (.inr rfl)⟩
      cases d <;> simp_all [sigOf, nmsD]
    · split at h
      · rename_i y hy
        subst h
        obtain ⟨a, ha, h2⟩ := findSome_mem hy
        obtain ⟨z, hz⟩ := exs_mem ha
        obtain ⟨m1, m2⟩ := mis_some h2
        refine ⟨hn _ hz _ (by simp [nmsD]; exact .inr m1), ?_⟩
        rcases m2 with h | h
        · exact .inl h
        · exact .inr (.inl h)
      · injection h with h1 h2; exact absurd h2.symm he
/-- ScopeDeclares: what passes is declared -/
theorem chk_ok {l : List De} {x : Nm} (h : chk l = (x, 0)) : x = [] ∧ (binds l).Nodup ∧ (∀ y ∈ sigs l, y ∈ binds l) ∧ ∀ z e, De.bind z e ∈ l → (∀ y ∈ freeE e, y ∈ binds l) ∧ ∀ y ∈ boundE e, y ∉ binds l := by
  unfold chk at h
  split at h
  · injection h with h1 h2; cases h2
  · rename_i htw
    split at h
    · injection h with h1 h2; cases h2
    · rename_i hs
      split at h
      · rename_i y hy
        obtain ⟨a, ha, h2⟩ := findSome_mem hy
        rw [h] at h2
        rcases (mis_some h2).2 with h3 | h3 <;> cases h3
      · rename_i hm
        injection h with h1 h2
        refine ⟨h1.symm, (tw_binds htw).1, fun y hy => ?_, fun z e hz => ?_⟩
        · rw [List.find?_eq_none] at hs
          simpa using hs y hy
        · obtain ⟨a1, a2, -⟩ := mis_none (findSome_none hm e (exs_of hz))
          exact ⟨a1, a2⟩

/-! ### the chapter's examples -/
end Sx
end Go.Proofs.YtefldbbiajkbnaaGreatDoor
