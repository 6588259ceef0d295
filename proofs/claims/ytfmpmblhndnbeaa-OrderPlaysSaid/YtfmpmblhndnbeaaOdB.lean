/-
  Groups, on (layer 10): how many numbers stand in all groups; what is used stands no later; turned uses; a line, a ring, a chain. No program stands here.
-/
import Derived.Test.YtfmpmblhndnbeaaOdA
namespace Go.Proofs.Ytfmpmblhndnbeaa.Od
variable {u t : Uses} {l l' : List (List Nat)}
namespace GrpOK
theorem no_later (h : GrpOK u l) {i j k m : Nat} {g g' : List Nat} (hk : l[k]? = some g) (hi : i ∈ g) (hm : l[m]? = some g') (hj : j ∈ g') (hu : Use u i j) : m ≤ k := by
  obtain ⟨m2, g2, h2, e2, hj2⟩ := h.first k g i j hk hi hu
  have := h.uniq hm e2 hj hj2
  omega
theorem nodup (h : GrpOK u l) : l.Pairwise (fun a b => ∀ x ∈ a, ∀ y ∈ b, x ≠ y) := by
  rw [List.pairwise_iff_getElem]
  intro i j hi hj hij x hx y hy e
  subst e
  have := h.uniq (List.getElem?_eq_getElem hi) (List.getElem?_eq_getElem hj) hx hy
  omega
theorem flat_nodup (h : GrpOK u l) : l.flatten.Nodup := by
  unfold List.Nodup
  rw [List.pairwise_flatten]
  exact ⟨fun g hg => (h.up g hg).imp (fun h => by omega), h.nodup⟩
theorem flat_mem (h : GrpOK u l) (i : Nat) : i ∈ l.flatten ↔ i < u.length := by
  rw [List.mem_flatten]
  constructor
  · rintro ⟨g, hg, hi⟩; exact h.lt g hg i hi
  · intro hi
    obtain ⟨k, g, hk, hg⟩ := h.all i hi
    exact ⟨g, List.mem_iff_getElem?.2 ⟨k, hk⟩, hg⟩
theorem flat_len (h : GrpOK u l) : l.flatten.length = u.length := by
  have p := (List.perm_ext_iff_of_nodup h.flat_nodup (List.nodup_range (n := u.length))).2 (fun a => by rw [h.flat_mem, List.mem_range])
  rw [p.length_eq, List.length_range]
/-- with the same mutual reach: a group of the one list is one of the other's. -/
theorem clsM (h : GrpOK u l) (h' : GrpOK t l') (hl : t.length = u.length) (hM : ∀ i j, Mut u i j ↔ Mut t i j) {g : List Nat} (hg : g ∈ l) : g ∈ l' := by
  obtain ⟨k, hk⟩ := List.mem_iff_getElem?.1 hg
  obtain ⟨x, hx⟩ : ∃ x, x ∈ g := by
    cases g with
    | nil => exact absurd rfl (h.ne _ hg)
    | cons a r => exact ⟨a, by simp⟩
  obtain ⟨m, g', hm, hx'⟩ := h'.all x (by rw [hl]; exact h.lt g hg x hx)
  have hg' : g' ∈ l' := List.mem_iff_getElem?.2 ⟨m, hm⟩
  have : g = g' := up_ext g g' (h.up g hg) (h'.up g' hg') (fun y => by
    constructor
    · intro hy
      have hmu := (hM x y).1 ((h.mu k k g g x y hk hk hx hy).1 rfl)
      obtain ⟨m2, g2, hm2, hy2⟩ := h'.all y (by rw [hl]; exact h.lt g hg y hy)
      have := (h'.mu m m2 g' g2 x y hm hm2 hx' hy2).2 hmu
      subst this; rw [hm] at hm2; injection hm2 with e; rw [e]; exact hy2
    · intro hy
      have hmu := (hM x y).2 ((h'.mu m m g' g' x y hm hm hx' hy).1 rfl)
      obtain ⟨m2, g2, hm2, hy2⟩ := h.all y (by rw [← hl]; exact h'.lt g' hg' y hy)
      have := (h.mu k m2 g g2 x y hk hm2 hx hy2).2 hmu
      subst this; rw [hk] at hm2; injection hm2 with e; rw [e]; exact hy2)
  exact this ▸ hg'
theorem groups_nodup (h : GrpOK u l) : l.Nodup := by
  refine List.Pairwise.imp_of_mem ?_ h.nodup
  intro a b ha _ hab e
  subst e
  cases a with
  | nil => exact absurd rfl (h.ne _ ha)
  | cons x r => exact hab x (by simp) x (by simp) rfl
theorem lenM (h : GrpOK u l) (h' : GrpOK t l') (hl : t.length = u.length) (hM : ∀ i j, Mut u i j ↔ Mut t i j) : l.length = l'.length := by
  have a := h.groups_nodup.length_le_of_subset (List.subset_def.2 (fun hg => h.clsM h' hl hM hg))
  have b := h'.groups_nodup.length_le_of_subset (List.subset_def.2 (fun hg => h'.clsM h hl.symm (fun i j => (hM i j).symm) hg))
  omega
end GrpOK
theorem turn_rch (ht : ∀ i j, Use t i j ↔ Use u j i) {i j : Nat} (h : Rch u i j) : Rch t j i := by
  induction h with
  | refl i => exact .refl i
  | step a _ ih => exact ih.trans (.one ((ht _ _).2 a))
theorem turn_mut (ht : ∀ i j, Use t i j ↔ Use u j i) (i j : Nat) : Mut u i j ↔ Mut t i j := by
  have ht' : ∀ i j, Use u i j ↔ Use t j i := fun i j => (ht j i).symm
  exact ⟨fun h => ⟨turn_rch ht h.2, turn_rch ht h.1⟩, fun h => ⟨turn_rch ht' h.2, turn_rch ht' h.1⟩⟩

/-! ### a line, a chain: one by one -/
/-- what is reached is no greater. -/
theorem rch_le (hu : ∀ i j, Use u i j → j < i) {i j : Nat} (h : Rch u i j) : j ≤ i := by
  induction h with
  | refl i => exact Nat.le_refl _
  | step a _ ih => have := hu _ _ a; omega
theorem rch_ge (hu : ∀ i j, Use u i j → i < j) {i j : Nat} (h : Rch u i j) : i ≤ j := by
  induction h with
  | refl i => exact Nat.le_refl _
  | step a _ ih => have := hu _ _ a; omega
def ones (n : Nat) : List (List Nat) := (List.range n).map (fun i => [i])
theorem ones_get (n k : Nat) (g : List Nat) : (ones n)[k]? = some g ↔ k < n ∧ g = [k] := by
  unfold ones
  rw [List.getElem?_map]
  by_cases h : k < n
  · rw [List.getElem?_range h]; simp [h, eq_comm]
  · rw [List.getElem?_eq_none (by simp; omega)]; simp [h]
theorem ones_mem (n : Nat) (g : List Nat) : g ∈ ones n ↔ ∃ k, k < n ∧ g = [k] := by
  rw [List.mem_iff_getElem?]
  exact ⟨fun ⟨k, h⟩ => ⟨k, (ones_get n k g).1 h⟩, fun ⟨k, h⟩ => ⟨k, (ones_get n k g).2 h⟩⟩
/-- who uses lesser ones alone: one by one, rising. -/
theorem ones_ok (n : Nat) (hn : u.length = n) (hu : ∀ i j, Use u i j → j < i) : GrpOK u (ones n) where
  ne g hg := by obtain ⟨k, _, rfl⟩ := (ones_mem n g).1 hg; simp
  up g hg := by obtain ⟨k, _, rfl⟩ := (ones_mem n g).1 hg; simp
  all i hi := ⟨i, [i], (ones_get n i _).2 ⟨by omega, rfl⟩, by simp⟩
  lt g hg i hi := by obtain ⟨k, hk, rfl⟩ := (ones_mem n g).1 hg; simp at hi; omega
  mu k m g h i j hk hm hi hj := by
    obtain ⟨a, rfl⟩ := (ones_get n k g).1 hk
    obtain ⟨b, rfl⟩ := (ones_get n m h).1 hm
    simp at hi hj; subst hi hj
    constructor
    · intro e; subst e; exact .refl u _
    · intro e; have := rch_le hu e.1; have := rch_le hu e.2; omega
  first k g i j hk hi hu' := by
    obtain ⟨a, rfl⟩ := (ones_get n k g).1 hk
    simp at hi; subst hi
    have := hu _ _ hu'
    exact ⟨j, [j], by omega, (ones_get n j _).2 ⟨by omega, rfl⟩, by simp⟩
  least k m g h hkm hk hm _ i hi := by
    obtain ⟨a, rfl⟩ := (ones_get n k g).1 hk
    obtain ⟨b, rfl⟩ := (ones_get n m h).1 hm
    simp at hi; subst hi
    exact ⟨k, by simp, hkm⟩
/-- from behind. -/
def backs (n : Nat) : List (List Nat) := (List.range n).map (fun i => [n - 1 - i])
theorem backs_get (n k : Nat) (g : List Nat) : (backs n)[k]? = some g ↔ k < n ∧ g = [n - 1 - k] := by
  unfold backs
  rw [List.getElem?_map]
  by_cases h : k < n
  · rw [List.getElem?_range h]; simp [h, eq_comm]
  · rw [List.getElem?_eq_none (by simp; omega)]; simp [h]
theorem backs_mem (n : Nat) (g : List Nat) : g ∈ backs n ↔ ∃ k, k < n ∧ g = [n - 1 - k] := by
  rw [List.mem_iff_getElem?]
  exact ⟨fun ⟨k, h⟩ => ⟨k, (backs_get n k g).1 h⟩, fun ⟨k, h⟩ => ⟨k, (backs_get n k g).2 h⟩⟩
/-- each uses the next one, the last one none: from behind. -/
theorem backs_ok (n : Nat) (hn : u.length = n) (hu : ∀ i j, Use u i j ↔ j = i + 1 ∧ j < n) : GrpOK u (backs n) where
  ne g hg := by obtain ⟨k, _, rfl⟩ := (backs_mem n g).1 hg; simp
  up g hg := by obtain ⟨k, _, rfl⟩ := (backs_mem n g).1 hg; simp
  all i hi := ⟨n - 1 - i, [i], (backs_get n _ _).2 ⟨by omega, by simp; omega⟩, by simp⟩
  lt g hg i hi := by obtain ⟨k, hk, rfl⟩ := (backs_mem n g).1 hg; simp at hi; omega
  mu k m g h i j hk hm hi hj := by
    have hu' : ∀ i j, Use u i j → i < j := fun i j h => by have := (hu i j).1 h; omega
    obtain ⟨a, rfl⟩ := (backs_get n k g).1 hk
    obtain ⟨b, rfl⟩ := (backs_get n m h).1 hm
    simp at hi hj; subst hi hj
    constructor
    · intro e; subst e; exact .refl u _
    · intro e; have := rch_ge hu' e.1; have := rch_ge hu' e.2; omega
  first k g i j hk hi hu' := by
    obtain ⟨a, rfl⟩ := (backs_get n k g).1 hk
    simp at hi; subst hi
    have := (hu _ _).1 hu'
    exact ⟨n - 1 - j, [j], by omega, (backs_get n _ _).2 ⟨by omega, by simp; omega⟩, by simp⟩
  least k m g h hkm hk hm hr i hi := by
    exfalso
    obtain ⟨a, rfl⟩ := (backs_get n k g).1 hk
    obtain ⟨b, rfl⟩ := (backs_get n m h).1 hm
    simp at hi; subst hi
    obtain ⟨m', h', hm', e', hj⟩ := hr _ (by simp) (n - 1 - m + 1) ((hu _ _).2 ⟨rfl, by omega⟩)
    obtain ⟨c, rfl⟩ := (backs_get n m' h').1 e'
    simp at hj; omega
/-- a ring: one group. -/
theorem ring_ok (n : Nat) (h0 : 0 < n) (hn : u.length = n) (hu : ∀ i, i < n → Use u i ((i + 1) % n)) (hv : Valid u) : GrpOK u [List.range n] := by
  have up1 : ∀ d i, i + d < n → Rch u i (i + d) := by
    intro d
    induction d with
    | zero => intro i _; exact .refl i
    | succ d ih =>
      intro i hi
      have := hu i (by omega)
      rw [Nat.mod_eq_of_lt (by omega)] at this
      have h2 := ih (i + 1) (by omega)
      rw [show i + 1 + d = i + (d + 1) by omega] at h2
      exact .step this h2
  have to : ∀ i, i < n → Rch u i 0 := by
    intro i hi
    have h1 := up1 (n - 1 - i) i (by omega)
    have h2 := hu (n - 1) (by omega)
    rw [show n - 1 + 1 = n by omega, Nat.mod_self] at h2
    rw [show i + (n - 1 - i) = n - 1 by omega] at h1
    exact h1.trans (.one h2)
  have all : ∀ i j, i < n → j < n → Rch u i j := fun i j hi hj => (to i hi).trans (by have := up1 j 0 (by omega); rwa [Nat.zero_add] at this)
  have get : ∀ (k : Nat) (g : List Nat), [List.range n][k]? = some g → k = 0 ∧ g = List.range n := by
    intro k g h
    cases k with
    | zero => simp at h; exact ⟨rfl, h.symm⟩
    | succ k => simp at h
  exact {
    ne := by intro g hg; simp at hg; subst hg; intro h; have := congrArg List.length h; simp at this; omega
    up := by intro g hg; simp at hg; subst hg; exact List.pairwise_lt_range
    all := fun i hi => ⟨0, _, rfl, by simp; omega⟩
    lt := by intro g hg i hi; simp at hg; subst hg; simp at hi; omega
    mu := by
      intro k m g h i j hk hm hi hj
      obtain ⟨rfl, rfl⟩ := get k g hk
      obtain ⟨rfl, rfl⟩ := get m h hm
      simp at hi hj
      exact ⟨fun _ => ⟨all i j hi hj, all j i hj hi⟩, fun _ => rfl⟩
    first := by
      intro k g i j hk hi h
      obtain ⟨rfl, rfl⟩ := get k g hk
      exact ⟨0, _, Nat.le_refl _, rfl, by have := hv _ _ h; simp; omega⟩
    least := by
      intro k m g h hkm hk hm
      obtain ⟨rfl, rfl⟩ := get k g hk
      obtain ⟨rfl, rfl⟩ := get m h hm
      omega }
end Go.Proofs.Ytfmpmblhndnbeaa.Od
