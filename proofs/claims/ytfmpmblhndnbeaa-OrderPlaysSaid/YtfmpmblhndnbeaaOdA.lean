/-
  The mathematics of groups (layer 10): a list of groups that is as the chapter says is the only one; what is used comes first; turned uses have the same groups; lines and rings. No program stands here.
-/
namespace Go.Proofs.Ytfmpmblhndnbeaa.Od
abbrev Uses := List (List Nat)
/-- i uses j. -/
def Use (u : Uses) (i j : Nat) : Prop := ∃ l, u[i]? = some l ∧ j ∈ l
/-- j is come to from i. -/
inductive Rch (u : Uses) : Nat → Nat → Prop
  | refl (i : Nat) : Rch u i i
  | step {i j k : Nat} : Use u i j → Rch u j k → Rch u i k
theorem Rch.trans {u : Uses} {i j k : Nat} (h : Rch u i j) (h2 : Rch u j k) : Rch u i k := by
  induction h with
  | refl i => exact h2
  | step a _ ih => exact .step a (ih h2)
theorem Rch.one {u : Uses} {i j : Nat} (h : Use u i j) : Rch u i j := .step h (.refl j)
def Mut (u : Uses) (i j : Nat) : Prop := Rch u i j ∧ Rch u j i
theorem Mut.symm {u : Uses} {i j : Nat} (h : Mut u i j) : Mut u j i := ⟨h.2, h.1⟩
theorem Mut.trans {u : Uses} {i j k : Nat} (h : Mut u i j) (g : Mut u j k) : Mut u i k := ⟨h.1.trans g.1, g.2.trans h.2⟩
theorem Mut.refl (u : Uses) (i : Nat) : Mut u i i := ⟨.refl i, .refl i⟩
/-- each use is a thing. -/
def Valid (u : Uses) : Prop := ∀ i j, Use u i j → j < u.length
/-- what a list of groups is to be. -/
structure GrpOK (u : Uses) (l : List (List Nat)) : Prop where
  ne : ∀ g ∈ l, g ≠ []
  up : ∀ g ∈ l, g.Pairwise (· < ·)
  all : ∀ i, i < u.length → ∃ (k : Nat) (g : List Nat), l[k]? = some g ∧ i ∈ g
  lt : ∀ g ∈ l, ∀ i ∈ g, i < u.length
  mu : ∀ (k m : Nat) (g h : List Nat) (i j : Nat), l[k]? = some g → l[m]? = some h → i ∈ g → j ∈ h → (k = m ↔ Mut u i j)
  first : ∀ (k : Nat) (g : List Nat) (i j : Nat), l[k]? = some g → i ∈ g → Use u i j → ∃ (m : Nat) (h : List Nat), m ≤ k ∧ l[m]? = some h ∧ j ∈ h
  least : ∀ (k m : Nat) (g h : List Nat), k < m → l[k]? = some g → l[m]? = some h →
    (∀ i ∈ h, ∀ j, Use u i j → ∃ (m' : Nat) (h' : List Nat), (m' < k ∨ m' = m) ∧ l[m']? = some h' ∧ j ∈ h') → ∀ i ∈ h, ∃ a ∈ g, a < i

theorem up_ext : ∀ (a b : List Nat), a.Pairwise (· < ·) → b.Pairwise (· < ·) → (∀ x, x ∈ a ↔ x ∈ b) → a = b
  | [], [], _, _, _ => rfl
  | [], y :: b, _, _, h => by have := (h y).2 (by simp); simp at this
  | x :: a, [], _, _, h => by have := (h x).1 (by simp); simp at this
  | x :: a, y :: b, ha, hb, h => by
    have ha' := List.pairwise_cons.1 ha
    have hb' := List.pairwise_cons.1 hb
    have e : x = y := by
      rcases List.mem_cons.1 ((h x).1 (by simp)) with e | e
      · exact e
      · rcases List.mem_cons.1 ((h y).2 (by simp)) with e' | e'
        · exact e'.symm
        · have := hb'.1 x e; have := ha'.1 y e'; omega
    subst e
    have : a = b := up_ext a b ha'.2 hb'.2 (fun z => by
      constructor
      · intro hz
        rcases List.mem_cons.1 ((h z).1 (by simp [hz])) with e | e
        · have := ha'.1 z hz; omega
        · exact e
      · intro hz
        rcases List.mem_cons.1 ((h z).2 (by simp [hz])) with e | e
        · have := hb'.1 z hz; omega
        · exact e)
    rw [this]

namespace GrpOK
variable {u : Uses} {l l' : List (List Nat)}
theorem uniq (h : GrpOK u l) {k m : Nat} {g g' : List Nat} {i : Nat} (hk : l[k]? = some g) (hm : l[m]? = some g') (hi : i ∈ g) (hi' : i ∈ g') : k = m := (h.mu k m g g' i i hk hm hi hi').2 (.refl u i)
theorem rch (h : GrpOK u l) {i j : Nat} (r : Rch u i j) : ∀ {k : Nat} {g : List Nat}, l[k]? = some g → i ∈ g → ∃ (m : Nat) (g' : List Nat), m ≤ k ∧ l[m]? = some g' ∧ j ∈ g' := by
  induction r with
  | refl i => intro k g hk hi; exact ⟨k, g, Nat.le_refl _, hk, hi⟩
  | step a _ ih =>
    intro k g hk hi
    obtain ⟨m, g', hm, e, hj⟩ := h.first k g _ _ hk hi a
    obtain ⟨m2, g2, hm2, e2, hj2⟩ := ih e hj
    exact ⟨m2, g2, by omega, e2, hj2⟩
/-- a group of the one list is one of the other's. -/
theorem cls (h : GrpOK u l) (h' : GrpOK u l') {k : Nat} {g : List Nat} (hk : l[k]? = some g) : ∃ m : Nat, l'[m]? = some g := by
  have hg : g ∈ l := List.mem_iff_getElem?.2 ⟨k, hk⟩
  obtain ⟨x, hx⟩ : ∃ x, x ∈ g := by
    cases g with
    | nil => exact absurd rfl (h.ne _ hg)
    | cons a r => exact ⟨a, by simp⟩
  obtain ⟨m, g', hm, hx'⟩ := h'.all x (h.lt g hg x hx)
  have hg' : g' ∈ l' := List.mem_iff_getElem?.2 ⟨m, hm⟩
  have : g = g' := up_ext g g' (h.up g hg) (h'.up g' hg') (fun y => by
    constructor
    · intro hy
      have hmu := (h.mu k k g g x y hk hk hx hy).1 rfl
      obtain ⟨m2, g2, hm2, hy2⟩ := h'.all y (h.lt g hg y hy)
      have := (h'.mu m m2 g' g2 x y hm hm2 hx' hy2).2 hmu
      subst this; rw [hm] at hm2; injection hm2 with e; rw [e]; exact hy2
    · intro hy
      have hmu := (h'.mu m m g' g' x y hm hm hx' hy).1 rfl
      obtain ⟨m2, g2, hm2, hy2⟩ := h.all y (h'.lt g' hg' y hy)
      have := (h.mu k m2 g g2 x y hk hm2 hx hy2).2 hmu
      subst this; rw [hk] at hm2; injection hm2 with e; rw [e]; exact hy2)
  exact ⟨m, this ▸ hm⟩
/-- by the step: the k-th groups are one. -/
theorem stepEq (h : GrpOK u l) (h' : GrpOK u l') (k : Nat) (ih : ∀ m : Nat, m < k → l[m]? = l'[m]?) : ∀ g g', l[k]? = some g → l'[k]? = some g' → g = g' := by
  intro g g' hk hk'
  have ready : ∀ {a b : List (List Nat)} (ha : GrpOK u a) (hb : GrpOK u b) (iha : ∀ m : Nat, m < k → a[m]? = b[m]?) {x : List Nat} {m : Nat}, b[k]? = some x → a[m]? = some x → k ≤ m ∧ (∀ i ∈ x, ∀ j, Use u i j → ∃ (m' : Nat) (h' : List Nat), (m' < k ∨ m' = m) ∧ a[m']? = some h' ∧ j ∈ h') := by
    intro a b ha hb iha x m hbk ham
    have hx : x ∈ b := List.mem_iff_getElem?.2 ⟨k, hbk⟩
    obtain ⟨y, hy⟩ : ∃ y, y ∈ x := by
      cases x with
      | nil => exact absurd rfl (hb.ne _ hx)
      | cons a r => exact ⟨a, by simp⟩
    refine ⟨?_, ?_⟩
    · rcases Nat.lt_or_ge m k with hlt | hge
      · have e := iha m hlt
        rw [ham] at e
        have := hb.uniq e.symm hbk hy hy
        omega
      · exact hge
    · intro i hi j hu
      obtain ⟨m2, g2, hm2, e2, hj2⟩ := hb.first k x i j hbk hi hu
      rcases Nat.lt_or_ge m2 k with hlt | hge
      · exact ⟨m2, g2, .inl hlt, by rw [iha m2 hlt]; exact e2, hj2⟩
      · have : m2 = k := by omega
        subst this; rw [hbk] at e2; injection e2 with e2
        exact ⟨m, x, .inr rfl, ham, e2 ▸ hj2⟩
  obtain ⟨m, hm⟩ := h'.cls h hk'
  obtain ⟨m', hm'⟩ := h.cls h' hk
  obtain ⟨q1, q2⟩ := ready h h' ih hk' hm
  obtain ⟨p1, p2⟩ := ready h' h (fun m hm => (ih m hm).symm) hk hm'
  rcases Nat.lt_or_ge k m with hlt | hge
  · rcases Nat.lt_or_ge k m' with hlt' | hge'
    · exfalso
      have a1 := h.least k m g g' hlt hk hm q2
      have a2 := h'.least k m' g' g hlt' hk' hm' p2
      obtain ⟨y, hy⟩ : ∃ y, y ∈ g := by
        cases g with
        | nil => exact absurd rfl (h.ne _ (List.mem_iff_getElem?.2 ⟨k, hk⟩))
        | cons a r => exact ⟨a, by simp⟩
      have : ∀ n y : Nat, y ≤ n → ¬ y ∈ g := by
        intro n
        induction n with
        | zero =>
          intro y hy hyg
          obtain ⟨z, hz, hzy⟩ := a2 y hyg; omega
        | succ n ihn =>
          intro y hy hyg
          obtain ⟨z, hz, hzy⟩ := a2 y hyg
          obtain ⟨w, hw, hwz⟩ := a1 z hz
          exact ihn w (by omega) hw
      exact this y y (Nat.le_refl _) hy
    · have : m' = k := by omega
      subst this; rw [hk'] at hm'; injection hm' with e; exact e.symm
  · have : m = k := by omega
    subst this; rw [hk] at hm; injection hm
/-- there is one list of groups. -/
theorem one (h : GrpOK u l) (h' : GrpOK u l') : l = l' := by
  have key : ∀ k m : Nat, m < k → l[m]? = l'[m]? := by
    intro k
    induction k with
    | zero => intro m hm; omega
    | succ k ih =>
      intro m hm
      rcases Nat.lt_or_ge m k with hlt | hge
      · exact ih m hlt
      · have : m = k := by omega
        subst this
        have out : ∀ {a b : List (List Nat)} (ha : GrpOK u a) (hb : GrpOK u b), (∀ q : Nat, q < m → a[q]? = b[q]?) → a[m]? = none → b[m]? = none := by
          intro a b ha hb iha hn
          cases hg : b[m]? with
          | none => rfl
          | some g =>
            exfalso
            obtain ⟨q, hq⟩ := hb.cls ha hg
            have hql : q < a.length := (List.getElem?_eq_some_iff.1 hq).1
            have : a.length ≤ m := List.getElem?_eq_none_iff.1 hn
            have e := iha q (by omega)
            rw [hq] at e
            have hgb : g ∈ b := List.mem_iff_getElem?.2 ⟨m, hg⟩
            obtain ⟨y, hy⟩ : ∃ y, y ∈ g := by
              cases g with
              | nil => exact absurd rfl (hb.ne _ hgb)
              | cons a r => exact ⟨a, by simp⟩
            have := hb.uniq e.symm hg hy hy
            omega
        cases hg : l[m]? with
        | none => rw [out h h' ih hg]
        | some g =>
          cases hg' : l'[m]? with
          | none => rw [out h' h (fun q hq => (ih q hq).symm) hg'] at hg; cases hg
          | some g' => rw [stepEq h h' m ih g g' hg hg']
  exact List.ext_getElem? (fun k => key (k + 1) k (by omega))
end GrpOK
end Go.Proofs.Ytfmpmblhndnbeaa.Od
