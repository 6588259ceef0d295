/-
  Groups (layer 10): lists of numbers, one against another one; groups sorted so rise by their least numbers. No program stands here.
-/
import Derived.Test.YtfmpmblhndnbeaaOdG
namespace Go.Proofs.Ytfmpmblhndnbeaa.Od
/-- one list against another one -/
def cmpL (a b : List Nat) : Int := if a < b then -1 else if b < a then 1 else 0
theorem cmpL_lt (a b : List Nat) : decide (cmpL a b < 0) = decide (a < b) := by
  unfold cmpL
  by_cases h : a < b
  · simp [h]
  · by_cases h2 : b < a <;> simp [h, h2]
theorem lt_at {a b : List Nat} {k x y : Nat} (h : a.take k = b.take k) (ha : a[k]? = some x) (hb : b[k]? = some y) (hxy : x < y) : a < b := by
  induction k generalizing a b with
  | zero =>
    cases a with
    | nil => simp at ha
    | cons p a => cases b with
      | nil => simp at hb
      | cons q b =>
        simp at ha hb
        subst ha hb
        exact List.cons_lt_cons_iff.2 (.inl hxy)
  | succ k ih =>
    cases a with
    | nil => simp at ha
    | cons p a => cases b with
      | nil => simp at hb
      | cons q b =>
        simp only [List.take_succ_cons, List.cons.injEq] at h
        simp only [List.getElem?_cons_succ] at ha hb
        exact List.cons_lt_cons_iff.2 (.inr ⟨h.1, ih h.2 ha hb⟩)
theorem lt_asymm' {a b : List Nat} (h : a < b) : ¬ b < a := fun h2 => absurd (List.lt_trans h h2) (List.lt_irrefl a)
theorem cmpL_neg {a b : List Nat} (h : a < b) : cmpL a b = -1 := by unfold cmpL; rw [if_pos h]
theorem cmpL_pos {a b : List Nat} (h : b < a) : cmpL a b = 1 := by unfold cmpL; rw [if_neg (lt_asymm' h), if_pos h]
theorem cmpL_self (a : List Nat) : cmpL a a = 0 := by unfold cmpL; rw [if_neg (List.lt_irrefl a), if_neg (List.lt_irrefl a)]
/-- the one is the other one's begin. -/
theorem lt_pre {a b : List Nat} (h : a = b.take a.length) (hl : a.length < b.length) : a < b := by
  induction a generalizing b with
  | nil => cases b with
    | nil => simp at hl
    | cons q b => exact List.nil_lt_cons q b
  | cons p a ih => cases b with
    | nil => simp at hl
    | cons q b =>
      simp only [List.length_cons, List.take_succ_cons, List.cons.injEq] at h hl
      exact List.cons_lt_cons_iff.2 (.inr ⟨h.1, ih h.2 (by omega)⟩)
theorem lt_ntrans {a b c : List Nat} (h1 : ¬ a < b) (h2 : ¬ b < c) : ¬ a < c := fun h => by
  have e1 : b ≤ a := h1
  have e2 : c ≤ b := h2
  have e3 : c ≤ a := List.le_trans e2 e1
  exact e3 h
theorem Fnd.srt {u us : Uses} {T : Nat → Bool} {G H : List (List Nat)} (f : Fnd u us T G) (hall : ∀ i, i < u.length → T i = true) (hp : H.Perm G) (hs : H.Pairwise fun a b => ¬ b < a) : Srt u H := by
  have hm : ∀ g, g ∈ H ↔ g ∈ G := fun g => hp.mem_iff
  have hd : H.Pairwise (fun a b => ∀ x ∈ a, ∀ y ∈ b, x ≠ y) := (hp.pairwise_iff (fun h x hx y hy e => h y hy x hx e.symm)).2 f.dis
  have hd' := List.pairwise_iff_getElem.1 hd
  have hs' := List.pairwise_iff_getElem.1 hs
  have dis : ∀ (k m : Nat) (g h : List Nat) (i : Nat), H[k]? = some g → H[m]? = some h → i ∈ g → i ∈ h → k = m := by
    intro k m g h i hk hm hg hh
    obtain ⟨hk1, rfl⟩ := List.getElem?_eq_some_iff.1 hk
    obtain ⟨hm1, rfl⟩ := List.getElem?_eq_some_iff.1 hm
    rcases Nat.lt_trichotomy k m with h | h | h
    · exact absurd rfl (hd' k m hk1 hm1 h i hg i hh)
    · exact h
    · exact absurd rfl (hd' m k hm1 hk1 h i hh i hg)
  exact {
    ne := fun g hg => f.ne g ((hm g).1 hg)
    up := fun g hg => f.up g ((hm g).1 hg)
    lt := fun g hg => f.lt g ((hm g).1 hg)
    cl := fun g hg => f.cl g ((hm g).1 hg)
    dis := dis
    all := fun i hi => by
      have h := (f.tell i).1 (hall i hi)
      unfold In at h ⊢
      obtain ⟨g, h1, h2⟩ := List.mem_flatten.1 h
      exact List.mem_flatten.2 ⟨g, (hm g).2 h1, h2⟩
    hd := fun k m g h hkm hk hm2 a ha => by
      obtain ⟨hk1, e1⟩ := List.getElem?_eq_some_iff.1 hk
      obtain ⟨hm1, e2⟩ := List.getElem?_eq_some_iff.1 hm2
      have hn := hs' k m hk1 hm1 hkm
      have hdd := hd' k m hk1 hm1 hkm
      have hgG := (hm g).1 (List.mem_iff_getElem?.2 ⟨k, hk⟩)
      have hhG := (hm h).1 (List.mem_iff_getElem?.2 ⟨m, hm2⟩)
      rw [e1, e2] at hn hdd
      have hup := f.up h hhG
      cases g with
      | nil => exact absurd rfl (f.ne _ hgG)
      | cons g0 g => cases h with
        | nil => cases ha
        | cons h0 h =>
          refine ⟨g0, by simp, ?_⟩
          have h1 : ¬ h0 < g0 := fun hlt => hn (List.cons_lt_cons_iff.2 (.inl hlt))
          have h2 := hdd g0 (by simp) h0 (by simp)
          rcases List.mem_cons.1 ha with rfl | ha
          · omega
          · have := (List.pairwise_cons.1 hup).1 a ha; omega }
end Go.Proofs.Ytfmpmblhndnbeaa.Od
