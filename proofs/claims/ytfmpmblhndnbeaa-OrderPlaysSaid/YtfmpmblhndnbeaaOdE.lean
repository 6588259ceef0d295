/-
  Groups (layer 10): all that one comes to, as the document finds it (a list that grows while it is gone through), and that this is what can be come to. No program stands here.
-/
import Derived.Test.YtfmpmblhndnbeaaOdD
namespace Go.Proofs.Ytfmpmblhndnbeaa.Od
variable {u : Uses}
/-- numbers put behind, if they are not there. -/
def addNew (S : List Nat) : List Nat → List Nat
  | [] => S
  | b :: l => addNew (if S.contains b then S else S ++ [b]) l
theorem addNew_pre (S l : List Nat) : ∃ r, addNew S l = S ++ r := by
  induction l generalizing S with
  | nil => exact ⟨[], by simp [addNew]⟩
  | cons b l ih =>
    rw [addNew]
    split
    · exact ih S
    · obtain ⟨r, h⟩ := ih (S ++ [b]); exact ⟨b :: r, by rw [h]; simp⟩
theorem addNew_mem (S l : List Nat) (x : Nat) : x ∈ addNew S l ↔ x ∈ S ∨ x ∈ l := by
  induction l generalizing S with
  | nil => simp [addNew]
  | cons b l ih =>
    rw [addNew, ih]
    split
    · rename_i h
      have hb : b ∈ S := by simpa using h
      constructor
      · rintro (h | h)
        · exact .inl h
        · exact .inr (by simp [h])
      · rintro (h | h)
        · exact .inl h
        · rcases List.mem_cons.1 h with rfl | h
          · exact .inl hb
          · exact .inr h
    · simp [or_assoc]
theorem addNew_nodup (S l : List Nat) (h : S.Nodup) : (addNew S l).Nodup := by
  induction l generalizing S with
  | nil => simpa [addNew] using h
  | cons b l ih =>
    rw [addNew]
    apply ih
    split
    · exact h
    · rename_i hb
      have hb : b ∉ S := by simpa using hb
      refine List.nodup_append.2 ⟨h, by simp, ?_⟩
      intro x hx y hy e
      simp at hy
      subst hy e
      exact hb hx
/-- the list, gone through from p on. -/
def comesF (u : Uses) : Nat → Nat → List Nat → List Nat
  | 0, _, S => S
  | f + 1, p, S => match S[p]? with
    | none => S
    | some a => comesF u f (p + 1) (addNew S (u.getD a []))
/-- what is kept. -/
structure CInv (u : Uses) (i p : Nat) (S : List Nat) : Prop where
  nd : S.Nodup
  at0 : i ∈ S
  rc : ∀ x ∈ S, Rch u i x
  dn : ∀ (k a b : Nat), k < p → S[k]? = some a → Use u a b → b ∈ S
  le : p ≤ S.length
theorem CInv.begin (i : Nat) : CInv u i 0 [i] where
  nd := by simp
  at0 := by simp
  rc x hx := by simp at hx; subst hx; exact .refl x
  dn k a b hk := by omega
  le := by simp
theorem getD_use {a b : Nat} : b ∈ u.getD a [] ↔ Use u a b := by
  rw [List.getD_eq_getElem?_getD]
  unfold Use
  cases h : u[a]? with
  | none => simp
  | some l => simp
theorem CInv.step {i p a : Nat} {S : List Nat} (h : CInv u i p S) (hp : S[p]? = some a) : CInv u i (p + 1) (addNew S (u.getD a [])) where
  nd := addNew_nodup _ _ h.nd
  at0 := (addNew_mem _ _ _).2 (.inl h.at0)
  rc x hx := by
    rcases (addNew_mem _ _ _).1 hx with hx | hx
    · exact h.rc x hx
    · exact (h.rc a (List.mem_iff_getElem?.2 ⟨p, hp⟩)).trans (.one (getD_use.1 hx))
  dn k c b hk hc hu := by
    obtain ⟨r, e⟩ := addNew_pre S (u.getD a [])
    have hpl : p < S.length := (List.getElem?_eq_some_iff.1 hp).1
    have hc' : S[k]? = some c := by rw [e, List.getElem?_append_left (by omega)] at hc; exact hc
    rw [addNew_mem]
    by_cases hkp : k = p
    · subst hkp
      rw [hp] at hc'; injection hc' with hc'; subst hc'
      exact .inr (getD_use.2 hu)
    · exact .inl (h.dn k c b (by omega) hc' hu)
  le := by
    obtain ⟨r, e⟩ := addNew_pre S (u.getD a [])
    have hpl : p < S.length := (List.getElem?_eq_some_iff.1 hp).1
    rw [e]; simp; omega
theorem CInv.len {i p : Nat} {S : List Nat} (h : CInv u i p S) (hv : Valid u) (hi : i < u.length) : S.length ≤ u.length := by
  have := h.nd.length_le_of_subset (l₂ := List.range u.length) (List.subset_def.2 (fun {a} ha => List.mem_range.2 (rch_lt hv (h.rc a ha) hi)))
  simpa using this
/-- gone through: it is what can be come to. -/
theorem CInv.done {i p : Nat} {S : List Nat} (h : CInv u i p S) (hp : S.length ≤ p) (j : Nat) : j ∈ S ↔ Rch u i j := by
  refine ⟨h.rc j, fun hr => closed_rch (S := fun x => x ∈ S) ?_ hr h.at0⟩
  intro a ha b hb
  obtain ⟨k, hk⟩ := List.mem_iff_getElem?.1 ha
  have := (List.getElem?_eq_some_iff.1 hk).1
  exact h.dn k a b (by omega) hk hb
theorem comesF_rch (hv : Valid u) {i : Nat} (hi : i < u.length) : ∀ (f p : Nat) (S : List Nat), u.length < f + p → CInv u i p S → ∀ j, j ∈ comesF u f p S ↔ Rch u i j
  | 0, p, S, hf, h, j => by
    have := h.len hv hi; have := h.le; omega
  | f + 1, p, S, hf, h, j => by
    rw [comesF]
    split
    · rename_i hn
      exact h.done (List.getElem?_eq_none_iff.1 hn) j
    · rename_i a ha
      exact comesF_rch hv hi f (p + 1) _ (by omega) (h.step ha) j
/-- all that i comes to. -/
def comes (u : Uses) (i : Nat) : List Nat := comesF u (u.length + 1) 0 [i]
theorem comes_mem (hv : Valid u) {i : Nat} (hi : i < u.length) (j : Nat) : j ∈ comes u i ↔ Rch u i j := comesF_rch hv hi _ _ _ (by omega) (.begin i) j

/-! ### the groups, found -/
def rb (u : Uses) (i k : Nat) : Bool := (comes u i).contains k
theorem rb_iff (hv : Valid u) {i : Nat} (hi : i < u.length) (k : Nat) : rb u i k = true ↔ Rch u i k := by
  unfold rb; rw [List.contains_iff_mem]; exact comes_mem hv hi k
/-- is all that i comes to of its group, or told? -/
def readyB (u : Uses) (told : List Nat) (i : Nat) : Bool := (List.range u.length).all (fun k => !rb u i k || (rb u k i || told.contains k))
theorem readyB_iff (hv : Valid u) (l : List (List Nat)) {i : Nat} (hi : i < u.length) : readyB u l.flatten i = true ↔ Ready u l i := by
  unfold readyB Ready
  rw [List.all_eq_true]
  constructor
  · intro h j hj
    have hjn := rch_lt hv hj hi
    have := h j (List.mem_range.2 hjn)
    rw [(rb_iff hv hi j).2 hj] at this
    simp only [Bool.not_true, Bool.false_or, Bool.or_eq_true] at this
    rcases this with h1 | h1
    · exact .inl ⟨hj, (rb_iff hv hjn i).1 h1⟩
    · exact .inr (by unfold In; simpa using h1)
  · intro h k hk
    have hkn := List.mem_range.1 hk
    by_cases hr : rb u i k = true
    · rw [hr]
      simp only [Bool.not_true, Bool.false_or, Bool.or_eq_true]
      rcases h k ((rb_iff hv hi k).1 hr) with h1 | h1
      · exact .inl ((rb_iff hv hkn i).2 h1.2)
      · exact .inr (by unfold In at h1; simpa using h1)
    · simp at hr; rw [hr]; rfl
/-- the least number that is not told and is ready. -/
def pick (u : Uses) (told : List Nat) : Option Nat := (List.range u.length).find? (fun i => !told.contains i && readyB u told i)
def groupsF (u : Uses) : Nat → List (List Nat) → List (List Nat)
  | 0, l => l
  | f + 1, l => match pick u l.flatten with
    | none => l
    | some i => groupsF u f (l ++ [grp u.length (rb u) i])
theorem pick_some (hv : Valid u) {l : List (List Nat)} {i : Nat} (h : pick u l.flatten = some i) : i < u.length ∧ ¬ In l i ∧ Ready u l i ∧ ∀ q, q < i → ¬ In l q → ¬ Ready u l q := by
  unfold pick at h
  rw [List.find?_range_eq_some] at h
  obtain ⟨h1, h2, h3⟩ := h
  have hi := List.mem_range.1 h2
  rw [Bool.and_eq_true] at h1
  refine ⟨hi, by unfold In; simpa using h1.1, (readyB_iff hv l hi).1 h1.2, ?_⟩
  intro q hq hn hr
  have := h3 q hq
  rw [(readyB_iff hv l (by omega)).2 hr] at this
  unfold In at hn
  simp [hn] at this
theorem pick_none (hv : Valid u) {l : List (List Nat)} (p : PG u l) (h : pick u l.flatten = none) : u.length ≤ l.flatten.length := by
  rcases Nat.lt_or_ge l.flatten.length u.length with hlt | hge
  · exfalso
    obtain ⟨i, hi, hn, hr, _⟩ := p.least_ready hv hlt
    unfold pick at h
    rw [List.find?_eq_none] at h
    have := h i (List.mem_range.2 hi)
    rw [(readyB_iff hv l hi).2 hr] at this
    unfold In at hn
    simp [hn] at this
  · exact hge
theorem groupsF_ok (hv : Valid u) : ∀ (f : Nat) (l : List (List Nat)), u.length < f + l.flatten.length → PG u l → GrpOK u (groupsF u f l)
  | 0, l, hf, p => by have := p.flat_le; omega
  | f + 1, l, hf, p => by
    rw [groupsF]
    split
    · rename_i hn
      exact p.ok (fun i hi => p.full (pick_none hv p hn) i hi)
    · rename_i i hs
      obtain ⟨hi, hn, hr, hl⟩ := pick_some hv hs
      have hg := grp_mem (f := rb u) rfl hv (fun a k ha => rb_iff hv ha k) hi
      refine groupsF_ok hv f _ ?_ (p.push hv hi hn hr hl _ (grp_up _ _ _) hg)
      have : 0 < (grp u.length (rb u) i).length := List.length_pos_of_mem ((hg i).2 (.refl u i))
      simp only [List.flatten_append, List.length_append, List.flatten_cons, List.flatten_nil, List.append_nil]
      omega
/-- the groups. -/
def groups (u : Uses) : List (List Nat) := groupsF u (u.length + 1) []
theorem groups_ok (hv : Valid u) : GrpOK u (groups u) := groupsF_ok hv _ _ (by simp) .nil
theorem groups_one (hv : Valid u) {l : List (List Nat)} (h : GrpOK u l) : l = groups u := h.one (groups_ok hv)
example : groups [[1], [], [0, 1]] = [[1], [0], [2]] := by decide
example : groups [[1], [2], [0, 3], []] = [[3], [0, 1, 2]] := by decide
example : groups [[0], []] = [[0], [1]] := by decide
end Go.Proofs.Ytfmpmblhndnbeaa.Od
