/-
  Groups (layer 10): going down the uses by a closure that keeps what was met: what it tells, in which order. No program stands here.
-/
import Derived.Test.YtfmpmblhndnbeaaOdE
namespace Go.Proofs.Ytfmpmblhndnbeaa.Od
/-- met, with x. -/
def madd (M : Nat → Bool) (x : Nat) : Nat → Bool := fun j => j == x || M j
theorem madd_iff (M : Nat → Bool) (x j : Nat) : madd M x j = true ↔ j = x ∨ M j = true := by unfold madd; simp
/-- gone down from each of l: what is met then, what is told. -/
inductive DFL (u : Uses) : (Nat → Bool) → List Nat → (Nat → Bool) → List Nat → Prop
  | nil (M : Nat → Bool) : DFL u M [] M []
  | skip {M M' : Nat → Bool} {x : Nat} {l a : List Nat} : M x = true → DFL u M l M' a → DFL u M (x :: l) M' a
  | go {M M1 M2 : Nat → Bool} {x : Nat} {l a1 a2 : List Nat} : M x = false → DFL u (madd M x) (u.getD x []) M1 a1 → DFL u M1 l M2 a2 → DFL u M (x :: l) M2 (a1 ++ x :: a2)
namespace DFL
variable {u : Uses} {M M' M1 M2 : Nat → Bool} {l l2 a a1 a2 : List Nat}
theorem app (h : DFL u M l M1 a1) (g : DFL u M1 l2 M2 a2) : DFL u M (l ++ l2) M2 (a1 ++ a2) := by
  induction h with
  | nil M => exact g
  | skip hx _ ih => exact .skip hx (ih g)
  | go hx h1 _ _ ih => rw [List.append_assoc, List.cons_append]; exact .go hx h1 (ih g)
theorem one {x : Nat} (hx : M x = false) (h : DFL u (madd M x) (u.getD x []) M1 a1) : DFL u M [x] M1 (a1 ++ [x]) := .go hx h (.nil _)
theorem skip1 {x : Nat} (hx : M x = true) : DFL u M [x] M [] := .skip hx (.nil _)
theorem mem (h : DFL u M l M' a) : ∀ j, M' j = true ↔ M j = true ∨ j ∈ a := by
  induction h with
  | nil M => intro j; simp
  | skip _ _ ih => exact ih
  | go hx _ _ ih1 ih2 =>
    intro j
    rw [ih2, ih1, madd_iff, List.mem_append, List.mem_cons]
    constructor
    · rintro (((h | h) | h) | h)
      · exact .inr (.inr (.inl h))
      · exact .inl h
      · exact .inr (.inl h)
      · exact .inr (.inr (.inr h))
    · rintro (h | h | h | h)
      · exact .inl (.inl (.inr h))
      · exact .inl (.inr h)
      · exact .inl (.inl (.inl h))
      · exact .inr h
theorem new (h : DFL u M l M' a) : ∀ j ∈ a, M j = false := by
  induction h with
  | nil M => intro j hj; cases hj
  | skip _ _ ih => exact ih
  | @go M M1 M2 x l a1 a2 hx h1 h2 ih1 ih2 =>
    intro j hj
    rw [List.mem_append, List.mem_cons] at hj
    rcases hj with hj | rfl | hj
    · have := ih1 j hj
      cases hM : M j with
      | false => rfl
      | true => rw [(madd_iff M x j).2 (.inr hM)] at this; cases this
    · exact hx
    · have := ih2 j hj
      cases hM : M j with
      | false => rfl
      | true => rw [(h1.mem j).2 (.inl ((madd_iff M x j).2 (.inr hM)))] at this; cases this
theorem nodup (h : DFL u M l M' a) : a.Nodup := by
  induction h with
  | nil M => exact List.nodup_nil
  | skip _ _ ih => exact ih
  | @go M M1 M2 x l a1 a2 hx h1 h2 ih1 ih2 =>
    refine List.nodup_append.2 ⟨ih1, List.nodup_cons.2 ⟨fun hm => ?_, ih2⟩, fun y hy z hz e => ?_⟩
    · have := h2.new x hm
      rw [(h1.mem x).2 (.inl ((madd_iff M x x).2 (.inl rfl)))] at this; cases this
    · subst e
      rcases List.mem_cons.1 hz with rfl | hz
      · have := h1.new _ hy
        rw [(madd_iff M _ _).2 (.inl rfl)] at this; cases this
      · have := h2.new _ hz
        rw [(h1.mem _).2 (.inr hy)] at this; cases this
theorem reach (h : DFL u M l M' a) : ∀ x ∈ a, ∃ y ∈ l, Rch u y x := by
  induction h with
  | nil M => intro x hx; cases hx
  | skip _ _ ih => intro x hx; obtain ⟨y, hy, h⟩ := ih x hx; exact ⟨y, List.mem_cons_of_mem _ hy, h⟩
  | @go M M1 M2 x l a1 a2 hx h1 h2 ih1 ih2 =>
    intro z hz
    rw [List.mem_append, List.mem_cons] at hz
    rcases hz with hz | rfl | hz
    · obtain ⟨y, hy, h⟩ := ih1 z hz
      exact ⟨x, by simp, .step (getD_use.1 hy) h⟩
    · exact ⟨z, by simp, .refl z⟩
    · obtain ⟨y, hy, h⟩ := ih2 z hz; exact ⟨y, List.mem_cons_of_mem _ hy, h⟩
theorem shut (h : DFL u M l M' a) : (∀ y ∈ l, M' y = true) ∧ ∀ x ∈ a, ∀ y, Use u x y → M' y = true := by
  induction h with
  | nil M => exact ⟨fun y hy => (by cases hy), fun x hx => (by cases hx)⟩
  | skip hx h ih =>
    refine ⟨fun y hy => ?_, ih.2⟩
    rcases List.mem_cons.1 hy with rfl | hy
    · exact (h.mem _).2 (.inl hx)
    · exact ih.1 y hy
  | @go M M1 M2 x l a1 a2 hx h1 h2 ih1 ih2 =>
    have up : ∀ y, M1 y = true → M2 y = true := fun y hy => (h2.mem y).2 (.inl hy)
    refine ⟨fun y hy => ?_, fun z hz y hu => ?_⟩
    · rcases List.mem_cons.1 hy with rfl | hy
      · exact up _ ((h1.mem _).2 (.inl ((madd_iff M _ _).2 (.inl rfl))))
      · exact ih2.1 y hy
    · rw [List.mem_append, List.mem_cons] at hz
      rcases hz with hz | rfl | hz
      · exact up _ (ih1.2 z hz y hu)
      · exact up _ (ih1.1 y (getD_use.2 hu))
      · exact ih2.2 z hz y hu
theorem lt (h : DFL u M l M' a) (hv : Valid u) (hl : ∀ x ∈ l, x < u.length) : ∀ x ∈ a, x < u.length := fun x hx => by
  obtain ⟨y, hy, hr⟩ := h.reach x hx
  exact rch_lt hv hr (hl y hy)
end DFL

/-- who comes to x and is told no later: x comes to it, or it comes to one that is told later, or to one that is not done. -/
def Post (u : Uses) (S : Nat → Prop) (P a : List Nat) : Prop :=
  ∀ b1 x b2, a = b1 ++ x :: b2 → ∀ z, (z ∈ P ∨ z ∈ b1) → Rch u z x → Rch u x z ∨ (∃ z' ∈ b2, Rch u z z') ∨ ∃ g, S g ∧ Rch u z g
/-- where a list is parted. -/
theorem parted {a1 a2 b1 b2 : List Nat} {x y : Nat} (h : a1 ++ x :: a2 = b1 ++ y :: b2) :
    (∃ c, a1 = b1 ++ y :: c ∧ b2 = c ++ x :: a2) ∨ (b1 = a1 ∧ y = x ∧ b2 = a2) ∨ ∃ c, b1 = a1 ++ x :: c ∧ a2 = c ++ y :: b2 := by
  rcases List.append_eq_append_iff.1 h with ⟨c, h1, h2⟩ | ⟨c, h1, h2⟩
  · cases c with
    | nil => simp at h1 h2; exact .inr (.inl ⟨h1, h2.1.symm, h2.2.symm⟩)
    | cons z c => rw [List.cons_append] at h2; injection h2 with h2 h3; subst h2; exact .inr (.inr ⟨c, h1, h3⟩)
  · cases c with
    | nil => simp at h1 h2; exact .inr (.inl ⟨h1.symm, h2.1, h2.2⟩)
    | cons z c => rw [List.cons_append] at h2; injection h2 with h2 h3; subst h2; exact .inl ⟨c, h1, h3⟩
/-- from what is done one comes to what is done, or by way of one that is not. -/
theorem black {u : Uses} {P : List Nat} {S : Nat → Prop} {M : Nat → Bool} (hM : ∀ j, M j = true ↔ j ∈ P ∨ S j) (hc : ∀ b ∈ P, ∀ y, Use u b y → M y = true) {z x : Nat} (h : Rch u z x) : z ∈ P → x ∈ P ∨ ∃ g, S g ∧ Rch u z g := by
  induction h with
  | refl i => exact .inl
  | @step i j k hu _ ih =>
    intro hz
    rcases (hM j).1 (hc i hz j hu) with h | h
    · rcases ih h with h2 | ⟨g, h2, h3⟩
      · exact .inl h2
      · exact .inr ⟨g, h2, .step hu h3⟩
    · exact .inr ⟨j, h, .one hu⟩
theorem DFL.post {u : Uses} {M M' : Nat → Bool} {l a : List Nat} (h : DFL u M l M' a) : ∀ (S : Nat → Prop) (P : List Nat), (∀ j, M j = true ↔ j ∈ P ∨ S j) → (∀ b ∈ P, ∀ y, Use u b y → M y = true) → Post u S P a := by
  induction h with
  | nil M => intro S P _ _ b1 x b2 e; simp at e
  | skip _ _ ih => exact ih
  | @go M M1 M2 x l a1 a2 hx h1 h2 ih1 ih2 =>
    intro S P hM hc b1 y b2 e z hz hr
    have i1 := ih1 (fun j => S j ∨ j = x) P (fun j => by
      rw [madd_iff, hM]
      constructor
      · rintro (h | h | h)
        · exact .inr (.inr h)
        · exact .inl h
        · exact .inr (.inl h)
      · rintro (h | h | h)
        · exact .inr (.inl h)
        · exact .inr (.inr h)
        · exact .inl h) (fun b hb y hu => (madd_iff _ _ _).2 (.inr (hc b hb y hu)))
    have i2 := ih2 S (P ++ a1 ++ [x]) (fun j => by
      rw [h1.mem, madd_iff, hM]; simp only [List.mem_append, List.mem_singleton]
      constructor
      · rintro ((h | h | h) | h)
        · exact .inl (.inr h)
        · exact .inl (.inl (.inl h))
        · exact .inr h
        · exact .inl (.inl (.inr h))
      · rintro (((h | h) | h) | h)
        · exact .inl (.inr (.inl h))
        · exact .inr h
        · exact .inl (.inl h)
        · exact .inl (.inr (.inr h))) (fun b hb y hu => by
      rcases List.mem_append.1 hb with hb | hb
      · rcases List.mem_append.1 hb with hb | hb
        · exact (h1.mem y).2 (.inl ((madd_iff _ _ _).2 (.inr (hc b hb y hu))))
        · exact h1.shut.2 b hb y hu
      · rw [List.mem_singleton.1 hb] at hu
        exact h1.shut.1 y (getD_use.2 hu))
    rcases parted e with ⟨c, e1, e2⟩ | ⟨e1, e2, e3⟩ | ⟨c, e1, e2⟩
    · rcases i1 b1 y c e1 z hz hr with h | ⟨z', hz', h⟩ | ⟨g, hg | rfl, h⟩
      · exact .inl h
      · exact .inr (.inl ⟨z', by rw [e2]; simp [hz'], h⟩)
      · exact .inr (.inr ⟨g, hg, h⟩)
      · exact .inr (.inl ⟨g, by rw [e2]; simp, h⟩)
    · subst e1 e2 e3
      rcases hz with hz | hz
      · rcases black hM hc hr hz with h | h
        · rw [(hM y).2 (.inl h)] at hx; cases hx
        · exact .inr (.inr h)
      · obtain ⟨w, hw, h⟩ := h1.reach z hz
        exact .inl (.step (getD_use.1 hw) h)
    · refine i2 c y b2 e2 z ?_ hr
      rcases hz with hz | hz
      · exact .inl (by simp [hz])
      · rw [e1] at hz
        simp only [List.mem_append, List.mem_cons] at hz
        rcases hz with hz | hz | hz
        · exact .inl (by simp [hz])
        · exact .inl (by simp [hz])
        · exact .inr hz
def nomet : Nat → Bool := fun _ => false
/-- all are gone down from: each is told once, in such an order. -/
theorem DFL.whole {u : Uses} {M' : Nat → Bool} {a : List Nat} (h : DFL u nomet (List.range u.length) M' a) (hv : Valid u) : (∀ j, j ∈ a ↔ j < u.length) ∧ a.Nodup ∧ Post u (fun _ => False) [] a := by
  refine ⟨fun j => ⟨fun hj => h.lt hv (fun x hx => List.mem_range.1 hx) j hj, fun hj => ?_⟩, h.nodup, h.post _ _ (fun j => by simp [nomet]) (fun b hb => by cases hb)⟩
  rcases (h.mem j).1 (h.shut.1 j (List.mem_range.2 hj)) with h2 | h2
  · cases h2
  · exact h2

/-! ### the groups, from behind -/
/-- uses, turned, with how often. -/
structure Turn (u us : Uses) : Prop where
  len : us.length = u.length
  cnt : ∀ x y, x < u.length → y < u.length → (us.getD y []).count x = (u.getD x []).count y
  lt : ∀ l ∈ us, ∀ x ∈ l, x < u.length
theorem Turn.use {u us : Uses} (t : Turn u us) (hv : Valid u) (i j : Nat) : Use us i j ↔ Use u j i := by
  constructor
  · intro h
    have h' := h
    obtain ⟨l, h1, h2⟩ := h
    have hi : i < u.length := by rw [← t.len]; exact (List.getElem?_eq_some_iff.1 h1).1
    have hj := t.lt l (List.mem_iff_getElem?.2 ⟨i, h1⟩) j h2
    have := t.cnt j i hj hi
    rw [← getD_use, ← List.count_pos_iff, this, List.count_pos_iff, getD_use] at h'
    exact h'
  · intro h
    have h' := h
    obtain ⟨l, h1, h2⟩ := h
    have hj : j < u.length := (List.getElem?_eq_some_iff.1 h1).1
    have hi := hv j i h'
    have := t.cnt j i hj hi
    rw [← getD_use, ← List.count_pos_iff, ← this, List.count_pos_iff, getD_use] at h'
    exact h'
theorem Turn.valid {u us : Uses} (t : Turn u us) : Valid us := by
  intro i j ⟨l, h1, h2⟩
  rw [t.len]
  exact t.lt l (List.mem_iff_getElem?.2 ⟨i, h1⟩) j h2
/-- groups that are found, of those that are met. -/
structure Fnd (u us : Uses) (T : Nat → Bool) (G : List (List Nat)) : Prop where
  tell : ∀ j, T j = true ↔ In G j
  shut : ∀ i j, T i = true → Use us i j → T j = true
  ne : ∀ g ∈ G, g ≠ []
  up : ∀ g ∈ G, g.Pairwise (· < ·)
  lt : ∀ g ∈ G, ∀ i ∈ g, i < u.length
  cl : ∀ g ∈ G, ∀ i ∈ g, ∀ j, j ∈ g ↔ Mut u i j
  dis : G.Pairwise (fun a b => ∀ x ∈ a, ∀ y ∈ b, x ≠ y)
theorem Fnd.nil (u us : Uses) : Fnd u us nomet [] where
  tell j := by simp [nomet, In]
  shut := fun i j hi _ => by cases hi
  ne := by simp
  up := by simp
  lt := by simp
  cl := by simp
  dis := .nil
theorem Fnd.back {u us : Uses} {T : Nat → Bool} {G : List (List Nat)} (f : Fnd u us T G) (ht : ∀ i j, Use us i j ↔ Use u j i) {i j : Nat} (h : Rch u i j) (hj : T j = true) : T i = true := by
  induction h with
  | refl i => exact hj
  | step hu _ ih => exact f.shut _ _ (ih hj) ((ht _ _).2 hu)
/-- the last one that is left: its group. -/
theorem Fnd.grp {u us : Uses} {T T' : Nat → Bool} {G : List (List Nat)} {x : Nat} {a pre suf g : List Nat} (f : Fnd u us T G) (ht : ∀ i j, Use us i j ↔ Use u j i)
    (hp : Post u (fun _ => False) [] a) (hall : ∀ j, j ∈ a ↔ j < u.length) (ha : a = pre ++ x :: suf) (hs : ∀ z ∈ suf, T z = true) (h : DFL us T [x] T' g) (hx : T x = false) :
    ∀ i ∈ g, ∀ j, j ∈ g ↔ Mut u i j := by
  have ht' : ∀ i j, Use u i j ↔ Use us j i := fun i j => (ht j i).symm
  have hxl : x < u.length := (hall x).1 (by rw [ha]; simp)
  have key : ∀ z, z ∈ g ↔ Mut u x z := by
    intro z
    constructor
    · intro hz
      obtain ⟨y, hy, hr⟩ := h.reach z hz
      rw [List.mem_singleton.1 hy] at hr
      have hr2 : Rch u z x := turn_rch ht' hr
      have hTz := h.new z hz
      refine ⟨?_, hr2⟩
      by_cases e : z = x
      · subst e; exact .refl z
      · have hzl : z < u.length := by
          cases hr2 with
          | refl => exact absurd rfl e
          | step hu _ => obtain ⟨l, h1, _⟩ := hu; exact (List.getElem?_eq_some_iff.1 h1).1
        have hza := (hall z).2 hzl
        rw [ha, List.mem_append, List.mem_cons] at hza
        rcases hza with hza | hza | hza
        · rcases hp pre x suf ha z (.inr hza) hr2 with h1 | ⟨z', h1, h2⟩ | ⟨_, h1, _⟩
          · exact h1
          · rw [f.back ht h2 (hs z' h1)] at hTz; cases hTz
          · exact h1.elim
        · exact absurd hza e
        · rw [hs z hza] at hTz; cases hTz
    · intro hm
      have hx' : T' x = true := h.shut.1 x (by simp)
      have hcl : ∀ i, (T' i = true) → ∀ j, Use us i j → T' j = true := by
        intro i hi j hu
        rcases (h.mem i).1 hi with h1 | h1
        · exact (h.mem j).2 (.inl (f.shut i j h1 hu))
        · exact h.shut.2 i h1 j hu
      have hr : Rch us x z := turn_rch ht hm.2
      have hz := closed_rch (S := fun i => T' i = true) hcl hr hx'
      rcases (h.mem z).1 hz with h1 | h1
      · rw [f.back ht hm.1 h1] at hx; cases hx
      · exact h1
  intro i hi j
  have h1 := (key i).1 hi
  rw [key j]
  exact ⟨fun h2 => h1.symm.trans h2, fun h2 => h1.trans h2⟩
/-- the next group, its numbers rising. -/
theorem Fnd.push {u us : Uses} {T T' : Nat → Bool} {G : List (List Nat)} {x : Nat} {a pre suf g s : List Nat} (f : Fnd u us T G) (ht : ∀ i j, Use us i j ↔ Use u j i) (hl : us.length = u.length) (hvs : Valid us)
    (hp : Post u (fun _ => False) [] a) (hall : ∀ j, j ∈ a ↔ j < u.length) (ha : a = pre ++ x :: suf) (hs : ∀ z ∈ suf, T z = true) (h : DFL us T [x] T' g) (hg : 0 < g.length) (hperm : s.Perm g) (hup : s.Pairwise (· ≤ ·)) : Fnd u us T' (G ++ [s]) := by
  have hx : T x = false := by
    cases hT : T x with
    | false => rfl
    | true =>
      cases h with
      | skip _ h => cases h; simp at hg
      | go h _ _ => rw [hT] at h; cases h
  have hgr := f.grp ht hp hall ha hs h hx
  have hm : ∀ j, j ∈ s ↔ j ∈ g := fun j => hperm.mem_iff
  have hxl : x < u.length := (hall x).1 (by rw [ha]; simp)
  have hin : ∀ j, In (G ++ [s]) j ↔ In G j ∨ j ∈ g := fun j => by unfold In; rw [List.flatten_append, List.mem_append]; simp [hm]
  have mem : ∀ h, h ∈ G ++ [s] → h ∈ G ∨ h = s := fun h hh => by simpa using hh
  exact {
    tell := fun j => by rw [h.mem, f.tell, hin]
    shut := fun i j hi hu => by
      rcases (h.mem i).1 hi with h1 | h1
      · exact (h.mem j).2 (.inl (f.shut i j h1 hu))
      · exact h.shut.2 i h1 j hu
    ne := fun b hb => by
      rcases mem b hb with hb | rfl
      · exact f.ne b hb
      · intro e; subst e; rw [← hperm.length_eq] at hg; simp at hg
    up := fun b hb => by
      rcases mem b hb with hb | rfl
      · exact f.up b hb
      · have hnd : b.Nodup := hperm.nodup_iff.2 h.nodup
        exact (hup.and hnd).imp fun h => by omega
    lt := fun b hb i hi => by
      rcases mem b hb with hb | rfl
      · exact f.lt b hb i hi
      · have := h.lt hvs (fun y hy => by rw [List.mem_singleton.1 hy, hl]; exact hxl) i ((hm i).1 hi)
        rw [hl] at this; exact this
    cl := fun b hb i hi j => by
      rcases mem b hb with hb | rfl
      · exact f.cl b hb i hi j
      · rw [hm]; exact hgr i ((hm i).1 hi) j
    dis := by
      rw [List.pairwise_append]
      refine ⟨f.dis, by simp, fun b hb c hc x hx y hy e => ?_⟩
      rw [List.mem_singleton.1 hc] at hy
      subst e
      have h1 := h.new x ((hm x).1 hy)
      rw [(f.tell x).2 (by unfold In; exact List.mem_flatten.2 ⟨b, hb, hx⟩)] at h1
      cases h1 }
/-- no more groups than things. -/
theorem Fnd.len {u us : Uses} {T : Nat → Bool} {G : List (List Nat)} (f : Fnd u us T G) : G.length ≤ u.length := by
  have hnd : G.flatten.Nodup := by
    unfold List.Nodup
    rw [List.pairwise_flatten]
    exact ⟨fun g hg => (f.up g hg).imp (fun h => by omega), f.dis⟩
  have h1 := hnd.length_le_of_subset (l₂ := List.range u.length) (List.subset_def.2 (fun {a} ha => by
    obtain ⟨g, hg, hi⟩ := List.mem_flatten.1 ha
    exact List.mem_range.2 (f.lt g hg a hi)))
  rw [List.length_range] at h1
  have h2 : ∀ l : List (List Nat), (∀ g ∈ l, g ≠ []) → l.length ≤ l.flatten.length := by
    intro l
    induction l with
    | nil => intro _; simp
    | cons g l ih =>
      intro h
      have := ih (fun x hx => h x (by simp [hx]))
      have h3 : 0 < g.length := List.length_pos_iff.2 (h g (by simp))
      simp only [List.length_cons, List.flatten_cons, List.length_append]
      omega
  exact Nat.le_trans (h2 G f.ne) h1
/-- one that is met: nothing. -/
theorem Fnd.same {u us : Uses} {T T' : Nat → Bool} {G : List (List Nat)} {x : Nat} {g : List Nat} (f : Fnd u us T G) (h : DFL us T [x] T' g) (hg : ¬ 0 < g.length) : Fnd u us T' G ∧ T' = T := by
  cases h with
  | skip _ h => cases h; exact ⟨f, rfl⟩
  | go _ _ _ => simp at hg
end Go.Proofs.Ytfmpmblhndnbeaa.Od
