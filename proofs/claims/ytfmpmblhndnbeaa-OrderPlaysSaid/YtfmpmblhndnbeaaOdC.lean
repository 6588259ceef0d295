/-
  Groups, told one by one (layer 10): a list that is begun (PG), the step by the least number that is ready, and that there always is one that is ready. No program stands here.
-/
import Derived.Test.YtfmpmblhndnbeaaOdB
namespace Go.Proofs.Ytfmpmblhndnbeaa.Od
variable {u : Uses} {l : List (List Nat)}
/-- Told by a list of groups. -/
def In (l : List (List Nat)) (j : Nat) : Prop := j ∈ l.flatten
theorem in_iff (l : List (List Nat)) (j : Nat) : In l j ↔ ∃ (m : Nat) (h : List Nat), l[m]? = some h ∧ j ∈ h := by
  unfold In
  rw [List.mem_flatten]
  constructor
  · rintro ⟨g, hg, hj⟩
    obtain ⟨m, hm⟩ := List.mem_iff_getElem?.1 hg
    exact ⟨m, g, hm, hj⟩
  · rintro ⟨m, g, hm, hj⟩; exact ⟨g, List.mem_iff_getElem?.2 ⟨m, hm⟩, hj⟩
theorem in_take (l : List (List Nat)) (k j : Nat) : In (l.take k) j ↔ ∃ (m : Nat) (h : List Nat), m < k ∧ l[m]? = some h ∧ j ∈ h := by
  rw [in_iff]
  constructor
  · rintro ⟨m, h, hm, hj⟩
    rw [List.getElem?_take] at hm
    split at hm
    · exact ⟨m, h, by omega, hm, hj⟩
    · cases hm
  · rintro ⟨m, h, hk, hm, hj⟩
    exact ⟨m, h, by rw [List.getElem?_take, if_pos hk]; exact hm, hj⟩
/-- all that i comes to is of its group, or is told. -/
def Ready (u : Uses) (l : List (List Nat)) (i : Nat) : Prop := ∀ j, Rch u i j → Mut u i j ∨ In l j
/-- a list that is begun. -/
structure PG (u : Uses) (l : List (List Nat)) : Prop where
  ne : ∀ g ∈ l, g ≠ []
  up : ∀ g ∈ l, g.Pairwise (· < ·)
  lt : ∀ g ∈ l, ∀ i ∈ g, i < u.length
  cl : ∀ g ∈ l, ∀ i ∈ g, ∀ j, j ∈ g ↔ Mut u i j
  dis : ∀ (k m : Nat) (g h : List Nat) (i : Nat), l[k]? = some g → l[m]? = some h → i ∈ g → i ∈ h → k = m
  first : ∀ (k : Nat) (g : List Nat) (i j : Nat), l[k]? = some g → i ∈ g → Rch u i j → j ∈ g ∨ In (l.take k) j
  least : ∀ (k : Nat) (g : List Nat) (i : Nat), l[k]? = some g → i < u.length → i ∉ g → ¬ In (l.take k) i → Ready u (l.take k) i → ∃ a ∈ g, a < i
theorem PG.nil : PG u [] where
  ne := by simp
  up := by simp
  lt := by simp
  cl := by simp
  dis := by simp
  first := by simp
  least := by simp
theorem rch_lt (hv : Valid u) {i j : Nat} (h : Rch u i j) (hi : i < u.length) : j < u.length := by
  induction h with
  | refl i => exact hi
  | step a _ ih => exact ih (hv _ _ a)
/-- the next group. -/
theorem PG.push (p : PG u l) (hv : Valid u) {i : Nat} (hi : i < u.length) (hn : ¬ In l i) (hr : Ready u l i)
    (hleast : ∀ q, q < i → ¬ In l q → ¬ Ready u l q) (g : List Nat) (hup : g.Pairwise (· < ·)) (hg : ∀ j, j ∈ g ↔ Mut u i j) : PG u (l ++ [g]) := by
  have get : ∀ (k : Nat) (h : List Nat), (l ++ [g])[k]? = some h → (k < l.length ∧ l[k]? = some h) ∨ (k = l.length ∧ h = g) := by
    intro k h hk
    rcases Nat.lt_or_ge k l.length with hlt | hge
    · rw [List.getElem?_append_left hlt] at hk; exact .inl ⟨hlt, hk⟩
    · rw [List.getElem?_append_right hge] at hk
      cases e : k - l.length with
      | zero => rw [e] at hk; simp at hk; exact .inr ⟨by omega, hk.symm⟩
      | succ n => rw [e] at hk; simp at hk
  have tk : ∀ k, k ≤ l.length → (l ++ [g]).take k = l.take k := fun k hk => by rw [List.take_append_of_le_length hk]
  have gin : i ∈ g := (hg i).2 (.refl u i)
  have gno : ∀ j ∈ g, ¬ In l j := by
    intro j hj hin
    obtain ⟨m, h, hm, hjh⟩ := (in_iff l j).1 hin
    have hh : h ∈ l := List.mem_iff_getElem?.2 ⟨m, hm⟩
    exact hn ((in_iff l i).2 ⟨m, h, hm, (p.cl h hh j hjh i).2 ((hg j).1 hj).symm⟩)
  have mem : ∀ h, h ∈ l ++ [g] → h ∈ l ∨ h = g := fun h hh => by simpa using hh
  exact {
    ne := by
      intro h hh
      rcases mem h hh with hh | rfl
      · exact p.ne h hh
      · exact List.ne_nil_of_mem gin
    up := by
      intro h hh
      rcases mem h hh with hh | rfl
      · exact p.up h hh
      · exact hup
    lt := by
      intro h hh j hj
      rcases mem h hh with hh | rfl
      · exact p.lt h hh j hj
      · exact rch_lt hv ((hg j).1 hj).1 hi
    cl := by
      intro h hh j hj q
      rcases mem h hh with hh | rfl
      · exact p.cl h hh j hj q
      · have h1 := (hg j).1 hj
        exact ⟨fun hq => h1.symm.trans ((hg q).1 hq), fun hq => (hg q).2 (h1.trans hq)⟩
    dis := by
      intro k m a b j hk hm hja hjb
      rcases get k a hk with ⟨k1, k2⟩ | ⟨k1, rfl⟩ <;> rcases get m b hm with ⟨m1, m2⟩ | ⟨m1, rfl⟩
      · exact p.dis k m a b j k2 m2 hja hjb
      · exact absurd ((in_iff l j).2 ⟨k, a, k2, hja⟩) (gno j hjb)
      · exact absurd ((in_iff l j).2 ⟨m, b, m2, hjb⟩) (gno j hja)
      · omega
    first := by
      intro k h a b hk ha hab
      rcases get k h hk with ⟨k1, k2⟩ | ⟨k1, rfl⟩
      · rw [tk k (by omega)]; exact p.first k h a b k2 ha hab
      · subst k1
        rw [List.take_left]
        have h1 := (hg a).1 ha
        rcases hr b (h1.1.trans hab) with h2 | h2
        · exact .inl ((hg b).2 h2)
        · exact .inr h2
    least := by
      intro k h q hk hq hqh hnin hrd
      rcases get k h hk with ⟨k1, k2⟩ | ⟨k1, rfl⟩
      · rw [tk k (by omega)] at hnin hrd; exact p.least k h q k2 hq hqh hnin hrd
      · subst k1
        rw [List.take_left] at hnin hrd
        rcases Nat.lt_or_ge q i with hlt | hge
        · exact absurd hrd (hleast q hlt hnin)
        · refine ⟨i, gin, ?_⟩
          have : i ≠ q := fun e => hqh (e ▸ gin)
          omega }
/-- all is told: the groups. -/
theorem PG.ok (p : PG u l) (hall : ∀ i, i < u.length → In l i) : GrpOK u l where
  ne := p.ne
  up := p.up
  all i hi := (in_iff l i).1 (hall i hi)
  lt := p.lt
  mu k m g h i j hk hm hi hj := by
    have hg : g ∈ l := List.mem_iff_getElem?.2 ⟨k, hk⟩
    constructor
    · intro e; subst e
      rw [hk] at hm; injection hm with hm; subst hm
      exact (p.cl g hg i hi j).1 hj
    · intro e
      exact p.dis k m g h j hk hm ((p.cl g hg i hi j).2 e) hj
  first k g i j hk hi hu := by
    rcases p.first k g i j hk hi (.one hu) with h | h
    · exact ⟨k, g, Nat.le_refl _, hk, h⟩
    · obtain ⟨m, h, hm, e, hj⟩ := (in_take l k j).1 h
      exact ⟨m, h, by omega, e, hj⟩
  least k m g h hkm hk hm hr i hi := by
    have hh : h ∈ l := List.mem_iff_getElem?.2 ⟨m, hm⟩
    refine p.least k g i hk (p.lt h hh i hi) (fun hg => by have := p.dis k m g h i hk hm hg hi; omega) (fun hin => ?_) ?_
    · obtain ⟨m2, h2, hm2, e2, hi2⟩ := (in_take l k i).1 hin
      have := p.dis m2 m h2 h i e2 hm hi2 hi
      omega
    · have step : ∀ a b, Rch u a b → (a ∈ h ∨ In (l.take k) a) → (b ∈ h ∨ In (l.take k) b) := by
        intro a b hab
        induction hab with
        | refl a => exact id
        | step ua _ ih =>
          intro ha
          apply ih
          rcases ha with ha | ha
          · obtain ⟨m', h', hm', e', hj⟩ := hr _ ha _ ua
            rcases hm' with hm' | hm'
            · exact .inr ((in_take l k _).2 ⟨m', h', hm', e', hj⟩)
            · subst hm'; rw [hm] at e'; injection e' with e'; subst e'; exact .inl hj
          · obtain ⟨m', h', hm', e', hj⟩ := (in_take l k _).1 ha
            rcases p.first m' h' _ _ e' hj (.one ua) with h2 | h2
            · exact .inr ((in_take l k _).2 ⟨m', h', hm', e', h2⟩)
            · obtain ⟨m3, h3, hm3, e3, hj3⟩ := (in_take l m' _).1 h2
              exact .inr ((in_take l k _).2 ⟨m3, h3, by omega, e3, hj3⟩)
      intro j hij
      rcases step i j hij (.inl hi) with h2 | h2
      · exact .inl ((p.cl h hh i hi j).1 h2)
      · exact .inr h2
/-- some list of all that is come to from i, as a number of things. -/
theorem some_ready (hv : Valid u) (i : Nat) (hi : i < u.length) (hn : ¬ In l i) : ∃ q, q < u.length ∧ ¬ In l q ∧ Ready u l q := by
  have key : ∀ n, ∀ (S : List Nat) (i : Nat), S.length ≤ n → i < u.length → ¬ In l i → (∀ j, Rch u i j → ¬ In l j → j ∈ S) → ∃ q, q < u.length ∧ ¬ In l q ∧ Ready u l q := by
    intro n
    induction n with
    | zero =>
      intro S i hS hi hn hj
      have := hj i (.refl i) hn
      cases S with
      | nil => simp at this
      | cons a r => simp at hS
    | succ n ih =>
      intro S i hS hi hn hj
      by_cases hr : Ready u l i
      · exact ⟨i, hi, hn, hr⟩
      · obtain ⟨j, hij, hnm, hnj⟩ : ∃ j, Rch u i j ∧ ¬ Mut u i j ∧ ¬ In l j := by
          refine Classical.byContradiction (fun hno => hr (fun j hij => ?_))
          rcases Classical.em (Mut u i j) with h1 | h1
          · exact .inl h1
          · rcases Classical.em (In l j) with h2 | h2
            · exact .inr h2
            · exact absurd ⟨j, hij, h1, h2⟩ hno
        have hiS := hj i (.refl i) hn
        refine ih (S.filter (fun x => x != i)) j ?_ (rch_lt hv hij hi) hnj ?_
        · have : (S.filter (fun x => x != i)).length < S.length := by
            apply List.length_filter_lt_length_iff_exists.2
            exact ⟨i, hiS, by simp⟩
          omega
        · intro q hjq hnq
          rw [List.mem_filter]
          refine ⟨hj q (hij.trans hjq) hnq, ?_⟩
          simp
          rintro rfl
          exact hnm ⟨hij, hjq⟩
  exact key u.length (List.range u.length) i (by simp) hi hn (fun j hij _ => List.mem_range.2 (rch_lt hv hij hi))
end Go.Proofs.Ytfmpmblhndnbeaa.Od
