/-
  Groups (layer 10): what is closed holds all that is come to; the group of a number as a list; how the numbers that are told grow. No program stands here.
-/
import Derived.Test.YtfmpmblhndnbeaaOdC
namespace Go.Proofs.Ytfmpmblhndnbeaa.Od
variable {u : Uses} {l : List (List Nat)}
/-- what is closed holds all that is come to. -/
theorem closed_rch {S : Nat → Prop} (hc : ∀ a, S a → ∀ b, Use u a b → S b) {i j : Nat} (h : Rch u i j) (hi : S i) : S j := by
  induction h with
  | refl i => exact hi
  | step a _ ih => exact ih (hc _ hi _ a)
/-- the lists of all that is come to. -/
def AllR (u : Uses) (all : List (List Nat)) : Prop := all.length = u.length ∧ ∀ (i : Nat) (s : List Nat), all[i]? = some s → ∀ j, j ∈ s ↔ Rch u i j
/-- the group of i among n, by those lists. -/
def grp (n : Nat) (f : Nat → Nat → Bool) (i : Nat) : List Nat := (List.range n).filter (fun k => f i k && f k i)
theorem grp_up (n : Nat) (f : Nat → Nat → Bool) (i : Nat) : (grp n f i).Pairwise (· < ·) := List.Pairwise.filter _ List.pairwise_lt_range
theorem grp_mem {n : Nat} {f : Nat → Nat → Bool} (hn : u.length = n) (hv : Valid u) (hf : ∀ i k, i < n → (f i k = true ↔ Rch u i k)) {i : Nat} (hi : i < n) (j : Nat) : j ∈ grp n f i ↔ Mut u i j := by
  unfold grp
  rw [List.mem_filter, List.mem_range, Bool.and_eq_true]
  constructor
  · rintro ⟨h1, h2, h3⟩; exact ⟨(hf i j hi).1 h2, (hf j i h1).1 h3⟩
  · rintro ⟨h1, h2⟩
    have hj : j < n := by rw [← hn]; exact rch_lt hv h1 (by omega)
    exact ⟨hj, (hf i j hi).2 h1, (hf j i hj).2 h2⟩
/-- a step of the filter over a range. -/
theorem grp_succ (n : Nat) (f : Nat → Nat → Bool) (i : Nat) : grp (n + 1) f i = grp n f i ++ (if f i n && f n i then [n] else []) := by
  unfold grp
  rw [List.range_succ, List.filter_append]
  congr 1
  simp [List.filter_cons]
theorem PG.flat_nodup (p : PG u l) : l.flatten.Nodup := by
  unfold List.Nodup
  rw [List.pairwise_flatten]
  refine ⟨fun g hg => (p.up g hg).imp (fun h => by omega), ?_⟩
  rw [List.pairwise_iff_getElem]
  intro i j hi hj hij x hx y hy e
  subst e
  have := p.dis i j _ _ x (List.getElem?_eq_getElem hi) (List.getElem?_eq_getElem hj) hx hy
  omega
/-- no more are told than there are. -/
theorem PG.flat_le (p : PG u l) : l.flatten.length ≤ u.length := by
  have := p.flat_nodup.length_le_of_subset (l₂ := List.range u.length) (List.subset_def.2 (fun {a} ha => by
    rw [List.mem_flatten] at ha
    obtain ⟨g, hg, hi⟩ := ha
    exact List.mem_range.2 (p.lt g hg a hi)))
  simpa using this
/-- all are told, if as many are told. -/
theorem PG.full (p : PG u l) (h : u.length ≤ l.flatten.length) (i : Nat) (hi : i < u.length) : In l i := by
  refine Classical.byContradiction (fun hn => ?_)
  have hnd : (i :: l.flatten).Nodup := List.nodup_cons.2 ⟨hn, p.flat_nodup⟩
  have := hnd.length_le_of_subset (l₂ := List.range u.length) (List.subset_def.2 (fun {a} ha => by
    rcases List.mem_cons.1 ha with rfl | ha
    · exact List.mem_range.2 hi
    · rw [List.mem_flatten] at ha
      obtain ⟨g, hg, hi⟩ := ha
      exact List.mem_range.2 (p.lt g hg a hi)))
  simp at this
  simp at h
  omega
/-- one is left, if fewer are told. -/
theorem PG.left (_p : PG u l) (h : l.flatten.length < u.length) : ∃ i, i < u.length ∧ ¬ In l i := by
  refine Classical.byContradiction (fun hn => ?_)
  have := (List.nodup_range (n := u.length)).length_le_of_subset (l₂ := l.flatten) (List.subset_def.2 (fun {a} ha => by
    refine Classical.byContradiction (fun h2 => hn ⟨a, List.mem_range.1 ha, h2⟩)))
  simp at this
  simp at h
  omega
/-- the least number that is ready. -/
theorem PG.least_ready (p : PG u l) (hv : Valid u) (h : l.flatten.length < u.length) : ∃ i, i < u.length ∧ ¬ In l i ∧ Ready u l i ∧ ∀ q, q < i → ¬ In l q → ¬ Ready u l q := by
  obtain ⟨a, ha, hna⟩ := p.left h
  obtain ⟨b, hb, hnb, hrb⟩ := some_ready hv a ha hna
  have key : ∀ n q, q ≤ n → q < u.length → ¬ In l q → Ready u l q → ∃ i, i < u.length ∧ ¬ In l i ∧ Ready u l i ∧ ∀ q, q < i → ¬ In l q → ¬ Ready u l q := by
    intro n
    induction n with
    | zero => intro q hq hlt hn hr; exact ⟨q, hlt, hn, hr, fun x hx => by omega⟩
    | succ n ih =>
      intro q hq hlt hn hr
      by_cases h : ∃ x, x < q ∧ ¬ In l x ∧ Ready u l x
      · obtain ⟨x, hx, hnx, hrx⟩ := h
        exact ih x (by omega) (by omega) hnx hrx
      · exact ⟨q, hlt, hn, hr, fun x hx hnx hrx => h ⟨x, hx, hnx, hrx⟩⟩
  exact key b b (Nat.le_refl _) hb hnb hrb
/-- there is a list of groups. -/
theorem some_groups (hv : Valid u) : ∃ l, GrpOK u l := by
  have key : ∀ d (l : List (List Nat)), PG u l → u.length - l.flatten.length ≤ d → ∃ l, GrpOK u l := by
    intro d
    induction d with
    | zero => intro l p hd; exact ⟨l, p.ok (fun i hi => p.full (by omega) i hi)⟩
    | succ d ih =>
      intro l p hd
      rcases Nat.lt_or_ge l.flatten.length u.length with hlt | hge
      · obtain ⟨i, hi, hn, hr, hl⟩ := p.least_ready hv hlt
        have hf : ∀ a k, a < u.length → ((fun a k => @decide (Rch u a k) (Classical.propDecidable _)) a k = true ↔ Rch u a k) := fun a k _ => by simp
        have hg := grp_mem (f := fun a k => @decide (Rch u a k) (Classical.propDecidable _)) rfl hv hf hi
        refine ih _ (p.push hv hi hn hr hl (grp u.length (fun a k => @decide (Rch u a k) (Classical.propDecidable _)) i) (grp_up _ _ _) hg) ?_
        have : 0 < (grp u.length (fun a k => @decide (Rch u a k) (Classical.propDecidable _)) i).length := List.length_pos_of_mem ((hg i).2 (.refl u i))
        simp only [List.flatten_append, List.length_append, List.flatten_cons, List.flatten_nil, List.append_nil]
        omega
      · exact ⟨l, p.ok (fun i hi => p.full hge i hi)⟩
  exact key _ [] .nil (Nat.le_refl _)
end Go.Proofs.Ytfmpmblhndnbeaa.Od
