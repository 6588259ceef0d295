/-
  Order: what is used comes first: the mathematics of the law, its head.
-/
import Derived.Test.YtfmpmblhndnbeaaOwY
namespace Go.Proofs.Ytfmpmblhndnbeaa
open Go.RowKit Go.Shelf Go.ChangeShapes Go.WideShapes Go.Proofs.Ytfmpmblhndnbeaa.Od
set_option maxRecDepth 100000

theorem few_len {z : List (List Int)} {m : Nat} (h : fewB (z.map zV) m = true) : z.length ≤ m ∧ ∀ l ∈ z, l.length ≤ m := by
  unfold fewB at h
  rw [Bool.and_eq_true] at h
  refine ⟨by simpa using h.1, fun l hl => ?_⟩
  have := List.all_eq_true.1 h.2 (zV l) (List.mem_map.2 ⟨l, hl, rfl⟩)
  rw [zV_len] at this
  simpa using this
/-- places of groups, plus one: of the groups below i, and of k things of i -/
def AtP (G : List (List Nat)) (i k : Nat) (f : Nat → Nat) : Prop := ∀ (x g : Nat) (h : List Nat), G[g]? = some h → x ∈ h → f x = if g < i ∨ (g = i ∧ x ∈ h.take k) then g + 1 else 0
theorem AtP.start (G : List (List Nat)) : AtP G 0 0 (fun _ => 0) := fun x g h _ _ => by simp
theorem AtP.step {u : Uses} {G : List (List Nat)} {i k x : Nat} {l : List Nat} {f : Nat → Nat} (h : AtP G i k f) (o : GrpOK u G) (hi : G[i]? = some l) (hk : l[k]? = some x) : AtP G i (k + 1) (fun j => if j = x then i + 1 else f j) := by
  intro y g m hg hy
  have hxl : x ∈ l := List.mem_iff_getElem?.2 ⟨k, hk⟩
  have h1 := h y g m hg hy
  show (if y = x then i + 1 else f y) = _
  by_cases e : y = x
  · subst e
    have hgi := o.uniq hg hi hy hxl
    subst hgi
    rw [hi] at hg; injection hg with hg; subst hg
    rw [if_pos rfl, if_pos (.inr ⟨rfl, by rw [List.take_add_one, hk]; simp⟩)]
  · rw [if_neg e, h1]
    by_cases hlt : g < i
    · rw [if_pos (.inl hlt), if_pos (.inl hlt)]
    · by_cases hgi : g = i
      · subst hgi
        rw [hi] at hg; injection hg with hg; subst hg
        have hiff : y ∈ l.take (k + 1) ↔ y ∈ l.take k := by
          rw [List.take_add_one, hk, List.mem_append]
          exact ⟨fun h => h.elim id (fun h => absurd (by simpa using h) e), .inl⟩
        simp [hiff]
      · rw [if_neg (by omega), if_neg (by omega)]
theorem AtP.next {G : List (List Nat)} {i : Nat} {l : List Nat} {f : Nat → Nat} (h : AtP G i l.length f) (hi : G[i]? = some l) : AtP G (i + 1) 0 f := by
  intro y g m hg hy
  rw [h y g m hg hy]
  by_cases hgi : g = i
  · subst hgi
    rw [hi] at hg; injection hg with hg; subst hg
    rw [if_pos (.inr ⟨rfl, by simpa using hy⟩), if_pos (.inl (by omega))]
  · by_cases hlt : g < i
    · rw [if_pos (.inl hlt), if_pos (.inl (by omega))]
    · rw [if_neg (by omega), if_neg (by simp; omega)]
theorem AtP.fresh {u : Uses} {G : List (List Nat)} {i k x : Nat} {l : List Nat} {f : Nat → Nat} (h : AtP G i k f) (o : GrpOK u G) (hi : G[i]? = some l) (hk : l[k]? = some x) : f x = 0 := by
  have hl : l ∈ G := List.mem_iff_getElem?.2 ⟨i, hi⟩
  rw [h x i l hi (List.mem_iff_getElem?.2 ⟨k, hk⟩), if_neg]
  rintro (h1 | ⟨_, h1⟩)
  · omega
  · obtain ⟨j, hj⟩ := List.mem_iff_getElem?.1 h1
    rw [List.getElem?_take] at hj
    split at hj
    · rename_i hjk
      have := List.pairwise_iff_getElem.1 (o.up l hl) j k (List.getElem?_eq_some_iff.1 hj).1 (List.getElem?_eq_some_iff.1 hk).1 hjk
      rw [(List.getElem?_eq_some_iff.1 hj).2, (List.getElem?_eq_some_iff.1 hk).2] at this
      omega
    · cases hj
theorem AtP.le {u : Uses} {G : List (List Nat)} {f : Nat → Nat} (h : AtP G G.length 0 f) (o : GrpOK u G) (hv : Valid u) {x y : Nat} (hu : Use u x y) : f y ≤ f x := by
  have hx : x < u.length := by obtain ⟨l, h1, _⟩ := hu; exact (List.getElem?_eq_some_iff.1 h1).1
  obtain ⟨k, g, hk, hg⟩ := o.all x hx
  obtain ⟨m, g', hm, hg'⟩ := o.all y (hv x y hu)
  have h1 := o.no_later hk hg hm hg' hu
  rw [h y m g' hm hg', h x k g hk hg, if_pos (.inl (List.getElem?_eq_some_iff.1 hm).1), if_pos (.inl (List.getElem?_eq_some_iff.1 hk).1)]
  omega
/-- how many were gone through -/
def cntA (G : List (List Nat)) (i k : Nat) : Nat := (G.take i).flatten.length + k
theorem cntA_next {G : List (List Nat)} {i : Nat} {l : List Nat} (hi : G[i]? = some l) : cntA G (i + 1) 0 = cntA G i l.length := by
  unfold cntA
  rw [List.take_add_one, hi]
  simp
theorem cntA_all (G : List (List Nat)) : cntA G G.length 0 = G.flatten.length := by
  unfold cntA
  rw [List.take_length]; rfl
theorem cntA_le {G : List (List Nat)} {i k : Nat} {l : List Nat} (hi : G[i]? = some l) (hk : k ≤ l.length) : cntA G i k ≤ G.flatten.length := by
  have h1 : (G.take (i + 1)).flatten.length ≤ G.flatten.length := by
    have e := congrArg (fun l => (List.flatten l).length) (List.take_append_drop (i + 1) G)
    simp only [List.flatten_append, List.length_append] at e
    omega
  have h2 := cntA_next hi
  unfold cntA at h2 ⊢
  omega
theorem grp_sorted {u : Uses} {G : List (List Nat)} (o : GrpOK u G) {i k x y : Nat} {l : List Nat} (hi : G[i]? = some l) (hk : l[k]? = some x) (hk1 : l[k + 1]? = some y) : x < y := by
  have hl : l ∈ G := List.mem_iff_getElem?.2 ⟨i, hi⟩
  have := List.pairwise_iff_getElem.1 (o.up l hl) k (k + 1) (List.getElem?_eq_some_iff.1 hk).1 (List.getElem?_eq_some_iff.1 hk1).1 (by omega)
  rw [(List.getElem?_eq_some_iff.1 hk).2, (List.getElem?_eq_some_iff.1 hk1).2] at this
  exact this
end Go.Proofs.Ytfmpmblhndnbeaa
