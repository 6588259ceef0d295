/-
  Order: turned uses: the mathematics of the law.
-/
import Derived.Test.YtfmpmblhndnbeaaOxA
namespace Go.Proofs.Ytfmpmblhndnbeaa
open Go.RowKit Go.Shelf Go.ChangeShapes Go.WideShapes Go.Proofs.Ytfmpmblhndnbeaa.Od
set_option maxRecDepth 100000

def intU (u : Uses) : List (List Int) := u.map fun l => l.map fun n : Nat => (n : Int)
theorem intU_len (u : Uses) : (intU u).length = u.length := by simp [intU]
theorem natU_intU (u : Uses) : natU (intU u) = u := by
  unfold natU intU
  rw [List.map_map]
  refine (List.map_congr_left fun l _ => ?_).trans (List.map_id u)
  show (l.map fun n : Nat => (n : Int)).map Int.toNat = l
  rw [List.map_map]
  exact (List.map_congr_left fun x _ => by simp).trans (List.map_id l)
theorem intU_V (u : Uses) : (intU u).map zV = u.map intV := by
  unfold intU
  rw [List.map_map]
  exact List.map_congr_left fun l _ => zV_nat l
theorem intU_there {u : Uses} {n : Nat} (hn : u.length = n) (h : ∀ l ∈ u, ∀ x ∈ l, x < n) : thereB (intU u).length (intU u) = true := by
  rw [intU_len, hn]
  unfold thereB
  rw [List.all_eq_true]
  intro l hl
  unfold intU at hl
  obtain ⟨m, hm, rfl⟩ := List.mem_map.1 hl
  have : (m.map fun n : Nat => (n : Int)).any (offB n) = false := by
    rw [List.any_eq_false]
    intro x hx
    obtain ⟨y, hy, rfl⟩ := List.mem_map.1 hx
    have := h m hm y hy
    unfold offB
    simp
    omega
  rw [this]; rfl
theorem intU_sz {u : Uses} {L : Nat} (h : ∀ l ∈ u, l.length ≤ L) : ∀ l ∈ intU u, l.length ≤ L := by
  intro l hl
  unfold intU at hl
  obtain ⟨m, hm, rfl⟩ := List.mem_map.1 hl
  rw [List.length_map]; exact h m hm
/-- each thing's first one, of the groups below i, and of k things of i -/
def FsP (G : List (List Nat)) (i k : Nat) (f : Nat → Nat) : Prop := ∀ (x g : Nat) (h : List Nat), G[g]? = some h → x ∈ h → (g < i ∨ (g = i ∧ x ∈ h.take k)) → h[0]? = some (f x)
theorem FsP.start (G : List (List Nat)) (f : Nat → Nat) : FsP G 0 0 f := fun x g h _ _ hx => by simp at hx
theorem FsP.step {u : Uses} {G : List (List Nat)} {i k x y : Nat} {l : List Nat} {f : Nat → Nat} (h : FsP G i k f) (o : GrpOK u G) (hi : G[i]? = some l) (hk : l[k]? = some x) (h0 : l[0]? = some y) : FsP G i (k + 1) (fun j => if j = x then y else f j) := by
  intro z g m hg hz hx
  have hxl : x ∈ l := List.mem_iff_getElem?.2 ⟨k, hk⟩
  by_cases e : z = x
  · subst e
    have hgi := o.uniq hg hi hz hxl
    subst hgi
    rw [hi] at hg; injection hg with hg; subst hg
    show l[0]? = some (if z = z then y else f z)
    rw [if_pos rfl]; exact h0
  · show _ = some (if z = x then y else f z)
    rw [if_neg e]
    refine h z g m hg hz ?_
    rcases hx with hx | ⟨hx, hx2⟩
    · exact .inl hx
    · subst hx
      rw [hi] at hg; injection hg with hg; subst hg
      rw [List.take_add_one, hk] at hx2
      rcases List.mem_append.1 hx2 with h3 | h3
      · exact .inr ⟨rfl, h3⟩
      · simp at h3; exact absurd h3 e
theorem FsP.next {G : List (List Nat)} {i : Nat} {l : List Nat} {f : Nat → Nat} (h : FsP G i l.length f) (hi : G[i]? = some l) : FsP G (i + 1) 0 f := by
  intro z g m hg hz hx
  refine h z g m hg hz ?_
  rcases hx with hx | ⟨_, hx2⟩
  · by_cases e : g = i
    · subst e
      rw [hi] at hg; injection hg with hg; subst hg
      exact .inr ⟨rfl, by simpa using hz⟩
    · exact .inl (by omega)
  · simp at hx2
/-- a group of the turned uses: all its things have its first one -/
theorem FsP.turn {u us : Uses} {G H : List (List Nat)} {f : Nat → Nat} (h : FsP G G.length 0 f) (o : GrpOK u G) (o' : GrpOK us H) (t : Turn u us) (hv : Valid u) {i k x y : Nat} {l : List Nat} (hi : H[i]? = some l) (hk : l[k]? = some x) (h0 : l[0]? = some y) : f x = y := by
  have hl : l ∈ H := List.mem_iff_getElem?.2 ⟨i, hi⟩
  have hu : ∀ i j, Use us i j ↔ Use u j i := fun i j => t.use hv i j
  have hM := turn_mut hu
  have hl2 := o'.clsM o t.len.symm (fun i j => (hM i j).symm) hl
  obtain ⟨g, hg⟩ := List.mem_iff_getElem?.1 hl2
  have := h x g l hg (List.mem_iff_getElem?.2 ⟨k, hk⟩) (.inl (List.getElem?_eq_some_iff.1 hg).1)
  rw [h0] at this
  injection this with this
  exact this.symm
theorem turn_len {u us : Uses} {G H : List (List Nat)} (o : GrpOK u G) (o' : GrpOK us H) (t : Turn u us) (hv : Valid u) : G.length = H.length :=
  o.lenM o' t.len (turn_mut fun i j => t.use hv i j)
theorem grp_len {u : Uses} {G : List (List Nat)} (o : GrpOK u G) : G.length ≤ u.length := by
  have h2 : ∀ l : List (List Nat), (∀ g ∈ l, g ≠ []) → l.length ≤ l.flatten.length := by
    intro l
    induction l with
    | nil => intro _; simp
    | cons g l ih =>
      intro h
      have := ih (fun x hx => h x (by simp [hx]))
      have h3 : 0 < g.length := List.length_pos_iff.2 (h g (by simp))
      simp only [List.length_cons, List.flatten_cons, List.length_append]
      omega
  have := h2 G o.ne
  rw [o.flat_len] at this
  exact this
theorem grp_sz {u : Uses} {G : List (List Nat)} (o : GrpOK u G) : ∀ l ∈ G, l.length ≤ u.length := fun l hl => lt_of_all ((o.up l hl).imp fun h => by omega) (o.lt l hl)
end Go.Proofs.Ytfmpmblhndnbeaa
