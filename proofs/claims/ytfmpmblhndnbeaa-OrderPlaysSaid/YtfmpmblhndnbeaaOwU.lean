/-
  Order: groups are told each behind those that it uses: what is kept.
-/
import Derived.Test.YtfmpmblhndnbeaaOwT
namespace Go.Proofs.Ytfmpmblhndnbeaa
open Go.RowKit Go.Shelf Go.Proofs.Ytfmpmblhndnbeaa.Od
set_option maxRecDepth 100000

/-- the counts of the groups below k -/
def IncP (H : List (List Nat)) (u : Uses) (k : Nat) (W : List Int) : Prop := W.length = H.length ∧ ∀ g, g < H.length → W[g]? = some (if g < k then (((oth H u g).length : Nat) : Int) else 0)
theorem IncP.start (H : List (List Nat)) (u : Uses) : IncP H u 0 (List.replicate H.length 0) := ⟨by simp, fun g hg => by rw [List.getElem?_replicate, if_pos hg]; simp⟩
theorem incs_get (g : Nat) (W : List Int) (l : List Nat) : (l.foldl (inc1 g) W).length = W.length ∧ ∀ j, (l.foldl (inc1 g) W)[j]? = W[j]?.map fun x => if j = g then x + ((l.length : Nat) : Int) else x := by
  induction l generalizing W with
  | nil => refine ⟨rfl, fun j => ?_⟩; simp
  | cons o l ih =>
    rw [List.foldl_cons]
    obtain ⟨h1, h2⟩ := ih (inc1 g W o)
    refine ⟨by rw [h1]; simp [inc1], fun j => ?_⟩
    rw [h2, inc1, List.getElem?_modify]
    cases h : W[j]? with
    | none => simp
    | some x =>
      by_cases e : j = g
      · subst e; simp; omega
      · have : ¬ g = j := fun h => e h.symm
        simp [e, this]
theorem IncP.step {H : List (List Nat)} {u : Uses} {k : Nat} {W : List Int} (h : IncP H u k W) (_hk : k < H.length) : IncP H u (k + 1) ((oth H u k).foldl (inc1 k) W) := by
  obtain ⟨h1, h2⟩ := incs_get k W (oth H u k)
  refine ⟨by rw [h1, h.1], fun g hg => ?_⟩
  rw [h2, h.2 g hg]
  by_cases e : g = k
  · subst e; simp
  · by_cases e2 : g < k
    · simp [e, e2, show g < k + 1 by omega]
    · simp [e, e2, show ¬ g < k + 1 by omega]
theorem IncP.done {H : List (List Nat)} {u : Uses} {W : List Int} (h : IncP H u H.length W) : InO u H [] W :=
  InO.start h.1 fun g hg => by rw [h.2 g hg, if_pos hg]
/-- the first place of a count that is none -/
theorem first_zero {W : List Int} {k : Nat} (h : W[k]? = some 0) : ∃ m : Nat, W[m]? = some 0 ∧ ∀ j : Nat, j < m → W[j]? ≠ some 0 := by
  induction k using Nat.strongRecOn with
  | _ k ih =>
    by_cases hx : ∃ j : Nat, j < k ∧ W[j]? = some 0
    · obtain ⟨j, hj, hw⟩ := hx
      exact ih j hj hw
    · exact ⟨k, h, fun j hj hw => hx ⟨j, hj, hw⟩⟩
theorem WI.row {wbx wb m B : Nat} {W : List Int} {w : World} (h : WI wbx wb m B W w) : RowA w (.slice (some ⟨wb, 0, none⟩) m m) (zV W) := by
  refine ⟨_, m, by rw [zV_len, h.len], fun _ => ⟨_, rfl, h.dt.lt, fun j u hu => ?_⟩⟩
  rw [add_blk, h.dt.cell]
  simpa using hu
theorem inc_doer (wbx wb m gx g0 : Nat) (hl : g0 < m) (hne : gx ≠ wb) : Doer m 22 #[.pointer (some ⟨wbx, 0, none⟩), .pointer (some ⟨gx, 0, none⟩)] (fun B W w => WI wbx wb m B W w ∧ Blk w gx 3 #[.int .i64 (g0 : Nat)]) (inc1 g0) wb := by
  intro B W o w h hB _
  refine (ow_inc wbx wb m B gx g0 o W w h.1 hB h.2 hl).mono ?_
  rintro e w' ⟨rfl, h1, h2⟩
  exact ⟨rfl, ⟨h1, h.2.chg h2 (fun e => hne e)⟩, h2⟩
theorem dec_doer (wbx wb m : Nat) : Doer m 24 #[.pointer (some ⟨wbx, 0, none⟩)] (fun B W w => WI wbx wb m B W w) dec1 wb := by
  intro B W o w h hB ho
  exact ow_dec wbx wb m B o W w h hB ho
/-- what is told, as it lies -/
def TR (T0 B0 : Nat) (H : List (List Nat)) (told : List Nat) (v : Value) (w : World) : Prop :=
  ∃ xs, w.ownsRow B0 30 1 v told.length xs ∧ ∀ (i : Nat) (x : Value) (l : List Nat), xs[i]? = some x → (tld H told)[i]? = some l → RowB T0 w x (intV l)
theorem TR.nil (T0 B0 : Nat) (H : List (List Nat)) (w : World) : TR T0 B0 H [] (.slice none 0 0) w := ⟨[], World.ownsRow_nil _ _ _ _, fun i x l h => by simp at h⟩
theorem TR.keep {T0 B0 : Nat} {H : List (List Nat)} {told : List Nat} {v : Value} {w w' : World} (h : TR T0 B0 H told v w) {P : Nat → Prop} (hc : Chg P w w') (hP : ∀ g, P g → T0 ≤ g ∧ g < B0) (hT : T0 ≤ w.heap.size) : TR T0 B0 H told v w' := by
  obtain ⟨xs, h1, h2⟩ := h
  refine ⟨xs, own_keepv h1 fun g hg => hc.block g (own_more h1 g hg).2 (fun e => by have := (hP g e).2; have := (own_more h1 g hg).1; omega), fun i x l hx hl => ?_⟩
  exact (h2 i x l hx hl).below (hc.toBelow hT (fun k hk e => by have := (hP k e).1; omega)) (Nat.le_refl _)
theorem TR.rd {T0 B0 : Nat} {H : List (List Nat)} {told : List Nat} {v : Value} {w : World} (h : TR T0 B0 H told v w) (hT : T0 ≤ w.heap.size) : RdU w v (tld H told) := by
  obtain ⟨vs, h1, h2⟩ := h
  have hvl : vs.length = told.length := by rw [h1.1, Nat.mul_one]
  have htl : (tld H told).length = told.length := by unfold tld; simp
  obtain ⟨A, c, e, hp⟩ := own_rowA h1
  rw [hvl] at e hp
  refine ⟨A, c, by rw [htl]; exact e, fun h0 => ?_⟩
  rw [htl] at h0
  obtain ⟨a, e1, e2, e3⟩ := hp h0
  refine ⟨a, e1, e2, fun j l hl => ?_⟩
  have hj : j < vs.length := by rw [hvl, ← htl]; exact (List.getElem?_eq_some_iff.1 hl).1
  have hv := List.getElem?_eq_getElem hj
  exact ⟨vs[j], e3 j _ hv, (h2 j _ l hv hl).rowA hT⟩
theorem TR.push {T0 B0 k : Nat} {H : List (List Nat)} {told : List Nat} {v v' x : Value} {w w2 : World} {l : List Nat} {xs : List Value} {o : Obj} (h1 : w.ownsRow B0 30 1 v told.length xs) (h2 : ∀ (i : Nat) (x : Value) (l : List Nat), xs[i]? = some x → (tld H told)[i]? = some l → RowB T0 w x (intV l))
    (hk : H[k]? = some l) (hx : RowB T0 w x (intV l)) (hg : (w.alloc o).grownBy w2 v.ownBlock) (hown : w2.ownsRow B0 30 1 v' (told.length + 1) (xs ++ [x])) (hT : T0 ≤ w.heap.size) (hTB : T0 ≤ B0) : TR T0 B0 H (told ++ [k]) v' w2 := by
  have hb : Below T0 w w2 := ((Below.refl T0 w).alloc hT o).grown hg (by have := size_alloc w o; omega) (fun k hk => by have := (own_more h1 k hk).1; omega)
  have hxl : xs.length = told.length := by rw [h1.1, Nat.mul_one]
  have htl : (tld H told).length = told.length := by unfold tld; simp
  refine ⟨xs ++ [x], by rw [List.length_append]; exact hown, fun i y m hy hm => ?_⟩
  rw [tld_snoc] at hm
  rcases Nat.lt_or_ge i xs.length with hlt | hge
  · rw [List.getElem?_append_left hlt] at hy
    rw [List.getElem?_append_left (by omega)] at hm
    exact (h2 i y m hy hm).below hb (Nat.le_refl _)
  · rw [List.getElem?_append_right hge] at hy
    rw [List.getElem?_append_right (by omega), htl, ← hxl] at hm
    cases e : i - xs.length with
    | zero =>
      rw [e] at hy hm
      simp only [List.getElem?_cons_zero, Option.some.injEq] at hy hm
      subst hy hm
      rw [show H.getD k [] = l by rw [List.getD_eq_getElem?_getD, hk]; rfl]
      exact hx.below hb (Nat.le_refl _)
    | succ n => rw [e] at hy; simp at hy
end Go.Proofs.Ytfmpmblhndnbeaa
