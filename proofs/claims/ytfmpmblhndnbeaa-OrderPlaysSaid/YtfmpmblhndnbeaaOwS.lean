/-
  Order: how often each group uses those that are not told: the counts as they lie, the closures that change them, the first one with none.
-/
import Derived.Test.YtfmpmblhndnbeaaOwR
import Derived.Test.YtfmpmblhndnbeaaOwF
namespace Go.Proofs.Ytfmpmblhndnbeaa
open Go.RowKit Go.Shelf Go.Proofs.Ytfmpmblhndnbeaa.Od
set_option maxRecDepth 100000

/-- the counts: their box, their block -/
structure WI (wbx wb m : Nat) (B : Nat) (W : List Int) (w : World) : Prop where
  bx : Blk w wbx 30 #[.slice (some ⟨wb, 0, none⟩) m m]
  dt : Blk w wb 3 (zV W).toArray
  len : W.length = m
  bd : ∀ x ∈ W, -(B : Int) ≤ x ∧ x ≤ (B : Int)
  ne : wb ≠ wbx
theorem zV_set (W : List Int) (o : Nat) (x : Int) : (zV W).set o (.int .i64 x) = zV (W.set o x) := by unfold zV; rw [List.map_set]
theorem WI.more {wbx wb m B B' : Nat} {W : List Int} {w : World} (h : WI wbx wb m B W w) (hB : B ≤ B') : WI wbx wb m B' W w :=
  { h with bd := fun x hx => by have := h.bd x hx; omega }
theorem WI.keep {wbx wb m B : Nat} {W : List Int} {w w' : World} (h : WI wbx wb m B W w) {P : Nat → Prop} (hc : Chg P w w') (hP : ∀ g, P g → g ≠ wbx ∧ g ≠ wb) : WI wbx wb m B W w' :=
  { h with bx := h.bx.chg hc (fun e => (hP _ e).1 rfl), dt := h.dt.chg hc (fun e => (hP _ e).2 rfl) }
theorem WI.facts {wbx wb m B o : Nat} {W : List Int} {w : World} (h : WI wbx wb m B W w) {x : Int} (hx : W[o]? = some x) :
    w.cell? ⟨wbx, 0, none⟩ = some (.slice (some ⟨wb, 0, none⟩) m m) ∧ w.cell? ⟨wb, o, none⟩ = some (.int .i64 x) ∧ w.frozen? ⟨wb, o, none⟩ = false ∧ wb < w.heap.size ∧ o < m :=
  ⟨h.bx.cell 0, by rw [h.dt.cell]; simpa using zV_at hx, h.dt.frozen o, h.dt.lt, by rw [← h.len]; exact (List.getElem?_eq_some_iff.1 hx).1⟩
theorem WI.set {wbx wb m B o : Nat} {W : List Int} {w : World} (h : WI wbx wb m B W w) {x y : Int} (hy : -((B + 1 : Nat) : Int) ≤ y ∧ y ≤ ((B + 1 : Nat) : Int)) (_hx : W[o]? = some x) :
    WI wbx wb m (B + 1) (W.set o y) (w.setCell ⟨wb, o, none⟩ (.int .i64 y)) ∧ Chg (fun g => g = wb) w (w.setCell ⟨wb, o, none⟩ (.int .i64 y)) := by
  refine ⟨{
    bx := h.bx.far (p := ⟨wb, o, none⟩) (Ne.symm h.ne) _
    dt := by
      have := heap_setCell_same w wb o _ _ (.int .i64 y) h.dt
      rw [List.setIfInBounds_toArray, zV_set] at this
      exact this
    len := by rw [List.length_set, h.len]
    bd := fun z hz => by
      rcases List.mem_or_eq_of_mem_set hz with hz | rfl
      · have := h.bd z hz; omega
      · exact hy
    ne := h.ne }, (Chg.refl (fun g => g = wb) w).setCell (p := ⟨wb, o, none⟩) (.inr rfl) _⟩
theorem modify_set {W : List Int} {o : Nat} {x : Int} (f : Int → Int) (hx : W[o]? = some x) : W.modify o f = W.set o (f x) := by
  refine List.ext_getElem? fun j => ?_
  rw [List.getElem?_modify, List.getElem?_set]
  by_cases e : o = j
  · subst e
    have := (List.getElem?_eq_some_iff.1 hx).1
    rw [hx]; simp [this]
  · simp [e]
def inc1 (g0 : Nat) (W : List Int) (_o : Nat) : List Int := W.modify g0 fun x => x + 1
theorem wrap_ok {x : Int} (h : -9223372036854775808 ≤ x ∧ x ≤ 9223372036854775807) : IntKind.i64.wrap x = x := by rw [IntKind.wrap_i64]; omega

theorem ow_inc (wbx wb m B gx g0 o : Nat) (W : List Int) (w : World) (h : WI wbx wb m B W w) (hB : B ≤ 1000000000000000000) (hg : Blk w gx 3 #[.int .i64 (g0 : Nat)]) (hl : g0 < m) :
    Calls Try.prog 22 #[.int .i64 (o : Nat), .pointer (some ⟨wbx, 0, none⟩), .pointer (some ⟨gx, 0, none⟩)] w fun e w' => e = .returned (.tuple #[]) ∧ WI wbx wb m (B + 1) (inc1 g0 W o) w' ∧ Chg (fun g => g = wb) w w' := by
  obtain ⟨x, hx⟩ : ∃ x, W[g0]? = some x := ⟨_, List.getElem?_eq_getElem (by rw [h.len]; exact hl)⟩
  obtain ⟨f1, f2, f3, f4, f5⟩ := h.facts hx
  have hb := h.bd x (List.mem_iff_getElem?.2 ⟨g0, hx⟩)
  have hs := h.set (o := g0) (x := x) (y := x + 1) (by omega) hx
  obtain ⟨p0, -, -⟩ := blk_facts1 hg
  have HS := hidE hs
  have he : inc1 g0 W o = W.set g0 (x + 1) := by unfold inc1; exact modify_set _ hx
  have HE := hidE he
  have hwr : (x + 1 + 9223372036854775808) % 18446744073709551616 - 9223372036854775808 = x + 1 := by omega
  clear h hg hx hs he
  go_enter Try.func22, Try.ntmps22
  go_wp2_with fail
  first | go_end0 | refine bodyPost_ret (results_none rfl _ _ _) rfl ?_
  rw [HE.out]
  exact ⟨rfl, HS.out⟩
theorem ow_dec (wbx wb m B o : Nat) (W : List Int) (w : World) (h : WI wbx wb m B W w) (hB : B ≤ 1000000000000000000) (hl : o < m) :
    Calls Try.prog 24 #[.int .i64 (o : Nat), .pointer (some ⟨wbx, 0, none⟩)] w fun e w' => e = .returned (.tuple #[]) ∧ WI wbx wb m (B + 1) (dec1 W o) w' ∧ Chg (fun g => g = wb) w w' := by
  obtain ⟨x, hx⟩ : ∃ x, W[o]? = some x := ⟨_, List.getElem?_eq_getElem (by rw [h.len]; exact hl)⟩
  obtain ⟨f1, f2, f3, f4, f5⟩ := h.facts hx
  have hb := h.bd x (List.mem_iff_getElem?.2 ⟨o, hx⟩)
  have hs := h.set (o := o) (x := x) (y := x - 1) (by omega) hx
  have HS := hidE hs
  have he : dec1 W o = W.set o (x - 1) := by unfold dec1; exact modify_set _ hx
  have HE := hidE he
  clear h hx hs he
  go_enter Try.func24, Try.ntmps24
  go_wp2_with fail
  first | go_end0 | refine bodyPost_ret (results_none rfl _ _ _) rfl ?_
  rw [HE.out]
  exact ⟨rfl, HS.out⟩
end Go.Proofs.Ytfmpmblhndnbeaa
