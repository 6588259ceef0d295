/-
  Order: the chapter's examples.
-/
import Derived.Test.YtfmpmblhndnbeaaOwW
namespace Go.Proofs.Ytfmpmblhndnbeaa
open Go.RowKit Go.Shelf Go.Proofs.Ytfmpmblhndnbeaa.Od
set_option maxRecDepth 100000

theorem RowA.nil (w : World) : RowA w (.slice none 0 0) (zV []) := ⟨none, 0, rfl, fun h => by simp [zV] at h⟩
theorem RowA.lit {w : World} {g : Nat} {l : List Int} (h : Blk w g 3 (zV l).toArray) : RowA w (.slice (some ⟨g, 0, none⟩) l.length l.length) (zV l) :=
  ⟨_, l.length, by rw [zV_len], fun _ => ⟨_, rfl, h.lt, fun j u hu => by rw [add_blk, h.cell]; simpa using hu⟩⟩
def RowsZ (w : World) : List Value → List (List Int) → Prop
  | [], [] => True
  | v :: vs, l :: z => RowA w v (zV l) ∧ RowsZ w vs z
  | _, _ => False
theorem RowsZ.at {w : World} : {vs : List Value} → {z : List (List Int)} → RowsZ w vs z → (j : Nat) → (l : List Int) → z[j]? = some l → ∃ v, vs[j]? = some v ∧ RowA w v (zV l)
  | [], [], _, j, l, h => by simp at h
  | v :: vs, m :: z, hr, 0, l, h => by
    simp at h; subst h
    exact ⟨v, rfl, hr.1⟩
  | v :: vs, m :: z, hr, j + 1, l, h => by
    obtain ⟨v', h1, h2⟩ := RowsZ.at hr.2 j l (by simpa using h)
    exact ⟨v', by simpa using h1, h2⟩
  | [], _ :: _, hr, _, _, _ => hr.elim
  | _ :: _, [], hr, _, _, _ => hr.elim
theorem lit_rd {w : World} {b : Nat} {vs : List Value} {z : List (List Int)} (hb : Blk w b 30 vs.toArray) (hv : RowsZ w vs z) : RdR w (.slice (some ⟨b, 0, none⟩) z.length z.length) (z.map zV) := by
  refine ⟨_, z.length, by rw [List.length_map], fun _ => ⟨_, rfl, hb.lt, fun j l hl => ?_⟩⟩
  rw [List.getElem?_map] at hl
  cases hz : z[j]? with
  | none => rw [hz] at hl; cases hl
  | some m =>
    rw [hz] at hl; injection hl with hl; subst hl
    obtain ⟨v, h1, h2⟩ := hv.at j m hz
    exact ⟨v, by rw [add_blk, hb.cell]; simpa using h1, h2⟩
theorem lit_u {w : World} {v : Value} {z : List (List Int)} (h : RdR w v (z.map zV)) (ht : (natU z).map intV = z.map zV) : RdU w v (natU z) := RdR.u (by rw [ht]; exact h)
/-- one list of numbers; two; none -/
theorem GrPost.good {z : List (List Int)} {w w' : World} {e : Ending} {g : List (List Nat)} (h : GrPost z w e w') (ht : thereB z.length z = true) (hg : groups (natU z) = g) : ∃ v', e = .returned (.tuple #[v', .int .i64 0]) ∧ Below w.heap.size w w' ∧ RdU w' v' g := by
  obtain ⟨v', x, rfl, hb, ⟨_, rfl, hr⟩ | ⟨hf, _⟩⟩ := h
  · exact ⟨v', rfl, hb, hg ▸ hr⟩
  · rw [ht] at hf; cases hf
theorem GrPost.bad {z : List (List Int)} {w w' : World} {e : Ending} (h : GrPost z w e w') (ht : thereB z.length z = false) : e = .returned (.tuple #[.slice none 0 0, .int .i64 1]) ∧ Below w.heap.size w w' := by
  obtain ⟨v', x, rfl, hb, ⟨hf, _⟩ | ⟨_, rfl, rfl⟩⟩ := h
  · rw [ht] at hf; cases hf
  · exact ⟨rfl, hb⟩

set_option maxHeartbeats 6400000 in
theorem ow_awake (w : World) : Calls Try.prog 7 #[] w fun e w' => e = .returned (.bool true) ∧ Below w.heap.size w w' := by
  go_enter Try.func7, Try.ntmps7
  obtain ⟨h0, h1, h2, hs, hb⟩ := laid3 w (.cells #[.int .i64 1] 3) (.cells #[.int .i64 0, .int .i64 1] 3) (.cells #[.slice (some ⟨w.heap.size, 0, none⟩) 1 1, .slice none 0 0, .slice (some ⟨w.heap.size + 1, 0, none⟩) 2 2] 30)
  have HA := hidE (ow_Groups _ [[1], [], [0, 1]] _ (lit_rd (vs := [.slice (some ⟨w.heap.size, 0, none⟩) 1 1, .slice none 0 0, .slice (some ⟨w.heap.size + 1, 0, none⟩) 2 2]) (z := [[1], [], [0, 1]]) h2 ⟨RowA.lit (l := [1]) h0, RowA.nil _, RowA.lit (l := [0, 1]) h1, trivial⟩) (by decide) (by decide))
  have HAB := hidE hb
  clear h0 h1 h2 hs hb
  go_wp2_with fail
  refine HA.out.mono ?_
  rintro e w1 hp
  obtain ⟨v1, rfl, b1, r1⟩ := hp.good (g := [[1], [0], [2]]) (by decide) (by decide)
  have HB1 := hidE (HAB.out.trans (b1.mono HAB.out.size))
  have HR1 := hidE r1
  clear HA HAB hp b1 r1
  obtain ⟨h0, h1, h2, h3, hs, hb⟩ := laid4 w1 (.cells #[.int .i64 1] 3) (.cells #[.int .i64 2] 3) (.cells #[.int .i64 0, .int .i64 3] 3) (.cells #[.slice (some ⟨w1.heap.size, 0, none⟩) 1 1, .slice (some ⟨w1.heap.size + 1, 0, none⟩) 1 1, .slice (some ⟨w1.heap.size + 1 + 1, 0, none⟩) 2 2, .slice none 0 0] 30)
  have HA := hidE (ow_Groups _ [[1], [2], [0, 3], []] _ (lit_rd (vs := [.slice (some ⟨w1.heap.size, 0, none⟩) 1 1, .slice (some ⟨w1.heap.size + 1, 0, none⟩) 1 1, .slice (some ⟨w1.heap.size + 1 + 1, 0, none⟩) 2 2, .slice none 0 0]) (z := [[1], [2], [0, 3], []]) h3 ⟨RowA.lit (l := [1]) h0, RowA.lit (l := [2]) h1, RowA.lit (l := [0, 3]) h2, RowA.nil _, trivial⟩) (by decide) (by decide))
  have HAB := hidE hb
  clear h0 h1 h2 h3 hs hb
  go_wp2_with fail
  refine HA.out.mono ?_
  rintro e w2 hp
  obtain ⟨v2, rfl, b1, r1⟩ := hp.good (g := [[3], [0, 1, 2]]) (by decide) (by decide)
  have HB2 := hidE (HB1.out.trans ((HAB.out.trans (b1.mono HAB.out.size)).mono HB1.out.size))
  replace HR1 := hidE (HR1.out.below (HAB.out.trans (b1.mono HAB.out.size)))
  have HR2 := hidE r1
  clear HA HAB hp b1 r1 HB1
  obtain ⟨h0, h1, hs, hb⟩ := laid2 w2 (.cells #[.int .i64 0] 3) (.cells #[.slice (some ⟨w2.heap.size, 0, none⟩) 1 1, .slice none 0 0] 30)
  have HA := hidE (ow_Groups _ [[0], []] _ (lit_rd (vs := [.slice (some ⟨w2.heap.size, 0, none⟩) 1 1, .slice none 0 0]) (z := [[0], []]) h1 ⟨RowA.lit (l := [0]) h0, RowA.nil _, trivial⟩) (by decide) (by decide))
  have HAB := hidE hb
  clear h0 h1 hs hb
  go_wp2_with fail
  refine HA.out.mono ?_
  rintro e w3 hp
  obtain ⟨v3, rfl, b1, r1⟩ := hp.good (g := [[0], [1]]) (by decide) (by decide)
  have HB3 := hidE (HB2.out.trans ((HAB.out.trans (b1.mono HAB.out.size)).mono HB2.out.size))
  replace HR1 := hidE (HR1.out.below (HAB.out.trans (b1.mono HAB.out.size)))
  replace HR2 := hidE (HR2.out.below (HAB.out.trans (b1.mono HAB.out.size)))
  have HR3 := hidE r1
  clear HA HAB hp b1 r1 HB2
  obtain ⟨h0, h1, hs, hb⟩ := laid2 w3 (.cells #[.int .i64 5] 3) (.cells #[.slice (some ⟨w3.heap.size, 0, none⟩) 1 1] 30)
  have HA := hidE (ow_Groups _ [[5]] _ (lit_rd (vs := [.slice (some ⟨w3.heap.size, 0, none⟩) 1 1]) (z := [[5]]) h1 ⟨RowA.lit (l := [5]) h0, trivial⟩) (by decide) (by decide))
  have HAB := hidE hb
  clear h0 h1 hs hb
  go_wp2_with fail
  refine HA.out.mono ?_
  rintro e w4 hp
  obtain ⟨rfl, b1⟩ := hp.bad (by decide)
  have HB4 := hidE (HB3.out.trans ((HAB.out.trans (b1.mono HAB.out.size)).mono HB3.out.size))
  replace HR1 := hidE (HR1.out.below (HAB.out.trans (b1.mono HAB.out.size)))
  replace HR2 := hidE (HR2.out.below (HAB.out.trans (b1.mono HAB.out.size)))
  replace HR3 := hidE (HR3.out.below (HAB.out.trans (b1.mono HAB.out.size)))
  clear HA HAB hp b1 HB3
  obtain ⟨h0, h1, h2, h3, hs, hb⟩ := laid4 w4 (.cells #[.int .i64 1] 3) (.cells #[.int .i64 0] 3) (.cells #[.int .i64 2] 3) (.cells #[.slice (some ⟨w4.heap.size, 0, none⟩) 1 1, .slice (some ⟨w4.heap.size + 1, 0, none⟩) 1 1, .slice (some ⟨w4.heap.size + 1 + 1, 0, none⟩) 1 1] 30)
  have hrr := lit_u (lit_rd (vs := [.slice (some ⟨w4.heap.size, 0, none⟩) 1 1, .slice (some ⟨w4.heap.size + 1, 0, none⟩) 1 1, .slice (some ⟨w4.heap.size + 1 + 1, 0, none⟩) 1 1]) (z := [[1], [0], [2]]) h3 ⟨RowA.lit (l := [1]) h0, RowA.lit (l := [0]) h1, RowA.lit (l := [2]) h2, trivial⟩) rfl
  have HA := hidE (od_same v1 _ _ _ _ (HR1.out.below hb) hrr (by decide) (by decide))
  have HAB := hidE hb
  clear h0 h1 h2 h3 hs hb hrr
  rw [show decide (_ = natU [[1], [0], [2]]) = true from by decide] at HA
  go_wp2_with fail
  refine HA.out.mono ?_
  rintro e w5 ⟨rfl, b1⟩
  have HB5 := hidE (HB4.out.trans ((HAB.out.trans (b1.mono HAB.out.size)).mono HB4.out.size))
  replace HR2 := hidE (HR2.out.below (HAB.out.trans (b1.mono HAB.out.size)))
  replace HR3 := hidE (HR3.out.below (HAB.out.trans (b1.mono HAB.out.size)))
  clear HA HAB b1 HB4 HR1
  obtain ⟨h0, h1, h2, hs, hb⟩ := laid3 w5 (.cells #[.int .i64 3] 3) (.cells #[.int .i64 0, .int .i64 1, .int .i64 2] 3) (.cells #[.slice (some ⟨w5.heap.size, 0, none⟩) 1 1, .slice (some ⟨w5.heap.size + 1, 0, none⟩) 3 3] 30)
  have hrr := lit_u (lit_rd (vs := [.slice (some ⟨w5.heap.size, 0, none⟩) 1 1, .slice (some ⟨w5.heap.size + 1, 0, none⟩) 3 3]) (z := [[3], [0, 1, 2]]) h2 ⟨RowA.lit (l := [3]) h0, RowA.lit (l := [0, 1, 2]) h1, trivial⟩) rfl
  have HA := hidE (od_same v2 _ _ _ _ (HR2.out.below hb) hrr (by decide) (by decide))
  have HAB := hidE hb
  clear h0 h1 h2 hs hb hrr
  rw [show decide (_ = natU [[3], [0, 1, 2]]) = true from by decide] at HA
  go_wp2_with fail
  refine HA.out.mono ?_
  rintro e w6 ⟨rfl, b1⟩
  have HB6 := hidE (HB5.out.trans ((HAB.out.trans (b1.mono HAB.out.size)).mono HB5.out.size))
  replace HR3 := hidE (HR3.out.below (HAB.out.trans (b1.mono HAB.out.size)))
  clear HA HAB b1 HB5 HR2
  obtain ⟨h0, h1, h2, hs, hb⟩ := laid3 w6 (.cells #[.int .i64 0] 3) (.cells #[.int .i64 1] 3) (.cells #[.slice (some ⟨w6.heap.size, 0, none⟩) 1 1, .slice (some ⟨w6.heap.size + 1, 0, none⟩) 1 1] 30)
  have hrr := lit_u (lit_rd (vs := [.slice (some ⟨w6.heap.size, 0, none⟩) 1 1, .slice (some ⟨w6.heap.size + 1, 0, none⟩) 1 1]) (z := [[0], [1]]) h2 ⟨RowA.lit (l := [0]) h0, RowA.lit (l := [1]) h1, trivial⟩) rfl
  have HA := hidE (od_same v3 _ _ _ _ (HR3.out.below hb) hrr (by decide) (by decide))
  have HAB := hidE hb
  clear h0 h1 h2 hs hb hrr
  rw [show decide (_ = natU [[0], [1]]) = true from by decide] at HA
  go_wp2_with fail
  refine HA.out.mono ?_
  rintro e w7 ⟨rfl, b1⟩
  have HB7 := hidE (HB6.out.trans ((HAB.out.trans (b1.mono HAB.out.size)).mono HB6.out.size))
  clear HA HAB b1 HB6 HR3
  go_wp2_with fail
  go_ret
  exact ⟨rfl, HB7.out⟩
end Go.Proofs.Ytfmpmblhndnbeaa
