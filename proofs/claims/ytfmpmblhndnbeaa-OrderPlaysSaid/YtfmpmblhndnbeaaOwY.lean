/-
  Order: the uses that are handed in, read.
-/
import Derived.Test.YtfmpmblhndnbeaaOwX
import Derived.Test.YtfmpmblhndnbeaaRows
import Derived.Deep.Slices
import Derived.ChangeSlices
import Derived.Carry
import Derived.SliceStrings
import Derived.HandedShaped
import Derived.ProofKit
import Derived.OpenShut
import Derived.ShutString
namespace Go.Proofs.Ytfmpmblhndnbeaa
open Go.RowKit Go.Shelf Go.ChangeShapes Go.WideShapes Go.Proofs.Ytfmpmblhndnbeaa.Od
set_option maxRecDepth 100000

theorem laidK : laidOutB Try.prog = true := by kernel_rfl
theorem ownK : ownKnob Try.prog.godebug = none := by kernel_rfl
theorem und_rows : Try.prog.underlying 22 = some (.slice 30) := by kernel_rfl
theorem und_row : Try.prog.underlying 30 = some (.slice 3) := by kernel_rfl
theorem und_int : Try.prog.underlying 3 = some (.int .i64) := by kernel_rfl
theorem cells_row : Try.prog.cellsOf 30 = 1 := by kernel_rfl
theorem cells_int : Try.prog.cellsOf 3 = 1 := by kernel_rfl
theorem row_of {H : Type} {enc : TypeId × Value → H} {w : World} {v : Value} {fuel : Nat} {x : DataW H × List MemPlace} (h : DataW.trod enc Try.prog w 0 (fun _ => true) true fuel 30 [v] = some x) : ∃ l : List Int, RowA w v (zV l) := by
  rcases open_ints und_row und_int cells_int h with ⟨hcs, -⟩ | ⟨a, len, cap, zs, hcs, -, hl, hm, hmm, -, hx, -⟩
  · injection hcs with hcs _
    subst hcs
    exact ⟨[], RowA.nil w⟩
  · injection hcs with hcs _
    subst hcs
    have hmc : zs.length = cap := by rw [hmm]; rfl
    have htl : (zs.take len).length = len := by rw [List.length_take]; omega
    refine ⟨zs.take len, some a, cap, by rw [zV_len, htl], fun h0 => ⟨a, rfl, ?_, fun j u hu => ?_⟩⟩
    · rw [zV_len, htl] at h0
      have := World.block_lt_of_cell? _ _ (hx 0 (by omega))
      rwa [addr_add_block] at this
    · have hj : j < len := by
        have := (List.getElem?_eq_some_iff.1 hu).1
        rwa [zV_len, htl] at this
      rw [hx j (by omega)]
      unfold zV at hu
      rw [List.getElem?_map, List.getElem?_take_of_lt hj, List.getElem?_eq_getElem (by omega)] at hu
      rw [← hu, List.getD_eq_getElem?_getD, List.getElem?_eq_getElem (by omega)]
      rfl
theorem open_zz {H : Type} {enc : TypeId × Value → H} {w : World} {A : Option Addr} {n c : Nat} {d : DataW H} {p : List MemPlace} (h : DataW.Trod enc Try.prog w 0 (fun _ => true) true 22 (.slice A n c) d p) :
    ∃ z : List (List Int), RdR w (.slice A n c) (z.map zV) := by
  obtain ⟨fuel, hf⟩ := h
  rcases Go.Deep.open_slice1 und_rows cells_row hf with ⟨hcs, -⟩ | ⟨a, len, cap, m, n', V, D, Pl, hcs, -, hl, hm, hmm, -, hx⟩
  · simp [Value.cells] at hcs
    obtain ⟨rfl, rfl, rfl⟩ := hcs
    exact ⟨[], none, 0, rfl, fun h => by simp at h⟩
  · simp [Value.cells] at hcs
    obtain ⟨rfl, rfl, rfl⟩ := hcs
    have hmc : m = c := by rw [hmm]; rfl
    obtain ⟨L, hL⟩ := Go.Deep.choose_lt (α := List Int) (p := fun i l => RowA w (V i) (zV l)) (n := n) (fun i hi => row_of (hx i (by omega)).2)
    refine ⟨(List.range n).map L, some a, c, by simp, fun h0 => ⟨a, rfl, ?_, fun j l hl => ?_⟩⟩
    · have := World.block_lt_of_cell? _ _ (hx 0 (by simp at h0; omega)).1
      rwa [addr_add_block] at this
    · rw [List.map_map, List.getElem?_map] at hl
      have hj : j < n := by
        by_cases hj : j < n
        · exact hj
        · rw [List.getElem?_eq_none (by simp; omega)] at hl; cases hl
      rw [List.getElem?_range hj] at hl
      injection hl with hl
      subst hl
      exact ⟨V j, (hx j (by omega)).1, hL j hj⟩
end Go.Proofs.Ytfmpmblhndnbeaa
