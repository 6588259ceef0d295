/-
  Order: slices.Sort of numbers; slices.Compare; slices.SortFunc of rows.
-/
import Derived.Test.YtfmpmblhndnbeaaOwE
import Derived.Test.YtfmpmblhndnbeaaSort
import Derived.Shelf.SlSortCmp.NoneTotal
namespace Go.Proofs.Ytfmpmblhndnbeaa
open Go.RowKit Go.Shelf Go.Proofs.Ytfmpmblhndnbeaa.Od
set_option maxRecDepth 100000

theorem sorted_heap {α : Type} [Inhabited α] (enc : α → Value) {w : World} {g n : Nat} {os : Array Obj} {cur : Array Value} {e : TypeId} (d : Array α) (hg : w.heap[g]? = some (.cells cur e (0, 0))) :
    (Go.Sort.grow (Go.Sort.putRow enc (Go.Sort.ahead w n) g 0 d) os).heap[g]? = some (.cells (Go.Sort.putCells enc 0 d cur) e (0, 0)) ∧ Chg (fun z => z = g) w (Go.Sort.grow (Go.Sort.putRow enc (Go.Sort.ahead w n) g 0 d) os) := by
  have hlt := (Array.getElem?_eq_some_iff.1 hg).1
  have hh : (Go.Sort.grow (Go.Sort.putRow enc (Go.Sort.ahead w n) g 0 d) os).heap = w.heap.modify g (Go.Sort.onCells (Go.Sort.putCells enc 0 d)) ++ os := rfl
  refine ⟨?_, rfl, rfl, rfl, ?_, fun k hk hn => ?_⟩
  · rw [hh, Array.getElem?_append_left (by simpa using hlt), Array.getElem?_modify, if_pos rfl, hg]
    rfl
  · rw [hh]; simp
  · have hn : k ≠ g := hn
    rw [hh, Array.getElem?_append_left (by simpa using hk), Array.getElem?_modify, if_neg (Ne.symm hn)]
theorem putCells_take {α : Type} [Inhabited α] (enc : α → Value) (d : Array α) (c : Array Value) (h : d.size ≤ c.size) : (Go.Sort.putCells enc 0 d c).size = c.size ∧ (Go.Sort.putCells enc 0 d c).toList.take d.size = d.toList.map enc := by
  unfold Go.Sort.putCells
  refine ⟨by simp, List.ext_getElem? fun t => ?_⟩
  by_cases ht : t < d.size
  · rw [List.getElem?_take_of_lt ht]
    have hc : t < c.size := by omega
    simp [ht, hc]
  · rw [List.getElem?_eq_none (by simp; omega), List.getElem?_eq_none (by simpa using ht)]
theorem holds_row {α : Type} [Inhabited α] (enc : α → Value) {w : World} {g : Nat} {cur : Array Value} {e : TypeId} {d : List α} (hb : w.heap[g]? = some (.cells cur e (0, 0))) (ht : cur.toList.take d.length = d.map enc) : Go.Sort.Holds enc w g 0 d.toArray := by
  intro j hj
  have hj' : j < d.length := by simpa using hj
  refine ⟨?_, by simp [World.frozen?, hb]⟩
  have h1 : (cur.toList.take d.length)[j]? = (d.map enc)[j]? := by rw [ht]
  rw [List.getElem?_take_of_lt hj'] at h1
  simp only [World.cell?, hb, Nat.zero_add]
  simp only [Option.isSome_none, Bool.false_eq_true, if_false]
  rw [← Array.getElem?_toList, h1]
  simp [hj']

/-- slices.Sort of numbers that the call owns -/
theorem ow_sort (l : List Nat) (B : Nat) (v : Value) (w : World) (ho : w.ownsRow B 3 1 v l.length (intV l)) (h0 : 0 < l.length) (hl : l.length ≤ 1000) :
    Calls Try.prog 27 #[v] w fun e w' => e = .returned (.tuple #[]) ∧ ∃ s, s.Perm l ∧ s.Pairwise (· ≤ ·) ∧ w'.ownsRow B 3 1 v s.length (intV s) ∧ Chg (fun g => v.ownBlock = some g) w w' := by
  rcases ho.2 with ⟨rfl, h⟩ | ⟨g, cap, cur, rfl, hB, hg, hcap, hmax, hcs, htake⟩
  · omega
  · obtain ⟨zs, hzs⟩ : ∃ zs : List Int, zs = l.map fun n : Nat => (n : Int) := ⟨_, rfl⟩
    have hzl : zs.length = l.length := by rw [hzs]; simp
    have hH : Go.Sort.Holds (Value.int .i64) w g 0 zs.toArray := holds_row (Value.int .i64) hg (by
      rw [hzl]; rw [Nat.mul_one] at htake; rw [htake, hzs, List.map_map]; rfl)
    have hcon := Any.slices_Sort_int Try.sortInts g 0 cap zs w hH (Array.getElem?_eq_some_iff.1 hg).1 (by rw [hzl]; omega)
    rw [hzl] at hcon
    refine hcon.mono ?_
    rintro e w' ⟨rfl, n, os, rfl⟩
    obtain ⟨c1, c2⟩ := sorted_heap (Value.int .i64) (n := n) (os := os) (zs.mergeSort fun x y => decide (x ≤ y)).toArray hg
    have hp : (zs.mergeSort fun x y => decide (x ≤ y)).Perm zs := List.mergeSort_perm zs _
    have hs : (zs.mergeSort fun x y => decide (x ≤ y)).Pairwise (fun x y => decide (x ≤ y) = true) := List.pairwise_mergeSort (fun a b c h1 h2 => by simp at *; omega) (fun a b => by simp; omega) zs
    generalize (zs.mergeSort fun x y => decide (x ≤ y)) = ms at *
    have hml : ms.length = l.length := by rw [hp.length_eq, hzl]
    have hnn : ∀ x ∈ ms, ∃ k : Nat, x = (k : Int) := fun x hx => by
      have := hp.mem_iff.1 hx
      rw [hzs] at this
      obtain ⟨k, _, rfl⟩ := List.mem_map.1 this
      exact ⟨k, rfl⟩
    have hms : ms = (ms.map Int.toNat).map fun n : Nat => (n : Int) := by
      rw [List.map_map]
      refine (List.map_id ms).symm.trans (List.map_congr_left fun x hx => ?_)
      obtain ⟨k, rfl⟩ := hnn x hx
      rfl
    have hput := putCells_take (Value.int .i64) ms.toArray cur (by simp; omega)
    refine ⟨rfl, ms.map Int.toNat, ?_, ?_, ?_, c2.mono fun z _ e => by rw [e]; rfl⟩
    · have := hp.map Int.toNat
      rw [hzs, List.map_map] at this
      have e : (l.map (Int.toNat ∘ fun n : Nat => (n : Int))) = l := (List.map_congr_left (fun x _ => by simp)).trans (List.map_id l)
      rw [e] at this
      exact this
    · rw [List.pairwise_map]
      refine hs.imp_of_mem ?_
      intro a b ha hb h
      obtain ⟨x, rfl⟩ := hnn a ha
      obtain ⟨y, rfl⟩ := hnn b hb
      simp at h ⊢; omega
    · rw [List.length_map, hml]
      refine ⟨by rw [intV_len, List.length_map, hml, Nat.mul_one], .inr ⟨g, cap, _, rfl, hB, c1, hcap, hmax, by rw [hput.1]; exact hcs, ?_⟩⟩
      have h2 := hput.2
      rw [List.size_toArray, hml] at h2
      rw [Nat.mul_one, h2, hms, ← zV_nat]
      unfold zV
      simp
end Go.Proofs.Ytfmpmblhndnbeaa
