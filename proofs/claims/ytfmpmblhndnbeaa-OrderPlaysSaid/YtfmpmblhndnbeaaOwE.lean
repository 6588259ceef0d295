/-
  Order, a small base on: blocks, what is changed, boxes; uses that lie below a bound; numbers of whatever sign.
-/
import Derived.Test.YtfmpmblhndnbeaaOwD
import Derived.Test.YtfmpmblhndnbeaaOdH
import Derived.Shelf.Abstract
import Derived.Laws.EntriesVeiled
namespace Go.Proofs.Ytfmpmblhndnbeaa
open Go.RowKit Go.Shelf Go.Proofs.Ytfmpmblhndnbeaa.Od
set_option maxRecDepth 100000

/-- block g holds just these cells, none of them frozen -/
def Blk (w : World) (g : Nat) (t : TypeId) (cs : Array Value) : Prop := w.heap[g]? = some (.cells cs t (0, 0))
section
variable {w w' : World} {g : Nat} {t : TypeId} {cs : Array Value}
theorem Blk.lt (h : Blk w g t cs) : g < w.heap.size := lt_of_block h
theorem Blk.cell (h : Blk w g t cs) (i : Nat) : w.cell? ⟨g, i, none⟩ = cs[i]? := cell_of_row w g i cs t (0, 0) h
theorem Blk.frozen (h : Blk w g t cs) (i : Nat) : w.frozen? ⟨g, i, none⟩ = false := frozen_of_row w g i cs t h
theorem Blk.alloc (h : Blk w g t cs) (o : Obj) : Blk (w.alloc o) g t cs := (Below.heap_alloc w o g h.lt).trans h
theorem Blk.drew (h : Blk w g t cs) : Blk w.drew g t cs := h
theorem Blk.drewN (h : Blk w g t cs) (n : Nat) : Blk (w.drewN n) g t cs := h
theorem Blk.far (h : Blk w g t cs) {p : Addr} (hp : g ≠ p.block) (u : Value) : Blk (w.setCell p u) g t cs := (Below.heap_setCell w p u g hp).trans h
theorem Blk.grown {row : Option Nat} (h : Blk w g t cs) (hb : w.grownBy w' row) (hg : some g ≠ row) : Blk w' g t cs := (hb.block g h.lt hg).trans h
theorem Blk.below {B : Nat} (h : Blk w g t cs) (hb : Below B w w') (hg : g < B) : Blk w' g t cs := (hb.block g hg).trans h
end
/-- w' is w with new blocks, and with other cells in blocks of M alone -/
structure Chg (M : Nat → Prop) (w w' : World) : Prop where
  os : w'.os = w.os
  tape : w'.tape = w.tape
  output : w'.output = w.output
  size : w.heap.size ≤ w'.heap.size
  block : ∀ k, k < w.heap.size → ¬ M k → w'.heap[k]? = w.heap[k]?

theorem Chg.refl (M : Nat → Prop) (w : World) : Chg M w w := ⟨rfl, rfl, rfl, Nat.le_refl _, fun _ _ _ => rfl⟩
theorem Chg.trans' {M M1 : Nat → Prop} {a b c : World} (h : Chg M a b) (k : Chg M1 b c) (hm : ∀ i, i < a.heap.size → M1 i → M i) : Chg M a c :=
  ⟨k.os.trans h.os, k.tape.trans h.tape, k.output.trans h.output, Nat.le_trans h.size k.size, fun i hi hn => (k.block i (Nat.lt_of_lt_of_le hi h.size) (fun e => hn (hm i hi e))).trans (h.block i hi hn)⟩
theorem Chg.trans {M : Nat → Prop} {a b c : World} (h : Chg M a b) (k : Chg M b c) : Chg M a c := h.trans' k (fun _ _ e => e)
theorem Chg.mono {M M1 : Nat → Prop} {w w' : World} (h : Chg M w w') (hm : ∀ i, i < w.heap.size → M i → M1 i) : Chg M1 w w' :=
  ⟨h.os, h.tape, h.output, h.size, fun i hi hn => h.block i hi (fun e => hn (hm i hi e))⟩
theorem Chg.alloc {M : Nat → Prop} {a w : World} (h : Chg M a w) (o : Obj) : Chg M a (w.alloc o) :=
  ⟨h.os, h.tape, h.output, Nat.le_trans h.size (by simp), fun i hi hn => (Below.heap_alloc w o i (Nat.lt_of_lt_of_le hi h.size)).trans (h.block i hi hn)⟩
theorem Chg.setCell {M : Nat → Prop} {a w : World} (h : Chg M a w) {p : Addr} (hp : a.heap.size ≤ p.block ∨ M p.block) (u : Value) : Chg M a (w.setCell p u) :=
  have hb : Below 0 w (w.setCell p u) := (Below.refl 0 w).setCell (Nat.zero_le _) u
  ⟨hb.os.trans h.os, hb.tape.trans h.tape, hb.output.trans h.output, Nat.le_trans h.size hb.size, fun i hi hn => (Below.heap_setCell w p u i (fun e => by
    rcases hp with hp | hp
    · omega
    · exact hn (e ▸ hp))).trans (h.block i hi hn)⟩
theorem Chg.drewN {M : Nat → Prop} {a w : World} (h : Chg M a w) (n : Nat) : Chg M a (w.drewN n) := ⟨h.os, h.tape, h.output, h.size, h.block⟩
theorem Chg.drew {M : Nat → Prop} {a w : World} (h : Chg M a w) : Chg M a w.drew := ⟨h.os, h.tape, h.output, h.size, h.block⟩
theorem Chg.grown {M : Nat → Prop} {a w w' : World} {row : Option Nat} (h : Chg M a w) (hg : w.grownBy w' row) (hr : ∀ k, row = some k → a.heap.size ≤ k ∨ M k) : Chg M a w' :=
  have hb : Below 0 w w' := (Below.refl 0 w).grown hg (Nat.zero_le _) (fun _ _ => Nat.zero_le _)
  ⟨hb.os.trans h.os, hb.tape.trans h.tape, hb.output.trans h.output, Nat.le_trans h.size hb.size, fun i hi hn => (hg.block i (Nat.lt_of_lt_of_le hi h.size) (fun e => by
    rcases hr i e.symm with hp | hp
    · omega
    · exact hn hp)).trans (h.block i hi hn)⟩
theorem Chg.of_below {M : Nat → Prop} {w w' : World} (h : Below w.heap.size w w') : Chg M w w' := ⟨h.os, h.tape, h.output, h.size, fun i hi _ => h.block i hi⟩
theorem Chg.below {M : Nat → Prop} {a b c : World} (h : Chg M a b) (k : Below b.heap.size b c) : Chg M a c := h.trans (Chg.of_below k)
theorem Chg.belowB {M : Nat → Prop} {a b c : World} {B : Nat} (h : Chg M a b) (k : Below B b c) (hB : a.heap.size ≤ B) : Chg M a c :=
  ⟨k.os.trans h.os, k.tape.trans h.tape, k.output.trans h.output, Nat.le_trans h.size k.size, fun i hi hn => (k.block i (by omega)).trans (h.block i hi hn)⟩
theorem Chg.toBelow {M : Nat → Prop} {w w' : World} {B : Nat} (h : Chg M w w') (hB : B ≤ w.heap.size) (hm : ∀ k, k < B → ¬ M k) : Below B w w' :=
  ⟨h.os, h.tape, h.output, h.size, fun i hi => h.block i (by omega) (hm i hi)⟩

theorem Blk.same {w w' : World} {g : Nat} {t : TypeId} {cs : Array Value} (h : Blk w g t cs) (he : w'.heap[g]? = w.heap[g]?) : Blk w' g t cs := he.trans h
theorem Blk.chg {M : Nat → Prop} {w w' : World} {g : Nat} {t : TypeId} {cs : Array Value} (h : Blk w g t cs) (hc : Chg M w w') (hm : ¬ M g) : Blk w' g t cs := (hc.block g h.lt hm).trans h

theorem laid2 (w : World) (o0 o1 : Obj) : ((w.alloc o0).alloc o1).heap[w.heap.size]? = some o0 ∧ ((w.alloc o0).alloc o1).heap[w.heap.size + 1]? = some o1 ∧ ((w.alloc o0).alloc o1).heap.size = w.heap.size + 2 ∧ Below w.heap.size w ((w.alloc o0).alloc o1) :=
  have s1 := size_alloc w o0
  ⟨(Below.heap_alloc _ _ _ (by omega)).trans (heap_alloc_new w o0), s1 ▸ heap_alloc_new (w.alloc o0) o1, (size_alloc _ _).trans (by omega), ((Below.refl _ w).alloc (Nat.le_refl _) _).alloc (by omega) _⟩
theorem laid3 (w : World) (o0 o1 o2 : Obj) : (((w.alloc o0).alloc o1).alloc o2).heap[w.heap.size]? = some o0 ∧ (((w.alloc o0).alloc o1).alloc o2).heap[w.heap.size + 1]? = some o1 ∧ (((w.alloc o0).alloc o1).alloc o2).heap[w.heap.size + 1 + 1]? = some o2 ∧
    (((w.alloc o0).alloc o1).alloc o2).heap.size = w.heap.size + 3 ∧ Below w.heap.size w (((w.alloc o0).alloc o1).alloc o2) := by
  obtain ⟨h0, h1, hs, hb⟩ := laid2 w o0 o1
  exact ⟨(Below.heap_alloc _ _ _ (by omega)).trans h0, (Below.heap_alloc _ _ _ (by omega)).trans h1, by have := heap_alloc_new ((w.alloc o0).alloc o1) o2; rw [hs] at this; exact this, (size_alloc _ _).trans (by omega), hb.alloc (by omega) _⟩
theorem laid4 (w : World) (o0 o1 o2 o3 : Obj) : ((((w.alloc o0).alloc o1).alloc o2).alloc o3).heap[w.heap.size]? = some o0 ∧ ((((w.alloc o0).alloc o1).alloc o2).alloc o3).heap[w.heap.size + 1]? = some o1 ∧
    ((((w.alloc o0).alloc o1).alloc o2).alloc o3).heap[w.heap.size + 1 + 1]? = some o2 ∧ ((((w.alloc o0).alloc o1).alloc o2).alloc o3).heap[w.heap.size + 1 + 1 + 1]? = some o3 ∧ ((((w.alloc o0).alloc o1).alloc o2).alloc o3).heap.size = w.heap.size + 4 ∧
    Below w.heap.size w ((((w.alloc o0).alloc o1).alloc o2).alloc o3) := by
  obtain ⟨h0, h1, h2, hs, hb⟩ := laid3 w o0 o1 o2
  exact ⟨(Below.heap_alloc _ _ _ (by omega)).trans h0, (Below.heap_alloc _ _ _ (by omega)).trans h1, (Below.heap_alloc _ _ _ (by omega)).trans h2, by have := heap_alloc_new (((w.alloc o0).alloc o1).alloc o2) o3; rw [hs] at this; exact this, (size_alloc _ _).trans (by omega), hb.alloc (by omega) _⟩

theorem blk_facts1 {w : World} {g : Nat} {t : TypeId} {a0 : Value} (h : Blk w g t #[a0]) : w.cell? ⟨g, 0, none⟩ = some a0 ∧ w.frozen? ⟨g, 0, none⟩ = false ∧ g < w.heap.size := ⟨h.cell 0, h.frozen 0, h.lt⟩
theorem own_base {w : World} {B B' : Nat} {e : TypeId} {size n : Nat} {v : Value} {xs : List Value} (h : w.ownsRow B e size v n xs) (hb : B' ≤ B) : w.ownsRow B' e size v n xs := by
  obtain ⟨h0, h⟩ := h
  refine ⟨h0, ?_⟩
  rcases h with h | ⟨g, cap, cur, hv, hg, h⟩
  · exact .inl h
  · exact .inr ⟨g, cap, cur, hv, by omega, h⟩
theorem below_block {B : Nat} {w w' : World} (h : Below B w w') (hB : B ≤ w.heap.size) {a : Addr} (ha : a.block < B) : a.block < w'.heap.size := Nat.lt_of_lt_of_le (Nat.lt_of_lt_of_le ha hB) h.size
/-- a row of cells that lies below a bound -/
def RowB (B : Nat) (w : World) (v : Value) (l : List Value) : Prop :=
  ∃ A c, v = .slice A l.length c ∧ (0 < l.length → ∃ a, A = some a ∧ a.block < B ∧ ∀ j u, l[j]? = some u → w.cell? (a.add j) = some u)
theorem RowB.below {B C : Nat} {w w' : World} {v : Value} {l : List Value} (h : RowB B w v l) (hb : Below C w w') (hC : B ≤ C) : RowB B w' v l := by
  obtain ⟨A, c, h1, h2⟩ := h
  refine ⟨A, c, h1, fun hp => ?_⟩
  obtain ⟨a, h3, h4, h5⟩ := h2 hp
  exact ⟨a, h3, h4, fun j u hu => (hb.cell (p := a.add j) (by rw [addr_add_block]; omega)).trans (h5 j u hu)⟩
theorem RowB.rowA {B : Nat} {w : World} {v : Value} {l : List Value} (h : RowB B w v l) (hB : B ≤ w.heap.size) : RowA w v l := by
  obtain ⟨A, c, h1, h2⟩ := h
  refine ⟨A, c, h1, fun hp => ?_⟩
  obtain ⟨a, h3, h4, h5⟩ := h2 hp
  exact ⟨a, h3, by omega, h5⟩
theorem RowA.rowB {w : World} {v : Value} {l : List Value} (h : RowA w v l) : RowB w.heap.size w v l := h
theorem RowB.mono {B C : Nat} {w : World} {v : Value} {l : List Value} (h : RowB B w v l) (hC : B ≤ C) : RowB C w v l := by
  obtain ⟨A, c, h1, h2⟩ := h
  refine ⟨A, c, h1, fun hp => ?_⟩
  obtain ⟨a, h3, h4, h5⟩ := h2 hp
  exact ⟨a, h3, by omega, h5⟩
/-- rows of rows that lie below a bound -/
def RdB (B : Nat) (w : World) (v : Value) (U : List (List Value)) : Prop :=
  ∃ A c, v = .slice A U.length c ∧ (0 < U.length → ∃ a, A = some a ∧ a.block < B ∧ ∀ j l, U[j]? = some l → ∃ x, w.cell? (a.add j) = some x ∧ RowB B w x l)
theorem RdB.below {B C : Nat} {w w' : World} {v : Value} {U : List (List Value)} (h : RdB B w v U) (hb : Below C w w') (hC : B ≤ C) : RdB B w' v U := by
  obtain ⟨A, c, h1, h2⟩ := h
  refine ⟨A, c, h1, fun hp => ?_⟩
  obtain ⟨a, h3, h4, h5⟩ := h2 hp
  refine ⟨a, h3, h4, fun j l hu => ?_⟩
  obtain ⟨x, h6, h7⟩ := h5 j l hu
  exact ⟨x, (hb.cell (p := a.add j) (by rw [addr_add_block]; omega)).trans h6, h7.below hb hC⟩
theorem RdB.mono {B C : Nat} {w : World} {v : Value} {U : List (List Value)} (h : RdB B w v U) (hC : B ≤ C) : RdB C w v U := by
  obtain ⟨A, c, h1, h2⟩ := h
  refine ⟨A, c, h1, fun hp => ?_⟩
  obtain ⟨a, h3, h4, h5⟩ := h2 hp
  exact ⟨a, h3, by omega, fun j l hu => by
    obtain ⟨x, h6, h7⟩ := h5 j l hu
    exact ⟨x, h6, h7.mono hC⟩⟩
theorem RdR.b {w : World} {v : Value} {U : List (List Value)} (h : RdR w v U) : RdB w.heap.size w v U := h
theorem RdB.r {B : Nat} {w : World} {v : Value} {U : List (List Value)} (h : RdB B w v U) (hB : B ≤ w.heap.size) : RdR w v U := h.mono hB
def zV (l : List Int) : List Value := l.map fun n => .int .i64 n
theorem zV_len (l : List Int) : (zV l).length = l.length := by simp [zV]
theorem zV_at {l : List Int} {k : Nat} {x : Int} (h : l[k]? = some x) : (zV l)[k]? = some (.int .i64 x) := by simp [zV, h]
theorem zV_nat (l : List Nat) : zV (l.map fun n : Nat => (n : Int)) = intV l := by unfold zV intV; rw [List.map_map]; rfl
end Go.Proofs.Ytfmpmblhndnbeaa
