/-
  Order: the document's groups: what is told so far, as it lies.
-/
import Derived.Test.YtfmpmblhndnbeaaOxA
import Derived.Test.YtfmpmblhndnbeaaOwD
namespace Go.Proofs.Ytfmpmblhndnbeaa
open Go.RowKit Go.Shelf Go.ChangeShapes Go.WideShapes Go.Proofs.Ytfmpmblhndnbeaa.Od
set_option maxRecDepth 100000

/-- told, and the groups that are told -/
structure MS (Z : Nat) (l : List (List Nat)) (tv ov : Value) (W : World) : Prop where
  told : W.ownsRow Z 3 1 tv l.flatten.length (intV l.flatten)
  out : ∃ vs, W.ownsRow Z 30 1 ov l.length vs ∧ ∀ (i : Nat) (x : Value) (g : List Nat), vs[i]? = some x → l[i]? = some g → RowP (fun b => Z ≤ b ∧ b < W.heap.size ∧ ov.ownBlock ≠ some b ∧ tv.ownBlock ≠ some b) W x (intV g)
  sep : ∀ b, tv.ownBlock = some b → ov.ownBlock ≠ some b
theorem MS.nil (Z : Nat) (W : World) : MS Z [] (.slice none 0 0) (.slice none 0 0) W where
  told := World.ownsRow_nil _ _ _ _
  out := ⟨[], World.ownsRow_nil _ _ _ _, fun i x g h => by simp at h⟩
  sep b h := by cases h
theorem MS.below {Z : Nat} {l : List (List Nat)} {tv ov : Value} {W W' : World} (h : MS Z l tv ov W) (hb : Below W.heap.size W W') : MS Z l tv ov W' where
  told := own_keepv h.told fun g hg => hb.block g (own_more h.told g hg).2
  out := by
    obtain ⟨vs, h1, h2⟩ := h.out
    refine ⟨vs, own_keepv h1 fun g hg => hb.block g (own_more h1 g hg).2, fun i x g hx hg => ?_⟩
    exact (h2 i x g hx hg).keep fun b hb2 => ⟨⟨hb2.1, Nat.lt_of_lt_of_le hb2.2.1 hb.size, hb2.2.2⟩, hb.block b hb2.2.1⟩
  sep := h.sep
theorem MS.rd {Z : Nat} {l : List (List Nat)} {tv ov : Value} {W : World} (h : MS Z l tv ov W) : RdU W ov l := by
  obtain ⟨vs, h1, h2⟩ := h.out
  exact GI.rd (T := Z) ⟨vs, h1, fun i x g hx hg => (h2 i x g hx hg).keep fun b hb => ⟨⟨hb.1, hb.2.1, hb.2.2.1⟩, rfl⟩⟩
/-- a group is told -/
theorem MS.push {Z Y : Nat} {l : List (List Nat)} {tv ov gv tv' ov' : Value} {W W2 W3 : World} {g : List Nat} {vs : List Value} {o : Obj} (h : MS Z l tv ov W) (hY : ∀ b, gv.ownBlock = some b → Y ≤ b) (hZY : Z ≤ Y)
    (hlow : (∀ b, tv.ownBlock = some b → b < Y) ∧ ∀ b, ov.ownBlock = some b → b < Y) (hg : W.ownsRow Y 3 1 gv g.length (intV g))
    (h1 : W.ownsRow Z 30 1 ov l.length vs) (h2 : ∀ (i : Nat) (x : Value) (g : List Nat), vs[i]? = some x → l[i]? = some g → RowP (fun b => Z ≤ b ∧ b < W.heap.size ∧ ov.ownBlock ≠ some b ∧ tv.ownBlock ≠ some b) W x (intV g))
    (hg2 : (W.alloc o).grownBy W2 ov.ownBlock) (hown2 : W2.ownsRow Z 30 1 ov' (l.length + 1) (vs ++ [gv])) (hat2 : ov'.ownBlock = ov.ownBlock ∨ ov'.ownBlock = some (W.alloc o).heap.size)
    (hg3 : W2.grownBy W3 tv.ownBlock) (hown3 : W3.ownsRow Z 3 1 tv' (l.flatten.length + g.length) (intV l.flatten ++ intV g)) (hat3 : tv'.ownBlock = tv.ownBlock ∨ tv'.ownBlock = some W2.heap.size) : MS Z (l ++ [g]) tv' ov' W3 := by
  have hsz : (W.alloc o).heap.size = W.heap.size + 1 := size_alloc W o
  have hs2 := hg2.size
  have hs3 := hg3.size
  have hvl : vs.length = l.length := by rw [h1.1, Nat.mul_one]
  have hov := own_more h1
  have htv := own_more h.told
  have hgv := own_more hg
  have hov2 := own_more hown2
  have keep : ∀ b, b < W.heap.size → ov.ownBlock ≠ some b → tv.ownBlock ≠ some b → W3.heap[b]? = W.heap[b]? := fun b x1 x2 x3 =>
    (hg3.block b (by omega) (fun e => x3 e.symm)).trans ((hg2.block b (by omega) (fun e => x2 e.symm)).trans (heap_alloc_old W o x1))
  have hsep2 : ∀ b, tv.ownBlock = some b → ov'.ownBlock ≠ some b := fun b hb e => by
    rcases hat2 with h3 | h3
    · rw [h3] at e; exact h.sep b hb e
    · rw [h3] at e; injection e with e; have := (htv b hb).2; omega
  have hsep3 : ∀ b, tv'.ownBlock = some b → ov'.ownBlock ≠ some b := fun b hb e => by
    rcases hat3 with h3 | h3
    · rw [h3] at hb; exact hsep2 b hb e
    · rw [h3] at hb; injection hb with hb; have := (hov2 b e).2; omega
  have key : ∀ (x : Value) (m : List Nat), RowP (fun b => Z ≤ b ∧ b < W.heap.size ∧ ov.ownBlock ≠ some b ∧ tv.ownBlock ≠ some b) W x (intV m) → RowP (fun b => Z ≤ b ∧ b < W3.heap.size ∧ ov'.ownBlock ≠ some b ∧ tv'.ownBlock ≠ some b) W3 x (intV m) := fun x m hx =>
    hx.keep fun b hb => ⟨⟨hb.1, by omega, fun e => by
      rcases hat2 with h3 | h3
      · rw [h3] at e; exact hb.2.2.1 e
      · rw [h3] at e; injection e with e; omega, fun e => by
      rcases hat3 with h3 | h3
      · rw [h3] at e; exact hb.2.2.2 e
      · rw [h3] at e; injection e with e; omega⟩, keep b hb.2.1 hb.2.2.1 hb.2.2.2⟩
  exact {
    told := by
      rw [List.flatten_append, List.length_append, show intV (l.flatten ++ [g].flatten) = intV l.flatten ++ intV g by simp [intV]]
      simpa using hown3
    out := by
      refine ⟨vs ++ [gv], ?_, fun i x m hx hm => ?_⟩
      · rw [List.length_append]
        exact own_keepv hown2 fun b hb => hg3.block b (hov2 b hb).2 (fun e => hsep2 b e.symm hb)
      · rcases Nat.lt_or_ge i vs.length with hlt | hge
        · rw [List.getElem?_append_left hlt] at hx
          rw [List.getElem?_append_left (by omega)] at hm
          exact key x m (h2 i x m hx hm)
        · rw [List.getElem?_append_right hge] at hx
          rw [List.getElem?_append_right (by omega), ← hvl] at hm
          cases e : i - vs.length with
          | zero =>
            rw [e] at hx hm
            simp at hx hm
            subst hx hm
            refine key gv g ((own_rowP hg).keep fun b hb => ⟨⟨by have := (hgv b hb).1; omega, (hgv b hb).2, fun e2 => ?_, fun e2 => ?_⟩, rfl⟩)
            · have := hlow.2 b e2; have := hY b hb; omega
            · have := hlow.1 b e2; have := hY b hb; omega
          | succ n => rw [e] at hx; simp at hx
    sep := hsep3 }
end Go.Proofs.Ytfmpmblhndnbeaa
