/-
  Order: a line, a ring, a chain: the mathematics of the law, its rows.
-/
import Derived.Test.YtfmpmblhndnbeaaOxD
namespace Go.Proofs.Ytfmpmblhndnbeaa
open Go.RowKit Go.Shelf Go.ChangeShapes Go.WideShapes Go.Proofs.Ytfmpmblhndnbeaa.Od
set_option maxRecDepth 100000

def lineF (i k x : Nat) : List Nat := if x < i then List.range x else if x = i then List.range k else []
def lineU (n i k : Nat) : Uses := (List.range n).map (lineF i k)
def ringF (n i x : Nat) : List Nat := if x < i then [(x + 1) % n] else []
def ringU (n i : Nat) : Uses := (List.range n).map (ringF n i)
theorem map_at {α : Type} {n x : Nat} (f : Nat → α) (h : x < n) : ((List.range n).map f)[x]? = some (f x) := by
  rw [List.getElem?_map, List.getElem?_range h]; rfl
theorem map_set {α : Type} {n y : Nat} (f g : Nat → α) (h : ∀ x, x ≠ y → f x = g x) : ((List.range n).map f).set y (g y) = (List.range n).map g := by
  refine List.ext_getElem? fun j => ?_
  rw [List.getElem?_set]
  by_cases hj : j < n
  · rw [map_at f hj, map_at g hj]
    by_cases e : y = j
    · subst e; simp [hj]
    · rw [if_neg e, h j (Ne.symm e)]
  · have h1 : ∀ f : Nat → α, ((List.range n).map f)[j]? = none := fun f => List.getElem?_eq_none (by simp; omega)
    rw [h1 f, h1 g]
    by_cases e : y = j
    · subst e; simp [hj]
    · simp [e]
theorem map_eq {α : Type} {n : Nat} {f g : Nat → α} (h : ∀ x, x < n → f x = g x) : (List.range n).map f = (List.range n).map g :=
  List.map_congr_left fun x hx => h x (List.mem_range.1 hx)
theorem lineU_len (n i k : Nat) : (lineU n i k).length = n := by simp [lineU]
theorem ringU_len (n i : Nat) : (ringU n i).length = n := by simp [ringU]
theorem lineU_start (n : Nat) : lineU n 0 0 = List.replicate n [] := by
  unfold lineU
  rw [show lineF 0 0 = fun _ => ([] : List Nat) from funext fun x => by unfold lineF; simp]
  rw [List.map_const', List.length_range]
theorem ringU_start (n : Nat) : ringU n 0 = List.replicate n [] := by
  unfold ringU
  rw [show ringF n 0 = fun _ => ([] : List Nat) from funext fun x => by unfold ringF; simp]
  rw [List.map_const', List.length_range]
theorem lineU_step (n i k : Nat) : (lineU n i k).set i (List.range k ++ [k]) = lineU n i (k + 1) := by
  unfold lineU
  have e : List.range k ++ [k] = lineF i (k + 1) i := by unfold lineF; simp [List.range_succ]
  rw [e]
  exact map_set _ _ fun x hx => by unfold lineF; simp [hx]
theorem lineU_next (n i : Nat) : lineU n i i = lineU n (i + 1) 0 := by
  unfold lineU
  refine map_eq fun x _ => ?_
  unfold lineF
  by_cases h : x < i
  · rw [if_pos h, if_pos (by omega)]
  · by_cases e : x = i
    · subst e; simp
    · rw [if_neg h, if_neg e, if_neg (by omega)]; simp
theorem lineU_at {n i k x : Nat} (hx : x < n) : (lineU n i k)[x]? = some (lineF i k x) := map_at _ hx
theorem ringU_at {n i x : Nat} (hx : x < n) : (ringU n i)[x]? = some (ringF n i x) := map_at _ hx
theorem ringU_step (n i : Nat) : (ringU n i).set i [(i + 1) % n] = ringU n (i + 1) := by
  unfold ringU
  have e : [(i + 1) % n] = ringF n (i + 1) i := by unfold ringF; simp
  rw [e]
  exact map_set _ _ fun x hx => by
    unfold ringF
    by_cases h : x < i
    · rw [if_pos h, if_pos (by omega)]
    · rw [if_neg h, if_neg (by omega)]
theorem line_use {n x y : Nat} (h : Use (lineU n n 0) x y) : y < x ∧ x < n := by
  obtain ⟨l, h1, h2⟩ := h
  have hx : x < n := by have := (List.getElem?_eq_some_iff.1 h1).1; rwa [lineU_len] at this
  rw [lineU_at hx] at h1
  injection h1 with h1
  unfold lineF at h1
  rw [if_pos hx] at h1
  rw [← h1] at h2
  exact ⟨List.mem_range.1 h2, hx⟩
theorem line_groups (n : Nat) : groups (lineU n n 0) = ones n :=
  ((groups_one (u := lineU n n 0) (fun i j h => by have := line_use h; rw [lineU_len]; omega) (ones_ok n (lineU_len n n 0) (fun i j h => (line_use h).1)))).symm
theorem ring_use {n x y : Nat} (h : Use (ringU n n) x y) : x < n ∧ y = (x + 1) % n := by
  obtain ⟨l, h1, h2⟩ := h
  have hx : x < n := by have := (List.getElem?_eq_some_iff.1 h1).1; rwa [ringU_len] at this
  rw [ringU_at hx] at h1
  injection h1 with h1
  unfold ringF at h1
  rw [if_pos hx] at h1
  rw [← h1] at h2
  exact ⟨hx, List.mem_singleton.1 h2⟩
theorem ring_groups {n : Nat} (h0 : 0 < n) : groups (ringU n n) = [List.range n] := by
  have hv : Valid (ringU n n) := fun i j h => by
    obtain ⟨_, rfl⟩ := ring_use h
    rw [ringU_len]
    exact Nat.mod_lt _ h0
  exact (groups_one hv (ring_ok n h0 (ringU_len n n) (fun i hi => ⟨_, ringU_at hi, by unfold ringF; rw [if_pos hi]; simp⟩) hv)).symm
theorem chain_use {n : Nat} (h0 : 0 < n) (x y : Nat) : Use ((ringU n n).set (n - 1) []) x y ↔ y = x + 1 ∧ y < n := by
  constructor
  · rintro ⟨l, h1, h2⟩
    rw [List.getElem?_set] at h1
    split at h1
    · rename_i e
      split at h1
      · injection h1 with h1; subst h1; cases h2
      · cases h1
    · rename_i e
      obtain ⟨hx, hy⟩ := ring_use ⟨l, h1, h2⟩
      rw [Nat.mod_eq_of_lt (by omega)] at hy
      omega
  · rintro ⟨rfl, hy⟩
    refine ⟨[(x + 1) % n], ?_, by rw [Nat.mod_eq_of_lt hy]; simp⟩
    rw [List.getElem?_set, if_neg (by omega), ringU_at (by omega)]
    unfold ringF
    rw [if_pos (by omega)]
theorem chain_groups {n : Nat} (h0 : 0 < n) : groups ((ringU n n).set (n - 1) []) = backs n := by
  have hl : ((ringU n n).set (n - 1) []).length = n := by rw [List.length_set, ringU_len]
  exact (groups_one (fun i j h => by have := (chain_use h0 i j).1 h; rw [hl]; omega) (backs_ok n hl (fun i j => chain_use h0 i j))).symm

/-! ### rows -/
theorem rows_keep {B : Nat} {w w' : World} {bo : Nat} {vs : List Value} {us : Uses} (h : Rows B w bo vs us) {P : Nat → Prop} (hc : Chg P w w') (hb : ¬ P bo) (hP : ∀ (j : Nat) (v : Value) (g : Nat), vs[j]? = some v → v.ownBlock = some g → ¬ P g) : Rows B w' bo vs us where
  len := h.len
  blk := h.blk.chg hc hb
  row j v l h1 h2 := own_keepv (h.row j v l h1 h2) (fun g hg => hc.block g (own_more (h.row j v l h1 h2) g hg).2 (hP j v g h1 hg))
  dis := h.dis
  bo := h.bo
theorem rows_own {B : Nat} {w : World} {bo : Nat} {vs : List Value} {us : Uses} (h : Rows B w bo vs us) {j g : Nat} {v : Value} (hv : vs[j]? = some v) (hg : v.ownBlock = some g) : B ≤ g ∧ g < w.heap.size := by
  have hj : j < us.length := by rw [← h.len]; exact (List.getElem?_eq_some_iff.1 hv).1
  exact own_more (h.row j v _ hv (List.getElem?_eq_getElem hj)) g hg
theorem rows_but {B : Nat} {w w' : World} {bo x : Nat} {vs : List Value} {us : Uses} (h : Rows B w bo vs us) (hc : Chg (fun b => b = x ∨ w.heap.size ≤ b) w w') (hx : x ≠ bo) (hxB : x < B) : Rows B w' bo vs us :=
  rows_keep h hc (fun e => by have := h.blk.lt; omega) (fun j v g h1 h2 e => by have := rows_own h h1 h2; omega)
/-- a row is laid anew -/
theorem rows_lay {B : Nat} {w w2 : World} {bo : Nat} {vs : List Value} {us : Uses} {y : Nat} {v' : Value} {l : List Nat} (h : Rows B w bo vs us) (hb : Below w.heap.size w w2) (hown : w2.ownsRow B 3 1 v' l.length (intV l)) (hf : ∀ g, v'.ownBlock = some g → w.heap.size ≤ g) :
    Rows B (w2.setCell ⟨bo, y, none⟩ v') bo (vs.set y v') (us.set y l) := by
  have hbo := h.blk.lt
  have hbB := h.bo
  have hb2 : Blk w2 bo 30 vs.toArray := h.blk.below hb hbo
  exact {
    len := by rw [List.length_set, List.length_set, h.len]
    blk := by
      have := heap_setCell_same w2 bo y _ _ v' hb2
      rw [List.setIfInBounds_toArray] at this
      exact this
    row := fun j a m h1 h2 => by
      rw [List.getElem?_set] at h1 h2
      by_cases e : y = j
      · subst e
        rw [if_pos rfl] at h1 h2
        split at h1
        · split at h2
          · injection h1 with h1; injection h2 with h2
            subst h1 h2
            refine own_keepv hown fun g hgb => heap_setCell_other _ _ _ _ ?_
            have := (own_more hown g hgb).1
            show g ≠ bo; omega
          · cases h2
        · cases h1
      · rw [if_neg e] at h1 h2
        have hr := h.row j a m h1 h2
        refine own_keepv hr fun g hgb => ?_
        obtain ⟨hg1, hg2⟩ := own_more hr g hgb
        rw [heap_setCell_other _ _ _ _ (by show g ≠ bo; omega)]
        exact hb.block g hg2
    dis := fun i j a b g h1 h2 h3 h4 => by
      rw [List.getElem?_set] at h1 h2
      by_cases e : y = i
      · by_cases e2 : y = j
        · omega
        · rw [if_pos e] at h1
          rw [if_neg e2] at h2
          split at h1
          · injection h1 with h1; subst h1
            have := hf g h3
            have := (rows_own h h2 h4).2
            omega
          · cases h1
      · by_cases e2 : y = j
        · rw [if_neg e] at h1
          rw [if_pos e2] at h2
          split at h2
          · injection h2 with h2; subst h2
            have := hf g h4
            have := (rows_own h h1 h3).2
            omega
          · cases h2
        · rw [if_neg e] at h1
          rw [if_neg e2] at h2
          exact h.dis i j a b g h1 h2 h3 h4
    bo := h.bo }
end Go.Proofs.Ytfmpmblhndnbeaa
