/-
  Order: uses, turned: what is kept.
-/
import Derived.Test.YtfmpmblhndnbeaaOwE
namespace Go.Proofs.Ytfmpmblhndnbeaa
open Go.RowKit Go.Shelf Go.Proofs.Ytfmpmblhndnbeaa.Od
set_option maxRecDepth 100000

/-- turned so far: things below k, and of k's uses p -/
structure TurnP (u : Uses) (L k p : Nat) (us : Uses) : Prop where
  len : us.length = u.length
  cnt : ∀ x y, x < u.length → y < u.length → (us.getD y []).count x = if x < k then (u.getD x []).count y else if x = k then ((u.getD k []).take p).count y else 0
  lt : ∀ l ∈ us, ∀ x ∈ l, x < u.length
  sz : ∀ l ∈ us, l.length ≤ k * L + p
theorem TurnP.start (u : Uses) (L : Nat) : TurnP u L 0 0 (List.replicate u.length []) where
  len := by simp
  cnt x y hx hy := by
    have : (List.replicate u.length ([] : List Nat)).getD y [] = [] := by
      rw [List.getD_eq_getElem?_getD, List.getElem?_replicate, if_pos hy]; rfl
    rw [this]; simp
  lt l hl x hx := by rw [(List.mem_replicate.1 hl).2] at hx; cases hx
  sz l hl := by rw [(List.mem_replicate.1 hl).2]; simp
theorem getD_set (us : Uses) (y z : Nat) (l : List Nat) (hy : y < us.length) : (us.set y l).getD z [] = if y = z then l else us.getD z [] := by
  rw [List.getD_eq_getElem?_getD, List.getD_eq_getElem?_getD, List.getElem?_set]
  by_cases e : y = z
  · subst e; simp [hy]
  · simp [e]
theorem mem_set' {us : Uses} {y : Nat} {l m : List Nat} (h : m ∈ us.set y l) : m ∈ us ∨ m = l := by
  rcases List.mem_or_eq_of_mem_set h with h | h
  · exact .inl h
  · exact .inr h
theorem TurnP.step {u us : Uses} {L k p y : Nat} {l m : List Nat} (h : TurnP u L k p us) (hk : u[k]? = some l) (hp : l[p]? = some y) (hy : us[y]? = some m) : TurnP u L k (p + 1) (us.set y (m ++ [k])) := by
  have hyl : y < us.length := (List.getElem?_eq_some_iff.1 hy).1
  have hm : m ∈ us := List.mem_iff_getElem?.2 ⟨y, hy⟩
  have hkl : k < u.length := (List.getElem?_eq_some_iff.1 hk).1
  have hgd : us.getD y [] = m := by rw [List.getD_eq_getElem?_getD, hy]; rfl
  have hgk : u.getD k [] = l := by rw [List.getD_eq_getElem?_getD, hk]; rfl
  exact {
    len := by rw [List.length_set, h.len]
    cnt := fun x z hx hz => by
      have h1 := h.cnt x z hx hz
      rw [getD_set us y z _ hyl, hgk, List.take_add_one, hp]
      rw [hgk] at h1
      by_cases e : y = z
      · subst e
        rw [if_pos rfl, List.count_append, ← hgd, h1]
        by_cases e2 : x = k
        · subst e2; simp
        · have : [k].count x = 0 := List.count_eq_zero.2 (by simp [e2])
          rw [this]
          simp only [e2, if_false, Nat.add_zero]
      · rw [if_neg e, h1, List.count_append]
        have : (Option.toList (some y)).count z = 0 := List.count_eq_zero.2 (by simp; omega)
        rw [this, Nat.add_zero]
    lt := fun q hq x hx => by
      rcases mem_set' hq with hq | rfl
      · exact h.lt q hq x hx
      · rcases List.mem_append.1 hx with hx | hx
        · exact h.lt m hm x hx
        · rw [List.mem_singleton.1 hx]; exact hkl
    sz := fun q hq => by
      rcases mem_set' hq with hq | rfl
      · have := h.sz q hq; omega
      · have := h.sz m hm; rw [List.length_append]; simp; omega }
theorem TurnP.next {u us : Uses} {L k : Nat} {l : List Nat} (h : TurnP u L k l.length us) (hk : u[k]? = some l) (hl : l.length ≤ L) : TurnP u L (k + 1) 0 us where
  len := h.len
  cnt x z hx hz := by
    rw [h.cnt x z hx hz]
    have hgk : u.getD k [] = l := by rw [List.getD_eq_getElem?_getD, hk]; rfl
    by_cases e : x = k
    · subst e; rw [hgk]; simp
    · by_cases e2 : x < k
      · rw [if_pos e2, if_pos (by omega)]
      · rw [if_neg e2, if_neg e, if_neg (by omega)]; simp
  lt := h.lt
  sz q hq := by have := h.sz q hq; rw [Nat.add_mul]; omega
theorem TurnP.done {u us : Uses} {L : Nat} (h : TurnP u L u.length 0 us) : Turn u us where
  len := h.len
  cnt x y hx hy := by rw [h.cnt x y hx hy, if_pos hx]
  lt := h.lt

theorem add_blk (g j : Nat) : (⟨g, 0, none⟩ : Addr).add j = ⟨g, j, none⟩ := by unfold Addr.add; split <;> simp_all
/-! ### rows of rows that grow -/
/-- each row of its own block, all from B on; bo is the block of all -/
structure Rows (B : Nat) (w : World) (bo : Nat) (vs : List Value) (us : Uses) : Prop where
  len : vs.length = us.length
  blk : Blk w bo 30 vs.toArray
  row : ∀ (j : Nat) (v : Value) (l : List Nat), vs[j]? = some v → us[j]? = some l → w.ownsRow B 3 1 v l.length (intV l)
  dis : ∀ (i j : Nat) (a b : Value) (g : Nat), vs[i]? = some a → vs[j]? = some b → a.ownBlock = some g → b.ownBlock = some g → i = j
  bo : bo < B
theorem intO (l : List Nat) : ∀ v ∈ intV l, v.oneCell' = true := fun v hv => by
  unfold intV at hv
  obtain ⟨n, _, rfl⟩ := List.mem_map.1 hv
  rfl
theorem Rows.made {w : World} {n : Nat} {w' : World} (B : Nat) (hw : w' = w.alloc (.cells (List.replicate n (.slice none 0 0)).toArray 30)) (hB : B = w.heap.size + 1) : Rows B w' w.heap.size (List.replicate n (.slice none 0 0)) (List.replicate n []) where
  len := by simp
  blk := by rw [hw]; exact heap_alloc_new w _
  row j v l h1 h2 := by
    rw [List.getElem?_replicate] at h1 h2
    split at h1
    · rename_i hj
      rw [if_pos hj] at h2
      injection h1 with h1; injection h2 with h2
      subst h1 h2
      exact World.ownsRow_nil _ _ _ _
    · cases h1
  dis i j a b g h1 h2 h3 _ := by
    rw [List.getElem?_replicate] at h1
    split at h1
    · injection h1 with h1; subst h1; cases h3
    · cases h1
  bo := by omega
theorem Rows.below {B C : Nat} {w w' : World} {bo : Nat} {vs : List Value} {us : Uses} (h : Rows B w bo vs us) (hb : Below C w w') (hC : w.heap.size ≤ C) : Rows B w' bo vs us where
  len := h.len
  blk := h.blk.below hb (by have := h.blk.lt; omega)
  row j v l h1 h2 := own_keepv (h.row j v l h1 h2) (fun g hg => hb.block g (by have := (own_cells (h.row j v l h1 h2) g hg).2.1; omega))
  dis := h.dis
  bo := h.bo
theorem own_more {w : World} {B n : Nat} {v : Value} {l : List Value} {e : TypeId} (h : w.ownsRow B e 1 v n l) : ∀ g, v.ownBlock = some g → B ≤ g ∧ g < w.heap.size := fun g hg => ⟨(own_cells h g hg).1, (own_cells h g hg).2.1⟩
/-- a row gets one more number behind -/
theorem Rows.put {B : Nat} {w w2 : World} {bo : Nat} {vs : List Value} {us : Uses} {y : Nat} {v v' : Value} {l : List Nat} {x : Nat} {o : Obj} (h : Rows B w bo vs us) (hy : vs[y]? = some v) (hl : us[y]? = some l)
    (hg : (w.alloc o).grownBy w2 v.ownBlock) (hown : w2.ownsRow B 3 1 v' (l.length + 1) (intV (l ++ [x]))) (hat : v'.ownBlock = v.ownBlock ∨ v'.ownBlock = some (w.alloc o).heap.size) :
    Rows B (w2.setCell ⟨bo, y, none⟩ v') bo (vs.set y v') (us.set y (l ++ [x])) := by
  have hbo := h.blk.lt
  have hbB := h.bo
  have hyl : y < vs.length := (List.getElem?_eq_some_iff.1 hy).1
  have hyu : y < us.length := (List.getElem?_eq_some_iff.1 hl).1
  have hsz : (w.alloc o).heap.size = w.heap.size + 1 := size_alloc w o
  have hrow := h.row y v l hy hl
  have hnb : v.ownBlock ≠ some bo := fun e => by have := (own_more hrow bo e).1; omega
  have hb2 : Blk w2 bo 30 vs.toArray := (Blk.alloc h.blk o).grown hg (fun e => hnb e.symm)
  have keep : ∀ (j : Nat) (a : Value) (m : List Nat), j ≠ y → vs[j]? = some a → us[j]? = some m → (w2.setCell ⟨bo, y, none⟩ v').ownsRow B 3 1 a m.length (intV m) := by
    intro j a m hj h1 h2
    have hr := h.row j a m h1 h2
    refine own_keepv hr fun g hgb => ?_
    obtain ⟨hg1, hg2⟩ := own_more hr g hgb
    rw [heap_setCell_other _ _ _ _ (by show g ≠ bo; omega), hg.block g (by omega) (fun e => hj (h.dis j y a v g h1 hy hgb e.symm))]
    exact heap_alloc_old w o hg2
  exact {
    len := by rw [List.length_set, List.length_set, h.len]
    blk := by
      have := heap_setCell_same w2 bo y _ _ v' hb2
      rw [List.setIfInBounds_toArray] at this
      exact this
    row := fun j a m h1 h2 => by
      rw [List.getElem?_set] at h1 h2
      by_cases e : y = j
      · subst e
        rw [if_pos rfl, if_pos hyl] at h1
        rw [if_pos rfl, if_pos hyu] at h2
        injection h1 with h1; injection h2 with h2
        subst h1 h2
        rw [List.length_append]
        refine own_keepv hown fun g hgb => heap_setCell_other _ _ _ _ ?_
        have := (own_more hown g hgb).1
        show g ≠ bo; omega
      · rw [if_neg e] at h1 h2
        exact keep j a m (Ne.symm e) h1 h2
    dis := fun i j a b g h1 h2 h3 h4 => by
      rw [List.getElem?_set] at h1 h2
      have old : ∀ (q : Nat) (c : Value), vs[q]? = some c → c.ownBlock = some g → g < w.heap.size := fun q c hq hc => by
        have hqu : q < us.length := by rw [← h.len]; exact (List.getElem?_eq_some_iff.1 hq).1
        exact (own_more (h.row q c _ hq (List.getElem?_eq_getElem hqu)) g hc).2
      by_cases e : y = i
      · subst e
        rw [if_pos rfl, if_pos hyl] at h1
        injection h1 with h1; subst h1
        by_cases e2 : y = j
        · exact e2
        · rw [if_neg e2] at h2
          have := old j b h2 h4
          rcases hat with hat | hat
          · rw [hat] at h3; exact h.dis y j v b g hy h2 h3 h4
          · rw [hat] at h3; injection h3 with h3; omega
      · rw [if_neg e] at h1
        by_cases e2 : y = j
        · subst e2
          rw [if_pos rfl, if_pos hyl] at h2
          injection h2 with h2; subst h2
          have := old i a h1 h3
          rcases hat with hat | hat
          · rw [hat] at h4; exact h.dis i y a v g h1 hy h3 h4
          · rw [hat] at h4; injection h4 with h4; omega
        · rw [if_neg e2] at h2
          exact h.dis i j a b g h1 h2 h3 h4
    bo := h.bo }
theorem Rows.blk_put {B : Nat} {w w2 : World} {bo : Nat} {vs : List Value} {us : Uses} {y : Nat} {v : Value} {l : List Nat} {o : Obj} (h : Rows B w bo vs us) (hy : vs[y]? = some v) (hl : us[y]? = some l)
    (hg : (w.alloc o).grownBy w2 v.ownBlock) : w2.cell? ⟨bo, y, none⟩ = some v ∧ w2.frozen? ⟨bo, y, none⟩ = false ∧ bo < w2.heap.size := by
  have hbB := h.bo
  have hnb : v.ownBlock ≠ some bo := fun e => by have := (own_more (h.row y v l hy hl) bo e).1; omega
  have hb2 : Blk w2 bo 30 vs.toArray := (Blk.alloc h.blk o).grown hg (fun e => hnb e.symm)
  exact ⟨by rw [hb2.cell]; simpa using hy, hb2.frozen y, hb2.lt⟩
theorem Rows.put_below {C B : Nat} {w0 w w2 : World} {bo : Nat} {vs : List Value} {us : Uses} {y : Nat} {v v' : Value} {l : List Nat} {o : Obj} (h : Rows B w bo vs us) (hy : vs[y]? = some v) (hl : us[y]? = some l)
    (hg : (w.alloc o).grownBy w2 v.ownBlock) (hb : Below C w0 w) (hC : C ≤ bo) : Below C w0 (w2.setCell ⟨bo, y, none⟩ v') := by
  have hbo := h.blk.lt
  have hbB := h.bo
  have hsz : (w.alloc o).heap.size = w.heap.size + 1 := size_alloc w o
  exact ((hb.alloc (by omega) o).grown hg (by omega) (fun k hk => by have := (own_more (h.row y v l hy hl) k hk).1; omega)).setCell hC v'
/-- rows that grew, read -/
theorem Rows.rd {B : Nat} {w : World} {bo : Nat} {vs : List Value} {us : Uses} (h : Rows B w bo vs us) (c : Nat) : RdB w.heap.size w (.slice (some ⟨bo, 0, none⟩) us.length c) (us.map intV) := by
  refine ⟨_, c, by rw [List.length_map], fun _ => ⟨_, rfl, h.blk.lt, fun j l hl => ?_⟩⟩
  rw [List.getElem?_map] at hl
  cases hu : us[j]? with
  | none => rw [hu] at hl; cases hl
  | some m =>
    rw [hu] at hl
    injection hl with hl
    subst hl
    have hjl : j < vs.length := by rw [h.len]; exact (List.getElem?_eq_some_iff.1 hu).1
    have hv := List.getElem?_eq_getElem hjl
    refine ⟨vs[j], ?_, own_rowA (h.row j _ m hv hu)⟩
    rw [add_blk, h.blk.cell]
    simp
end Go.Proofs.Ytfmpmblhndnbeaa
