/-
  Order: groups as they lie while they are found; sorted.
-/
import Derived.Test.YtfmpmblhndnbeaaOwM
import Derived.Test.YtfmpmblhndnbeaaOwH
namespace Go.Proofs.Ytfmpmblhndnbeaa
open Go.RowKit Go.Shelf Go.Proofs.Ytfmpmblhndnbeaa.Od
set_option maxRecDepth 100000

/-- a row of cells in a block of X -/
def RowP (X : Nat → Prop) (w : World) (v : Value) (l : List Value) : Prop :=
  ∃ A c, v = .slice A l.length c ∧ (0 < l.length → ∃ a, A = some a ∧ X a.block ∧ ∀ j u, l[j]? = some u → w.cell? (a.add j) = some u)
theorem RowP.keep {X Y : Nat → Prop} {w w' : World} {v : Value} {l : List Value} (h : RowP X w v l) (hX : ∀ g, X g → Y g ∧ w'.heap[g]? = w.heap[g]?) : RowP Y w' v l := by
  obtain ⟨A, c, h1, h2⟩ := h
  refine ⟨A, c, h1, fun hp => ?_⟩
  obtain ⟨a, h3, h4, h5⟩ := h2 hp
  exact ⟨a, h3, (hX _ h4).1, fun j u hu => (World.cell?_of_block (w := w) (a := a.add j) (by rw [addr_add_block]; exact (hX _ h4).2)).trans (h5 j u hu)⟩
theorem RowP.a {X : Nat → Prop} {w : World} {v : Value} {l : List Value} (h : RowP X w v l) (hX : ∀ g, X g → g < w.heap.size) : RowA w v l := by
  obtain ⟨A, c, h1, h2⟩ := h
  refine ⟨A, c, h1, fun hp => ?_⟩
  obtain ⟨a, h3, h4, h5⟩ := h2 hp
  exact ⟨a, h3, hX _ h4, h5⟩
theorem RowP.one {X : Nat → Prop} {w : World} {v : Value} {l : List Value} (h : RowP X w v l) : v.oneCell' = true := by
  obtain ⟨A, c, h1, _⟩ := h
  rw [h1]; rfl
theorem own_rowP {w : World} {base n : Nat} {v : Value} {l : List Value} {e : TypeId} (h : w.ownsRow base e 1 v n l) : RowP (fun g => v.ownBlock = some g) w v l := by
  have hc := fun g hg => h.cells (g := g) hg
  have hl := h.1
  rcases h.2 with ⟨rfl, h0⟩ | ⟨g, cap, cur, rfl, _⟩
  · exact ⟨none, 0, by rw [hl, h0], fun hp => by omega⟩
  · refine ⟨_, _, by rw [hl, Nat.mul_one], fun _ => ⟨⟨g, 0, none⟩, rfl, rfl, fun j u hu => ?_⟩⟩
    exact hc g rfl j u hu
/-- groups as they lie: a row of the call's own, of rows in other blocks from T on -/
def GI (T : Nat) (w : World) (v : Value) (G : List (List Nat)) : Prop :=
  ∃ vs, w.ownsRow T 30 1 v G.length vs ∧ ∀ (i : Nat) (x : Value) (l : List Nat), vs[i]? = some x → G[i]? = some l → RowP (fun g => T ≤ g ∧ g < w.heap.size ∧ v.ownBlock ≠ some g) w x (intV l)
theorem GI.nil (T : Nat) (w : World) : GI T w (.slice none 0 0) [] := ⟨[], World.ownsRow_nil _ _ _ _, fun i x l h => by simp at h⟩
theorem GI.keep {T : Nat} {w w' : World} {v : Value} {G : List (List Nat)} (h : GI T w v G) (hs : w.heap.size ≤ w'.heap.size) (hk : ∀ g, T ≤ g → g < w.heap.size → w'.heap[g]? = w.heap[g]?) : GI T w' v G := by
  obtain ⟨vs, h1, h2⟩ := h
  refine ⟨vs, own_keepv h1 fun g hg => hk g (own_more h1 g hg).1 (own_more h1 g hg).2, fun i x l hx hl => ?_⟩
  exact (h2 i x l hx hl).keep fun g hg => ⟨⟨hg.1, by omega, hg.2.2⟩, hk g hg.1 hg.2.1⟩
theorem GI.shape {T : Nat} {w : World} {v : Value} {G : List (List Nat)} (h : GI T w v G) : ∃ a c, v = .slice a G.length c := by
  obtain ⟨vs, h1, _⟩ := h
  exact own_shape h1
/-- one more group -/
theorem GI.push {T : Nat} {w w2 : World} {v v' x : Value} {G : List (List Nat)} {g : List Nat} {vs : List Value} {o : Obj} (h1 : w.ownsRow T 30 1 v G.length vs) (h2 : ∀ (i : Nat) (x : Value) (l : List Nat), vs[i]? = some x → G[i]? = some l → RowP (fun g => T ≤ g ∧ g < w.heap.size ∧ v.ownBlock ≠ some g) w x (intV l))
    (hx : RowP (fun g => T ≤ g ∧ g < w.heap.size ∧ v.ownBlock ≠ some g) w x (intV g)) (hg : (w.alloc o).grownBy w2 v.ownBlock) (hown : w2.ownsRow T 30 1 v' (G.length + 1) (vs ++ [x])) (hat : v'.ownBlock = v.ownBlock ∨ v'.ownBlock = some (w.alloc o).heap.size) : GI T w2 v' (G ++ [g]) := by
  have hsz : (w.alloc o).heap.size = w.heap.size + 1 := size_alloc w o
  have hs := hg.size
  have key : ∀ (y : Value) (l : List Nat), RowP (fun g => T ≤ g ∧ g < w.heap.size ∧ v.ownBlock ≠ some g) w y (intV l) → RowP (fun g => T ≤ g ∧ g < w2.heap.size ∧ v'.ownBlock ≠ some g) w2 y (intV l) := by
    intro y l hy
    refine hy.keep fun z hz => ⟨⟨hz.1, by omega, fun e => ?_⟩, ?_⟩
    · rcases hat with hat | hat
      · rw [hat] at e; exact hz.2.2 e
      · rw [hat] at e; injection e with e; omega
    · exact (hg.block z (by omega) (fun e => hz.2.2 e.symm)).trans (heap_alloc_old w o hz.2.1)
  have hvl : vs.length = G.length := by rw [h1.1, Nat.mul_one]
  refine ⟨vs ++ [x], by rw [List.length_append]; exact hown, fun i y l hy hl => ?_⟩
  rcases Nat.lt_or_ge i vs.length with hlt | hge
  · rw [List.getElem?_append_left hlt] at hy
    rw [List.getElem?_append_left (by omega)] at hl
    exact key y l (h2 i y l hy hl)
  · rw [List.getElem?_append_right hge] at hy
    rw [List.getElem?_append_right (by omega), ← hvl] at hl
    cases e : i - vs.length with
    | zero =>
      rw [e] at hy hl
      simp at hy hl
      subst hy hl
      exact key _ _ hx
    | succ n => rw [e] at hy; simp at hy
/-- groups that lie, read -/
theorem GI.rd {T : Nat} {w : World} {v : Value} {G : List (List Nat)} (h : GI T w v G) : RdU w v G := by
  obtain ⟨vs, h1, h2⟩ := h
  have hvl : vs.length = G.length := by rw [h1.1, Nat.mul_one]
  obtain ⟨A, c, e, hp⟩ := own_rowA h1
  rw [hvl] at e hp
  refine ⟨A, c, e, fun h0 => ?_⟩
  obtain ⟨a, e1, e2, e3⟩ := hp h0
  refine ⟨a, e1, e2, fun j l hl => ?_⟩
  have hj : j < vs.length := by rw [hvl]; exact (List.getElem?_eq_some_iff.1 hl).1
  have hv := List.getElem?_eq_getElem hj
  exact ⟨vs[j], e3 j _ hv, (h2 j _ l hv hl).a fun g hg => hg.2.1⟩

abbrev VL := Value × List Nat
def nthV (ds : List VL) (i : Nat) : VL := (ds[i]?).getD (.slice none 0 0, [])
theorem swoL (ds : List VL) : Go.Sort.SWO (ltOf fun i j : Nat => cmpL (nthV ds i).2 (nthV ds j).2) where
  irrefl x := by unfold ltOf; rw [cmpL_lt]; simp [List.lt_irrefl]
  trans x y z h1 h2 := by
    unfold ltOf at *; rw [cmpL_lt] at *
    exact decide_eq_true (List.lt_trans (of_decide_eq_true h1) (of_decide_eq_true h2))
  ntrans x y z h1 h2 := by
    unfold ltOf at *; rw [cmpL_lt] at *
    exact decide_eq_false (lt_ntrans (of_decide_eq_false h1) (of_decide_eq_false h2))
theorem nthV_range (ds : List VL) : (List.range ds.length).map (nthV ds) = ds := by
  refine List.ext_getElem? fun i => ?_
  rw [List.getElem?_map]
  by_cases hi : i < ds.length
  · rw [List.getElem?_range hi]
    simp [nthV, hi]
  · rw [List.getElem?_eq_none (by simpa using hi), List.getElem?_eq_none (by simpa using hi)]
    rfl

set_option maxHeartbeats 1000000 in
theorem ow_sortRows (T : Nat) (v : Value) (w : World) (G : List (List Nat)) (hG : GI T w v G) (hl : G.length ≤ 1000) (hll : ∀ g ∈ G, g.length ≤ 1000000) :
    Calls Try.prog 28 #[v, .func (.func 29) #[] #[]] w fun e w' => e = .returned (.tuple #[]) ∧ ∃ H, H.Perm G ∧ H.Pairwise (fun a b => ¬ b < a) ∧ GI T w' v H ∧ Chg (fun g => v.ownBlock = some g) w w' := by
  obtain ⟨vs, ho, hr⟩ := hG
  have ho' := ho
  rcases ho.2 with ⟨rfl, h0⟩ | ⟨g, cap, cur, rfl, hB, hg, hcap, hmax, hcs, htake⟩
  · refine (AnyF.slices_SortFunc_none (L := { Try.sortRows with }) none 0 _ w).mono ?_
    rintro e w' ⟨rfl, rfl⟩
    have hl0 : G = [] := List.eq_nil_of_length_eq_zero h0
    subst hl0
    exact ⟨rfl, [], List.Perm.refl _, List.Pairwise.nil, GI.nil _ _, Chg.refl _ _⟩
  · have hvl : vs.length = G.length := by rw [ho.1, Nat.mul_one]
    obtain ⟨ds, hds⟩ : ∃ ds : List VL, ds = vs.zip G := ⟨_, rfl⟩
    have hdl : ds.length = G.length := by rw [hds, List.length_zip]; omega
    have hd1 : ds.map (·.1) = vs := by rw [hds]; exact List.map_fst_zip (by omega)
    have hd2 : ds.map (·.2) = G := by rw [hds]; exact List.map_snd_zip (by omega)
    have hrow : ∀ i, RowP (fun b => T ≤ b ∧ b < w.heap.size ∧ b ≠ g) w (nthV ds i).1 (intV (nthV ds i).2) ∧ (nthV ds i).2.length ≤ 1000000 := by
      intro i
      by_cases hi : i < ds.length
      · have e : ds[i]? = some ds[i] := List.getElem?_eq_getElem hi
        have e0 : nthV ds i = ds[i] := by unfold nthV; rw [e]; rfl
        rw [e0]
        have e1 : vs[i]? = some ds[i].1 := by rw [← hd1, List.getElem?_map, e]; rfl
        have e2 : G[i]? = some ds[i].2 := by rw [← hd2, List.getElem?_map, e]; rfl
        exact ⟨(hr i _ _ e1 e2).keep fun b hb => ⟨⟨hb.1, hb.2.1, fun e => hb.2.2 (by rw [e]; rfl)⟩, rfl⟩, hll _ (List.mem_iff_getElem?.2 ⟨i, e2⟩)⟩
      · have e : ds[i]? = none := List.getElem?_eq_none (by omega)
        have e0 : nthV ds i = (.slice none 0 0, []) := by unfold nthV; rw [e]; rfl
        rw [e0]
        exact ⟨⟨none, 0, rfl, fun h => by simp [intV] at h⟩, by simp⟩
    obtain ⟨d, hd⟩ : ∃ d : List Nat, d = List.range ds.length := ⟨_, rfl⟩
    have hdn : d.length = G.length := by rw [hd]; simpa using hdl
    have hmap : d.map (fun i => (nthV ds i).1) = vs := by
      have := congrArg (List.map (·.1)) (nthV_range ds)
      rw [List.map_map, hd1] at this
      rw [hd]; exact this
    have hH : Go.Sort.Holds (fun i : Nat => (nthV ds i).1) w g 0 d.toArray := holds_row _ hg (by rw [hmap, hdn]; rw [Nat.mul_one] at htake; exact htake)
    have hglt := (Array.getElem?_eq_some_iff.1 hg).1
    have hcon := Any.slices_SortFunc (α := Nat) Try.sortRows (fun i : Nat => (nthV ds i).1) (fun i => (hrow i).1.one) (fun i j => cmpL (nthV ds i).2 (nthV ds j).2) (swoL ds) 29 #[] g 0 cap d.toArray w
      (enters_of Try.func29 (by kernel_rfl) rfl) (fun m os dk _ i j => by
        obtain ⟨_, c2⟩ := sorted_heap (fun i : Nat => (nthV ds i).1) (n := m) (os := os) dk hg
        have hw : sortWorld (fun i : Nat => (nthV ds i).1) w g 0 m dk os = Go.Sort.grow (Go.Sort.putRow (fun i : Nat => (nthV ds i).1) (Go.Sort.ahead w m) g 0 dk) os := rfl
        rw [hw]
        have rd : ∀ i, RowA (Go.Sort.grow (Go.Sort.putRow (fun i : Nat => (nthV ds i).1) (Go.Sort.ahead w m) g 0 dk) os) (nthV ds i).1 (intV (nthV ds i).2) := fun i =>
          ((hrow i).1.keep (Y := fun b => b < (Go.Sort.grow (Go.Sort.putRow (fun i : Nat => (nthV ds i).1) (Go.Sort.ahead w m) g 0 dk) os).heap.size) fun b hb => ⟨Nat.lt_of_lt_of_le hb.2.1 c2.size, c2.block b hb.2.1 hb.2.2⟩).a fun _ h => h
        refine (ow_compare _ _ _ _ _ (rd i) (rd j) (hrow i).2 (hrow j).2).mono ?_
        rintro e w' ⟨rfl, rfl⟩
        exact ⟨rfl, 0, #[], by rw [Go.Sort.grow_empty]; rfl⟩) hH hglt (by rw [List.size_toArray, hdn]; omega)
    rw [List.size_toArray, hdn] at hcon
    refine hcon.mono ?_
    rintro e w' ⟨rfl, d', n, os, hp, hs, rfl⟩
    obtain ⟨p1, -, p2⟩ := hp
    obtain ⟨c1, c2⟩ := sorted_heap (fun i : Nat => (nthV ds i).1) (n := n) (os := os) d' hg
    have hw : sortWorld (fun i : Nat => (nthV ds i).1) w g 0 n d' os = Go.Sort.grow (Go.Sort.putRow (fun i : Nat => (nthV ds i).1) (Go.Sort.ahead w n) g 0 d') os := rfl
    rw [hw]
    have hsz : d'.size = G.length := by rw [p1, List.size_toArray, hdn]
    have hperm : d'.toList.Perm d := by
      have h1 : d'.extract 0 G.length = d' := by rw [← hsz]; exact Array.extract_size
      have h2 : d.toArray.extract 0 G.length = d.toArray := by rw [← hdn, ← List.size_toArray]; exact Array.extract_size
      rw [h1, h2] at p2
      exact p2
    have hHp : (d'.toList.map fun i => (nthV ds i).2).Perm G := by
      have h3 := hperm.map (fun i => (nthV ds i).2)
      have h4 := congrArg (List.map (·.2)) (nthV_range ds)
      rw [List.map_map, hd2] at h4
      rw [hd] at h3
      exact h3.trans (List.Perm.of_eq h4)
    have hput := putCells_take (fun i : Nat => (nthV ds i).1) d' cur (by omega)
    refine ⟨rfl, d'.toList.map fun i => (nthV ds i).2, hHp, ?_, ⟨d'.toList.map fun i => (nthV ds i).1, ?_, ?_⟩, c2.mono fun z _ e => by rw [e]; rfl⟩
    · rw [List.pairwise_map, List.pairwise_iff_getElem]
      intro i j hi hj hij
      have hi' : i < d'.size := by simpa using hi
      have hj' : j < d'.size := by simpa using hj
      have := hs i j (Nat.zero_le _) hij (by omega)
      rw [getElem!_pos d' i hi', getElem!_pos d' j hj'] at this
      unfold ltOf at this
      rw [cmpL_lt] at this
      have := of_decide_eq_false this
      simpa using this
    · have hll : (d'.toList.map fun i => (nthV ds i).2).length = G.length := by simpa using hsz
      rw [hll]
      refine ⟨by simp [hsz], .inr ⟨g, cap, _, rfl, hB, c1, hcap, hmax, by rw [hput.1]; exact hcs, ?_⟩⟩
      have := hput.2
      rw [hsz] at this
      rw [Nat.mul_one, this]
    · intro i x l hx hl
      rw [List.getElem?_map] at hx hl
      cases hi : d'.toList[i]? with
      | none => rw [hi] at hx; cases hx
      | some q =>
        rw [hi] at hx hl
        injection hx with hx; injection hl with hl
        subst hx hl
        exact (hrow q).1.keep fun b hb => ⟨⟨hb.1, Nat.lt_of_lt_of_le hb.2.1 c2.size, fun e => hb.2.2 (by injection e with e; exact e.symm)⟩, c2.block b hb.2.1 hb.2.2⟩
end Go.Proofs.Ytfmpmblhndnbeaa
