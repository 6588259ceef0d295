/-
  Order: the closure that goes down the uses: what is kept.
-/
import Derived.Test.YtfmpmblhndnbeaaOwG
namespace Go.Proofs.Ytfmpmblhndnbeaa
open Go.RowKit Go.Shelf Go.Proofs.Ytfmpmblhndnbeaa.Od
set_option maxRecDepth 100000

def metV (n : Nat) (M : Nat → Bool) : List Value := (List.range n).map fun j => .bool (M j)
theorem metV_at {n x : Nat} (M : Nat → Bool) (h : x < n) : (metV n M)[x]? = some (.bool (M x)) := by
  unfold metV; rw [List.getElem?_map, List.getElem?_range h]; rfl
theorem metV_add {n x : Nat} (M : Nat → Bool) : (metV n M).set x (.bool true) = metV n (madd M x) := by
  refine List.ext_getElem? fun j => ?_
  rw [List.getElem?_set]
  unfold metV madd
  by_cases hj : j < n
  · rw [List.getElem?_map, List.getElem?_map, List.getElem?_range hj]
    by_cases e : x = j
    · subst e; simp [hj]
    · have : (j == x) = false := by simp; omega
      simp [e, this]
  · have h1 : (List.range n)[j]? = none := List.getElem?_eq_none (by simp; omega)
    rw [List.getElem?_map, List.getElem?_map, h1]
    by_cases e : x = j
    · subst e; simp [hj]
    · simp [e]
theorem metV_none (n : Nat) : metV n nomet = List.replicate n (.bool false) := by
  unfold metV nomet
  rw [List.map_const', List.length_range]
/-- how many are not met -/
def unm (n : Nat) (M : Nat → Bool) : Nat := (List.range n).countP fun j => !M j
theorem unm_le {n : Nat} {M M' : Nat → Bool} (h : ∀ j, M j = true → M' j = true) : unm n M' ≤ unm n M := by
  unfold unm
  refine List.countP_mono_left fun j _ hj => ?_
  cases hM : M j with
  | false => rfl
  | true => rw [h j hM] at hj; cases hj
theorem unm_add {n x : Nat} {M : Nat → Bool} (hx : x < n) (h : M x = false) : unm n (madd M x) < unm n M := by
  unfold unm
  have key : ∀ l : List Nat, x ∈ l → (l.countP fun j => !madd M x j) < l.countP fun j => !M j := by
    intro l
    induction l with
    | nil => intro h; cases h
    | cons a l ih =>
      intro hm
      rw [List.countP_cons, List.countP_cons]
      have le : (l.countP fun j => !madd M x j) ≤ l.countP fun j => !M j := List.countP_mono_left fun j _ hj => by
        cases hM : M j with
        | false => rfl
        | true => rw [(madd_iff M x j).2 (.inr hM)] at hj; cases hj
      by_cases e : a = x
      · subst e
        rw [(madd_iff M a a).2 (.inl rfl), h]; simp; omega
      · have h1 := ih (by rcases List.mem_cons.1 hm with h | h; exact absurd h.symm e; exact h)
        have h2 : madd M x a = M a := by unfold madd; simp [e]
        rw [h2]; omega
  exact key _ (List.mem_range.2 hx)
theorem unm_all (n : Nat) : unm n nomet = n := by
  unfold unm nomet
  exact (List.countP_eq_length.2 (fun _ _ => rfl)).trans List.length_range

/-- the closure's own value -/
def reachV (bm bt br bo : Nat) : Value := .func (.func 32) #[] #[.pointer (some ⟨bm, 0, none⟩), .pointer (some ⟨bt, 0, none⟩), .pointer (some ⟨br, 0, none⟩), .pointer (some ⟨bo, 0, none⟩)]
structure Sep (T bt bm mm br bo Bd : Nat) : Prop where
  t1 : T ≤ mm
  t2 : T ≤ bo
  m1 : mm ≠ bt
  m2 : mm ≠ bm
  m3 : mm ≠ br
  m4 : mm ≠ bo
  o1 : bo ≠ bt
  o2 : bo ≠ bm
  o3 : bo ≠ br
  d1 : bt < Bd
  d2 : bm < Bd
  d3 : mm < Bd
  d4 : br < Bd
  d5 : bo < Bd
  d6 : T ≤ Bd
/-- what lies: the uses, what is met, the closure, what is told -/
structure St (T bt bm mm br bo Bd n : Nat) (vt : Value) (to : Uses) (M : Nat → Bool) (told : List Nat) (w : World) : Prop where
  tb : Blk w bt 22 #[vt]
  rd : RdB T w vt (to.map intV)
  mb : Blk w bm 50 #[.slice (some ⟨mm, 0, none⟩) n n]
  mt : Blk w mm 4 (metV n M).toArray
  rb : Blk w br 38 #[reachV bm bt br bo]
  ob : ∃ v, Blk w bo 30 #[v] ∧ w.ownsRow Bd 3 1 v told.length (intV told)
/-- what is told was met, each once -/
structure Tld (n : Nat) (M : Nat → Bool) (told : List Nat) : Prop where
  nd : told.Nodup
  met : ∀ j ∈ told, M j = true
  lt : ∀ j ∈ told, j < n
theorem Tld.len {n : Nat} {M : Nat → Bool} {told : List Nat} (h : Tld n M told) : told.length ≤ n := by
  have := h.nd.length_le_of_subset (l₂ := List.range n) (List.subset_def.2 (fun {a} ha => List.mem_range.2 (h.lt a ha)))
  simpa using this
theorem Tld.more {n : Nat} {to : Uses} {M M' : Nat → Bool} {told l a : List Nat} (h : Tld n M told) (d : DFL to M l M' a) (hv : Valid to) (hn : to.length = n) (hl : ∀ x ∈ l, x < n) : Tld n M' (told ++ a) where
  nd := List.nodup_append.2 ⟨h.nd, d.nodup, fun x hx y hy e => by
    subst e
    have := d.new x hy
    rw [h.met x hx] at this; cases this⟩
  met j hj := by
    rcases List.mem_append.1 hj with hj | hj
    · exact (d.mem j).2 (.inl (h.met j hj))
    · exact (d.mem j).2 (.inr hj)
  lt j hj := by
    rcases List.mem_append.1 hj with hj | hj
    · exact h.lt j hj
    · have := d.lt hv (fun x hx => by rw [hn]; exact hl x hx) j hj
      rw [hn] at this; exact this
theorem Tld.add {n : Nat} {M : Nat → Bool} {told : List Nat} (h : Tld n M told) (x : Nat) : Tld n (madd M x) told where
  nd := h.nd
  met j hj := (madd_iff M x j).2 (.inr (h.met j hj))
  lt := h.lt
/-- x is marked -/
theorem St.mark {T bt bm mm br bo Bd n : Nat} {vt : Value} {to : Uses} {M : Nat → Bool} {told : List Nat} {w : World} (h : St T bt bm mm br bo Bd n vt to M told w) (s : Sep T bt bm mm br bo Bd) (x : Nat) :
    St T bt bm mm br bo Bd n vt to (madd M x) told (w.setCell ⟨mm, x, none⟩ (.bool true)) ∧ Chg (fun g => g = mm ∨ g = bo ∨ Bd ≤ g) w (w.setCell ⟨mm, x, none⟩ (.bool true)) := by
  obtain ⟨v, o1, o2⟩ := h.ob
  refine ⟨{
    tb := h.tb.far (p := ⟨mm, x, none⟩) (Ne.symm s.m1) _
    rd := h.rd.below ((Below.refl T w).setCell (p := ⟨mm, x, none⟩) s.t1 _) (Nat.le_refl _)
    mb := h.mb.far (p := ⟨mm, x, none⟩) (Ne.symm s.m2) _
    mt := by
      have := heap_setCell_same w mm x _ _ (.bool true) h.mt
      rw [List.setIfInBounds_toArray, metV_add] at this
      exact this
    rb := h.rb.far (p := ⟨mm, x, none⟩) (Ne.symm s.m3) _
    ob := ⟨v, o1.far (p := ⟨mm, x, none⟩) (Ne.symm s.m4) _, own_keepv o2 fun g hg => heap_setCell_other _ _ _ _ (by have := (own_more o2 g hg).1; have := s.d3; show g ≠ mm; omega)⟩ }, (Chg.refl _ w).setCell (.inr (.inl rfl)) _⟩
/-- x is told -/
theorem St.tell {T bt bm mm br bo Bd n : Nat} {vt v v' : Value} {to : Uses} {M : Nat → Bool} {told : List Nat} {w w2 : World} {x : Nat} {o : Obj} (h : St T bt bm mm br bo Bd n vt to M told w) (s : Sep T bt bm mm br bo Bd)
    (hb : Blk w bo 30 #[v]) (ho : w.ownsRow Bd 3 1 v told.length (intV told)) (hg : (w.alloc o).grownBy w2 v.ownBlock) (hown : w2.ownsRow Bd 3 1 v' (told.length + 1) (intV (told ++ [x]))) :
    St T bt bm mm br bo Bd n vt to M (told ++ [x]) (w2.setCell ⟨bo, 0, none⟩ v') ∧ Chg (fun g => g = mm ∨ g = bo ∨ Bd ≤ g) w (w2.setCell ⟨bo, 0, none⟩ v') := by
  have hne : ∀ g, g < Bd → some g ≠ v.ownBlock := fun g hg e => by have := (own_more ho g e.symm).1; omega
  have hlt : ∀ g, v.ownBlock = some g → Bd ≤ g := fun g hg => (own_more ho g hg).1
  have hbo := hb.lt
  have hw2 := hg.size
  have hsz : (w.alloc o).heap.size = w.heap.size + 1 := size_alloc w o
  have keep : ∀ {g : Nat} {t : TypeId} {cs : Array Value}, Blk w g t cs → g < Bd → bo ≠ g → Blk (w2.setCell ⟨bo, 0, none⟩ v') g t cs := fun hk h1 h2 => ((hk.alloc o).grown hg (hne _ h1)).far (p := ⟨bo, 0, none⟩) (Ne.symm h2) _
  have hC : Chg (fun g => g = mm ∨ g = bo ∨ Bd ≤ g) w (w2.setCell ⟨bo, 0, none⟩ v') := (((Chg.refl _ w).alloc o).grown hg (fun k hk => .inr (.inr (.inr (hlt k hk))))).setCell (.inr (.inr (.inl rfl))) _
  have hT : Below (min T w.heap.size) w (w2.setCell ⟨bo, 0, none⟩ v') := hC.toBelow (by omega) (fun k hk h => by
    have := s.t1; have := s.t2; have := s.d6
    omega)
  refine ⟨{
    tb := keep h.tb s.d1 s.o1
    rd := ?_
    mb := keep h.mb s.d2 s.o2
    mt := keep h.mt s.d3 (Ne.symm s.m4)
    rb := keep h.rb s.d4 s.o3
    ob := ⟨v', ?_, by rw [List.length_append]; exact own_keepv hown fun g hg => heap_setCell_other _ _ _ _ (by have := (own_more hown g hg).1; have := s.d5; show g ≠ bo; omega)⟩ }, hC⟩
  · have := s.t1
    have := h.mt.lt
    exact h.rd.below (hT.mono (by omega : T ≤ min T w.heap.size)) (Nat.le_refl _)
  · have := heap_setCell_same w2 bo 0 _ _ v' ((hb.alloc o).grown hg (hne _ s.d5))
    exact this
end Go.Proofs.Ytfmpmblhndnbeaa
