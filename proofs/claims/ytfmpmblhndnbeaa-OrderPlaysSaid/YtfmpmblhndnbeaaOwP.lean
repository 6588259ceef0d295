/-
  Order: the groups are found from behind: what is kept from round to round.
-/
import Derived.Test.YtfmpmblhndnbeaaOwO
namespace Go.Proofs.Ytfmpmblhndnbeaa
open Go.RowKit Go.Shelf Go.Proofs.Ytfmpmblhndnbeaa.Od
set_option maxRecDepth 100000

structure KF (n Z ct : Nat) (au : Option Addr) (u us : Uses) (a : List Nat) (av : Value) (k : Nat) (w2 : World) (T : Nat → Bool) (G : List (List Nat)) (v : Value) (W : World) : Prop where
  s0 : S0 Z Z (Z + 2) (Z + 1) n (.slice au n ct) us T W
  fnd : Fnd u us T G
  gb : Blk W (Z + 4) 22 #[v]
  gi : GI (Z + 8) W v G
  ub : Blk W (Z + 3) 41 #[usedV (Z + 2) Z]
  ab : Blk W (Z + 5) 30 #[av]
  row : RowB Z W av (intV a)
  suf : ∀ z ∈ a.drop k, T z = true
  bl : Below Z w2 W
  sz : Z = w2.heap.size
  big : Z + 8 ≤ W.heap.size
def KJ (n Z ct : Nat) (au : Option Addr) (u us : Uses) (a : List Nat) (av : Value) (w2 : World) (k : Nat) (W : World) : Prop := ∃ T G v, KF n Z ct au u us a av k w2 T G v W
/-- behind the call, behind the sort -/
structure KM (n Z ct : Nat) (au : Option Addr) (us : Uses) (q : Nat) (T T' : Nat → Bool) (g0 g : List Nat) (vg : Value) (W W' : World) : Prop where
  d : DFL us T [q] T' g0
  p : g.Perm g0
  s0 : S0 Z Z (Z + 2) (Z + 1) n (.slice au n ct) us T' W'
  own : W'.ownsRow W.heap.size 3 1 vg g.length (intV g)
  ch : Chg (fun b => b = Z + 1 ∨ W.heap.size ≤ b) W W'
section
variable {n Z ct : Nat} {au : Option Addr} {u us : Uses} {a : List Nat} {av : Value} {w2 : World} {k : Nat} {T T' : Nat → Bool} {G : List (List Nat)} {v : Value} {W W' : World}
theorem KF.keep (h : KF n Z ct au u us a av k w2 T G v W) {P : Nat → Prop} (hc : Chg P W W') (hP : ∀ g, P g → g = Z + 6 ∨ g = Z + 7) : KF n Z ct au u us a av k w2 T G v W' where
  s0 := h.s0.keep hc (fun g hg => by have := hP g hg; omega) (by have := h.big; omega)
  fnd := h.fnd
  gb := h.gb.chg hc (fun e => by have := hP _ e; omega)
  gi := h.gi.keep hc.size (fun g h1 h2 => hc.block g h2 (fun e => by have := hP _ e; omega))
  ub := h.ub.chg hc (fun e => by have := hP _ e; omega)
  ab := h.ab.chg hc (fun e => by have := hP _ e; omega)
  row := h.row.below (hc.toBelow (B := Z) (by have := h.big; omega) (fun k hk e => by have := hP _ e; omega)) (Nat.le_refl _)
  suf := h.suf
  bl := h.bl.trans (hc.toBelow (B := Z) (by have := h.big; omega) (fun k hk e => by have := hP _ e; omega))
  sz := h.sz
  big := Nat.le_trans h.big hc.size
theorem KJ.noRec : NoRec (Z + 7) (KJ n Z ct au u us a av w2 k) := fun W r r' h hl => by
  obtain ⟨T, G, v, f⟩ := h
  exact ⟨T, G, v, f.keep (P := fun g => g = Z + 7) ⟨rfl, rfl, rfl, by rw [World.putObj_size]; exact Nat.le_refl _, fun k hk hn => World.putObj_heap_other hn⟩ (fun g hg => .inr hg)⟩
theorem drop_split {l : List Nat} {k q : Nat} (h : l[k]? = some q) : l = l.take k ++ q :: l.drop (k + 1) ∧ l.drop k = q :: l.drop (k + 1) := by
  obtain ⟨hk, e⟩ := List.getElem?_eq_some_iff.1 h
  have h2 : l.drop k = q :: l.drop (k + 1) := by rw [List.drop_eq_getElem_cons hk, e]
  exact ⟨by rw [← h2, List.take_append_drop], h2⟩
/-- the other blocks behind it -/
theorem KF.mid (h : KF n Z ct au u us a av (k + 1) w2 T G v W) {q : Nat} {g0 g : List Nat} {vg : Value} (m : KM n Z ct au us q T T' g0 g vg W W') :
    Blk W' (Z + 4) 22 #[v] ∧ GI (Z + 8) W' v G ∧ Blk W' (Z + 3) 41 #[usedV (Z + 2) Z] ∧ Blk W' (Z + 5) 30 #[av] ∧ RowB Z W' av (intV a) ∧ Below Z w2 W' ∧ Z + 8 ≤ W'.heap.size := by
  have hb := h.big
  have no : ∀ g, g < W.heap.size → g ≠ Z + 1 → ¬ (g = Z + 1 ∨ W.heap.size ≤ g) := fun g h1 h2 e => by omega
  have bl : Below Z W W' := m.ch.toBelow (by omega) (fun k hk => no k (by omega) (by omega))
  exact ⟨h.gb.chg m.ch (no _ (by omega) (by omega)), h.gi.keep m.ch.size (fun g h1 h2 => m.ch.block g h2 (no g h2 (by omega))), h.ub.chg m.ch (no _ (by omega) (by omega)), h.ab.chg m.ch (no _ (by omega) (by omega)), h.row.below bl (Nat.le_refl _), h.bl.trans bl, Nat.le_trans hb m.ch.size⟩
theorem KF.stay (h : KF n Z ct au u us a av (k + 1) w2 T G v W) {q : Nat} {g0 g : List Nat} {vg : Value} (m : KM n Z ct au us q T T' g0 g vg W W') (hq : a[k]? = some q) (hg : ¬ 0 < g.length) : KJ n Z ct au u us a av w2 k W' := by
  obtain ⟨m1, m2, m3, m4, m5, m6, m7⟩ := h.mid m
  have hg0 : ¬ 0 < g0.length := by rw [← m.p.length_eq]; exact hg
  obtain ⟨f1, f2⟩ := h.fnd.same m.d hg0
  refine ⟨T', G, v, { s0 := m.s0, fnd := f1, gb := m1, gi := m2, ub := m3, ab := m4, row := m5, bl := m6, sz := h.sz, big := m7, suf := fun z hz => ?_ }⟩
  rw [(drop_split hq).2] at hz
  rcases List.mem_cons.1 hz with rfl | hz
  · exact m.d.shut.1 z (by simp)
  · rw [f2]; exact h.suf z hz
/-- what the groups' box is to hold -/
theorem KF.push (h : KF n Z ct au u us a av (k + 1) w2 T G v W) {q : Nat} {g0 g : List Nat} {vs : List Value} {vg v' : Value} {o : Obj} {w5 : World} (m : KM n Z ct au us q T T' g0 g vg W W') (hq : a[k]? = some q) (hg : 0 < g.length) (hup : g.Pairwise (· ≤ ·))
    (ht : ∀ i j, Use us i j ↔ Use u j i) (hl : us.length = u.length) (hvs : Valid us) (hp : Post u (fun _ => False) [] a) (hall : ∀ j, j ∈ a ↔ j < u.length)
    (h1 : W'.ownsRow (Z + 8) 30 1 v G.length vs) (h2 : ∀ (i : Nat) (x : Value) (l : List Nat), vs[i]? = some x → G[i]? = some l → RowP (fun g => Z + 8 ≤ g ∧ g < W'.heap.size ∧ v.ownBlock ≠ some g) W' x (intV l))
    (hgr : (W'.alloc o).grownBy w5 v.ownBlock) (hown : w5.ownsRow (Z + 8) 30 1 v' (G.length + 1) (vs ++ [vg])) (hat : v'.ownBlock = v.ownBlock ∨ v'.ownBlock = some (W'.alloc o).heap.size) : KJ n Z ct au u us a av w2 k (w5.setCell ⟨Z + 4, 0, none⟩ v') := by
  obtain ⟨m1, m2, m3, m4, m5, m6, m7⟩ := h.mid m
  have hb := h.big
  obtain ⟨vs0, ho0, _⟩ := h.gi
  have hvb : ∀ b, v.ownBlock = some b → Z + 8 ≤ b ∧ b < W.heap.size := own_more ho0
  have hgi : GI (Z + 8) w5 v' (G ++ [g]) := GI.push h1 h2 ((own_rowP m.own).keep fun b hb => by
    obtain ⟨x1, x2⟩ := own_more m.own b hb
    exact ⟨⟨by omega, x2, fun e => by have := (hvb b e).2; omega⟩, rfl⟩) hgr hown hat
  have hsz : (W'.alloc o).heap.size = W'.heap.size + 1 := size_alloc W' o
  have hs5 := hgr.size
  have hC : Chg (fun b => b = Z + 4 ∨ v.ownBlock = some b) W' (w5.setCell ⟨Z + 4, 0, none⟩ v') := (((Chg.refl _ W').alloc o).grown hgr (fun k hk => .inr (.inr hk))).setCell (.inr (.inl rfl)) _
  have no : ∀ b, b ≠ Z + 4 → b < Z + 8 → ¬ (b = Z + 4 ∨ v.ownBlock = some b) := fun b x1 x2 e => by
    rcases e with e | e
    · exact x1 e
    · have := (hvb b e).1; omega
  have bl : Below Z W' (w5.setCell ⟨Z + 4, 0, none⟩ v') := hC.toBelow (by omega) (fun k hk => no k (by omega) (by omega))
  refine ⟨T', G ++ [g], v', {
    s0 := m.s0.keep hC (fun b hb => by
      rcases hb with hb | hb
      · omega
      · have := (hvb b hb).1; omega) (by omega)
    fnd := h.fnd.push ht hl hvs hp hall (drop_split hq).1 h.suf m.d (by rw [← m.p.length_eq]; exact hg) m.p hup
    gb := by
      have := heap_setCell_same w5 (Z + 4) 0 _ _ v' ((m1.alloc o).grown hgr (fun e => by have := (hvb _ e.symm).1; omega))
      exact this
    gi := hgi.keep (by simp) (fun g x1 x2 => heap_setCell_other _ _ _ _ (by show g ≠ Z + 4; omega))
    ub := m3.chg hC (no _ (by omega) (by omega))
    ab := m4.chg hC (no _ (by omega) (by omega))
    row := m5.below bl (Nat.le_refl _)
    bl := m6.trans bl
    sz := h.sz
    big := by have := hC.size; omega
    suf := fun z hz => ?_ }⟩
  rw [(drop_split hq).2] at hz
  rcases List.mem_cons.1 hz with rfl | hz
  · exact m.d.shut.1 z (by simp)
  · exact (m.d.mem z).2 (.inl (h.suf z hz))
/-- the call of the closure -/
theorem KF.call (h : KF n Z ct au u us a av (k + 1) w2 T G v W) (hvs : Valid us) (hn : us.length = n) (hn2 : n ≤ 1000) (hlen : ∀ l ∈ us, l.length ≤ 1001000000) {q : Nat} (hq : q < n) :
    Calls Try.prog 31 #[.int .i64 (q : Nat), .pointer (some ⟨Z + 2, 0, none⟩), .pointer (some ⟨Z, 0, none⟩)] W fun e w' => ∃ T' g vg, e = .returned vg ∧ g.length ≤ 1000 ∧ KM n Z ct au us q T T' g g vg W w' := by
  refine (ow_used Z Z (Z + 2) (Z + 1) n ct au us hvs hn hn2 hlen T q W hq h.s0 (by have := h.big; omega)).mono ?_
  rintro e w' ⟨M', g, v', rfl, d, s, o, l, c⟩
  exact ⟨M', g, v', rfl, l, { d := d, p := .refl _, s0 := s, own := o, ch := c.mono fun i _ e => .inl e }⟩
theorem KM.sorted {q : Nat} {g0 g s : List Nat} {vg : Value} {W'' : World} (m : KM n Z ct au us q T T' g0 g vg W W') (hb : Z + 8 ≤ W.heap.size) (hp : s.Perm g) (ho : W''.ownsRow W.heap.size 3 1 vg s.length (intV s)) (hc : Chg (fun b => vg.ownBlock = some b) W' W'') : KM n Z ct au us q T T' g0 s vg W W'' where
  d := m.d
  p := hp.trans m.p
  s0 := m.s0.keep hc (fun b e => by have := (own_more m.own b e).1; omega) (by have := m.ch.size; omega)
  own := ho
  ch := m.ch.trans' hc fun b _ e => .inr (own_more m.own b e).1
end
end Go.Proofs.Ytfmpmblhndnbeaa
