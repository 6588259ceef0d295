/-
  Contracts of the code's functions, part 43.
-/
import Derived.Test.YtefldbbiajkbnaaGreatDoorDaAP
import Derived.Deep.Cut
import Derived.Deep.CutRange
import Derived.Deep.MidRow
/-
  Package scope: Check's look for what is misused.
-/
namespace Go.Proofs.YtefldbbiajkbnaaGreatDoor
open Go.RowKit Lx Tx Sx Go.Maps Go.WideMaps Go.Shelf
set_option maxRecDepth 100000

/-- what misused has laid before it goes through the expression -/
structure MisB (w : World) (co : Nat) (e : Ex) (pb fb : Nat) (V0 : Option Addr) (v0 nb : Nat) (wx : World) : Prop where
  n : nb = (boundE e).length
  lw : Below w.heap.size w wx
  hpb : Blk wx pb 140 #[.slice (some ⟨fb, 0, none⟩) 1 1]
  hfb : Blk wx fb 192 #[.slice V0 nb v0, .func (.func 128) #[.map (some (co + 2))] #[], .int .i64 90]
  nm : NmsIn (fun g => w.heap.size + 2 ≤ g ∧ g < wx.heap.size ∧ g ≠ pb ∧ g ≠ fb) wx (boundE e) V0
  ne : pb ≠ fb
  low : w.heap.size + 2 ≤ pb ∧ w.heap.size + 2 ≤ fb

theorem ek_mis : ∀ args w, (callFunc 129 args).run Tryz.prog w = .ok (.enter 129 args) w := enters_of Tryz.func129 (by kernel_rfl) rfl
def v0C (co : Nat) (V0 : Option Addr) (nb v0 : Nat) : List Value := [.slice V0 nb v0, .func (.func 128) #[.map (some (co + 2))] #[], .int .i64 90]
theorem MisB.walk_start {da co : Nat} {m : Mets} {e : Ex} {S : Nat → Prop} {v : Value} {w wx : World} {pb fb v0 nb : Nat} {V0 : Option Addr} (h : MisB w co e pb fb V0 v0 nb wx) (hM : MetsAt da co m w) (hv : RdX S w e v) (hS : ∀ g, S g → g < w.heap.size ∧ ¬ metB da co g) (hsz : m.size + e.wt ≤ 9000) (hok : e.Ok) :
    Calls Tryz.prog 122 #[v, .func (.func 129) #[] #[.pointer (some ⟨pb, 0, none⟩)]] wx fun e' w' => e' = .returned (.tuple #[]) ∧
      Sta (IMis (metB da co) w pb (w.heap.size + 2) (v0C co V0 nb v0) (boundE e) V0) (fun g => metB da co g ∨ g = pb ∨ g = fb) wx (0 + cost (evs e)) (runS stM (evs e) []) w' := by
  have hs := h.lw.size
  have hpb := h.hpb.lt
  have hfb := h.hfb.lt
  have hlow := h.low
  have h4 := cost_wt e
  have h2 := size_wt e
  refine sc_walkOK 129 #[.pointer (some ⟨pb, 0, none⟩)] 1000000 (IMis (metB da co) w pb (w.heap.size + 2) (v0C co V0 nb v0) (boundE e) V0) stM (IMis.inv _ _ _ _ _ _ _) ek_mis (sc_misused1 _ _ _ _ _ _ _ 1000000 (Nat.le_refl _)) 90001 (Nat.le_refl _) 0 [] (fun g => metB da co g ∨ g = pb ∨ g = fb) e S v wx (by omega) ⟨[], ?_⟩ (hv.keep (fun _ h => h) (fun g hg => h.lw.block g (hS g hg).1)) (fun g hg => ⟨by have := (hS g hg).1; omega, ?_⟩) hok (by omega)
  · have hnM : ∀ g, w.heap.size + 2 ≤ g ∧ g < wx.heap.size ∧ g ≠ pb ∧ g ≠ fb → ¬ (metB da co g ∨ g = pb ∨ g = fb) := by
      rintro g hg (e1 | e1 | e1)
      · have := hM.lt g e1; omega
      · exact hg.2.2.1 e1
      · exact hg.2.2.2 e1
    have hall : ∀ g, (metB da co g ∨ g = pb ∨ g = fb) → g < wx.heap.size ∧ (w.heap.size + 2 ≤ g ∨ metB da co g) := by
      rintro g (hg | hg | hg)
      · exact ⟨by have := hM.lt g hg; omega, .inr hg⟩
      · exact ⟨by omega, .inl (by omega)⟩
      · exact ⟨by omega, .inl (by omega)⟩
    have hrow : wx.ownsRow (w.heap.size + 2) 192 3 (.slice (some ⟨fb, 0, none⟩) 1 1) 1 (v0C co V0 nb v0 ++ []) := ⟨rfl, .inr ⟨fb, 1, _, rfl, by omega, h.hfb, Nat.le_refl _, by unfold maxLen; omega, rfl, rfl⟩⟩
    exact { len := Nat.le_refl _, ll := rfl, recs := fun i xs r h1 _ => by simp at h1, nd := by simp, nm0 := h.nm.keep (fun g hg => ⟨⟨hg.2.1, hnM g hg⟩, hg.1⟩) (fun _ _ => rfl), low := ⟨.inr (.inl rfl), by omega⟩, old := fun g hg => ⟨.inl hg, by have := hM.lt g hg; omega, h.lw.block g (hM.lt g hg)⟩, all := hall, row := ⟨fb, 1, h.hpb, hrow, .inr (.inr rfl), h.ne.symm, by simp⟩ }
  · have := hS g hg
    rintro (e1 | e1 | e1)
    · exact this.2 e1
    · omega
    · omega
theorem MisB.walk_end {da co : Nat} {m : Mets} {e : Ex} {w wx w2 : World} {pb fb v0 nb c base : Nat} {V0 V1 : Option Addr} {v0l : List Value} {x0 : List Nm} {s : List (List Nm)} {L : List BF} {M : Nat → Prop} {t0 t1 : TypeId} {cs0 cs1 : Array Value} (h : MisB w co e pb fb V0 v0 nb wx) (hM : MetsAt da co m w)
    (hmi : MisI (metB da co) w pb base v0l x0 V1 c s L M w2) (hch : Chg (fun g => metB da co g ∨ g = pb ∨ g = fb) wx w2) (c0 : Blk wx w.heap.size t0 cs0) (c1 : Blk wx (w.heap.size + 1) t1 cs1) :
    Below w.heap.size w w2 ∧ Blk w2 w.heap.size t0 cs0 ∧ Blk w2 (w.heap.size + 1) t1 cs1 := by
  have hs := h.lw.size
  have hlow := h.low
  have hno : ∀ k, w.heap.size ≤ k → k < w.heap.size + 2 → ¬ (metB da co k ∨ k = pb ∨ k = fb) := fun k h1 h2 e1 => by
    rcases e1 with e1 | e1 | e1
    · have := hM.lt k e1; omega
    · omega
    · omega
  refine ⟨h.lw.trans ⟨hch.os, hch.tape, hch.output, hch.size, fun j hj => ?_⟩, c0.same (hch.block _ c0.lt (hno _ (by omega) (by omega))), c1.same (hch.block _ c1.lt (hno _ (by omega) (by omega)))⟩
  by_cases hB : metB da co j
  · exact (hmi.old j hB).2.2.trans (h.lw.block j hj).symm
  · exact hch.block j (by omega) (by
      rintro (e1 | e1 | e1)
      · exact hB e1
      · omega
      · omega)
theorem mis_end {da co : Nat} (hd : da < co) {m : Mets} {e : Ex} {w w2 : World} {M : Nat → Prop} {s : List (List Nm)} {L : List BF} {c g pb v0 nb sn : Nat} {V0 : Option Addr} (hM : MetsAt da co m w) (hok : e.Ok) (hsz : m.size + e.wt ≤ 9000) (hsl : runS stM (evs e) [] = s) (hsn : s.length = sn)
    (hmi : MisI (metB da co) w pb (w.heap.size + 2) (v0C co V0 nb v0) (boundE e) V0 c s L M w2) (hc : c ≤ 40000) (k3 : M g) (hgb : w.heap.size + 2 ≤ g) (k5 : ∀ r ∈ L, r.f ≠ g) (hb2 : Below w.heap.size w w2) (hnb : nb = (boundE e).length)
    (w3 w4 w5 : World) (A3 A4 : Option Addr) (n3 n4 c3 c4 g5 c5 : Nat) (h24 : Below w2.heap.size w2 w4) (h23 : w2.heap.size ≤ w3.heap.size) (hn3 : n3 = (freeE e).length) (hn4 : n4 = (consE e).length) (hr3 : w3.ownsRow w2.heap.size 9 1 (.slice A3 n3 c3) n3 ((freeE e).map Sx.strV)) (hr4 : w4.ownsRow w3.heap.size 9 1 (.slice A4 n4 c4) n4 ((consE e).map Sx.strV)) (h34 : Below w3.heap.size w3 w4)
    {N6 : List Value} (hN6 : N6 = [.slice A3 n3 c3, .func (.func 127) #[.map (some (co + 2))] #[], .int .i64 91, .slice A4 n4 c4, .func (.func 127) #[.map (some co)] #[], .int .i64 91]) {o : Obj}
    (ho : w5.ownsRow (w.heap.size + 2) 192 3 (.slice (some ⟨g5, 0, none⟩) (sn + 1 + 2) c5) (sn + 1 + 2) (v0C co V0 nb v0 ++ L.flatMap BF.cells ++ N6)) (hg : (w4.alloc o).grownBy w5 (some g)) (hat : some g = some g5 ∨ g5 = w4.heap.size + 1) :
    LPostF da co w (mis m.b m.c e) (MetsAt da co m) (.returned (.slice (some ⟨g5, 0, none⟩) (sn + 1 + 2) c5)) w5 := by
  subst hN6
  have hs2 := hb2.size
  have hs4 := h24.size
  have hs5 := hg.size
  simp at hs5
  have hgl := (hmi.all g k3).1
  have hs34 := h34.size
  have h4 := cost_wt e
  have hl := len_all e
  have hb5 : Below w.heap.size w w5 := ((hb2.trans (h24.mono hs2)).alloc (by omega) o).grown hg (by simp; omega) (fun k hk => by injection hk with hk; omega)
  have hfar : ∀ k, k < w4.heap.size → k ≠ g → w5.heap[k]? = w4.heap[k]? := fun k h1 h2 => (hg.block k (by simp; omega) (fun e => by injection e with e; exact h2 e)).trans (Below.heap_alloc _ _ _ h1)
  have hfar2 : ∀ k, k < w2.heap.size → k ≠ g → w5.heap[k]? = w2.heap[k]? := fun k h1 h2 => (hfar k (by omega) h2).trans (h24.block k h1)
  have hMl : ∀ k, M k → k < w2.heap.size := fun k hk => (hmi.all k hk).1
  have hLl : ∀ r ∈ L, r.f < w2.heap.size := fun r hr => by
    obtain ⟨i, hi⟩ := List.mem_iff_getElem?.1 hr
    have hil := (List.getElem?_eq_some_iff.1 hi).1
    obtain ⟨-, -, -, a4, -⟩ := hmi.recs i _ r (List.getElem?_eq_getElem (by rw [← hmi.ll]; exact hil)) hi
    exact a4.lt
  refine first_mis hd (M := M) (L := L) (s := s) (hM.below hb5) hM.lt hb5 hsl.symm hmi.ll hnb hn3 hn4 (fun i xs r h1 h2 => ?_) (fun k hk => (hmi.old k hk).1) hmi.nd (hmi.nm0.keep (fun k hk => ⟨⟨by omega, hk.1.2⟩, by omega⟩) (fun k hk => hfar2 k hk.1.1 (fun e => hk.1.2 (e ▸ k3))))
    ((own_nms hn3 hr3).keep (fun k hk => ⟨⟨by omega, fun e => by have := hMl k e; omega⟩, by omega⟩) (fun k hk => (hfar k (by omega) (by omega)).trans (h34.block k hk.2)))
    ((own_nms hn4 hr4).keep (fun k hk => ⟨⟨by omega, fun e => by have := hMl k e; omega⟩, by omega⟩) (fun k hk => hfar k hk.2 (by omega)))
    (Value.ownsLow ho (by omega)) (fun r hr => ?_) (by omega) (by have := hmi.len; omega) (ok_24 e hok) (by omega) (fun xs hx => ?_)
  · obtain ⟨a1, a2, a3, a4, a5, a6⟩ := hmi.recs i xs r h1 h2
    exact ⟨a1, a2.keep (fun k hk => ⟨by omega, hk.2⟩) (fun k hk => hfar2 k hk.1 (fun e => hk.2 (e ▸ k3))), a3, a4.keep (hfar2 _ a4.lt (k5 r (List.mem_of_getElem? h2))), a5, by omega⟩
  · rcases hat with e1 | e1
    · injection e1 with e1
      exact e1 ▸ k5 r hr
    · have := hLl r hr; omega
  · have := bi_len (evs e) xs (hsl ▸ hx)
    omega

set_option maxHeartbeats 12800000 in
theorem sc_misused_bind {da co : Nat} (hd : da < co) (m : Mets) (n : Nm) (e : Ex) (S : Nat → Prop) (k : Int) (x : ByteArray) (t : Bool) (K : Int) (X1 : ByteArray) (Z : Int) (B : Option Addr) (mm q : Nat) (KA : Option Addr) (kn kc : Nat) (LA : Option Addr) (ln lc : Nat) (w : World) (hM : MetsAt da co m w)
    (hv : RdX S w e (.agg #[.int .i64 k, .string x, .bool t, .int .i64 K, .string X1, .int .i64 Z, .slice B mm q, .slice KA kn kc, .slice LA ln lc])) (hS : ∀ g, S g → g < w.heap.size ∧ ¬ metB da co g) (hsz : m.size + e.wt ≤ 9000) (hok : e.Ok) :
    Calls Tryz.prog 81 #[.agg #[.map (some da), .map (some co), .map (some (co + 1)), .map (some (co + 2))],
      .agg #[.int .i64 3, .string ⟨n.toArray⟩, .slice none 0 0, .slice none 0 0, .int .i64 0, .string ⟨#[]⟩, .int .i64 0, .slice none 0 0, .int .i64 k, .string x, .bool t, .int .i64 K, .string X1, .int .i64 Z, .slice B mm q, .slice KA kn kc, .slice LA ln lc]] w
      (LPostF da co w (mis m.b m.c e) (MetsAt da co m)) := by
  obtain ⟨X, hX⟩ : ∃ X : ByteArray, ⟨n.toArray⟩ = X := ⟨_, rfl⟩
  rw [hX]
  obtain ⟨W, hW⟩ : ∃ W, (w.alloc (.cells #[.map (some da), .map (some co), .map (some (co + 1)), .map (some (co + 2))] 136)).alloc (.cells #[.int .i64 3, .string X, .slice none 0 0, .slice none 0 0, .int .i64 0, .string ⟨#[]⟩, .int .i64 0, .slice none 0 0, .int .i64 k, .string x, .bool t, .int .i64 K, .string X1, .int .i64 Z, .slice B mm q, .slice KA kn kc, .slice LA ln lc] 59) = W := ⟨_, rfl⟩
  have hb : Below w.heap.size w W := hW ▸ ((Below.refl _ w).alloc (Nat.le_refl _) _).alloc (by simp) _
  have hz : W.heap.size = w.heap.size + 1 + 1 := by rw [← hW]; simp
  have B1 : Hid (Blk W (w.heap.size + 1) 59 #[.int .i64 3, .string X, .slice none 0 0, .slice none 0 0, .int .i64 0, .string ⟨#[]⟩, .int .i64 0, .slice none 0 0, .int .i64 k, .string x, .bool t, .int .i64 K, .string X1, .int .i64 Z, .slice B mm q, .slice KA kn kc, .slice LA ln lc]) := hidE (hW ▸ two_top _ _ _ _ rfl)
  have B0 : Hid (Blk W w.heap.size 136 #[.map (some da), .map (some co), .map (some (co + 1)), .map (some (co + 2))]) := hidE (hW ▸ Blk.alloc (heap_alloc_new w _) _)
  have g0 : W.cell? ⟨w.heap.size + 1, 0, none⟩ = some (.int .i64 3) := B1.out.cell 0
  have hkS : ∀ {U : World}, Below W.heap.size W U → ∀ g, S g → U.heap[g]? = w.heap[g]? := fun hU g hg => (hb.trans (hU.mono (by omega))).block g (hS g hg).1
  have HC : Hid (∀ U, Below W.heap.size W U → Calls Tryz.prog 33 #[.agg #[.int .i64 k, .string x, .bool t, .int .i64 K, .string X1, .int .i64 Z, .slice B mm q, .slice KA kn kc, .slice LA ln lc]] U (fun e' w' => ∃ A2 n2 c2, e' = .returned (.slice A2 n2 c2) ∧ n2 = (boundE e).length ∧ w'.ownsRow U.heap.size 9 1 (.slice A2 n2 c2) n2 ((boundE e).map Sx.strV) ∧ Below U.heap.size U w' ∧ Below W.heap.size W w')) := hidE (fun U hU => by
    refine (sc_Bound e S _ U (hv.keep (fun _ h => h) (hkS hU)) (fun g hg => by have := (hS g hg).1; have := hU.size; omega) hok (by have := size_wt e; omega) (by have := cost_wt e; omega)).mono ?_
    rintro e' w' ⟨A2, n2, c2, rfl, hn, hr, hbl⟩
    exact ⟨A2, n2, c2, rfl, hn, hr, hbl, hU.trans (hbl.mono hU.size)⟩)
  have HLD : Hid (∀ U, Below W.heap.size W U → (U.cell? ⟨w.heap.size, 3, none⟩ = some (.map (some (co + 2))) ∧ U.cell? ⟨w.heap.size + 1, 8, none⟩ = some (.int .i64 k) ∧ U.cell? ⟨w.heap.size + 1, 9, none⟩ = some (.string x) ∧ U.cell? ⟨w.heap.size + 1, 10, none⟩ = some (.bool t) ∧ U.cell? ⟨w.heap.size + 1, 11, none⟩ = some (.int .i64 K) ∧ U.cell? ⟨w.heap.size + 1, 12, none⟩ = some (.string X1) ∧ U.cell? ⟨w.heap.size + 1, 13, none⟩ = some (.int .i64 Z) ∧ U.cell? ⟨w.heap.size + 1, 14, none⟩ = some (.slice B mm q) ∧ U.cell? ⟨w.heap.size + 1, 15, none⟩ = some (.slice KA kn kc) ∧ U.cell? ⟨w.heap.size + 1, 16, none⟩ = some (.slice LA ln lc))) := hidE fun U hU => by
    have c0 := B0.out.below hU (by omega)
    have c1 := B1.out.below hU (by omega)
    exact ⟨c0.cell 3, c1.cell 8, c1.cell 9, c1.cell 10, c1.cell 11, c1.cell 12, c1.cell 13, c1.cell 14, c1.cell 15, c1.cell 16⟩
  have HB1 := hidE hb
  have BB : Hid (Below W.heap.size W W) := hidE (Below.refl _ _)
  clear hb hkS
  go_enter Tryz.func81, Tryz.ntmps81
  go_upto_region 3 with fail
  try rw [hW]
  clear hW g0
  go_cut [5] from 9 (fun v5 wx => ∃ pb fb V0 v0 nb, v5 = .pointer (some ⟨pb, 0, none⟩) ∧ Hid (Below W.heap.size W wx) ∧ Hid (MisB w co e pb fb V0 v0 nb wx))
  case first =>
    refine wp_region_held_drew (S := fun U : World => U.cell? ⟨w.heap.size, 3, none⟩ = some (.map (some (co + 2))) ∧ U.cell? ⟨w.heap.size + 1, 8, none⟩ = some (.int .i64 k) ∧ U.cell? ⟨w.heap.size + 1, 9, none⟩ = some (.string x) ∧ U.cell? ⟨w.heap.size + 1, 10, none⟩ = some (.bool t) ∧ U.cell? ⟨w.heap.size + 1, 11, none⟩ = some (.int .i64 K) ∧ U.cell? ⟨w.heap.size + 1, 12, none⟩ = some (.string X1) ∧ U.cell? ⟨w.heap.size + 1, 13, none⟩ = some (.int .i64 Z) ∧ U.cell? ⟨w.heap.size + 1, 14, none⟩ = some (.slice B mm q) ∧ U.cell? ⟨w.heap.size + 1, 15, none⟩ = some (.slice KA kn kc) ∧ U.cell? ⟨w.heap.size + 1, 16, none⟩ = some (.slice LA ln lc)) (by kernel_rfl) ?_ (fun hHeld => ?_)
    · refine HLD.out _ ?_; (repeat first | (with_reducible exact BB.out) | (with_reducible refine Below.drew ?_) | (with_reducible refine Below.setCell ?_ (by have := BB.out.size; first | omega | (simp; done) | (simp; omega)) _) | (with_reducible refine Below.alloc ?_ (by have := BB.out.size; first | omega | (simp; done) | (simp; omega)) _))
    refine takeH (i := 0) (d := 9) (v := ?_) rfl rfl (by kernel_rfl) (by kernel_rfl) (by kernel_rfl) (fun _ _ _ h => h) (Or.inl ⟨by rfl, ?_⟩) (by assumption) ?_
    rotate_left 1
    · (intro w hSw; (try dsimp only at hSw); go_simp; (try with_reducible rfl))
    simp only [List.setIfInBounds_toArray, List.set_cons_zero, List.set_cons_succ]
    refine takeH (i := 1) (d := 10) (v := ?_) rfl rfl (by kernel_rfl) (by kernel_rfl) (by kernel_rfl) (fun _ _ _ h => h) (Or.inl ⟨by rfl, ?_⟩) (by assumption) ?_
    rotate_left 1
    · (intro w hSw; (try dsimp only at hSw); go_simp; (try with_reducible rfl))
    simp only [List.setIfInBounds_toArray, List.set_cons_zero, List.set_cons_succ]
    refine takeH (i := 3) (d := 12) (v := ?_) rfl rfl (by kernel_rfl) (by kernel_rfl) (by kernel_rfl) (fun _ _ _ h => h) (Or.inl ⟨by rfl, ?_⟩) (by assumption) ?_
    rotate_left 1
    · (intro w hSw; (try dsimp only at hSw); go_simp; (try with_reducible rfl))
    simp only [List.setIfInBounds_toArray, List.set_cons_zero, List.set_cons_succ]
    refine takeH (i := 4) (d := 13) (v := ?_) rfl rfl (by kernel_rfl) (by kernel_rfl) (by kernel_rfl) (fun _ _ _ h => h) (Or.inl ⟨by rfl, ?_⟩) (by assumption) ?_
    rotate_left 1
    · (intro w hSw; (try dsimp only at hSw); go_simp; (try with_reducible rfl))
    simp only [List.setIfInBounds_toArray, List.set_cons_zero, List.set_cons_succ]
    refine takeH (i := 5) (d := 14) (v := ?_) rfl rfl (by kernel_rfl) (by kernel_rfl) (by kernel_rfl) (fun _ _ _ h => h) (Or.inl ⟨by rfl, ?_⟩) (by assumption) ?_
    rotate_left 1
    · (intro w hSw; (try dsimp only at hSw); go_simp; (try with_reducible rfl))
    simp only [List.setIfInBounds_toArray, List.set_cons_zero, List.set_cons_succ]
    refine wpAnyH_ready (rs := [2, 8]) (by kernel_rfl) (by simp) ?_
    refine AllReadyH.cons (i := 2) rfl (fun K hK => ?_) ?_
    · go_simp
      with_reducible refine (HC.out _ (by (repeat first | (with_reducible exact BB.out) | (with_reducible refine Below.drew ?_) | (with_reducible refine Below.setCell ?_ (by have := BB.out.size; first | omega | (simp; done) | (simp; omega)) _) | (with_reducible refine Below.alloc ?_ (by have := BB.out.size; first | omega | (simp; done) | (simp; omega)) _)))).mono ?_
      rintro e' w2 ⟨A2, n2, c2, rfl, hn2, hr2, b2, bb2⟩
      have HN2 := hidE hn2
      have HR2 := hidE hr2
      have B2 := hidE b2
      replace BB := hidE bb2
      clear hn2 hr2 b2 bb2 HC
      go_wp2_with fail
      refine hK.out _ _ ?_ (fun hHeld => ?_)
      · try dsimp only
        refine HLD.out _ ?_; (repeat first | (with_reducible exact BB.out) | (with_reducible refine Below.drew ?_) | (with_reducible refine Below.setCell ?_ (by have := BB.out.size; first | omega | (simp; done) | (simp; omega)) _) | (with_reducible refine Below.alloc ?_ (by have := BB.out.size; first | omega | (simp; done) | (simp; omega)) _))
      clear hK K
      refine takeH (i := 6) (d := 15) (v := ?_) rfl rfl (by kernel_rfl) (by kernel_rfl) (by kernel_rfl) (fun _ _ _ h => h) (Or.inl ⟨by rfl, ?_⟩) (by assumption) ?_
      rotate_left 1
      · (intro w hSw; (try dsimp only at hSw); go_simp; (try with_reducible rfl))
      simp only [List.setIfInBounds_toArray, List.set_cons_zero, List.set_cons_succ]
      refine wpAnyH_ready (rs := [7, 8]) (by kernel_rfl) (by simp) ?_
      refine AllReadyH.cons (i := 7) rfl (fun K hK => ?_) ?_
      · go_simp
        refine hK.out _ _ ?_ (fun hHeld => ?_)
        · try dsimp only
          refine HLD.out _ ?_; (repeat first | (with_reducible exact BB.out) | (with_reducible refine Below.drew ?_) | (with_reducible refine Below.setCell ?_ (by have := BB.out.size; first | omega | (simp; done) | (simp; omega)) _) | (with_reducible refine Below.alloc ?_ (by have := BB.out.size; first | omega | (simp; done) | (simp; omega)) _))
        clear hK K
        refine wpAnyH_ready (rs := [8]) (by kernel_rfl) (by simp) ?_
        refine AllReadyH.cons (i := 8) rfl (fun K hK => ?_) ?_
        · go_simp
          refine hK.out _ _ ?_ (fun hHeld => ?_)
          · try dsimp only
            refine HLD.out _ ?_; (repeat first | (with_reducible exact BB.out) | (with_reducible refine Below.drew ?_) | (with_reducible refine Below.setCell ?_ (by have := BB.out.size; first | omega | (simp; done) | (simp; omega)) _) | (with_reducible refine Below.alloc ?_ (by have := BB.out.size; first | omega | (simp; done) | (simp; omega)) _))
          clear hK K
          refine wpAnyH_ready (rs := [9]) (by kernel_rfl) (by simp) ?_
          refine AllReadyH.cons (i := 9) rfl (fun K hK => ?_) ?_
          · go_simp
            refine hK.out _ _ ?_ (fun hHeld => ?_)
            · try dsimp only
              refine HLD.out _ ?_; (repeat first | (with_reducible exact BB.out) | (with_reducible refine Below.drew ?_) | (with_reducible refine Below.setCell ?_ (by have := BB.out.size; first | omega | (simp; done) | (simp; omega)) _) | (with_reducible refine Below.alloc ?_ (by have := BB.out.size; first | omega | (simp; done) | (simp; omega)) _))
            clear hK K
            refine wpAnyH_done (by kernel_rfl) ?_ _
            go_wp2_with fail
            go_meet
            case rel =>
              have hbs := BB.out.size
              have LW := (BB.out.alloc BB.out.size (.cells #[.slice A2 n2 c2, .func (.func 128) #[.map (some (co + 2))] #[], .int .i64 90] 192)).alloc (by simp; omega) (.cells #[.slice (some ⟨w2.heap.size, 0, none⟩) 1 1] 140)
              refine ⟨w2.heap.size + 1, w2.heap.size, A2, c2, n2, rfl, hidE LW, hidE ⟨HN2.out, HB1.out.trans (LW.mono (by omega)), two_top _ _ _ _ rfl, Blk.alloc (heap_alloc_new w2 _) _, (own_nms HN2.out HR2.out).keep (fun g hg => ?_) (fun g hg => ?_), by omega, by omega, by omega⟩⟩
              · have := hg.1
                simp at this
                exact ⟨by omega, by have := hg.2; simp; omega, by omega, by omega⟩
              · exact (Below.heap_alloc _ _ _ (by have := hg.2; simp; omega)).trans (Below.heap_alloc _ _ _ hg.2)
          exact AllReadyH.nil
        exact AllReadyH.nil
      refine AllReadyH.cons (i := 8) rfl (fun K hK => ?_) ?_
      · go_simp
        refine hK.out _ _ ?_ (fun hHeld => ?_)
        · try dsimp only
          refine HLD.out _ ?_; (repeat first | (with_reducible exact BB.out) | (with_reducible refine Below.drew ?_) | (with_reducible refine Below.setCell ?_ (by have := BB.out.size; first | omega | (simp; done) | (simp; omega)) _) | (with_reducible refine Below.alloc ?_ (by have := BB.out.size; first | omega | (simp; done) | (simp; omega)) _))
        clear hK K
        refine wpAnyH_ready (rs := [7]) (by kernel_rfl) (by simp) ?_
        refine AllReadyH.cons (i := 7) rfl (fun K hK => ?_) ?_
        · go_simp
          refine hK.out _ _ ?_ (fun hHeld => ?_)
          · try dsimp only
            refine HLD.out _ ?_; (repeat first | (with_reducible exact BB.out) | (with_reducible refine Below.drew ?_) | (with_reducible refine Below.setCell ?_ (by have := BB.out.size; first | omega | (simp; done) | (simp; omega)) _) | (with_reducible refine Below.alloc ?_ (by have := BB.out.size; first | omega | (simp; done) | (simp; omega)) _))
          clear hK K
          refine wpAnyH_ready (rs := [9]) (by kernel_rfl) (by simp) ?_
          refine AllReadyH.cons (i := 9) rfl (fun K hK => ?_) ?_
          · go_simp
            refine hK.out _ _ ?_ (fun hHeld => ?_)
            · try dsimp only
              refine HLD.out _ ?_; (repeat first | (with_reducible exact BB.out) | (with_reducible refine Below.drew ?_) | (with_reducible refine Below.setCell ?_ (by have := BB.out.size; first | omega | (simp; done) | (simp; omega)) _) | (with_reducible refine Below.alloc ?_ (by have := BB.out.size; first | omega | (simp; done) | (simp; omega)) _))
            clear hK K
            refine wpAnyH_done (by kernel_rfl) ?_ _
            go_wp2_with fail
            go_meet
            case rel =>
              have hbs := BB.out.size
              have LW := (BB.out.alloc BB.out.size (.cells #[.slice (some ⟨w2.heap.size + 1, 0, none⟩) 1 1] 140)).alloc (by simp; omega) (.cells #[.slice A2 n2 c2, .func (.func 128) #[.map (some (co + 2))] #[], .int .i64 90] 192)
              refine ⟨w2.heap.size, w2.heap.size + 1, A2, c2, n2, rfl, hidE LW, hidE ⟨HN2.out, HB1.out.trans (LW.mono (by omega)), Blk.alloc (heap_alloc_new w2 _) _, two_top _ _ _ _ rfl, (own_nms HN2.out HR2.out).keep (fun g hg => ?_) (fun g hg => ?_), by omega, by omega, by omega⟩⟩
              · have := hg.1
                simp at this
                exact ⟨by omega, by have := hg.2; simp; omega, by omega, by omega⟩
              · exact (Below.heap_alloc _ _ _ (by have := hg.2; simp; omega)).trans (Below.heap_alloc _ _ _ hg.2)
          exact AllReadyH.nil
        exact AllReadyH.nil
      exact AllReadyH.nil
    refine AllReadyH.cons (i := 8) rfl (fun K hK => ?_) ?_
    · go_simp
      refine hK.out _ _ ?_ (fun hHeld => ?_)
      · try dsimp only
        refine HLD.out _ ?_; (repeat first | (with_reducible exact BB.out) | (with_reducible refine Below.drew ?_) | (with_reducible refine Below.setCell ?_ (by have := BB.out.size; first | omega | (simp; done) | (simp; omega)) _) | (with_reducible refine Below.alloc ?_ (by have := BB.out.size; first | omega | (simp; done) | (simp; omega)) _))
      clear hK K
      refine wpAnyH_ready (rs := [2]) (by kernel_rfl) (by simp) ?_
      refine AllReadyH.cons (i := 2) rfl (fun K hK => ?_) ?_
      · go_simp
        with_reducible refine (HC.out _ (by (repeat first | (with_reducible exact BB.out) | (with_reducible refine Below.drew ?_) | (with_reducible refine Below.setCell ?_ (by have := BB.out.size; first | omega | (simp; done) | (simp; omega)) _) | (with_reducible refine Below.alloc ?_ (by have := BB.out.size; first | omega | (simp; done) | (simp; omega)) _)))).mono ?_
        rintro e' w2 ⟨A2, n2, c2, rfl, hn2, hr2, b2, bb2⟩
        have HN2 := hidE hn2
        have HR2 := hidE hr2
        have B2 := hidE b2
        replace BB := hidE bb2
        clear hn2 hr2 b2 bb2 HC
        have hp : Blk (w2.alloc (.cells #[.slice A2 n2 c2, .func (.func 128) #[.map (some (co + 2))] #[], .int .i64 90] 192)) (w.heap.size + 1 + 1) 140 #[.slice none 0 0] := (Blk.below (hz ▸ heap_alloc_new W _) B2.out (by simp; omega)).alloc _
        obtain ⟨p0, p1, p2⟩ := blk_facts1 hp
        have HP := hidE hp
        clear hp
        go_wp2_with fail
        refine hK.out _ _ ?_ (fun hHeld => ?_)
        · try dsimp only
          refine HLD.out _ ?_; (repeat first | (with_reducible exact BB.out) | (with_reducible refine Below.drew ?_) | (with_reducible refine Below.setCell ?_ (by have := BB.out.size; first | omega | (simp; done) | (simp; omega)) _) | (with_reducible refine Below.alloc ?_ (by have := BB.out.size; first | omega | (simp; done) | (simp; omega)) _))
        clear hK K
        refine takeH (i := 6) (d := 15) (v := ?_) rfl rfl (by kernel_rfl) (by kernel_rfl) (by kernel_rfl) (fun _ _ _ h => h) (Or.inl ⟨by rfl, ?_⟩) (by assumption) ?_
        rotate_left 1
        · (intro w hSw; (try dsimp only at hSw); go_simp; (try with_reducible rfl))
        simp only [List.setIfInBounds_toArray, List.set_cons_zero, List.set_cons_succ]
        refine wpAnyH_ready (rs := [7]) (by kernel_rfl) (by simp) ?_
        refine AllReadyH.cons (i := 7) rfl (fun K hK => ?_) ?_
        · go_simp
          refine hK.out _ _ ?_ (fun hHeld => ?_)
          · try dsimp only
            refine HLD.out _ ?_; (repeat first | (with_reducible exact BB.out) | (with_reducible refine Below.drew ?_) | (with_reducible refine Below.setCell ?_ (by have := BB.out.size; first | omega | (simp; done) | (simp; omega)) _) | (with_reducible refine Below.alloc ?_ (by have := BB.out.size; first | omega | (simp; done) | (simp; omega)) _))
          clear hK K
          refine wpAnyH_ready (rs := [9]) (by kernel_rfl) (by simp) ?_
          refine AllReadyH.cons (i := 9) rfl (fun K hK => ?_) ?_
          · go_simp
            refine hK.out _ _ ?_ (fun hHeld => ?_)
            · try dsimp only
              refine HLD.out _ ?_; (repeat first | (with_reducible exact BB.out) | (with_reducible refine Below.drew ?_) | (with_reducible refine Below.setCell ?_ (by have := BB.out.size; first | omega | (simp; done) | (simp; omega)) _) | (with_reducible refine Below.alloc ?_ (by have := BB.out.size; first | omega | (simp; done) | (simp; omega)) _))
            clear hK K
            refine wpAnyH_done (by kernel_rfl) ?_ _
            go_wp2_with fail
            go_meet
            case rel =>
              have hbs := BB.out.size
              have LW := (BB.out.alloc BB.out.size (.cells #[.slice A2 n2 c2, .func (.func 128) #[.map (some (co + 2))] #[], .int .i64 90] 192)).setCell (p := ⟨w.heap.size + 1 + 1, 0, none⟩) (by show W.heap.size ≤ w.heap.size + 1 + 1; omega) (.slice (some ⟨w2.heap.size, 0, none⟩) 1 1)
              have hbz := B2.out.size
              simp at hbz
              refine ⟨w.heap.size + 1 + 1, w2.heap.size, A2, c2, n2, rfl, hidE LW, hidE ⟨HN2.out, HB1.out.trans (LW.mono (by omega)), heap_setCell_same _ _ 0 _ _ _ HP.out, (Blk.same (heap_alloc_new w2 _) (Below.heap_setCell _ ⟨w.heap.size + 1 + 1, 0, none⟩ _ w2.heap.size (by show w2.heap.size ≠ w.heap.size + 1 + 1; omega))), (own_nms HN2.out HR2.out).keep (fun g hg => ?_) (fun g hg => ?_), by omega, by omega, by omega⟩⟩
              · have := hg.1
                simp at this
                exact ⟨by omega, by have := hg.2; simp; omega, by omega, by omega⟩
              · have := hg.1
                simp at this
                exact (Below.heap_setCell _ ⟨w.heap.size + 1 + 1, 0, none⟩ _ g (by show g ≠ w.heap.size + 1 + 1; omega)).trans (Below.heap_alloc _ _ _ hg.2)
          exact AllReadyH.nil
        exact AllReadyH.nil
      exact AllReadyH.nil
    exact AllReadyH.nil
  case rest =>
    obtain ⟨pb, fb, V0, v0, nb, rfl, hlw, hmb⟩ := hcut
    have hwz := hlw.out.size
    have c1 := B1.out.below hlw.out (by omega)
    have c0 := B0.out.below hlw.out (by omega)
    have e8 : wc.cell? ⟨w.heap.size + 1, 8, none⟩ = some (.int .i64 k) := c1.cell 8
    have e9 : wc.cell? ⟨w.heap.size + 1, 9, none⟩ = some (.string x) := c1.cell 9
    have e10 : wc.cell? ⟨w.heap.size + 1, 10, none⟩ = some (.bool t) := c1.cell 10
    have e11 : wc.cell? ⟨w.heap.size + 1, 11, none⟩ = some (.int .i64 K) := c1.cell 11
    have e12 : wc.cell? ⟨w.heap.size + 1, 12, none⟩ = some (.string X1) := c1.cell 12
    have e13 : wc.cell? ⟨w.heap.size + 1, 13, none⟩ = some (.int .i64 Z) := c1.cell 13
    have e14 : wc.cell? ⟨w.heap.size + 1, 14, none⟩ = some (.slice B mm q) := c1.cell 14
    have e15 : wc.cell? ⟨w.heap.size + 1, 15, none⟩ = some (.slice KA kn kc) := c1.cell 15
    have e16 : wc.cell? ⟨w.heap.size + 1, 16, none⟩ = some (.slice LA ln lc) := c1.cell 16
    have C1 := hidE c1
    have C0 := hidE c0
    have hco4 := cost_wt e
    have hsz2 := size_wt e
    have hW := hmb.out.walk_start hM hv hS hsz hok
    have HW := hidE hW
    have HMB := hmb
    clear hlw c1 c0 hW BB HLD HC
    go_wp2_with fail
    refine HW.out.mono ?_
    rintro e1 w2 ⟨rfl, M, ⟨L, hmi⟩, hMs, hch⟩
    obtain ⟨sl, hsl⟩ : ∃ y, runS stM (evs e) [] = y := ⟨_, rfl⟩
    rw [hsl] at hmi
    obtain ⟨hb2, hd0, hd1⟩ := HMB.out.walk_end hM hmi hch C0.out C1.out
    obtain ⟨g, cp, k1, k2, k3, k4, k5⟩ := hmi.row
    obtain ⟨sn, hsn⟩ : ∃ y, sl.length = y := ⟨_, rfl⟩
    rw [hsn] at k1 k2
    have HSN : Hid (sn ≤ 40000) := hidE (by have := hmi.len; omega)
    obtain ⟨i0, hi0, hz0, hz1, hz2⟩ := info_parts infoFa
    have HLD5 : Hid (∀ U, Below w2.heap.size w2 U → (fun U : World => U.cell? ⟨pb, 0, none⟩ = some (.slice (some ⟨g, 0, none⟩) (sn + 1) cp) ∧ U.cell? ⟨w.heap.size, 3, none⟩ = some (.map (some (co + 2))) ∧ U.cell? ⟨w.heap.size, 1, none⟩ = some (.map (some co)) ∧ U.cell? ⟨w.heap.size + 1, 8, none⟩ = some (.int .i64 k) ∧ U.cell? ⟨w.heap.size + 1, 9, none⟩ = some (.string x) ∧ U.cell? ⟨w.heap.size + 1, 10, none⟩ = some (.bool t) ∧ U.cell? ⟨w.heap.size + 1, 11, none⟩ = some (.int .i64 K) ∧ U.cell? ⟨w.heap.size + 1, 12, none⟩ = some (.string X1) ∧ U.cell? ⟨w.heap.size + 1, 13, none⟩ = some (.int .i64 Z) ∧ U.cell? ⟨w.heap.size + 1, 14, none⟩ = some (.slice B mm q) ∧ U.cell? ⟨w.heap.size + 1, 15, none⟩ = some (.slice KA kn kc) ∧ U.cell? ⟨w.heap.size + 1, 16, none⟩ = some (.slice LA ln lc)) U) := hidE fun U hU => by
      have c0 := hd0.below hU hd0.lt
      have c1 := hd1.below hU hd1.lt
      have cp := k1.below hU k1.lt
      exact ⟨cp.cell 0, c0.cell 3, c0.cell 1, c1.cell 8, c1.cell 9, c1.cell 10, c1.cell 11, c1.cell 12, c1.cell 13, c1.cell 14, c1.cell 15, c1.cell 16⟩
    have HGL : Hid (g < w2.heap.size) := hidE (hmi.all g k3).1
    have HB2 := hidE hb2
    have hvU : ∀ U, Below w2.heap.size w2 U → RdX S U e (.agg #[.int .i64 k, .string x, .bool t, .int .i64 K, .string X1, .int .i64 Z, .slice B mm q, .slice KA kn kc, .slice LA ln lc]) := fun U hU => hv.keep (fun _ h => h) (fun g hg => (hb2.trans (hU.mono hb2.size)).block g (hS g hg).1)
    have hSU : ∀ U, Below w2.heap.size w2 U → ∀ g, S g → g < U.heap.size := fun U hU g hg => by have := (hS g hg).1; have := hU.size; have := hb2.size; omega
    have HCF : Hid (∀ U, Below w2.heap.size w2 U → Calls Tryz.prog 29 #[.agg #[.int .i64 k, .string x, .bool t, .int .i64 K, .string X1, .int .i64 Z, .slice B mm q, .slice KA kn kc, .slice LA ln lc]] U (fun e' w' => ∃ A2 n2 c2, e' = .returned (.slice A2 n2 c2) ∧ n2 = (freeE e).length ∧ w'.ownsRow U.heap.size 9 1 (.slice A2 n2 c2) n2 ((freeE e).map Sx.strV) ∧ Below U.heap.size U w' ∧ Below w2.heap.size w2 w')) := hidE (fun U hU => by
      refine (sc_Free e S _ U (hvU U hU) (hSU U hU) hok (by omega) (by omega)).mono ?_
      rintro e' w' ⟨A2, n2, c2, rfl, hn, hr, hbl⟩
      exact ⟨A2, n2, c2, rfl, hn, hr, hbl, hU.trans (hbl.mono hU.size)⟩)
    have HCC : Hid (∀ U, Below w2.heap.size w2 U → Calls Tryz.prog 31 #[.agg #[.int .i64 k, .string x, .bool t, .int .i64 K, .string X1, .int .i64 Z, .slice B mm q, .slice KA kn kc, .slice LA ln lc]] U (fun e' w' => ∃ A2 n2 c2, e' = .returned (.slice A2 n2 c2) ∧ n2 = (consE e).length ∧ w'.ownsRow U.heap.size 9 1 (.slice A2 n2 c2) n2 ((consE e).map Sx.strV) ∧ Below U.heap.size U w' ∧ Below w2.heap.size w2 w')) := hidE (fun U hU => by
      refine (sc_Cons e S _ U (hvU U hU) (hSU U hU) hok (by omega) (by omega)).mono ?_
      rintro e' w' ⟨A2, n2, c2, rfl, hn, hr, hbl⟩
      exact ⟨A2, n2, c2, rfl, hn, hr, hbl, hU.trans (hbl.mono hU.size)⟩)
    have hgb := (k2.lt g rfl).1
    obtain ⟨vs, hvs⟩ : ∃ y, v0C co V0 nb v0 ++ L.flatMap BF.cells = y := ⟨_, rfl⟩
    rw [hvs] at k2
    have HFIN := hidE (fun (w3 w4 w5 : World) (A3 A4 : Option Addr) (n3 n4 c3 c4 g5 c5 : Nat) a1 a2 a3 a4 a5 a6 a7 (a8 : w5.ownsRow (w.heap.size + 2) 192 3 (.slice (some ⟨g5, 0, none⟩) (sn + 1 + 2) c5) (sn + 1 + 2) (vs ++ [.slice A3 n3 c3, .func (.func 127) #[.map (some (co + 2))] #[], .int .i64 91, .slice A4 n4 c4, .func (.func 127) #[.map (some co)] #[], .int .i64 91])) (a9 : (w4.alloc (.cells #[.slice A3 n3 c3, .func (.func 127) #[.map (some (co + 2))] #[], .int .i64 91, .slice A4 n4 c4, .func (.func 127) #[.map (some co)] #[], .int .i64 91] 192)).grownBy w5 (some g)) a10 => mis_end hd hM hok hsz hsl hsn hmi (by omega) k3 hgb k5 hb2 HMB.out.n w3 w4 w5 A3 A4 n3 n4 c3 c4 g5 c5 a1 a2 a3 a4 a5 a6 a7 rfl (hvs ▸ a8) a9 a10)
    have K2 := hidE k2
    have HLG : Hid (∀ U U', Below w2.heap.size w2 U → U.grownBy U' (some g) → (fun U : World => U.cell? ⟨pb, 0, none⟩ = some (.slice (some ⟨g, 0, none⟩) (sn + 1) cp) ∧ U.cell? ⟨w.heap.size, 3, none⟩ = some (.map (some (co + 2))) ∧ U.cell? ⟨w.heap.size, 1, none⟩ = some (.map (some co)) ∧ U.cell? ⟨w.heap.size + 1, 8, none⟩ = some (.int .i64 k) ∧ U.cell? ⟨w.heap.size + 1, 9, none⟩ = some (.string x) ∧ U.cell? ⟨w.heap.size + 1, 10, none⟩ = some (.bool t) ∧ U.cell? ⟨w.heap.size + 1, 11, none⟩ = some (.int .i64 K) ∧ U.cell? ⟨w.heap.size + 1, 12, none⟩ = some (.string X1) ∧ U.cell? ⟨w.heap.size + 1, 13, none⟩ = some (.int .i64 Z) ∧ U.cell? ⟨w.heap.size + 1, 14, none⟩ = some (.slice B mm q) ∧ U.cell? ⟨w.heap.size + 1, 15, none⟩ = some (.slice KA kn kc) ∧ U.cell? ⟨w.heap.size + 1, 16, none⟩ = some (.slice LA ln lc)) U') := hidE fun U U' hU hG => by
      have hk : ∀ k, k < w2.heap.size → k ≠ g → U'.heap[k]? = w2.heap[k]? := fun k h1 h2 => (hG.block k (by have := hU.size; omega) (fun e => by injection e with e; exact h2 e)).trans (hU.block k h1)
      have c0 := hd0.same (hk _ hd0.lt (by omega))
      have c1 := hd1.same (hk _ hd1.lt (by omega))
      have cp := k1.same (hk _ k1.lt k4.symm)
      exact ⟨cp.cell 0, c0.cell 3, c0.cell 1, c1.cell 8, c1.cell 9, c1.cell 10, c1.cell 11, c1.cell 12, c1.cell 13, c1.cell 14, c1.cell 15, c1.cell 16⟩
    have BC : Hid (Below w2.heap.size w2 w2) := hidE (Below.refl _ _)
    clear e8 e9 e10 e11 e12 e13 e14 e15 e16 hmi hch hMs k1 k2 k3 hsl hsn hb2 hd0 hd1 hvU hSU HW hvs
    go_upto_region 5 with fail
    refine wp_region_held_drew (S := fun U : World => U.cell? ⟨pb, 0, none⟩ = some (.slice (some ⟨g, 0, none⟩) (sn + 1) cp) ∧ U.cell? ⟨w.heap.size, 3, none⟩ = some (.map (some (co + 2))) ∧ U.cell? ⟨w.heap.size, 1, none⟩ = some (.map (some co)) ∧ U.cell? ⟨w.heap.size + 1, 8, none⟩ = some (.int .i64 k) ∧ U.cell? ⟨w.heap.size + 1, 9, none⟩ = some (.string x) ∧ U.cell? ⟨w.heap.size + 1, 10, none⟩ = some (.bool t) ∧ U.cell? ⟨w.heap.size + 1, 11, none⟩ = some (.int .i64 K) ∧ U.cell? ⟨w.heap.size + 1, 12, none⟩ = some (.string X1) ∧ U.cell? ⟨w.heap.size + 1, 13, none⟩ = some (.int .i64 Z) ∧ U.cell? ⟨w.heap.size + 1, 14, none⟩ = some (.slice B mm q) ∧ U.cell? ⟨w.heap.size + 1, 15, none⟩ = some (.slice KA kn kc) ∧ U.cell? ⟨w.heap.size + 1, 16, none⟩ = some (.slice LA ln lc)) (by kernel_rfl) ?_ (fun hHeld => ?_)
    · refine HLD5.out _ ?_; (repeat first | (with_reducible exact BC.out) | (with_reducible refine Below.drew ?_) | (with_reducible refine Below.alloc ?_ (by have := BC.out.size; first | omega | (simp; done) | (simp; omega)) _))
    refine takeH (i := 0) (d := 21) (v := ?_) rfl rfl (by kernel_rfl) (by kernel_rfl) (by kernel_rfl) (fun _ _ _ h => h) (Or.inl ⟨by rfl, ?_⟩) (by assumption) ?_
    rotate_left 1
    · (intro w hSw; (try dsimp only at hSw); go_simp; (try with_reducible rfl))
    simp only [List.setIfInBounds_toArray, List.set_cons_zero, List.set_cons_succ]
    refine takeH (i := 1) (d := 22) (v := ?_) rfl rfl (by kernel_rfl) (by kernel_rfl) (by kernel_rfl) (fun _ _ _ h => h) (Or.inl ⟨by rfl, ?_⟩) (by assumption) ?_
    rotate_left 1
    · (intro w hSw; (try dsimp only at hSw); go_simp; (try with_reducible rfl))
    simp only [List.setIfInBounds_toArray, List.set_cons_zero, List.set_cons_succ]
    refine takeH (i := 2) (d := 23) (v := ?_) rfl rfl (by kernel_rfl) (by kernel_rfl) (by kernel_rfl) (fun _ _ _ h => h) (Or.inl ⟨by rfl, ?_⟩) (by assumption) ?_
    rotate_left 1
    · (intro w hSw; (try dsimp only at hSw); go_simp; (try with_reducible rfl))
    simp only [List.setIfInBounds_toArray, List.set_cons_zero, List.set_cons_succ]
    refine takeH (i := 4) (d := 25) (v := ?_) rfl rfl (by kernel_rfl) (by kernel_rfl) (by kernel_rfl) (fun _ _ _ h => h) (Or.inl ⟨by rfl, ?_⟩) (by assumption) ?_
    rotate_left 1
    · (intro w hSw; (try dsimp only at hSw); go_simp; (try with_reducible rfl))
    simp only [List.setIfInBounds_toArray, List.set_cons_zero, List.set_cons_succ]
    refine takeH (i := 5) (d := 26) (v := ?_) rfl rfl (by kernel_rfl) (by kernel_rfl) (by kernel_rfl) (fun _ _ _ h => h) (Or.inl ⟨by rfl, ?_⟩) (by assumption) ?_
    rotate_left 1
    · (intro w hSw; (try dsimp only at hSw); go_simp; (try with_reducible rfl))
    simp only [List.setIfInBounds_toArray, List.set_cons_zero, List.set_cons_succ]
    refine takeH (i := 6) (d := 27) (v := ?_) rfl rfl (by kernel_rfl) (by kernel_rfl) (by kernel_rfl) (fun _ _ _ h => h) (Or.inl ⟨by rfl, ?_⟩) (by assumption) ?_
    rotate_left 1
    · (intro w hSw; (try dsimp only at hSw); go_simp; (try with_reducible rfl))
    simp only [List.setIfInBounds_toArray, List.set_cons_zero, List.set_cons_succ]
    refine takeH (i := 8) (d := 29) (v := ?_) rfl rfl (by kernel_rfl) (by kernel_rfl) (by kernel_rfl) (fun _ _ _ h => h) (Or.inl ⟨by rfl, ?_⟩) (by assumption) ?_
    rotate_left 1
    · (intro w hSw; (try dsimp only at hSw); go_simp; (try with_reducible rfl))
    simp only [List.setIfInBounds_toArray, List.set_cons_zero, List.set_cons_succ]
    refine takeH (i := 9) (d := 30) (v := ?_) rfl rfl (by kernel_rfl) (by kernel_rfl) (by kernel_rfl) (fun _ _ _ h => h) (Or.inl ⟨by rfl, ?_⟩) (by assumption) ?_
    rotate_left 1
    · (intro w hSw; (try dsimp only at hSw); go_simp; (try with_reducible rfl))
    simp only [List.setIfInBounds_toArray, List.set_cons_zero, List.set_cons_succ]
    refine takeH (i := 11) (d := 32) (v := ?_) rfl rfl (by kernel_rfl) (by kernel_rfl) (by kernel_rfl) (fun _ _ _ h => h) (Or.inl ⟨by rfl, ?_⟩) (by assumption) ?_
    rotate_left 1
    · (intro w hSw; (try dsimp only at hSw); go_simp; (try with_reducible rfl))
    simp only [List.setIfInBounds_toArray, List.set_cons_zero, List.set_cons_succ]
    refine takeH (i := 12) (d := 33) (v := ?_) rfl rfl (by kernel_rfl) (by kernel_rfl) (by kernel_rfl) (fun _ _ _ h => h) (Or.inl ⟨by rfl, ?_⟩) (by assumption) ?_
    rotate_left 1
    · (intro w hSw; (try dsimp only at hSw); go_simp; (try with_reducible rfl))
    simp only [List.setIfInBounds_toArray, List.set_cons_zero, List.set_cons_succ]
    refine takeH (i := 13) (d := 34) (v := ?_) rfl rfl (by kernel_rfl) (by kernel_rfl) (by kernel_rfl) (fun _ _ _ h => h) (Or.inl ⟨by rfl, ?_⟩) (by assumption) ?_
    rotate_left 1
    · (intro w hSw; (try dsimp only at hSw); go_simp; (try with_reducible rfl))
    simp only [List.setIfInBounds_toArray, List.set_cons_zero, List.set_cons_succ]
    refine wpAnyH_ready (rs := [3]) (by kernel_rfl) (by simp) ?_
    refine AllReadyH.cons (i := 3) rfl (fun K hK => ?_) ?_
    · go_simp
      with_reducible refine (HCF.out _ (by (repeat first | (with_reducible exact BC.out) | (with_reducible refine Below.drew ?_) | (with_reducible refine Below.alloc ?_ (by have := BC.out.size; first | omega | (simp; done) | (simp; omega)) _)))).mono ?_
      rintro e' w3 ⟨A3, n3, c3, rfl, hn, hr, bl, bb⟩
      have HN3 := hidE hn
      have HR3 := hidE hr
      have BL3 := hidE bl
      replace BC := hidE bb
      clear hn hr bl bb
      go_wp2_with fail
      refine hK.out _ _ ?_ (fun hHeld => ?_)
      · try dsimp only
        refine HLD5.out _ ?_; (repeat first | (with_reducible exact BC.out) | (with_reducible refine Below.drew ?_) | (with_reducible refine Below.alloc ?_ (by have := BC.out.size; first | omega | (simp; done) | (simp; omega)) _))
      clear hK K
      refine takeH (i := 7) (d := 28) (v := ?_) rfl rfl (by kernel_rfl) (by kernel_rfl) (by kernel_rfl) (fun _ _ _ h => h) (Or.inl ⟨by rfl, ?_⟩) (by assumption) ?_
      rotate_left 1
      · (intro w hSw; (try dsimp only at hSw); go_simp; (try with_reducible rfl))
      simp only [List.setIfInBounds_toArray, List.set_cons_zero, List.set_cons_succ]
      refine wpAnyH_ready (rs := [10]) (by kernel_rfl) (by simp) ?_
      refine AllReadyH.cons (i := 10) rfl (fun K hK => ?_) ?_
      · go_simp
        with_reducible refine (HCC.out _ (by (repeat first | (with_reducible exact BC.out) | (with_reducible refine Below.drew ?_) | (with_reducible refine Below.alloc ?_ (by have := BC.out.size; first | omega | (simp; done) | (simp; omega)) _)))).mono ?_
        rintro e' w4 ⟨A4, n4, c4, rfl, hn, hr, bl, bb⟩
        have HN4 := hidE hn
        have HR4 := hidE hr
        have BL4 := hidE bl
        replace BC := hidE bb
        clear hn hr bl bb
        go_wp2_with fail
        refine hK.out _ _ ?_ (fun hHeld => ?_)
        · try dsimp only
          refine HLD5.out _ ?_; (repeat first | (with_reducible exact BC.out) | (with_reducible refine Below.drew ?_) | (with_reducible refine Below.alloc ?_ (by have := BC.out.size; first | omega | (simp; done) | (simp; omega)) _))
        clear hK K
        refine takeH (i := 14) (d := 35) (v := ?_) rfl rfl (by kernel_rfl) (by kernel_rfl) (by kernel_rfl) (fun _ _ _ h => h) (Or.inl ⟨by rfl, ?_⟩) (by assumption) ?_
        rotate_left 1
        · (intro w hSw; (try dsimp only at hSw); go_simp; (try with_reducible rfl))
        simp only [List.setIfInBounds_toArray, List.set_cons_zero, List.set_cons_succ]
        refine wpAnyH_ready (rs := [15]) (by kernel_rfl) (by simp) ?_
        refine AllReadyH.cons (i := 15) rfl (fun K hK => ?_) ?_
        · go_simp
          refine hK.out _ _ ?_ (fun hHeld => ?_)
          · try dsimp only
            refine HLD5.out _ ?_; (repeat first | (with_reducible exact BC.out) | (with_reducible refine Below.drew ?_) | (with_reducible refine Below.alloc ?_ (by have := BC.out.size; first | omega | (simp; done) | (simp; omega)) _))
          clear hK K
          refine wpAnyH_ready (rs := [16]) (by kernel_rfl) (by simp) ?_
          refine AllReadyH.cons (i := 16) rfl (fun K hK => ?_) ?_
          · skip
            have HO := hidE ((own_keepb K2.out (fun a ha => by injection ha with ha; subst ha; exact BC.out.block g HGL.out)).alloc (.cells #[.slice A3 n3 c3, .func (.func 127) #[.map (some (co + 2))] #[], .int .i64 91, .slice A4 n4 c4, .func (.func 127) #[.map (some co)] #[], .int .i64 91] 192))
            refine step_append_lies _ rfl (.tmp 21) (.tmp 36) 140 rfl (w.heap.size + 2) 192 i0 _ 3 40 Tryz.underlying140 hi0 hz0 hz1 hz2 rfl (by decide) _ (sn + 1) vs rfl HO.out ⟨w4.heap.size, 0, none⟩ 2 2 [.slice A3 n3 c3, .func (.func 127) #[.map (some (co + 2))] #[], .int .i64 91, .slice A4 n4 c4, .func (.func 127) #[.map (some co)] #[], .int .i64 91] rfl rfl (World.news_of_block (heap_alloc_new _ _)) (by intro u hu; simp at hu; rcases hu with rfl | rfl | rfl | rfl | rfl | rfl <;> rfl) (by decide) (by have := HSN.out; unfold maxLen; omega) (by have := HSN.out; omega) (by have := BC.out.size; have := HGL.out; simp; omega) _ rfl ?_
            intro g5 c5 w5 hown5 hgrow hat hlt5
            have HO5 := hidE hown5
            have HG5 := hidE hgrow
            have HT5 := hidE hat
            clear hown5 hgrow hat HO
            go_simp
            refine hK.out _ _ ?_ (fun hHeld => ?_)
            · try dsimp only
              exact HLG.out _ _ (BC.out.alloc BC.out.size _) HG5.out
            clear hK K
            refine takeH (i := 17) (d := 4) (v := ?_) rfl rfl (by kernel_rfl) (by kernel_rfl) (by kernel_rfl) (fun _ _ _ h => h) (Or.inl ⟨by rfl, ?_⟩) (by assumption) ?_
            rotate_left 1
            · (intro w hSw; (try dsimp only at hSw); go_simp; (try with_reducible rfl))
            simp only [List.setIfInBounds_toArray, List.set_cons_zero, List.set_cons_succ]
            refine wpAnyH_done (by kernel_rfl) ?_ _
            go_wp2_with fail
            go_ret
            exact HFIN.out w3 w4 w5 A3 A4 n3 n4 c3 c4 g5 c5 BC.out BL3.out.size HN3.out HN4.out HR3.out HR4.out BL4.out HO5.out HG5.out (HT5.out.imp id (fun h => h.trans (by simp)))
          exact AllReadyH.nil
        exact AllReadyH.nil
      exact AllReadyH.nil
    exact AllReadyH.nil
end Go.Proofs.YtefldbbiajkbnaaGreatDoor

/-
  Package scope: Check.
-/
namespace Go.Proofs.YtefldbbiajkbnaaGreatDoor
open Go.RowKit Lx Tx Sx Go.Maps Go.WideMaps Go.Shelf
set_option maxRecDepth 100000

/-- an element of a map that is written out -/
theorem wpList_ins {V : Type} (m : MK V) (w : World) {ops : Array Oper} {rest : List Oper} {o : Oper} {a : Act} {Q : Exit → Act → World → Prop}
    (hg : o.guard = none) (mo x vo : Operand) (hop : o.op = Op.insert m.t mo x vo) (b : Nat) (r : List (Name × V)) (hm : a.eval mo = .map (some b)) (h : MapE m w b r) (hn : r.length < 100000000000000) (X : ByteArray) (hX : X.size ≤ maxLen)
    (hx : a.eval x = .string X) (v : V) (hok : m.ok v) (hv : a.eval vo = m.val v) (hK : ∀ w', MapE m w' b ((X.data.toList, v) :: r) → w.grownBy w' (some b) → wpList Tryz.prog ops Q rest (a.put o.dst undef) w') :
    wpList Tryz.prog ops Q (o :: rest) a w := by
  obtain ⟨n, hnr, h⟩ := h
  refine wpList_plain hg fun K' hK' => ?_
  obtain ⟨w', hrun, r1, r2⟩ := h.update strKeyed m.hT (by unfold maxLen; omega) (strKey X hX) (m.hR v hok)
  unfold Oper.wp
  simp [execOp, hop, hm, hx, hv, hrun, Result.andThen]
  exact hK' _ _ (hK w' (MapE.of (r := (X.data.toList, v) :: r) r1) r2)

set_option maxHeartbeats 3200000 in
theorem sc_misused_no (da co si bi : Nat) (k0 : Int) (hk : k0 ≠ 3) (X : ByteArray) (A0 : Option Addr) (m0 c0 : Nat) (A1 : Option Addr) (m1 c1 : Nat) (K0 : Int) (X0 : ByteArray) (Z0 : Int) (B0 : Option Addr) (n0 d0 : Nat) (k1 : Int) (X1 : ByteArray) (t1 : Bool) (K1 : Int) (X2 : ByteArray) (Z1 : Int) (B1 : Option Addr) (n1 d1 : Nat) (C1 : Option Addr) (p1 e1 : Nat) (D1 : Option Addr) (q1 f1 : Nat) (w : World) :
    Calls Tryz.prog 81 #[.agg #[.map (some da), .map (some co), .map (some si), .map (some bi)],
      .agg #[.int .i64 k0, .string X, .slice A0 m0 c0, .slice A1 m1 c1, .int .i64 K0, .string X0, .int .i64 Z0, .slice B0 n0 d0, .int .i64 k1, .string X1, .bool t1, .int .i64 K1, .string X2, .int .i64 Z1, .slice B1 n1 d1, .slice C1 p1 e1, .slice D1 q1 f1]] w fun e w' => e = .returned (.slice none 0 0) ∧ Below w.heap.size w w' := by
  obtain ⟨W, hW⟩ : ∃ W, (w.alloc (.cells #[.map (some da), .map (some co), .map (some si), .map (some bi)] 136)).alloc (.cells #[.int .i64 k0, .string X, .slice A0 m0 c0, .slice A1 m1 c1, .int .i64 K0, .string X0, .int .i64 Z0, .slice B0 n0 d0, .int .i64 k1, .string X1, .bool t1, .int .i64 K1, .string X2, .int .i64 Z1, .slice B1 n1 d1, .slice C1 p1 e1, .slice D1 q1 f1] 59) = W := ⟨_, rfl⟩
  have hb : Below w.heap.size w W := hW ▸ ((Below.refl _ w).alloc (Nat.le_refl _) _).alloc (by simp) _
  have b1 : Blk W (w.heap.size + 1) 59 #[.int .i64 k0, .string X, .slice A0 m0 c0, .slice A1 m1 c1, .int .i64 K0, .string X0, .int .i64 Z0, .slice B0 n0 d0, .int .i64 k1, .string X1, .bool t1, .int .i64 K1, .string X2, .int .i64 Z1, .slice B1 n1 d1, .slice C1 p1 e1, .slice D1 q1 f1] := hW ▸ two_top _ _ _ _ rfl
  have g0 : W.cell? ⟨w.heap.size + 1, 0, none⟩ = some (.int .i64 k0) := b1.cell 0
  have d : (k0 != 3) = true := by simpa using hk
  have HB := hidE hb
  clear b1 hb hk
  go_enter Tryz.func81, Tryz.ntmps81
  go_wp2_with fail
  go_ret
  exact ⟨rfl, HB.out⟩

/-- the look for what is misused -/
theorem sc_look2 {da co : Nat} (hd : da < co) (m : Mets) (x : De) (S : Nat → Prop) (cs : List Value) (w : World) (hM : MetsAt da co m w) (hv : pcD.Cs S w x cs) (hS : ∀ g, S g → g < w.heap.size ∧ ¬ metB da co g) (hsz : m.size + x.wt ≤ 9000) (hok : De.Ok x) :
    Calls Tryz.prog 81 #[.agg #[.map (some da), .map (some co), .map (some (co + 1)), .map (some (co + 2))], .agg cs.toArray] w (LPostF da co w (lookA 2 m x) (MetsAt da co (nextA 2 m x))) := by
  have hno : ∀ e w', (e = .returned (.slice none 0 0) ∧ Below w.heap.size w w') → LPostF da co w none (MetsAt da co m) e w' := by
    rintro e w' ⟨rfl, hb⟩
    exact LPostF.none hb (fun W h => (hM.below hb).below h)
  cases x with
  | data n ps l =>
    obtain ⟨V, v, A, a, rfl, -⟩ := hv
    exact (sc_misused_no da co (co + 1) (co + 2) 1 (by decide) ⟨n.toArray⟩ V ps.length v A l.length a 0 ⟨#[]⟩ 0 none 0 0 0 ⟨#[]⟩ false 0 ⟨#[]⟩ 0 none 0 0 none 0 0 none 0 0 w).mono hno
  | sig n t =>
    obtain ⟨A, a, rfl, -⟩ := hv
    obtain ⟨K, X, Z, B, mm, q, hs⟩ := tyC_shape (some t) A a
    rw [show ([.int .i64 2, Sx.strV n, .slice none 0 0, .slice none 0 0] ++ tyV t A a ++ exZl).toArray = #[.int .i64 2, .string ⟨n.toArray⟩, .slice none 0 0, .slice none 0 0, .int .i64 K, .string X, .int .i64 Z, .slice B mm q, .int .i64 0, .string ⟨#[]⟩, .bool false, .int .i64 0, .string ⟨#[]⟩, .int .i64 0, .slice none 0 0, .slice none 0 0, .slice none 0 0] by rw [show tyV t A a = tyC (some t) A a from rfl, hs]; rfl]
    exact (sc_misused_no da co (co + 1) (co + 2) 2 (by decide) ⟨n.toArray⟩ none 0 0 none 0 0 K X Z B mm q 0 ⟨#[]⟩ false 0 ⟨#[]⟩ 0 none 0 0 none 0 0 none 0 0 w).mono hno
  | bind n e =>
    obtain ⟨P, rfl, h1, h2⟩ := hv
    obtain ⟨k1, x1, t1, K1, X1, Z1, B1, m1, q1, KA1, kn1, kc1, LA1, ln1, lc1, hs⟩ := exC_shape e P
    have hx : RdX S w e (.agg (exC e P).toArray) := rdX_cs.2 ⟨P, rfl, h1, h2⟩
    rw [hs] at hx
    rw [show ([.int .i64 3, Sx.strV n, .slice none 0 0, .slice none 0 0] ++ tyZl ++ exC e P).toArray = #[.int .i64 3, .string ⟨n.toArray⟩, .slice none 0 0, .slice none 0 0, .int .i64 0, .string ⟨#[]⟩, .int .i64 0, .slice none 0 0, .int .i64 k1, .string x1, .bool t1, .int .i64 K1, .string X1, .int .i64 Z1, .slice B1 m1 q1, .slice KA1 kn1 kc1, .slice LA1 ln1 lc1] by rw [hs]; rfl]
    exact sc_misused_bind hd m n e S k1 x1 t1 K1 X1 Z1 B1 m1 q1 KA1 kn1 kc1 LA1 ln1 lc1 w hM hx hS (by simp only [De.wt] at hsz; omega) hok.2

/-- the three looks, by number -/
def lkF (j : Nat) : Nat := if j = 0 then 79 else if j = 1 then 80 else 81
theorem lkF_ek (j : Nat) : ∀ args w, (callFunc (lkF j) args).run Tryz.prog w = .ok (.enter (lkF j) args) w := by
  unfold lkF
  split
  · exact enters_of Tryz.func79 (by kernel_rfl) rfl
  · split
    · exact enters_of Tryz.func80 (by kernel_rfl) rfl
    · exact enters_of Tryz.func81 (by kernel_rfl) rfl
theorem sc_look {da co : Nat} (hd : da < co) (j : Nat) (hj : j < 3) (m : Mets) (x : De) (S : Nat → Prop) (cs : List Value) (w : World) (hM : MetsAt da co m w) (hv : pcD.Cs S w x cs) (hS : ∀ g, S g → g < w.heap.size ∧ ¬ metB da co g) (hsz : m.size + x.wt ≤ 9000) (hok : De.Ok x) :
    Calls Tryz.prog (lkF j) #[.agg #[.map (some da), .map (some co), .map (some (co + 1)), .map (some (co + 2))], .agg cs.toArray] w (LPostF da co w (lookA j m x) (MetsAt da co (nextA j m x))) := by
  match j, hj with
  | 0, _ => exact sc_look0 hd m x S cs w hM hv hS (by omega) hok
  | 1, _ => exact sc_look1 hd m x S cs w hM hv (by omega) hok
  | 2, _ => exact sc_look2 hd m x S cs w hM hv hS hsz hok
end Go.Proofs.YtefldbbiajkbnaaGreatDoor
