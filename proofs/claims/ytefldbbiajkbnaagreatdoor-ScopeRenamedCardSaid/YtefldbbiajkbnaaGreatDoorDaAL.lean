/-
  Contracts of the code's functions, part 38.
-/
import Derived.Test.YtefldbbiajkbnaaGreatDoorDaAK
import Derived.Test.YtefldbbiajkbnaaGreatDoorDaAF
import Derived.Deep.RegionHeld3
/-
  Package scope: what goes through an expression, case by case.
-/
namespace Go.Proofs.YtefldbbiajkbnaaGreatDoor
open Go.RowKit Lx Tx Sx Go.Shelf
set_option maxRecDepth 100000

theorem Sta.pre {σ : Type} {I : Nat → σ → (Nat → Prop) → World → Prop} {M0 : Nat → Prop} {w w0 W : World} {c : Nat} {s : σ} (h : Sta I M0 w0 c s W) (hb : Below w.heap.size w w0) : Sta I M0 w c s W := by
  obtain ⟨M, h1, h2, h3⟩ := h
  refine ⟨M, h1, fun g hg => ?_, (Chg.of_below hb).trans h3⟩
  rcases h2 g hg with h | h
  · exact .inl h
  · exact .inr (Nat.le_trans hb.size h)
theorem Sta.callB {σ : Type} {I : Nat → σ → (Nat → Prop) → World → Prop} (hI : InvB I) {M0 : Nat → Prop} {w0 Wp W : World} {c c' : Nat} {s s' : σ} (h : Sta I M0 w0 c s Wp) (hb : Below Wp.heap.size Wp W) {P : Program} {F : Nat} {args : Array Value}
    (hc : ∀ M, I c s M W → (∀ g, M g → (M0 g ∨ w0.heap.size ≤ g) ∧ g < Wp.heap.size) → Calls P F args W fun e w' => e = .returned (.tuple #[]) ∧ Sta I M W c' s' w') :
    Calls P F args W fun e w' => e = .returned (.tuple #[]) ∧ Sta I M0 w0 c' s' w' := by
  obtain ⟨M, h1, h2, h3⟩ := h
  have hlt := hI.lt _ _ _ _ h1
  have h3' : Chg M0 w0 W := h3.below hb
  refine (hc M (hI.keep _ _ _ _ _ h1 hb) (fun g hg => ⟨h2 g hg, hlt g hg⟩)).mono ?_
  rintro e w' ⟨rfl, M', k1, k2, k3⟩
  refine ⟨rfl, M', k1, fun g hg => ?_, h3'.trans' k3 (fun i hi hm => ?_)⟩
  · rcases k2 g hg with h | h
    · exact h2 g h
    · exact .inr (Nat.le_trans h3'.size h)
  · rcases h2 i hm with h | h
    · exact h
    · omega
/-- blocks that were there at the begin, and are none of the closure's; or have just been made -/
def OldNew (M0 : Nat → Prop) (w0 Wp W : World) (g : Nat) : Prop := (g < w0.heap.size ∧ ¬ M0 g) ∨ (Wp.heap.size ≤ g ∧ g < W.heap.size)
theorem OldNew.no {M0 M : Nat → Prop} {w0 Wp W : World} {g : Nat} (h : OldNew M0 w0 Wp W g) (hM : M g → (M0 g ∨ w0.heap.size ≤ g) ∧ g < Wp.heap.size) (h0 : w0.heap.size ≤ Wp.heap.size) (h1 : Wp.heap.size ≤ W.heap.size) : g < W.heap.size ∧ ¬ M g := by
  rcases h with ⟨a, b⟩ | ⟨a, b⟩
  · refine ⟨by omega, fun e => ?_⟩
    rcases (hM e).1 with x | x
    · exact b x
    · omega
  · exact ⟨b, fun e => by have := (hM e).2; omega⟩
/-- the closure is handed an event whose names lie in such blocks -/
theorem evS {σ : Type} {k : Nat} {caps : Array Value} {B : Nat} {I : Nat → σ → (Nat → Prop) → World → Prop} {st : Ev → σ → σ} (hI : InvB I) (HV : VisE k caps B I st) {M0 : Nat → Prop} {w0 Wp W : World} {c : Nat} {s : σ} (h : Sta I M0 w0 c s Wp) (hb : Below Wp.heap.size Wp W)
    (S2 : Nat → Prop) (hS2 : ∀ g, S2 g → OldNew M0 w0 Wp W g) (ev : Ev) (V : Option Addr) (v : Nat) (hN : NmsIn S2 W (evN ev) V) (hl : ∀ x ∈ evN ev, x.length ≤ 24) (hc : c + evL ev ≤ B) :
    Calls Tryz.prog k (#[.int .i64 (evW ev), .slice V (evN ev).length v] ++ caps) W fun e w' => e = .returned (.tuple #[]) ∧ Sta I M0 w0 (c + evL ev) (st ev s) w' :=
  h.callB hI hb fun M i2 hM => HV c s M ev S2 V v W i2 hN (fun g hg => (hS2 g hg).no (hM g) h.size hb.size) hl hc
/-- one name that was just laid -/
theorem nms1 {W : World} (X : ByteArray) (x : Nm) (hx : (⟨x.toArray⟩ : ByteArray) = X) (t : TypeId) : NmsIn (fun g => g = W.heap.size) (W.alloc (.cells #[.string X] t)) [x] (some ⟨W.heap.size, 0, none⟩) := fun _ =>
  ⟨_, rfl, rfl, lie_blk (t := t) (cs := [.string X]) (heap_alloc_new _ _) |> fun h => by simpa [Sx.strV, hx] using h⟩
/-- an event with one name that was just laid -/
theorem ev1 {σ : Type} {k : Nat} {caps : Array Value} {B : Nat} {I : Nat → σ → (Nat → Prop) → World → Prop} {st : Ev → σ → σ} (hI : InvB I) (HV : VisE k caps B I st) {M0 : Nat → Prop} {w0 W : World} {c : Nat} {s : σ} (h : Sta I M0 w0 c s W)
    (ev : Ev) (x : Nm) (X : ByteArray) (q : Nat) (hq : evL ev = q) (hev : evN ev = [x]) (hx : (⟨x.toArray⟩ : ByteArray) = X) (hl : x.length ≤ 24) (hc : c + q ≤ B) :
    Calls Tryz.prog k (#[.int .i64 (evW ev), .slice (some ⟨W.heap.size, 0, none⟩) 1 1] ++ caps) (W.alloc (.cells #[.string X] 9)) fun e w' => e = .returned (.tuple #[]) ∧ Sta I M0 w0 (c + q) (st ev s) w' := by
  have := evS hI HV h ((Below.refl _ W).alloc (Nat.le_refl _) (.cells #[.string X] 9)) (fun g => g = W.heap.size) (fun g hg => .inr ⟨by omega, by simp; omega⟩) ev (some ⟨W.heap.size, 0, none⟩) 1 (by rw [hev]; exact nms1 X x hx _) (by rw [hev]; simpa using hl) (by rw [hq]; exact hc)
  rw [hev, hq] at this
  exact this
/-- within is called: its parts, its names lie in such blocks -/
theorem wiS {σ : Type} {n k : Nat} {caps : Array Value} {B : Nat} {I : Nat → σ → (Nat → Prop) → World → Prop} {st : Ev → σ → σ} (hI : InvB I) (ek : ∀ args w, (callFunc k args).run Tryz.prog w = .ok (.enter k args) w) (HV : VisE k caps B I st) (HW : WalkOK n k caps B I st)
    {M0 : Nat → Prop} {w0 Wp W : World} {c : Nat} {s : σ} (h : Sta I M0 w0 c s Wp) (hb : Below Wp.heap.size Wp W) (S2 : Nat → Prop) (hS2 : ∀ g, S2 g → OldNew M0 w0 Wp W g) (l : List Ex) (xs : List Nm) (A : Option Addr) (d : Nat) (V : Option Addr) (v bx : Nat)
    (hp : PartsAt S2 W l A) (hx : NmsIn S2 W xs V) (hbx : W.cell? ⟨bx, 0, none⟩ = some (.func (.func k) #[] caps)) (hb0 : bx < w0.heap.size) (hbM : ¬ M0 bx) (hok : ∀ e ∈ l, e.Ok ∧ e.size ≤ n) (hxs : ∀ x ∈ xs, x.length ≤ 24) (hln : l.length ≤ 100000) (hB : c + cost (wEv xs l) ≤ B) :
    Calls Tryz.prog 162 #[.slice A l.length d, .slice V xs.length v, .pointer (some ⟨bx, 0, none⟩)] W fun e w' => e = .returned (.tuple #[]) ∧ Sta I M0 w0 (c + cost (wEv xs l)) (runS st (wEv xs l) s) w' :=
  h.callB hI hb fun M i2 hM => sc_within n k caps B I st hI ek HV HW l xs c s M S2 A d V v bx W i2 hp hx (fun g hg => (hS2 g hg).no (hM g) h.size hb.size) hbx
    (fun e => by rcases (hM bx e).1 with x | x; exact hbM x; omega) hok hxs hln hB
/-- what holds of walk's own two blocks -/
structure Box (k : Nat) (caps : Array Value) (M S : Nat → Prop) (w W0 : World) (cs : Array Value) : Prop where
  b0 : Blk W0 w.heap.size 39 cs
  b1 : Blk W0 (w.heap.size + 1) 189 #[.func (.func k) #[] caps]
  sz : W0.heap.size = w.heap.size + 2
  lw : Below w.heap.size w W0
  s : ∀ g, S g → g < w.heap.size ∧ ¬ M g
  m : ∀ g, M g → g < w.heap.size
theorem Box.old {k : Nat} {caps cs : Array Value} {M S : Nat → Prop} {w W0 Wp W : World} (h : Box k caps M S w W0 cs) (g : Nat) (hg : S g) : OldNew M W0 Wp W g := .inl ⟨by have := (h.s g hg).1; have := h.sz; omega, (h.s g hg).2⟩
theorem Box.at_ {σ : Type} {I : Nat → σ → (Nat → Prop) → World → Prop} {k : Nat} {caps cs : Array Value} {M S : Nat → Prop} {w W0 W : World} {c : Nat} {s : σ} (h : Box k caps M S w W0 cs) (hs : Sta I M W0 c s W) :
    Blk W w.heap.size 39 cs ∧ Blk W (w.heap.size + 1) 189 #[.func (.func k) #[] caps] ∧ w.heap.size + 2 ≤ W.heap.size ∧ ∀ g, S g → W.heap[g]? = w.heap[g]? := by
  have h2 := h.sz
  have h3 := hs.size
  refine ⟨h.b0.same (hs.block _ (by omega) (fun e => by have := h.m _ e; omega)), h.b1.same (hs.block _ (by omega) (fun e => by have := h.m _ e; omega)), by omega, fun g hg => ?_⟩
  have := h.s g hg
  exact (hs.block g (by omega) this.2).trans (h.lw.block g this.1)

set_option maxHeartbeats 6400000 in
theorem sc_walk_var {σ : Type} (k : Nat) (caps : Array Value) (B : Nat) (I : Nat → σ → (Nat → Prop) → World → Prop) (st : Ev → σ → σ) (hI : InvB I) (ek : ∀ args w, (callFunc k args).run Tryz.prog w = .ok (.enter k args) w) (HV : VisE k caps B I st)
    (x : Nm) (c : Nat) (s : σ) (M S : Nat → Prop) (v : Value) (w : World) (hi : I c s M w) (hv : RdX S w (Ex.var x : Ex) v) (hS : ∀ g, S g → g < w.heap.size ∧ ¬ M g) (hok : (Ex.var x : Ex).Ok) (hB : c + cost (evs (Ex.var x)) ≤ B) :
    Calls Tryz.prog 122 #[v, .func (.func k) #[] caps] w fun e' w' => e' = .returned (.tuple #[]) ∧ Sta I M w (c + cost (evs (Ex.var x))) (runS st (evs (Ex.var x)) s) w' := by
  have ew : ∀ args w, (callFunc 162 args).run Tryz.prog w = .ok (.enter 162 args) w := enters_of Tryz.func162 (by kernel_rfl) rfl
  have mk : ∀ (W : World) (p : Addr), (Instr.makeFunc (.func 162) #[] #[.pointer (some p)]).run Tryz.prog W = .ok (.func (.func 162) #[] #[.pointer (some p)]) W := fun _ _ => rfl
  obtain ⟨K, X, Z, A0, m, q, KA, kc, LA, lc, rfl, hin⟩ := hv.shape
  simp only [kdE, nmE, toE, kidsE, altsE, List.length_nil] at hin ⊢
  have hlt := hI.lt _ _ _ _ hi
  obtain ⟨Y, hY⟩ : ∃ Y : ByteArray, ⟨x.toArray⟩ = Y := ⟨_, rfl⟩
  rw [hY]
  have hx24 : x.length ≤ 24 := gd_len (show Gd 1 x from hok) (by decide)
  have hcs : cost (evs (Ex.var x)) = 1 := rfl
  rw [hcs] at hB ⊢
  obtain ⟨W0, hW0⟩ : ∃ W, (w.alloc (.cells #[.int .i64 1, .string Y, .bool false, .int .i64 K, .string X, .int .i64 Z, .slice A0 m q, .slice KA 0 kc, .slice LA 0 lc] 39)).alloc (.cells #[.func (.func k) #[] caps] 189) = W := ⟨_, rfl⟩
  have hbx : Box k caps M S w W0 #[.int .i64 1, .string Y, .bool false, .int .i64 K, .string X, .int .i64 Z, .slice A0 m q, .slice KA 0 kc, .slice LA 0 lc] := by
    refine ⟨hW0 ▸ Blk.below (heap_alloc_new w _) ((Below.refl _ _).alloc (Nat.le_refl _) _) (by simp), hW0 ▸ two_top _ _ _ _ rfl, by rw [← hW0]; simp, hW0 ▸ ((Below.refl _ w).alloc (Nat.le_refl _) _).alloc (by simp) _, hS, hlt⟩
  have hst := Sta.init (hI.keep _ _ _ _ W0 hi hbx.lw)
  have HBX := hidE hbx
  have S0 := hidE hst
  have HLW := hidE hbx.lw
  obtain ⟨b0, b1, hsw, -⟩ := hbx.at_ hst
  obtain ⟨⟨g0, g1, g2, g3, g4, g5, g6, g7, g8⟩, -, -⟩ := blk_facts9 b0
  have d0 := b1.cell 0
  replace d0 : W0.cell? ⟨w.heap.size + 1, 0, none⟩ = some (.func (.func k) #[] caps) := d0

  have HEV := hidE (ev1 hI HV hst (.use x) x Y 1 rfl rfl hY hx24 hB)
  simp only [evW] at HEV
  clear hbx hst b0 b1 hi hv hS hok hB hin hlt HV
  go_enter Tryz.func122, Tryz.ntmps122
  go_upto_region 2 with fail
  try rw [hW0]
  clear hW0

  go_wp2_with fail
  refine HEV.out.mono ?_
  rintro e1 w1 ⟨rfl, s1⟩
  have S1 := hidE s1
  clear s1 HEV g0 g1 g2 g3 g4 g5 g6 g7 g8 d0
  obtain ⟨b0, b1, hsw, hkS⟩ := HBX.out.at_ S1.out
  obtain ⟨⟨g0, g1, g2, g3, g4, g5, g6, g7, g8⟩, -, -⟩ := blk_facts9 b0
  have d0 := b1.cell 0
  replace d0 : w1.cell? ⟨w.heap.size + 1, 0, none⟩ = some (.func (.func k) #[] caps) := d0
  clear b0 b1
  go_wp2_with fail
  go_loopg [72] 0 (fun gg vi wr => gg = 0 ∧ vi = .int .i64 0 ∧ Hid (wr = w1))
  case atStart => exact ⟨rfl, rfl, hidE rfl⟩
  case round =>
    obtain ⟨rfl, rfl, hw⟩ := hrel
    have hw := hw.out
    subst hw
    go_wp2_with fail
    first | go_end0 | refine bodyPost_ret (results_none rfl _ _ _) rfl ?_
    refine ⟨rfl, ?_⟩
    have := S1.out.pre HLW.out
    exact this

set_option maxHeartbeats 6400000 in
theorem sc_walk_con {σ : Type} (k : Nat) (caps : Array Value) (B : Nat) (I : Nat → σ → (Nat → Prop) → World → Prop) (st : Ev → σ → σ) (hI : InvB I) (ek : ∀ args w, (callFunc k args).run Tryz.prog w = .ok (.enter k args) w) (HV : VisE k caps B I st)
    (x : Nm) (c : Nat) (s : σ) (M S : Nat → Prop) (v : Value) (w : World) (hi : I c s M w) (hv : RdX S w (Ex.con x : Ex) v) (hS : ∀ g, S g → g < w.heap.size ∧ ¬ M g) (hok : (Ex.con x : Ex).Ok) (hB : c + cost (evs (Ex.con x)) ≤ B) :
    Calls Tryz.prog 122 #[v, .func (.func k) #[] caps] w fun e' w' => e' = .returned (.tuple #[]) ∧ Sta I M w (c + cost (evs (Ex.con x))) (runS st (evs (Ex.con x)) s) w' := by
  have ew : ∀ args w, (callFunc 162 args).run Tryz.prog w = .ok (.enter 162 args) w := enters_of Tryz.func162 (by kernel_rfl) rfl
  have mk : ∀ (W : World) (p : Addr), (Instr.makeFunc (.func 162) #[] #[.pointer (some p)]).run Tryz.prog W = .ok (.func (.func 162) #[] #[.pointer (some p)]) W := fun _ _ => rfl
  obtain ⟨K, X, Z, A0, m, q, KA, kc, LA, lc, rfl, hin⟩ := hv.shape
  simp only [kdE, nmE, toE, kidsE, altsE, List.length_nil] at hin ⊢
  have hlt := hI.lt _ _ _ _ hi
  obtain ⟨Y, hY⟩ : ∃ Y : ByteArray, ⟨x.toArray⟩ = Y := ⟨_, rfl⟩
  rw [hY]
  have hx24 : x.length ≤ 24 := gd_len (show Gd 2 x from hok) (by decide)
  have hcs : cost (evs (Ex.con x)) = 1 := rfl
  rw [hcs] at hB ⊢
  obtain ⟨W0, hW0⟩ : ∃ W, (w.alloc (.cells #[.int .i64 2, .string Y, .bool false, .int .i64 K, .string X, .int .i64 Z, .slice A0 m q, .slice KA 0 kc, .slice LA 0 lc] 39)).alloc (.cells #[.func (.func k) #[] caps] 189) = W := ⟨_, rfl⟩
  have hbx : Box k caps M S w W0 #[.int .i64 2, .string Y, .bool false, .int .i64 K, .string X, .int .i64 Z, .slice A0 m q, .slice KA 0 kc, .slice LA 0 lc] := by
    refine ⟨hW0 ▸ Blk.below (heap_alloc_new w _) ((Below.refl _ _).alloc (Nat.le_refl _) _) (by simp), hW0 ▸ two_top _ _ _ _ rfl, by rw [← hW0]; simp, hW0 ▸ ((Below.refl _ w).alloc (Nat.le_refl _) _).alloc (by simp) _, hS, hlt⟩
  have hst := Sta.init (hI.keep _ _ _ _ W0 hi hbx.lw)
  have HBX := hidE hbx
  have S0 := hidE hst
  have HLW := hidE hbx.lw
  obtain ⟨b0, b1, hsw, -⟩ := hbx.at_ hst
  obtain ⟨⟨g0, g1, g2, g3, g4, g5, g6, g7, g8⟩, -, -⟩ := blk_facts9 b0
  have d0 := b1.cell 0
  replace d0 : W0.cell? ⟨w.heap.size + 1, 0, none⟩ = some (.func (.func k) #[] caps) := d0

  have HEV := hidE (ev1 hI HV hst (.cn x) x Y 1 rfl rfl hY hx24 hB)
  simp only [evW] at HEV
  clear hbx hst b0 b1 hi hv hS hok hB hin hlt HV
  go_enter Tryz.func122, Tryz.ntmps122
  go_upto_region 2 with fail
  try rw [hW0]
  clear hW0

  go_wp2_with fail
  refine HEV.out.mono ?_
  rintro e1 w1 ⟨rfl, s1⟩
  have S1 := hidE s1
  clear s1 HEV g0 g1 g2 g3 g4 g5 g6 g7 g8 d0
  obtain ⟨b0, b1, hsw, hkS⟩ := HBX.out.at_ S1.out
  obtain ⟨⟨g0, g1, g2, g3, g4, g5, g6, g7, g8⟩, -, -⟩ := blk_facts9 b0
  have d0 := b1.cell 0
  replace d0 : w1.cell? ⟨w.heap.size + 1, 0, none⟩ = some (.func (.func k) #[] caps) := d0
  clear b0 b1
  go_wp2_with fail
  go_loopg [72] 0 (fun gg vi wr => gg = 0 ∧ vi = .int .i64 0 ∧ Hid (wr = w1))
  case atStart => exact ⟨rfl, rfl, hidE rfl⟩
  case round =>
    obtain ⟨rfl, rfl, hw⟩ := hrel
    have hw := hw.out
    subst hw
    go_wp2_with fail
    first | go_end0 | refine bodyPost_ret (results_none rfl _ _ _) rfl ?_
    refine ⟨rfl, ?_⟩
    have := S1.out.pre HLW.out
    exact this

set_option maxHeartbeats 6400000 in
theorem sc_walk_lam {σ : Type} (n k : Nat) (caps : Array Value) (B : Nat) (I : Nat → σ → (Nat → Prop) → World → Prop) (st : Ev → σ → σ) (hI : InvB I) (ek : ∀ args w, (callFunc k args).run Tryz.prog w = .ok (.enter k args) w) (HV : VisE k caps B I st) (HW : WalkOK n k caps B I st)
    (x : Nm) (e : Ex) (c : Nat) (s : σ) (M S : Nat → Prop) (v : Value) (w : World) (hi : I c s M w) (hv : RdX S w (Ex.lam x e : Ex) v) (hS : ∀ g, S g → g < w.heap.size ∧ ¬ M g) (hok : (Ex.lam x e : Ex).Ok) (hsz : (Ex.lam x e : Ex).size ≤ n + 1) (hB : c + cost (evs (Ex.lam x e)) ≤ B) :
    Calls Tryz.prog 122 #[v, .func (.func k) #[] caps] w fun e' w' => e' = .returned (.tuple #[]) ∧ Sta I M w (c + cost (evs (Ex.lam x e))) (runS st (evs (Ex.lam x e)) s) w' := by
  have ew : ∀ args w, (callFunc 162 args).run Tryz.prog w = .ok (.enter 162 args) w := enters_of Tryz.func162 (by kernel_rfl) rfl
  have mk : ∀ (W : World) (p : Addr), (Instr.makeFunc (.func 162) #[] #[.pointer (some p)]).run Tryz.prog W = .ok (.func (.func 162) #[] #[.pointer (some p)]) W := fun _ _ => rfl
  obtain ⟨K, X, Z, A0, m, q, KA, kc, LA, lc, rfl, hin⟩ := hv.shape
  simp only [kdE, nmE, toE, kidsE, altsE, List.length_cons, List.length_nil, Nat.zero_add] at hin ⊢
  have hlt := hI.lt _ _ _ _ hi
  obtain ⟨Y, hY⟩ : ∃ Y : ByteArray, ⟨x.toArray⟩ = Y := ⟨_, rfl⟩
  rw [hY]
  have hx24 : x.length ≤ 24 := gd_len (show Gd 1 x from hok.1) (by decide)
  have hev : evs (Ex.lam x e) = .bi [x] :: wEv [x] [e] := by simp [evs, wEv]
  rw [hev] at hB ⊢
  rw [cost_cons] at hB ⊢
  rw [runS_cons]
  simp only [evL, List.length_cons, List.length_nil, Nat.zero_add] at hB ⊢
  obtain ⟨W0, hW0⟩ : ∃ W, (w.alloc (.cells #[.int .i64 3, .string Y, .bool false, .int .i64 K, .string X, .int .i64 Z, .slice A0 m q, .slice KA 1 kc, .slice LA 0 lc] 39)).alloc (.cells #[.func (.func k) #[] caps] 189) = W := ⟨_, rfl⟩
  have hbx : Box k caps M S w W0 #[.int .i64 3, .string Y, .bool false, .int .i64 K, .string X, .int .i64 Z, .slice A0 m q, .slice KA 1 kc, .slice LA 0 lc] := by
    refine ⟨hW0 ▸ Blk.below (heap_alloc_new w _) ((Below.refl _ _).alloc (Nat.le_refl _) _) (by simp), hW0 ▸ two_top _ _ _ _ rfl, by rw [← hW0]; simp, hW0 ▸ ((Below.refl _ w).alloc (Nat.le_refl _) _).alloc (by simp) _, hS, hlt⟩
  have hst := Sta.init (hI.keep _ _ _ _ W0 hi hbx.lw)
  have HBX := hidE hbx
  have S0 := hidE hst
  have HLW := hidE hbx.lw
  obtain ⟨b0, b1, hsw, -⟩ := hbx.at_ hst
  obtain ⟨⟨g0, g1, g2, g3, g4, g5, g6, g7, g8⟩, -, -⟩ := blk_facts9 b0
  have d0 := b1.cell 0
  replace d0 : W0.cell? ⟨w.heap.size + 1, 0, none⟩ = some (.func (.func k) #[] caps) := d0

  have HEV := hidE (ev1 hI HV hst (.bi [x]) x Y 2 rfl rfl hY hx24 (by omega))
  simp only [evW] at HEV
  have hpar : PartsAt S w [e] KA := fun _ => by
    obtain ⟨g, h1, h2, h3⟩ := ((kids_at (Ex.lam x e) KA LA).1 hin).1 (by simp [kidsE])
    exact ⟨g, 0, h1, h2, h3⟩
  have HPAR := hidE hpar
  have HWI := hidE (fun (w1 : World) (s1 : Sta I M W0 (c + 2) (st (.bi [x]) s) w1) => wiS hI ek HV HW s1 ((Below.refl _ w1).alloc (Nat.le_refl _) (.cells #[.string Y] 9)) (fun g => S g ∨ g = w1.heap.size) (fun g hg => by
      rcases hg with h | h
      · exact hbx.old g h
      · exact .inr ⟨by omega, by simp; omega⟩) [e] [x] KA kc (some ⟨w1.heap.size, 0, none⟩) 1 (w.heap.size + 1)
    (hpar.keep (fun g hg => .inl hg) (fun g hg => (Below.heap_alloc _ _ _ (by have := (hS g hg).1; have := (hbx.at_ s1).2.2.1; omega)).trans ((hbx.at_ s1).2.2.2 g hg)))
    ((nms1 Y x hY _).keep (fun g hg => .inr hg) (fun _ _ => rfl)) (((hbx.at_ s1).2.1.alloc _).cell 0) (by have := hbx.sz; omega) (fun e => by have := hlt _ e; omega) (by simp; exact ⟨hok.2, by simp only [Ex.size] at hsz; omega⟩) (by simpa using hx24) (by simp) (by omega))
  simp only [List.length_cons, List.length_nil, Nat.zero_add] at HWI
  clear hbx hst b0 b1 hi hv hS hok hsz hB hin hlt HV HW hpar
  go_enter Tryz.func122, Tryz.ntmps122
  go_upto_region 2 with fail
  try rw [hW0]
  clear hW0

  go_wp2_with fail
  refine HEV.out.mono ?_
  rintro e1 w1 ⟨rfl, s1⟩
  have S1 := hidE s1
  have HWW := hidE (HWI.out w1 s1)
  clear s1 HEV HWI g0 g1 g2 g3 g4 g5 g6 g7 g8 d0
  obtain ⟨b0, b1, hsw, hkS⟩ := HBX.out.at_ S1.out
  obtain ⟨⟨g0, g1, g2, g3, g4, g5, g6, g7, g8⟩, -, -⟩ := blk_facts9 b0
  have d0 := b1.cell 0
  replace d0 : w1.cell? ⟨w.heap.size + 1, 0, none⟩ = some (.func (.func k) #[] caps) := d0
  clear b0 b1
  go_wp2_with fail
  refine HWW.out.mono ?_
  rintro e2 w2 ⟨rfl, s2⟩
  have S2 := hidE s2
  clear s2 HWW hsw g0 g1 g2 g3 g4 g5 g6 g7 g8 d0 hkS
  obtain ⟨b0, b1, hsw, hkS⟩ := HBX.out.at_ S2.out
  obtain ⟨⟨g0, g1, g2, g3, g4, g5, g6, g7, g8⟩, -, -⟩ := blk_facts9 b0
  have d0 := b1.cell 0
  replace d0 : w2.cell? ⟨w.heap.size + 1, 0, none⟩ = some (.func (.func k) #[] caps) := d0
  clear b0 b1
  go_wp2_with fail
  go_loopg [72] 0 (fun gg vi wr => gg = 0 ∧ vi = .int .i64 0 ∧ Hid (wr = w2))
  case atStart => exact ⟨rfl, rfl, hidE rfl⟩
  case round =>
    obtain ⟨rfl, rfl, hw⟩ := hrel
    have hw := hw.out
    subst hw
    go_wp2_with fail
    first | go_end0 | refine bodyPost_ret (results_none rfl _ _ _) rfl ?_
    refine ⟨rfl, ?_⟩
    have := S2.out.pre HLW.out
    rw [← Nat.add_assoc]
    exact this

set_option maxHeartbeats 6400000 in
theorem sc_walk_app {σ : Type} (n k : Nat) (caps : Array Value) (B : Nat) (I : Nat → σ → (Nat → Prop) → World → Prop) (st : Ev → σ → σ) (hI : InvB I) (ek : ∀ args w, (callFunc k args).run Tryz.prog w = .ok (.enter k args) w) (HV : VisE k caps B I st) (HW : WalkOK n k caps B I st)
    (a b : Ex) (c : Nat) (s : σ) (M S : Nat → Prop) (v : Value) (w : World) (hi : I c s M w) (hv : RdX S w (Ex.app a b : Ex) v) (hS : ∀ g, S g → g < w.heap.size ∧ ¬ M g) (hok : (Ex.app a b : Ex).Ok) (hsz : (Ex.app a b : Ex).size ≤ n + 1) (hB : c + cost (evs (Ex.app a b)) ≤ B) :
    Calls Tryz.prog 122 #[v, .func (.func k) #[] caps] w fun e' w' => e' = .returned (.tuple #[]) ∧ Sta I M w (c + cost (evs (Ex.app a b))) (runS st (evs (Ex.app a b)) s) w' := by
  have ew : ∀ args w, (callFunc 162 args).run Tryz.prog w = .ok (.enter 162 args) w := enters_of Tryz.func162 (by kernel_rfl) rfl
  have mk : ∀ (W : World) (p : Addr), (Instr.makeFunc (.func 162) #[] #[.pointer (some p)]).run Tryz.prog W = .ok (.func (.func 162) #[] #[.pointer (some p)]) W := fun _ _ => rfl
  obtain ⟨K, X, Z, A0, m, q, KA, kc, LA, lc, rfl, hin⟩ := hv.shape
  simp only [kdE, nmE, toE, kidsE, altsE, List.length_cons, List.length_nil, Nat.zero_add] at hin ⊢
  have hlt := hI.lt _ _ _ _ hi
  rw [show (⟨([] : Nm).toArray⟩ : ByteArray) = ⟨#[]⟩ from rfl]
  have hev : evs (Ex.app a b) = wEv [] [a, b] := by simp [evs, wEv]
  rw [hev] at hB ⊢
  obtain ⟨W0, hW0⟩ : ∃ W, (w.alloc (.cells #[.int .i64 4, .string ⟨#[]⟩, .bool false, .int .i64 K, .string X, .int .i64 Z, .slice A0 m q, .slice KA 2 kc, .slice LA 0 lc] 39)).alloc (.cells #[.func (.func k) #[] caps] 189) = W := ⟨_, rfl⟩
  have hbx : Box k caps M S w W0 #[.int .i64 4, .string ⟨#[]⟩, .bool false, .int .i64 K, .string X, .int .i64 Z, .slice A0 m q, .slice KA 2 kc, .slice LA 0 lc] := by
    refine ⟨hW0 ▸ Blk.below (heap_alloc_new w _) ((Below.refl _ _).alloc (Nat.le_refl _) _) (by simp), hW0 ▸ two_top _ _ _ _ rfl, by rw [← hW0]; simp, hW0 ▸ ((Below.refl _ w).alloc (Nat.le_refl _) _).alloc (by simp) _, hS, hlt⟩
  have hst := Sta.init (hI.keep _ _ _ _ W0 hi hbx.lw)
  have HBX := hidE hbx
  have S0 := hidE hst
  have HLW := hidE hbx.lw
  obtain ⟨b0, b1, hsw, -⟩ := hbx.at_ hst
  obtain ⟨⟨g0, g1, g2, g3, g4, g5, g6, g7, g8⟩, -, -⟩ := blk_facts9 b0
  have d0 := b1.cell 0
  replace d0 : W0.cell? ⟨w.heap.size + 1, 0, none⟩ = some (.func (.func k) #[] caps) := d0

  have hpar : PartsAt S w [a, b] KA := fun _ => by
    obtain ⟨g, h1, h2, h3⟩ := ((kids_at (Ex.app a b) KA LA).1 hin).1 (by simp [kidsE])
    exact ⟨g, 0, h1, h2, h3⟩
  have HWW := hidE (wiS hI ek HV HW hst (Below.refl _ W0) S (fun g hg => hbx.old g hg) [a, b] [] KA kc none 0 (w.heap.size + 1)
    (hpar.keep (fun _ h => h) (fun g hg => (hbx.at_ hst).2.2.2 g hg)) (fun h => absurd rfl h) (hbx.b1.cell 0) (by have := hbx.sz; omega) (fun e => by have := hlt _ e; omega) (by simp; exact ⟨⟨hok.1, by simp only [Ex.size] at hsz; omega⟩, hok.2, by simp only [Ex.size] at hsz; omega⟩) (by simp) (by simp) hB)
  simp only [List.length_cons, List.length_nil, Nat.zero_add] at HWW
  clear hbx hst b0 b1 hi hv hS hok hsz hB hin hlt HV HW hpar
  go_enter Tryz.func122, Tryz.ntmps122
  go_upto_region 2 with fail
  try rw [hW0]
  clear hW0

  go_wp2_with fail
  refine HWW.out.mono ?_
  rintro e1 w1 ⟨rfl, s1⟩
  have S1 := hidE s1
  clear s1 HWW g0 g1 g2 g3 g4 g5 g6 g7 g8 d0
  obtain ⟨b0, b1, hsw, hkS⟩ := HBX.out.at_ S1.out
  obtain ⟨⟨g0, g1, g2, g3, g4, g5, g6, g7, g8⟩, -, -⟩ := blk_facts9 b0
  have d0 := b1.cell 0
  replace d0 : w1.cell? ⟨w.heap.size + 1, 0, none⟩ = some (.func (.func k) #[] caps) := d0
  clear b0 b1
  go_wp2_with fail
  go_loopg [72] 0 (fun gg vi wr => gg = 0 ∧ vi = .int .i64 0 ∧ Hid (wr = w1))
  case atStart => exact ⟨rfl, rfl, hidE rfl⟩
  case round =>
    obtain ⟨rfl, rfl, hw⟩ := hrel
    have hw := hw.out
    subst hw
    go_wp2_with fail
    first | go_end0 | refine bodyPost_ret (results_none rfl _ _ _) rfl ?_
    refine ⟨rfl, ?_⟩
    have := S1.out.pre HLW.out
    exact this

set_option maxHeartbeats 6400000 in
theorem sc_walk_ann {σ : Type} (n k : Nat) (caps : Array Value) (B : Nat) (I : Nat → σ → (Nat → Prop) → World → Prop) (st : Ev → σ → σ) (hI : InvB I) (ek : ∀ args w, (callFunc k args).run Tryz.prog w = .ok (.enter k args) w) (HV : VisE k caps B I st) (HW : WalkOK n k caps B I st)
    (a : Ex) (t : Ty) (c : Nat) (s : σ) (M S : Nat → Prop) (v : Value) (w : World) (hi : I c s M w) (hv : RdX S w (Ex.ann a t : Ex) v) (hS : ∀ g, S g → g < w.heap.size ∧ ¬ M g) (hok : (Ex.ann a t : Ex).Ok) (hsz : (Ex.ann a t : Ex).size ≤ n + 1) (hB : c + cost (evs (Ex.ann a t)) ≤ B) :
    Calls Tryz.prog 122 #[v, .func (.func k) #[] caps] w fun e' w' => e' = .returned (.tuple #[]) ∧ Sta I M w (c + cost (evs (Ex.ann a t))) (runS st (evs (Ex.ann a t)) s) w' := by
  have ew : ∀ args w, (callFunc 162 args).run Tryz.prog w = .ok (.enter 162 args) w := enters_of Tryz.func162 (by kernel_rfl) rfl
  have mk : ∀ (W : World) (p : Addr), (Instr.makeFunc (.func 162) #[] #[.pointer (some p)]).run Tryz.prog W = .ok (.func (.func 162) #[] #[.pointer (some p)]) W := fun _ _ => rfl
  obtain ⟨K, X, Z, A0, m, q, KA, kc, LA, lc, rfl, hin⟩ := hv.shape
  simp only [kdE, nmE, toE, kidsE, altsE, List.length_cons, List.length_nil, Nat.zero_add] at hin ⊢
  have hlt := hI.lt _ _ _ _ hi
  rw [show (⟨([] : Nm).toArray⟩ : ByteArray) = ⟨#[]⟩ from rfl]
  have hev : evs (Ex.ann a t) = wEv [] [a] := by simp [evs, wEv]
  rw [hev] at hB ⊢
  obtain ⟨W0, hW0⟩ : ∃ W, (w.alloc (.cells #[.int .i64 7, .string ⟨#[]⟩, .bool false, .int .i64 K, .string X, .int .i64 Z, .slice A0 m q, .slice KA 1 kc, .slice LA 0 lc] 39)).alloc (.cells #[.func (.func k) #[] caps] 189) = W := ⟨_, rfl⟩
  have hbx : Box k caps M S w W0 #[.int .i64 7, .string ⟨#[]⟩, .bool false, .int .i64 K, .string X, .int .i64 Z, .slice A0 m q, .slice KA 1 kc, .slice LA 0 lc] := by
    refine ⟨hW0 ▸ Blk.below (heap_alloc_new w _) ((Below.refl _ _).alloc (Nat.le_refl _) _) (by simp), hW0 ▸ two_top _ _ _ _ rfl, by rw [← hW0]; simp, hW0 ▸ ((Below.refl _ w).alloc (Nat.le_refl _) _).alloc (by simp) _, hS, hlt⟩
  have hst := Sta.init (hI.keep _ _ _ _ W0 hi hbx.lw)
  have HBX := hidE hbx
  have S0 := hidE hst
  have HLW := hidE hbx.lw
  obtain ⟨b0, b1, hsw, -⟩ := hbx.at_ hst
  obtain ⟨⟨g0, g1, g2, g3, g4, g5, g6, g7, g8⟩, -, -⟩ := blk_facts9 b0
  have d0 := b1.cell 0
  replace d0 : W0.cell? ⟨w.heap.size + 1, 0, none⟩ = some (.func (.func k) #[] caps) := d0

  have hpar : PartsAt S w [a] KA := fun _ => by
    obtain ⟨g, h1, h2, h3⟩ := ((kids_at (Ex.ann a t) KA LA).1 hin).1 (by simp [kidsE])
    exact ⟨g, 0, h1, h2, h3⟩
  have HWW := hidE (wiS hI ek HV HW hst (Below.refl _ W0) S (fun g hg => hbx.old g hg) [a] [] KA kc none 0 (w.heap.size + 1)
    (hpar.keep (fun _ h => h) (fun g hg => (hbx.at_ hst).2.2.2 g hg)) (fun h => absurd rfl h) (hbx.b1.cell 0) (by have := hbx.sz; omega) (fun e => by have := hlt _ e; omega) (by simp; exact ⟨hok.1, by simp only [Ex.size] at hsz; omega⟩) (by simp) (by simp) hB)
  simp only [List.length_cons, List.length_nil, Nat.zero_add] at HWW
  clear hbx hst b0 b1 hi hv hS hok hsz hB hin hlt HV HW hpar
  go_enter Tryz.func122, Tryz.ntmps122
  go_upto_region 2 with fail
  try rw [hW0]
  clear hW0

  go_wp2_with fail
  refine HWW.out.mono ?_
  rintro e1 w1 ⟨rfl, s1⟩
  have S1 := hidE s1
  clear s1 HWW g0 g1 g2 g3 g4 g5 g6 g7 g8 d0
  obtain ⟨b0, b1, hsw, hkS⟩ := HBX.out.at_ S1.out
  obtain ⟨⟨g0, g1, g2, g3, g4, g5, g6, g7, g8⟩, -, -⟩ := blk_facts9 b0
  have d0 := b1.cell 0
  replace d0 : w1.cell? ⟨w.heap.size + 1, 0, none⟩ = some (.func (.func k) #[] caps) := d0
  clear b0 b1
  go_wp2_with fail
  go_loopg [72] 0 (fun gg vi wr => gg = 0 ∧ vi = .int .i64 0 ∧ Hid (wr = w1))
  case atStart => exact ⟨rfl, rfl, hidE rfl⟩
  case round =>
    obtain ⟨rfl, rfl, hw⟩ := hrel
    have hw := hw.out
    subst hw
    go_wp2_with fail
    first | go_end0 | refine bodyPost_ret (results_none rfl _ _ _) rfl ?_
    refine ⟨rfl, ?_⟩
    have := S1.out.pre HLW.out
    exact this
end Go.Proofs.YtefldbbiajkbnaaGreatDoor

/-
  Package scope: what goes through an expression: let.
-/
namespace Go.Proofs.YtefldbbiajkbnaaGreatDoor
open Go.RowKit Lx Tx Sx Go.Shelf
set_option maxRecDepth 100000

set_option maxHeartbeats 6400000 in
theorem sc_walk_lt {σ : Type} (n k : Nat) (caps : Array Value) (B : Nat) (I : Nat → σ → (Nat → Prop) → World → Prop) (st : Ev → σ → σ) (hI : InvB I) (ek : ∀ args w, (callFunc k args).run Tryz.prog w = .ok (.enter k args) w) (HV : VisE k caps B I st) (HW : WalkOK n k caps B I st)
    (x : Nm) (t : Option Ty) (a b : Ex) (c : Nat) (s : σ) (M S : Nat → Prop) (v : Value) (w : World) (hi : I c s M w) (hv : RdX S w (Ex.lt x t a b : Ex) v) (hS : ∀ g, S g → g < w.heap.size ∧ ¬ M g) (hok : (Ex.lt x t a b : Ex).Ok) (hsz : (Ex.lt x t a b : Ex).size ≤ n + 1) (hB : c + cost (evs (Ex.lt x t a b)) ≤ B) :
    Calls Tryz.prog 122 #[v, .func (.func k) #[] caps] w fun e' w' => e' = .returned (.tuple #[]) ∧ Sta I M w (c + cost (evs (Ex.lt x t a b))) (runS st (evs (Ex.lt x t a b)) s) w' := by
  have ew : ∀ args w, (callFunc 162 args).run Tryz.prog w = .ok (.enter 162 args) w := enters_of Tryz.func162 (by kernel_rfl) rfl
  have mk : ∀ (W : World) (p : Addr), (Instr.makeFunc (.func 162) #[] #[.pointer (some p)]).run Tryz.prog W = .ok (.func (.func 162) #[] #[.pointer (some p)]) W := fun _ _ => rfl
  obtain ⟨K, X, Z, A0, m, q, KA, kc, LA, lc, rfl, hin⟩ := hv.shapeC
  simp only [kdE, nmE, kidsE, altsE, List.length_cons, List.length_nil, Nat.zero_add] at hin ⊢
  have hlt := hI.lt _ _ _ _ hi
  obtain ⟨T, hT⟩ : ∃ T, toE (Ex.lt x t a b) = T := ⟨_, rfl⟩
  rw [hT]
  obtain ⟨Y, hY⟩ : ∃ Y : ByteArray, ⟨x.toArray⟩ = Y := ⟨_, rfl⟩
  rw [hY]
  have hx24 : x.length ≤ 24 := gd_len (show Gd 1 x from hok.1) (by decide)
  have hev : evs (Ex.lt x t a b) = .bi [x] :: (wEv [] [a] ++ wEv [x] [b]) := by simp [evs, wEv]
  rw [hev] at hB ⊢
  rw [cost_cons, cost_append] at hB ⊢
  rw [runS_cons, runS_append]
  simp only [evL, List.length_cons, List.length_nil, Nat.zero_add] at hB ⊢
  obtain ⟨g, rfl, hgS, hgab⟩ := ((kids_at (Ex.lt x t a b) KA LA).1 hin).1 (by simp [kidsE])
  simp only [kidsE, ExsAt] at hgab
  have hpa : PartsAt S w [a] (some ⟨g, 0, none⟩) := fun _ => ⟨g, 0, rfl, hgS, by rw [ExsAt, ExsAt]; exact ⟨hgab.1, trivial⟩⟩
  have hpb : PartsAt S w [b] (some ⟨g, 9, none⟩) := fun _ => ⟨g, 9, rfl, hgS, by rw [ExsAt, ExsAt]; exact ⟨hgab.2.1, trivial⟩⟩
  obtain ⟨KC, hKC⟩ : ∃ KC, 2 + kc = KC := ⟨_, rfl⟩
  rw [hKC]
  have hK0 : (0 : Int) ≤ (KC : Int) := by omega
  have hK1 : (1 : Int) ≤ (KC : Int) := by omega
  have hK2 : (2 : Int) ≤ (KC : Int) := by omega
  have hKA : (if KC = 1 then some (⟨g, 0, none⟩ : Addr) else some ⟨g, 9, none⟩) = some ⟨g, 9, none⟩ := if_neg (by omega)
  clear hgab hKC
  obtain ⟨W0, hW0⟩ : ∃ W, (w.alloc (.cells #[.int .i64 5, .string Y, .bool T, .int .i64 K, .string X, .int .i64 Z, .slice A0 m q, .slice (some ⟨g, 0, none⟩) 2 KC, .slice LA 0 lc] 39)).alloc (.cells #[.func (.func k) #[] caps] 189) = W := ⟨_, rfl⟩
  have hbx : Box k caps M S w W0 #[.int .i64 5, .string Y, .bool T, .int .i64 K, .string X, .int .i64 Z, .slice A0 m q, .slice (some ⟨g, 0, none⟩) 2 KC, .slice LA 0 lc] := by
    refine ⟨hW0 ▸ Blk.below (heap_alloc_new w _) ((Below.refl _ _).alloc (Nat.le_refl _) _) (by simp), hW0 ▸ two_top _ _ _ _ rfl, by rw [← hW0]; simp, hW0 ▸ ((Below.refl _ w).alloc (Nat.le_refl _) _).alloc (by simp) _, hS, hlt⟩
  have hst := Sta.init (hI.keep _ _ _ _ W0 hi hbx.lw)
  have HBX := hidE hbx
  have S0 := hidE hst
  have HLW := hidE hbx.lw
  obtain ⟨b0, b1, hsw, -⟩ := hbx.at_ hst
  obtain ⟨⟨g0, g1, g2, g3, g4, g5, g6, g7, g8⟩, -, -⟩ := blk_facts9 b0
  have d0 := b1.cell 0
  replace d0 : W0.cell? ⟨w.heap.size + 1, 0, none⟩ = some (.func (.func k) #[] caps) := d0

  have HEV := hidE (ev1 hI HV hst (.bi [x]) x Y 2 rfl rfl hY hx24 (by omega))
  simp only [evW] at HEV
  have HWA := hidE (fun (d : Nat) (w1 : World) (s1 : Sta I M W0 (c + 2) (st (.bi [x]) s) w1) => wiS hI ek HV HW s1 (Below.refl _ w1) S (fun g hg => hbx.old g hg) [a] [] (some ⟨g, 0, none⟩) d none 0 (w.heap.size + 1)
    (hpa.keep (fun _ h => h) (fun g hg => (hbx.at_ s1).2.2.2 g hg)) (fun h => absurd rfl h) ((hbx.at_ s1).2.1.cell 0) (by have := hbx.sz; omega) (fun e => by have := hlt _ e; omega) (by simp; exact ⟨hok.2.2.1, by simp only [Ex.size] at hsz; omega⟩) (by simp) (by simp) (by omega))
  simp only [List.length_cons, List.length_nil, Nat.zero_add] at HWA
  have HWB := hidE (fun (d : Nat) (w1 Wc : World) (s1 : Sta I M W0 (c + 2 + cost (wEv [] [a])) (runS st (wEv [] [a]) (st (.bi [x]) s)) w1) (hb : Below w1.heap.size w1 Wc) (hn : Blk Wc w1.heap.size 9 #[.string Y]) => wiS hI ek HV HW s1 hb (fun g => S g ∨ g = w1.heap.size) (fun g hg => by
      rcases hg with h | h
      · exact hbx.old g h
      · exact .inr ⟨by omega, by rw [h]; exact hn.lt⟩) [b] [x] (some ⟨g, 9, none⟩) d (some ⟨w1.heap.size, 0, none⟩) 1 (w.heap.size + 1)
    (hpb.keep (fun g hg => .inl hg) (fun g hg => (hb.block g (by have := (hS g hg).1; have := (hbx.at_ s1).2.2.1; omega)).trans ((hbx.at_ s1).2.2.2 g hg)))
    (fun _ => ⟨_, rfl, .inr rfl, lie_blk hn |> fun h => by simpa [Sx.strV, hY] using h⟩) ((Blk.below (hbx.at_ s1).2.1 hb (by have := (hbx.at_ s1).2.2.1; omega)).cell 0) (by have := hbx.sz; omega) (fun e => by have := hlt _ e; omega) (by simp; exact ⟨hok.2.2.2, by simp only [Ex.size] at hsz; omega⟩) (by simpa using hx24) (by simp) (by omega))
  simp only [List.length_cons, List.length_nil, Nat.zero_add] at HWB
  clear hbx hst b0 b1 hi hv hS hok hsz hB hin hlt HV HW hpa hpb hgS
  go_enter Tryz.func122, Tryz.ntmps122
  go_upto_region 2 with fail
  try rw [hW0]
  clear hW0

  go_wp2_with fail
  refine HEV.out.mono ?_
  rintro e1 w1 ⟨rfl, s1⟩
  have S1 := hidE s1
  have HWA2 := hidE (fun d => HWA.out d w1 s1)
  clear s1 HEV HWA g0 g1 g2 g3 g4 g5 g6 g7 g8 d0
  obtain ⟨b0, b1, hsw, hkS⟩ := HBX.out.at_ S1.out
  obtain ⟨⟨g0, g1, g2, g3, g4, g5, g6, g7, g8⟩, -, -⟩ := blk_facts9 b0
  have d0 := b1.cell 0
  replace d0 : w1.cell? ⟨w.heap.size + 1, 0, none⟩ = some (.func (.func k) #[] caps) := d0
  clear b0 b1
  go_wp2_with fail
  refine (HWA2.out _).mono ?_
  rintro e2 w2 ⟨rfl, s2⟩
  have S2 := hidE s2
  have HWB2 := hidE (fun d Wc => HWB.out d w2 Wc s2)
  clear s2 HWA2 HWB hsw g0 g1 g2 g3 g4 g5 g6 g7 g8 d0 hkS
  obtain ⟨b0, b1, hsw, hkS⟩ := HBX.out.at_ S2.out
  obtain ⟨⟨g0, g1, g2, g3, g4, g5, g6, g7, g8⟩, -, -⟩ := blk_facts9 b0
  have d0 := b1.cell 0
  replace d0 : w2.cell? ⟨w.heap.size + 1, 0, none⟩ = some (.func (.func k) #[] caps) := d0
  clear b0 b1
  have SOF : Hid (∀ W : World, Below w2.heap.size w2 W → W.cell? ⟨w.heap.size, 7, none⟩ = some (.slice (some ⟨g, 0, none⟩) 2 KC) ∧ W.cell? ⟨w.heap.size, 1, none⟩ = some (.string Y)) := hidE (fun W hW => ⟨(hW.cell (by show w.heap.size < _; omega)).trans g7, (hW.cell (by show w.heap.size < _; omega)).trans g1⟩)
  rw [show min (1 : Int) 2 = 1 from rfl]
  go_wp2_with fail
  go_region_held3 (fun W : World => W.cell? ⟨w.heap.size, 7, none⟩ = some (.slice (some ⟨g, 0, none⟩) 2 KC) ∧ W.cell? ⟨w.heap.size, 1, none⟩ = some (.string Y)) (first | (exact ⟨g7, g1⟩) | (refine SOF.out _ ?_; repeat first | exact Below.refl _ _ | (refine Below.alloc ?_ (by first | omega | (simp; done) | (simp; omega)) _) | (refine Below.drew ?_)))
    (first
      | ((with_reducible refine (HWB2.out _ _ ?hb ?hn).mono ?hm); (case hb => exact ((Below.refl _ _).alloc (Nat.le_refl _) _).drew); (case hn => exact heap_alloc_new _ _); rintro e3 w3 ⟨rfl, s3⟩; have S3 := hidE s3; clear s3 HWB2 hsw g0 g1 g2 g3 g4 g5 g6 g7 g8 d0 hkS; obtain ⟨b0, b1, hsw, hkS⟩ := HBX.out.at_ S3.out; obtain ⟨⟨g0, g1, g2, g3, g4, g5, g6, g7, g8⟩, -, -⟩ := blk_facts9 b0; clear b0 b1 hkS))
  go_wp2_with fail
  go_loopg [72] 0 (fun gg vi wr => gg = 0 ∧ vi = .int .i64 0 ∧ Hid (wr = w3))
  case atStart => exact ⟨rfl, rfl, hidE rfl⟩
  case round =>
    obtain ⟨rfl, rfl, hw⟩ := hrel
    have hw := hw.out
    subst hw
    go_wp2_with fail
    first | go_end0 | refine bodyPost_ret (results_none rfl _ _ _) rfl ?_
    refine ⟨rfl, ?_⟩
    have := S3.out.pre HLW.out
    rw [← Nat.add_assoc, ← Nat.add_assoc]
    exact this
end Go.Proofs.YtefldbbiajkbnaaGreatDoor

/-
  Package scope: what goes through an expression: case.
-/
namespace Go.Proofs.YtefldbbiajkbnaaGreatDoor
open Go.RowKit Lx Tx Sx Go.Shelf
set_option maxRecDepth 100000

theorem evsA_append (a b : List Al) : evsA (a ++ b) = evsA a ++ evsA b := by
  induction a with
  | nil => simp [evsA]
  | cons x r ih => simp [evsA, ih]
theorem evsA_snoc (l : List Al) (i : Nat) (x : Al) (h : l[i]? = some x) : evsA (l.take (i + 1)) = evsA (l.take i) ++ evs1 x := by
  rw [List.take_add_one, h, evsA_append]
  simp [evsA]
theorem costA_le (l : List Al) (i : Nat) : cost (evsA (l.take i)) ≤ cost (evsA l) := by
  have := congrArg (fun l => cost (evsA l)) (List.take_append_drop i l)
  simp only [evsA_append, cost_append] at this
  omega
theorem okA_at : ∀ (l : List Al) (i : Nat) (x : Al), okA l → l[i]? = some x → x.Ok
  | [], _, _, _, h => by simp at h
  | a :: r, 0, x, h, hx => by
    rw [okA] at h
    simp at hx
    exact hx ▸ h.1
  | a :: r, i + 1, x, h, hx => by
    rw [okA] at h
    exact okA_at r i x h.2 (by simpa using hx)
theorem sizeA_at : ∀ (l : List Al) (i : Nat) (x : Al), l[i]? = some x → x.size ≤ sizeA l
  | [], _, _, h => by simp at h
  | a :: r, 0, x, hx => by
    simp at hx
    rw [sizeA, hx]
    omega
  | a :: r, i + 1, x, hx => by
    have := sizeA_at r i x (by simpa using hx)
    rw [sizeA]
    omega
theorem ex_size1 (e : Ex) : 1 ≤ e.size := by cases e <;> simp only [Ex.size] <;> omega
theorem lenA_le : ∀ l : List Al, l.length ≤ sizeA l
  | [] => by simp
  | .mk _ _ b :: r => by
    have := lenA_le r
    have := ex_size1 b
    rw [sizeA, Al.size, List.length_cons]
    omega
theorem AlIn.full {S : Nat → Prop} {w : World} {c : Nm} {vs : List Nm} {b : Ex} {g o : Nat} (h : AlIn S w (.mk c vs b) g o) : ∃ V v, w.cell? ⟨g, o, none⟩ = some (Sx.strV c) ∧ w.cell? ⟨g, o + 1, none⟩ = some (.slice V vs.length v) ∧ NmsIn S w vs V ∧ ExAt S w b g (o + 2) := by
  rw [AlIn] at h
  obtain ⟨h1, ⟨V, v, h2, h4⟩, h3⟩ := h
  exact ⟨V, v, h1, h2, h4, h3⟩
theorem RdX.lay {S S' : Nat → Prop} {w w' : World} {e : Ex} {cs : Array Value} {g : Nat} {t : TypeId} (h : RdX S w e (.agg cs)) (hS : ∀ k, S k → S' k) (hk : ∀ k, S k → w'.heap[k]? = w.heap[k]?) (hl : Blk w' g t cs) : ExAt S' w' e g 0 := by
  obtain ⟨P, hv, h2, h3⟩ := h
  injection hv with hv
  subst hv
  exact kid_new (y := e) (cs := exC e P) ⟨P, rfl, h2, h3⟩ hS hk hl
theorem Sta.join {σ : Type} {I : Nat → σ → (Nat → Prop) → World → Prop} {M0 M1 : Nat → Prop} {w0 wa W : World} {c : Nat} {s : σ} (hm : ∀ g, M1 g → M0 g ∨ w0.heap.size ≤ g) (hc : Chg M0 w0 wa) (h : Sta I M1 wa c s W) : Sta I M0 w0 c s W := by
  obtain ⟨M', k1, k2, k3⟩ := h
  refine ⟨M', k1, fun g hg => ?_, hc.trans' k3 (fun i hi hm' => ?_)⟩
  · rcases k2 g hg with h | h
    · exact hm g h
    · exact .inr (Nat.le_trans hc.size h)
  · rcases hm i hm' with h | h
    · exact h
    · omega
/-- what holds of a round's own block -/
structure Rb (k : Nat) (caps : Array Value) (M1 S : Nat → Prop) (w wa : World) (bx ba : Nat) (cs : Array Value) : Prop where
  b1 : Blk wa bx 189 #[.func (.func k) #[] caps]
  b2 : Blk wa ba 74 cs
  n1 : ¬ M1 bx
  na : ¬ M1 ba
  s : ∀ g, S g → g < wa.heap.size ∧ ¬ M1 g
  k : ∀ g, S g → wa.heap[g]? = w.heap[g]?
theorem Rb.at_ {σ : Type} {I : Nat → σ → (Nat → Prop) → World → Prop} {k : Nat} {caps cs : Array Value} {M1 S : Nat → Prop} {w wa W : World} {bx ba c : Nat} {s : σ} (h : Rb k caps M1 S w wa bx ba cs) (hs : Sta I M1 wa c s W) :
    Blk W bx 189 #[.func (.func k) #[] caps] ∧ Blk W ba 74 cs ∧ wa.heap.size ≤ W.heap.size ∧ ∀ g, S g → W.heap[g]? = w.heap[g]? :=
  ⟨h.b1.same (hs.block _ h.b1.lt h.n1), h.b2.same (hs.block _ h.b2.lt h.na), hs.size, fun g hg => (hs.block g (h.s g hg).1 (h.s g hg).2).trans (h.k g hg)⟩

set_option maxHeartbeats 6400000 in
theorem sc_walk_cs {σ : Type} (n k : Nat) (caps : Array Value) (B : Nat) (I : Nat → σ → (Nat → Prop) → World → Prop) (st : Ev → σ → σ) (hI : InvB I) (ek : ∀ args w, (callFunc k args).run Tryz.prog w = .ok (.enter k args) w) (HV : VisE k caps B I st) (HW : WalkOK n k caps B I st)
    (e : Ex) (l : List Al) (c : Nat) (s : σ) (M S : Nat → Prop) (v : Value) (w : World) (hi : I c s M w) (hv : RdX S w (Ex.cs e l : Ex) v) (hS : ∀ g, S g → g < w.heap.size ∧ ¬ M g) (hok : (Ex.cs e l : Ex).Ok) (hsz : (Ex.cs e l : Ex).size ≤ n + 1) (hn : n ≤ 90000) (hB : c + cost (evs (Ex.cs e l)) ≤ B) :
    Calls Tryz.prog 122 #[v, .func (.func k) #[] caps] w fun e' w' => e' = .returned (.tuple #[]) ∧ Sta I M w (c + cost (evs (Ex.cs e l))) (runS st (evs (Ex.cs e l)) s) w' := by
  have ew : ∀ args w, (callFunc 162 args).run Tryz.prog w = .ok (.enter 162 args) w := enters_of Tryz.func162 (by kernel_rfl) rfl
  have mk : ∀ (W : World) (p : Addr), (Instr.makeFunc (.func 162) #[] #[.pointer (some p)]).run Tryz.prog W = .ok (.func (.func 162) #[] #[.pointer (some p)]) W := fun _ _ => rfl
  obtain ⟨K, X, Z, A0, m, q, KA, kc, LA, lc, rfl, hin⟩ := hv.shape
  simp only [kdE, nmE, toE, kidsE, altsE, List.length_cons, List.length_nil, Nat.zero_add] at hin ⊢
  have hlt := hI.lt _ _ _ _ hi
  rw [show (⟨([] : Nm).toArray⟩ : ByteArray) = ⟨#[]⟩ from rfl]
  obtain ⟨N, hN⟩ : ∃ N, l.length = N := ⟨_, rfl⟩
  rw [hN]
  have hev : evs (Ex.cs e l) = wEv [] [e] ++ evsA l := by simp [evs, wEv]
  rw [hev] at hB ⊢
  obtain ⟨E0, hE0⟩ : ∃ E0, wEv [] [e] = E0 := ⟨_, rfl⟩
  rw [hE0] at hB ⊢
  obtain ⟨W0, hW0⟩ : ∃ W, (w.alloc (.cells #[.int .i64 6, .string ⟨#[]⟩, .bool false, .int .i64 K, .string X, .int .i64 Z, .slice A0 m q, .slice KA 1 kc, .slice LA N lc] 39)).alloc (.cells #[.func (.func k) #[] caps] 189) = W := ⟨_, rfl⟩
  have hbx : Box k caps M S w W0 #[.int .i64 6, .string ⟨#[]⟩, .bool false, .int .i64 K, .string X, .int .i64 Z, .slice A0 m q, .slice KA 1 kc, .slice LA N lc] := by
    refine ⟨hW0 ▸ Blk.below (heap_alloc_new w _) ((Below.refl _ _).alloc (Nat.le_refl _) _) (by simp), hW0 ▸ two_top _ _ _ _ rfl, by rw [← hW0]; simp, hW0 ▸ ((Below.refl _ w).alloc (Nat.le_refl _) _).alloc (by simp) _, hS, hlt⟩
  have hst := Sta.init (hI.keep _ _ _ _ W0 hi hbx.lw)
  have HBX := hidE hbx
  have S0 := hidE hst
  have HLW := hidE hbx.lw
  obtain ⟨b0, b1, hsw, -⟩ := hbx.at_ hst
  obtain ⟨⟨g0, g1, g2, g3, g4, g5, g6, g7, g8⟩, -, -⟩ := blk_facts9 b0
  have d0 := b1.cell 0
  replace d0 : W0.cell? ⟨w.heap.size + 1, 0, none⟩ = some (.func (.func k) #[] caps) := d0

  have hpar : PartsAt S w [e] KA := fun _ => by
    obtain ⟨g, h1, h2, h3⟩ := ((kids_at (Ex.cs e l) KA LA).1 hin).1 (by simp [kidsE])
    exact ⟨g, 0, h1, h2, h3⟩
  have hN9 : N ≤ 90000 := by have := lenA_le l; have := ex_size1 e; simp only [Ex.size] at hsz; omega
  have HALT := hidE (fun i x (hx : l[i]? = some x) => ExIn.alt (e := Ex.cs e l) hin i x hx)
  have hBB : ∀ i x, l[i]? = some x → c + cost (E0 ++ evsA (l.take i)) + cost (evs1 x) ≤ B := fun i x hx => by
    have h1 := costA_le l (i + 1)
    rw [evsA_snoc l i x hx, cost_append] at h1
    rw [cost_append] at hB ⊢
    omega
  have HBB := hidE hBB
  have HOK := hidE (fun i x (hx : l[i]? = some x) => okA_at l i x hok.2 hx)
  have HSZ := hidE (fun i (x : Al) (hx : l[i]? = some x) => show x.size ≤ n by have := sizeA_at l i x hx; simp only [Ex.size] at hsz; omega)
  have HWW := hidE (wiS hI ek HV HW hst (Below.refl _ W0) S (fun g hg => hbx.old g hg) [e] [] KA kc none 0 (w.heap.size + 1)
    (hpar.keep (fun _ h => h) (fun g hg => (hbx.at_ hst).2.2.2 g hg)) (fun h => absurd rfl h) (hbx.b1.cell 0) (by have := hbx.sz; omega) (fun e => by have := hlt _ e; omega) (by simp; exact ⟨hok.1, by simp only [Ex.size] at hsz; omega⟩) (by simp) (by simp) (by rw [hE0]; rw [cost_append] at hB; omega))
  simp only [List.length_cons, List.length_nil, Nat.zero_add, hE0] at HWW
  have HI := hidE hI
  have HVV := hidE HV
  have HW2 := hidE HW
  have HS := hidE hS
  have HM := hidE hlt
  have HN := hidE hN
  have HBX2 := hidE hbx.sz
  clear hbx hst b0 b1 hi hv hS hok hsz hB hin hlt HV HW hpar hBB hN
  go_enter Tryz.func122, Tryz.ntmps122
  go_upto_region 2 with fail
  try rw [hW0]
  clear hW0

  go_wp2_with fail
  refine HWW.out.mono ?_
  rintro e1 w1 ⟨rfl, s1⟩
  have S1 := hidE s1
  clear s1 HWW g0 g1 g2 g3 g4 g5 g6 g7 g8 d0
  obtain ⟨b0, b1, hsw, hkS⟩ := HBX.out.at_ S1.out
  obtain ⟨⟨g0, g1, g2, g3, g4, g5, g6, g7, g8⟩, -, -⟩ := blk_facts9 b0
  have d0 := b1.cell 0
  replace d0 : w1.cell? ⟨w.heap.size + 1, 0, none⟩ = some (.func (.func k) #[] caps) := d0
  clear b0 b1
  clear hkS
  go_wp2_with fail
  clear g0 g1 g2 g3 g4 g5 g6 g7 g8 d0
  go_loopg [72] N (fun gg vi wr => ∃ j : Nat, gg = N - j ∧ vi = .int .i64 (j : Nat) ∧ j ≤ N ∧ Hid (Sta I M W0 (c + cost (E0 ++ evsA (l.take j))) (runS st (E0 ++ evsA (l.take j)) s) wr))
  case atStart =>
    refine ⟨0, rfl, rfl, by omega, hidE ?_⟩
    have := S1.out
    simpa [evsA] using this
  case round =>
    obtain ⟨j, rfl, rfl, hj, hst⟩ := hrel
    clear S1
    by_cases hlt2 : j < N
    · obtain ⟨x, hx⟩ : ∃ x, l[j]? = some x := ⟨_, List.getElem?_eq_getElem (by rw [HN.out]; exact hlt2)⟩
      obtain ⟨M1, i1, hm1, hch⟩ := hst.out
      have hm1lt := HI.out.lt _ _ _ _ i1
      obtain ⟨hb0, hb1, hszz, hkr⟩ := HBX.out.at_ hst.out
      obtain ⟨g, rfl, hSg, hat⟩ := HALT.out j x hx
      obtain ⟨cn, vs, b⟩ := x
      obtain ⟨V, vc, f0, f1, hnm, hbody⟩ := AlIn.full (AlIn.keep (fun _ h => h) hkr _ g _ (hkr g hSg) hat)
      obtain ⟨k1, x1, t1, K1, X1, Z1, B1, m1, q1, KA1, kn1, kc1, LA1, ln1, lc1, f2, f3, f4, f5, f6, f7, f8, f9, f10, hrd⟩ := hbody.cells
      have hgl := lt_cell f0
      have hokx := HOK.out j _ hx
      have hszx := HSZ.out j _ hx
      have hbb := HBB.out j _ hx
      have HSN := hidE (evsA_snoc l j _ hx)
      obtain ⟨Y, hY⟩ : ∃ Y : ByteArray, ⟨cn.toArray⟩ = Y := ⟨_, rfl⟩
      simp only [Sx.strV, hY] at f0
      obtain ⟨vn, hvn⟩ : ∃ vn, vs.length = vn := ⟨_, rfl⟩
      rw [hvn] at f1
      have hev1 : evs1 (.mk cn vs b) = .cn cn :: .bi vs :: wEv vs [b] := by simp [evs1, wEv]
      rw [hev1, cost_cons, cost_cons] at hbb
      simp only [evL, hvn] at hbb
      obtain ⟨Cj, hCj⟩ : ∃ Cj, c + cost (E0 ++ evsA (l.take j)) = Cj := ⟨_, rfl⟩
      obtain ⟨Sj, hSj⟩ : ∃ Sj, runS st (E0 ++ evsA (l.take j)) s = Sj := ⟨_, rfl⟩
      rw [hCj] at hbb
      rw [hCj, hSj] at i1
      have HCS := hidE (And.intro hCj hSj)
      obtain ⟨wa, hwa⟩ : ∃ wa, wr.alloc (.cells #[.string Y, .slice V vn vc, .int .i64 k1, .string x1, .bool t1, .int .i64 K1, .string X1, .int .i64 Z1, .slice B1 m1 q1, .slice KA1 kn1 kc1, .slice LA1 ln1 lc1] 74) = wa := ⟨_, rfl⟩
      have hwb : Below wr.heap.size wr wa := hwa ▸ (Below.refl _ wr).alloc (Nat.le_refl _) _
      have hwz : wa.heap.size = wr.heap.size + 1 := by rw [← hwa]; simp
      have hrb : Rb k caps M1 S w wa (w.heap.size + 1) wr.heap.size #[.string Y, .slice V vn vc, .int .i64 k1, .string x1, .bool t1, .int .i64 K1, .string X1, .int .i64 Z1, .slice B1 m1 q1, .slice KA1 kn1 kc1, .slice LA1 ln1 lc1] := by
        refine ⟨hb1.below hwb (by omega), hwa ▸ heap_alloc_new wr _, fun e => ?_, fun e => by have := hm1lt _ e; omega, fun g hg => ⟨by have := (HS.out g hg).1; omega, fun e => ?_⟩, fun g hg => (hwb.block g (by have := (HS.out g hg).1; omega)).trans (hkr g hg)⟩
        · rcases hm1 _ e with h | h
          · have := HM.out _ h; omega
          · have := HBX2.out; omega
        · rcases hm1 _ e with h | h
          · exact (HS.out g hg).2 h
          · have := (HS.out g hg).1; have := HBX2.out; omega
      have HRB := hidE hrb
      have HJ := hidE (fun c' s' W (h : Sta I M1 wa c' s' W) => Sta.join hm1 (hch.below hwb) h)
      have hsa : Sta I M1 wa Cj Sj wa := Sta.init (HI.out.keep _ _ _ _ wa i1 hwb)
      have HSA := hidE hsa
      have HEV := hidE (ev1 HI.out HVV.out hsa (.cn cn) cn Y 1 rfl rfl hY (gd_len hokx.1 (by decide)) (by omega))
      simp only [evW] at HEV
      rw [hwz] at HEV
      have HEV2 := hidE (fun w1 (s1 : Sta I M1 wa (Cj + 1) (st (.cn cn) Sj) w1) => evS HI.out HVV.out s1 (Below.refl _ w1) S (fun g hg => .inl (hrb.s g hg)) (.bi vs) V vc (hnm.keep (fun _ h => h) (fun g hg => ((hrb.at_ s1).2.2.2 g hg).trans (hkr g hg).symm)) (fun x hx => gd_len (hokx.2.1 x hx) (by decide)) (by simp only [evL, hvn]; omega))
      simp only [evW, evN, evL, hvn] at HEV2
      have HW3 := hidE (fun (d : Nat) w2 (s2 : Sta I M1 wa (Cj + 1 + (vn + 1)) (st (.bi vs) (st (.cn cn) Sj)) w2) => wiS HI.out ek HVV.out HW2.out s2 ((Below.refl _ w2).alloc (Nat.le_refl _) (.cells #[.int .i64 k1, .string x1, .bool t1, .int .i64 K1, .string X1, .int .i64 Z1, .slice B1 m1 q1, .slice KA1 kn1 kc1, .slice LA1 ln1 lc1] 39)) (fun g => S g ∨ g = w2.heap.size) (fun g hg => by
          rcases hg with h | h
          · exact .inl (hrb.s g h)
          · exact .inr ⟨by omega, by simp; omega⟩) [b] vs (some ⟨w2.heap.size, 0, none⟩) d V vc (w.heap.size + 1)
        (fun _ => ⟨_, 0, rfl, .inr rfl, by
          rw [ExsAt, ExsAt]
          exact ⟨RdX.lay hrd (fun _ h => .inl h) (fun g hg => (Below.heap_alloc _ _ _ (by have := (hrb.s g hg).1; have := s2.size; omega)).trans (((hrb.at_ s2).2.2.2 g hg).trans (hkr g hg).symm)) (heap_alloc_new w2 _), trivial⟩⟩)
        (hnm.keep (fun _ h => .inl h) (fun g hg => (Below.heap_alloc _ _ _ (by have := (hrb.s g hg).1; have := s2.size; omega)).trans (((hrb.at_ s2).2.2.2 g hg).trans (hkr g hg).symm)))
        (((hrb.at_ s2).1.alloc _).cell 0) hrb.b1.lt hrb.n1 (by simp; exact ⟨hokx.2.2, hszx⟩) (fun x hx => gd_len (hokx.2.1 x hx) (by decide)) (by simp) (by omega))
      simp only [List.length_cons, List.length_nil, Nat.zero_add, hvn] at HW3
      have HVN := hidE hvn
      have HE1 := hidE hev1
      clear hx hat hSg hnm hbody hrd hokx hszx hbb hkr hm1 hm1lt hch i1 hb0 hrb hsa hCj hSj hev1 hvn hwb
      have hd1 := hb1.cell 0
      replace hd1 : wr.cell? ⟨w.heap.size + 1, 0, none⟩ = some (.func (.func k) #[] caps) := hd1
      clear hb1
      obtain ⟨e1, ea, -, -⟩ := HRB.out.at_ HSA.out
      obtain ⟨⟨a0, a1, a2, a3, a4, a5, a6, a7, a8, a9, a10⟩, -, -⟩ := blk_facts11 ea
      have d0 := e1.cell 0
      replace d0 : wa.cell? ⟨w.heap.size + 1, 0, none⟩ = some (.func (.func k) #[] caps) := d0
      clear e1 ea
      go_wp2_with fail
      try rw [hwa]
      go_wp2_with fail
      refine HEV.out.mono ?_
      rintro e2 w2 ⟨rfl, s2⟩
      have S2 := hidE s2
      have HE2 := hidE (HEV2.out w2 s2)
      clear s2 HEV HEV2 a0 a1 a2 a3 a4 a5 a6 a7 a8 a9 a10 d0
      obtain ⟨e1, ea, hzw, hkw⟩ := HRB.out.at_ S2.out
      obtain ⟨⟨a0, a1, a2, a3, a4, a5, a6, a7, a8, a9, a10⟩, -, -⟩ := blk_facts11 ea
      have d0 := e1.cell 0
      replace d0 : w2.cell? ⟨w.heap.size + 1, 0, none⟩ = some (.func (.func k) #[] caps) := d0
      clear e1 ea hkw
      go_wp2_with fail
      refine HE2.out.mono ?_
      rintro e3 w3 ⟨rfl, s3⟩
      have S3 := hidE s3
      have HW4 := hidE (fun d => HW3.out d w3 s3)
      clear s3 HE2 HW3 hzw a0 a1 a2 a3 a4 a5 a6 a7 a8 a9 a10 d0
      obtain ⟨e1, ea, hzw, hkw⟩ := HRB.out.at_ S3.out
      obtain ⟨⟨a0, a1, a2, a3, a4, a5, a6, a7, a8, a9, a10⟩, -, -⟩ := blk_facts11 ea
      have d0 := e1.cell 0
      replace d0 : w3.cell? ⟨w.heap.size + 1, 0, none⟩ = some (.func (.func k) #[] caps) := d0
      clear e1 ea hkw
      have hlw : wr.heap.size < w3.heap.size := by omega
      have hnw : wr.heap.size ≠ w3.heap.size := by omega
      go_wp2_with fail
      refine (HW4.out _).mono ?_
      rintro e4 w4 ⟨rfl, s4⟩
      have S4 := hidE s4
      clear s4 HW4 hzw a0 a1 a2 a3 a4 a5 a6 a7 a8 a9 a10 d0
      go_wp2_with fail
      go_roundg (N - (j + 1))
      case measure => omega
      case rel =>
        refine ⟨j + 1, rfl, by go_num, by omega, hidE ?_⟩
        have := HJ.out _ _ _ S4.out
        rw [HSN.out, HE1.out, ← List.append_assoc, cost_append, cost_cons, cost_cons, runS_append, runS_cons, runS_cons, HCS.out.2, ← Nat.add_assoc, HCS.out.1]
        simp only [evL, HVN.out]
        rw [show Cj + (1 + (vn + 1 + cost (wEv vs [b]))) = Cj + 1 + (vn + 1) + cost (wEv vs [b]) by omega]
        exact this
    · obtain rfl : j = N := by omega
      go_wp2_with fail
      first | go_end0 | refine bodyPost_ret (results_none rfl _ _ _) rfl ?_
      refine ⟨rfl, ?_⟩
      have := hst.out.pre HLW.out
      rw [show l.take j = l from List.take_of_length_le (by rw [HN.out]; exact Nat.le_refl _)] at this
      exact this
end Go.Proofs.YtefldbbiajkbnaaGreatDoor

/-
  Package scope: walk, of every expression.
-/
namespace Go.Proofs.YtefldbbiajkbnaaGreatDoor
open Go.RowKit Lx Tx Sx Go.Shelf
theorem sc_walkOK {σ : Type} (k : Nat) (caps : Array Value) (B : Nat) (I : Nat → σ → (Nat → Prop) → World → Prop) (st : Ev → σ → σ) (hI : InvB I) (ek : ∀ args w, (callFunc k args).run Tryz.prog w = .ok (.enter k args) w) (HV : VisE k caps B I st) :
    ∀ n, n ≤ 90001 → WalkOK n k caps B I st := by
  intro n
  induction n with
  | zero => intro _ c s M e S v w hz; have := ex_size1 e; omega
  | succ n ih =>
    intro hn c s M e S v w hz hi hv hS hok hB
    have HW := ih (by omega)
    cases e with
    | var x => exact sc_walk_var k caps B I st hI ek HV x c s M S v w hi hv hS hok hB
    | con x => exact sc_walk_con k caps B I st hI ek HV x c s M S v w hi hv hS hok hB
    | lam x e => exact sc_walk_lam n k caps B I st hI ek HV HW x e c s M S v w hi hv hS hok hz hB
    | app a b => exact sc_walk_app n k caps B I st hI ek HV HW a b c s M S v w hi hv hS hok hz hB
    | lt x t a b => exact sc_walk_lt n k caps B I st hI ek HV HW x t a b c s M S v w hi hv hS hok hz hB
    | cs e l => exact sc_walk_cs n k caps B I st hI ek HV HW e l c s M S v w hi hv hS hok hz (by omega) hB
    | ann a t => exact sc_walk_ann n k caps B I st hI ek HV HW a t c s M S v w hi hv hS hok hz hB
end Go.Proofs.YtefldbbiajkbnaaGreatDoor

/-
  Package scope: names that were met.
-/
namespace Go.Proofs.YtefldbbiajkbnaaGreatDoor
open Go.RowKit Lx Tx Sx Go.Maps Go.WideMaps Go.Shelf
set_option maxRecDepth 100000

/-- names that were met -/
def mkMet : MK Unit where
  t := 134
  e := 132
  R := unitElem
  enc _ := .nil
  val _ := .agg #[]
  ok _ := True
  z := .agg #[]
  zd := .nil
  hT := Tryz.underlying134
  hz _ := by kernel_rfl
  hR _ _ := rfl
  hzd := rfl
  inv _ _ _ h := unitElem_inv h
  invz _ _ h := unitElem_inv h

theorem met_look {w : World} {b : Nat} {L : List Name} (h : MapE mkMet w b (units L)) (X : ByteArray) (hX : X.size ≤ 24) :
    (Instr.lookup 134 (.map (some b)) (.string X) true).run Tryz.prog w = .ok (.tuple #[.agg #[], .bool (decide (X.data.toList ∈ L))]) w := by
  have := h.getOk X (by unfold maxLen; omega)
  rw [look_units] at this
  by_cases hm : X.data.toList ∈ L
  · rw [if_pos hm] at this
    rw [decide_eq_true hm]
    exact this
  · rw [if_neg hm] at this
    rw [decide_eq_false hm]
    exact this

set_option maxHeartbeats 1600000 in
theorem sc_has (b : Nat) (L : List Name) (X : ByteArray) (w : World) (h : MapE mkMet w b (units L)) (hX : X.size ≤ 24) :
    Calls Tryz.prog 128 #[.map (some b), .string X] w fun e w' => e = .returned (.bool (decide (X.data.toList ∈ L))) ∧ Below w.heap.size w w' := by
  have hl := met_look h X hX
  obtain ⟨q, hq⟩ : ∃ q, decide (X.data.toList ∈ L) = q := ⟨_, rfl⟩
  rw [hq] at hl ⊢
  clear h
  go_enter Tryz.func128, Tryz.ntmps128
  go_wp2_with fail
  go_ret
  exact ⟨rfl, (Below.refl _ w).alloc (Nat.le_refl _) _⟩

set_option maxHeartbeats 1600000 in
theorem sc_lacks (b : Nat) (L : List Name) (X : ByteArray) (w : World) (h : MapE mkMet w b (units L)) (hX : X.size ≤ 24) :
    Calls Tryz.prog 127 #[.map (some b), .string X] w fun e w' => e = .returned (.bool (!decide (X.data.toList ∈ L))) ∧ Below w.heap.size w w' := by
  have HC := hidE (sc_has b L X w h hX)
  obtain ⟨q, hq⟩ : ∃ q, decide (X.data.toList ∈ L) = q := ⟨_, rfl⟩
  rw [hq] at HC ⊢
  clear h
  go_enter Tryz.func127, Tryz.ntmps127
  go_wp2_with fail
  refine HC.out.mono ?_
  rintro e w' ⟨rfl, hb⟩
  have HB := hidE hb
  clear hb
  go_wp2_with fail
  go_ret
  exact ⟨rfl, HB.out⟩

set_option maxHeartbeats 1600000 in
theorem sc_again (b : Nat) (L : List Name) (X : ByteArray) (w : World) (h : MapE mkMet w b (units L)) (hX : X.size ≤ 24) (hL : L.length ≤ 1000000) :
    Calls Tryz.prog 124 #[.map (some b), .string X] w fun e w' => e = .returned (.bool (decide (X.data.toList ∈ L))) ∧ MapE mkMet w' b (units (L ++ [X.data.toList])) ∧ Chg (only b) w w' := by
  have HC := hidE (sc_has b L X w h hX)
  have HLT := hidE h.lt
  have HM := hidE h
  have HX := hidE hX
  have HUL : Hid ((units L).length < 100000000000000) := hidE (by simp [units]; omega)
  obtain ⟨q, hq⟩ : ∃ q, decide (X.data.toList ∈ L) = q := ⟨_, rfl⟩
  rw [hq] at HC ⊢
  clear h hX
  go_enter Tryz.func124, Tryz.ntmps124
  go_wp2_with fail
  refine HC.out.mono ?_
  rintro e w1 ⟨rfl, hb⟩
  have HB := hidE hb
  have HM1 := hidE (HM.out.keep (hb.block b HLT.out))
  clear hb HC
  go_wp2_with (at_mapUpdate; refine wpList_put mkMet _ rfl _ _ _ rfl b (units L) rfl HM1.out HUL.out X (by have := HX.out; unfold maxLen; omega) rfl () trivial rfl ?_; intro w2 hm2 hg2; have HM2 := hidE hm2; have HG2 := hidE hg2; clear hm2 hg2)
  go_ret
  refine ⟨rfl, by rw [units_snoc]; exact HM2.out, (Chg.of_below HB.out).grown HG2.out (fun e hh => ?_)⟩
  injection hh with hh
  exact .inr hh.symm
end Go.Proofs.YtefldbbiajkbnaaGreatDoor
