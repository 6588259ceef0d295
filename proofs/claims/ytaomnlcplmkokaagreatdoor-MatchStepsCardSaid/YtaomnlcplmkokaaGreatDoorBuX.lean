/-
  Contracts of the code's functions, part 24.
-/
import Derived.Test.YtaomnlcplmkokaaGreatDoorBuW
import Derived.Deep.RegionHeld3
import Derived.Deep.Cut
import Derived.Deep.CutRange
/-
  Package putting: what stands in a leaf's place.
-/
namespace Go.Proofs.YtaomnlcplmkokaaGreatDoor
open Go.RowKit Lx Tx Go.Maps Go.WideMaps Go.Shelf
set_option maxRecDepth 100000

/-- the putter: what tells what is put, what the for alls around bind, what must not be bound, what tells new names -/
def Pt (w : World) (pb mb kl : Nat) (cl : Array Value) (vc vn : Value) : Prop := Blk w pb 145 #[fnV kl cl, .map (some mb), vc, vn]

section
variable {σ : Type}
/-- the closure that tells what is put in a leaf's place, if something is -/
def PlaceOK (kl : Nat) (cl : Array Value) (I : Nat → σ → World → Prop) (M Su : Nat → Prop) (place : Ty → Option Ty) : Prop :=
  ∀ (c : Nat) (s : σ) (t : Ty) (S : Nat → Prop) (v : Value) (w : World), I c s w → RdV S w t v → (∀ g, S g → g < w.heap.size) → kd t = 1 ∨ kd t = 2 → Nm t →
    Calls Tryz.prog kl (#[v] ++ cl) w fun e w' => ∃ k x z a m p q, e = .returned (.tuple #[.agg #[.int .i64 k, .string x, .int .i64 z, .slice a m p], .bool q]) ∧ (q = true → ∃ u, place t = some u ∧ RdV Su w' u (.agg #[.int .i64 k, .string x, .int .i64 z, .slice a m p])) ∧ (q = false → place t = none) ∧ I c s w' ∧ Chg M w w'
/-- a leaf, or what is put there -/
def lfP (place : Ty → Option Ty) (t : Ty) : Ty := (place t).getD t
/-- what place left, in a box b -/
def CutL (I : Nat → σ → World → Prop) (M Su : Nat → Prop) (place : Ty → Option Ty) (t : Ty) (c : Nat) (s : σ) (W0 : World) (b : Nat) (q : Bool) (wx : World) : Prop :=
  ∃ k x z a m p, Blk wx b 26 #[.int .i64 k, .string x, .int .i64 z, .slice a m p] ∧ W0.heap.size ≤ b ∧ (q = true → ∃ u, place t = some u ∧ RdV Su wx u (.agg #[.int .i64 k, .string x, .int .i64 z, .slice a m p])) ∧ (q = false → place t = none) ∧ I c s wx ∧ Chg M W0 wx
theorem cutl_new {I : Nat → σ → World → Prop} {K M Su : Nat → Prop} {place : Ty → Option Ty} {t : Ty} {c : Nat} {s : σ} {W0 W w1 : World} {q : Bool} {k z : Int} {x : ByteArray} {a : Option Addr} {m p : Nat} (hI : InvC I K) (hSu : ∀ g, Su g → K g) (h0 : Below W0.heap.size W0 W) (c1 : Chg M W w1) (hi : I c s w1)
    (h1 : q = true → ∃ u, place t = some u ∧ RdV Su w1 u (.agg #[.int .i64 k, .string x, .int .i64 z, .slice a m p])) (h2 : q = false → place t = none) :
    CutL I M Su place t c s W0 w1.heap.size q (w1.alloc (.cells #[.int .i64 k, .string x, .int .i64 z, .slice a m p] 26)) := by
  have hlt := hI.lt _ _ _ hi
  refine ⟨k, x, z, a, m, p, heap_alloc_new _ _, Nat.le_trans h0.size c1.size, fun h => ?_, h2, hI.keep _ _ _ _ hi (by simp) (fun g hg => Below.heap_alloc _ _ _ (hlt g hg)), ((Chg.of_below h0).trans c1).alloc _⟩
  obtain ⟨u, e1, e2⟩ := h1 h
  exact ⟨u, e1, e2.keep (fun _ h => h) (fun g hg => Below.heap_alloc _ _ _ (hlt g (hSu g hg)))⟩
theorem cutl_old {I : Nat → σ → World → Prop} {K M Su : Nat → Prop} {place : Ty → Option Ty} {t : Ty} {c : Nat} {s : σ} {W0 W w1 : World} {q : Bool} {k z : Int} {x : ByteArray} {a : Option Addr} {m p g : Nat} (hI : InvC I K) (hSu : ∀ g, Su g → K g) (hK : ∀ g, K g → g < W0.heap.size) (hg : W0.heap.size ≤ g) (h0 : Below W0.heap.size W0 W) (c1 : Chg M W w1) (hi : I c s w1)
    (hz : Blk w1 g 26 #[.int .i64 0, .string ⟨#[]⟩, .int .i64 0, .slice none 0 0])
    (h1 : q = true → ∃ u, place t = some u ∧ RdV Su w1 u (.agg #[.int .i64 k, .string x, .int .i64 z, .slice a m p])) (h2 : q = false → place t = none) :
    CutL I M Su place t c s W0 g q ((((w1.setCell ⟨g, 0, none⟩ (.int .i64 k)).setCell ⟨g, 1, none⟩ (.string x)).setCell ⟨g, 2, none⟩ (.int .i64 z)).setCell ⟨g, 3, none⟩ (.slice a m p)) := by
  refine ⟨k, x, z, a, m, p, blk_set4 _ _ _ _ hz, hg, fun h => ?_, h2, hI.keep _ _ _ _ hi (by simp) (fun g' hg' => heap_set4 _ _ _ _ _ _ _ (by have := hK g' hg'; omega)), ((Chg.of_below h0).trans c1).set4 _ _ _ _ hg⟩
  obtain ⟨u, e1, e2⟩ := h1 h
  exact ⟨u, e1, e2.keep (fun _ h => h) (fun g' hg' => heap_set4 _ _ _ _ _ _ _ (by have := hK g' (hSu g' hg'); omega))⟩
end

theorem chg_lf {σ : Type} (bind : Name → σ → Name × σ) (leaf : Ty → Ty) (env : List (Name × Name)) (t : Ty) (s : σ) (h : kd t = 1 ∨ kd t = 2) :
    chg bind leaf env t s = (if kd t = 1 then ((look (nmB t).data.toList env).map Ty.var).getD (leaf t) else leaf t, s) := by
  cases t with
  | var x => rw [chg]; exact congrArg (fun z => (z, s)) (if_pos (show kd (Ty.var x) = 1 from rfl)).symm
  | mt n => rw [chg]; exact congrArg (fun z => (z, s)) (if_neg (show ¬ kd (Ty.mt n) = 1 by simp [kd])).symm
  | con d l => simp [kd] at h
  | fn a b => simp [kd] at h
  | all x t => simp [kd] at h

/-- what the leaf's call leaves: a value in the result's box -/
theorem leaf_end {σ : Type} {mb : Nat} {I : Nat → σ → World → Prop} {K M Su : Nat → Prop} {env : List (Name × Name)} {c : Nat} {O : Ty × σ} {w V : World} {g : Nat} {k z : Int} {x : ByteArray} {a : Option Addr} {m p : Nat} (hI : InvC I K) (hSu : ∀ g, Su g → K g) (hlt : ∀ g, K g → g < w.heap.size) (hg : w.heap.size ≤ g) (hmb : mb < w.heap.size)
    (hi : I c O.2 V) (hm : MapE mkTy V mb env) (hc : Chg M w V) (hr : RdV Su V O.1 (.agg #[.int .i64 k, .string x, .int .i64 z, .slice a m p])) :
    CPst mb I M Su env c O w (.returned (.agg #[.int .i64 k, .string x, .int .i64 z, .slice a m p])) ((((V.setCell ⟨g, 0, none⟩ (.int .i64 k)).setCell ⟨g, 1, none⟩ (.string x)).setCell ⟨g, 2, none⟩ (.int .i64 z)).setCell ⟨g, 3, none⟩ (.slice a m p)) := by
  have hf : ∀ q, q < w.heap.size → ((((V.setCell ⟨g, 0, none⟩ (.int .i64 k)).setCell ⟨g, 1, none⟩ (.string x)).setCell ⟨g, 2, none⟩ (.int .i64 z)).setCell ⟨g, 3, none⟩ (.slice a m p)).heap[q]? = V.heap[q]? := fun q hq => heap_set4 _ _ _ _ _ _ _ (by omega)
  exact ⟨k, x, z, a, m, p, rfl, hr.keep (fun _ h => .inl h) (fun q hq => hf q (hlt q (hSu q hq))), hI.keep _ _ _ _ hi (by simp) (fun q hq => hf q (hlt q hq)), hm.keep (hf mb hmb), (hc.set4 _ _ _ _ hg).mono (fun _ _ h => .inl h)⟩

set_option maxRecDepth 2000 in
set_option maxHeartbeats 3200000 in
theorem tc_leaf {σ : Type} (pb mb kl : Nat) (cl : Array Value) (vc vn : Value) (I : Nat → σ → World → Prop) (K M Su : Nat → Prop) (bind : Name → σ → Name × σ) (place : Ty → Option Ty) (hI : InvC I K) (hMK : ∀ g, M g → K g) (hSu : ∀ g, Su g → K g) (hmb : ¬ K mb)
    (hpk : K pb) (hpm : ¬ M pb) (hpt : ∀ c s w, I c s w → Pt w pb mb kl cl vc vn) (el : ∀ args w, (callFunc kl args).run Tryz.prog w = .ok (.enter kl args) w) (HP : PlaceOK kl cl I M Su place)
    (c : Nat) (s : σ) (env : List (Name × Name)) (t : Ty) (S : Nat → Prop) (v : Value) (w : World) (hk12 : kd t = 1 ∨ kd t = 2) (hi : I c s w) (hm : MapE mkTy w mb env) (hv : RdV S w t v) (hS : ∀ g, S g → g < w.heap.size) (hnm : Nm t) :
    Calls Tryz.prog 113 #[.pointer (some ⟨pb, 0, none⟩), v] w (CPst mb I M Su env c (chg bind (lfP place) env t s) w) := by
  obtain ⟨k, X, Z, A, m, cp, rfl, hk, hX, hZ, hkm, -⟩ := hv.parts
  obtain ⟨l0, l1, ls, lb⟩ := laid2 w (.cells #[.int .i64 k, .string X, .int .i64 Z, .slice A m cp] 26) (.cells #[.int .i64 0, .string ⟨#[]⟩, .int .i64 0, .slice none 0 0] 26)
  have hX24 : X.size ≤ maxLen := by
    have : (nmB t).size ≤ 24 := by
      rcases hk12 with h | h
      · cases t with
        | var x => exact nm_len hnm
        | _ => simp [kd] at h
      · cases t with
        | mt n => exact Nat.zero_le _
        | _ => simp [kd] at h
    rw [← hX] at this
    unfold maxLen
    omega
  have hml := hm.lt
  have hlt := hI.lt c s w hi
  have hi2 := hI.keep c s w _ hi lb.size (fun g hg => lb.block g (hlt g hg))
  have hp2 := hpt c s _ hi2
  have hm2 := hm.keep (lb.block _ hml)
  obtain ⟨W0, hW⟩ : ∃ W, (w.alloc (.cells #[.int .i64 k, .string X, .int .i64 Z, .slice A m cp] 26)).alloc (.cells #[.int .i64 0, .string ⟨#[]⟩, .int .i64 0, .slice none 0 0] 26) = W := ⟨_, rfl⟩
  rw [hW] at l0 l1 ls lb hi2 hp2 hm2
  obtain ⟨K5, X5, q5, hq5, hlk5⟩ : ∃ K5 X5 q5, (look X.data.toList env).isSome = q5 ∧ (mkTy.valO (look X.data.toList env) = .agg #[.int .i64 K5, .string X5, .int .i64 0, .slice none 0 0] ∧ ∀ y, look X.data.toList env = some y → K5 = 1 ∧ X5 = ⟨y.toArray⟩) := by
    cases look X.data.toList env with
    | none => exact ⟨0, ⟨#[]⟩, false, rfl, rfl, fun y h => by cases h⟩
    | some y => exact ⟨1, ⟨y.toArray⟩, true, rfl, rfl, fun z h => by injection h with h; rw [h]; exact ⟨rfl, rfl⟩⟩
  obtain ⟨hlk5, hlk6⟩ := hlk5
  have SOF : Hid (∀ W, Below W0.heap.size W0 W → (fun W => W.cell? ⟨pb, 1, none⟩ = some (.map (some mb)) ∧ W.cell? ⟨w.heap.size, 1, none⟩ = some (.string X) ∧ (Instr.lookup 65 (.map (some mb)) (.string X) true).run Tryz.prog W = .ok (.tuple #[.agg #[.int .i64 K5, .string X5, .int .i64 0, .slice none 0 0], .bool q5]) W) W) := hidE fun W h => by
    have h1 := (hm2.keep (h.block mb hm2.lt)).getOk X hX24
    rw [hlk5, hq5] at h1
    exact ⟨(h.cell (p := ⟨pb, 1, none⟩) hp2.lt).trans (Blk.cell hp2 1), (h.cell (p := ⟨w.heap.size, 1, none⟩) (by show w.heap.size < _; omega)).trans (Blk.cell l0 1), h1⟩
  have SOG : Hid (∀ W, Below W0.heap.size W0 W → (fun W => W.cell? ⟨pb, 0, none⟩ = some (fnV kl cl) ∧ W.cell? ⟨w.heap.size, 0, none⟩ = some (.int .i64 k) ∧ W.cell? ⟨w.heap.size, 1, none⟩ = some (.string X) ∧ W.cell? ⟨w.heap.size, 2, none⟩ = some (.int .i64 Z) ∧ W.cell? ⟨w.heap.size, 3, none⟩ = some (.slice A m cp)) W) := hidE fun W h =>
    ⟨(h.cell (p := ⟨pb, 0, none⟩) hp2.lt).trans (Blk.cell hp2 0), (h.cell (p := ⟨w.heap.size, 0, none⟩) (by show w.heap.size < _; omega)).trans (Blk.cell l0 0), (h.cell (p := ⟨w.heap.size, 1, none⟩) (by show w.heap.size < _; omega)).trans (Blk.cell l0 1), (h.cell (p := ⟨w.heap.size, 2, none⟩) (by show w.heap.size < _; omega)).trans (Blk.cell l0 2), (h.cell (p := ⟨w.heap.size, 3, none⟩) (by show w.heap.size < _; omega)).trans (Blk.cell l0 3)⟩
  have hlt2 := hI.lt c s W0 hi2
  have hv2 := hv.keep (S' := S) (w' := W0) (fun _ h => h) (fun g hg => lb.block g (hS g hg))
  have F1 := hidE (fun W (h : Below W0.heap.size W0 W) => HP c s t S _ W (hI.keep _ _ _ _ hi2 h.size (fun g hg => h.block g (hlt2 g hg))) (hv2.keep (S' := S) (fun _ h => h) (fun g hg => h.block g (by have := hS g hg; omega))) (fun g hg => by have := hS g hg; have := h.size; omega) hk12 hnm)
  have B0 : Hid (Below W0.heap.size W0 W0.drew) := hidE (Below.refl _ W0).drew
  obtain ⟨O, hO⟩ : ∃ O, chg bind (lfP place) env t s = O := ⟨_, rfl⟩
  rw [hO]
  have HO := hidE hO
  have HW := hidE hW
  have L0 := hidE l0
  have L1 := hidE l1
  have LS := hidE ls
  have LB := hidE lb
  have HI2 := hidE hi2
  have HM := hidE hm
  have HM2 := hidE hm2
  have HLT2 := hidE hlt2
  have HLT := hidE hlt
  have HML := hidE hml
  have HV := hidE hv
  have HS := hidE hS
  have HK := hidE hk
  have HX := hidE hX
  have HZ := hidE hZ
  have HKM := hidE hkm
  have HQ5 := hidE hq5
  have HL6 := hidE hlk6
  have HK12 := hidE hk12
  have hnn : pb ≠ W0.heap.size := by have := hp2.lt; omega
  clear hi hm hv hS hnm hlt l0 l1 ls lb hi2 hp2 hm2 hlt2 hv2 hk hX hZ hkm hq5 hlk5 hlk6 hk12 hO hX24 hml
  go_enter Tryz.func113, Tryz.ntmps113
  go_upto_region 1 with fail
  clear hW
  go_cut [5, 6] from 9 (fun s5 s6 wx => s6 = .bool q5 ∧ Hid (∃ b, s5 = .pointer (some ⟨b, 0, none⟩) ∧ Blk wx b 26 #[.int .i64 K5, .string X5, .int .i64 0, .slice none 0 0] ∧ W0.heap.size ≤ b ∧ Below W0.heap.size W0 wx))
  case first =>
    go_region_held3 (fun W => W.cell? ⟨pb, 1, none⟩ = some (.map (some mb)) ∧ W.cell? ⟨w.heap.size, 1, none⟩ = some (.string X) ∧ (Instr.lookup 65 (.map (some mb)) (.string X) true).run Tryz.prog W = .ok (.tuple #[.agg #[.int .i64 K5, .string X5, .int .i64 0, .slice none 0 0], .bool q5]) W)
      (first | (with_reducible exact SOF.out _ B0.out) | (refine SOF.out _ ?_; repeat first | exact Below.refl _ _ | (refine Below.alloc ?_ (by first | omega | (simp; done) | (simp; omega)) _) | (refine Below.drew ?_)))
      (fail)
    all_goals
      go_wp2_with fail
      go_meet
      case rel => exact ⟨rfl, hidE ⟨_, rfl, heap_alloc_new _ _, Nat.le_refl _, ((Below.refl _ W0).alloc (Nat.le_refl _) _).drew⟩⟩
  case rest =>
    rename World => V1
    obtain ⟨rfl, hcx⟩ := hcut
    obtain ⟨b, rfl, hbk, hble, hb1⟩ := hcx.out
    have hvs := hb1.size
    have hws := LS.out
    have h0 := L0.out
    have h1 := L1.out
    have z3 : Blk V1 w.heap.size 26 #[.int .i64 k, .string X, .int .i64 Z, .slice A m cp] := Blk.below h0 hb1 (by omega)
    have z4 : Blk V1 (w.heap.size + 1) 26 #[.int .i64 0, .string ⟨#[]⟩, .int .i64 0, .slice none 0 0] := Blk.below h1 hb1 (by omega)
    obtain ⟨x0, x1, x2, x3, -, -, -, -, -⟩ := blk_facts4 z3
    obtain ⟨y0, y1, y2, y3, y4, y5, y6, y7, y8⟩ := blk_facts4 z4
    obtain ⟨p0, p1, p2, p3, -, -, -, -, -⟩ := blk_facts4 hbk
    have Z3 := hidE z3
    have Z4 := hidE z4
    have BK := hidE hbk
    have BLE := hidE hble
    have HB1 := hidE hb1
    have HOV := hidE (HO.out.symm.trans (chg_lf bind (lfP place) env t s HK12.out))
    by_cases hA : kd t = 1 ∧ q5 = true
    · obtain ⟨hk1, rfl⟩ := hA
      have d1 : ((k : Int) == 1) = true := by rw [HK.out, hk1]; rfl
      obtain ⟨y, hy⟩ := Option.isSome_iff_exists.1 HQ5.out
      obtain ⟨rfl, rfl⟩ := HL6.out y hy
      have hov : O = (.var y, s) := by
        rw [HOV.out, if_pos hk1, ← HX.out, hy]; rfl
      have HOV2 := hidE hov
      clear hcx hbk hb1 z3 z4 HOV hov hk1 hy HL6 HQ5
      go_wp2_with fail
      try simp only [Exit.inBlock, Exit.then]
      refine bodyPost_ret (results_cell_row rfl _ _ (w.heap.size + 1) 26 _ (0, 0) _ rfl (blk_set4 (.int .i64 1) (.string ⟨y.toArray⟩) (.int .i64 0) (.slice none 0 0) Z4.out) Tryz.underlying26 rfl (by kernel_rfl)) rfl ?_
      exact leaf_end hI hSu HLT.out (Nat.le_succ _) HML.out (by rw [HOV2.out]; exact hI.keep _ _ _ _ HI2.out HB1.out.size (fun g hg => HB1.out.block g (HLT2.out g hg))) (HM2.out.keep (HB1.out.block mb HM2.out.lt)) (Chg.of_below (LB.out.trans (HB1.out.mono (by omega)))) (by rw [HOV2.out]; exact ⟨none, 0, rfl, trivial⟩)
    · have hov : O = (lfP place t, s) := by
        rw [HOV.out]
        by_cases hk1 : kd t = 1
        · rw [if_pos hk1]
          have hq0 : q5 = false := by
            cases q5 with
            | true => exact absurd ⟨hk1, rfl⟩ hA
            | false => rfl
          rw [hq0] at HQ5
          have hnone := HQ5.out
          rw [Option.isSome_eq_false_iff, Option.isNone_iff_eq_none] at hnone
          rw [← HX.out, hnone]
          rfl
        · rw [if_neg hk1]
      have dq : (kd t = 1 ∧ q5 = false) ∨ ((k : Int) == 1) = false := by
        by_cases hk1 : kd t = 1
        · left
          cases q5 with
          | true => exact absurd ⟨hk1, rfl⟩ hA
          | false => exact ⟨hk1, rfl⟩
        · right
          rw [HK.out]
          exact kF _ 1 hk1
      have HOV2 := hidE hov
      have HDQ := hidE dq
      have BD : Hid (Below W0.heap.size W0 V1.drew) := hidE HB1.out.drew
      have BA : Hid (Below W0.heap.size W0 (V1.alloc (.cells #[.int .i64 0, .string ⟨#[]⟩, .int .i64 0, .slice none 0 0] 26)).drew) := hidE (HB1.out.alloc hvs _).drew
      have SOK : Hid (∀ W' : World, (∀ g, g = pb ∨ g = w.heap.size → W'.heap[g]? = W0.heap[g]?) → (fun W => W.cell? ⟨pb, 0, none⟩ = some (fnV kl cl) ∧ W.cell? ⟨w.heap.size, 0, none⟩ = some (.int .i64 k) ∧ W.cell? ⟨w.heap.size, 1, none⟩ = some (.string X) ∧ W.cell? ⟨w.heap.size, 2, none⟩ = some (.int .i64 Z) ∧ W.cell? ⟨w.heap.size, 3, none⟩ = some (.slice A m cp)) W') := hidE fun W' h => by
        obtain ⟨t0, t1, t2, t3, t4⟩ := SOG.out W0 (Below.refl _ _)
        exact ⟨(World.cell?_of_block (w := W0) (a := ⟨pb, 0, none⟩) (h pb (.inl rfl))).trans t0, (World.cell?_of_block (w := W0) (a := ⟨w.heap.size, 0, none⟩) (h w.heap.size (.inr rfl))).trans t1, (World.cell?_of_block (w := W0) (a := ⟨w.heap.size, 1, none⟩) (h w.heap.size (.inr rfl))).trans t2, (World.cell?_of_block (w := W0) (a := ⟨w.heap.size, 2, none⟩) (h w.heap.size (.inr rfl))).trans t3, (World.cell?_of_block (w := W0) (a := ⟨w.heap.size, 3, none⟩) (h w.heap.size (.inr rfl))).trans t4⟩
      have GP : Hid (∀ g, g = pb ∨ g = w.heap.size → g < W0.heap.size ∧ ¬ M g) := hidE fun g hg => by
        rcases hg with rfl | rfl
        · exact ⟨HLT2.out _ hpk, hpm⟩
        · exact ⟨by omega, fun h => by have := HLT.out _ (hMK _ h); omega⟩
      obtain ⟨g0, g1, g2, g3, g4⟩ := SOG.out V1 hb1
      clear hcx hbk hb1 z3 z4 HOV hov hA HL6 HQ5 dq
      go_upto_region 2 with fail
      go_cut [24] from 19 (fun s24 wx => s24 = .bool false ∧ wx = V1)
      case first =>
        rcases HDQ.out with ⟨-, rfl⟩ | dk
        · go_wp2_with fail
          go_meet
          case rel => exact ⟨rfl, rfl⟩
        · cases q5 with
          | false =>
            go_wp2_with fail
            go_meet
            case rel => exact ⟨rfl, rfl⟩
          | true =>
            go_wp2_with fail
            go_meet
            case rel => exact ⟨rfl, rfl⟩
      case rest =>
        obtain ⟨rfl, hwv⟩ := hcut
        rw [hwv]
        clear hwv p0 p1 p2 p3 x0 x1 x2 x3 y0 y1 y2 y3 y4 y5 y6 y7 y8
        unfold fnV at SOK g0
        go_upto_region 4 with fail
        go_cut [7, 8] from 26 (fun s7 s8 wx => Hid (∃ b q, s7 = .pointer (some ⟨b, 0, none⟩) ∧ s8 = .bool q ∧ CutL I M Su place t c s W0 b q wx))
        case first =>
          go_region_held3 (fun W => W.cell? ⟨pb, 0, none⟩ = some (.func (.func kl) #[] cl) ∧ W.cell? ⟨w.heap.size, 0, none⟩ = some (.int .i64 k) ∧ W.cell? ⟨w.heap.size, 1, none⟩ = some (.string X) ∧ W.cell? ⟨w.heap.size, 2, none⟩ = some (.int .i64 Z) ∧ W.cell? ⟨w.heap.size, 3, none⟩ = some (.slice A m cp))
            (first | (exact ⟨g0, g1, g2, g3, g4⟩) | (exact SOK.out _ GK1.out) | (exact SOK.out _ (fun g hg => (Below.heap_alloc _ _ _ (GL1.out g hg)).trans (GK1.out g hg))) | (exact SOK.out _ (fun g hg => (heap_set4 _ _ _ _ _ _ _ (GN1.out g hg)).trans (GK1.out g hg))) | (exact SOK.out _ (fun g hg => (Below.heap_alloc _ _ _ (by have := (GP.out g hg).1; omega)).trans (HB1.out.block g (GP.out g hg).1))))
            ((first
              | ((with_reducible refine (F1.out _ BD.out).mono ?_); rintro e w1 ⟨k', x', z', a', m', p', q', rfl, h1, h2, hi1, c1⟩; have H1 := hidE h1; have H2 := hidE h2; have HI1 := hidE hi1; have C1 := hidE c1; have GK1 : Hid (∀ g, g = pb ∨ g = w.heap.size → w1.heap[g]? = W0.heap[g]?) := hidE (fun g hg => (C1.out.block g (Nat.lt_of_lt_of_le (GP.out g hg).1 BD.out.size) (GP.out g hg).2).trans (BD.out.block g (GP.out g hg).1)); have GL1 : Hid (∀ g, g = pb ∨ g = w.heap.size → g < w1.heap.size) := hidE (fun g hg => Nat.lt_of_lt_of_le (GP.out g hg).1 (Nat.le_trans BD.out.size C1.out.size)); clear h1 h2 hi1 c1)
              | ((with_reducible refine (F1.out _ BA.out).mono ?_); rintro e w1 ⟨k', x', z', a', m', p', q', rfl, h1, h2, hi1, c1⟩; have H1 := hidE h1; have H2 := hidE h2; have HI1 := hidE hi1; have C1 := hidE c1; have GK1 : Hid (∀ g, g = pb ∨ g = w.heap.size → w1.heap[g]? = W0.heap[g]?) := hidE (fun g hg => (C1.out.block g (Nat.lt_of_lt_of_le (GP.out g hg).1 BA.out.size) (GP.out g hg).2).trans (BA.out.block g (GP.out g hg).1)); have GN1 : Hid (∀ g, g = pb ∨ g = w.heap.size → g ≠ V1.heap.size) := hidE (fun g hg => by have := (GP.out g hg).1; omega); have hz : Blk w1 V1.heap.size 26 #[.int .i64 0, .string ⟨#[]⟩, .int .i64 0, .slice none 0 0] := Blk.chg (heap_alloc_new V1 _) (w := (V1.alloc (.cells #[.int .i64 0, .string ⟨#[]⟩, .int .i64 0, .slice none 0 0] 26)).drew) c1 (fun h => by have := HLT2.out _ (hMK _ h); omega); obtain ⟨y0, y1, y2, y3, y4, y5, y6, y7, y8⟩ := blk_facts4 hz; have HZ1 := hidE hz; clear h1 h2 hi1 c1 hz)))
          all_goals
            go_wp2_with fail
            go_meet
            case rel => first
              | (have hzz := HZ1.out; exact hidE ⟨_, _, rfl, rfl, cutl_old hI hSu HLT2.out hvs BA.out C1.out HI1.out hzz H1.out H2.out⟩)
              | exact hidE ⟨_, _, rfl, rfl, cutl_new hI hSu BD.out C1.out HI1.out H1.out H2.out⟩
        case rest =>
          obtain ⟨b7, q7, rfl, rfl, k7, x7, z7, a7, m7, p7, hb7, hbl7, hq1, hq2, hi7, hc7⟩ := hcut.out
          have hn3 : ¬ M w.heap.size := fun h => by have := HLT.out _ (hMK _ h); omega
          have hn4 : ¬ M (w.heap.size + 1) := fun h => by have := HLT.out _ (hMK _ h); omega
          have w3 := Blk.chg h0 hc7 hn3
          have w4 := Blk.chg h1 hc7 hn4
          have hm7 := HM2.out.keep (hc7.block mb HM2.out.lt (fun h => hmb (hMK _ h)))
          have hcw : Chg M w wc := (Chg.of_below LB.out).trans' hc7 (fun _ _ h => h)
          obtain ⟨x0, x1, x2, x3, -, -, -, -, -⟩ := blk_facts4 w3
          obtain ⟨y0, y1, y2, y3, y4, y5, y6, y7, y8⟩ := blk_facts4 w4
          obtain ⟨p0, p1, p2, p3, -, -, -, -, -⟩ := blk_facts4 hb7
          have W4 := hidE w4
          have HM7 := hidE hm7
          have HC7 := hidE hcw
          have HI7 := hidE hi7
          have HQ1 := hidE hq1
          have HQ2 := hidE hq2
          clear hcut hb7 hq1 hq2 hi7 hc7 w3 w4 hm7 hcw F1 SOK SOG SOF g0 g1 g2 g3 g4
          cases q7 with
          | true =>
            obtain ⟨u, hu1, hu2⟩ := HQ1.out rfl
            have hlo : O = (u, s) := by rw [HOV2.out]; unfold lfP; rw [hu1]; rfl
            have HLO := hidE hlo
            have HU2 := hidE hu2
            clear hu1 hu2 hlo
            go_wp2_with fail
            try simp only [Exit.inBlock, Exit.then]
            refine bodyPost_ret (results_cell_row rfl _ _ (w.heap.size + 1) 26 _ (0, 0) _ rfl (blk_set4 (.int .i64 k7) (.string x7) (.int .i64 z7) (.slice a7 m7 p7) W4.out) Tryz.underlying26 rfl (by kernel_rfl)) rfl ?_
            exact leaf_end hI hSu HLT.out (Nat.le_succ _) HML.out (by rw [HLO.out]; exact HI7.out) HM7.out HC7.out (by rw [HLO.out]; exact HU2.out)
          | false =>
            have hn := HQ2.out rfl
            have hlo : O = (t, s) := by rw [HOV2.out]; unfold lfP; rw [hn]; rfl
            have HLO := hidE hlo
            clear hn hlo
            go_wp2_with fail
            try simp only [Exit.inBlock, Exit.then]
            refine bodyPost_ret (results_cell_row rfl _ _ (w.heap.size + 1) 26 _ (0, 0) _ rfl (blk_set4 (.int .i64 k) (.string X) (.int .i64 Z) (.slice A m cp) W4.out) Tryz.underlying26 rfl (by kernel_rfl)) rfl ?_
            exact leaf_end hI hSu HLT.out (Nat.le_succ _) HML.out (by rw [HLO.out]; exact HI7.out) HM7.out HC7.out (by rw [HLO.out]; exact leaf_any HV.out HK12.out)

end Go.Proofs.YtaomnlcplmkokaaGreatDoor

/-
  Package putting: putting into a leaf.
-/
namespace Go.Proofs.YtaomnlcplmkokaaGreatDoor
open Go.RowKit Lx Tx Go.Maps Go.WideMaps Go.Shelf
set_option maxRecDepth 100000

section
variable {σ : Type}
/-- the contract of putting into types of up to this size -/
def PutOK (n pb mb : Nat) (I : Nat → σ → World → Prop) (M Su : Nat → Prop) (bind : Name → σ → Name × σ) (leaf : Ty → Ty) (G : Ty → Prop) : Prop :=
  ∀ (c : Nat) (s : σ) (env : List (Name × Name)) (t : Ty) (S : Nat → Prop) (v : Value) (w : World), G t → t.size ≤ n → n ≤ 1000000 →
    I c s w → MapE mkTy w mb env → RdV S w t v → (∀ g, S g → g < w.heap.size ∧ ¬ M g ∧ g ≠ mb) → Nm t → c + t.fas ≤ 10000000 → env.length + t.size ≤ 100000000 →
    Calls Tryz.prog 90 #[.pointer (some ⟨pb, 0, none⟩), v] w (CPst mb I M Su env (c + t.fas) (chg bind leaf env t s) w)
end

set_option maxHeartbeats 1600000 in
theorem tc_putLeaf {σ : Type} (pb mb kl : Nat) (cl : Array Value) (vc vn : Value) (I : Nat → σ → World → Prop) (K M Su : Nat → Prop) (bind : Name → σ → Name × σ) (place : Ty → Option Ty) (hI : InvC I K) (hMK : ∀ g, M g → K g) (hSu : ∀ g, Su g → K g) (hmb : ¬ K mb)
    (hpk : K pb) (hpm : ¬ M pb) (hpt : ∀ c s w, I c s w → Pt w pb mb kl cl vc vn) (el : ∀ args w, (callFunc kl args).run Tryz.prog w = .ok (.enter kl args) w) (HP : PlaceOK kl cl I M Su place)
    (c : Nat) (s : σ) (env : List (Name × Name)) (t : Ty) (S : Nat → Prop) (v : Value) (w : World) (hk12 : kd t = 1 ∨ kd t = 2) (hi : I c s w) (hm : MapE mkTy w mb env) (hv : RdV S w t v) (hS : ∀ g, S g → g < w.heap.size) (hnm : Nm t) :
    Calls Tryz.prog 90 #[.pointer (some ⟨pb, 0, none⟩), v] w (CPst mb I M Su env (c + t.fas) (chg bind (lfP place) env t s) w) := by
  obtain ⟨k, X, Z, A, m, cp, rfl, hk, -, -, -, -⟩ := hv.parts
  have hlt := hI.lt c s w hi
  have hml := hm.lt
  obtain ⟨-, k1, ks, bl⟩ := laid2 w (.cells #[.int .i64 k, .string X, .int .i64 Z, .slice A m cp] 26) (.cells #[.int .i64 0, .string ⟨#[]⟩, .int .i64 0, .slice none 0 0] 26)
  have HCALL := hidE (tc_leaf pb mb kl cl vc vn I K M Su bind place hI hMK hSu hmb hpk hpm hpt el HP c s env t S _ _ hk12 (hI.keep _ _ _ _ hi bl.size (fun g hg => bl.block g (hlt g hg))) (hm.keep (bl.block _ hml)) (hv.keep (S' := S) (fun _ h => h) (fun g hg => bl.block g (hS g hg))) (fun g hg => by have := hS g hg; omega) hnm)
  obtain ⟨O, hO⟩ : ∃ O, chg bind (lfP place) env t s = O := ⟨_, rfl⟩
  rw [hO] at HCALL ⊢
  have K1 := hidE k1
  have KS := hidE ks
  have KB := hidE bl
  have HLT := hidE hlt
  have HML := hidE hml
  clear hi hm hv hS hnm k1 ks bl hlt hml hO
  have d12 : ((k : Int) == 1) = true ∨ (((k : Int) == 1) = false ∧ ((k : Int) == 2) = true) := by
    rcases hk12 with h | h
    · left; rw [hk, h]; rfl
    · right; rw [hk, h]; exact ⟨rfl, rfl⟩
  clear hk hk12
  rcases d12 with d1 | ⟨d1, d2⟩
  all_goals
    go_enter_defers Tryz.func90, Tryz.ntmps90
    go_wp2_with fail
    refine HCALL.out.mono ?_
    rintro e w1 ⟨k', x', z', a', m', p', rfl, hr, hi1, hm1, c1⟩
    have hn1 : ¬ (M (w.heap.size + 1) ∨ w.heap.size + 1 = mb) := fun h => by
      rcases h with h | h
      · have := HLT.out _ (hMK _ h); omega
      · have := HML.out; omega
    have hb1 := Blk.chg K1.out c1 hn1
    obtain ⟨q0, q1, q2, q3, t0, t1, t2, t3, hlx⟩ := blk_facts4 hb1
    have HR := hidE hr
    have HI1 := hidE hi1
    have HM1 := hidE hm1
    have C1 := hidE c1
    have HB1 := hidE hb1
    have hs1 := c1.size
    clear hr hi1 hm1 c1 hb1 HCALL
    go_wp2_with fail
    have hb := blk_set4 (.int .i64 k') (.string x') (.int .i64 z') (.slice a' m' p') HB1.out
    have hf : ∀ g, g ≠ w.heap.size + 1 → ((((w1.setCell ⟨w.heap.size + 1, 0, none⟩ (.int .i64 k')).setCell ⟨w.heap.size + 1, 1, none⟩ (.string x')).setCell ⟨w.heap.size + 1, 2, none⟩ (.int .i64 z')).setCell ⟨w.heap.size + 1, 3, none⟩ (.slice a' m' p')).heap[g]? = w1.heap[g]? := fun g hg => heap_set4 _ _ _ _ _ _ _ hg
    have hsz : ((((w1.setCell ⟨w.heap.size + 1, 0, none⟩ (.int .i64 k')).setCell ⟨w.heap.size + 1, 1, none⟩ (.string x')).setCell ⟨w.heap.size + 1, 2, none⟩ (.int .i64 z')).setCell ⟨w.heap.size + 1, 3, none⟩ (.slice a' m' p')).heap.size = w1.heap.size := by simp
    have hks := KS.out
    refine ⟨_, results_cell_row rfl _ _ (w.heap.size + 1) 26 _ (0, 0) _ rfl hb Tryz.underlying26 rfl (by kernel_rfl), k', x', z', a', m', p', rfl, ?_, ?_, ?_, ?_⟩
    · refine HR.out.keep (fun q hq => ?_) (fun q hq => hf q ?_)
      · rcases hq with hq | ⟨h1, h2⟩
        · exact .inl hq
        · exact .inr ⟨by omega, by rw [hsz]; exact h2⟩
      · rcases hq with hq | ⟨h1, h2⟩
        · have := HLT.out q (hSu q hq); omega
        · omega
    · exact hI.mono _ _ _ _ (hI.keep _ _ _ _ HI1.out (Nat.le_of_eq hsz.symm) (fun g hg => hf g (by have := HLT.out g hg; omega))) (by omega)
    · exact HM1.out.keep (hf mb (by have := HML.out; omega))
    · exact ((Chg.of_below KB.out).trans' C1.out (fun g _ h => h)).set4 _ _ _ _ (by omega)

end Go.Proofs.YtaomnlcplmkokaaGreatDoor

/-
  Package putting: putting into a type that binds nothing.
-/
namespace Go.Proofs.YtaomnlcplmkokaaGreatDoor
open Go.RowKit Lx Tx Go.Maps Go.WideMaps Go.Shelf
set_option maxRecDepth 100000

set_option maxHeartbeats 3200000 in
theorem tc_putApp {σ : Type} (n pb mb : Nat) (I : Nat → σ → World → Prop) (K M Su : Nat → Prop) (bind : Name → σ → Name × σ) (leaf : Ty → Ty) (hI : InvC I K) (hMK : ∀ g, M g → K g) (hSu : ∀ g, Su g → K g ∧ ¬ M g) (hmb : ¬ K mb)
    (G : Ty → Prop) (hGk : ∀ t, G t → ∀ u ∈ kids t, G u) (HC : PutOK n pb mb I M Su bind leaf G)
    (c : Nat) (s : σ) (env : List (Name × Name)) (t : Ty) (hGt : G t) (S : Nat → Prop) (v : Value) (w : World) (hk34 : kd t = 3 ∨ kd t = 4) (hn : t.size ≤ n + 1) (h6 : n < 1000000)
    (hi : I c s w) (hm : MapE mkTy w mb env) (hv : RdV S w t v) (hS : ∀ g, S g → g < w.heap.size ∧ ¬ M g ∧ g ≠ mb) (hnm : Nm t) (hc : c + t.fas ≤ 10000000) (hlen : env.length + t.size ≤ 100000000) :
    Calls Tryz.prog 90 #[.pointer (some ⟨pb, 0, none⟩), v] w (CPst mb I M Su env (c + t.fas) (chg bind leaf env t s) w) := by
  obtain ⟨k, X, Z, A, m, cp, rfl, hk, hX, hZ, hkm, ha⟩ := hv.parts
  have hsk : sizeL (kids t) + 1 = t.size := by rw [size_kids t]
  have hfk : t.fas = fasL (kids t) := by rw [fas_kids t, if_neg (by omega), Nat.add_zero]
  have hm6 : m ≤ n := by have := kids_len t; omega
  have d1 : ((k : Int) == 1) = false := by rw [hk]; exact kF _ 1 (by omega)
  have d2 : ((k : Int) == 2) = false := by rw [hk]; exact kF _ 2 (by omega)
  have d5 : ((k : Int) == 5) = false := by rw [hk]; exact kF _ 5 (by omega)
  obtain ⟨vs, hvl, hvr, hv0, hv1, hvc⟩ := clone_vals ha hkm
  obtain ⟨-, -, ls, lb⟩ := laid2 w (.cells #[.int .i64 k, .string X, .int .i64 Z, .slice A m cp] 26) (.cells #[.int .i64 0, .string ⟨#[]⟩, .int .i64 0, .slice none 0 0] 26)
  obtain ⟨l0, l1, -, -⟩ := laid2 w (.cells #[.int .i64 k, .string X, .int .i64 Z, .slice A m cp] 26) (.cells #[.int .i64 0, .string ⟨#[]⟩, .int .i64 0, .slice none 0 0] 26)
  have hcl := tc_clone A m cp vs ((w.alloc (.cells #[.int .i64 k, .string X, .int .i64 Z, .slice A m cp] 26)).alloc (.cells #[.int .i64 0, .string ⟨#[]⟩, .int .i64 0, .slice none 0 0] 26)) hv0 hvl
    (fun ad had w' hw j u hu => hvc ad had w' (fun q hq => (hw.block q (by have := hS q hq; omega)).trans (lb.block q (hS q hq).1)) j u hu) hv1 (by omega)
  rw [ls] at hcl
  obtain ⟨hr1, hr2, hr3, hr4, hr5⟩ := chg_app bind leaf env t s hk34
  have HR1 := hidE hr1
  have HR2 := hidE hr2
  have HR3 := hidE hr3
  have HR4 := hidE hr4
  have HR5 := hidE hr5
  have HK := hidE hk
  have HX := hidE hX
  have HZ := hidE hZ
  have HKM := hidE hkm
  have HS := hidE hS
  have HI := hidE hi
  have HM := hidE hm
  have HLT := hidE (hI.lt c s w hi)
  have HNK : Hid (∀ i (hi : i < (kids t).length), Nm (kids t)[i]) := hidE fun i hi => nm_kid hnm i hi
  have HCL := hidE hcl
  have HVR := hidE hvr
  have L0 := hidE l0
  have L1 := hidE l1
  have LB := hidE lb
  have LSZ := hidE ls
  have hml := hm.lt
  clear hr1 hr2 hr3 hr4 hr5 hk hX hZ hkm hS hi hm hnm hcl hvl hvr hv0 hv1 hvc l0 l1 ls lb hv ha hk34
  go_enter_defers Tryz.func90, Tryz.ntmps90
  go_wp2_with fail
  refine HCL.out.mono ?_
  rintro e w3 ⟨A3, c3, rfl, hown, hbl⟩
  have hs3 : w.heap.size + 2 ≤ w3.heap.size := Nat.le_trans (Nat.le_of_eq LSZ.out.symm) hbl.size
  have hb0 := Blk.below L0.out hbl (by omega)
  have hb1 := Blk.below L1.out hbl (by omega)
  have hbel := LB.out.trans (hbl.mono (by omega))
  obtain ⟨g3, hg3, hrow⟩ := clone_row (R := fun k => Su k ∨ (w3.heap.size ≤ k ∧ k < w3.heap.size)) hown (HVR.out.keep (fun _ h => h) (fun q hq => hbel.block q (HS.out q hq).1))
  obtain ⟨p0, p1, p2, p3, s0, s1, s2, s3, hlx⟩ := blk_facts4 hb0
  have HB0 := hidE hb0
  have HB1 := hidE hb1
  have BEL := hidE hbel
  have HROW := hidE hrow
  clear hown hb0 hb1 hbel hrow hbl HCL HVR
  go_wp2_with fail
  have hw4 : Blk (w3.setCell ⟨w.heap.size, 3, none⟩ (.slice A3 m c3)) w.heap.size 26 #[.int .i64 k, .string X, .int .i64 Z, .slice A3 m c3] := heap_setCell_same _ w.heap.size 3 _ _ (.slice A3 m c3) HB0.out
  have hr4 : Blk (w3.setCell ⟨w.heap.size, 3, none⟩ (.slice A3 m c3)) (w.heap.size + 1) 26 #[.int .i64 0, .string ⟨#[]⟩, .int .i64 0, .slice none 0 0] := HB1.out.far (p := ⟨w.heap.size, 3, none⟩) (Nat.succ_ne_self _) _
  have hs4 : (w3.setCell ⟨w.heap.size, 3, none⟩ (.slice A3 m c3)).heap.size = w3.heap.size := by simp
  have hk4 : ∀ q, q < w.heap.size → (w3.setCell ⟨w.heap.size, 3, none⟩ (.slice A3 m c3)).heap[q]? = w.heap[q]? := fun q hq => (Below.heap_setCell w3 ⟨w.heap.size, 3, none⟩ _ q (by show q ≠ w.heap.size; omega)).trans (BEL.out.block q hq)
  have hch4 : Chg (fun k => M k ∨ k = mb) w (w3.setCell ⟨w.heap.size, 3, none⟩ (.slice A3 m c3)) := (Chg.of_below BEL.out).setCell (p := ⟨w.heap.size, 3, none⟩) (.inl (Nat.le_refl _)) _
  have hi4 := hI.keep c s w _ HI.out (by rw [hs4]; exact BEL.out.size) (fun q hq => hk4 q (HLT.out q hq))
  have hm4 := HM.out.keep (hk4 mb hml)
  have HW4 := hidE hw4
  have HR4' := hidE hr4
  have HK4 := hidE hk4
  have HCH4 := hidE hch4
  have HI4 := hidE hi4
  have HM4 := hidE hm4
  have HS4 := hidE hs4
  have hbs := BEL.out.size
  have hst4 : Hid (0 < m → A3 = some ⟨g3, 0, none⟩ ∧ RowSt (fun k => Su k ∨ (w3.heap.size ≤ k ∧ k < (w3.setCell ⟨w.heap.size, 3, none⟩ (.slice A3 m c3)).heap.size)) S (w3.setCell ⟨w.heap.size, 3, none⟩ (.slice A3 m c3)) (kids t) [] g3 0) := hidE fun h0 => by
    obtain ⟨x1, x2⟩ := HROW.out h0
    refine ⟨x1, x2.keep (fun q hq => by rw [hs4]; exact hq) (fun q hq => Below.heap_setCell w3 ⟨w.heap.size, 3, none⟩ _ q ?_) (by rw [hs4]; exact Nat.le_refl _)⟩
    show q ≠ w.heap.size
    rcases hq with (hq | hq) | hq | hq
    · have := HLT.out q (hSu q hq).1; omega
    · omega
    · have := (HS.out q hq).1; omega
    · omega
  clear hw4 hr4 hk4 hch4 hi4 hm4 hs4 p0 p1 p2 p3 s0 s1 s2 s3
  go_loopg [55] m (fun gg vi wr => HeadChg mb I M Su S bind leaf env (kids t) c s w3.heap.size g3 m (w3.setCell ⟨w.heap.size, 3, none⟩ (.slice A3 m c3)) gg vi wr)
  case atStart =>
    exact ⟨0, by omega, rfl, Nat.zero_le _, by rw [List.take_zero, fasL, chgL]; exact HI4.out, HM4.out, fun h0 => by rw [List.take_zero, chgL]; exact (hst4.out h0).2, Chg.refl _ _⟩
  case round =>
    obtain ⟨i, rfl, rfl, hi, i1, mp1, hrw, c1⟩ := hrel
    have I1 := hidE i1
    have MP1 := hidE mp1
    have HRW := hidE hrw
    have C1 := hidE c1
    have hsr := c1.size
    rw [HS4.out] at hsr
    have hnr : ∀ q, w.heap.size ≤ q → q < w.heap.size + 2 → wr.heap[q]? = (w3.setCell ⟨w.heap.size, 3, none⟩ (.slice A3 m c3)).heap[q]? := fun q h1 h2 => c1.block q (by rw [HS4.out]; omega) (fun h => by
      rcases h with h | h | h
      · have := HLT.out q (hMK q h); omega
      · omega
      · omega)
    have BN := hidE (HW4.out.same (hnr _ (Nat.le_refl _) (by omega)))
    have BR := hidE (HR4'.out.same (hnr _ (by omega) (by omega)))
    clear i1 mp1 hrw c1 hnr
    by_cases hlt : i < m
    · obtain ⟨rfl, hst0⟩ := hst4.out (by omega)
      have hg3l := hst0.lt
      rw [HS4.out] at hg3l
      clear hst0
      have hst := HRW.out (by omega)
      have hil : i < (kids t).length := by rw [HKM.out]; exact hlt
      obtain ⟨A1, q1, h4, harg⟩ := hst.old i hil (Nat.le_refl _)
      have hnu := HNK.out i hil
      have hgu := hGk t hGt _ (List.getElem_mem hil)
      have htk : (kids t).take (i + 1) = (kids t).take i ++ [(kids t)[i]] := List.take_succ_eq_append_getElem hil
      have hsn := sizeL_next (kids t) i (kids t)[i] ⟨hil, rfl⟩
      have hsle := sizeL_take_le (kids t) (i + 1)
      have hfn := fasL_next (kids t) i (kids t)[i] ⟨hil, rfl⟩
      have hfle := fasL_take_le (kids t) (i + 1)
      obtain ⟨u, hu⟩ : ∃ u, (kids t)[i] = u := ⟨_, rfl⟩
      rw [hu] at h4 harg hnu htk hsn hfn hgu
      have hszu : u.size ≤ n := by omega
      have hrd : RdV S wr u (.agg #[.int .i64 (kd u : Nat), .string (nmB u), .int .i64 (nn u : Nat), .slice A1 (kids u).length q1]) := ⟨A1, q1, rfl, harg⟩
      obtain ⟨e0, e1, e2, e3⟩ := h4
      obtain ⟨K1, hK1⟩ : ∃ K1 : Int, ((kd u : Nat) : Int) = K1 := ⟨_, rfl⟩
      obtain ⟨X1, hX1⟩ : ∃ X1, nmB u = X1 := ⟨_, rfl⟩
      obtain ⟨Z1, hZ1⟩ : ∃ Z1 : Int, ((nn u : Nat) : Int) = Z1 := ⟨_, rfl⟩
      obtain ⟨n1, hn1⟩ : ∃ n1, (kids u).length = n1 := ⟨_, rfl⟩
      rw [hK1] at e0 hrd
      rw [hX1] at e1 hrd
      rw [hZ1] at e2 hrd
      rw [hn1] at e3 hrd
      have HTK := hidE htk
      have HSN := hidE hfn
      have hcall := HC (c + fasL ((kids t).take i)) (chgL bind leaf env ((kids t).take i) s).2 env u S _ ((wr.alloc (.cells #[.int .i64 K1, .string X1, .int .i64 Z1, .slice A1 n1 q1] 26)).drew) hgu hszu (by omega)
        (hI.keep _ _ _ _ I1.out (by show wr.heap.size ≤ (wr.alloc _).heap.size; simp) (fun g hg => Below.heap_alloc wr _ g (hI.lt _ _ _ I1.out g hg))) (MP1.out.keep (Below.heap_alloc wr _ mb MP1.out.lt)) (hrd.keep (fun _ h => h) (fun g hg => Below.heap_alloc wr _ g (by have := (HS.out g hg).1; omega)))
        (fun g hg => ⟨by show g < (wr.alloc _).heap.size; have := (HS.out g hg).1; simp; omega, (HS.out g hg).2⟩) hnu (by omega) (by omega)
      have HCALL := hidE hcall
      have NB0 : Hid (Blk ((wr.alloc (.cells #[.int .i64 K1, .string X1, .int .i64 Z1, .slice A1 n1 q1] 26)).drew) w.heap.size 26 #[.int .i64 k, .string X, .int .i64 Z, .slice (some ⟨g3, 0, none⟩) m c3]) := hidE (Blk.alloc BN.out _)
      have PB0 : Hid (Blk ((wr.alloc (.cells #[.int .i64 K1, .string X1, .int .i64 Z1, .slice A1 n1 q1] 26)).drew) wr.heap.size 26 #[.int .i64 K1, .string X1, .int .i64 Z1, .slice A1 n1 q1]) := hidE (heap_alloc_new wr _)
      have SOF : Hid (∀ W : World, Blk W w.heap.size 26 #[.int .i64 k, .string X, .int .i64 Z, .slice (some ⟨g3, 0, none⟩) m c3] → Blk W wr.heap.size 26 #[.int .i64 K1, .string X1, .int .i64 Z1, .slice A1 n1 q1] →
        W.cell? ⟨w.heap.size, 3, none⟩ = some (.slice (some ⟨g3, 0, none⟩) m c3) ∧ W.cell? ⟨wr.heap.size, 0, none⟩ = some (.int .i64 K1) ∧ W.cell? ⟨wr.heap.size, 1, none⟩ = some (.string X1) ∧ W.cell? ⟨wr.heap.size, 2, none⟩ = some (.int .i64 Z1) ∧ W.cell? ⟨wr.heap.size, 3, none⟩ = some (.slice A1 n1 q1)) :=
        hidE fun W h1 h2 => ⟨h1.cell 3, h2.cell 0, h2.cell 1, h2.cell 2, h2.cell 3⟩
      have HST := hidE hst
      have hgl := hst.lt
      have hneN : w.heap.size ≠ g3 := by omega
      have hneP : wr.heap.size ≠ g3 := by omega
      clear hst hrd hnu hcall hu hK1 hX1 hZ1 hn1 htk hsn hfn harg
      go_wp2_with fail
      go_region_held3 (fun W => W.cell? ⟨w.heap.size, 3, none⟩ = some (.slice (some ⟨g3, 0, none⟩) m c3) ∧ W.cell? ⟨wr.heap.size, 0, none⟩ = some (.int .i64 K1) ∧ W.cell? ⟨wr.heap.size, 1, none⟩ = some (.string X1) ∧ W.cell? ⟨wr.heap.size, 2, none⟩ = some (.int .i64 Z1) ∧ W.cell? ⟨wr.heap.size, 3, none⟩ = some (.slice A1 n1 q1)) (first | (with_reducible exact SOF.out _ NB0.out PB0.out) | (with_reducible exact SOF.out _ NB1.out PB1.out) | (with_reducible exact SOF.out _ (blk_farO NB1.out hneN) (blk_farO PB1.out hneP)))
        (((with_reducible refine HCALL.out.mono ?_); rintro e w5 ⟨k', x', z', a', m', p', rfl, hr5, hi5, hm5, c5⟩; have hn5 : ∀ q, w.heap.size ≤ q → q ≤ wr.heap.size → w5.heap[q]? = (wr.alloc (.cells #[.int .i64 K1, .string X1, .int .i64 Z1, .slice A1 n1 q1] 26)).heap[q]? := (fun q h1 h2 => c5.block q (by show q < (wr.alloc _).heap.size; rw [size_alloc]; omega) (fun h => by rcases h with h | h; (have := HLT.out q (hMK q h); omega); omega)); have NB1 := hidE (NB0.out.same (hn5 _ (Nat.le_refl _) (by omega))); have PB1 := hidE (PB0.out.same (hn5 _ (by omega) (Nat.le_refl _))); have hs5 : wr.heap.size + 1 ≤ w5.heap.size := (by have := c5.size; rw [show ((wr.alloc (.cells #[.int .i64 K1, .string X1, .int .i64 Z1, .slice A1 n1 q1] 26)).drew).heap.size = wr.heap.size + 1 from size_alloc _ _] at this; exact this); have st5 := HST.out.keep (R' := fun k => Su k ∨ (w3.heap.size ≤ k ∧ k < w5.heap.size)) (w' := w5) (fun q hq => (by rcases hq with hq | hq; exact .inl hq; exact .inr ⟨hq.1, by omega⟩)) (fun q hq => (c5.block q (by show q < (wr.alloc _).heap.size; rw [size_alloc]; rcases hq with (hq | hq) | hq | hq; (have := HLT.out q (hSu q hq).1; omega); omega; (have := (HS.out q hq).1; omega); omega) (by rcases hq with (hq | hq) | hq | hq; (exact fun h => by rcases h with h | h; exact (hSu q hq).2 h; exact hmb (by rw [← h]; exact (hSu q hq).1)); (exact fun h => by rcases h with h | h; (have := HLT.out q (hMK q h); omega); omega); (exact fun h => by rcases h with h | h; exact (HS.out q hq).2.1 h; exact (HS.out q hq).2.2 h); (exact fun h => by rcases h with h | h; (have := HLT.out q (hMK q h); omega); omega))).trans (Below.heap_alloc wr _ q (by rcases hq with (hq | hq) | hq | hq; (have := HLT.out q (hSu q hq).1; omega); omega; (have := (HS.out q hq).1; omega); omega))) (by omega); obtain ⟨A5, q5, ⟨y0, y1, y2, y3⟩, -⟩ := st5.old i hil (Nat.le_refl _); have f0 := st5.free (i * 4); have f1 := st5.free (i * 4 + 1); have f2 := st5.free (i * 4 + 2); have f3 := st5.free (i * 4 + 3); have ST5 := hidE st5; have HR5 := hidE hr5; have HI5 := hidE hi5; have HM5 := hidE hm5; have C5 := hidE c5; clear st5 hr5 hi5 hm5 c5 hn5))
      all_goals
        go_wp2_with fail
        have hput := RowSt.put ST5.out hil (by rw [chgL_len, List.length_take]; omega) (HR5.out.keep (S' := fun k => Su k ∨ (w3.heap.size ≤ k ∧ k < w5.heap.size)) (fun q hq => by rcases hq with hq | hq; exact .inl hq; exact .inr ⟨by have h1 := hq.1; have h2 : ((wr.alloc (.cells #[.int .i64 K1, .string X1, .int .i64 Z1, .slice A1 n1 q1] 26)).drew).heap.size = wr.heap.size + 1 := size_alloc _ _; omega, hq.2⟩) (fun q _ => rfl)) (fun h => by rcases h with h | h; (have := HLT.out _ (hSu _ h).1; omega); omega) (fun h => by have := (HS.out _ h).1; omega)
        have HPUT := hidE hput
        clear hput
        go_roundg (m - (i + 1))
        case measure => omega
        case rel =>
          have hfin : HeadChg mb I M Su S bind leaf env (kids t) c s w3.heap.size g3 m (w3.setCell ⟨w.heap.size, 3, none⟩ (.slice (some ⟨g3, 0, none⟩) m c3)) (m - (i + 1)) (.int .i64 ((i + 1 : Nat) : Int)) (setO w5 g3 (i * 4) (.int .i64 k') (.string x') (.int .i64 z') (.slice a' m' p')) := by
            refine ⟨i + 1, rfl, rfl, by omega, ?_, ?_, fun _ => ?_, ?_⟩
            · rw [HTK.out, chgL_snoc, ← HTK.out, HSN.out]
              have := hI.keep _ _ _ (setO w5 g3 (i * 4) (.int .i64 k') (.string x') (.int .i64 z') (.slice a' m' p')) HI5.out (by rw [setO_size]; exact Nat.le_refl _) (fun q hq => setO_heap _ _ _ _ _ _ _ _ (by have := HLT.out q hq; omega))
              rw [Nat.add_assoc] at this
              exact this
            · exact HM5.out.keep (setO_heap _ _ _ _ _ _ _ _ (by omega))
            · rw [HTK.out, chgL_snoc]
              exact HPUT.out.keep (fun q hq => by rw [setO_size]; exact hq) (fun _ _ => rfl) (Nat.le_refl _)
            · have h1 : Chg (fun k => M k ∨ k = mb ∨ k = g3) (w3.setCell ⟨w.heap.size, 3, none⟩ (.slice (some ⟨g3, 0, none⟩) m c3)) w5 := ((C1.out.alloc _).drew).trans' C5.out (fun q _ h => by
                rcases h with h | h
                · exact .inl h
                · exact .inr (.inl h))
              exact h1.setO _ _ _ _ _ (.inr (.inr (.inr rfl)))
          refine cast (congrArg (fun v => HeadChg mb I M Su S bind leaf env (kids t) c s w3.heap.size g3 m _ (m - (i + 1)) v _) ?_) hfin
          go_num
    · have him : i = m := by omega
      subst him
      have hend : (kids t).take i = kids t := List.take_of_length_le (by rw [HKM.out]; exact Nat.le_refl _)
      have hi1 := I1.out
      have hrw1 := HRW.out
      rw [hend, ← HR5.out] at hi1
      rw [hend, ← HR4.out] at hrw1
      have HI1 := hidE hi1
      have HRW1 := hidE hrw1
      obtain ⟨p0, p1, p2, p3, s0, s1, s2, s3, -⟩ := blk_facts4 BN.out
      obtain ⟨q0, q1, q2, q3, t0, t1, t2, t3, -⟩ := blk_facts4 BR.out
      clear hi1 hrw1 hend
      go_wp2_with fail
      have hb := blk_set4 (.int .i64 k) (.string X) (.int .i64 Z) (.slice A3 i c3) BR.out
      have hf : ∀ g, g ≠ w.heap.size + 1 → ((((wr.setCell ⟨w.heap.size + 1, 0, none⟩ (.int .i64 k)).setCell ⟨w.heap.size + 1, 1, none⟩ (.string X)).setCell ⟨w.heap.size + 1, 2, none⟩ (.int .i64 Z)).setCell ⟨w.heap.size + 1, 3, none⟩ (.slice A3 i c3)).heap[g]? = wr.heap[g]? := fun g hg => heap_set4 _ _ _ _ _ _ _ hg
      have hsz : ((((wr.setCell ⟨w.heap.size + 1, 0, none⟩ (.int .i64 k)).setCell ⟨w.heap.size + 1, 1, none⟩ (.string X)).setCell ⟨w.heap.size + 1, 2, none⟩ (.int .i64 Z)).setCell ⟨w.heap.size + 1, 3, none⟩ (.slice A3 i c3)).heap.size = wr.heap.size := by simp
      refine ⟨_, results_cell_row rfl _ _ (w.heap.size + 1) 26 _ (0, 0) _ rfl hb Tryz.underlying26 rfl (by kernel_rfl), k, X, Z, A3, i, c3, rfl, ⟨A3, c3, ?_, ?_⟩, ?_, ?_, ?_⟩
      · rw [HR1.out, HR2.out, HR3.out, HR4.out, chgL_len, HKM.out, ← HK.out, ← HX.out, ← HZ.out]
      · refine (kids_row _ _ _ _).2 fun hne => ?_
        have h0 : 0 < i := by
          refine Nat.pos_of_ne_zero fun e => hne ?_
          rw [HR4.out]
          refine List.eq_nil_of_length_eq_zero ?_
          rw [chgL_len, HKM.out, e]
        obtain ⟨hA, h4⟩ := hst4.out h0
        have hl4 := h4.lt
        rw [HS4.out] at hl4
        have hrow := HRW1.out h0
        refine ⟨g3, hA, .inr ⟨by omega, by rw [hsz]; omega⟩, RowT.keep (fun q hq => by rw [hsz]; rcases hq with hq | hq; exact .inl hq; exact .inr ⟨by omega, hq.2⟩) (fun q hq => hf q (by rcases hq with hq | hq; (have := HLT.out q (hSu q hq).1; omega); omega)) _ _ _ (hf g3 (by omega)) hrow.new⟩
      · refine hI.mono _ _ _ _ (hI.keep _ _ _ _ HI1.out (Nat.le_of_eq hsz.symm) (fun q hq => hf q (by have := HLT.out q hq; omega))) (by omega)
      · exact MP1.out.keep (hf mb (by omega))
      · refine Chg.set4 (HCH4.out.trans' C1.out (fun q hq h => ?_)) _ _ _ _ (Nat.le_succ _)
        rcases h with h | h | h
        · exact .inl h
        · exact .inr h
        · omega

end Go.Proofs.YtaomnlcplmkokaaGreatDoor

/-
  Package putting: putting into a for all.
-/
namespace Go.Proofs.YtaomnlcplmkokaaGreatDoor
open Go.RowKit Lx Tx Go.Maps Go.WideMaps Go.Shelf
set_option maxRecDepth 100000

/-- what tells the name that a for all binds: a set of names that are not bound, and a closure that tells other ones -/
def BindP {σ : Type} (vc vn : Value) (I : Nat → σ → World → Prop) (M : Nat → Prop) (bind : Name → σ → Name × σ) (inC : Name → Bool) : Prop :=
  (∀ (c : Nat) (s : σ) (X : ByteArray) (w : World), I c s w → X.size ≤ 24 → (Instr.lookup 77 vc (.string X) true).run Tryz.prog w = .ok (.tuple #[.agg #[], .bool (inC X.data.toList)]) w) ∧
  (∀ x s, inC x = false → bind x s = (x, s)) ∧
  ∃ kn cn, vn = fnV kn cn ∧ (∀ args w, (callFunc kn args).run Tryz.prog w = .ok (.enter kn args) w) ∧ ∀ (c : Nat) (s : σ) (X : ByteArray) (w : World), I c s w → X.size ≤ 24 → c < 10000000 → inC X.data.toList = true →
    Calls Tryz.prog kn cn w fun e w' => e = .returned (.string ⟨(bind X.data.toList s).1.toArray⟩) ∧ I (c + 1) (bind X.data.toList s).2 w' ∧ Chg M w w'

set_option maxHeartbeats 3200000 in
theorem tc_putAll {σ : Type} (n pb mb kl : Nat) (cl : Array Value) (vc vn : Value) (inC : Name → Bool) (I : Nat → σ → World → Prop) (K M Su : Nat → Prop) (bind : Name → σ → Name × σ) (leaf : Ty → Ty) (hI : InvC I K) (hMK : ∀ g, M g → K g) (hSu : ∀ g, Su g → K g ∧ ¬ M g) (hmb : ¬ K mb)
    (hpk : K pb) (hpt : ∀ c s w, I c s w → Pt w pb mb kl cl vc vn) (HB : BindP vc vn I M bind inC) (G : Ty → Prop) (hGk : ∀ t, G t → ∀ u ∈ kids t, G u) (HC : PutOK n pb mb I M Su bind leaf G)
    (c : Nat) (s : σ) (env : List (Name × Name)) (t : Ty) (hGt : G t) (S : Nat → Prop) (v : Value) (w : World) (hk5 : kd t = 5) (hn : t.size ≤ n + 1) (h6 : n < 1000000)
    (hi : I c s w) (hm : MapE mkTy w mb env) (hv : RdV S w t v) (hS : ∀ g, S g → g < w.heap.size ∧ ¬ M g ∧ g ≠ mb) (hnm : Nm t) (hc : c + t.fas ≤ 10000000) (hlen : env.length + t.size ≤ 100000000) :
    Calls Tryz.prog 90 #[.pointer (some ⟨pb, 0, none⟩), v] w (CPst mb I M Su env (c + t.fas) (chg bind leaf env t s) w) := by
  obtain ⟨k, X, Z, A, m, cp, rfl, hk, hX, hZ, hkm, ha⟩ := hv.parts
  have hsk : sizeL (kids t) + 1 = t.size := by rw [size_kids t]
  have hfk : t.fas = fasL (kids t) + 1 := by rw [fas_kids t, if_pos (by omega)]
  have hm6 : m ≤ n := by have := kids_len t; omega
  have d1 : ((k : Int) == 1) = false := by rw [hk]; exact kF _ 1 (by omega)
  have d2 : ((k : Int) == 2) = false := by rw [hk]; exact kF _ 2 (by omega)
  have d5 : ((k : Int) == 5) = true := by rw [hk, hk5]; rfl
  obtain ⟨vs, hvl, hvr, hv0, hv1, hvc⟩ := clone_vals ha hkm
  have hX24 : X.size ≤ 24 := by have := nm_len hnm; rw [← hX] at this; exact this
  obtain ⟨l0, l1, ls, lb⟩ := laid2 w (.cells #[.int .i64 k, .string X, .int .i64 Z, .slice A m cp] 26) (.cells #[.int .i64 0, .string ⟨#[]⟩, .int .i64 0, .slice none 0 0] 26)
  have hlt0 := hI.lt c s w hi
  obtain ⟨V0, hV0⟩ : ∃ W, (w.alloc (.cells #[.int .i64 k, .string X, .int .i64 Z, .slice A m cp] 26)).alloc (.cells #[.int .i64 0, .string ⟨#[]⟩, .int .i64 0, .slice none 0 0] 26) = W := ⟨_, rfl⟩
  rw [hV0] at l0 l1 ls lb
  have hiW := hI.keep c s w _ hi lb.size (fun g hg => lb.block g (hlt0 g hg))
  obtain ⟨hB1, hB2, kn, cn, rfl, en, hB3⟩ := HB
  have hlkq := hB1 c s X _ hiW hX24
  obtain ⟨qc, hqc⟩ : ∃ q, inC X.data.toList = q := ⟨_, rfl⟩
  rw [hqc] at hlkq
  have hptW := hpt c s _ hiW
  have hltW := hI.lt c s _ hiW
  have hiV := hI.keep c s _ (V0.alloc (.cells #[] 116)) hiW (by simp) (fun g hg => Below.heap_alloc _ _ _ (hltW g hg))
  have hptV := hpt c s _ hiV
  have hbind := fun hq : qc = true => hB3 c s X _ hiV hX24 (by omega) (hqc.trans hq)
  have hbno : qc = false → (bind X.data.toList s).1 = X.data.toList ∧ (bind X.data.toList s).2 = s := fun hq => by rw [hB2 _ s (hqc.trans hq)]; exact ⟨rfl, rfl⟩
  have cp1 := Blk.cell hptW 1
  have cp2 := Blk.cell hptW 2
  have cp3 := Blk.cell hptV 3
  have cp4 := Blk.cell hptW 3
  have hpl := hptW.lt
  unfold fnV at cp3 cp4
  obtain ⟨f0, f1, f2, f3, -, -, -, -, -⟩ := blk_facts4 l0
  obtain ⟨hr1, hr2, hr3, hr4, hr5⟩ := chg_all bind leaf env t s hk5
  rw [← hX] at hr2 hr4 hr5
  obtain ⟨y, hy⟩ : ∃ y, (bind X.data.toList s).1 = y := ⟨_, rfl⟩
  obtain ⟨s1, hs1⟩ : ∃ s1, (bind X.data.toList s).2 = s1 := ⟨_, rfl⟩
  rw [hy] at hr2
  rw [hy, hs1] at hr4 hr5 hbind hbno
  obtain ⟨Y, hY⟩ : ∃ Y : ByteArray, (⟨y.toArray⟩ : ByteArray) = Y := ⟨_, rfl⟩
  have hYl : Y.data.toList = y := by rw [← hY]
  have hYX : qc = false → Y = X ∧ s1 = s := fun hq => ⟨by rw [← hY, (hbno hq).1], (hbno hq).2⟩
  rw [hY] at hr2 hbind
  obtain ⟨ev, hev⟩ : ∃ ev, ((X.data.toList, y) :: env) = ev := ⟨_, rfl⟩
  rw [hev] at hr4 hr5
  have hevl : ev.length = env.length + 1 := by rw [← hev]; rfl
  have HEV := hidE hev
  have HR1 := hidE hr1
  have HR2 := hidE hr2
  have HR3 := hidE hr3
  have HR4 := hidE hr4
  have HR5 := hidE hr5
  have HK := hidE hk
  have HX := hidE hX
  have HZ := hidE hZ
  have HKM := hidE hkm
  have HS := hidE hS
  have HM := hidE hm
  have HLT := hidE (hI.lt c s w hi)
  have HNK : Hid (∀ i (hi : i < (kids t).length), Nm (kids t)[i]) := hidE fun i hi => nm_kid hnm i hi
  have HVR := hidE hvr
  have HVC := hidE hvc
  have HV0 := hidE hv0
  have HV1 := hidE hv1
  have HVL := hidE hvl
  have L0 := hidE l0
  have L1 := hidE l1
  have LB := hidE lb
  have LSZ := hidE ls
  have HYL := hidE hYl
  have HBIND := hidE hbind
  have HYX := hidE hYX
  have HIV := hidE hiV
  have HPT := hidE hptW
  have hml := hm.lt
  have HXm : Hid (X.size ≤ maxLen) := hidE (by unfold maxLen; omega)
  have HEL : Hid (env.length < 1000000000) := hidE (by omega)
  clear hev hr1 hr2 hr3 hr4 hr5 hk hX hZ hkm hS hi hm hnm hvl hvr hv0 hv1 hvc l0 l1 ls lb hv ha hk5 hlt0 hbind hbno hy hs1 hY hYl hX24 hYX hiW hiV hptW hptV hltW hB1 hB2 hB3 hqc
  go_enter_defers Tryz.func90, Tryz.ntmps90
  go_upto_if 31 with fail
  go_cut [5] from 32 (fun s5 wx => s5 = .string Y ∧ Hid (I (c + 1) s1 wx ∧ Chg M V0 wx))
  case first =>
    cases qc with
    | true =>
      have HN := hidE (HBIND.out rfl)
      clear hV0
      go_wp2_with fail
      refine HN.out.mono ?_
      rintro e w2 ⟨rfl, ib, cbb⟩
      have IB := hidE ib
      have CB := hidE cbb
      clear ib cbb
      go_wp2_with fail
      go_meet
      case rel => exact ⟨rfl, hidE ⟨IB.out, CB.out.pre⟩⟩
    | false =>
      obtain ⟨rfl, rfl⟩ := HYX.out rfl
      clear hV0
      go_wp2_with fail
      go_meet
      case rel => exact ⟨rfl, hidE ⟨hI.mono _ _ _ _ HIV.out (Nat.le_succ _), (Chg.refl _ _).alloc _⟩⟩
  case rest =>
    rename World => wb
    obtain ⟨rfl, hib⟩ := hcut
    obtain ⟨ib, cbb⟩ := hib.out
    have hsb : w.heap.size + 2 ≤ wb.heap.size := Nat.le_trans (Nat.le_of_eq LSZ.out.symm) cbb.size
    have hne2 : ∀ q, w.heap.size ≤ q → ¬ M q := fun q hq h => by have := HLT.out q (hMK q h); omega
    have hb0 := Blk.chg L0.out cbb (hne2 _ (Nat.le_refl _))
    have hb1 := Blk.chg L1.out cbb (hne2 _ (Nat.le_succ _))
    have hbm : wb.heap[mb]? = w.heap[mb]? := (cbb.block mb (by rw [LSZ.out]; omega) (fun h => hmb (hMK _ h))).trans (LB.out.block mb hml)
    have hch := (Chg.of_below (M := M) LB.out).trans' cbb (fun q _ h => h)
    have hptb := hpt _ _ _ ib
    obtain ⟨p0, p1, p2, p3, u0, u1, u2, u3, hlx⟩ := blk_facts4 hb0
    have NBW : Hid (Blk wb w.heap.size 26 #[.int .i64 k, .string X, .int .i64 Z, .slice A m cp]) := hidE hb0
    have MPB : Hid (MapE mkTy wb.drew mb env) := hidE (HM.out.keep hbm)
    have RB0 := hidE hb1
    have IB := hidE ib
    have CHB := hidE hch
    have PTB := hidE hptb
    have cq1 := Blk.cell hptb 1
    have HCV : Hid (Calls Tryz.prog 92 #[.map (some mb), .string X, .agg #[.int .i64 1, .string Y, .int .i64 0, .slice none 0 0]] wb.drew fun e w' => e = .returned (uncovT wb.heap.size) ∧ CovT w' wb.heap.size mb X env ∧ MapE mkTy w' mb ((X.data.toList, Y.data.toList) :: env) ∧ Chg (only mb) wb w') := hidE (by
      refine (tc_coverT mb env X Y wb.drew MPB.out HXm.out HEL.out).mono ?_
      rintro e w' ⟨h1, h2, h3, h4⟩
      exact ⟨h1, h2, h3, ⟨h4.os, h4.tape, h4.output, h4.size, h4.block⟩⟩)
    have SOF : Hid (∀ W : World, W.heap[w.heap.size]? = wb.heap[w.heap.size]? → W.heap[pb]? = wb.heap[pb]? → W.cell? ⟨w.heap.size, 1, none⟩ = some (.string X) ∧ W.cell? ⟨pb, 1, none⟩ = some (.map (some mb))) := hidE fun W h1 h2 => ⟨Blk.cell (h1.trans NBW.out) 1, Blk.cell (h2.trans PTB.out) 1⟩
    have hpmb : pb ≠ mb := fun e => hmb (by rw [← e]; exact hpk)
    clear hib hb0 hb1 hbm hch ib cbb HBIND hptb hV0 hlkq cp1 cp2 cp3 cp4 f0 f1 f2 f3
    go_upto_region 10 with fail
    go_region_held3 (fun W => W.cell? ⟨w.heap.size, 1, none⟩ = some (.string X) ∧ W.cell? ⟨pb, 1, none⟩ = some (.map (some mb))) (first | (exact SOF.out _ rfl rfl) | (exact SOF.out _ HS1.out HS2.out))
      (((with_reducible refine HCV.out.mono ?_); rintro e w5 ⟨rfl, cov, mp5, c5⟩; unfold uncovT; have NB2 := hidE (NBW.out.chg c5 (by unfold only; omega)); have HS1 : Hid (w5.heap[w.heap.size]? = wb.heap[w.heap.size]?) := hidE (c5.block _ (by omega) (by unfold only; omega)); have HS2 : Hid (w5.heap[pb]? = wb.heap[pb]?) := hidE (c5.block _ PTB.out.lt (by unfold only; exact hpmb)); have COV := hidE cov; have MP5 := hidE mp5; have C5 := hidE c5; clear cov mp5 c5))
    have B4 : Hid (Below wb.heap.size wb wb) := hidE (Below.refl _ _)
    have hs4 := B4.out.size
    have hs5 := C5.out.size
    replace hs4 : wb.heap.size ≤ wb.heap.size := hs4
    have hRB5 : Blk w5 (w.heap.size + 1) 26 #[.int .i64 0, .string ⟨#[]⟩, .int .i64 0, .slice none 0 0] := Blk.chg (Blk.below (w := wb) RB0.out B4.out (by show w.heap.size + 1 < wb.heap.size; omega)) C5.out (by unfold only; omega)
    have hb45 : ∀ q, q < wb.heap.size → q ≠ mb → w5.heap[q]? = wb.heap[q]? := fun q h1 h2 => (C5.out.block q (by omega) h2).trans (B4.out.block q h1)
    have hI5 := hI.keep _ _ _ w5 IB.out (by omega) (fun q hq => hb45 q (by have := HLT.out q hq; omega) (fun e => hmb (by rw [← e]; exact hq)))
    have hch5 : Chg (fun k => M k ∨ k = mb) w w5 := ((CHB.out.mono (fun q _ h => .inl h)).trans' (M1 := fun _ => False) (b := wb) (c := wb) ⟨B4.out.os, B4.out.tape, B4.out.output, B4.out.size, fun q hq _ => B4.out.block q hq⟩ (fun _ _ h => h.elim)).trans' C5.out (fun q _ h => .inr h)
    have hmp5 := MP5.out
    rw [HYL.out, HEV.out] at hmp5
    obtain ⟨p0, p1, p2, p3, u0, u1, u2, u3, -⟩ := blk_facts4 NB2.out
    have NB6 := hidE (heap_setCell_same w5 w.heap.size 1 _ _ (.string Y) NB2.out)
    have hcl := tc_clone A m cp vs (w5.setCell ⟨w.heap.size, 1, none⟩ (.string Y)) HV0.out HVL.out
      (fun ad had w' hw j u hu => HVC.out ad had w' (fun q hq => (hw.block q (by have := (HS.out q hq).1; simp; omega)).trans ((Below.heap_setCell w5 ⟨w.heap.size, 1, none⟩ _ q (by have := (HS.out q hq).1; show q ≠ w.heap.size; omega)).trans (hch5.block q (HS.out q hq).1 (fun h => by rcases h with h | h; exact (HS.out q hq).2.1 h; exact (HS.out q hq).2.2 h)))) j u hu) HV1.out (by omega)
    have hs6 : (w5.setCell ⟨w.heap.size, 1, none⟩ (.string Y)).heap.size = w5.heap.size := by simp
    rw [hs6] at hcl
    have HS6 := hidE hs6
    have HCL := hidE hcl
    have RB5 := hidE hRB5
    have I5 := hidE hI5
    have CH5 := hidE hch5
    have MPE := hidE hmp5
    clear hcl hRB5 hb45 hI5 hch5 hmp5 hs6
    go_wp2_with fail
    refine HCL.out.mono ?_
    rintro e w3 ⟨A3, c3, rfl, hown, hbl⟩
    have hs3 : w5.heap.size ≤ w3.heap.size := Nat.le_trans (Nat.le_of_eq HS6.out.symm) hbl.size
    have hb0 := Blk.below NB6.out hbl (by omega)
    have hb1 := Blk.below (RB5.out.far (p := ⟨w.heap.size, 1, none⟩) (Nat.succ_ne_self _) (.string Y)) hbl (by omega)
    have hk3 : ∀ q, q < w5.heap.size → q ≠ w.heap.size → w3.heap[q]? = w5.heap[q]? := fun q h1 h2 => (hbl.block q h1).trans (Below.heap_setCell w5 ⟨w.heap.size, 1, none⟩ _ q h2)
    obtain ⟨g3, hg3, hrow⟩ := clone_row (R := fun k => Su k ∨ (w3.heap.size ≤ k ∧ k < w3.heap.size)) hown (HVR.out.keep (fun _ h => h) (fun q hq => (hk3 q (by have := (HS.out q hq).1; omega) (by have := (HS.out q hq).1; omega)).trans (CH5.out.block q (HS.out q hq).1 (fun h => by rcases h with h | h; exact (HS.out q hq).2.1 h; exact (HS.out q hq).2.2 h))))
    obtain ⟨p0, p1, p2, p3, s0, s1', s2, s3, hlx⟩ := blk_facts4 hb0
    have HB0 := hidE hb0
    have HB1 := hidE hb1
    have HK3 := hidE hk3
    have CH3 := hidE ((CH5.out.setCell (p := ⟨w.heap.size, 1, none⟩) (.inl (Nat.le_refl _)) (.string Y)).trans' (M1 := fun _ => False) (Chg.mono (Chg.of_below (M := fun _ => False) (hbl.mono (Nat.le_of_eq HS6.out))) (fun _ _ h => h)) (fun _ _ h => h.elim))
    have HROW := hidE hrow
    clear hown hb0 hb1 hk3 hrow hbl HCL HVR
    go_wp2_with fail
    have hw4 : Blk (w3.setCell ⟨w.heap.size, 3, none⟩ (.slice A3 m c3)) w.heap.size 26 #[.int .i64 k, .string Y, .int .i64 Z, .slice A3 m c3] := heap_setCell_same _ w.heap.size 3 _ _ (.slice A3 m c3) HB0.out
    have hr4 : Blk (w3.setCell ⟨w.heap.size, 3, none⟩ (.slice A3 m c3)) (w.heap.size + 1) 26 #[.int .i64 0, .string ⟨#[]⟩, .int .i64 0, .slice none 0 0] := HB1.out.far (p := ⟨w.heap.size, 3, none⟩) (Nat.succ_ne_self _) _
    have hs4' : (w3.setCell ⟨w.heap.size, 3, none⟩ (.slice A3 m c3)).heap.size = w3.heap.size := by simp
    have hk4 : ∀ q, q < w5.heap.size → q ≠ w.heap.size → (w3.setCell ⟨w.heap.size, 3, none⟩ (.slice A3 m c3)).heap[q]? = w5.heap[q]? := fun q hq hne => (Below.heap_setCell w3 ⟨w.heap.size, 3, none⟩ _ q hne).trans (HK3.out q hq hne)
    have hch4 : Chg (fun k => M k ∨ k = mb) w (w3.setCell ⟨w.heap.size, 3, none⟩ (.slice A3 m c3)) := CH3.out.setCell (p := ⟨w.heap.size, 3, none⟩) (.inl (Nat.le_refl _)) _
    have hi4 := hI.keep _ _ _ _ I5.out (by rw [hs4']; exact hs3) (fun q hq => hk4 q (by have := HLT.out q hq; omega) (by have := HLT.out q hq; omega))
    have hm4 := MPE.out.keep (hk4 mb (by omega) (by omega))
    have hcov4 := hidE (COV.out.keep (fun q h1 h2 => hk4 q (by have := COV.out.2.2.2.lt; omega) (by omega)))
    have hcl4 := COV.out.2.2.2.lt
    have HW4 := hidE hw4
    have HR4' := hidE hr4
    have HK4 := hidE hk4
    have HCH4 := hidE hch4
    have HI4 := hidE hi4
    have HM4 := hidE hm4
    have HS4 := hidE hs4'
    have hbs : w.heap.size ≤ w3.heap.size := by omega
    have hst4 : Hid (0 < m → A3 = some ⟨g3, 0, none⟩ ∧ RowSt (fun k => Su k ∨ (w3.heap.size ≤ k ∧ k < (w3.setCell ⟨w.heap.size, 3, none⟩ (.slice A3 m c3)).heap.size)) S (w3.setCell ⟨w.heap.size, 3, none⟩ (.slice A3 m c3)) (kids t) [] g3 0) := hidE fun h0 => by
      obtain ⟨x1, x2⟩ := HROW.out h0
      refine ⟨x1, x2.keep (fun q hq => by rw [hs4']; exact hq) (fun q hq => Below.heap_setCell w3 ⟨w.heap.size, 3, none⟩ _ q ?_) (by rw [hs4']; exact Nat.le_refl _)⟩
      show q ≠ w.heap.size
      rcases hq with (hq | hq) | hq | hq
      · have := HLT.out q (hSu q hq).1; omega
      · omega
      · have := (HS.out q hq).1; omega
      · omega
    clear hw4 hr4 hk4 hch4 hi4 hm4 hs4' p0 p1 p2 p3 s0 s1' s2 s3
    go_loopg [55] m (fun gg vi wr => HeadChg mb I M Su S bind leaf ev (kids t) (c + 1) s1 w3.heap.size g3 m (w3.setCell ⟨w.heap.size, 3, none⟩ (.slice A3 m c3)) gg vi wr)
    case atStart =>
      exact ⟨0, by omega, rfl, Nat.zero_le _, by rw [List.take_zero, fasL, chgL]; exact HI4.out, HM4.out, fun h0 => by rw [List.take_zero, chgL]; exact (hst4.out h0).2, Chg.refl _ _⟩
    case round =>
      obtain ⟨i, rfl, rfl, hi, i1, mp1, hrw, c1⟩ := hrel
      have I1 := hidE i1
      have MP1 := hidE mp1
      have HRW := hidE hrw
      have C1 := hidE c1
      have hsr := c1.size
      rw [HS4.out] at hsr
      have hnr : ∀ q, w.heap.size ≤ q → q < w.heap.size + 2 → wr.heap[q]? = (w3.setCell ⟨w.heap.size, 3, none⟩ (.slice A3 m c3)).heap[q]? := fun q h1 h2 => c1.block q (by rw [HS4.out]; omega) (fun h => by
        rcases h with h | h | h
        · have := HLT.out q (hMK q h); omega
        · omega
        · omega)
      have BN := hidE (HW4.out.same (hnr _ (Nat.le_refl _) (by omega)))
      have BR := hidE (HR4'.out.same (hnr _ (by omega) (by omega)))
      clear i1 mp1 hrw c1 hnr
      by_cases hlt : i < m
      · obtain ⟨rfl, hst0⟩ := hst4.out (by omega)
        have hg3l := hst0.lt
        rw [HS4.out] at hg3l
        clear hst0
        have hst := HRW.out (by omega)
        have hil : i < (kids t).length := by rw [HKM.out]; exact hlt
        obtain ⟨A1, q1, h4, harg⟩ := hst.old i hil (Nat.le_refl _)
        have hnu := HNK.out i hil
        have hgu := hGk t hGt _ (List.getElem_mem hil)
        have htk : (kids t).take (i + 1) = (kids t).take i ++ [(kids t)[i]] := List.take_succ_eq_append_getElem hil
        have hsn := sizeL_next (kids t) i (kids t)[i] ⟨hil, rfl⟩
        have hsle := sizeL_take_le (kids t) (i + 1)
        have hfn := fasL_next (kids t) i (kids t)[i] ⟨hil, rfl⟩
        have hfle := fasL_take_le (kids t) (i + 1)
        obtain ⟨u, hu⟩ : ∃ u, (kids t)[i] = u := ⟨_, rfl⟩
        rw [hu] at h4 harg hnu htk hsn hfn hgu
        have hszu : u.size ≤ n := by omega
        have hrd : RdV S wr u (.agg #[.int .i64 (kd u : Nat), .string (nmB u), .int .i64 (nn u : Nat), .slice A1 (kids u).length q1]) := ⟨A1, q1, rfl, harg⟩
        obtain ⟨e0, e1, e2, e3⟩ := h4
        obtain ⟨K1, hK1⟩ : ∃ K1 : Int, ((kd u : Nat) : Int) = K1 := ⟨_, rfl⟩
        obtain ⟨X1, hX1⟩ : ∃ X1, nmB u = X1 := ⟨_, rfl⟩
        obtain ⟨Z1, hZ1⟩ : ∃ Z1 : Int, ((nn u : Nat) : Int) = Z1 := ⟨_, rfl⟩
        obtain ⟨n1, hn1⟩ : ∃ n1, (kids u).length = n1 := ⟨_, rfl⟩
        rw [hK1] at e0 hrd
        rw [hX1] at e1 hrd
        rw [hZ1] at e2 hrd
        rw [hn1] at e3 hrd
        have HTK := hidE htk
        have HSN := hidE hfn
        have hcall := HC (c + 1 + fasL ((kids t).take i)) (chgL bind leaf ev ((kids t).take i) s1).2 ev u S _ ((wr.alloc (.cells #[.int .i64 K1, .string X1, .int .i64 Z1, .slice A1 n1 q1] 26)).drew) hgu hszu (by omega)
          (hI.keep _ _ _ _ I1.out (by show wr.heap.size ≤ (wr.alloc _).heap.size; simp) (fun g hg => Below.heap_alloc wr _ g (hI.lt _ _ _ I1.out g hg))) (MP1.out.keep (Below.heap_alloc wr _ mb MP1.out.lt)) (hrd.keep (fun _ h => h) (fun g hg => Below.heap_alloc wr _ g (by have := (HS.out g hg).1; omega)))
          (fun g hg => ⟨by show g < (wr.alloc _).heap.size; have := (HS.out g hg).1; simp; omega, (HS.out g hg).2⟩) hnu (by omega) (by omega)
        have HCALL := hidE hcall
        have NB0 : Hid (Blk ((wr.alloc (.cells #[.int .i64 K1, .string X1, .int .i64 Z1, .slice A1 n1 q1] 26)).drew) w.heap.size 26 #[.int .i64 k, .string Y, .int .i64 Z, .slice (some ⟨g3, 0, none⟩) m c3]) := hidE (Blk.alloc BN.out _)
        have PB0 : Hid (Blk ((wr.alloc (.cells #[.int .i64 K1, .string X1, .int .i64 Z1, .slice A1 n1 q1] 26)).drew) wr.heap.size 26 #[.int .i64 K1, .string X1, .int .i64 Z1, .slice A1 n1 q1]) := hidE (heap_alloc_new wr _)
        have SOF : Hid (∀ W : World, Blk W w.heap.size 26 #[.int .i64 k, .string Y, .int .i64 Z, .slice (some ⟨g3, 0, none⟩) m c3] → Blk W wr.heap.size 26 #[.int .i64 K1, .string X1, .int .i64 Z1, .slice A1 n1 q1] →
          W.cell? ⟨w.heap.size, 3, none⟩ = some (.slice (some ⟨g3, 0, none⟩) m c3) ∧ W.cell? ⟨wr.heap.size, 0, none⟩ = some (.int .i64 K1) ∧ W.cell? ⟨wr.heap.size, 1, none⟩ = some (.string X1) ∧ W.cell? ⟨wr.heap.size, 2, none⟩ = some (.int .i64 Z1) ∧ W.cell? ⟨wr.heap.size, 3, none⟩ = some (.slice A1 n1 q1)) :=
          hidE fun W h1 h2 => ⟨h1.cell 3, h2.cell 0, h2.cell 1, h2.cell 2, h2.cell 3⟩
        have HST := hidE hst
        have hgl := hst.lt
        have hneN : w.heap.size ≠ g3 := by omega
        have hneP : wr.heap.size ≠ g3 := by omega
        clear hst hrd hnu hcall hu hK1 hX1 hZ1 hn1 htk hsn hfn harg
        go_wp2_with fail
        go_region_held3 (fun W => W.cell? ⟨w.heap.size, 3, none⟩ = some (.slice (some ⟨g3, 0, none⟩) m c3) ∧ W.cell? ⟨wr.heap.size, 0, none⟩ = some (.int .i64 K1) ∧ W.cell? ⟨wr.heap.size, 1, none⟩ = some (.string X1) ∧ W.cell? ⟨wr.heap.size, 2, none⟩ = some (.int .i64 Z1) ∧ W.cell? ⟨wr.heap.size, 3, none⟩ = some (.slice A1 n1 q1)) (first | (with_reducible exact SOF.out _ NB0.out PB0.out) | (with_reducible exact SOF.out _ NB1.out PB1.out) | (with_reducible exact SOF.out _ (blk_farO NB1.out hneN) (blk_farO PB1.out hneP)))
          (((with_reducible refine HCALL.out.mono ?_); rintro e w5 ⟨k', x', z', a', m', p', rfl, hr5, hi5, hm5, c5⟩; have hn5 : ∀ q, w.heap.size ≤ q → q ≤ wr.heap.size → w5.heap[q]? = (wr.alloc (.cells #[.int .i64 K1, .string X1, .int .i64 Z1, .slice A1 n1 q1] 26)).heap[q]? := (fun q h1 h2 => c5.block q (by show q < (wr.alloc _).heap.size; rw [size_alloc]; omega) (fun h => by rcases h with h | h; (have := HLT.out q (hMK q h); omega); omega)); have NB1 := hidE (NB0.out.same (hn5 _ (Nat.le_refl _) (by omega))); have PB1 := hidE (PB0.out.same (hn5 _ (by omega) (Nat.le_refl _))); have hs5 : wr.heap.size + 1 ≤ w5.heap.size := (by have := c5.size; rw [show ((wr.alloc (.cells #[.int .i64 K1, .string X1, .int .i64 Z1, .slice A1 n1 q1] 26)).drew).heap.size = wr.heap.size + 1 from size_alloc _ _] at this; exact this); have st5 := HST.out.keep (R' := fun k => Su k ∨ (w3.heap.size ≤ k ∧ k < w5.heap.size)) (w' := w5) (fun q hq => (by rcases hq with hq | hq; exact .inl hq; exact .inr ⟨hq.1, by omega⟩)) (fun q hq => (c5.block q (by show q < (wr.alloc _).heap.size; rw [size_alloc]; rcases hq with (hq | hq) | hq | hq; (have := HLT.out q (hSu q hq).1; omega); omega; (have := (HS.out q hq).1; omega); omega) (by rcases hq with (hq | hq) | hq | hq; (exact fun h => by rcases h with h | h; exact (hSu q hq).2 h; exact hmb (by rw [← h]; exact (hSu q hq).1)); (exact fun h => by rcases h with h | h; (have := HLT.out q (hMK q h); omega); omega); (exact fun h => by rcases h with h | h; exact (HS.out q hq).2.1 h; exact (HS.out q hq).2.2 h); (exact fun h => by rcases h with h | h; (have := HLT.out q (hMK q h); omega); omega))).trans (Below.heap_alloc wr _ q (by rcases hq with (hq | hq) | hq | hq; (have := HLT.out q (hSu q hq).1; omega); omega; (have := (HS.out q hq).1; omega); omega))) (by omega); obtain ⟨A5, q5, ⟨y0, y1, y2, y3⟩, -⟩ := st5.old i hil (Nat.le_refl _); have f0 := st5.free (i * 4); have f1 := st5.free (i * 4 + 1); have f2 := st5.free (i * 4 + 2); have f3 := st5.free (i * 4 + 3); have ST5 := hidE st5; have HR5 := hidE hr5; have HI5 := hidE hi5; have HM5 := hidE hm5; have C5 := hidE c5; clear st5 hr5 hi5 hm5 c5 hn5))
        all_goals
          go_wp2_with fail
          have hput := RowSt.put ST5.out hil (by rw [chgL_len, List.length_take]; omega) (HR5.out.keep (S' := fun k => Su k ∨ (w3.heap.size ≤ k ∧ k < w5.heap.size)) (fun q hq => by rcases hq with hq | hq; exact .inl hq; exact .inr ⟨by have h1 := hq.1; have h2 : ((wr.alloc (.cells #[.int .i64 K1, .string X1, .int .i64 Z1, .slice A1 n1 q1] 26)).drew).heap.size = wr.heap.size + 1 := size_alloc _ _; omega, hq.2⟩) (fun q _ => rfl)) (fun h => by rcases h with h | h; (have := HLT.out _ (hSu _ h).1; omega); omega) (fun h => by have := (HS.out _ h).1; omega)
          have HPUT := hidE hput
          clear hput
          go_roundg (m - (i + 1))
          case measure => omega
          case rel =>
            have hfin : HeadChg mb I M Su S bind leaf ev (kids t) (c + 1) s1 w3.heap.size g3 m (w3.setCell ⟨w.heap.size, 3, none⟩ (.slice (some ⟨g3, 0, none⟩) m c3)) (m - (i + 1)) (.int .i64 ((i + 1 : Nat) : Int)) (setO w5 g3 (i * 4) (.int .i64 k') (.string x') (.int .i64 z') (.slice a' m' p')) := by
              refine ⟨i + 1, rfl, rfl, by omega, ?_, ?_, fun _ => ?_, ?_⟩
              · rw [HTK.out, chgL_snoc, ← HTK.out, HSN.out]
                have := hI.keep _ _ _ (setO w5 g3 (i * 4) (.int .i64 k') (.string x') (.int .i64 z') (.slice a' m' p')) HI5.out (by rw [setO_size]; exact Nat.le_refl _) (fun q hq => setO_heap _ _ _ _ _ _ _ _ (by have := HLT.out q hq; omega))
                rw [Nat.add_assoc] at this
                exact this
              · exact HM5.out.keep (setO_heap _ _ _ _ _ _ _ _ (by omega))
              · rw [HTK.out, chgL_snoc]
                exact HPUT.out.keep (fun q hq => by rw [setO_size]; exact hq) (fun _ _ => rfl) (Nat.le_refl _)
              · have h1 : Chg (fun k => M k ∨ k = mb ∨ k = g3) (w3.setCell ⟨w.heap.size, 3, none⟩ (.slice (some ⟨g3, 0, none⟩) m c3)) w5 := ((C1.out.alloc _).drew).trans' C5.out (fun q _ h => by
                  rcases h with h | h
                  · exact .inl h
                  · exact .inr (.inl h))
                exact h1.setO _ _ _ _ _ (.inr (.inr (.inr rfl)))
            refine cast (congrArg (fun v => HeadChg mb I M Su S bind leaf ev (kids t) (c + 1) s1 w3.heap.size g3 m _ (m - (i + 1)) v _) ?_) hfin
            go_num
      · have him : i = m := by omega
        subst him
        have hend : (kids t).take i = kids t := List.take_of_length_le (by rw [HKM.out]; exact Nat.le_refl _)
        have hi1 := I1.out
        have hrw1 := HRW.out
        rw [hend, ← HR5.out] at hi1
        rw [hend, ← HR4.out] at hrw1
        have HI1 := hidE hi1
        have HRW1 := hidE hrw1
        obtain ⟨p0, p1, p2, p3, s0, s1', s2, s3, -⟩ := blk_facts4 BN.out
        obtain ⟨q0, q1, q2, q3, t0, t1, t2, t3, -⟩ := blk_facts4 BR.out
        clear hi1 hrw1 hend
        go_wp2_with fail
        have hb := blk_set4 (.int .i64 k) (.string Y) (.int .i64 Z) (.slice A3 i c3) BR.out
        have hf : ∀ g, g ≠ w.heap.size + 1 → ((((wr.setCell ⟨w.heap.size + 1, 0, none⟩ (.int .i64 k)).setCell ⟨w.heap.size + 1, 1, none⟩ (.string Y)).setCell ⟨w.heap.size + 1, 2, none⟩ (.int .i64 Z)).setCell ⟨w.heap.size + 1, 3, none⟩ (.slice A3 i c3)).heap[g]? = wr.heap[g]? := fun g hg => heap_set4 _ _ _ _ _ _ _ hg
        have hsz : ((((wr.setCell ⟨w.heap.size + 1, 0, none⟩ (.int .i64 k)).setCell ⟨w.heap.size + 1, 1, none⟩ (.string Y)).setCell ⟨w.heap.size + 1, 2, none⟩ (.int .i64 Z)).setCell ⟨w.heap.size + 1, 3, none⟩ (.slice A3 i c3)).heap.size = wr.heap.size := by simp
        have hcanon := HM.out.canon
        have hmpw := MP1.out.keep (hf mb (by omega))
        rw [← HEV.out] at hmpw
        have hcovw := hcov4.out.keep (w' := ((((wr.setCell ⟨w.heap.size + 1, 0, none⟩ (.int .i64 k)).setCell ⟨w.heap.size + 1, 1, none⟩ (.string Y)).setCell ⟨w.heap.size + 1, 2, none⟩ (.int .i64 Z)).setCell ⟨w.heap.size + 1, 3, none⟩ (.slice A3 i c3))) (fun q h1 h2 => (hf q (by omega)).trans (C1.out.block q (by rw [HS4.out]; omega) (fun h => by
          rcases h with h | h | h
          · have := HLT.out q (hMK q h); omega
          · omega
          · omega)))
        refine leaves_cons (f := 115) (args := #[.pointer (some ⟨wb.heap.size + 4, 0, none⟩), .pointer (some ⟨wb.heap.size + 3, 0, none⟩), .pointer (some ⟨wb.heap.size, 0, none⟩), .pointer (some ⟨wb.heap.size + 1, 0, none⟩)]) (by simp) (by simp [go_sem]) ?_
        refine (tc_uncoverT wb.heap.size mb env X y .returning _ hcovw hmpw hcanon HXm.out HEL.out).mono ?_
        rintro e u' wf ⟨rfl, rfl, mf, bf⟩
        have hbf := hb.chg bf (by unfold only; omega)
        have hff : ∀ q, q ≠ w.heap.size + 1 → q ≠ mb → q < wr.heap.size → wf.heap[q]? = wr.heap[q]? := fun q h1 h2 h3 => (bf.block q (by rw [hsz]; exact h3) h2).trans (hf q h1)
        have hszf : wr.heap.size ≤ wf.heap.size := by have := bf.size; rw [hsz] at this; exact this
        refine ⟨_, results_cell_row rfl _ _ (w.heap.size + 1) 26 _ (0, 0) _ rfl hbf Tryz.underlying26 rfl (by kernel_rfl), k, Y, Z, A3, i, c3, rfl, ⟨A3, c3, ?_, ?_⟩, ?_, mf, ?_⟩
        · rw [HR1.out, HR2.out, HR3.out, HR4.out, chgL_len, HKM.out, ← HK.out, ← HZ.out]
        · refine (kids_row _ _ _ _).2 fun hne => ?_
          have h0 : 0 < i := by
            refine Nat.pos_of_ne_zero fun e => hne ?_
            rw [HR4.out]
            refine List.eq_nil_of_length_eq_zero ?_
            rw [chgL_len, HKM.out, e]
          obtain ⟨hA, h4⟩ := hst4.out h0
          have hl4 := h4.lt
          rw [HS4.out] at hl4
          have hrow := HRW1.out h0
          refine ⟨g3, hA, .inr ⟨by omega, by omega⟩, RowT.keep (fun q hq => by rcases hq with hq | hq; exact .inl hq; exact .inr ⟨by omega, by omega⟩) (fun q hq => by
            rcases hq with hq | hq
            · have h1 := HLT.out q (hSu q hq).1
              exact hff q (by omega) (fun e => hmb (by rw [← e]; exact (hSu q hq).1)) (by omega)
            · exact hff q (by omega) (by omega) hq.2) _ _ _ (hff g3 (by omega) (by omega) (by omega)) hrow.new⟩
        · refine hI.mono _ _ _ _ (hI.keep _ _ _ _ HI1.out hszf (fun q hq => hff q (by have := HLT.out q hq; omega) (fun e => hmb (by rw [← e]; exact hq)) (by have := HLT.out q hq; omega))) (by omega)
        · have h1 : Chg (fun k => M k ∨ k = mb) w wr := HCH4.out.trans' C1.out (fun q hq h => by
            rcases h with h | h | h
            · exact .inl h
            · exact .inr h
            · omega)
          exact (h1.set4 (.int .i64 k) (.string Y) (.int .i64 Z) (.slice A3 i c3) (Nat.le_succ _)).trans' bf (fun q _ h => .inr h)


end Go.Proofs.YtaomnlcplmkokaaGreatDoor

/-
  Package putting: putting into whatever type.
-/
namespace Go.Proofs.YtaomnlcplmkokaaGreatDoor
open Go.RowKit Lx Tx Go.Maps Go.WideMaps Go.Shelf
set_option maxRecDepth 100000

theorem put_ok {σ : Type} (pb mb kl : Nat) (cl : Array Value) (vc vn : Value) (inC : Name → Bool) (I : Nat → σ → World → Prop) (K M Su : Nat → Prop) (bind : Name → σ → Name × σ) (place : Ty → Option Ty) (hI : InvC I K) (hMK : ∀ g, M g → K g) (hSu : ∀ g, Su g → K g ∧ ¬ M g) (hmb : ¬ K mb)
    (hpk : K pb) (hpm : ¬ M pb) (hpt : ∀ c s w, I c s w → Pt w pb mb kl cl vc vn) (el : ∀ args w, (callFunc kl args).run Tryz.prog w = .ok (.enter kl args) w) (HP : PlaceOK kl cl I M Su place) (G : Ty → Prop) (hGk : ∀ t, G t → ∀ u ∈ kids t, G u) (HB : ∀ t, G t → kd t = 5 → BindP vc vn I M bind inC) (n : Nat) :
    PutOK n pb mb I M Su bind (lfP place) G := by
  induction n with
  | zero => intro c s env t S v w _ hn; rw [size_kids] at hn; omega
  | succ n ih =>
    intro c s env t S v w hG hn h6 hi hm hv hS hnm hc hlen
    cases t with
    | var x => exact tc_putLeaf pb mb kl cl vc vn I K M Su bind place hI hMK (fun g hg => (hSu g hg).1) hmb hpk hpm hpt el HP c s env _ S v w (.inl rfl) hi hm hv (fun g hg => (hS g hg).1) hnm
    | mt x => exact tc_putLeaf pb mb kl cl vc vn I K M Su bind place hI hMK (fun g hg => (hSu g hg).1) hmb hpk hpm hpt el HP c s env _ S v w (.inr rfl) hi hm hv (fun g hg => (hS g hg).1) hnm
    | con d l => exact tc_putApp n pb mb I K M Su bind (lfP place) hI hMK hSu hmb G hGk ih c s env _ hG S v w (.inl rfl) hn (by omega) hi hm hv hS hnm hc hlen
    | fn a b => exact tc_putApp n pb mb I K M Su bind (lfP place) hI hMK hSu hmb G hGk ih c s env _ hG S v w (.inr rfl) hn (by omega) hi hm hv hS hnm hc hlen
    | all x t => exact tc_putAll n pb mb kl cl vc vn inC I K M Su bind (lfP place) hI hMK hSu hmb hpk hpt (HB _ hG rfl) G hGk ih c s env _ hG S v w rfl hn (by omega) hi hm hv hS hnm hc hlen

end Go.Proofs.YtaomnlcplmkokaaGreatDoor
