/-
  Package types and what it stands on: contracts of the code's functions, part 24.
-/
import Derived.Test.YtnpklimlggffjaaGreatDoorBuW
import Derived.Test.YtnpklimlggffjaaGreatDoorBuK
import Derived.Test.YtnpklimlggffjaaGreatDoorRows
import Derived.ProofKit
import Derived.OpenShut
import Derived.ShutString
import Derived.LaidMore
import Derived.Lay
import Derived.Lib.LaidTab
import Derived.Stop.Joined
import Derived.Carry
import Derived.BigQuiet
/-
  The laws of types: what each row's step shares: the knob, the tables that are laid, one start that fits.
-/
namespace Go.Proofs.YtnpklimlggffjaaGreatDoor
open Go.RowKit Go.ChangeShapes Go.WideShapes Go.ChangeAt
set_option maxRecDepth 100000

theorem ownK : ownKnob Tryz.prog.godebug = none := by kernel_rfl
def theLaid : List (String × DataW Unit) := Rows.typesReadsRow.laid
theorem laid_plain (W : World) : laidMetH Tryz.prog theLaid W = laidMet Tryz.prog theLaid W := MakeChecks.laidMetH_plain _ _ _ (by kernel_rfl)
theorem gPow : Tryz.prog.globalNamed "internal/strconv.uint64pow10" = some 0 := by kernel_rfl
theorem tPow : (Tryz.prog.globals[0]?).map (·.type) = some 151 := by kernel_rfl
theorem cPow : Tryz.prog.cellsOf 151 = 20 := by kernel_rfl
theorem cU64 : Tryz.prog.cellsOf 143 = 1 := by kernel_rfl
theorem dPow : (Rows.laid_internal_strconv_uint64pow10 : DataW Unit) = Lib.tabData .u64 Lib.pow10Tab := by kernel_rfl

theorem tab_of_laid {W : World} (h : laidMetH Tryz.prog theLaid W) : Tab W := by
  rw [laid_plain] at h
  obtain ⟨ps, ⟨g0, t0, cs0, f0, p0, q0, hg0, ht0, hv0, hd0, ⟨g1, t1, cs1, f1, p1, q1, hg1, ht1, hv1, hd1, ⟨g2, t2, cs2, f2, p2, q2, hg2, ht2, hv2, hd2, _, _⟩, _⟩, _⟩, _, _⟩ := h
  obtain rfl := Option.some.inj (gPow.symm.trans hg2)
  obtain rfl := Option.some.inj (tPow.symm.trans ht2)
  unfold Tab Lib.TabIs
  rw [dPow] at hd2
  rw [hv2, ← Lib.cells_of_tab Tryz.underlying151 Tryz.underlying143 cU64 cPow hd2]

theorem start_met (os : Os) (args : Array Value) : laidMetH Tryz.prog theLaid ((World.laidAll Tryz.prog os theLaid).forCall (fun _ _ => 0) ⟨#[], args, []⟩).memory := by
  rw [laid_plain]
  exact laidMet_laidAll _ (by kernel_rfl) (by kernel_rfl)
theorem start_shaped (os : Os) : (World.laidAll Tryz.prog os theLaid).Shaped Tryz.prog := World.shaped_of_ZipB (by kernel_rfl) (by kernel_rfl)

end Go.Proofs.YtnpklimlggffjaaGreatDoor

/-
  The laws of types: texts that are read, whatever comes of it; types in whatever later world.
-/
namespace Go.Proofs.YtnpklimlggffjaaGreatDoor
open Go.RowKit Lx Tx Go.Maps Go.WideMaps Go.Shelf
set_option maxRecDepth 100000

/-- the error's number: 0 where there is none -/
def errN (s : List UInt8) : Nat := match parse s with
  | .error n => n
  | .ok _ => 0
theorem errN_ok {s : List UInt8} {t : Ty} (h : parse s = .ok t) : errN s = 0 := by unfold errN; rw [h]
theorem errN_zero {s : List UInt8} (h : errN s = 0) : ∃ t, parse s = .ok t := by
  cases hp : parse s with
  | ok t => exact ⟨t, rfl⟩
  | error n => unfold errN at h; rw [hp] at h; exact (parse_zero hp h).elim
def AnyPst (n : Nat) (w : World) (e : Ending) (w' : World) : Prop :=
  ∃ K X Z A m c, e = .returned (.tuple #[.agg #[.int .i64 K, .string X, .int .i64 Z, .slice A m c], .int .i64 (n : Nat)]) ∧ Below w.heap.size w w'
theorem tc_parseN (s : ByteArray) (w : World) (hs : s.size ≤ maxLen) : Calls Tryz.prog 13 #[.string s] w (AnyPst (errN s.data.toList) w) := by
  refine (tc_parse s w hs).mono ?_
  rintro e w' ⟨hb, K, X, Z, A, m, c, ⟨n, h0, hp, he⟩ | ⟨u, hp, he, hr⟩⟩
  · refine ⟨K, X, Z, A, m, c, ?_, hb⟩
    unfold errN
    rw [hp]
    exact he
  · refine ⟨K, X, Z, A, m, c, ?_, hb⟩
    unfold errN
    rw [hp]
    exact he

/-- v is this type's value, all of it below the heap's end -/
def RdN (w : World) (t : Ty) (v : Value) : Prop := RdV (fun g => g < w.heap.size) w t v
theorem RdN.below {w w' : World} {t : Ty} {v : Value} (h : RdN w t v) (hb : Below w.heap.size w w') : RdN w' t v := RdV.keep h (fun _ hg => Nat.lt_of_lt_of_le hg hb.size) (fun g hg => hb.block g hg)
theorem Bx.rn {N : Nat} {w : World} {g : Nat} {t : Ty} {K : Int} {X : ByteArray} {Z : Int} {A : Option Addr} {m c : Nat} (h : Bx N w g t K X Z A m c) : RdN w t (.agg #[.int .i64 K, .string X, .int .i64 Z, .slice A m c]) :=
  RdV.keep h.rd (fun _ hg => Nat.lt_of_lt_of_le hg h.lt) (fun _ _ => rfl)
/-- what Put and Fill leave -/
def PutN (t : Ty) (w : World) (e : Ending) (w' : World) : Prop :=
  ∃ k x z a m q, e = .returned (.agg #[.int .i64 k, .string x, .int .i64 z, .slice a m q]) ∧ RdN w' t (.agg #[.int .i64 k, .string x, .int .i64 z, .slice a m q]) ∧ Below w.heap.size w w'
theorem rn_put {w : World} {t u : Ty} {v uv : Value} (hv : RdN w t v) (hu : RdN w u uv) (hnm : Nm t) (hnu : Nm u) (hsz : t.size ≤ 1000000) (hsu : u.size ≤ 1000000) (ht : Tab w) (Y : ByteArray) :
    Calls Tryz.prog 29 #[v, .string Y, uv] w (PutN (putT (isPV Y.data.toList) t u) w) := rd_put hv hu (Nat.le_refl _) (Nat.le_refl _) hnm hnu hsz hsu ht Y
theorem rn_fill {w : World} {t u : Ty} {v uv : Value} (hv : RdN w t v) (hu : RdN w u uv) (hnm : Nm t) (hnu : Nm u) (hsz : t.size ≤ 1000000) (hsu : u.size ≤ 1000000) (ht : Tab w) (n : Int) :
    Calls Tryz.prog 30 #[v, .int .i64 n, uv] w (PutN (putT (isPM n) t u) w) := rd_fill hv hu (Nat.le_refl _) (Nat.le_refl _) hnm hnu hsz hsu ht n
theorem rn_same {w : World} {t u : Ty} {v uv : Value} (hv : RdN w t v) (hu : RdN w u uv) (hnt : Nm t) (hnu : Nm u) (hsz : t.size ≤ 100000000) (h : db [] t = db [] u) :
    Calls Tryz.prog 33 #[v, uv] w fun e w' => e = .returned (.bool true) ∧ Below w.heap.size w w' := by
  have := tc_Same t u _ _ v uv w hv hu (fun _ h => h) (fun _ h => h) hnt hnu hsz
  rw [(same_iff t u).2 h] at this
  exact this
theorem rn_sameB {w : World} {t u : Ty} {v uv : Value} (hv : RdN w t v) (hu : RdN w u uv) (hnt : Nm t) (hnu : Nm u) (hsz : t.size ≤ 100000000) (q : Bool) (h : q = true ↔ db [] t = db [] u) :
    Calls Tryz.prog 33 #[v, uv] w fun e w' => e = .returned (.bool q) ∧ Below w.heap.size w w' := by
  have := tc_Same t u _ _ v uv w hv hu (fun _ h => h) (fun _ h => h) hnt hnu hsz
  rw [show (smT [] [] t u 0).1 = q from Bool.eq_iff_iff.2 ((same_iff t u).trans h.symm)] at this
  exact this
theorem rn_free {w : World} {t : Ty} {v : Value} (hv : RdN w t v) (hn : Nm t) (hs : t.size ≤ 1000000) : Calls Tryz.prog 20 #[v] w (FreePst t.free w) := by
  have := tc_free t _ _ w hv (fun _ h => h) hn hs
  rw [freeL_eq] at this
  refine this.mono ?_
  rintro e w' ⟨A, cp, rfl, ho, -, hb⟩
  exact ⟨A, cp, rfl, RowV.of_own ho, hb⟩
theorem rn_metas {w : World} {t : Ty} {v : Value} (hv : RdN w t v) (hn : Nm t) (hs : t.size ≤ 1000000) : Calls Tryz.prog 23 #[v] w (MetasPst t.metas w) := by
  have := tc_metas t _ _ w hv (fun _ h => h) hn hs
  rw [metasL_eq] at this
  refine this.mono ?_
  rintro e w' ⟨A, cp, rfl, ho, -, hb⟩
  exact ⟨A, cp, rfl, RowV.of_own ho, hb⟩
theorem rn_canon {w : World} {t : Ty} {v : Value} (hv : RdN w t v) (hn : Nm t) (hs : t.size ≤ 1000000) (ht : Tab w) :
    Calls Tryz.prog 16 #[v] w fun e w' => e = .returned (.string ⟨t.canonT.print.toArray⟩) ∧ Below w.heap.size w w' := tc_canon t _ _ w hv (fun _ h => h) hn hs ht
/-- w' is a later world -/
theorem below_tr {w0 w w' : World} (h : Below w0.heap.size w0 w) (hb : Below w.heap.size w w') : Below w0.heap.size w0 w' := h.trans (hb.mono h.size)

end Go.Proofs.YtnpklimlggffjaaGreatDoor

/-
  The laws of types: lists of names, of numbers, side by side.
-/
namespace Go.Proofs.YtnpklimlggffjaaGreatDoor
open Go.RowKit Lx Tx
set_option maxRecDepth 100000

theorem below_drewN {B : Nat} {a w : World} (h : Below B a w) (n : Nat) : Below B a (w.drewN n) := ⟨h.os, h.tape, h.output, h.size, h.block⟩

set_option maxHeartbeats 800000 in
theorem tc_namesEq (v u : Value) (l r : List Name) (w : World) (hv : RowV w v (strV l)) (hu : RowV w u (strV r)) (hl : l.length ≤ 1000000) :
    Calls Tryz.prog 19 #[v, u] w fun e w' => e = .returned (.bool (decide (l = r))) ∧ Below w.heap.size w w' := by
  obtain ⟨A, ca, rfl, ha⟩ := hv
  obtain ⟨B, cb, rfl, hb⟩ := hu
  rw [strV_len] at ha hb ⊢
  rw [strV_len]
  obtain ⟨n, hn⟩ : ∃ n, l.length = n := ⟨_, rfl⟩
  obtain ⟨m, hm⟩ : ∃ m, r.length = m := ⟨_, rfl⟩
  rw [hn] at ha hl ⊢
  rw [hm] at hb ⊢
  obtain ⟨R, hR⟩ : ∃ R, decide (l = r) = R := ⟨_, rfl⟩
  rw [hR]
  have HA := hidE ha
  have HB := hidE hb
  have HN := hidE hn
  have HM := hidE hm
  have HR := hidE hR
  clear ha hb hn hm hR
  by_cases hle : n = m
  · subst hle
    go_enter Tryz.func19, Tryz.ntmps19
    go_wp2_with fail
    go_loopg [5] n (fun gg vi wr => ∃ k d : Nat, gg = n - k ∧ k ≤ n ∧ vi = .int .i64 k ∧ wr = w.drewN d ∧ Hid (l.take k = r.take k))
    case atStart => exact ⟨0, 0, rfl, Nat.zero_le _, rfl, rfl, hidE (by simp)⟩
    case round =>
      obtain ⟨k, d, rfl, hk, rfl, rfl, ht⟩ := hrel
      by_cases hlt : k < n
      · have hkl : k < l.length := by rw [HN.out]; exact hlt
        have hkr : k < r.length := by rw [HM.out]; exact hlt
        obtain ⟨g, rfl, -, hc⟩ := HA.out (by omega)
        obtain ⟨g', rfl, -, hc'⟩ := HB.out (by omega)
        have x0 := hc k _ (strV_at l k hkl)
        have y0 := hc' k _ (strV_at r k hkr)
        clear hc hc'
        have HTK := hidE (show l[k] = r[k] → l.take (k + 1) = r.take (k + 1) from fun e => by rw [List.take_succ_eq_append_getElem hkl, List.take_succ_eq_append_getElem hkr, ht.out, e])
        have HNE := hidE (show l[k] ≠ r[k] → R = false from fun e => by rw [← HR.out, decide_eq_false_iff_not]; intro h; subst h; exact e rfl)
        obtain ⟨x, hx⟩ : ∃ x : Name, l[k] = x := ⟨_, rfl⟩
        obtain ⟨y, hy⟩ : ∃ y : Name, r[k] = y := ⟨_, rfl⟩
        rw [hx] at x0 HTK HNE
        rw [hy] at y0 HTK HNE
        have hxy : ((⟨x.toArray⟩ : ByteArray).toList == (⟨y.toArray⟩ : ByteArray).toList) = decide (x = y) := by rw [Lib.toList_data, Lib.toList_data]; exact Bool.eq_iff_iff.2 (by simp)
        obtain ⟨X, hX⟩ : ∃ X : ByteArray, ⟨x.toArray⟩ = X := ⟨_, rfl⟩
        obtain ⟨Y, hY⟩ : ∃ Y : ByteArray, ⟨y.toArray⟩ = Y := ⟨_, rfl⟩
        rw [hX] at x0 hxy
        rw [hY] at y0 hxy
        clear hx hy hX hY
        clear hkl hkr
        by_cases he : x = y
        · rw [decide_eq_true he] at hxy
          have HT2 := hidE (HTK.out he)
          clear he
          go_wp2_with fail
          go_quiet (fail)
          go_wp2_with fail
          go_roundg (n - (k + 1))
          case measure => omega
          case rel => exact ⟨k + 1, _, rfl, by omega, by go_num, rfl, HT2⟩
        · rw [decide_eq_false he] at hxy
          have HF := hidE (HNE.out he)
          clear he
          go_wp2_with fail
          go_quiet (fail)
          go_wp2_with fail
          go_ret
          exact ⟨ret_bool HF.out.symm, below_drewN (below_drewN (Below.refl _ w) _) _⟩
      · have HT := hidE (show R = true by
          have h := ht.out
          rw [List.take_of_length_le (by rw [HN.out]; omega), List.take_of_length_le (by rw [HM.out]; omega)] at h
          rw [← HR.out, decide_eq_true_iff]; exact h)
        go_wp2_with fail
        go_ret
        exact ⟨ret_bool HT.out.symm, below_drewN (Below.refl _ w) _⟩
  · have hnb : ((n : Int) == (m : Int)) = false := kF n m hle
    have HF := hidE (show R = false by rw [← HR.out, decide_eq_false_iff_not]; intro h; subst h; exact hle (by rw [← HN.out, HM.out]))
    clear hle
    go_enter Tryz.func19, Tryz.ntmps19
    go_wp2_with fail
    go_ret
    exact ⟨ret_bool HF.out.symm, Below.refl _ w⟩

set_option maxHeartbeats 800000 in
theorem tc_numbersEq (v u : Value) (l r : List Nat) (w : World) (hv : RowV w v (intV l)) (hu : RowV w u (intV r)) (hl : l.length ≤ 1000000) :
    Calls Tryz.prog 22 #[v, u] w fun e w' => e = .returned (.bool (decide (l = r))) ∧ Below w.heap.size w w' := by
  obtain ⟨A, ca, rfl, ha⟩ := hv
  obtain ⟨B, cb, rfl, hb⟩ := hu
  rw [intV_len] at ha hb ⊢
  rw [intV_len]
  obtain ⟨n, hn⟩ : ∃ n, l.length = n := ⟨_, rfl⟩
  obtain ⟨m, hm⟩ : ∃ m, r.length = m := ⟨_, rfl⟩
  rw [hn] at ha hl ⊢
  rw [hm] at hb ⊢
  obtain ⟨R, hR⟩ : ∃ R, decide (l = r) = R := ⟨_, rfl⟩
  rw [hR]
  have HA := hidE ha
  have HB := hidE hb
  have HN := hidE hn
  have HM := hidE hm
  have HR := hidE hR
  clear ha hb hn hm hR
  by_cases hle : n = m
  · subst hle
    go_enter Tryz.func22, Tryz.ntmps22
    go_wp2_with fail
    go_loopg [5] n (fun gg vi wr => ∃ k d : Nat, gg = n - k ∧ k ≤ n ∧ vi = .int .i64 k ∧ wr = w.drewN d ∧ Hid (l.take k = r.take k))
    case atStart => exact ⟨0, 0, rfl, Nat.zero_le _, rfl, rfl, hidE (by simp)⟩
    case round =>
      obtain ⟨k, d, rfl, hk, rfl, rfl, ht⟩ := hrel
      by_cases hlt : k < n
      · have hkl : k < l.length := by rw [HN.out]; exact hlt
        have hkr : k < r.length := by rw [HM.out]; exact hlt
        obtain ⟨g, rfl, -, hc⟩ := HA.out (by omega)
        obtain ⟨g', rfl, -, hc'⟩ := HB.out (by omega)
        have x0 := hc k _ (intV_at l k hkl)
        have y0 := hc' k _ (intV_at r k hkr)
        clear hc hc'
        have HTK := hidE (show l[k] = r[k] → l.take (k + 1) = r.take (k + 1) from fun e => by rw [List.take_succ_eq_append_getElem hkl, List.take_succ_eq_append_getElem hkr, ht.out, e])
        have HNE := hidE (show l[k] ≠ r[k] → R = false from fun e => by rw [← HR.out, decide_eq_false_iff_not]; intro h; subst h; exact e rfl)
        obtain ⟨x, hx⟩ : ∃ x : Nat, l[k] = x := ⟨_, rfl⟩
        obtain ⟨y, hy⟩ : ∃ y : Nat, r[k] = y := ⟨_, rfl⟩
        rw [hx] at x0 HTK HNE
        rw [hy] at y0 HTK HNE
        clear hx hy
        clear hkl hkr
        by_cases he : x = y
        · have hxy : ((x : Int) == (y : Int)) = true := kT x y he
          have HT2 := hidE (HTK.out he)
          clear he
          go_wp2_with fail
          go_quiet (fail)
          go_wp2_with fail
          go_roundg (n - (k + 1))
          case measure => omega
          case rel => exact ⟨k + 1, _, rfl, by omega, by go_num, rfl, HT2⟩
        · have hxy : ((x : Int) == (y : Int)) = false := kF x y he
          have HF := hidE (HNE.out he)
          clear he
          go_wp2_with fail
          go_quiet (fail)
          go_wp2_with fail
          go_ret
          exact ⟨ret_bool HF.out.symm, below_drewN (below_drewN (Below.refl _ w) _) _⟩
      · have HT := hidE (show R = true by
          have h := ht.out
          rw [List.take_of_length_le (by rw [HN.out]; omega), List.take_of_length_le (by rw [HM.out]; omega)] at h
          rw [← HR.out, decide_eq_true_iff]; exact h)
        go_wp2_with fail
        go_ret
        exact ⟨ret_bool HT.out.symm, below_drewN (Below.refl _ w) _⟩
  · have hnb : ((n : Int) == (m : Int)) = false := kF n m hle
    have HF := hidE (show R = false by rw [← HR.out, decide_eq_false_iff_not]; intro h; subst h; exact hle (by rw [← HN.out, HM.out]))
    clear hle
    go_enter Tryz.func22, Tryz.ntmps22
    go_wp2_with fail
    go_ret
    exact ⟨ret_bool HF.out.symm, Below.refl _ w⟩

end Go.Proofs.YtnpklimlggffjaaGreatDoor
