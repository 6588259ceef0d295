/-
  Contracts of the code's functions, part 28.
-/
import Derived.Test.YtckicaflmmgnkaaGreatDoorBuV
import Derived.Test.YtckicaflmmgnkaaGreatDoorBuK
import Derived.Test.YtckicaflmmgnkaaGreatDoorRows
import Derived.ProofKit
import Derived.OpenShut
import Derived.ShutString
import Derived.LaidMore
import Derived.Lay
import Derived.Lib.LaidTab
import Derived.Stop.Joined
import Derived.Carry
/-
  The laws of types: what each row's step shares: the knob, the tables that are laid, one start that fits.
-/
namespace Go.Proofs.YtckicaflmmgnkaaGreatDoor
open Go.RowKit Go.ChangeShapes Go.WideShapes Go.ChangeAt
set_option maxRecDepth 100000

theorem ownK : ownKnob Tryz.prog.godebug = none := by kernel_rfl
def theLaid : List (String × DataW Unit) := Rows.matchSelfRow.laid
theorem laid_plain (W : World) : laidMetH Tryz.prog theLaid W = laidMet Tryz.prog theLaid W := MakeChecks.laidMetH_plain _ _ _ (by kernel_rfl)
theorem gPow : Tryz.prog.globalNamed "internal/strconv.uint64pow10" = some 0 := by kernel_rfl
theorem tPow : (Tryz.prog.globals[0]?).map (·.type) = some 181 := by kernel_rfl
theorem cPow : Tryz.prog.cellsOf 181 = 20 := by kernel_rfl
theorem cU64 : Tryz.prog.cellsOf 171 = 1 := by kernel_rfl
theorem dPow : (Rows.laid_internal_strconv_uint64pow10 : DataW Unit) = Lib.tabData .u64 Lib.pow10Tab := by kernel_rfl

theorem tab_of_laid {W : World} (h : laidMetH Tryz.prog theLaid W) : Tab W := by
  rw [laid_plain] at h
  obtain ⟨ps, ⟨g0, t0, cs0, f0, p0, q0, hg0, ht0, hv0, hd0, ⟨g1, t1, cs1, f1, p1, q1, hg1, ht1, hv1, hd1, ⟨g2, t2, cs2, f2, p2, q2, hg2, ht2, hv2, hd2, _, _⟩, _⟩, _⟩, _, _⟩ := h
  obtain rfl := Option.some.inj (gPow.symm.trans hg2)
  obtain rfl := Option.some.inj (tPow.symm.trans ht2)
  unfold Tab Lib.TabIs
  rw [dPow] at hd2
  rw [hv2, ← Lib.cells_of_tab Tryz.underlying181 Tryz.underlying171 cU64 cPow hd2]

theorem start_met (os : Os) (args : Array Value) : laidMetH Tryz.prog theLaid ((World.laidAll Tryz.prog os theLaid).forCall (fun _ _ => 0) ⟨#[], args, []⟩).memory := by
  rw [laid_plain]
  exact laidMet_laidAll _ (by kernel_rfl) (by kernel_rfl)
theorem start_shaped (os : Os) : (World.laidAll Tryz.prog os theLaid).Shaped Tryz.prog := World.shaped_of_ZipB (by kernel_rfl) (by kernel_rfl)

end Go.Proofs.YtckicaflmmgnkaaGreatDoor

/-
  The laws of types: texts that are read, whatever comes of it; types in whatever later world.
-/
namespace Go.Proofs.YtckicaflmmgnkaaGreatDoor
open Go.RowKit Lx Tx Go.Maps Go.WideMaps Go.Shelf
set_option maxRecDepth 100000

/-- the error's number: 0 where there is none -/
def errN (s : List UInt8) : Nat := match parse s with
  | .error n => n
  | .ok _ => 0
theorem errN_ok {s : List UInt8} {t : Ty} (h : parse s = .ok t) : errN s = 0 := by unfold errN; rw [h]
theorem errN_zero {s : List UInt8} (h : errN s = 0) : ∃ t, parse s = .ok t := by
  cases hp : parse s with
  | ok t => exact ⟨t, rfl⟩
  | error n => unfold errN at h; rw [hp] at h; exact (parse_zero hp h).elim
def AnyPst (n : Nat) (w : World) (e : Ending) (w' : World) : Prop :=
  ∃ K X Z A m c, e = .returned (.tuple #[.agg #[.int .i64 K, .string X, .int .i64 Z, .slice A m c], .int .i64 (n : Nat)]) ∧ Below w.heap.size w w'
theorem tc_parseN (s : ByteArray) (w : World) (hs : s.size ≤ maxLen) : Calls Tryz.prog 27 #[.string s] w (AnyPst (errN s.data.toList) w) := by
  refine (tc_parse s w hs).mono ?_
  rintro e w' ⟨hb, K, X, Z, A, m, c, ⟨n, h0, hp, he⟩ | ⟨u, hp, he, hr⟩⟩
  · refine ⟨K, X, Z, A, m, c, ?_, hb⟩
    unfold errN
    rw [hp]
    exact he
  · refine ⟨K, X, Z, A, m, c, ?_, hb⟩
    unfold errN
    rw [hp]
    exact he

/-- v is this type's value, all of it below the heap's end -/
def RdN (w : World) (t : Ty) (v : Value) : Prop := RdV (fun g => g < w.heap.size) w t v
theorem RdN.below {w w' : World} {t : Ty} {v : Value} (h : RdN w t v) (hb : Below w.heap.size w w') : RdN w' t v := RdV.keep h (fun _ hg => Nat.lt_of_lt_of_le hg hb.size) (fun g hg => hb.block g hg)
theorem Bx.rn {N : Nat} {w : World} {g : Nat} {t : Ty} {K : Int} {X : ByteArray} {Z : Int} {A : Option Addr} {m c : Nat} (h : Bx N w g t K X Z A m c) : RdN w t (.agg #[.int .i64 K, .string X, .int .i64 Z, .slice A m c]) :=
  RdV.keep h.rd (fun _ hg => Nat.lt_of_lt_of_le hg h.lt) (fun _ _ => rfl)
/-- what Put and Fill leave -/
def PutN (t : Ty) (w : World) (e : Ending) (w' : World) : Prop :=
  ∃ k x z a m q, e = .returned (.agg #[.int .i64 k, .string x, .int .i64 z, .slice a m q]) ∧ RdN w' t (.agg #[.int .i64 k, .string x, .int .i64 z, .slice a m q]) ∧ Below w.heap.size w w'
theorem rn_same {w : World} {t u : Ty} {v uv : Value} (hv : RdN w t v) (hu : RdN w u uv) (hnt : Nm t) (hnu : Nm u) (hsz : t.size ≤ 100000000) (h : db [] t = db [] u) :
    Calls Tryz.prog 23 #[v, uv] w fun e w' => e = .returned (.bool true) ∧ Below w.heap.size w w' := by
  have := tc_Same t u _ _ v uv w hv hu (fun _ h => h) (fun _ h => h) hnt hnu hsz
  rw [(same_iff t u).2 h] at this
  exact this
theorem rn_sameB {w : World} {t u : Ty} {v uv : Value} (hv : RdN w t v) (hu : RdN w u uv) (hnt : Nm t) (hnu : Nm u) (hsz : t.size ≤ 100000000) (q : Bool) (h : q = true ↔ db [] t = db [] u) :
    Calls Tryz.prog 23 #[v, uv] w fun e w' => e = .returned (.bool q) ∧ Below w.heap.size w w' := by
  have := tc_Same t u _ _ v uv w hv hu (fun _ h => h) (fun _ h => h) hnt hnu hsz
  rw [show (smT [] [] t u 0).1 = q from Bool.eq_iff_iff.2 ((same_iff t u).trans h.symm)] at this
  exact this
theorem rn_free {w : World} {t : Ty} {v : Value} (hv : RdN w t v) (hn : Nm t) (hs : t.size ≤ 1000000) : Calls Tryz.prog 25 #[v] w (FreePst t.free w) := by
  have := tc_free t _ _ w hv (fun _ h => h) hn hs
  rw [freeL_eq] at this
  refine this.mono ?_
  rintro e w' ⟨A, cp, rfl, ho, -, hb⟩
  exact ⟨A, cp, rfl, RowV.of_own ho, hb⟩
theorem rn_metas {w : World} {t : Ty} {v : Value} (hv : RdN w t v) (hn : Nm t) (hs : t.size ≤ 1000000) : Calls Tryz.prog 113 #[v] w (MetasPst t.metas w) := by
  have := tc_metas t _ _ w hv (fun _ h => h) hn hs
  rw [metasL_eq] at this
  refine this.mono ?_
  rintro e w' ⟨A, cp, rfl, ho, -, hb⟩
  exact ⟨A, cp, rfl, RowV.of_own ho, hb⟩
theorem rn_canon {w : World} {t : Ty} {v : Value} (hv : RdN w t v) (hn : Nm t) (hs : t.size ≤ 1000000) (ht : Tab w) :
    Calls Tryz.prog 19 #[v] w fun e w' => e = .returned (.string ⟨t.canonT.print.toArray⟩) ∧ Below w.heap.size w w' := tc_canon t _ _ w hv (fun _ h => h) hn hs ht
/-- w' is a later world -/
theorem below_tr {w0 w w' : World} (h : Below w0.heap.size w0 w) (hb : Below w.heap.size w w') : Below w0.heap.size w0 w' := h.trans (hb.mono h.size)

end Go.Proofs.YtckicaflmmgnkaaGreatDoor
