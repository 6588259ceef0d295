/-
  savantlaw03.MatchSelf, whatever the text: it answers true, and what was handed in is as it was. The card ties the library's tables to the program's text.
-/
import Derived.Test.YtaomnlcplmkokaaGreatDoorBuAF
import Derived.Test.YtaomnlcplmkokaaGreatDoorCards
import Derived.Test.YtaomnlcplmkokaaGreatDoorTie
import Derived.SevenTiedAt
import Derived.Deep.Cut
namespace Go.Proofs.YtaomnlcplmkokaaGreatDoor.matchSelf
open Go.ChangeShapes Go.WideShapes Go.ChangeAt Go.RowKit Lx Tx Go.Shelf
open Go.ChangeMaps (open_string shut_string)
set_option maxRecDepth 100000

set_option maxHeartbeats 6400000 in
theorem walk (s : ByteArray) (w : World) (ht : Tab w) (hs : s.size ≤ maxLen) : Calls Tryz.prog 5 #[.string s] w fun e w' => e = .returned (.bool true) ∧ Below w.heap.size w w' := by
  have HPU := hidE (fun w => tc_readOk { data := #[102, 111, 114, 97, 108, 108, 32, 97, 46, 32, 97] } mxAny (by kernel_rfl) w (by unfold maxLen; decide))
  obtain ⟨qU, hqU⟩ : ∃ q, mayB { data := #[102, 111, 114, 97, 108, 108, 32, 97, 46, 32, 97] } mxAny = q := ⟨_, rfl⟩
  rw [hqU] at HPU
  clear hqU
  have HT := hidE ht
  have HAW := hidE (tc_awake w ht)
  have HP1 := hidE (fun w => tc_readAny s w hs)
  clear ht hs
  go_enter Tryz.func5, Tryz.ntmps5
  go_wp2_with fail
  refine HAW.out.mono ?_
  rintro e wa ⟨rfl, hbb⟩
  have BW : Hid (Below w.heap.size w wa) := hidE hbb
  clear hbb HAW
  go_wp2_with fail
  refine (HP1.out _).mono ?_
  rintro e w1 ⟨K1, X1, Z1, A1, m1, c1, Kr1, Xr1, Zr1, Ar1, mr1, cr1, q1, rfl, b1, hy⟩
  obtain ⟨V1, hV1⟩ : ∃ V, (w1.alloc (.cells #[.int .i64 K1, .string X1, .int .i64 Z1, .slice A1 m1 c1] 26)).alloc (.cells #[.int .i64 Kr1, .string Xr1, .int .i64 Zr1, .slice Ar1 mr1 cr1] 29) = V := ⟨_, rfl⟩
  have hbk : Blk ((w1.alloc (.cells #[.int .i64 K1, .string X1, .int .i64 Z1, .slice A1 m1 c1] 26)).alloc (.cells #[.int .i64 Kr1, .string Xr1, .int .i64 Zr1, .slice Ar1 mr1 cr1] 29)) w1.heap.size 26 #[.int .i64 K1, .string X1, .int .i64 Z1, .slice A1 m1 c1] := Blk.below (heap_alloc_new w1 _) ((Below.refl _ _).alloc (Nat.le_refl _) _) (by simp)
  have hba : Below w1.heap.size w1 ((w1.alloc (.cells #[.int .i64 K1, .string X1, .int .i64 Z1, .slice A1 m1 c1] 26)).alloc (.cells #[.int .i64 Kr1, .string Xr1, .int .i64 Zr1, .slice Ar1 mr1 cr1] 29)) := ((Below.refl _ w1).alloc (Nat.le_refl _) _).alloc (by rw [size_alloc]; exact Nat.le_succ _) _
  have hri : RdIf s q1 ((w1.alloc (.cells #[.int .i64 K1, .string X1, .int .i64 Z1, .slice A1 m1 c1] 26)).alloc (.cells #[.int .i64 Kr1, .string Xr1, .int .i64 Zr1, .slice Ar1 mr1 cr1] 29)) (.agg #[.int .i64 K1, .string X1, .int .i64 Z1, .slice A1 m1 c1]) := fun hq => by
    obtain ⟨t, h1, h2, -⟩ := hy hq
    exact ⟨t, h1, h2.below hba⟩
  have hbb : Below wa.heap.size wa ((w1.alloc (.cells #[.int .i64 K1, .string X1, .int .i64 Z1, .slice A1 m1 c1] 26)).alloc (.cells #[.int .i64 Kr1, .string Xr1, .int .i64 Zr1, .slice Ar1 mr1 cr1] 29)) := b1.trans (hba.mono b1.size)
  rw [hV1] at hbk hri hbb
  replace BW : Hid (Below w.heap.size w V1) := hidE (BW.out.trans (hbb.mono BW.out.size))
  have BK1 := hidE hbk
  have RI1 := hidE hri
  have HV := hidE hV1
  clear hbk hba hri hbb hy b1 hV1 HP1
  cases q1 with
  | false =>
    go_wp2_with fail
    go_ret
    exact ⟨rfl, by rw [HV.out]; exact BW.out⟩
  | true =>
    obtain ⟨t, hrt, hrd⟩ := RI1.out rfl
    obtain ⟨hn, hsz⟩ := readsTo_facts hrt
    have RD1 := hidE hrd
    have HN1 := hidE hn
    have HSZ : t.size ≤ 1000 := by omega
    clear RI1 hrt hrd hn hsz
    go_upto_region 5 with fail
    rw [HV.out]
    clear HV
    obtain ⟨x0, x1, x2, x3⟩ := blk4 BK1.out
    have HI := hidE (tc_Instance t t _ _ _ _ V1 (HT.out.below BW.out) RD1.out RD1.out (fun _ h => h) (fun _ h => h) HN1.out HN1.out (by omega) (by omega))
    go_wp2_with fail
    refine HI.out.mono ?_
    rintro e w21 ⟨⟨q21, rfl, hq21⟩, hbb⟩
    replace BW : Hid (Below w.heap.size w w21) := hidE (BW.out.trans (hbb.mono BW.out.size))
    replace BK1 := hidE (BK1.out.below hbb BK1.out.lt)
    replace RD1 := hidE (RD1.out.below hbb)
    have HQ21 := hidE hq21
    clear hbb hq21 HI x0 x1 x2 x3
    obtain rfl : q21 = true := HQ21.out.2 (instB_self t HN1.out HSZ)
    go_wp2_with fail
    refine (HPU.out _).mono ?_
    rintro e wU ⟨KU, XU, ZU, AU, mU, cU, KrU, XrU, ZrU, ArU, mrU, crU, rfl, hr, -, bU⟩
    obtain ⟨VU, hVU⟩ : ∃ V, (wU.alloc (.cells #[.int .i64 KU, .string XU, .int .i64 ZU, .slice AU mU cU] 26)).alloc (.cells #[.int .i64 KrU, .string XrU, .int .i64 ZrU, .slice ArU mrU crU] 29) = V := ⟨_, rfl⟩
    have hbk : Blk ((wU.alloc (.cells #[.int .i64 KU, .string XU, .int .i64 ZU, .slice AU mU cU] 26)).alloc (.cells #[.int .i64 KrU, .string XrU, .int .i64 ZrU, .slice ArU mrU crU] 29)) wU.heap.size 26 #[.int .i64 KU, .string XU, .int .i64 ZU, .slice AU mU cU] := Blk.below (heap_alloc_new wU _) ((Below.refl _ _).alloc (Nat.le_refl _) _) (by simp)
    have hba : Below wU.heap.size wU ((wU.alloc (.cells #[.int .i64 KU, .string XU, .int .i64 ZU, .slice AU mU cU] 26)).alloc (.cells #[.int .i64 KrU, .string XrU, .int .i64 ZrU, .slice ArU mrU crU] 29)) := ((Below.refl _ wU).alloc (Nat.le_refl _) _).alloc (by rw [size_alloc]; exact Nat.le_succ _) _
    have hrd : RdN ((wU.alloc (.cells #[.int .i64 KU, .string XU, .int .i64 ZU, .slice AU mU cU] 26)).alloc (.cells #[.int .i64 KrU, .string XrU, .int .i64 ZrU, .slice ArU mrU crU] 29)) mxAny (.agg #[.int .i64 KU, .string XU, .int .i64 ZU, .slice AU mU cU]) := RdN.below hr hba
    have hbb : Below w21.heap.size w21 ((wU.alloc (.cells #[.int .i64 KU, .string XU, .int .i64 ZU, .slice AU mU cU] 26)).alloc (.cells #[.int .i64 KrU, .string XrU, .int .i64 ZrU, .slice ArU mrU crU] 29)) := bU.trans (hba.mono bU.size)
    rw [hVU] at hbk hrd hbb
    replace BW : Hid (Below w.heap.size w VU) := hidE (BW.out.trans (hbb.mono BW.out.size))
    replace BK1 := hidE (BK1.out.below hbb BK1.out.lt)
    replace RD1 := hidE (RD1.out.below hbb)
    have BKU := hidE hbk
    have RDU := hidE hrd
    have HV := hidE hVU
    have HNU := hidE nm_any
    clear hbk hba hrd hbb hr bU hVU HPU
    go_upto_region 7 with fail
    rw [HV.out]
    clear HV
    have hsa : mxAny.size ≤ 1000 := by decide
    obtain ⟨x0, x1, x2, x3⟩ := blk4 BKU.out
    obtain ⟨y0, y1, y2, y3⟩ := blk4 BK1.out
    have HI := hidE (tc_Instance mxAny t _ _ _ _ VU (HT.out.below BW.out) RDU.out RD1.out (fun _ h => h) (fun _ h => h) HNU.out HN1.out (by omega) (by omega))
    go_wp2_with fail
    refine HI.out.mono ?_
    rintro e w22 ⟨⟨q22, rfl, hq22⟩, hbb⟩
    replace BW : Hid (Below w.heap.size w w22) := hidE (BW.out.trans (hbb.mono BW.out.size))
    replace BK1 := hidE (BK1.out.below hbb BK1.out.lt)
    replace RD1 := hidE (RD1.out.below hbb)
    replace BKU := hidE (BKU.out.below hbb BKU.out.lt)
    replace RDU := hidE (RDU.out.below hbb)
    have HQ22 := hidE hq22
    clear hbb hq22 HI x0 x1 x2 x3 y0 y1 y2 y3
    clear BKU RDU
    obtain ⟨x0, x1, x2, x3⟩ := blk4 BK1.out
    have HPL := hidE (tc_Peel t _ _ w22 (HT.out.below BW.out) RD1.out (fun _ h => h) HN1.out (by omega))
    go_wp2_with fail
    refine HPL.out.mono ?_
    rintro e w23 ⟨⟨A23, n23, c23, k23, x23, z23, a23, m23, p23, rfl, -, -, -, h5d⟩, b23⟩
    obtain ⟨V23, hV23⟩ : ∃ V, w23.alloc (.cells #[.int .i64 k23, .string x23, .int .i64 z23, .slice a23 m23 p23] 26) = V := ⟨_, rfl⟩
    have hbk : Blk (w23.alloc (.cells #[.int .i64 k23, .string x23, .int .i64 z23, .slice a23 m23 p23] 26)) w23.heap.size 26 #[.int .i64 k23, .string x23, .int .i64 z23, .slice a23 m23 p23] := heap_alloc_new w23 _
    have hrd : RdN (w23.alloc (.cells #[.int .i64 k23, .string x23, .int .i64 z23, .slice a23 m23 p23] 26)) (peelT 112 (freeL t) t 0) (.agg #[.int .i64 k23, .string x23, .int .i64 z23, .slice a23 m23 p23]) := RdN.below (h5d.keep (fun g hg => hg.2) (fun _ _ => rfl)) ((Below.refl _ _).alloc (Nat.le_refl _) _)
    have hbb : Below w22.heap.size w22 (w23.alloc (.cells #[.int .i64 k23, .string x23, .int .i64 z23, .slice a23 m23 p23] 26)) := b23.alloc b23.size _
    rw [hV23] at hbk hrd hbb
    replace BW : Hid (Below w.heap.size w V23) := hidE (BW.out.trans (hbb.mono BW.out.size))
    replace BK1 := hidE (BK1.out.below hbb BK1.out.lt)
    replace RD1 := hidE (RD1.out.below hbb)
    have BKp23 := hidE hbk
    have RDp23 := hidE hrd
    have HV := hidE hV23
    clear hbk hrd hbb h5d b23 hV23 HPL x0 x1 x2 x3
    go_upto_region 9 with fail
    rw [HV.out]
    clear HV
    obtain ⟨x0, x1, x2, x3⟩ := blk4 BKp23.out
    have hpoly := tc_poly (peelT 112 (freeL t) t 0) _ _ V23 (by have := (peel_facts t HN1.out HSZ).2; omega) RDp23.out (fun _ h => h)
    have hqq : q22 = !(peelT 112 (freeL t) t 0).poly := by
      have h := HQ22.out.trans (instB_any t HN1.out HSZ)
      cases q22 <;> cases hp : (peelT 112 (freeL t) t 0).poly <;> simp_all
    obtain ⟨qp, hqp⟩ : ∃ qp, (peelT 112 (freeL t) t 0).poly = qp := ⟨_, rfl⟩
    rw [hqp] at hpoly hqq
    subst hqq
    have HPO := hidE hpoly
    clear hpoly hqp HQ21 HQ22
    go_wp2_with fail
    refine HPO.out.mono ?_
    rintro e w24 ⟨rfl, hbb⟩
    replace BW : Hid (Below w.heap.size w w24) := hidE (BW.out.trans (hbb.mono BW.out.size))
    clear hbb HPO x0 x1 x2 x3
    cases qp with
    | false =>
      go_wp2_with fail
      go_ret
      exact ⟨rfl, BW.out⟩
    | true =>
      go_wp2_with fail
      go_ret
      exact ⟨rfl, BW.out⟩

/-! ### the row's step -/
theorem lifted (os : Os) (started : os.Started) (H : Type) (enc : TypeId × Value → H) :
    ReturnsInHanded {} Tryz.checked os 5 .any (fun w args => (Rows.matchSelfSpec.pre enc Tryz.prog Tryz.f5 Rows.matchSelfRow.domain false w args ∧ laidMetH Tryz.prog theLaid w) ∧ sizedMet enc Tryz.prog Tryz.f5 (OpenSpec.ofChange Rows.matchSelfSpec) false w args)
      (Rows.matchSelfSpec.post enc Tryz.prog Tryz.f5 false true false false) := by
  refine returnsInHanded_of_change_and (C := Tryz.checked) (X := fun w _ => laidMetH Tryz.prog theLaid w) (fun _ _ _ hh h => h.of_heap hh) ownK started (by kernel_rfl) Tryz.func5
    (ChangeSpec.witness_shaped (enc := enc) (C := Tryz.checked) (os := os) (X := fun w _ => laidMetH Tryz.prog theLaid w) false (World.laidAll Tryz.prog os theLaid) #[.string ⟨#[]⟩] 8 (World.laidAll_os _ _ _)
      (start_shaped os) (by kernel_rfl) (by kernel_rfl) (by kernel_rfl)
      (start_met os _)) ?_
  intro W base args ds gs before hval0 hW hc _ hL _
  have hval : ∀ (j : Nat) t v, Tryz.f5.params[j]? = some t → args[j]? = some v → Value.okWide Tryz.prog W .any base t v := hval0
  have hW' := hW
  obtain ⟨p, q, hA0, hV, rfl, _, _⟩ := hW
  have hA : DataW.TrodAll enc Tryz.prog W 0 (fun _ => true) true Tryz.f5.params.toList args.toList ds p := hA0
  rw [Tryz.params5] at hA hval
  obtain ⟨v0, vs0, d0, ds0, p0, q0, hg0, rfl, rfl, h0, r0⟩ := trodAll_cons hA
  obtain ⟨rfl, rfl, rfl⟩ := trodAll_nil r0
  obtain rfl : args = #[v0] := by cases args; simp_all
  obtain ⟨rfl, rfl⟩ := trodVars_none hV
  obtain ⟨a0, rfl, rfl, rfl, w0⟩ := open_string Tryz.underlying9 (hval 0 9 v0 rfl rfl) h0
  clear hA0 hval0
  simp only [List.append_nil] at hW'
  refine (walk a0 W (tab_of_laid hL) w0).mono fun e W' ⟨he, hg⟩ => ?_
  subst he
  exact ⟨_, rfl, _, _, _, [], [], [], hW', trodAll_cons_mk (shut_bool Tryz.underlying4 _) trodAll_mk0, (trodAll_cons_mk (shut_string Tryz.underlying9 w0) trodAll_mk0), rfl, hg.frame _, fun h => by cases h⟩

theorem over : Rows.matchSelfRow.holds Tryz.pinned (OpenSpec.ofChange Rows.matchSelfSpec) :=
  OpenClaim.holds_of_wide 5 Tryz.f5 rfl rfl rfl rfl rfl rfl rfl ⟨rfl, rfl, rfl, rfl, rfl⟩ rfl rfl rfl rfl rfl (by kernel_rfl) Tryz.func5 (by kernel_rfl)
    (of_decide_eq_true (by kernel_rfl)) (by unfold Func.isWrapper; first | (rw [if_pos (by decide +kernel)]; kernel_rfl) | (rw [if_neg (by decide +kernel)]; exact ⟨rfl, rfl⟩))
    (fun os started H enc _ => lifted os started H enc)

/-- the statement: the tied card -/
theorem proved : Rows.MatchSelfCardSaid :=
  Claim7.holds_tied_plain_at .later [] [.data, .data, .data, .sentinel, .sentinel] true _ true
    over (fun _ h => by cases h) (by kernel_rfl) (fun _ h => by cases h) matchSelf_row_tie rfl ⟨rfl, rfl⟩ (by kernel_rfl) rfl
    (fun f fn hf hfn => by
      obtain rfl : f = 5 := Option.some.inj ((show Tryz.prog.funcNamed "savant/savantlaw03.MatchSelf" = some 5 by kernel_rfl).symm.trans hf) |>.symm
      obtain rfl : fn = Tryz.f5 := (Option.some.inj (Tryz.func5.symm.trans hfn)).symm
      exact ⟨by kernel_rfl, fun j t ht => by
        rw [Tryz.params5] at ht
        have hm : t ∈ [9] := by
          simpa using Array.mem_of_getElem? ht
        have hall : ([9].all fun u => !Tryz.prog.wantsStandIn u) = true := by kernel_rfl
        exact (show Tryz.prog.wantsStandIn t = false by simpa using List.all_eq_true.1 hall t hm)⟩)
    (by kernel_rfl)
#print axioms proved
end Go.Proofs.YtaomnlcplmkokaaGreatDoor.matchSelf
