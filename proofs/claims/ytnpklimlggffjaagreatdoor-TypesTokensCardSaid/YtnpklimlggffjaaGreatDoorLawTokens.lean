/-
  savantlaw02.TypesTokens, whatever the text: it answers true, and the text is as it was. The card ties the library's tables to the program's text.
-/
import Derived.Test.YtnpklimlggffjaaGreatDoorBuX
import Derived.Test.YtnpklimlggffjaaGreatDoorBwB
import Derived.Test.YtnpklimlggffjaaGreatDoorBwC
import Derived.Test.YtnpklimlggffjaaGreatDoorCards
import Derived.Test.YtnpklimlggffjaaGreatDoorTie
import Derived.SevenTiedAt
namespace Go.Proofs.YtnpklimlggffjaaGreatDoor.typesTokens
open Go.ChangeShapes Go.WideShapes Go.ChangeAt Go.RowKit Lx Tx Go.Shelf
open Go.ChangeMaps (open_string shut_string)
set_option maxRecDepth 100000

set_option maxHeartbeats 3200000 in
theorem walk (s : ByteArray) (w : World) (ht : Tab w) (hs : s.size ≤ maxLen) :
    Calls Tryz.prog 11 #[.string s] w fun e w' => e = .returned (.bool true) ∧ Below w.heap.size w w' := by
  have HT := hidE ht
  have HAW := hidE (tc_awake w ht)
  have HSC := hidE (fun w => scan_any s w hs)
  clear ht hs
  go_enter Tryz.func11, Tryz.ntmps11
  go_wp2_with fail
  refine HAW.out.mono ?_
  rintro e w1 ⟨rfl, b1⟩
  have B1 := hidE b1
  clear b1 HAW
  go_wp2_with fail
  refine (HSC.out w1).mono ?_
  rintro e w2 ⟨b2, v, ts, a0, er, hsc, rfl, hown⟩
  obtain ⟨A0, c0, rfl⟩ := own_shape hown
  have B2 := hidE (below_tr B1.out b2)
  have HS2 := hidE hsc
  have HOW := hidE hown
  clear b2 hsc hown HSC
  by_cases he : er = 0
  · subst he
    obtain ⟨hG, hL⟩ := scan_good _ _ _ HS2.out
    have HR := hidE (tc_read ts _ w2 (toks_of_own rfl HOW.out) hG (by omega))
    have HRT := hidE (RdT.of_own HOW.out)
    obtain ⟨n, hn⟩ : ∃ n, ts.length = n := ⟨_, rfl⟩
    obtain ⟨O, hO⟩ : ∃ O, read (enough ts) ts = O := ⟨_, rfl⟩
    have HREF : Hid (∀ W, Below w2.heap.size w2 W → Calls Tryz.prog 37 #[.slice A0 ts.length c0, .int .i64 0] W (RPost ts 0 W O)) := hidE fun W h => by have := ref2_read ts _ W hG (by omega) (HRT.out.below h); rw [hO] at this; exact this
    have HNM := hidE (show ∀ t r, O = some (t, r) → Nm t ∧ t.size ≤ 4000 from fun t r h => by have := (read_nm _).1 ts t r hG (hO.trans h); exact ⟨this.1, by omega⟩)
    rw [hO] at HR
    rw [hn] at HR HREF hL ⊢
    have HN := hidE hn
    clear hG hO HOW HRT hn
    go_wp2_with fail
    refine HR.out.mono ?_
    rintro e w3 ⟨b3, K, X, Z, A, m, c, v3, q, rfl, hno, hyes⟩
    cases q with
    | false =>
      obtain ⟨rfl, rfl⟩ := hno rfl
      have B3 := hidE (b3.alloc b3.size (.cells #[.int .i64 K, .string X, .int .i64 Z, .slice A m c] 25))
      have HRF := hidE (HREF.out _ B3.out)
      clear b3 hno hyes HREF HR
      go_wp2_with fail
      refine HRF.out.mono ?_
      rintro e w4 ⟨b4, K4, X4, Z4, A4, m4, c4, ⟨-, rfl⟩ | ⟨t, k, h1, h2, h3, -⟩⟩
      · have B4 := hidE (b4.alloc b4.size (.cells #[.int .i64 K4, .string X4, .int .i64 Z4, .slice A4 m4 c4] 31))
        clear b4 HRF
        go_wp2_with fail
        go_ret
        exact ⟨rfl, below_tr B2.out (below_tr B3.out B4.out)⟩
      · cases h3
    | true =>
      obtain ⟨t, r, A2, c2, rfl, rfl, hrd⟩ := hyes rfl
      obtain ⟨hnm, hsz⟩ := HNM.out t r rfl
      obtain ⟨V3, hV3⟩ : ∃ V, w3.alloc (.cells #[.int .i64 K, .string X, .int .i64 Z, .slice A m c] 25) = V := ⟨_, rfl⟩
      have hb3 := b3.alloc b3.size (.cells #[.int .i64 K, .string X, .int .i64 Z, .slice A m c] 25)
      have hbt := Bx.made (hrd.keep (fun g hg => hg.2) (fun _ _ => rfl))
      rw [hV3] at hb3 hbt
      have BT := hidE hbt
      have B3 := hidE hb3
      have HRF := hidE (HREF.out V3 hb3)
      have HNMT := hidE hnm
      have HSZ := hidE hsz
      obtain ⟨d, hd⟩ : ∃ d, r.length = d := ⟨_, rfl⟩
      rw [hd]
      have HD := hidE hd
      clear b3 hno hyes hrd hnm hsz hb3 hbt HREF HR HNM hd
      go_wp2_with fail
      refine HRF.out.mono ?_
      rintro e w4 ⟨b4, K4, X4, Z4, A4, m4, c4, ⟨h0, -⟩ | ⟨u, k, h1, h2, h3, rfl, hrd4⟩⟩
      · cases h0
      · injection h3 with h3
        injection h3 with h3 h4
        subst h3
        have hkn : k ≤ n := by have := HN.out; omega
        have hdk : d + k = n := by have h5 := HD.out; rw [h4, List.length_drop, HN.out] at h5; omega
        obtain ⟨V4, hV4⟩ : ∃ V, w4.alloc (.cells #[.int .i64 K4, .string X4, .int .i64 Z4, .slice A4 m4 c4] 31) = V := ⟨_, rfl⟩
        have hb4 := b4.alloc b4.size (.cells #[.int .i64 K4, .string X4, .int .i64 Z4, .slice A4 m4 c4] 31)
        have hbk : Blk (w4.alloc (.cells #[.int .i64 K4, .string X4, .int .i64 Z4, .slice A4 m4 c4] 31)) w4.heap.size 31 #[.int .i64 K4, .string X4, .int .i64 Z4, .slice A4 m4 c4] := heap_alloc_new _ _
        have hr4 : RdN w4 t (.agg #[.int .i64 K4, .string X4, .int .i64 Z4, .slice A4 m4 c4]) := hrd4.keep (fun g hg => hg.2) (fun _ _ => rfl)
        have hr4' := hr4.below ((Below.refl w4.heap.size w4).alloc (Nat.le_refl _) (.cells #[.int .i64 K4, .string X4, .int .i64 Z4, .slice A4 m4 c4] 31))
        rw [hV4] at hb4 hbk hr4'
        have B4 := hidE hb4
        have BT4 := hidE (BT.out.below hb4)
        have BK4 := hidE hbk
        have R4 := hidE hr4'
        have hsz4 : w4.heap.size < V4.heap.size := by rw [← hV4]; simp
        obtain ⟨x0, x1, x2, x3⟩ := BT4.out.cells
        have hbelow := B2.out.trans ((below_tr B3.out hb4).mono B2.out.size)
        have BW := hidE hbelow
        have HP1 := hidE (tc_print t _ _ V4 (by have := HSZ.out; omega) HNMT.out BT4.out.rn (fun _ h => h) (HT.out.below hbelow) (by have := (print_len t HNMT.out).1; have := HSZ.out; omega))
        obtain ⟨Y, hY⟩ : ∃ Y : ByteArray, ⟨t.print.toArray⟩ = Y := ⟨_, rfl⟩
        rw [hY] at HP1
        have HY := hidE hY
        have hk0 : ¬ (k : Int) < 0 := by omega
        have HS4 := hidE hsz4
        clear b4 h1 h2 h4 hrd4 hb4 hbk hr4 hr4' hsz4 hbelow hY HRF
        go_wp2_with fail
        refine HP1.out.mono ?_
        rintro e w5 ⟨rfl, b5⟩
        have hbk5 := Blk.below BK4.out b5 HS4.out
        obtain ⟨y0, y1, y2, y3, z0, z1, z2, z3, hl5⟩ := blk_facts4 hbk5
        have HP2 := hidE (ref2_print t _ _ w5 (by have := HSZ.out; omega) HNMT.out (by have := (print_len t HNMT.out).1; have := HSZ.out; omega) (R4.out.below b5) (fun _ h => h))
        rw [HY.out] at HP2
        have B5 := hidE (below_tr BW.out b5)
        have ey : (Y.toList == Y.toList) = true := by simp
        have ed : ((d : Int) == (n : Int) - (k : Int)) = true := by rw [show (n : Int) - (k : Int) = (d : Int) by omega]; simp
        clear HP1 b5 hbk5 x0 x1 x2 x3
        go_wp2_with fail
        refine HP2.out.mono ?_
        rintro e w6 ⟨rfl, b6⟩
        have B6 := hidE (below_tr B5.out b6)
        clear b6 HP2
        go_wp2_with fail
        go_ret
        exact ⟨rfl, B6.out⟩
  · have e1 : ((er : Int) == 0) = false := kF er 0 he
    clear he
    go_wp2_with fail
    go_ret
    exact ⟨rfl, B2.out⟩

/-! ### the row's step -/
theorem lifted (os : Os) (started : os.Started) (H : Type) (enc : TypeId × Value → H) :
    ReturnsInHanded {} Tryz.checked os 11 .any (fun w args => (Rows.typesTokensSpec.pre enc Tryz.prog Tryz.f11 Rows.typesTokensRow.domain false w args ∧ laidMetH Tryz.prog theLaid w) ∧ sizedMet enc Tryz.prog Tryz.f11 (OpenSpec.ofChange Rows.typesTokensSpec) false w args)
      (Rows.typesTokensSpec.post enc Tryz.prog Tryz.f11 false true false false) := by
  refine returnsInHanded_of_change_and (C := Tryz.checked) (X := fun w _ => laidMetH Tryz.prog theLaid w) (fun _ _ _ hh h => h.of_heap hh) ownK started (by kernel_rfl) Tryz.func11
    (ChangeSpec.witness_shaped (enc := enc) (C := Tryz.checked) (os := os) (X := fun w _ => laidMetH Tryz.prog theLaid w) false (World.laidAll Tryz.prog os theLaid) #[.string ⟨#[]⟩] 8 (World.laidAll_os _ _ _)
      (start_shaped os) (by kernel_rfl) (by kernel_rfl) (by kernel_rfl)
      (start_met os _)) ?_
  intro W base args ds gs before hval0 hW hc _ hL _
  have hval : ∀ (j : Nat) t v, Tryz.f11.params[j]? = some t → args[j]? = some v → Value.okWide Tryz.prog W .any base t v := hval0
  have hW' := hW
  obtain ⟨p, q, hA0, hV, rfl, _, _⟩ := hW
  have hA : DataW.TrodAll enc Tryz.prog W 0 (fun _ => true) true Tryz.f11.params.toList args.toList ds p := hA0
  rw [Tryz.params11] at hA hval
  obtain ⟨v0, vs0, d0, ds0, p0, q0, hg0, rfl, rfl, h0, r0⟩ := trodAll_cons hA
  obtain ⟨rfl, rfl, rfl⟩ := trodAll_nil r0
  obtain rfl : args = #[v0] := by cases args; simp_all
  obtain ⟨rfl, rfl⟩ := trodVars_none hV
  obtain ⟨a0, rfl, rfl, rfl, w0⟩ := open_string Tryz.underlying9 (hval 0 9 v0 rfl rfl) h0
  clear hA0 hval0
  simp only [List.append_nil] at hW'
  refine (walk a0 W (tab_of_laid hL) w0).mono fun e W' ⟨he, hg⟩ => ?_
  subst he
  exact ⟨_, rfl, _, _, _, [], [], [], hW', trodAll_cons_mk (shut_bool Tryz.underlying4 _) trodAll_mk0, (trodAll_cons_mk (shut_string Tryz.underlying9 w0) trodAll_mk0), rfl, hg.frame _, fun h => by cases h⟩

theorem over : Rows.typesTokensRow.holds Tryz.pinned (OpenSpec.ofChange Rows.typesTokensSpec) :=
  OpenClaim.holds_of_wide 11 Tryz.f11 rfl rfl rfl rfl rfl rfl rfl ⟨rfl, rfl, rfl, rfl, rfl⟩ rfl rfl rfl rfl rfl (by kernel_rfl) Tryz.func11 (by kernel_rfl)
    (of_decide_eq_true (by kernel_rfl)) (by unfold Func.isWrapper; first | (rw [if_pos (by decide +kernel)]; kernel_rfl) | (rw [if_neg (by decide +kernel)]; exact ⟨rfl, rfl⟩))
    (fun os started H enc _ => lifted os started H enc)

/-- the statement: the tied card -/
theorem proved : Rows.TypesTokensCardSaid :=
  Claim7.holds_tied_plain_at .later [] [.data, .data, .data, .sentinel, .sentinel] true _ true
    over (fun _ h => by cases h) (by kernel_rfl) (fun _ h => by cases h) typesTokens_row_tie rfl ⟨rfl, rfl⟩ (by kernel_rfl) rfl
    (fun f fn hf hfn => by
      obtain rfl : f = 11 := Option.some.inj ((show Tryz.prog.funcNamed "savant/savantlaw02.TypesTokens" = some 11 by kernel_rfl).symm.trans hf) |>.symm
      obtain rfl : fn = Tryz.f11 := (Option.some.inj (Tryz.func11.symm.trans hfn)).symm
      exact ⟨by kernel_rfl, fun j t ht => by
        rw [Tryz.params11] at ht
        have hm : t ∈ [9] := by
          simpa using Array.mem_of_getElem? ht
        have hall : ([9].all fun u => !Tryz.prog.wantsStandIn u) = true := by kernel_rfl
        exact (show Tryz.prog.wantsStandIn t = false by simpa using List.all_eq_true.1 hall t hm)⟩)
    (by kernel_rfl)
#print axioms proved
end Go.Proofs.YtnpklimlggffjaaGreatDoor.typesTokens
