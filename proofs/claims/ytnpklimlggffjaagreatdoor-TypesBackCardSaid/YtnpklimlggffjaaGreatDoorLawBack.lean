/-
  savantlaw02.TypesBack, whatever the text: it answers true, and the text is as it was. The card ties the library's tables to the program's text.
-/
import Derived.Test.YtnpklimlggffjaaGreatDoorBuX
import Derived.Test.YtnpklimlggffjaaGreatDoorBuW
import Derived.Test.YtnpklimlggffjaaGreatDoorCards
import Derived.Test.YtnpklimlggffjaaGreatDoorTie
import Derived.SevenTiedAt
namespace Go.Proofs.YtnpklimlggffjaaGreatDoor.typesBack
open Go.ChangeShapes Go.WideShapes Go.ChangeAt Go.RowKit Lx Tx Go.Shelf
open Go.ChangeMaps (open_string shut_string)
set_option maxRecDepth 100000

/-! ### what was written is read -/
theorem parse_back (t : Ty) (h : Nm t) (hd : t.depth ≤ 50) : parse t.print = .ok t ∨ parse t.print = .error 2 := by
  by_cases hl : t.print.length ≤ 4000
  · exact .inl (parse_print t h hl hd)
  · right
    unfold parse scanS
    rw [if_pos (by omega)]
    rfl
theorem canon_twice (t : Ty) (hs : t.size ≤ 1000000) : t.canonT.canonT = t.canonT := by
  rw [canon_db t.canonT, canon_db t, db_canonD _ (clo_db [] t) (small_db t hs)]
theorem canon_same (t : Ty) (hs : t.size ≤ 1000000) : db [] t.canonT = db [] t := by
  rw [canon_db t, db_canonD _ (clo_db [] t) (small_db t hs)]
theorem canon_depth (t : Ty) (hs : t.size ≤ 1000000) : t.canonT.depth = t.depth := by
  rw [depth_db [] t.canonT, depth_db [] t, canon_same t hs]
theorem canon_size (t : Ty) : t.canonT.size = t.size := by rw [← chg_canon, chg_size]

set_option maxHeartbeats 3200000 in
theorem walk (s : ByteArray) (w : World) (ht : Tab w) (hs : s.size ≤ maxLen) : Calls Tryz.prog 6 #[.string s] w fun e w' => e = .returned (.bool true) ∧ Below w.heap.size w w' := by
  have HT := hidE ht
  have HAW := hidE (tc_awake w ht)
  clear ht
  cases hp : parse s.data.toList with
  | error n =>
    have h0 := parse_zero hp
    have hn : ((n : Int) == 0) = false := kF n 0 h0
    have HP := hidE (fun w => tc_parseErr s n hp w hs)
    clear hp h0 hs
    go_enter Tryz.func6, Tryz.ntmps6
    go_wp2_with fail
    refine HAW.out.mono ?_
    rintro e w1 ⟨rfl, b1⟩
    have B1 := hidE b1
    clear b1 HAW
    go_wp2_with fail
    refine (HP.out w1).mono ?_
    rintro e w2 ⟨K, X, Z, A, m, c, rfl, b2⟩
    have B2 := hidE ((B1.out.trans (b2.mono B1.out.size)).alloc (Nat.le_trans B1.out.size b2.size) (.cells #[.int .i64 K, .string X, .int .i64 Z, .slice A m c] 25))
    clear b2 HP
    go_wp2_with fail
    go_ret
    exact ⟨rfl, B2.out⟩
  | ok t =>
    obtain ⟨hnm, hdp, hsz, hl⟩ := parse_nm _ _ hp
    have hsm : t.size ≤ 1000000 := by omega
    have hnc := nm_canonT t hnm hsm
    have hcs := canon_size t
    have hp1 := parse_back t hnm hdp
    have hp2 := parse_back t.canonT hnc (by rw [canon_depth t hsm]; exact hdp)
    have hl1 := (print_len t hnm).1
    have hl2 := (print_len t.canonT hnc).1
    have HP := hidE (fun w => tc_parseOk s t hp w hs)
    obtain ⟨P, hP⟩ : ∃ P : ByteArray, ⟨t.print.toArray⟩ = P := ⟨_, rfl⟩
    obtain ⟨C, hC⟩ : ∃ C : ByteArray, ⟨t.canonT.print.toArray⟩ = C := ⟨_, rfl⟩
    have hPl : P.data.toList = t.print := by rw [← hP]
    have hCl : C.data.toList = t.canonT.print := by rw [← hC]
    have hPs : P.size ≤ maxLen := by show P.data.size ≤ maxLen; rw [← Array.length_toList, hPl]; unfold maxLen; omega
    have hCs : C.size ≤ maxLen := by show C.data.size ≤ maxLen; rw [← Array.length_toList, hCl]; unfold maxLen; omega
    rw [← hPl] at hp1
    rw [← hCl] at hp2
    have HPS := hidE hPs
    have HCS := hidE hCs
    have HNM := hidE hnm
    have HNC := hidE hnc
    have HSM := hidE hsm
    have HCZ := hidE hcs
    have HCP := hidE hP
    have HCC := hidE hC
    clear hp hs hl1 hl2 hPl hCl hPs hCs hsz hl hdp hnm hnc hcs hP hC
    go_enter Tryz.func6, Tryz.ntmps6
    go_wp2_with fail
    refine HAW.out.mono ?_
    rintro e w1 ⟨rfl, b1⟩
    have B1 := hidE b1
    clear b1 HAW
    go_wp2_with fail
    refine (HP.out w1).mono ?_
    rintro e w2 ⟨K, X, Z, A, m, c, rfl, hr, b2⟩
    obtain ⟨V2, hV2⟩ : ∃ V, w2.alloc (.cells #[.int .i64 K, .string X, .int .i64 Z, .slice A m c] 25) = V := ⟨_, rfl⟩
    have hbt := Bx.made hr
    have hb2 := (B1.out.trans (b2.mono B1.out.size)).alloc (Nat.le_trans B1.out.size b2.size) (.cells #[.int .i64 K, .string X, .int .i64 Z, .slice A m c] 25)
    rw [hV2] at hbt hb2
    have BT := hidE hbt
    have B2 := hidE hb2
    obtain ⟨x0, x1, x2, x3⟩ := hbt.cells
    have HPR := hidE (hbt.print HNM.out HSM.out (HT.out.below hb2))
    rw [HCP.out] at HPR
    clear b2 hr hbt hb2 HP
    go_wp2_with fail
    refine HPR.out.mono ?_
    rintro e w3 ⟨rfl, b3⟩
    have hbt := BT.out.below b3
    have B3 : Hid (Below w.heap.size w w3) := hidE (B2.out.trans (b3.mono B2.out.size))
    obtain ⟨y0, y1, y2, y3⟩ := hbt.cells
    have HCA := hidE (hbt.canon HNM.out HSM.out (HT.out.below B3.out))
    rw [HCC.out] at HCA
    have BT3 := hidE hbt
    clear b3 hbt HPR BT
    go_wp2_with fail
    refine HCA.out.mono ?_
    rintro e w4 ⟨rfl, b4⟩
    have BT4 := hidE (BT3.out.below b4)
    have B4 : Hid (Below w.heap.size w w4) := hidE (B3.out.trans (b4.mono B3.out.size))
    clear b4 HCA BT3
    rcases hp1 with hp1 | hp1
    · rcases hp2 with hp2 | hp2
      · have HP1 := hidE (tc_parseOk P t hp1 w4 HPS.out)
        have HP2 := hidE (fun w => tc_parseOk C t.canonT hp2 w HCS.out)
        clear hp1 hp2
        go_wp2_with fail
        refine HP1.out.mono ?_
        rintro e w5 ⟨K5, X5, Z5, A5, m5, c5, rfl, hr, b5⟩
        obtain ⟨V5, hV5⟩ : ∃ V, w5.alloc (.cells #[.int .i64 K5, .string X5, .int .i64 Z5, .slice A5 m5 c5] 25) = V := ⟨_, rfl⟩
        have h5 := b5.alloc b5.size (.cells #[.int .i64 K5, .string X5, .int .i64 Z5, .slice A5 m5 c5] 25)
        have hbu := Bx.made hr
        rw [hV5] at h5 hbu
        have BU := hidE hbu
        have BT5 := hidE (BT4.out.below h5)
        have B5 : Hid (Below w.heap.size w V5) := hidE (B4.out.trans (h5.mono B4.out.size))
        clear b5 h5 hr hbu HP1 BT4
        go_wp2_with fail
        refine (HP2.out V5).mono ?_
        rintro e w6 ⟨K6, X6, Z6, A6, m6, c6, rfl, hr, b6⟩
        obtain ⟨V6, hV6⟩ : ∃ V, w6.alloc (.cells #[.int .i64 K6, .string X6, .int .i64 Z6, .slice A6 m6 c6] 25) = V := ⟨_, rfl⟩
        have h6 := b6.alloc b6.size (.cells #[.int .i64 K6, .string X6, .int .i64 Z6, .slice A6 m6 c6] 25)
        have hbv := Bx.made hr
        rw [hV6] at h6 hbv
        have BV := hidE hbv
        have BT6 := hidE (BT5.out.below h6)
        have hbu := BU.out.below h6
        have BU6 := hidE hbu
        have B6 : Hid (Below w.heap.size w V6) := hidE (B5.out.trans (h6.mono B5.out.size))
        obtain ⟨u0, u1, u2, u3⟩ := hbu.cells
        have HPR := hidE (hbu.print HNM.out HSM.out (HT.out.below B6.out))
        rw [HCP.out] at HPR
        clear b6 h6 hr hbv hbu HP2 BT5 BU
        go_wp2_with fail
        refine HPR.out.mono ?_
        rintro e w7 ⟨rfl, b7⟩
        have BT7 := hidE (BT6.out.below b7)
        have BU7 := hidE (BU6.out.below b7)
        have BV7 := hidE (BV.out.below b7)
        have B7 : Hid (Below w.heap.size w w7) := hidE (B6.out.trans (b7.mono B6.out.size))
        obtain ⟨p0, p1, p2, p3⟩ := BT7.out.cells
        obtain ⟨q0, q1, q2, q3⟩ := BU7.out.cells
        have hsame := tc_Same t t _ _ _ _ w7 BT7.out.rd BU7.out.rd BT7.out.lt' BU7.out.lt' HNM.out HNM.out (by have := HSM.out; omega)
        rw [(same_iff t t).2 rfl] at hsame
        have HSA := hidE hsame
        clear b7 hsame HPR BT6 BU6 BV
        go_wp2_with fail
        refine HSA.out.mono ?_
        rintro e w8 ⟨rfl, b8⟩
        have BT8 := hidE (BT7.out.below b8)
        have BV8 := hidE (BV7.out.below b8)
        have B8 : Hid (Below w.heap.size w w8) := hidE (B7.out.trans (b8.mono B7.out.size))
        obtain ⟨a0, a1, a2, a3⟩ := BT8.out.cells
        obtain ⟨v0, v1, v2, v3⟩ := BV8.out.cells
        have hsame := tc_Same t t.canonT _ _ _ _ w8 BT8.out.rd BV8.out.rd BT8.out.lt' BV8.out.lt' HNM.out HNC.out (by have := HSM.out; omega)
        rw [(same_iff t t.canonT).2 (canon_same t HSM.out).symm] at hsame
        have HSB := hidE hsame
        clear b8 hsame HSA BT7 BU7 BV7
        go_wp2_with fail
        refine HSB.out.mono ?_
        rintro e w9 ⟨rfl, b9⟩
        have hbv := BV8.out.below b9
        have B9 : Hid (Below w.heap.size w w9) := hidE (B8.out.trans (b9.mono B8.out.size))
        obtain ⟨z0, z1, z2, z3⟩ := hbv.cells
        have hca := hbv.canon HNC.out (by rw [HCZ.out]; exact HSM.out) (HT.out.below B9.out)
        rw [canon_twice t HSM.out, HCC.out] at hca
        have HCA := hidE hca
        clear b9 hbv hca HSB BT8 BV8
        go_wp2_with fail
        refine HCA.out.mono ?_
        rintro e w10 ⟨rfl, b10⟩
        have B10 : Hid (Below w.heap.size w w10) := hidE (B9.out.trans (b10.mono B9.out.size))
        clear b10 HCA
        go_wp2_with fail
        go_ret
        exact ⟨rfl, B10.out⟩
      · have HP1 := hidE (tc_parseOk P t hp1 w4 HPS.out)
        have HP2 := hidE (fun w => tc_parseErr C 2 hp2 w HCS.out)
        clear hp1 hp2
        go_wp2_with fail
        refine HP1.out.mono ?_
        rintro e w5 ⟨K5, X5, Z5, A5, m5, c5, rfl, -, b5⟩
        have B5 := hidE ((B4.out.trans (b5.mono B4.out.size)).alloc (Nat.le_trans B4.out.size b5.size) (.cells #[.int .i64 K5, .string X5, .int .i64 Z5, .slice A5 m5 c5] 25))
        clear b5 HP1
        go_wp2_with fail
        refine (HP2.out _).mono ?_
        rintro e w6 ⟨K6, X6, Z6, A6, m6, c6, rfl, b6⟩
        have B6 := hidE ((B5.out.trans (b6.mono B5.out.size)).alloc (Nat.le_trans B5.out.size b6.size) (.cells #[.int .i64 K6, .string X6, .int .i64 Z6, .slice A6 m6 c6] 25))
        clear b6 HP2
        go_wp2_with fail
        go_ret
        exact ⟨rfl, B6.out⟩
    · have HP1 := hidE (tc_parseErr P 2 hp1 w4 HPS.out)
      have HP2 := hidE (fun w => tc_parse C w HCS.out)
      clear hp1 hp2
      go_wp2_with fail
      refine HP1.out.mono ?_
      rintro e w5 ⟨K5, X5, Z5, A5, m5, c5, rfl, b5⟩
      have B5 := hidE ((B4.out.trans (b5.mono B4.out.size)).alloc (Nat.le_trans B4.out.size b5.size) (.cells #[.int .i64 K5, .string X5, .int .i64 Z5, .slice A5 m5 c5] 25))
      clear b5 HP1
      go_wp2_with fail
      refine (HP2.out _).mono ?_
      rintro e w6 ⟨b6, K6, X6, Z6, A6, m6, c6, hcase⟩
      have B6 := hidE ((B5.out.trans (b6.mono B5.out.size)).alloc (Nat.le_trans B5.out.size b6.size) (.cells #[.int .i64 K6, .string X6, .int .i64 Z6, .slice A6 m6 c6] 25))
      clear b6 HP2
      rcases hcase with ⟨n, -, -, rfl⟩ | ⟨u, -, rfl, -⟩
      all_goals
        go_wp2_with fail
        go_ret
        exact ⟨rfl, B6.out⟩

/-! ### the row's step -/
theorem lifted (os : Os) (started : os.Started) (H : Type) (enc : TypeId × Value → H) :
    ReturnsInHanded {} Tryz.checked os 6 .any (fun w args => (Rows.typesBackSpec.pre enc Tryz.prog Tryz.f6 Rows.typesBackRow.domain false w args ∧ laidMetH Tryz.prog theLaid w) ∧ sizedMet enc Tryz.prog Tryz.f6 (OpenSpec.ofChange Rows.typesBackSpec) false w args)
      (Rows.typesBackSpec.post enc Tryz.prog Tryz.f6 false true false false) := by
  refine returnsInHanded_of_change_and (C := Tryz.checked) (X := fun w _ => laidMetH Tryz.prog theLaid w) (fun _ _ _ hh h => h.of_heap hh) ownK started (by kernel_rfl) Tryz.func6
    (ChangeSpec.witness_shaped (enc := enc) (C := Tryz.checked) (os := os) (X := fun w _ => laidMetH Tryz.prog theLaid w) false (World.laidAll Tryz.prog os theLaid) #[.string ⟨#[]⟩] 8 (World.laidAll_os _ _ _)
      (start_shaped os) (by kernel_rfl) (by kernel_rfl) (by kernel_rfl)
      (start_met os _)) ?_
  intro W base args ds gs before hval0 hW hc _ hL _
  have hval : ∀ (j : Nat) t v, Tryz.f6.params[j]? = some t → args[j]? = some v → Value.okWide Tryz.prog W .any base t v := hval0
  have hW' := hW
  obtain ⟨p, q, hA0, hV, rfl, _, _⟩ := hW
  have hA : DataW.TrodAll enc Tryz.prog W 0 (fun _ => true) true Tryz.f6.params.toList args.toList ds p := hA0
  rw [Tryz.params6] at hA hval
  obtain ⟨v0, vs0, d0, ds0, p0, q0, hg0, rfl, rfl, h0, r0⟩ := trodAll_cons hA
  obtain ⟨rfl, rfl, rfl⟩ := trodAll_nil r0
  obtain rfl : args = #[v0] := by cases args; simp_all
  obtain ⟨rfl, rfl⟩ := trodVars_none hV
  obtain ⟨a0, rfl, rfl, rfl, w0⟩ := open_string Tryz.underlying9 (hval 0 9 v0 rfl rfl) h0
  clear hA0 hval0
  simp only [List.append_nil] at hW'
  refine (walk a0 W (tab_of_laid hL) w0).mono fun e W' ⟨he, hg⟩ => ?_
  subst he
  exact ⟨_, rfl, _, _, _, [], [], [], hW', trodAll_cons_mk (shut_bool Tryz.underlying4 _) trodAll_mk0, (trodAll_cons_mk (shut_string Tryz.underlying9 w0) trodAll_mk0), rfl, hg.frame _, fun h => by cases h⟩

theorem over : Rows.typesBackRow.holds Tryz.pinned (OpenSpec.ofChange Rows.typesBackSpec) :=
  OpenClaim.holds_of_wide 6 Tryz.f6 rfl rfl rfl rfl rfl rfl rfl ⟨rfl, rfl, rfl, rfl, rfl⟩ rfl rfl rfl rfl rfl (by kernel_rfl) Tryz.func6 (by kernel_rfl)
    (of_decide_eq_true (by kernel_rfl)) (by unfold Func.isWrapper; first | (rw [if_pos (by decide +kernel)]; kernel_rfl) | (rw [if_neg (by decide +kernel)]; exact ⟨rfl, rfl⟩))
    (fun os started H enc _ => lifted os started H enc)

/-- the statement: the tied card -/
theorem proved : Rows.TypesBackCardSaid :=
  Claim7.holds_tied_plain_at .later [] [.data, .data, .data, .sentinel, .sentinel] true _ true
    over (fun _ h => by cases h) (by kernel_rfl) (fun _ h => by cases h) typesBack_row_tie rfl ⟨rfl, rfl⟩ (by kernel_rfl) rfl
    (fun f fn hf hfn => by
      obtain rfl : f = 6 := Option.some.inj ((show Tryz.prog.funcNamed "savant/savantlaw02.TypesBack" = some 6 by kernel_rfl).symm.trans hf) |>.symm
      obtain rfl : fn = Tryz.f6 := (Option.some.inj (Tryz.func6.symm.trans hfn)).symm
      exact ⟨by kernel_rfl, fun j t ht => by
        rw [Tryz.params6] at ht
        have hm : t ∈ [9] := by
          simpa using Array.mem_of_getElem? ht
        have hall : ([9].all fun u => !Tryz.prog.wantsStandIn u) = true := by kernel_rfl
        exact (show Tryz.prog.wantsStandIn t = false by simpa using List.all_eq_true.1 hall t hm)⟩)
    (by kernel_rfl)
#print axioms proved
end Go.Proofs.YtnpklimlggffjaaGreatDoor.typesBack
