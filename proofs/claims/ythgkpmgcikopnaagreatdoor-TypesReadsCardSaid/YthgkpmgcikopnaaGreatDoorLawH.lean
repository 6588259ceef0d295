/-
  savantlaw02.TypesReads, whatever the text: it answers true, and the text is as it was. The card ties the library's tables to the program's text.
-/
import Derived.Test.YthgkpmgcikopnaaGreatDoorBuX
import Derived.Test.YthgkpmgcikopnaaGreatDoorByA
import Derived.Test.YthgkpmgcikopnaaGreatDoorBzB
import Derived.Test.YthgkpmgcikopnaaGreatDoorCards
import Derived.Test.YthgkpmgcikopnaaGreatDoorTie
import Derived.SevenTiedAt
namespace Go.Proofs.YthgkpmgcikopnaaGreatDoor.typesReads
open Go.ChangeShapes Go.WideShapes Go.ChangeAt Go.RowKit Lx Tx Go.Shelf
open Go.ChangeMaps (open_string shut_string)
set_option maxRecDepth 100000

theorem ref2_parseOk (s : ByteArray) (t : Ty) (h : parse s.data.toList = .ok t) (w : World) (hs : s.size ≤ maxLen) : Calls Tryz.prog 13 #[.string s] w (OkPst t w) := by
  refine (ref2_parse s w hs).mono ?_
  rintro e w' ⟨hb, K, X, Z, A, m, c, ⟨n, h0, hp, -⟩ | ⟨u, hp, he, hr⟩⟩
  · rw [h] at hp; cases hp
  · rw [h] at hp
    injection hp with hp
    subst hp
    exact ⟨K, X, Z, A, m, c, he, hr.keep (fun g hg => hg.2) (fun _ _ => rfl), hb⟩
theorem ref2_parseN (s : ByteArray) (w : World) (hs : s.size ≤ maxLen) : Calls Tryz.prog 13 #[.string s] w (AnyPst (errN s.data.toList) w) := by
  refine (ref2_parse s w hs).mono ?_
  rintro e w' ⟨hb, K, X, Z, A, m, c, ⟨n, h0, hp, he⟩ | ⟨u, hp, he, hr⟩⟩
  · refine ⟨K, X, Z, A, m, c, ?_, hb⟩
    unfold errN
    rw [hp]
    exact he
  · refine ⟨K, X, Z, A, m, c, ?_, hb⟩
    unfold errN
    rw [hp]
    exact he

set_option maxHeartbeats 1600000 in
/-- where the text is no type -/
theorem walk_no (s : ByteArray) (w : World) (ht : Tab w) (hs : s.size ≤ maxLen) (h : ¬ errN s.data.toList = 0) :
    Calls Tryz.prog 3 #[.string s] w fun e w' => e = .returned (.bool true) ∧ Below w.heap.size w w' := by
  have HAW := hidE (tc_awake w ht)
  have HP := hidE (fun w => tc_parseN s w hs)
  have HR := hidE (fun w => ref2_parseN s w hs)
  obtain ⟨n1, hn1⟩ : ∃ n, errN s.data.toList = n := ⟨_, rfl⟩
  rw [hn1] at HP HR h
  have e1 : ((n1 : Int) != 0) = true := neqT _ _ (by omega)
  have e2 : ((n1 : Int) != (n1 : Int)) = false := neqF _ _ rfl
  clear ht hs hn1
  go_enter Tryz.func3, Tryz.ntmps3
  go_wp2_with fail
  refine HAW.out.mono ?_
  rintro e w1 ⟨rfl, b1⟩
  have B1 := hidE b1
  clear b1 HAW
  go_wp2_with fail
  refine (HP.out w1).mono ?_
  rintro e w2 ⟨K, X, Z, A, m, c, rfl, b2⟩
  have B2 := hidE ((B1.out.trans (b2.mono B1.out.size)).alloc (Nat.le_trans B1.out.size b2.size) (.cells #[.int .i64 K, .string X, .int .i64 Z, .slice A m c] 25))
  clear b2 HP
  go_wp2_with fail
  refine (HR.out _).mono ?_
  rintro e w3 ⟨K3, X3, Z3, A3, m3, c3, rfl, b3⟩
  have B3 := hidE ((B2.out.trans (b3.mono B2.out.size)).alloc (Nat.le_trans B2.out.size b3.size) (.cells #[.int .i64 K3, .string X3, .int .i64 Z3, .slice A3 m3 c3] 31))
  clear b3 HR
  go_wp2_with fail
  go_ret
  exact ⟨rfl, B3.out⟩

set_option maxHeartbeats 3200000 in
/-- where it is one -/
theorem walk_yes (s : ByteArray) (t : Ty) (hp : parse s.data.toList = .ok t) (w : World) (ht : Tab w) (hs : s.size ≤ maxLen) :
    Calls Tryz.prog 3 #[.string s] w fun e w' => e = .returned (.bool true) ∧ Below w.heap.size w w' := by
  have HT := hidE ht
  have HAW := hidE (tc_awake w ht)
  obtain ⟨hnt, -, hst, hsl⟩ := parse_nm _ _ hp
  have HP := hidE (fun w => tc_parseOk s t hp w hs)
  have HR := hidE (fun w => ref2_parseOk s t hp w hs)
  have zt : t.size ≤ 4000 := by omega
  have hnc := nm_canonT t hnt (by omega)
  have hpl : t.print.length ≤ 10 ^ 12 := by have := (print_len t hnt).1; omega
  obtain ⟨P, hP⟩ : ∃ P : ByteArray, ⟨t.print.toArray⟩ = P := ⟨_, rfl⟩
  obtain ⟨C, hC⟩ : ∃ C : ByteArray, ⟨t.canonT.print.toArray⟩ = C := ⟨_, rfl⟩
  have HPP := hidE hP
  have HCC := hidE hC
  have ep := strT P P rfl
  have ec := strT C C rfl
  have HNT := hidE hnt
  have HNC := hidE hnc
  have HPL := hidE hpl
  have HZT := hidE zt
  clear ht hp hs hnt hnc hpl hst hsl zt hP hC
  go_enter Tryz.func3, Tryz.ntmps3
  go_wp2_with fail
  refine HAW.out.mono ?_
  rintro e w1 ⟨rfl, b1⟩
  have B1 := hidE b1
  clear b1 HAW
  go_wp2_with fail
  refine (HP.out w1).mono ?_
  rintro e w2 ⟨K, X, Z, A, m, c, rfl, hr, b2⟩
  obtain ⟨V2, hV2⟩ : ∃ V, w2.alloc (.cells #[.int .i64 K, .string X, .int .i64 Z, .slice A m c] 25) = V := ⟨_, rfl⟩
  have hbt := Bx.made hr
  have hb2 := (B1.out.trans (b2.mono B1.out.size)).alloc (Nat.le_trans B1.out.size b2.size) (.cells #[.int .i64 K, .string X, .int .i64 Z, .slice A m c] 25)
  rw [hV2] at hbt hb2
  have BT := hidE hbt
  have B2 := hidE hb2
  clear b2 hr hbt hb2 HP
  go_wp2_with fail
  refine (HR.out V2).mono ?_
  rintro e w3 ⟨K3, X3, Z3, A3, m3, c3, rfl, hr, b3⟩
  obtain ⟨V3, hV3⟩ : ∃ V, w3.alloc (.cells #[.int .i64 K3, .string X3, .int .i64 Z3, .slice A3 m3 c3] 31) = V := ⟨_, rfl⟩
  have h3 := b3.alloc b3.size (.cells #[.int .i64 K3, .string X3, .int .i64 Z3, .slice A3 m3 c3] 31)
  have hbk : Blk (w3.alloc (.cells #[.int .i64 K3, .string X3, .int .i64 Z3, .slice A3 m3 c3] 31)) w3.heap.size 31 #[.int .i64 K3, .string X3, .int .i64 Z3, .slice A3 m3 c3] := heap_alloc_new _ _
  have hr4 : RdN w3 t (.agg #[.int .i64 K3, .string X3, .int .i64 Z3, .slice A3 m3 c3]) := hr
  have hr4' := hr4.below ((Below.refl w3.heap.size w3).alloc (Nat.le_refl _) (.cells #[.int .i64 K3, .string X3, .int .i64 Z3, .slice A3 m3 c3] 31))
  rw [hV3] at h3 hbk hr4'
  have BT3 := hidE (BT.out.below h3)
  have BK := hidE hbk
  have RU := hidE hr4'
  have B3 : Hid (Below w.heap.size w V3) := hidE (B2.out.trans (h3.mono B2.out.size))
  have hsz3 : w3.heap.size < V3.heap.size := by rw [← hV3]; simp
  have HS3 := hidE hsz3
  obtain ⟨x0, x1, x2, x3⟩ := BT3.out.cells
  have HPR := hidE (BT3.out.print HNT.out (by have := HZT.out; omega) (HT.out.below B3.out))
  rw [HPP.out] at HPR
  clear b3 h3 hr hbk hr4 hr4' HR BT hsz3
  go_wp2_with fail
  refine HPR.out.mono ?_
  rintro e w4 ⟨rfl, b4⟩
  have BT4 := hidE (BT3.out.below b4)
  have BK4 := hidE (BK.out.below b4 HS3.out)
  have RU4 := hidE (RU.out.below b4)
  have B4 : Hid (Below w.heap.size w w4) := hidE (B3.out.trans (b4.mono B3.out.size))
  obtain ⟨y0, y1, y2, y3⟩ := BT4.out.cells
  have HCA := hidE (BT4.out.canon HNT.out (by have := HZT.out; omega) (HT.out.below B4.out))
  rw [HCC.out] at HCA
  clear b4 HPR BT3 BK RU
  go_wp2_with fail
  refine HCA.out.mono ?_
  rintro e w5 ⟨rfl, b5⟩
  have BK5 := hidE (BK4.out.below b5 BK4.out.lt)
  have RU5 := hidE (RU4.out.below b5)
  have B5 : Hid (Below w.heap.size w w5) := hidE (B4.out.trans (b5.mono B4.out.size))
  obtain ⟨z0, z1, z2, z3, -, -, -, -, -⟩ := blk_facts4 BK5.out
  have HQ := hidE (ref2_print t _ _ w5 (by have := HZT.out; omega) HNT.out HPL.out RU5.out (fun _ h => h))
  rw [HPP.out] at HQ
  clear b5 HCA BK4 RU4 BT4
  go_wp2_with fail
  refine HQ.out.mono ?_
  rintro e w6 ⟨rfl, b6⟩
  have BK6 := hidE (BK5.out.below b6 BK5.out.lt)
  have RU6 := hidE (RU5.out.below b6)
  have B6 : Hid (Below w.heap.size w w6) := hidE (B5.out.trans (b6.mono B5.out.size))
  obtain ⟨p0, p1, p2, p3, -, -, -, -, -⟩ := blk_facts4 BK6.out
  have HC2 := hidE (ref2_canon t _ _ w6 (by have := HZT.out; omega) HNC.out RU6.out (fun _ h => h))
  rw [HCC.out] at HC2
  clear b6 HQ BK5 RU5
  go_wp2_with fail
  refine HC2.out.mono ?_
  rintro e w7 ⟨rfl, b7⟩
  have B7 : Hid (Below w.heap.size w w7) := hidE (B6.out.trans (b7.mono B6.out.size))
  clear b7 HC2
  go_wp2_with fail
  go_ret
  exact ⟨rfl, B7.out⟩

theorem walk (s : ByteArray) (w : World) (ht : Tab w) (hs : s.size ≤ maxLen) :
    Calls Tryz.prog 3 #[.string s] w fun e w' => e = .returned (.bool true) ∧ Below w.heap.size w w' := by
  by_cases h : errN s.data.toList = 0
  · obtain ⟨t, e1⟩ := errN_zero h
    exact walk_yes s t e1 w ht hs
  · exact walk_no s w ht hs h

/-! ### the row's step -/
theorem lifted (os : Os) (started : os.Started) (H : Type) (enc : TypeId × Value → H) :
    ReturnsInHanded {} Tryz.checked os 3 .any (fun w args => (Rows.typesReadsSpec.pre enc Tryz.prog Tryz.f3 Rows.typesReadsRow.domain false w args ∧ laidMetH Tryz.prog theLaid w) ∧ sizedMet enc Tryz.prog Tryz.f3 (OpenSpec.ofChange Rows.typesReadsSpec) false w args)
      (Rows.typesReadsSpec.post enc Tryz.prog Tryz.f3 false true false false) := by
  refine returnsInHanded_of_change_and (C := Tryz.checked) (X := fun w _ => laidMetH Tryz.prog theLaid w) (fun _ _ _ hh h => h.of_heap hh) ownK started (by kernel_rfl) Tryz.func3
    (ChangeSpec.witness_shaped (enc := enc) (C := Tryz.checked) (os := os) (X := fun w _ => laidMetH Tryz.prog theLaid w) false (World.laidAll Tryz.prog os theLaid) #[.string ⟨#[]⟩] 8 (World.laidAll_os _ _ _)
      (start_shaped os) (by kernel_rfl) (by kernel_rfl) (by kernel_rfl)
      (start_met os _)) ?_
  intro W base args ds gs before hval0 hW hc _ hL _
  have hval : ∀ (j : Nat) t v, Tryz.f3.params[j]? = some t → args[j]? = some v → Value.okWide Tryz.prog W .any base t v := hval0
  have hW' := hW
  obtain ⟨p, q, hA0, hV, rfl, _, _⟩ := hW
  have hA : DataW.TrodAll enc Tryz.prog W 0 (fun _ => true) true Tryz.f3.params.toList args.toList ds p := hA0
  rw [Tryz.params3] at hA hval
  obtain ⟨v0, vs0, d0, ds0, p0, q0, hg0, rfl, rfl, h0, r0⟩ := trodAll_cons hA
  obtain ⟨rfl, rfl, rfl⟩ := trodAll_nil r0
  obtain rfl : args = #[v0] := by cases args; simp_all
  obtain ⟨rfl, rfl⟩ := trodVars_none hV
  obtain ⟨a0, rfl, rfl, rfl, w0⟩ := open_string Tryz.underlying9 (hval 0 9 v0 rfl rfl) h0
  clear hA0 hval0
  simp only [List.append_nil] at hW'
  refine (walk a0 W (tab_of_laid hL) w0).mono fun e W' ⟨he, hg⟩ => ?_
  subst he
  exact ⟨_, rfl, _, _, _, [], [], [], hW', trodAll_cons_mk (shut_bool Tryz.underlying4 _) trodAll_mk0, (trodAll_cons_mk (shut_string Tryz.underlying9 w0) trodAll_mk0), rfl, hg.frame _, fun h => by cases h⟩

theorem over : Rows.typesReadsRow.holds Tryz.pinned (OpenSpec.ofChange Rows.typesReadsSpec) :=
  OpenClaim.holds_of_wide 3 Tryz.f3 rfl rfl rfl rfl rfl rfl rfl ⟨rfl, rfl, rfl, rfl, rfl⟩ rfl rfl rfl rfl rfl (by kernel_rfl) Tryz.func3 (by kernel_rfl)
    (of_decide_eq_true (by kernel_rfl)) (by unfold Func.isWrapper; first | (rw [if_pos (by decide +kernel)]; kernel_rfl) | (rw [if_neg (by decide +kernel)]; exact ⟨rfl, rfl⟩))
    (fun os started H enc _ => lifted os started H enc)

/-- the statement: the tied card -/
theorem proved : Rows.TypesReadsCardSaid :=
  Claim7.holds_tied_plain_at .later [] [.data, .data, .data, .sentinel, .sentinel] true _ true
    over (fun _ h => by cases h) (by kernel_rfl) (fun _ h => by cases h) typesReads_row_tie rfl ⟨rfl, rfl⟩ (by kernel_rfl) rfl
    (fun f fn hf hfn => by
      obtain rfl : f = 3 := Option.some.inj ((show Tryz.prog.funcNamed "savant/savantlaw02.TypesReads" = some 3 by kernel_rfl).symm.trans hf) |>.symm
      obtain rfl : fn = Tryz.f3 := (Option.some.inj (Tryz.func3.symm.trans hfn)).symm
      exact ⟨by kernel_rfl, fun j t ht => by
        rw [Tryz.params3] at ht
        have hm : t ∈ [9] := by
          simpa using Array.mem_of_getElem? ht
        have hall : ([9].all fun u => !Tryz.prog.wantsStandIn u) = true := by kernel_rfl
        exact (show Tryz.prog.wantsStandIn t = false by simpa using List.all_eq_true.1 hall t hm)⟩)
    (by kernel_rfl)
#print axioms proved
end Go.Proofs.YthgkpmgcikopnaaGreatDoor.typesReads
