/-
  savantlaw02.TypesDeeper, whatever the two texts and the name: it answers true, and they are as they were. The card ties the library's tables to the program's text.
-/
import Derived.Test.YtnpklimlggffjaaGreatDoorBuX
import Derived.Test.YtnpklimlggffjaaGreatDoorBuW
import Derived.Test.YtnpklimlggffjaaGreatDoorBuN
import Derived.Test.YtnpklimlggffjaaGreatDoorCards
import Derived.Test.YtnpklimlggffjaaGreatDoorTie
import Derived.SevenTiedAt
namespace Go.Proofs.YtnpklimlggffjaaGreatDoor.typesDeeper
open Go.ChangeShapes Go.WideShapes Go.ChangeAt Go.RowKit Lx Tx Go.Shelf
open Go.ChangeMaps (open_string shut_string)
set_option maxRecDepth 100000

theorem depth_put (a : Name) (t u : Ty) (ht : t.size ≤ 1000000) (hu : u.size ≤ 1000000) : t.depth ≤ (putT (isPV a) t u).depth ∧ (putT (isPV a) t u).depth < t.depth + u.depth := by
  have hd : ∀ d, 1 ≤ depthD d := depthD_pos
  have hu1 : 1 ≤ u.depth := by rw [depth_db [] u]; exact hd _
  have h := depth_rep (sub a (db [] u)) .mt u.depth (fun x => by
    unfold sub
    split
    · rw [depth_db [] u]; exact ⟨hd _, Nat.le_refl _⟩
    · rw [depthD]; exact ⟨Nat.le_refl _, hu1⟩) (fun n => by rw [depthD]; exact ⟨Nat.le_refl _, hu1⟩) (db [] t)
  have e := db_putV a t u ht hu
  unfold subD at e
  rw [← e, ← depth_db [] t, ← depth_db [] (putT (isPV a) t u)] at h
  omega

set_option maxHeartbeats 1600000 in
/-- where one of the two is no type -/
theorem walk_no (s r x : ByteArray) (w : World) (ht : Tab w) (hs : s.size ≤ maxLen) (hr : r.size ≤ maxLen) (h : (∃ n, parse s.data.toList = .error n) ∨ (∃ t, parse s.data.toList = .ok t) ∧ ∃ n, parse r.data.toList = .error n) :
    Calls Tryz.prog 9 #[.string s, .string r, .string x] w fun e w' => e = .returned (.bool true) ∧ Below w.heap.size w w' := by
  have HAW := hidE (tc_awake w ht)
  clear ht
  rcases h with ⟨n, hp⟩ | ⟨⟨t, ht⟩, n, hp⟩
  · have hn0 : ¬ n = 0 := parse_zero hp
    have hn : ((n : Int) == 0) = false := kF n 0 hn0
    have HP := hidE (fun w => tc_parseErr s n hp w hs)
    have HQ := hidE (fun w => tc_parse r w hr)
    clear hp hs hr
    go_enter Tryz.func9, Tryz.ntmps9
    go_wp2_with fail
    refine HAW.out.mono ?_
    rintro e w1 ⟨rfl, b1⟩
    have B1 := hidE b1
    clear b1 HAW
    go_wp2_with fail
    refine (HP.out w1).mono ?_
    rintro e w2 ⟨K, X, Z, A, m, c, rfl, b2⟩
    have B2 := hidE ((B1.out.trans (b2.mono B1.out.size)).alloc (Nat.le_trans B1.out.size b2.size) (.cells #[.int .i64 K, .string X, .int .i64 Z, .slice A m c] 25))
    clear b2 HP
    go_wp2_with fail
    refine (HQ.out _).mono ?_
    rintro e w3 ⟨b3, K3, X3, Z3, A3, m3, c3, hcase⟩
    have B3 := hidE ((B2.out.trans (b3.mono B2.out.size)).alloc (Nat.le_trans B2.out.size b3.size) (.cells #[.int .i64 K3, .string X3, .int .i64 Z3, .slice A3 m3 c3] 25))
    clear b3 HQ
    rcases hcase with ⟨k, -, -, rfl⟩ | ⟨u, -, rfl, -⟩
    all_goals
      go_wp2_with fail
      go_ret
      exact ⟨rfl, B3.out⟩
  · have hn0 : ¬ n = 0 := parse_zero hp
    have hn : ((n : Int) == 0) = false := kF n 0 hn0
    have HP := hidE (fun w => tc_parseErr r n hp w hr)
    have HQ := hidE (fun w => tc_parseOk s t ht w hs)
    clear hp hs hr ht
    go_enter Tryz.func9, Tryz.ntmps9
    go_wp2_with fail
    refine HAW.out.mono ?_
    rintro e w1 ⟨rfl, b1⟩
    have B1 := hidE b1
    clear b1 HAW
    go_wp2_with fail
    refine (HQ.out w1).mono ?_
    rintro e w2 ⟨K, X, Z, A, m, c, rfl, -, b2⟩
    have B2 := hidE ((B1.out.trans (b2.mono B1.out.size)).alloc (Nat.le_trans B1.out.size b2.size) (.cells #[.int .i64 K, .string X, .int .i64 Z, .slice A m c] 25))
    clear b2 HQ
    go_wp2_with fail
    refine (HP.out _).mono ?_
    rintro e w3 ⟨K3, X3, Z3, A3, m3, c3, rfl, b3⟩
    have B3 := hidE ((B2.out.trans (b3.mono B2.out.size)).alloc (Nat.le_trans B2.out.size b3.size) (.cells #[.int .i64 K3, .string X3, .int .i64 Z3, .slice A3 m3 c3] 25))
    clear b3 HP
    go_wp2_with fail
    go_ret
    exact ⟨rfl, B3.out⟩

set_option maxHeartbeats 3200000 in
/-- where both are types -/
theorem walk_yes (s r x : ByteArray) (t u : Ty) (hp : parse s.data.toList = .ok t) (hq : parse r.data.toList = .ok u) (w : World) (ht : Tab w) (hs : s.size ≤ maxLen) (hr : r.size ≤ maxLen) :
    Calls Tryz.prog 9 #[.string s, .string r, .string x] w fun e w' => e = .returned (.bool true) ∧ Below w.heap.size w w' := by
  have HT := hidE ht
  have HAW := hidE (tc_awake w ht)
  obtain ⟨hnt, hdt, hst, hlt⟩ := parse_nm _ _ hp
  obtain ⟨hnu, hdu, hsu, hlu⟩ := parse_nm _ _ hq
  have HP := hidE (fun w => tc_parseOk s t hp w hs)
  have HQ := hidE (fun w => tc_parseOk r u hq w hr)
  have hss : s.data.toList.length = s.size := Array.length_toList
  have hrr : r.data.toList.length = r.size := Array.length_toList
  clear ht hp hq hs hr
  by_cases c1 : s.size ≤ 400
  · by_cases c2 : r.size ≤ 400
    · have g1 : ¬ (400 : Int) < (s.size : Int) := by omega
      have g2 : ¬ (400 : Int) < (r.size : Int) := by omega
      have hst' : t.size ≤ 400 := by omega
      have hsu' : u.size ≤ 400 := by omega
      have hz : (putT (isPV x.data.toList) t u).size ≤ 1000000 := Nat.le_trans (size_putT _ _ _) (Nat.le_trans (Nat.mul_le_mul hst' hsu') (by decide))
      have hdp := depth_put x.data.toList t u (by omega) (by omega)
      obtain ⟨a, ha⟩ : ∃ a, t.depth = a := ⟨_, rfl⟩
      obtain ⟨b, hb⟩ : ∃ b, u.depth = b := ⟨_, rfl⟩
      obtain ⟨d, hd⟩ : ∃ d, (putT (isPV x.data.toList) t u).depth = d := ⟨_, rfl⟩
      rw [ha, hb, hd] at hdp
      rw [ha] at hdt
      rw [hb] at hdu
      have k1 : (a : Int) ≤ (d : Int) := by omega
      have k2 : (d : Int) < (a : Int) + (b : Int) := by omega
      obtain ⟨P, hP⟩ : ∃ P : ByteArray, ⟨t.print.toArray⟩ = P := ⟨_, rfl⟩
      obtain ⟨C, hC⟩ : ∃ C : ByteArray, ⟨t.canonT.print.toArray⟩ = C := ⟨_, rfl⟩
      obtain ⟨q, hq⟩ : ∃ q, t.poly = q := ⟨_, rfl⟩
      have hpc : q = false → P = C := fun h => by rw [← hP, ← hC, canon_mono t (by rw [hq, h])]
      have HPC := hidE hpc
      have HDA := hidE ha
      have HDB := hidE hb
      have HDD := hidE hd
      have HPP := hidE hP
      have HCC := hidE hC
      have HPO := hidE hq
      have HNT := hidE hnt
      have HNU := hidE hnu
      have HST := hidE hst'
      have HSU := hidE hsu'
      have HZ := hidE hz
      clear hpc ha hb hd hP hC hq hnt hnu hst hsu hst' hsu' hlt hlu hss hrr hz
      go_enter Tryz.func9, Tryz.ntmps9
      go_wp2_with fail
      refine HAW.out.mono ?_
      rintro e w1 ⟨rfl, b1⟩
      have B1 := hidE b1
      clear b1 HAW
      go_wp2_with fail
      refine (HP.out w1).mono ?_
      rintro e w2 ⟨K, X, Z, A, m, c, rfl, hr, b2⟩
      obtain ⟨V2, hV2⟩ : ∃ V, w2.alloc (.cells #[.int .i64 K, .string X, .int .i64 Z, .slice A m c] 25) = V := ⟨_, rfl⟩
      have hbt := Bx.made hr
      have hb2 := (B1.out.trans (b2.mono B1.out.size)).alloc (Nat.le_trans B1.out.size b2.size) (.cells #[.int .i64 K, .string X, .int .i64 Z, .slice A m c] 25)
      rw [hV2] at hbt hb2
      have BT := hidE hbt
      have B2 := hidE hb2
      clear b2 hr hbt hb2 HP
      go_wp2_with fail
      refine (HQ.out V2).mono ?_
      rintro e w3 ⟨K3, X3, Z3, A3, m3, c3, rfl, hr, b3⟩
      obtain ⟨V3, hV3⟩ : ∃ V, w3.alloc (.cells #[.int .i64 K3, .string X3, .int .i64 Z3, .slice A3 m3 c3] 25) = V := ⟨_, rfl⟩
      have h3 := b3.alloc b3.size (.cells #[.int .i64 K3, .string X3, .int .i64 Z3, .slice A3 m3 c3] 25)
      have hbu := Bx.made hr
      rw [hV3] at h3 hbu
      have BU := hidE hbu
      have BT3 := hidE (BT.out.below h3)
      have B3 : Hid (Below w.heap.size w V3) := hidE (B2.out.trans (h3.mono B2.out.size))
      obtain ⟨x0, x1, x2, x3⟩ := BT3.out.cells
      have HDE := hidE (BT3.out.depth (by have := HST.out; omega))
      rw [HDA.out] at HDE
      clear b3 h3 hr hbu HQ BT
      go_wp2_with fail
      refine HDE.out.mono ?_
      rintro e w4 ⟨rfl, b4⟩
      have BT4 := hidE (BT3.out.below b4)
      have BU4 := hidE (BU.out.below b4)
      have B4 : Hid (Below w.heap.size w w4) := hidE (B3.out.trans (b4.mono B3.out.size))
      obtain ⟨y0, y1, y2, y3⟩ := BU4.out.cells
      have HDF := hidE (BU4.out.depth (by have := HSU.out; omega))
      rw [HDB.out] at HDF
      clear b4 HDE BT3 BU
      go_wp2_with fail
      refine HDF.out.mono ?_
      rintro e w5 ⟨rfl, b5⟩
      have BT5 := hidE (BT4.out.below b5)
      have BU5 := hidE (BU4.out.below b5)
      have B5 : Hid (Below w.heap.size w w5) := hidE (B4.out.trans (b5.mono B4.out.size))
      obtain ⟨z0, z1, z2, z3⟩ := BT5.out.cells
      obtain ⟨u0, u1, u2, u3⟩ := BU5.out.cells
      have HPU := hidE (rd_put BT5.out.rd BU5.out.rd BT5.out.lt BU5.out.lt HNT.out HNU.out (by have := HST.out; omega) (by have := HSU.out; omega) (HT.out.below B5.out) x)
      clear b5 HDF BT4 BU4
      go_wp2_with fail
      refine HPU.out.mono ?_
      rintro e w6 ⟨K6, X6, Z6, A6, m6, c6, rfl, hr, b6⟩
      have BT6 := hidE (BT5.out.below b6)
      have B6 : Hid (Below w.heap.size w w6) := hidE (B5.out.trans (b6.mono B5.out.size))
      have HDG := hidE (tc_depth 1000000 _ _ _ w6 HZ.out (Nat.le_refl _) hr (fun _ h => h))
      rw [HDD.out] at HDG
      clear b6 hr HPU BT5 BU5
      go_wp2_with fail
      refine HDG.out.mono ?_
      rintro e w7 ⟨rfl, b7⟩
      have BT7 := hidE (BT6.out.below b7)
      have B7 : Hid (Below w.heap.size w w7) := hidE (B6.out.trans (b7.mono B6.out.size))
      obtain ⟨p0, p1, p2, p3⟩ := BT7.out.cells
      have HPY := hidE (tc_poly t _ _ w7 (by have := HST.out; omega) BT7.out.rd BT7.out.lt')
      rw [HPO.out] at HPY
      clear b7 HDG BT6
      go_wp2_with fail
      refine HPY.out.mono ?_
      rintro e w8 ⟨rfl, b8⟩
      have BT8 := hidE (BT7.out.below b8)
      have B8 : Hid (Below w.heap.size w w8) := hidE (B7.out.trans (b8.mono B7.out.size))
      obtain ⟨q0, q1, q2, q3⟩ := BT8.out.cells
      have HPR := hidE (BT8.out.print HNT.out (by have := HST.out; omega) (HT.out.below B8.out))
      rw [HPP.out] at HPR
      clear b8 HPY BT7
      go_wp2_with fail
      refine HPR.out.mono ?_
      rintro e w9 ⟨rfl, b9⟩
      have BT9 := hidE (BT8.out.below b9)
      have B9 : Hid (Below w.heap.size w w9) := hidE (B8.out.trans (b9.mono B8.out.size))
      obtain ⟨v0, v1, v2, v3⟩ := BT9.out.cells
      have HCA := hidE (BT9.out.canon HNT.out (by have := HST.out; omega) (HT.out.below B9.out))
      rw [HCC.out] at HCA
      clear b9 HPR BT8
      go_wp2_with fail
      refine HCA.out.mono ?_
      rintro e w10 ⟨rfl, b10⟩
      have B10 : Hid (Below w.heap.size w w10) := hidE (B9.out.trans (b10.mono B9.out.size))
      clear b10 HCA BT9
      cases q with
      | true =>
        go_wp2_with fail
        go_ret
        exact ⟨rfl, B10.out⟩
      | false =>
        obtain rfl := HPC.out rfl
        go_wp2_with fail
        go_ret
        exact ⟨rfl, B10.out⟩
    · have g1 : ¬ (400 : Int) < (s.size : Int) := by omega
      have g2 : (400 : Int) < (r.size : Int) := by omega
      clear hnt hnu hst hsu hlt hlu hss hrr hdt hdu c1 c2
      go_enter Tryz.func9, Tryz.ntmps9
      go_wp2_with fail
      refine HAW.out.mono ?_
      rintro e w1 ⟨rfl, b1⟩
      have B1 := hidE b1
      clear b1 HAW
      go_wp2_with fail
      refine (HP.out w1).mono ?_
      rintro e w2 ⟨K, X, Z, A, m, c, rfl, -, b2⟩
      have B2 := hidE ((B1.out.trans (b2.mono B1.out.size)).alloc (Nat.le_trans B1.out.size b2.size) (.cells #[.int .i64 K, .string X, .int .i64 Z, .slice A m c] 25))
      clear b2 HP
      go_wp2_with fail
      refine (HQ.out _).mono ?_
      rintro e w3 ⟨K3, X3, Z3, A3, m3, c3, rfl, -, b3⟩
      have B3 := hidE ((B2.out.trans (b3.mono B2.out.size)).alloc (Nat.le_trans B2.out.size b3.size) (.cells #[.int .i64 K3, .string X3, .int .i64 Z3, .slice A3 m3 c3] 25))
      clear b3 HQ
      go_wp2_with fail
      go_ret
      exact ⟨rfl, B3.out⟩
  · have g1 : (400 : Int) < (s.size : Int) := by omega
    clear hnt hnu hst hsu hlt hlu hss hrr hdt hdu c1
    go_enter Tryz.func9, Tryz.ntmps9
    go_wp2_with fail
    refine HAW.out.mono ?_
    rintro e w1 ⟨rfl, b1⟩
    have B1 := hidE b1
    clear b1 HAW
    go_wp2_with fail
    refine (HP.out w1).mono ?_
    rintro e w2 ⟨K, X, Z, A, m, c, rfl, -, b2⟩
    have B2 := hidE ((B1.out.trans (b2.mono B1.out.size)).alloc (Nat.le_trans B1.out.size b2.size) (.cells #[.int .i64 K, .string X, .int .i64 Z, .slice A m c] 25))
    clear b2 HP
    go_wp2_with fail
    refine (HQ.out _).mono ?_
    rintro e w3 ⟨K3, X3, Z3, A3, m3, c3, rfl, -, b3⟩
    have B3 := hidE ((B2.out.trans (b3.mono B2.out.size)).alloc (Nat.le_trans B2.out.size b3.size) (.cells #[.int .i64 K3, .string X3, .int .i64 Z3, .slice A3 m3 c3] 25))
    clear b3 HQ
    go_wp2_with fail
    go_ret
    exact ⟨rfl, B3.out⟩

theorem walk (s r x : ByteArray) (w : World) (ht : Tab w) (hs : s.size ≤ maxLen) (hr : r.size ≤ maxLen) (_ : x.size ≤ maxLen) :
    Calls Tryz.prog 9 #[.string s, .string r, .string x] w fun e w' => e = .returned (.bool true) ∧ Below w.heap.size w w' := by
  cases hp : parse s.data.toList with
  | error n => exact walk_no s r x w ht hs hr (.inl ⟨n, hp⟩)
  | ok t =>
    cases hq : parse r.data.toList with
    | error n => exact walk_no s r x w ht hs hr (.inr ⟨⟨t, hp⟩, n, hq⟩)
    | ok u => exact walk_yes s r x t u hp hq w ht hs hr

/-! ### the row's step -/
theorem lifted (os : Os) (started : os.Started) (H : Type) (enc : TypeId × Value → H) :
    ReturnsInHanded {} Tryz.checked os 9 .any (fun w args => (Rows.typesDeeperSpec.pre enc Tryz.prog Tryz.f9 Rows.typesDeeperRow.domain false w args ∧ laidMetH Tryz.prog theLaid w) ∧ sizedMet enc Tryz.prog Tryz.f9 (OpenSpec.ofChange Rows.typesDeeperSpec) false w args)
      (Rows.typesDeeperSpec.post enc Tryz.prog Tryz.f9 false true false false) := by
  refine returnsInHanded_of_change_and (C := Tryz.checked) (X := fun w _ => laidMetH Tryz.prog theLaid w) (fun _ _ _ hh h => h.of_heap hh) ownK started (by kernel_rfl) Tryz.func9
    (ChangeSpec.witness_shaped (enc := enc) (C := Tryz.checked) (os := os) (X := fun w _ => laidMetH Tryz.prog theLaid w) false (World.laidAll Tryz.prog os theLaid) #[.string ⟨#[]⟩, .string ⟨#[]⟩, .string ⟨#[]⟩] 8 (World.laidAll_os _ _ _)
      (start_shaped os) (by kernel_rfl) (by kernel_rfl) (by kernel_rfl)
      (start_met os _)) ?_
  intro W base args ds gs before hval0 hW hc _ hL _
  have hval : ∀ (j : Nat) t v, Tryz.f9.params[j]? = some t → args[j]? = some v → Value.okWide Tryz.prog W .any base t v := hval0
  have hW' := hW
  obtain ⟨p, q, hA0, hV, rfl, _, _⟩ := hW
  have hA : DataW.TrodAll enc Tryz.prog W 0 (fun _ => true) true Tryz.f9.params.toList args.toList ds p := hA0
  rw [Tryz.params9] at hA hval
  obtain ⟨v0, vs0, d0, ds0, p0, q0, hg0, rfl, rfl, h0, r0⟩ := trodAll_cons hA
  obtain ⟨v1, vs1, d1, ds1, p1, q1, hg1, rfl, rfl, h1, r1⟩ := trodAll_cons r0
  obtain ⟨v2, vs2, d2, ds2, p2, q2, hg2, rfl, rfl, h2, r2⟩ := trodAll_cons r1
  obtain ⟨rfl, rfl, rfl⟩ := trodAll_nil r2
  subst hg2
  subst hg1
  obtain rfl : args = #[v0, v1, v2] := by cases args; simp_all
  obtain ⟨rfl, rfl⟩ := trodVars_none hV
  obtain ⟨a0, rfl, rfl, rfl, w0⟩ := open_string Tryz.underlying9 (hval 0 9 v0 rfl rfl) h0
  obtain ⟨a1, rfl, rfl, rfl, w1⟩ := open_string Tryz.underlying9 (hval 1 9 v1 rfl rfl) h1
  obtain ⟨a2, rfl, rfl, rfl, w2⟩ := open_string Tryz.underlying9 (hval 2 9 v2 rfl rfl) h2
  clear hA0 hval0
  simp only [List.append_nil] at hW'
  refine (walk a0 a1 a2 W (tab_of_laid hL) w0 w1 w2).mono fun e W' ⟨he, hg⟩ => ?_
  subst he
  exact ⟨_, rfl, _, _, _, [], [], [], hW', trodAll_cons_mk (shut_bool Tryz.underlying4 _) trodAll_mk0, (trodAll_cons_mk (shut_string Tryz.underlying9 w0) (trodAll_cons_mk (shut_string Tryz.underlying9 w1) (trodAll_cons_mk (shut_string Tryz.underlying9 w2) trodAll_mk0))), rfl, hg.frame _, fun h => by cases h⟩

theorem over : Rows.typesDeeperRow.holds Tryz.pinned (OpenSpec.ofChange Rows.typesDeeperSpec) :=
  OpenClaim.holds_of_wide 9 Tryz.f9 rfl rfl rfl rfl rfl rfl rfl ⟨rfl, rfl, rfl, rfl, rfl⟩ rfl rfl rfl rfl rfl (by kernel_rfl) Tryz.func9 (by kernel_rfl)
    (of_decide_eq_true (by kernel_rfl)) (by unfold Func.isWrapper; first | (rw [if_pos (by decide +kernel)]; kernel_rfl) | (rw [if_neg (by decide +kernel)]; exact ⟨rfl, rfl⟩))
    (fun os started H enc _ => lifted os started H enc)

/-- the statement: the tied card -/
theorem proved : Rows.TypesDeeperCardSaid :=
  Claim7.holds_tied_plain_at .later [] [.data, .data, .data, .sentinel, .sentinel] true _ true
    over (fun _ h => by cases h) (by kernel_rfl) (fun _ h => by cases h) typesDeeper_row_tie rfl ⟨rfl, rfl⟩ (by kernel_rfl) rfl
    (fun f fn hf hfn => by
      obtain rfl : f = 9 := Option.some.inj ((show Tryz.prog.funcNamed "savant/savantlaw02.TypesDeeper" = some 9 by kernel_rfl).symm.trans hf) |>.symm
      obtain rfl : fn = Tryz.f9 := (Option.some.inj (Tryz.func9.symm.trans hfn)).symm
      exact ⟨by kernel_rfl, fun j t ht => by
        rw [Tryz.params9] at ht
        have hm : t ∈ [9, 9, 9] := by
          simpa using Array.mem_of_getElem? ht
        have hall : ([9, 9, 9].all fun u => !Tryz.prog.wantsStandIn u) = true := by kernel_rfl
        exact (show Tryz.prog.wantsStandIn t = false by simpa using List.all_eq_true.1 hall t hm)⟩)
    (by kernel_rfl)
#print axioms proved
end Go.Proofs.YtnpklimlggffjaaGreatDoor.typesDeeper
