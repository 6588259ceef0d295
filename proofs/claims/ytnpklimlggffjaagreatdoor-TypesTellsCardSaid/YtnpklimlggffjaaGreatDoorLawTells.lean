/-
  savantlaw02.TypesTells, whatever the text: it answers true, and the text is as it was. The card ties the library's tables to the program's text.
-/
import Derived.Test.YtnpklimlggffjaaGreatDoorBuX
import Derived.Test.YtnpklimlggffjaaGreatDoorBvA
import Derived.Test.YtnpklimlggffjaaGreatDoorByA
import Derived.Test.YtnpklimlggffjaaGreatDoorByB
import Derived.Test.YtnpklimlggffjaaGreatDoorCards
import Derived.Test.YtnpklimlggffjaaGreatDoorTie
import Derived.SevenTiedAt
import Derived.Deep.Cut
import Derived.Deep.CutRange
namespace Go.Proofs.YtnpklimlggffjaaGreatDoor.typesTells
open Go.ChangeShapes Go.WideShapes Go.ChangeAt Go.RowKit Lx Tx Go.Shelf
open Go.ChangeMaps (open_string shut_string)
set_option maxRecDepth 100000

theorem ref2_parseOk (s : ByteArray) (t : Ty) (h : parse s.data.toList = .ok t) (w : World) (hs : s.size ≤ maxLen) : Calls Tryz.prog 14 #[.string s] w (OkPst t w) := by
  refine (ref2_parse s w hs).mono ?_
  rintro e w' ⟨hb, K, X, Z, A, m, c, ⟨n, h0, hp, -⟩ | ⟨u, hp, he, hr⟩⟩
  · rw [h] at hp; cases hp
  · rw [h] at hp
    injection hp with hp
    subst hp
    exact ⟨K, X, Z, A, m, c, he, hr.keep (fun g hg => hg.2) (fun _ _ => rfl), hb⟩
theorem ref2_parseN (s : ByteArray) (w : World) (hs : s.size ≤ maxLen) : Calls Tryz.prog 14 #[.string s] w (AnyPst (errN s.data.toList) w) := by
  refine (ref2_parse s w hs).mono ?_
  rintro e w' ⟨hb, K, X, Z, A, m, c, ⟨n, h0, hp, he⟩ | ⟨u, hp, he, hr⟩⟩
  · refine ⟨K, X, Z, A, m, c, ?_, hb⟩
    unfold errN
    rw [hp]
    exact he
  · refine ⟨K, X, Z, A, m, c, ?_, hb⟩
    unfold errN
    rw [hp]
    exact he

set_option maxHeartbeats 1600000 in
/-- where the law asks nothing -/
theorem walk_no (s : ByteArray) (w : World) (ht : Tab w) (hs : s.size ≤ maxLen) (h : ¬ errN s.data.toList = 0) :
    Calls Tryz.prog 4 #[.string s] w fun e w' => e = .returned (.bool true) ∧ Below w.heap.size w w' := by
  have HAW := hidE (tc_awake w ht)
  have HP := hidE (fun w => tc_parseN s w hs)
  have HR := hidE (fun w => ref2_parseN s w hs)
  obtain ⟨n1, hn1⟩ : ∃ n, errN s.data.toList = n := ⟨_, rfl⟩
  rw [hn1] at HP HR h
  have e1 : ((n1 : Int) == 0) = false := kF n1 0 h
  clear ht hs hn1 h
  go_enter Tryz.func4, Tryz.ntmps4
  go_wp2_with fail
  refine HAW.out.mono ?_
  rintro e w1 ⟨rfl, b1⟩
  have B1 := hidE b1
  clear b1 HAW
  go_wp2_with fail
  refine (HP.out w1).mono ?_
  rintro e w2 ⟨K, X, Z, A, m, c, rfl, b2⟩
  have B2 := hidE ((B1.out.trans (b2.mono B1.out.size)).alloc (Nat.le_trans B1.out.size b2.size) (.cells #[.int .i64 K, .string X, .int .i64 Z, .slice A m c] 25))
  clear b2 HP
  go_wp2_with fail
  refine (HR.out _).mono ?_
  rintro e w3 ⟨K3, X3, Z3, A3, m3, c3, rfl, b3⟩
  have B3 := hidE ((B2.out.trans (b3.mono B2.out.size)).alloc (Nat.le_trans B2.out.size b3.size) (.cells #[.int .i64 K3, .string X3, .int .i64 Z3, .slice A3 m3 c3] 31))
  clear b3 HR
  go_wp2_with fail
  go_ret
  exact ⟨rfl, B3.out⟩

theorem metas_short (t : Ty) (h : t.size ≤ 1000000) : t.metas.length ≤ 1000000 := by
  have key : ∀ (l : List Nat) (n : Nat), (addN n l).length ≤ l.length + 1 := fun l n => by unfold addN; split <;> simp
  have hm : ∀ (n : Nat) (t : Ty), t.size ≤ n → ∀ out, (t.metasO out).length ≤ out.length + t.size := by
    intro n
    induction n with
    | zero => intro t h; rw [size_kids] at h; omega
    | succ n ih =>
      have hL : ∀ (l : List Ty), (∀ u ∈ l, u.size ≤ n) → ∀ out, (metasOL l out).length ≤ out.length + sizeL l := by
        intro l
        induction l with
        | nil => intro _ out; rw [metasOL, sizeL]; omega
        | cons a l ihl =>
          intro hl out
          rw [metasOL, sizeL]
          have h1 := ihl (fun u hu => hl u (List.mem_cons_of_mem _ hu)) (a.metasO out)
          have h2 := ih a (hl a List.mem_cons_self) out
          omega
      intro t h out
      cases t with
      | var x => rw [Ty.metasO]; omega
      | mt k => rw [Ty.metasO, size_kids]; have := key out k; omega
      | con c l =>
        rw [Ty.metasO, size_kids]
        rw [size_kids] at h
        have := hL l (fun u hu => by obtain ⟨i, hi, rfl⟩ := List.mem_iff_getElem.1 hu; have := sizeL_at l i hi; have h : sizeL l + 1 ≤ n + 1 := h; omega) out
        show _ ≤ out.length + (sizeL l + 1)
        omega
      | fn a b =>
        rw [Ty.metasO, size_kids]
        rw [size_kids] at h
        simp only [kids, sizeL] at h ⊢
        have h1 := ih a (by omega) out
        have h2 := ih b (by omega) (a.metasO out)
        omega
      | all x t =>
        rw [Ty.metasO, size_kids]
        rw [size_kids] at h
        simp only [kids, sizeL] at h ⊢
        have h1 := ih t (by omega) out
        omega
  have := hm t.size t (Nat.le_refl _) []
  unfold Ty.metas
  simp at this
  omega
theorem free_len (t : Ty) (h : t.size ≤ 4000) : t.free.length ≤ 1000000 := by rw [← freeL_eq]; have := freeL_len t; omega

set_option maxHeartbeats 3200000 in
/-- where it asks -/
theorem walk_yes (s : ByteArray) (t : Ty) (hp : parse s.data.toList = .ok t) (w : World) (ht : Tab w) (hs : s.size ≤ maxLen) :
    Calls Tryz.prog 4 #[.string s] w fun e w' => e = .returned (.bool true) ∧ Below w.heap.size w w' := by
  have HAW := hidE (tc_awake w ht)
  obtain ⟨hnt, -, hst, hsl⟩ := parse_nm _ _ hp
  have HP := hidE (fun w => tc_parseOk s t hp w hs)
  have HR := hidE (fun w => ref2_parseOk s t hp w hs)
  have zt : t.size ≤ 4000 := by omega
  have HNT := hidE hnt
  have HZT := hidE zt
  clear ht hp hs hnt hst hsl zt
  go_enter Tryz.func4, Tryz.ntmps4
  go_wp2_with fail
  refine HAW.out.mono ?_
  rintro e w1 ⟨rfl, b1⟩
  have B1 := hidE b1
  clear b1 HAW
  go_wp2_with fail
  refine (HP.out w1).mono ?_
  rintro e w2 ⟨K, X, Z, A, m, c, rfl, hr, b2⟩
  obtain ⟨V2, hV2⟩ : ∃ V, w2.alloc (.cells #[.int .i64 K, .string X, .int .i64 Z, .slice A m c] 25) = V := ⟨_, rfl⟩
  have hbt := Bx.made hr
  have hb2 := (B1.out.trans (b2.mono B1.out.size)).alloc (Nat.le_trans B1.out.size b2.size) (.cells #[.int .i64 K, .string X, .int .i64 Z, .slice A m c] 25)
  rw [hV2] at hbt hb2
  have BT := hidE hbt
  have B2 := hidE hb2
  clear b2 hr hbt hb2 HP
  go_wp2_with fail
  refine (HR.out V2).mono ?_
  rintro e w3 ⟨K3, X3, Z3, A3, m3, c3, rfl, hr, b3⟩
  obtain ⟨V3, hV3⟩ : ∃ V, w3.alloc (.cells #[.int .i64 K3, .string X3, .int .i64 Z3, .slice A3 m3 c3] 31) = V := ⟨_, rfl⟩
  have h3 := b3.alloc b3.size (.cells #[.int .i64 K3, .string X3, .int .i64 Z3, .slice A3 m3 c3] 31)
  have hbk : Blk (w3.alloc (.cells #[.int .i64 K3, .string X3, .int .i64 Z3, .slice A3 m3 c3] 31)) w3.heap.size 31 #[.int .i64 K3, .string X3, .int .i64 Z3, .slice A3 m3 c3] := heap_alloc_new _ _
  have hr4 : RdN w3 t (.agg #[.int .i64 K3, .string X3, .int .i64 Z3, .slice A3 m3 c3]) := hr
  have hr4' := hr4.below ((Below.refl w3.heap.size w3).alloc (Nat.le_refl _) (.cells #[.int .i64 K3, .string X3, .int .i64 Z3, .slice A3 m3 c3] 31))
  rw [hV3] at h3 hbk hr4'
  have BT3 := hidE (BT.out.below h3)
  have BK := hidE hbk
  have RU := hidE hr4'
  have B3 : Hid (Below w.heap.size w V3) := hidE (B2.out.trans (h3.mono B2.out.size))
  have hsz3 : w3.heap.size < V3.heap.size := by rw [← hV3]; simp
  have HS3 := hidE hsz3
  obtain ⟨lf, hlf⟩ : ∃ n, t.free.length = n := ⟨_, rfl⟩
  obtain ⟨lm, hlm⟩ : ∃ n, t.metas.length = n := ⟨_, rfl⟩
  obtain ⟨D, hD⟩ : ∃ d, t.depth = d := ⟨_, rfl⟩
  obtain ⟨Y, hY⟩ : ∃ y, t.poly = y := ⟨_, rfl⟩
  have F1 := hidE (fun W (h : Below V3.heap.size V3 W) => by have := rn_free (BT3.out.rn.below h) HNT.out (by have := HZT.out; omega); unfold FreePst at this; rw [hlf] at this; exact this)
  have F2 := hidE (fun W (h : Below V3.heap.size V3 W) => ref2_free t _ _ W (by have := HZT.out; omega) (RU.out.below h) (fun _ h => h))
  have F3 := hidE (fun W p p' (h : RowV W p (strV t.free)) (h' : RowV W p' (strV t.free)) => by have := tc_namesEq p p' t.free t.free W h h' (free_len t HZT.out); rw [decide_eq_true rfl] at this; exact this)
  have M1 := hidE (fun W (h : Below V3.heap.size V3 W) => by have := rn_mets (BT3.out.rn.below h) HNT.out (by have := HZT.out; omega) V3.heap.size lm h.size hlm; exact this)
  have M2 := hidE (fun W (h : Below V3.heap.size V3 W) => ref2_metas t _ _ W (by have := HZT.out; omega) (RU.out.below h) (fun _ h => h))
  have M3 := hidE (fun W p p' (h : RowV W p (intV t.metas)) (h' : RowV W p' (intV t.metas)) => by have := tc_numbersEq p p' t.metas t.metas W h h' (metas_short t (by have := HZT.out; omega)); rw [decide_eq_true rfl] at this; exact this)
  have D1 := hidE (fun W (h : Below V3.heap.size V3 W) => by have := tc_depth 1000000 t _ _ W (by have := HZT.out; omega) (Nat.le_refl _) (BT3.out.rn.below h) (fun _ h => h); rw [hD] at this; exact this)
  have D2 := hidE (fun W (h : Below V3.heap.size V3 W) => by have := ref2_depth 1000000 t _ _ W (by have := HZT.out; omega) (Nat.le_refl _) (RU.out.below h) (fun _ h => h); rw [hD] at this; exact this)
  have P1 := hidE (fun W (h : Below V3.heap.size V3 W) => by have := tc_poly t _ _ W (by have := HZT.out; omega) (BT3.out.rn.below h) (fun _ h => h); rw [hY] at this; exact this)
  have P2 := hidE (fun W (h : Below V3.heap.size V3 W) => by have := ref2_poly 1000000 t _ _ W (by have := HZT.out; omega) (Nat.le_refl _) (RU.out.below h) (fun _ h => h); rw [hY] at this; exact this)
  have SOF : Hid (∀ W, Below V3.heap.size V3 W → (fun W => W.cell? ⟨w2.heap.size, 0, none⟩ = some (.int .i64 K) ∧ W.cell? ⟨w2.heap.size, 1, none⟩ = some (.string X) ∧ W.cell? ⟨w2.heap.size, 2, none⟩ = some (.int .i64 Z) ∧ W.cell? ⟨w2.heap.size, 3, none⟩ = some (.slice A m c) ∧ W.cell? ⟨w3.heap.size, 0, none⟩ = some (.int .i64 K3) ∧ W.cell? ⟨w3.heap.size, 1, none⟩ = some (.string X3) ∧ W.cell? ⟨w3.heap.size, 2, none⟩ = some (.int .i64 Z3) ∧ W.cell? ⟨w3.heap.size, 3, none⟩ = some (.slice A3 m3 c3)) W) :=
    hidE fun W h => by
      have t1 := (BT3.out.below h).cells
      obtain ⟨a0, a1, a2, a3, -, -, -, -, -⟩ := blk_facts4 (Blk.below BK.out h HS3.out)
      exact ⟨t1.1, t1.2.1, t1.2.2.1, t1.2.2.2, a0, a1, a2, a3⟩
  have B0 : Hid (Below V3.heap.size V3 V3.drew) := hidE (Below.refl _ V3).drew
  clear b3 h3 hr hbk hr4 hr4' HR BT hsz3 hlf hlm hD hY
  go_upto_region 6 with fail
  go_cut [8] from 26 (fun s8 wx => s8 = .bool true ∧ Hid (Below V3.heap.size V3 wx))
  case first =>
    go_region_held3 (fun W => W.cell? ⟨w2.heap.size, 0, none⟩ = some (.int .i64 K) ∧ W.cell? ⟨w2.heap.size, 1, none⟩ = some (.string X) ∧ W.cell? ⟨w2.heap.size, 2, none⟩ = some (.int .i64 Z) ∧ W.cell? ⟨w2.heap.size, 3, none⟩ = some (.slice A m c) ∧ W.cell? ⟨w3.heap.size, 0, none⟩ = some (.int .i64 K3) ∧ W.cell? ⟨w3.heap.size, 1, none⟩ = some (.string X3) ∧ W.cell? ⟨w3.heap.size, 2, none⟩ = some (.int .i64 Z3) ∧ W.cell? ⟨w3.heap.size, 3, none⟩ = some (.slice A3 m3 c3)) (first | (with_reducible exact SOF.out _ B0.out))
      ((first
        | ((with_reducible refine (F1.out _ B0.out).mono ?_); rintro e w9 ⟨a9, q9, rfl, hr9, b9⟩; (try replace R2 := hidE (R2.out.below b9)); have R1 := hidE hr9; replace B0 := hidE (below_tr B0.out b9); clear hr9 b9)
        | ((with_reducible refine (F2.out _ B0.out).mono ?_); rintro e w9 ⟨v9, rfl, hr9, b9⟩; (try replace R1 := hidE (R1.out.below b9)); have R2 := hidE hr9.1; replace B0 := hidE (below_tr B0.out b9); clear hr9 b9)
        | ((with_reducible refine (F3.out _ _ _ R1.out R2.out).mono ?_); rintro e w9 ⟨rfl, b9⟩; replace B0 := hidE (below_tr B0.out b9); clear R1 R2 b9)))
    all_goals
      go_wp2_with fail
      go_meet
      case rel => exact ⟨rfl, B0⟩
  case rest =>
    obtain ⟨rfl, b6⟩ := hcut
    replace B0 : Hid (Below V3.heap.size V3 wc.drew) := hidE b6.out.drew
    clear b6 F1 F2 F3
    go_upto_region 7 with fail
    go_cut [9] from 26 (fun s9 wx => s9 = .bool true ∧ Hid (Below V3.heap.size V3 wx))
    case first =>
      go_region_held3 (fun W => W.cell? ⟨w2.heap.size, 0, none⟩ = some (.int .i64 K) ∧ W.cell? ⟨w2.heap.size, 1, none⟩ = some (.string X) ∧ W.cell? ⟨w2.heap.size, 2, none⟩ = some (.int .i64 Z) ∧ W.cell? ⟨w2.heap.size, 3, none⟩ = some (.slice A m c) ∧ W.cell? ⟨w3.heap.size, 0, none⟩ = some (.int .i64 K3) ∧ W.cell? ⟨w3.heap.size, 1, none⟩ = some (.string X3) ∧ W.cell? ⟨w3.heap.size, 2, none⟩ = some (.int .i64 Z3) ∧ W.cell? ⟨w3.heap.size, 3, none⟩ = some (.slice A3 m3 c3)) (first | (with_reducible exact SOF.out _ B0.out))
        ((first
          | ((with_reducible refine (M1.out _ B0.out).mono ?_); rintro e w9 ⟨a9, q9, rfl, hr9, b9⟩; (try replace R2 := hidE (R2.out.below b9)); have R1 := hidE (RowV.of_own hr9.1); replace B0 := hidE (below_tr B0.out b9); clear hr9 b9)
          | ((with_reducible refine (M2.out _ B0.out).mono ?_); rintro e w9 ⟨v9, rfl, hr9, b9⟩; (try replace R1 := hidE (R1.out.below b9)); have R2 := hidE hr9.1; replace B0 := hidE (below_tr B0.out b9); clear hr9 b9)
          | ((with_reducible refine (M3.out _ _ _ R1.out R2.out).mono ?_); rintro e w9 ⟨rfl, b9⟩; replace B0 := hidE (below_tr B0.out b9); clear R1 R2 b9)))
      all_goals
        go_wp2_with fail
        go_meet
        case rel => exact ⟨rfl, B0⟩
    case rest =>
      obtain ⟨rfl, b7⟩ := hcut
      obtain ⟨x0, x1, x2, x3, y0, y1, y2, y3⟩ := SOF.out _ b7.out
      clear M1 M2 M3 y0 y1 y2 y3 B0
      have E1 := hidE (D1.out _ b7.out)
      go_wp2_with fail
      refine E1.out.mono ?_
      rintro e w8 ⟨rfl, b8⟩
      have B8 := hidE (below_tr b7.out b8)
      clear x0 x1 x2 x3 b8 E1 D1
      obtain ⟨x0, x1, x2, x3, y0, y1, y2, y3⟩ := SOF.out _ B8.out
      have E2 := hidE (P1.out _ B8.out)
      clear y0 y1 y2 y3 P1
      go_wp2_with fail
      refine E2.out.mono ?_
      rintro e w9 ⟨rfl, b9⟩
      have B9 := hidE (below_tr B8.out b9)
      clear x0 x1 x2 x3 b9 E2
      obtain ⟨x0, x1, x2, x3, y0, y1, y2, y3⟩ := SOF.out _ B9.out
      have E3 := hidE (D2.out _ B9.out)
      have e3 : ((D : Int) == (D : Int)) = true := by simp
      have e4 : (Y == Y) = true := by simp
      clear x0 x1 x2 x3 D2
      go_wp2_with fail
      refine E3.out.mono ?_
      rintro e w10 ⟨rfl, b10⟩
      have B10 := hidE (below_tr B9.out b10)
      clear y0 y1 y2 y3 b10 E3
      obtain ⟨x0, x1, x2, x3, y0, y1, y2, y3⟩ := SOF.out _ B10.out
      have E4 := hidE (P2.out _ B10.out)
      clear x0 x1 x2 x3
      go_wp2_with fail
      refine E4.out.mono ?_
      rintro e w11 ⟨rfl, b11⟩
      have B11 := hidE (below_tr B10.out b11)
      clear y0 y1 y2 y3 b11 E4
      go_wp2_with fail
      go_ret
      exact ⟨rfl, B3.out.trans (B11.out.mono B3.out.size)⟩

theorem walk (s : ByteArray) (w : World) (ht : Tab w) (hs : s.size ≤ maxLen) :
    Calls Tryz.prog 4 #[.string s] w fun e w' => e = .returned (.bool true) ∧ Below w.heap.size w w' := by
  by_cases h : errN s.data.toList = 0
  · obtain ⟨t, e1⟩ := errN_zero h
    exact walk_yes s t e1 w ht hs
  · exact walk_no s w ht hs h

/-! ### the row's step -/
theorem lifted (os : Os) (started : os.Started) (H : Type) (enc : TypeId × Value → H) :
    ReturnsInHanded {} Tryz.checked os 4 .any (fun w args => (Rows.typesTellsSpec.pre enc Tryz.prog Tryz.f4 Rows.typesTellsRow.domain false w args ∧ laidMetH Tryz.prog theLaid w) ∧ sizedMet enc Tryz.prog Tryz.f4 (OpenSpec.ofChange Rows.typesTellsSpec) false w args)
      (Rows.typesTellsSpec.post enc Tryz.prog Tryz.f4 false true false false) := by
  refine returnsInHanded_of_change_and (C := Tryz.checked) (X := fun w _ => laidMetH Tryz.prog theLaid w) (fun _ _ _ hh h => h.of_heap hh) ownK started (by kernel_rfl) Tryz.func4
    (ChangeSpec.witness_shaped (enc := enc) (C := Tryz.checked) (os := os) (X := fun w _ => laidMetH Tryz.prog theLaid w) false (World.laidAll Tryz.prog os theLaid) #[.string ⟨#[]⟩] 8 (World.laidAll_os _ _ _)
      (start_shaped os) (by kernel_rfl) (by kernel_rfl) (by kernel_rfl)
      (start_met os _)) ?_
  intro W base args ds gs before hval0 hW hc _ hL _
  have hval : ∀ (j : Nat) t v, Tryz.f4.params[j]? = some t → args[j]? = some v → Value.okWide Tryz.prog W .any base t v := hval0
  have hW' := hW
  obtain ⟨p, q, hA0, hV, rfl, _, _⟩ := hW
  have hA : DataW.TrodAll enc Tryz.prog W 0 (fun _ => true) true Tryz.f4.params.toList args.toList ds p := hA0
  rw [Tryz.params4] at hA hval
  obtain ⟨v0, vs0, d0, ds0, p0, q0, hg0, rfl, rfl, h0, r0⟩ := trodAll_cons hA
  obtain ⟨rfl, rfl, rfl⟩ := trodAll_nil r0
  obtain rfl : args = #[v0] := by cases args; simp_all
  obtain ⟨rfl, rfl⟩ := trodVars_none hV
  obtain ⟨a0, rfl, rfl, rfl, w0⟩ := open_string Tryz.underlying9 (hval 0 9 v0 rfl rfl) h0
  clear hA0 hval0
  simp only [List.append_nil] at hW'
  refine (walk a0 W (tab_of_laid hL) w0).mono fun e W' ⟨he, hg⟩ => ?_
  subst he
  exact ⟨_, rfl, _, _, _, [], [], [], hW', trodAll_cons_mk (shut_bool Tryz.underlying4 _) trodAll_mk0, (trodAll_cons_mk (shut_string Tryz.underlying9 w0) trodAll_mk0), rfl, hg.frame _, fun h => by cases h⟩

theorem over : Rows.typesTellsRow.holds Tryz.pinned (OpenSpec.ofChange Rows.typesTellsSpec) :=
  OpenClaim.holds_of_wide 4 Tryz.f4 rfl rfl rfl rfl rfl rfl rfl ⟨rfl, rfl, rfl, rfl, rfl⟩ rfl rfl rfl rfl rfl (by kernel_rfl) Tryz.func4 (by kernel_rfl)
    (of_decide_eq_true (by kernel_rfl)) (by unfold Func.isWrapper; first | (rw [if_pos (by decide +kernel)]; kernel_rfl) | (rw [if_neg (by decide +kernel)]; exact ⟨rfl, rfl⟩))
    (fun os started H enc _ => lifted os started H enc)

/-- the statement: the tied card -/
theorem proved : Rows.TypesTellsCardSaid :=
  Claim7.holds_tied_plain_at .later [] [.data, .data, .data, .sentinel, .sentinel] true _ true
    over (fun _ h => by cases h) (by kernel_rfl) (fun _ h => by cases h) typesTells_row_tie rfl ⟨rfl, rfl⟩ (by kernel_rfl) rfl
    (fun f fn hf hfn => by
      obtain rfl : f = 4 := Option.some.inj ((show Tryz.prog.funcNamed "savant/savantlaw02.TypesTells" = some 4 by kernel_rfl).symm.trans hf) |>.symm
      obtain rfl : fn = Tryz.f4 := (Option.some.inj (Tryz.func4.symm.trans hfn)).symm
      exact ⟨by kernel_rfl, fun j t ht => by
        rw [Tryz.params4] at ht
        have hm : t ∈ [9] := by
          simpa using Array.mem_of_getElem? ht
        have hall : ([9].all fun u => !Tryz.prog.wantsStandIn u) = true := by kernel_rfl
        exact (show Tryz.prog.wantsStandIn t = false by simpa using List.all_eq_true.1 hall t hm)⟩)
    (by kernel_rfl)
#print axioms proved
end Go.Proofs.YtnpklimlggffjaaGreatDoor.typesTells
