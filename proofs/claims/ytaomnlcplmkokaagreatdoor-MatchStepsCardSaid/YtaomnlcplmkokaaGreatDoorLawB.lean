/-
  savantlaw03.MatchSteps, whatever the three texts: it answers true, and what was handed in is as it was. The card ties the library's tables to the program's text.
-/
import Derived.Test.YtaomnlcplmkokaaGreatDoorBuAF
import Derived.Test.YtaomnlcplmkokaaGreatDoorCards
import Derived.Test.YtaomnlcplmkokaaGreatDoorTie
import Derived.SevenTiedAt
import Derived.Deep.Cut
namespace Go.Proofs.YtaomnlcplmkokaaGreatDoor.matchSteps
open Go.ChangeShapes Go.WideShapes Go.ChangeAt Go.RowKit Lx Tx Go.Shelf
open Go.ChangeMaps (open_string shut_string)
set_option maxRecDepth 100000

set_option maxHeartbeats 12800000 in
theorem walk (a b c : ByteArray) (w : World) (ht : Tab w) (ha : a.size ≤ maxLen) (hb : b.size ≤ maxLen) (hc : c.size ≤ maxLen) : Calls Tryz.prog 6 #[.string a, .string b, .string c] w fun e w' => e = .returned (.bool true) ∧ Below w.heap.size w w' := by
  have HT := hidE ht
  have HAW := hidE (tc_awake w ht)
  have HP1 := hidE (fun w => tc_readAny a w ha)
  have HP2 := hidE (fun w => tc_readAny b w hb)
  have HP3 := hidE (fun w => tc_readAny c w hc)
  clear ht ha hb hc
  go_enter Tryz.func6, Tryz.ntmps6
  go_wp2_with fail
  refine HAW.out.mono ?_
  rintro e wa ⟨rfl, hbb⟩
  have BW : Hid (Below w.heap.size w wa) := hidE hbb
  clear hbb HAW
  go_wp2_with fail
  refine (HP1.out _).mono ?_
  rintro e w1 ⟨K1, X1, Z1, A1, m1, c1, Kr1, Xr1, Zr1, Ar1, mr1, cr1, q1, rfl, b1, hy⟩
  obtain ⟨V1, hV1⟩ : ∃ V, (w1.alloc (.cells #[.int .i64 K1, .string X1, .int .i64 Z1, .slice A1 m1 c1] 26)).alloc (.cells #[.int .i64 Kr1, .string Xr1, .int .i64 Zr1, .slice Ar1 mr1 cr1] 29) = V := ⟨_, rfl⟩
  have hbk : Blk ((w1.alloc (.cells #[.int .i64 K1, .string X1, .int .i64 Z1, .slice A1 m1 c1] 26)).alloc (.cells #[.int .i64 Kr1, .string Xr1, .int .i64 Zr1, .slice Ar1 mr1 cr1] 29)) w1.heap.size 26 #[.int .i64 K1, .string X1, .int .i64 Z1, .slice A1 m1 c1] := Blk.below (heap_alloc_new w1 _) ((Below.refl _ _).alloc (Nat.le_refl _) _) (by simp)
  have hba : Below w1.heap.size w1 ((w1.alloc (.cells #[.int .i64 K1, .string X1, .int .i64 Z1, .slice A1 m1 c1] 26)).alloc (.cells #[.int .i64 Kr1, .string Xr1, .int .i64 Zr1, .slice Ar1 mr1 cr1] 29)) := ((Below.refl _ w1).alloc (Nat.le_refl _) _).alloc (by rw [size_alloc]; exact Nat.le_succ _) _
  have hri : RdIf a q1 ((w1.alloc (.cells #[.int .i64 K1, .string X1, .int .i64 Z1, .slice A1 m1 c1] 26)).alloc (.cells #[.int .i64 Kr1, .string Xr1, .int .i64 Zr1, .slice Ar1 mr1 cr1] 29)) (.agg #[.int .i64 K1, .string X1, .int .i64 Z1, .slice A1 m1 c1]) := fun hq => by
    obtain ⟨t, h1, h2, -⟩ := hy hq
    exact ⟨t, h1, h2.below hba⟩
  have hbb : Below wa.heap.size wa ((w1.alloc (.cells #[.int .i64 K1, .string X1, .int .i64 Z1, .slice A1 m1 c1] 26)).alloc (.cells #[.int .i64 Kr1, .string Xr1, .int .i64 Zr1, .slice Ar1 mr1 cr1] 29)) := b1.trans (hba.mono b1.size)
  rw [hV1] at hbk hri hbb
  replace BW : Hid (Below w.heap.size w V1) := hidE (BW.out.trans (hbb.mono BW.out.size))
  have BK1 := hidE hbk
  have RI1 := hidE hri
  have HV := hidE hV1
  clear hbk hba hri hbb hy b1 hV1 HP1
  go_upto_region 3 with fail
  rw [HV.out]
  clear HV
  go_wp2_with fail
  refine (HP2.out _).mono ?_
  rintro e w2 ⟨K2, X2, Z2, A2, m2, c2, Kr2, Xr2, Zr2, Ar2, mr2, cr2, q2, rfl, b2, hy⟩
  obtain ⟨V2, hV2⟩ : ∃ V, (w2.alloc (.cells #[.int .i64 K2, .string X2, .int .i64 Z2, .slice A2 m2 c2] 26)).alloc (.cells #[.int .i64 Kr2, .string Xr2, .int .i64 Zr2, .slice Ar2 mr2 cr2] 29) = V := ⟨_, rfl⟩
  have hbk : Blk ((w2.alloc (.cells #[.int .i64 K2, .string X2, .int .i64 Z2, .slice A2 m2 c2] 26)).alloc (.cells #[.int .i64 Kr2, .string Xr2, .int .i64 Zr2, .slice Ar2 mr2 cr2] 29)) w2.heap.size 26 #[.int .i64 K2, .string X2, .int .i64 Z2, .slice A2 m2 c2] := Blk.below (heap_alloc_new w2 _) ((Below.refl _ _).alloc (Nat.le_refl _) _) (by simp)
  have hba : Below w2.heap.size w2 ((w2.alloc (.cells #[.int .i64 K2, .string X2, .int .i64 Z2, .slice A2 m2 c2] 26)).alloc (.cells #[.int .i64 Kr2, .string Xr2, .int .i64 Zr2, .slice Ar2 mr2 cr2] 29)) := ((Below.refl _ w2).alloc (Nat.le_refl _) _).alloc (by rw [size_alloc]; exact Nat.le_succ _) _
  have hri : RdIf b q2 ((w2.alloc (.cells #[.int .i64 K2, .string X2, .int .i64 Z2, .slice A2 m2 c2] 26)).alloc (.cells #[.int .i64 Kr2, .string Xr2, .int .i64 Zr2, .slice Ar2 mr2 cr2] 29)) (.agg #[.int .i64 K2, .string X2, .int .i64 Z2, .slice A2 m2 c2]) := fun hq => by
    obtain ⟨t, h1, h2, -⟩ := hy hq
    exact ⟨t, h1, h2.below hba⟩
  have hbb : Below V1.heap.size V1 ((w2.alloc (.cells #[.int .i64 K2, .string X2, .int .i64 Z2, .slice A2 m2 c2] 26)).alloc (.cells #[.int .i64 Kr2, .string Xr2, .int .i64 Zr2, .slice Ar2 mr2 cr2] 29)) := b2.trans (hba.mono b2.size)
  rw [hV2] at hbk hri hbb
  replace BW : Hid (Below w.heap.size w V2) := hidE (BW.out.trans (hbb.mono BW.out.size))
  replace BK1 := hidE (BK1.out.below hbb BK1.out.lt)
  replace RI1 := hidE (RI1.out.below hbb)
  have BK2 := hidE hbk
  have RI2 := hidE hri
  have HV := hidE hV2
  clear hbk hba hri hbb hy b2 hV2 HP2
  go_upto_region 4 with fail
  rw [HV.out]
  clear HV
  go_wp2_with fail
  refine (HP3.out _).mono ?_
  rintro e w3 ⟨K3, X3, Z3, A3, m3, c3, Kr3, Xr3, Zr3, Ar3, mr3, cr3, q3, rfl, b3, hy⟩
  obtain ⟨V3, hV3⟩ : ∃ V, (w3.alloc (.cells #[.int .i64 K3, .string X3, .int .i64 Z3, .slice A3 m3 c3] 26)).alloc (.cells #[.int .i64 Kr3, .string Xr3, .int .i64 Zr3, .slice Ar3 mr3 cr3] 29) = V := ⟨_, rfl⟩
  have hbk : Blk ((w3.alloc (.cells #[.int .i64 K3, .string X3, .int .i64 Z3, .slice A3 m3 c3] 26)).alloc (.cells #[.int .i64 Kr3, .string Xr3, .int .i64 Zr3, .slice Ar3 mr3 cr3] 29)) w3.heap.size 26 #[.int .i64 K3, .string X3, .int .i64 Z3, .slice A3 m3 c3] := Blk.below (heap_alloc_new w3 _) ((Below.refl _ _).alloc (Nat.le_refl _) _) (by simp)
  have hba : Below w3.heap.size w3 ((w3.alloc (.cells #[.int .i64 K3, .string X3, .int .i64 Z3, .slice A3 m3 c3] 26)).alloc (.cells #[.int .i64 Kr3, .string Xr3, .int .i64 Zr3, .slice Ar3 mr3 cr3] 29)) := ((Below.refl _ w3).alloc (Nat.le_refl _) _).alloc (by rw [size_alloc]; exact Nat.le_succ _) _
  have hri : RdIf c q3 ((w3.alloc (.cells #[.int .i64 K3, .string X3, .int .i64 Z3, .slice A3 m3 c3] 26)).alloc (.cells #[.int .i64 Kr3, .string Xr3, .int .i64 Zr3, .slice Ar3 mr3 cr3] 29)) (.agg #[.int .i64 K3, .string X3, .int .i64 Z3, .slice A3 m3 c3]) := fun hq => by
    obtain ⟨t, h1, h2, -⟩ := hy hq
    exact ⟨t, h1, h2.below hba⟩
  have hbb : Below V2.heap.size V2 ((w3.alloc (.cells #[.int .i64 K3, .string X3, .int .i64 Z3, .slice A3 m3 c3] 26)).alloc (.cells #[.int .i64 Kr3, .string Xr3, .int .i64 Zr3, .slice Ar3 mr3 cr3] 29)) := b3.trans (hba.mono b3.size)
  rw [hV3] at hbk hri hbb
  replace BW : Hid (Below w.heap.size w V3) := hidE (BW.out.trans (hbb.mono BW.out.size))
  replace BK1 := hidE (BK1.out.below hbb BK1.out.lt)
  replace RI1 := hidE (RI1.out.below hbb)
  replace BK2 := hidE (BK2.out.below hbb BK2.out.lt)
  replace RI2 := hidE (RI2.out.below hbb)
  have BK3 := hidE hbk
  have RI3 := hidE hri
  have HV := hidE hV3
  clear hbk hba hri hbb hy b3 hV3 HP3
  go_upto_region 5 with fail
  rw [HV.out]
  clear HV
  by_cases hall : q1 = true ∧ q2 = true ∧ q3 = true
  · obtain ⟨rfl, rfl, rfl⟩ := hall
    obtain ⟨t1, hrt1, hrd1⟩ := RI1.out rfl
    obtain ⟨t2, hrt2, hrd2⟩ := RI2.out rfl
    obtain ⟨t3, hrt3, hrd3⟩ := RI3.out rfl
    obtain ⟨hn1, hz1⟩ := readsTo_facts hrt1
    obtain ⟨hn2, hz2⟩ := readsTo_facts hrt2
    obtain ⟨hn3, hz3⟩ := readsTo_facts hrt3
    have RD1 := hidE hrd1
    have RD2 := hidE hrd2
    have RD3 := hidE hrd3
    have HN1 := hidE hn1
    have HN2 := hidE hn2
    have HN3 := hidE hn3
    have hs1 : t1.size ≤ 1000 := by omega
    have hs2 : t2.size ≤ 1000 := by omega
    have hs3 : t3.size ≤ 1000 := by omega
    clear RI1 RI2 RI3 hrt1 hrt2 hrt3 hrd1 hrd2 hrd3 hn1 hn2 hn3 hz1 hz2 hz3
    obtain ⟨x0, x1, x2, x3⟩ := blk4 BK1.out
    obtain ⟨y0, y1, y2, y3⟩ := blk4 BK2.out
    have HI := hidE (tc_Instance t1 t2 _ _ _ _ V3 (HT.out.below BW.out) RD1.out RD2.out (fun _ h => h) (fun _ h => h) HN1.out HN2.out (by omega) (by omega))
    go_wp2_with fail
    refine HI.out.mono ?_
    rintro e w21 ⟨⟨q21, rfl, hq21⟩, hbb⟩
    replace BW : Hid (Below w.heap.size w w21) := hidE (BW.out.trans (hbb.mono BW.out.size))
    replace BK1 := hidE (BK1.out.below hbb BK1.out.lt)
    replace BK2 := hidE (BK2.out.below hbb BK2.out.lt)
    replace BK3 := hidE (BK3.out.below hbb BK3.out.lt)
    replace RD1 := hidE (RD1.out.below hbb)
    replace RD2 := hidE (RD2.out.below hbb)
    replace RD3 := hidE (RD3.out.below hbb)
    have HQ21 := hidE hq21
    clear hbb hq21 HI x0 x1 x2 x3 y0 y1 y2 y3
    obtain ⟨x0, x1, x2, x3⟩ := blk4 BK2.out
    obtain ⟨y0, y1, y2, y3⟩ := blk4 BK3.out
    have HI := hidE (tc_Instance t2 t3 _ _ _ _ w21 (HT.out.below BW.out) RD2.out RD3.out (fun _ h => h) (fun _ h => h) HN2.out HN3.out (by omega) (by omega))
    go_wp2_with fail
    refine HI.out.mono ?_
    rintro e w22 ⟨⟨q22, rfl, hq22⟩, hbb⟩
    replace BW : Hid (Below w.heap.size w w22) := hidE (BW.out.trans (hbb.mono BW.out.size))
    replace BK1 := hidE (BK1.out.below hbb BK1.out.lt)
    replace BK2 := hidE (BK2.out.below hbb BK2.out.lt)
    replace BK3 := hidE (BK3.out.below hbb BK3.out.lt)
    replace RD1 := hidE (RD1.out.below hbb)
    replace RD2 := hidE (RD2.out.below hbb)
    replace RD3 := hidE (RD3.out.below hbb)
    have HQ22 := hidE hq22
    clear hbb hq22 HI x0 x1 x2 x3 y0 y1 y2 y3
    obtain ⟨x0, x1, x2, x3⟩ := blk4 BK1.out
    obtain ⟨y0, y1, y2, y3⟩ := blk4 BK3.out
    have HI := hidE (tc_Instance t1 t3 _ _ _ _ w22 (HT.out.below BW.out) RD1.out RD3.out (fun _ h => h) (fun _ h => h) HN1.out HN3.out (by omega) (by omega))
    go_wp2_with fail
    refine HI.out.mono ?_
    rintro e w23 ⟨⟨q23, rfl, hq23⟩, hbb⟩
    replace BW : Hid (Below w.heap.size w w23) := hidE (BW.out.trans (hbb.mono BW.out.size))
    replace BK1 := hidE (BK1.out.below hbb BK1.out.lt)
    replace BK2 := hidE (BK2.out.below hbb BK2.out.lt)
    replace BK3 := hidE (BK3.out.below hbb BK3.out.lt)
    replace RD1 := hidE (RD1.out.below hbb)
    replace RD2 := hidE (RD2.out.below hbb)
    replace RD3 := hidE (RD3.out.below hbb)
    have HQ23 := hidE hq23
    clear hbb hq23 HI x0 x1 x2 x3 y0 y1 y2 y3
    clear BK3 RD3
    obtain ⟨x0, x1, x2, x3⟩ := blk4 BK2.out
    obtain ⟨y0, y1, y2, y3⟩ := blk4 BK1.out
    have HI := hidE (tc_Instance t2 t1 _ _ _ _ w23 (HT.out.below BW.out) RD2.out RD1.out (fun _ h => h) (fun _ h => h) HN2.out HN1.out (by omega) (by omega))
    go_wp2_with fail
    refine HI.out.mono ?_
    rintro e w24 ⟨⟨q24, rfl, hq24⟩, hbb⟩
    replace BW : Hid (Below w.heap.size w w24) := hidE (BW.out.trans (hbb.mono BW.out.size))
    replace BK1 := hidE (BK1.out.below hbb BK1.out.lt)
    replace BK2 := hidE (BK2.out.below hbb BK2.out.lt)
    replace RD1 := hidE (RD1.out.below hbb)
    replace RD2 := hidE (RD2.out.below hbb)
    have HQ24 := hidE hq24
    clear hbb hq24 HI x0 x1 x2 x3 y0 y1 y2 y3
    obtain ⟨x0, x1, x2, x3⟩ := blk4 BK1.out
    have HPL := hidE (tc_Peel t1 _ _ w24 (HT.out.below BW.out) RD1.out (fun _ h => h) HN1.out (by omega))
    go_wp2_with fail
    refine HPL.out.mono ?_
    rintro e w25 ⟨⟨A25, n25, c25, k25, x25, z25, a25, m25, p25, rfl, -, -, -, h5d⟩, b25⟩
    obtain ⟨V25, hV25⟩ : ∃ V, w25.alloc (.cells #[.int .i64 k25, .string x25, .int .i64 z25, .slice a25 m25 p25] 26) = V := ⟨_, rfl⟩
    have hbk : Blk (w25.alloc (.cells #[.int .i64 k25, .string x25, .int .i64 z25, .slice a25 m25 p25] 26)) w25.heap.size 26 #[.int .i64 k25, .string x25, .int .i64 z25, .slice a25 m25 p25] := heap_alloc_new w25 _
    have hrd : RdN (w25.alloc (.cells #[.int .i64 k25, .string x25, .int .i64 z25, .slice a25 m25 p25] 26)) (peelT 112 (freeL t1) t1 0) (.agg #[.int .i64 k25, .string x25, .int .i64 z25, .slice a25 m25 p25]) := RdN.below (h5d.keep (fun g hg => hg.2) (fun _ _ => rfl)) ((Below.refl _ _).alloc (Nat.le_refl _) _)
    have hbb : Below w24.heap.size w24 (w25.alloc (.cells #[.int .i64 k25, .string x25, .int .i64 z25, .slice a25 m25 p25] 26)) := b25.alloc b25.size _
    rw [hV25] at hbk hrd hbb
    replace BW : Hid (Below w.heap.size w V25) := hidE (BW.out.trans (hbb.mono BW.out.size))
    replace BK1 := hidE (BK1.out.below hbb BK1.out.lt)
    replace BK2 := hidE (BK2.out.below hbb BK2.out.lt)
    replace RD1 := hidE (RD1.out.below hbb)
    replace RD2 := hidE (RD2.out.below hbb)
    have BKp25 := hidE hbk
    have RDp25 := hidE hrd
    have HV := hidE hV25
    clear hbk hrd hbb h5d b25 hV25 HPL x0 x1 x2 x3
    go_upto_region 12 with fail
    rw [HV.out]
    clear HV
    clear BK1 RD1
    obtain ⟨x0, x1, x2, x3⟩ := blk4 BK2.out
    have HPL := hidE (tc_Peel t2 _ _ V25 (HT.out.below BW.out) RD2.out (fun _ h => h) HN2.out (by omega))
    go_wp2_with fail
    refine HPL.out.mono ?_
    rintro e w26 ⟨⟨A26, n26, c26, k26, x26, z26, a26, m26, p26, rfl, -, -, -, h5d⟩, b26⟩
    obtain ⟨V26, hV26⟩ : ∃ V, w26.alloc (.cells #[.int .i64 k26, .string x26, .int .i64 z26, .slice a26 m26 p26] 26) = V := ⟨_, rfl⟩
    have hbk : Blk (w26.alloc (.cells #[.int .i64 k26, .string x26, .int .i64 z26, .slice a26 m26 p26] 26)) w26.heap.size 26 #[.int .i64 k26, .string x26, .int .i64 z26, .slice a26 m26 p26] := heap_alloc_new w26 _
    have hrd : RdN (w26.alloc (.cells #[.int .i64 k26, .string x26, .int .i64 z26, .slice a26 m26 p26] 26)) (peelT 112 (freeL t2) t2 0) (.agg #[.int .i64 k26, .string x26, .int .i64 z26, .slice a26 m26 p26]) := RdN.below (h5d.keep (fun g hg => hg.2) (fun _ _ => rfl)) ((Below.refl _ _).alloc (Nat.le_refl _) _)
    have hbb : Below V25.heap.size V25 (w26.alloc (.cells #[.int .i64 k26, .string x26, .int .i64 z26, .slice a26 m26 p26] 26)) := b26.alloc b26.size _
    rw [hV26] at hbk hrd hbb
    replace BW : Hid (Below w.heap.size w V26) := hidE (BW.out.trans (hbb.mono BW.out.size))
    replace BK2 := hidE (BK2.out.below hbb BK2.out.lt)
    replace RD2 := hidE (RD2.out.below hbb)
    replace BKp25 := hidE (BKp25.out.below hbb BKp25.out.lt)
    replace RDp25 := hidE (RDp25.out.below hbb)
    have BKp26 := hidE hbk
    have RDp26 := hidE hrd
    have HV := hidE hV26
    clear hbk hrd hbb h5d b26 hV26 HPL x0 x1 x2 x3
    go_upto_region 13 with fail
    rw [HV.out]
    clear HV
    clear BK2 RD2
    have h3 : q21 = true → q22 = true → q23 = true := fun h1 h2 => HQ23.out.2 (instB_step t1 t2 t3 HN2.out HN3.out hs1 hs2 hs3 (HQ21.out.1 h1) (HQ22.out.1 h2))
    have hd : q21 = true → q24 = true → (peelT 112 (freeL t1) t1 0).depth = (peelT 112 (freeL t2) t2 0).depth := fun h1 h2 => instB_depth t1 t2 HN1.out HN2.out hs1 hs2 (HQ21.out.1 h1) (HQ24.out.1 h2)
    obtain ⟨d1, hd1⟩ : ∃ d, (peelT 112 (freeL t1) t1 0).depth = d := ⟨_, rfl⟩
    obtain ⟨d2, hd2⟩ : ∃ d, (peelT 112 (freeL t2) t2 0).depth = d := ⟨_, rfl⟩
    have hz1 := (peel_facts t1 HN1.out hs1).2
    have hz2 := (peel_facts t2 HN2.out hs2).2
    have DP1 := hidE (fun W v (h : RdN W (peelT 112 (freeL t1) t1 0) v) => by have := tc_depth 1000000 (peelT 112 (freeL t1) t1 0) _ v W (by omega) (Nat.le_refl _) h (fun _ h => h); rw [hd1] at this; exact this)
    have DP2 := hidE (fun W v (h : RdN W (peelT 112 (freeL t2) t2 0) v) => by have := tc_depth 1000000 (peelT 112 (freeL t2) t2 0) _ v W (by omega) (Nat.le_refl _) h (fun _ h => h); rw [hd2] at this; exact this)
    rw [hd1, hd2] at hd
    have H3 := hidE h3
    have HD := hidE hd
    clear h3 hd hd1 hd2 hz1 hz2 HQ21 HQ22 HQ23 HQ24
    obtain ⟨x0, x1, x2, x3⟩ := blk4 BKp25.out
    go_wp2_with fail
    refine (DP1.out _ _ RDp25.out).mono ?_
    rintro e w27 ⟨rfl, hbb⟩
    replace BW : Hid (Below w.heap.size w w27) := hidE (BW.out.trans (hbb.mono BW.out.size))
    replace BKp26 := hidE (BKp26.out.below hbb BKp26.out.lt)
    replace RDp26 := hidE (RDp26.out.below hbb)
    clear hbb x0 x1 x2 x3 DP1 BKp25 RDp25
    obtain ⟨x0, x1, x2, x3⟩ := blk4 BKp26.out
    go_wp2_with fail
    refine (DP2.out _ _ RDp26.out).mono ?_
    rintro e w28 ⟨rfl, hbb⟩
    replace BW : Hid (Below w.heap.size w w28) := hidE (BW.out.trans (hbb.mono BW.out.size))
    clear hbb x0 x1 x2 x3 DP2 BKp26 RDp26
    cases q21 with
    | false =>
      go_wp2_with fail
      go_ret
      exact ⟨rfl, BW.out⟩
    | true =>
      cases q24 with
      | false =>
        cases q22 with
        | false =>
          go_wp2_with fail
          go_ret
          exact ⟨rfl, BW.out⟩
        | true =>
          obtain rfl := H3.out rfl rfl
          go_wp2_with fail
          go_ret
          exact ⟨rfl, BW.out⟩
      | true =>
        obtain rfl := HD.out rfl rfl
        cases q22 with
        | false =>
          go_wp2_with fail
          go_ret
          exact ⟨rfl, BW.out⟩
        | true =>
          obtain rfl := H3.out rfl rfl
          go_wp2_with fail
          go_ret
          exact ⟨rfl, BW.out⟩
  · cases q1 with
    | false =>
      go_wp2_with fail
      go_ret
      exact ⟨rfl, BW.out⟩
    | true =>
      cases q2 with
      | false =>
        go_wp2_with fail
        go_ret
        exact ⟨rfl, BW.out⟩
      | true =>
        cases q3 with
        | false =>
          go_wp2_with fail
          go_ret
          exact ⟨rfl, BW.out⟩
        | true => exact absurd ⟨rfl, rfl, rfl⟩ hall

/-! ### the row's step -/
theorem lifted (os : Os) (started : os.Started) (H : Type) (enc : TypeId × Value → H) :
    ReturnsInHanded {} Tryz.checked os 6 .any (fun w args => (Rows.matchStepsSpec.pre enc Tryz.prog Tryz.f6 Rows.matchStepsRow.domain false w args ∧ laidMetH Tryz.prog theLaid w) ∧ sizedMet enc Tryz.prog Tryz.f6 (OpenSpec.ofChange Rows.matchStepsSpec) false w args)
      (Rows.matchStepsSpec.post enc Tryz.prog Tryz.f6 false true false false) := by
  refine returnsInHanded_of_change_and (C := Tryz.checked) (X := fun w _ => laidMetH Tryz.prog theLaid w) (fun _ _ _ hh h => h.of_heap hh) ownK started (by kernel_rfl) Tryz.func6
    (ChangeSpec.witness_shaped (enc := enc) (C := Tryz.checked) (os := os) (X := fun w _ => laidMetH Tryz.prog theLaid w) false (World.laidAll Tryz.prog os theLaid) #[.string ⟨#[]⟩, .string ⟨#[]⟩, .string ⟨#[]⟩] 8 (World.laidAll_os _ _ _)
      (start_shaped os) (by kernel_rfl) (by kernel_rfl) (by kernel_rfl)
      (start_met os _)) ?_
  intro W base args ds gs before hval0 hW hc _ hL _
  have hval : ∀ (j : Nat) t v, Tryz.f6.params[j]? = some t → args[j]? = some v → Value.okWide Tryz.prog W .any base t v := hval0
  have hW' := hW
  obtain ⟨p, q, hA0, hV, rfl, _, _⟩ := hW
  have hA : DataW.TrodAll enc Tryz.prog W 0 (fun _ => true) true Tryz.f6.params.toList args.toList ds p := hA0
  rw [Tryz.params6] at hA hval
  obtain ⟨v0, vs0, d0, ds0, p0, q0, hg0, rfl, rfl, h0, r0⟩ := trodAll_cons hA
  obtain ⟨v1, vs1, d1, ds1, p1, q1, hg1, rfl, rfl, h1, r1⟩ := trodAll_cons r0
  obtain ⟨v2, vs2, d2, ds2, p2, q2, hg2, rfl, rfl, h2, r2⟩ := trodAll_cons r1
  obtain ⟨rfl, rfl, rfl⟩ := trodAll_nil r2
  subst hg2
  subst hg1
  obtain rfl : args = #[v0, v1, v2] := by cases args; simp_all
  obtain ⟨rfl, rfl⟩ := trodVars_none hV
  obtain ⟨a0, rfl, rfl, rfl, w0⟩ := open_string Tryz.underlying9 (hval 0 9 v0 rfl rfl) h0
  obtain ⟨a1, rfl, rfl, rfl, w1⟩ := open_string Tryz.underlying9 (hval 1 9 v1 rfl rfl) h1
  obtain ⟨a2, rfl, rfl, rfl, w2⟩ := open_string Tryz.underlying9 (hval 2 9 v2 rfl rfl) h2
  clear hA0 hval0
  simp only [List.append_nil] at hW'
  refine (walk a0 a1 a2 W (tab_of_laid hL) w0 w1 w2).mono fun e W' ⟨he, hg⟩ => ?_
  subst he
  exact ⟨_, rfl, _, _, _, [], [], [], hW', trodAll_cons_mk (shut_bool Tryz.underlying4 _) trodAll_mk0, (trodAll_cons_mk (shut_string Tryz.underlying9 w0) (trodAll_cons_mk (shut_string Tryz.underlying9 w1) (trodAll_cons_mk (shut_string Tryz.underlying9 w2) trodAll_mk0))), rfl, hg.frame _, fun h => by cases h⟩

theorem over : Rows.matchStepsRow.holds Tryz.pinned (OpenSpec.ofChange Rows.matchStepsSpec) :=
  OpenClaim.holds_of_wide 6 Tryz.f6 rfl rfl rfl rfl rfl rfl rfl ⟨rfl, rfl, rfl, rfl, rfl⟩ rfl rfl rfl rfl rfl (by kernel_rfl) Tryz.func6 (by kernel_rfl)
    (of_decide_eq_true (by kernel_rfl)) (by unfold Func.isWrapper; first | (rw [if_pos (by decide +kernel)]; kernel_rfl) | (rw [if_neg (by decide +kernel)]; exact ⟨rfl, rfl⟩))
    (fun os started H enc _ => lifted os started H enc)

/-- the statement: the tied card -/
theorem proved : Rows.MatchStepsCardSaid :=
  Claim7.holds_tied_plain_at .later [] [.data, .data, .data, .sentinel, .sentinel] true _ true
    over (fun _ h => by cases h) (by kernel_rfl) (fun _ h => by cases h) matchSteps_row_tie rfl ⟨rfl, rfl⟩ (by kernel_rfl) rfl
    (fun f fn hf hfn => by
      obtain rfl : f = 6 := Option.some.inj ((show Tryz.prog.funcNamed "savant/savantlaw03.MatchSteps" = some 6 by kernel_rfl).symm.trans hf) |>.symm
      obtain rfl : fn = Tryz.f6 := (Option.some.inj (Tryz.func6.symm.trans hfn)).symm
      exact ⟨by kernel_rfl, fun j t ht => by
        rw [Tryz.params6] at ht
        have hm : t ∈ [9, 9, 9] := by
          simpa using Array.mem_of_getElem? ht
        have hall : ([9, 9, 9].all fun u => !Tryz.prog.wantsStandIn u) = true := by kernel_rfl
        exact (show Tryz.prog.wantsStandIn t = false by simpa using List.all_eq_true.1 hall t hm)⟩)
    (by kernel_rfl)
#print axioms proved
end Go.Proofs.YtaomnlcplmkokaaGreatDoor.matchSteps
