/-
  savantlaw03.MatchPeeled, whatever the text: it answers true, and what was handed in is as it was. The card ties the library's tables to the program's text.
-/
import Derived.Test.YtaomnlcplmkokaaGreatDoorBuAF
import Derived.Test.YtaomnlcplmkokaaGreatDoorCards
import Derived.Test.YtaomnlcplmkokaaGreatDoorTie
import Derived.SevenTiedAt
import Derived.Deep.Cut
namespace Go.Proofs.YtaomnlcplmkokaaGreatDoor.matchPeeled
open Go.ChangeShapes Go.WideShapes Go.ChangeAt Go.RowKit Lx Tx Go.Shelf
open Go.ChangeMaps (open_string shut_string)
set_option maxRecDepth 100000

theorem row_cap {w : World} {B n cp : Nat} {A : Option Addr} {e : TypeId} {xs : List Value} (h : w.ownsRow B e 1 (.slice A n cp) n xs) : n ≤ cp := by
  rcases h.2 with ⟨h1, h2⟩ | ⟨g, cap, cur, hv, h1, h2, h3, h4⟩
  · omega
  · injection hv with _ _ h
    omega
theorem row_take {w : World} {B n cp : Nat} {A : Option Addr} {l : List Name} (h : w.ownsRow B 9 1 (.slice A n cp) n (strV l)) (hl : l.length = n) (W : World) (hW : Below w.heap.size w W) (k : Nat) (hk : k ≤ n) : RowV W (.slice A k cp) (strV (l.take k)) := by
  have h1 := (RowV.of_own h).below hW
  obtain ⟨A', c', hv, hp⟩ := h1
  injection hv with hA _ hc
  subst hA
  subst hc
  have hk2 : (l.take k).length = k := by rw [List.length_take]; omega
  refine ⟨A, cp, by rw [strV_len, hk2], fun hpos => ?_⟩
  rw [strV_len, hk2] at hpos
  obtain ⟨g, hA, hg, hcell⟩ := hp (by rw [strV_len]; omega)
  refine ⟨g, hA, hg, fun j u hu => hcell j u ?_⟩
  have hj : j < (strV (l.take k)).length := (List.getElem?_eq_some_iff.1 hu).1
  rw [strV_len, hk2] at hj
  rw [← hu]
  unfold strV
  rw [List.map_take, List.getElem?_take_of_lt hj]
theorem nodup_take {l : List Name} (h : l.Nodup) (k : Nat) (hk : k < l.length) : l[k] ∉ l.take k := by
  intro hm
  obtain ⟨j, hj, he⟩ := List.mem_iff_getElem.1 hm
  rw [List.length_take] at hj
  rw [List.getElem_take] at he
  have := (List.getElem_inj h).1 he
  omega
theorem nm_alls (b : Ty) (hb : Nm b) : (ns : List Name) → (∀ x ∈ ns, Gd 1 x) → Nm (alls ns b)
  | [], _ => hb
  | x :: l, h => .all x _ (h x List.mem_cons_self) (nm_alls b hb l (fun y hy => h y (List.mem_cons_of_mem _ hy)))
theorem size_alls (b : Ty) : (ns : List Name) → (alls ns b).size = ns.length + b.size
  | [] => by rw [List.length_nil, Nat.zero_add]; rfl
  | x :: l => by
    show (Ty.all x (alls l b)).size = _
    rw [Ty.size, size_alls b l, List.length_cons]
    omega
/-- while the for alls are laid around it again -/
def HeadPl (b9 : Nat) (ns : List Name) (bd : Ty) (n : Nat) (w3 : World) (gg : Nat) (vj : Value) (wr : World) : Prop :=
  ∃ j K X Z A m c, gg = j ∧ vj = .int .i64 ((j : Int) - 1) ∧ j ≤ n ∧ Blk wr b9 26 #[.int .i64 K, .string X, .int .i64 Z, .slice A m c] ∧ Below b9 w3 wr ∧ b9 < wr.heap.size ∧
    RdV (fun g => g < wr.heap.size ∧ g ≠ b9) wr (alls (ns.drop j) bd) (.agg #[.int .i64 K, .string X, .int .i64 Z, .slice A m c])

set_option maxHeartbeats 12800000 in
theorem walk (s : ByteArray) (w : World) (ht : Tab w) (hs : s.size ≤ maxLen) : Calls Tryz.prog 8 #[.string s] w fun e w' => e = .returned (.bool true) ∧ Below w.heap.size w w' := by
  have HT := hidE ht
  have HAW := hidE (tc_awake w ht)
  have HP1 := hidE (fun w => tc_readAny s w hs)
  clear ht hs
  go_enter Tryz.func8, Tryz.ntmps8
  go_wp2_with fail
  refine HAW.out.mono ?_
  rintro e wa ⟨rfl, hbb⟩
  have BW : Hid (Below w.heap.size w wa) := hidE hbb
  clear hbb HAW
  go_wp2_with fail
  refine (HP1.out _).mono ?_
  rintro e w1 ⟨K1, X1, Z1, A1, m1, c1, Kr1, Xr1, Zr1, Ar1, mr1, cr1, q1, rfl, b1, hy⟩
  obtain ⟨V1, hV1⟩ : ∃ V, (w1.alloc (.cells #[.int .i64 K1, .string X1, .int .i64 Z1, .slice A1 m1 c1] 26)).alloc (.cells #[.int .i64 Kr1, .string Xr1, .int .i64 Zr1, .slice Ar1 mr1 cr1] 29) = V := ⟨_, rfl⟩
  have hbk : Blk ((w1.alloc (.cells #[.int .i64 K1, .string X1, .int .i64 Z1, .slice A1 m1 c1] 26)).alloc (.cells #[.int .i64 Kr1, .string Xr1, .int .i64 Zr1, .slice Ar1 mr1 cr1] 29)) w1.heap.size 26 #[.int .i64 K1, .string X1, .int .i64 Z1, .slice A1 m1 c1] := Blk.below (heap_alloc_new w1 _) ((Below.refl _ _).alloc (Nat.le_refl _) _) (by simp)
  have hba : Below w1.heap.size w1 ((w1.alloc (.cells #[.int .i64 K1, .string X1, .int .i64 Z1, .slice A1 m1 c1] 26)).alloc (.cells #[.int .i64 Kr1, .string Xr1, .int .i64 Zr1, .slice Ar1 mr1 cr1] 29)) := ((Below.refl _ w1).alloc (Nat.le_refl _) _).alloc (by rw [size_alloc]; exact Nat.le_succ _) _
  have hri : RdIf s q1 ((w1.alloc (.cells #[.int .i64 K1, .string X1, .int .i64 Z1, .slice A1 m1 c1] 26)).alloc (.cells #[.int .i64 Kr1, .string Xr1, .int .i64 Zr1, .slice Ar1 mr1 cr1] 29)) (.agg #[.int .i64 K1, .string X1, .int .i64 Z1, .slice A1 m1 c1]) := fun hq => by
    obtain ⟨t, h1, h2, -⟩ := hy hq
    exact ⟨t, h1, h2.below hba⟩
  have hbb : Below wa.heap.size wa ((w1.alloc (.cells #[.int .i64 K1, .string X1, .int .i64 Z1, .slice A1 m1 c1] 26)).alloc (.cells #[.int .i64 Kr1, .string Xr1, .int .i64 Zr1, .slice Ar1 mr1 cr1] 29)) := b1.trans (hba.mono b1.size)
  rw [hV1] at hbk hri hbb
  replace BW : Hid (Below w.heap.size w V1) := hidE (BW.out.trans (hbb.mono BW.out.size))
  have BK1 := hidE hbk
  have RI1 := hidE hri
  have HV := hidE hV1
  clear hbk hba hri hbb hy b1 hV1 HP1
  cases q1 with
  | false =>
    go_wp2_with fail
    go_ret
    exact ⟨rfl, by rw [HV.out]; exact BW.out⟩
  | true =>
    obtain ⟨t, hrt, hrd⟩ := RI1.out rfl
    obtain ⟨hn, hsz⟩ := readsTo_facts hrt
    have RD1 := hidE hrd
    have HN1 := hidE hn
    have HSZ : t.size ≤ 1000 := by omega
    clear RI1 hrt hrd hn hsz
    go_upto_region 5 with fail
    rw [HV.out]
    clear HV
    have hfl := freeL_len t
    have hroom : t.size * ((freeL t).length + 1) < 10 ^ 15 := by
      have := Nat.mul_le_mul HSZ (show (freeL t).length + 1 ≤ 1001 by omega)
      omega
    obtain ⟨hbn, hbs⟩ := peel_facts t HN1.out HSZ
    obtain ⟨hfree, hnodup⟩ := peelN_free 112 t hroom
    have hback := peel_back 112 (.inl rfl) t (by omega) hroom
    have hno5 := peelT_no5 112 (.inl rfl) (freeL t) t (by omega) hroom
    have hgd := peelN_gd 112 (.inl rfl) (freeL t) t 0 (by omega)
    obtain ⟨x0, x1, x2, x3⟩ := blk4 BK1.out
    have HPL := hidE (tc_Peel t _ _ V1 (HT.out.below BW.out) RD1.out (fun _ h => h) HN1.out (by omega))
    obtain ⟨ns, hns⟩ : ∃ ns, peelN 112 (freeL t) t 0 = ns := ⟨_, rfl⟩
    obtain ⟨bd, hbd⟩ : ∃ bd, peelT 112 (freeL t) t 0 = bd := ⟨_, rfl⟩
    rw [hns] at hfree hnodup hback hgd
    rw [hbd] at hbn hbs hback hno5
    rw [hns, hbd] at HPL
    have HFREE := hidE hfree
    have HNOD := hidE hnodup
    have HBACK := hidE hback
    have HNO5 := hidE hno5
    have HGD := hidE hgd
    have HBN := hidE hbn
    have HBS := hidE hbs
    clear hfree hnodup hback hno5 hgd hbn hbs hns hbd hroom hfl
    go_wp2_with fail
    refine HPL.out.mono ?_
    rintro e w23 ⟨⟨A9, n9, c9, k5, x5, z5, a5, m5, p5, rfl, h5a, h5b, h5c, h5d⟩, b23⟩
    obtain ⟨V23, hV23⟩ : ∃ V, w23.alloc (.cells #[.int .i64 k5, .string x5, .int .i64 z5, .slice a5 m5 p5] 26) = V := ⟨_, rfl⟩
    have hbk : Blk (w23.alloc (.cells #[.int .i64 k5, .string x5, .int .i64 z5, .slice a5 m5 p5] 26)) w23.heap.size 26 #[.int .i64 k5, .string x5, .int .i64 z5, .slice a5 m5 p5] := heap_alloc_new w23 _
    have hrd : RdN (w23.alloc (.cells #[.int .i64 k5, .string x5, .int .i64 z5, .slice a5 m5 p5] 26)) bd (.agg #[.int .i64 k5, .string x5, .int .i64 z5, .slice a5 m5 p5]) := RdN.below (h5d.keep (fun g hg => hg.2) (fun _ _ => rfl)) ((Below.refl _ _).alloc (Nat.le_refl _) _)
    have hown := h5c.alloc (.cells #[.int .i64 k5, .string x5, .int .i64 z5, .slice a5 m5 p5] 26)
    have hbb : Below V1.heap.size V1 (w23.alloc (.cells #[.int .i64 k5, .string x5, .int .i64 z5, .slice a5 m5 p5] 26)) := b23.alloc b23.size _
    rw [hV23] at hbk hrd hown hbb
    replace BW : Hid (Below w.heap.size w V23) := hidE (BW.out.trans (hbb.mono BW.out.size))
    replace BK1 := hidE (BK1.out.below hbb BK1.out.lt)
    replace RD1 := hidE (RD1.out.below hbb)
    have BKP := hidE hbk
    have RDP := hidE hrd
    have HOWN := hidE hown
    have HV := hidE hV23
    have HNL := hidE h5a
    have HKD : Hid (k5 = (kd bd : Nat)) := hidE (rd_agg h5d).1
    clear hbk hrd hown hbb h5d h5c h5a b23 hV23 HPL x0 x1 x2 x3
    go_upto_region 6 with fail
    rw [HV.out]
    clear HV
    obtain ⟨x0, x1, x2, x3⟩ := blk4 BKP.out
    have hcap := row_cap HOWN.out
    have dk : ((k5 : Int) != 5) = true := by rw [HKD.out]; exact neqT _ _ (by have := HNO5.out; omega)
    go_wp2_with fail
    clear x0 x1 x2 x3
    go_loopg [10] n9 (fun gg vj wr => HeadPl V23.heap.size ns bd n9 V23 gg vj wr)
    case atStart =>
      refine ⟨n9, k5, x5, z5, a5, m5, p5, rfl, rfl, Nat.le_refl _, heap_alloc_new _ _, (Below.refl _ V23).alloc (Nat.le_refl _) _, by simp, ?_⟩
      rw [List.drop_eq_nil_of_le (by rw [HNL.out]; exact Nat.le_refl _)]
      exact RDP.out.keep (fun g hg => ⟨by have h : g < V23.heap.size := hg; simp; omega, by have h : g < V23.heap.size := hg; omega⟩) (fun g hg => Below.heap_alloc _ _ _ hg)
    case round =>
      obtain ⟨j, K, X, Z, A, mm, cc, hgg, rfl, hjn, hb9, hbel, hlt9, hrd⟩ := hrel
      have hb1 := BK1.out.below hbel BK1.out.lt
      have hbp := BKP.out.below hbel BKP.out.lt
      obtain ⟨p0, p1, p2, p3, s0, s1, s2, s3, hlx⟩ := blk_facts4 hb9
      have HBEL := hidE hbel
      have HB9 := hidE hb9
      have HRD := hidE hrd
      have HB1 := hidE hb1
      have HBP := hidE hbp
      have hsb := hbel.size
      rcases j with - | i
      rotate_left
      · have him : i < n9 := by omega
        have hic : i ≤ c9 := by omega
        have hici : (i : Int) ≤ (c9 : Int) := by omega
        have hcz : ¬ c9 = 0 := by omega
        have he : (((i + 1 : Nat) : Int) - 1) = (i : Int) := by omega
        rw [he]
        clear he
        have hjd : i < ns.length := by rw [HNL.out]; omega
        obtain ⟨gN, rfl, hg1, hg2, hg3⟩ := row_cell HOWN.out (strV_at ns i hjd)
        have hf1 := HFREE.out _ (List.getElem_mem hjd)
        have hf2 := nodup_take HNOD.out i hjd
        have hrow := row_take HOWN.out HNL.out
        obtain ⟨y, hy⟩ : ∃ y, ns[i] = y := ⟨_, rfl⟩
        rw [hy] at hg3 hf1 hf2
        obtain ⟨Y, hY⟩ : ∃ Y : ByteArray, (⟨y.toArray⟩ : ByteArray) = Y := ⟨_, rfl⟩
        rw [hY] at hg3
        have hYl : Y.data.toList = y := by rw [← hY]
        have HY : Hid (Y = ⟨(ns.getD i []).toArray⟩) := hidE (by rw [List.getD_eq_getElem?_getD, List.getElem?_eq_getElem hjd]; show Y = ⟨(ns[i]).toArray⟩; rw [hy, hY])
        have SOF : Hid (∀ W : World, Below wr.heap.size wr W → (fun W : World => W.cell? ⟨w1.heap.size, 0, none⟩ = some (.int .i64 K1) ∧ W.cell? ⟨w1.heap.size, 1, none⟩ = some (.string X1) ∧ W.cell? ⟨w1.heap.size, 2, none⟩ = some (.int .i64 Z1) ∧ W.cell? ⟨w1.heap.size, 3, none⟩ = some (.slice A1 m1 c1) ∧ W.cell? ⟨gN, i, none⟩ = some (.string Y)) W) := hidE fun W hW => by
          obtain ⟨y0, y1, y2, y3⟩ := blk4 (HB1.out.below hW HB1.out.lt)
          exact ⟨y0, y1, y2, y3, hg3 W ((hW.block gN (by omega)).trans (HBEL.out.block gN hg2))⟩
        have HFR := hidE (fun (W : World) (hW : Below wr.heap.size wr W) => tc_free t (fun g => g < V23.heap.size) _ W (RD1.out.keep (S' := fun g => g < V23.heap.size) (w' := W) (fun _ h => h) (fun g hg => (hW.block g (by have h : g < V23.heap.size := hg; omega)).trans (HBEL.out.block g hg))) (fun g hg => by have h : g < V23.heap.size := hg; have := hW.size; omega) HN1.out (by omega))
        have hd1 : decide (Y.data.toList ∈ freeL t) = false := by rw [hYl]; exact decide_eq_false hf1
        have hd2 : decide (Y.data.toList ∈ ns.take i) = false := by rw [hYl]; exact decide_eq_false hf2
        have HAS1 := hidE (fun (v : Value) (W : World) (h : RowV W v (strV (freeL t))) => by have := ref2_has v (freeL t) Y W h (by have := freeL_len t; omega); rw [hd1] at this; exact this)
        have HAS2 := hidE (fun (W : World) (h : Below V23.heap.size V23 W) => by have := ref2_has _ (ns.take i) Y W (hrow W h i (by omega)) (by rw [List.length_take]; omega); rw [hd2] at this; exact this)
        have HG3 := hidE hg3
        obtain ⟨nf, hnf⟩ : ∃ n, (freeL t).length = n := ⟨_, rfl⟩
        rw [hnf] at HFR
        clear hg3 hf1 hf2 hrow hy hY hYl hd1 hd2 hb1 hbp hb9 hbel hrd hnf hjd
        have B0 : Hid (Below wr.heap.size wr wr.drew) := hidE (Below.refl _ wr).drew
        go_upto_region 10 with fail
        go_region_held3 (fun W : World => W.cell? ⟨w1.heap.size, 0, none⟩ = some (.int .i64 K1) ∧ W.cell? ⟨w1.heap.size, 1, none⟩ = some (.string X1) ∧ W.cell? ⟨w1.heap.size, 2, none⟩ = some (.int .i64 Z1) ∧ W.cell? ⟨w1.heap.size, 3, none⟩ = some (.slice A1 m1 c1) ∧ W.cell? ⟨gN, i, none⟩ = some (.string Y)) (first | (with_reducible exact SOF.out _ B0.out))
          ((first
            | ((with_reducible refine (HFR.out _ B0.out).mono ?_); rintro e w30 ⟨A30, c30, rfl, ho30, -, b30⟩; have R30 := hidE (RowV.of_own ho30); replace B0 := hidE (B0.out.trans (b30.mono B0.out.size)); clear ho30 b30)
            | ((with_reducible refine (HAS1.out _ _ R30.out).mono ?_); rintro e w31 ⟨rfl, rfl⟩)))
        all_goals
          clear HFR HAS1 R30 SOF
          have hb30 := B0.out
          have hbel30 : Below V23.heap.size V23 w30 := HBEL.out.trans (hb30.mono (by omega))
          have SOF2 : Hid (∀ W : World, Below w30.heap.size w30 W → (fun W : World => W.cell? ⟨gN, i, none⟩ = some (.string Y)) W) := hidE fun W hW => HG3.out W ((hW.block gN (by have := hb30.size; omega)).trans (hbel30.block gN hg2))
          have HAS3 := hidE (HAS2.out w30.drew hbel30.drew)
          have B1 : Hid (Below w30.heap.size w30 w30.drew) := hidE (Below.refl _ w30).drew
          have HBEL30 := hidE hbel30
          have hs30 := hb30.size
          clear hb30 hbel30
          go_upto_region 11 with fail
          go_region_held3 (fun W : World => W.cell? ⟨gN, i, none⟩ = some (.string Y)) (first | (with_reducible exact SOF2.out _ B1.out))
            ((first | ((with_reducible refine HAS3.out.mono ?_); rintro e w31 ⟨rfl, rfl⟩)))
          all_goals
            have hb9' := HB9.out.below B0.out hlx
            obtain ⟨p0, p1, p2, p3, s0, s1, s2, s3, hlx30⟩ := blk_facts4 hb9'
            have e1 : w30.cell? ⟨gN, i, none⟩ = some (.string Y) := HG3.out w30 (HBEL30.out.block gN hg2)
            have hgw : gN < w30.heap.size := by omega
            have HB9' := hidE hb9'
            clear hb9' HAS3 SOF2 HAS2
            go_upto_region 14 with fail
            go_region
            all_goals
              go_wp2_with fail
              go_roundg i
              case measure => omega
              case rel =>
                refine ⟨i, 5, Y, 0, some ⟨w30.heap.size, 0, none⟩, 1, 1, rfl, rfl, by omega, ((blk_set4 _ _ _ _ HB9'.out).alloc _).drew, ((below_set4 HBEL30.out _ _ _ _ (Nat.le_refl _)).alloc (by simp; omega) _).drew.drew, by simp; omega, ?_⟩
                rw [alls_step ns i bd (by rw [HNL.out]; omega)]
                refine all_cells (w := w30) HY.out (HRD.out.keep (S' := fun g => g < wr.heap.size ∧ g ≠ V23.heap.size) (w' := w30) (fun _ h => h) (fun g hg => B0.out.block g hg.1)) (fun g hg => ?_) (fun g hg => ?_) ?_ ?_
                · exact ⟨by have := hg.1; simp; omega, hg.2⟩
                · exact (Below.heap_alloc _ _ _ (by have := hg.1; simp; omega)).trans (heap_set4 _ _ _ _ _ _ _ hg.2)
                · exact ⟨by simp, by omega⟩
                · intro d u hu
                  have := new_cells' ((((w30.setCell ⟨V23.heap.size, 0, none⟩ (.int .i64 5)).setCell ⟨V23.heap.size, 1, none⟩ (.string Y)).setCell ⟨V23.heap.size, 2, none⟩ (.int .i64 0)).setCell ⟨V23.heap.size, 3, none⟩ (.slice (some ⟨w30.heap.size, 0, none⟩) 1 1)) #[.int .i64 K, .string X, .int .i64 Z, .slice A mm cc] 26 w30.heap.size (by simp) d u hu
                  have hadd : (⟨w30.heap.size, 0, none⟩ : Addr).add d = ⟨w30.heap.size, d, none⟩ := by unfold Addr.add; split <;> simp_all
                  rw [hadd] at this
                  exact this
      · have hn := nm_alls bd HBN.out ns HGD.out
        have hz := size_alls bd ns
        obtain ⟨x0, x1, x2, x3⟩ := blk4 HB1.out
        obtain ⟨y0, y1, y2, y3⟩ := blk4 HBP.out
        have hrdw : RdN wr (alls ns bd) (.agg #[.int .i64 K, .string X, .int .i64 Z, .slice A mm cc]) := hrd.keep (fun g hg => hg.1) (fun _ _ => rfl)
        have hsame := rn_same hrdw (RD1.out.keep (S' := fun g => g < wr.heap.size) (w' := wr) (fun g hg => by have h : g < V23.heap.size := hg; show g < wr.heap.size; omega) (fun g hg => HBEL.out.block g hg)) hn HN1.out (by have := HBS.out; have := HNL.out; omega) HBACK.out
        have HSAME := hidE hsame
        have HFIN := hidE (BW.out.trans (HBEL.out.mono BW.out.size))
        clear hn hz hrdw hsame hb1 hbp hb9 hbel hrd
        go_wp2_with fail
        refine HSAME.out.mono ?_
        rintro e w40 ⟨rfl, b40⟩
        obtain ⟨z0, z1, z2, z3⟩ := blk4 (HBP.out.below b40 HBP.out.lt)
        have HF2 := hidE (HFIN.out.trans (b40.mono HFIN.out.size))
        clear b40 x0 x1 x2 x3 y0 y1 y2 y3 HSAME
        go_wp2_with fail
        go_ret
        exact ⟨rfl, HF2.out⟩

/-! ### the row's step -/
theorem lifted (os : Os) (started : os.Started) (H : Type) (enc : TypeId × Value → H) :
    ReturnsInHanded {} Tryz.checked os 8 .any (fun w args => (Rows.matchPeeledSpec.pre enc Tryz.prog Tryz.f8 Rows.matchPeeledRow.domain false w args ∧ laidMetH Tryz.prog theLaid w) ∧ sizedMet enc Tryz.prog Tryz.f8 (OpenSpec.ofChange Rows.matchPeeledSpec) false w args)
      (Rows.matchPeeledSpec.post enc Tryz.prog Tryz.f8 false true false false) := by
  refine returnsInHanded_of_change_and (C := Tryz.checked) (X := fun w _ => laidMetH Tryz.prog theLaid w) (fun _ _ _ hh h => h.of_heap hh) ownK started (by kernel_rfl) Tryz.func8
    (ChangeSpec.witness_shaped (enc := enc) (C := Tryz.checked) (os := os) (X := fun w _ => laidMetH Tryz.prog theLaid w) false (World.laidAll Tryz.prog os theLaid) #[.string ⟨#[]⟩] 8 (World.laidAll_os _ _ _)
      (start_shaped os) (by kernel_rfl) (by kernel_rfl) (by kernel_rfl)
      (start_met os _)) ?_
  intro W base args ds gs before hval0 hW hc _ hL _
  have hval : ∀ (j : Nat) t v, Tryz.f8.params[j]? = some t → args[j]? = some v → Value.okWide Tryz.prog W .any base t v := hval0
  have hW' := hW
  obtain ⟨p, q, hA0, hV, rfl, _, _⟩ := hW
  have hA : DataW.TrodAll enc Tryz.prog W 0 (fun _ => true) true Tryz.f8.params.toList args.toList ds p := hA0
  rw [Tryz.params8] at hA hval
  obtain ⟨v0, vs0, d0, ds0, p0, q0, hg0, rfl, rfl, h0, r0⟩ := trodAll_cons hA
  obtain ⟨rfl, rfl, rfl⟩ := trodAll_nil r0
  obtain rfl : args = #[v0] := by cases args; simp_all
  obtain ⟨rfl, rfl⟩ := trodVars_none hV
  obtain ⟨a0, rfl, rfl, rfl, w0⟩ := open_string Tryz.underlying9 (hval 0 9 v0 rfl rfl) h0
  clear hA0 hval0
  simp only [List.append_nil] at hW'
  refine (walk a0 W (tab_of_laid hL) w0).mono fun e W' ⟨he, hg⟩ => ?_
  subst he
  exact ⟨_, rfl, _, _, _, [], [], [], hW', trodAll_cons_mk (shut_bool Tryz.underlying4 _) trodAll_mk0, (trodAll_cons_mk (shut_string Tryz.underlying9 w0) trodAll_mk0), rfl, hg.frame _, fun h => by cases h⟩

theorem over : Rows.matchPeeledRow.holds Tryz.pinned (OpenSpec.ofChange Rows.matchPeeledSpec) :=
  OpenClaim.holds_of_wide 8 Tryz.f8 rfl rfl rfl rfl rfl rfl rfl ⟨rfl, rfl, rfl, rfl, rfl⟩ rfl rfl rfl rfl rfl (by kernel_rfl) Tryz.func8 (by kernel_rfl)
    (of_decide_eq_true (by kernel_rfl)) (by unfold Func.isWrapper; first | (rw [if_pos (by decide +kernel)]; kernel_rfl) | (rw [if_neg (by decide +kernel)]; exact ⟨rfl, rfl⟩))
    (fun os started H enc _ => lifted os started H enc)

/-- the statement: the tied card -/
theorem proved : Rows.MatchPeeledCardSaid :=
  Claim7.holds_tied_plain_at .later [] [.data, .data, .data, .sentinel, .sentinel] true _ true
    over (fun _ h => by cases h) (by kernel_rfl) (fun _ h => by cases h) matchPeeled_row_tie rfl ⟨rfl, rfl⟩ (by kernel_rfl) rfl
    (fun f fn hf hfn => by
      obtain rfl : f = 8 := Option.some.inj ((show Tryz.prog.funcNamed "savant/savantlaw03.MatchPeeled" = some 8 by kernel_rfl).symm.trans hf) |>.symm
      obtain rfl : fn = Tryz.f8 := (Option.some.inj (Tryz.func8.symm.trans hfn)).symm
      exact ⟨by kernel_rfl, fun j t ht => by
        rw [Tryz.params8] at ht
        have hm : t ∈ [9] := by
          simpa using Array.mem_of_getElem? ht
        have hall : ([9].all fun u => !Tryz.prog.wantsStandIn u) = true := by kernel_rfl
        exact (show Tryz.prog.wantsStandIn t = false by simpa using List.all_eq_true.1 hall t hm)⟩)
    (by kernel_rfl)
#print axioms proved
end Go.Proofs.YtaomnlcplmkokaaGreatDoor.matchPeeled
