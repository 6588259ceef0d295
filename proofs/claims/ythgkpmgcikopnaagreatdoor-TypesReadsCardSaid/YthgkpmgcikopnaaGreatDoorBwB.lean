/-
  Package types and what it stands on: contracts of the code's functions, part 2.
-/
import Derived.Test.YthgkpmgcikopnaaGreatDoorBwA
import Derived.Maps.AppendAt
/-
  The walk over app of the document's answer for types.
-/
namespace Go.Proofs.YthgkpmgcikopnaaGreatDoor
open Go.RowKit Lx Tx
set_option maxRecDepth 100000

theorem ref2_info : (Tryz.prog.info? 31).map (fun i => (i.zero, i.size, i.bytes)) = some (some (.agg #[.int .i64 0, .string ⟨#[]⟩, .int .i64 0, .slice none 0 0]), 4, 56) := by kernel_rfl

/-- what holds at the head of each round of app -/
def HeadA (ts : List Tok) (f n i : Nat) (X : ByteArray) (w : World) (g : Nat) (vk : Value) (wr : World) : Prop :=
  ∃ k f' done v', g = n - k ∧ vk = .int .i64 k ∧ i < k ∧ k ≤ n ∧ 4 * (n - k) + 3 ≤ f' ∧ f' ≤ f ∧ Hid (args f (ts.drop (i + 1)) = (args f' (ts.drop k)).map fun y => (done ++ y.1, y.2)) ∧ done.length ≤ k ∧
    Built (fun _ => False) (w.heap.size + 2) 31 wr done v' ∧ Blk wr (w.heap.size + 1) 31 #[.int .i64 3, .string X, .int .i64 0, v'] ∧
    Blk wr w.heap.size 31 #[.int .i64 0, .string ⟨#[]⟩, .int .i64 0, .slice none 0 0] ∧ Below w.heap.size w wr

set_option maxHeartbeats 1600000 in
theorem ref2_app (f : Nat) (ts : List Tok) (v : Value) (w : World) (i : Nat) (hv : RdT w v ts) (hn : ts.length ≤ 100000) (hi : i ≤ ts.length) (hf : 4 * (ts.length - i) + 3 ≤ f + 1)
    (IH : ∀ f1, f1 ≤ f → ∀ (w : World) (i : Nat), RdT w v ts → i ≤ ts.length → 4 * (ts.length - i) + 2 ≤ f1 → Calls Tryz.prog 113 #[v, .int .i64 i] w (RPost ts i w (atom f1 (ts.drop i)))) :
    Calls Tryz.prog 79 #[v, .int .i64 i] w (RPost ts i w (app (f + 1) (ts.drop i))) := by
  obtain ⟨q, hq⟩ : ∃ q, isAt ts i 2 [] = q := ⟨_, rfl⟩
  have HQ := hidE hq
  have hIs : ∀ w, RdT w v ts → Calls Tryz.prog 78 #[v, .int .i64 i, .int .i64 2, .string ⟨#[]⟩] w fun e w' => e = .returned (.bool q) ∧ w = w' := by
    intro w hv
    rw [← hq]
    exact ref2_is _ ts i 2 ⟨#[]⟩ 2 rfl w hv
  clear hq
  have HV := hidE hv
  have HIH := hidE IH
  clear IH
  cases q
  · have HO : Hid (app (f + 1) (ts.drop i) = atom f (ts.drop i)) := by
      refine hidE ?_
      by_cases hlt : i < ts.length
      · have h2 := HQ.out
        rw [isAt_at ts i 2 [] hlt] at h2
        simp at h2
        rw [drop_tok ts i hlt, app]
        simp only [if_neg h2]
      · rw [List.drop_eq_nil_of_le (by omega), app]
        obtain ⟨f', rfl⟩ : ∃ f', f = f' + 1 := ⟨f - 1, by omega⟩
        rw [atom]
    rw [HO.out]
    clear HO hv
    go_enter Tryz.func79, Tryz.ntmps79
    go_wp2_with (go_at_call 78; refine (hIs _ (HV.out.alloc _)).mono ?_; rintro e w2 ⟨rfl, rfl⟩)
    go_at_call 113
    refine (HIH.out f (Nat.le_refl _) _ i (HV.out.alloc _) hi (by omega)).mono ?_
    rintro e w1 ⟨b1, K1, X1, Z1, A1, m1, c1, hcases⟩
    have hblk : Blk w1 w.heap.size 31 #[.int .i64 0, .string ⟨#[]⟩, .int .i64 0, .slice none 0 0] := Blk.below (heap_alloc_new _ _) b1 (by simp)
    obtain ⟨a0, a1, a2, a3, r0, r1, r2, r3, hlw⟩ := blk_facts4 hblk
    have HBLK := hidE hblk
    have B1 := hidE b1
    clear hblk b1
    rcases hcases with ⟨ho, rfl⟩ | ⟨t, k, hk, hkn, ho, rfl, hr⟩
    · have HO := hidE ho
      clear ho
      go_wp2_with fail
      try simp only [Exit.inBlock, Exit.then]
      refine bodyPost_ret (results_ct rfl _ _ w.heap.size 31 _ (0, 0) _ rfl (blk_set4 _ _ _ _ HBLK.out) Tryz.underlying31 rfl (by kernel_rfl)) rfl ?_
      exact rpost_none ts i w _ _ _ K1 X1 Z1 A1 m1 c1 (below_set4 (below_pre B1.out (Nat.le_refl _)) _ _ _ _ (Nat.le_refl _)) HO.out rfl
    · have HO := hidE ho
      have HR := hidE hr
      clear ho hr
      go_wp2_with fail
      try simp only [Exit.inBlock, Exit.then]
      refine bodyPost_ret (results_ct rfl _ _ w.heap.size 31 _ (0, 0) _ rfl (blk_set4 _ _ _ _ HBLK.out) Tryz.underlying31 rfl (by kernel_rfl)) rfl ?_
      refine rpost_some ts i w _ _ _ K1 X1 Z1 A1 m1 c1 t k (below_set4 (below_pre B1.out (Nat.le_refl _)) _ _ _ _ (Nat.le_refl _)) hk hkn HO.out rfl ?_
      exact HR.out.keep (fun g hg => by simp at hg ⊢; omega) (fun g hg => heap_set4 _ _ _ _ _ _ _ (by simp at hg; omega))
  · have hlt := isAt_lt _ _ _ _ HQ.out
    have hk2 := HQ.out
    rw [isAt_at ts i 2 [] hlt] at hk2
    simp at hk2
    obtain ⟨g, c, rfl, h0, h1, _⟩ := hv.at_ i hlt
    have hgl := hv.lt (by omega)
    obtain ⟨X, hX⟩ : ∃ X : ByteArray, ⟨ts[i].text.toArray⟩ = X := ⟨_, rfl⟩
    obtain ⟨n, hN⟩ : ∃ n, ts.length = n := ⟨_, rfl⟩
    have HO : Hid (app (f + 1) (ts.drop i) = (args f (ts.drop (i + 1))).map fun x => (.con X.data.toList x.1, x.2)) := by
      refine hidE ?_
      rw [drop_tok ts i hlt, app, ← hX]
      simp only [if_pos hk2]
    have HN := hidE hN
    rw [hX] at h1
    rw [HO.out]
    clear hX h0 hv HQ hk2
    have hlt' : i < n := by omega
    obtain ⟨i0, hi0, hz0, hz1, hz2⟩ := info_parts ref2_info
    rw [hN] at hn hi hf HIH HV hIs ⊢
    clear hN HO
    go_enter Tryz.func79, Tryz.ntmps79
    go_wp2_with (go_at_call 78; refine (hIs _ (HV.out.alloc _)).mono ?_; rintro e w2 ⟨rfl, rfl⟩)
    go_loopg [8] (n - (i + 1)) (fun gg vk wr => HeadA ts f n i X w gg vk wr)
    case atStart =>
      refine ⟨i + 1, f, [], .slice none 0 0, rfl, by go_num, by omega, by omega, by omega, Nat.le_refl _, hidE (by simp), by simp, Built.nil _ _ _ _, ?_, ?_, ((Below.refl _ w).alloc (Nat.le_refl _) _).alloc (by simp) _⟩
      · exact heap_alloc2_new _ _ _
      · exact heap_alloc2_old _ _ _
    case round =>
      obtain ⟨k, f', done, v', rfl, rfl, hik, hkn, hf1, hf2, hargs, hdl, hbuilt, hb1, hb0, hbel⟩ := hrel
      obtain ⟨f1, rfl⟩ : ∃ f1, f' = f1 + 1 := ⟨f' - 1, by omega⟩
      obtain ⟨vs, hown, hrow⟩ := hbuilt
      obtain ⟨A0, c0, rfl⟩ := own_shape hown
      have hvt := HV.out.below hbel
      have HVT := hidE hvt
      have HOWN := hidE hown
      have HROW := hidE hrow
      have HB1 := hidE hb1
      have HB0 := hidE hb0
      have HBEL := hidE hbel
      have hown2 := hown.lt
      have HLT := hidE hown2
      obtain ⟨a0, a1, a2, a3, r0, r1, r2, r3, hlw⟩ := blk_facts4 hb0
      obtain ⟨p0, p1, p2, p3, s0, s1, s2, s3, hlx⟩ := blk_facts4 hb1
      by_cases hkl : k < n
      · have hkt : k < ts.length := by rw [HN.out]; exact hkl
        obtain ⟨e0, e1⟩ := hvt.cells k hkt
        obtain ⟨Y, hY⟩ : ∃ Y : ByteArray, ⟨ts[k].text.toArray⟩ = Y := ⟨_, rfl⟩
        rw [hY] at e1
        by_cases hat : atomic ts[k] = true
        · have hw := atomic_ways _ Y hY hat
          have HAT := hidE hat
          obtain ⟨m, hm⟩ : ∃ m, ts[k].kind = m := ⟨_, rfl⟩
          rw [hm] at e0 hw
          have hglw : g < wr.heap.size := by have := hbel.size; omega
          clear hY hat hm hvt hown hrow hb1 hb0 hbel hown2
          rcases hw with d1 | ⟨d1, d5⟩ | ⟨d1, d5, d2⟩ | ⟨d1, d5, d2, dX⟩
          · go_wp2_with fail
            refine (HIH.out f1 (by omega) wr k HVT.out (by omega) (by omega)).mono ?_
            rintro e w1 ⟨b1, K1, X1, Z1, A1, m1, c1, hcases⟩
            have hb0 := HB0.out.below b1 hlw
            have hb1 := HB1.out.below b1 hlx
            obtain ⟨a0, a1, a2, a3, r0, r1, r2, r3, hlw1⟩ := blk_facts4 hb0
            obtain ⟨p0, p1, p2, p3, s0, s1, s2, s3, hlx1⟩ := blk_facts4 hb1
            have HC0 := hidE hb0
            have HC1 := hidE hb1
            have BB1 := hidE b1
            clear b1 hb0 hb1
            rcases hcases with ⟨ho, rfl⟩ | ⟨t, k2, hk, hk2n, ho, rfl, hr⟩
            · have HO : Hid (args f (ts.drop (i + 1)) = none) := hidE (hargs.out.trans (by rw [args_none f1 ts k hkt HAT.out ho]; rfl))
              clear ho
              go_wp2_with fail
              try simp only [Exit.inBlock, Exit.then]
              refine bodyPost_ret (results_ct rfl _ _ w.heap.size 31 _ (0, 0) _ rfl ((blk_set4 _ _ _ _ HC0.out).alloc _) Tryz.underlying31 rfl (by kernel_rfl)) rfl ?_
              exact rpost_none ts i w _ _ _ 0 ⟨#[]⟩ 0 none 0 0 ((below_set4 (bnext HBEL.out BB1.out (Nat.le_refl _)) _ _ _ _ (Nat.le_refl _)).alloc (by simp; omega) _) (by rw [HO.out]; rfl) rfl
            · have HO := hidE (app_step (hargs.out.trans (by rw [args_some f1 ts k hkt HAT.out t _ ho])))
              have HR := hidE hr
              have hown2 := hidE (((own_below HOWN.out BB1.out).alloc (.cells #[.int .i64 K1, .string X1, .int .i64 Z1, .slice A1 m1 c1] 31)).alloc (.cells #[.int .i64 K1, .string X1, .int .i64 Z1, .slice A1 m1 c1] 31))
              clear ho hr
              go_wp2_with (at_builtin; refine wpList_append_own_at _ rfl (.tmp 75) (.tmp 77) 29 rfl (w.heap.size + 2) 31 i0 _ 4 56 Tryz.underlying29 hi0 hz0 hz1 hz2 rfl (by decide) _ done.length vs rfl hown2.out ⟨w1.heap.size + 1, 0, none⟩ 1 1 [.int .i64 K1, .string X1, .int .i64 Z1, .slice A1 m1 c1] rfl rfl (new_cells' _ _ _ _ (by simp)) (by intro u hu; simp at hu; rcases hu with rfl | rfl | rfl | rfl <;> rfl) (by unfold maxLen; omega) (by omega) (by have := BB1.out.size; have := HBEL.out.size; simp; omega) ?_; intro v2 w3 hown3 hgrow _ hat3; obtain ⟨A2, c2, rfl⟩ := own_shape hown3; have HO3 := hidE hown3; have HG3 := hidE hgrow; have HT3 := hidE hat3; clear hown3 hgrow hat3; have hc1 := ((HC1.out.alloc _).alloc _).grown HG3.out (fun e => by have := HLT.out _ e.symm; omega); have hc0 := ((HC0.out.alloc _).alloc _).grown HG3.out (fun e => by have := HLT.out _ e.symm; omega); obtain ⟨y0, y1, y2, y3, z0, z1, z2, z3, hly⟩ := blk_facts4 hc1; have HD1 := hidE hc1; have HD0 := hidE hc0; clear hc1 hc0)
              go_roundg (n - k2)
              case measure => omega
              case rel =>
                have hb := Built.next (w := wr) (w1 := w1) (fun _ h => h.elim) (by omega) HOWN.out HROW.out BB1.out (HR.out.keep (fun _ h => .inr h) (fun _ _ => rfl)) (((Below.refl _ w1).alloc (Nat.le_refl _) _).alloc (by simp) _) HO3.out HG3.out HT3.out
                have hsz := HBEL.out.size
                have hsz1 := BB1.out.size
                refine ⟨k2, f1, done ++ [t], _, rfl, rfl, by omega, by rw [HN.out] at hk2n; exact hk2n, by omega, by omega, HO, by simp; omega, hb.setCell _ (by simp) (fun h => h), heap_setCell_same _ _ 3 _ _ _ HD1.out, HD0.out.far (by simp) _, ?_⟩
                exact (((bnext HBEL.out BB1.out (Nat.le_refl _)).alloc (by omega) _).alloc (by simp; omega) _ |>.grown HG3.out (by simp; omega) (fun j hj => by have := HLT.out _ hj; omega)).setCell (by simp) _
          · go_wp2_with fail
            refine (HIH.out f1 (by omega) wr k HVT.out (by omega) (by omega)).mono ?_
            rintro e w1 ⟨b1, K1, X1, Z1, A1, m1, c1, hcases⟩
            have hb0 := HB0.out.below b1 hlw
            have hb1 := HB1.out.below b1 hlx
            obtain ⟨a0, a1, a2, a3, r0, r1, r2, r3, hlw1⟩ := blk_facts4 hb0
            obtain ⟨p0, p1, p2, p3, s0, s1, s2, s3, hlx1⟩ := blk_facts4 hb1
            have HC0 := hidE hb0
            have HC1 := hidE hb1
            have BB1 := hidE b1
            clear b1 hb0 hb1
            rcases hcases with ⟨ho, rfl⟩ | ⟨t, k2, hk, hk2n, ho, rfl, hr⟩
            · have HO : Hid (args f (ts.drop (i + 1)) = none) := hidE (hargs.out.trans (by rw [args_none f1 ts k hkt HAT.out ho]; rfl))
              clear ho
              go_wp2_with fail
              try simp only [Exit.inBlock, Exit.then]
              refine bodyPost_ret (results_ct rfl _ _ w.heap.size 31 _ (0, 0) _ rfl ((blk_set4 _ _ _ _ HC0.out).alloc _) Tryz.underlying31 rfl (by kernel_rfl)) rfl ?_
              exact rpost_none ts i w _ _ _ 0 ⟨#[]⟩ 0 none 0 0 ((below_set4 (bnext HBEL.out BB1.out (Nat.le_refl _)) _ _ _ _ (Nat.le_refl _)).alloc (by simp; omega) _) (by rw [HO.out]; rfl) rfl
            · have HO := hidE (app_step (hargs.out.trans (by rw [args_some f1 ts k hkt HAT.out t _ ho])))
              have HR := hidE hr
              have hown2 := hidE (((own_below HOWN.out BB1.out).alloc (.cells #[.int .i64 K1, .string X1, .int .i64 Z1, .slice A1 m1 c1] 31)).alloc (.cells #[.int .i64 K1, .string X1, .int .i64 Z1, .slice A1 m1 c1] 31))
              clear ho hr
              go_wp2_with (at_builtin; refine wpList_append_own_at _ rfl (.tmp 75) (.tmp 77) 29 rfl (w.heap.size + 2) 31 i0 _ 4 56 Tryz.underlying29 hi0 hz0 hz1 hz2 rfl (by decide) _ done.length vs rfl hown2.out ⟨w1.heap.size + 1, 0, none⟩ 1 1 [.int .i64 K1, .string X1, .int .i64 Z1, .slice A1 m1 c1] rfl rfl (new_cells' _ _ _ _ (by simp)) (by intro u hu; simp at hu; rcases hu with rfl | rfl | rfl | rfl <;> rfl) (by unfold maxLen; omega) (by omega) (by have := BB1.out.size; have := HBEL.out.size; simp; omega) ?_; intro v2 w3 hown3 hgrow _ hat3; obtain ⟨A2, c2, rfl⟩ := own_shape hown3; have HO3 := hidE hown3; have HG3 := hidE hgrow; have HT3 := hidE hat3; clear hown3 hgrow hat3; have hc1 := ((HC1.out.alloc _).alloc _).grown HG3.out (fun e => by have := HLT.out _ e.symm; omega); have hc0 := ((HC0.out.alloc _).alloc _).grown HG3.out (fun e => by have := HLT.out _ e.symm; omega); obtain ⟨y0, y1, y2, y3, z0, z1, z2, z3, hly⟩ := blk_facts4 hc1; have HD1 := hidE hc1; have HD0 := hidE hc0; clear hc1 hc0)
              go_roundg (n - k2)
              case measure => omega
              case rel =>
                have hb := Built.next (w := wr) (w1 := w1) (fun _ h => h.elim) (by omega) HOWN.out HROW.out BB1.out (HR.out.keep (fun _ h => .inr h) (fun _ _ => rfl)) (((Below.refl _ w1).alloc (Nat.le_refl _) _).alloc (by simp) _) HO3.out HG3.out HT3.out
                have hsz := HBEL.out.size
                have hsz1 := BB1.out.size
                refine ⟨k2, f1, done ++ [t], _, rfl, rfl, by omega, by rw [HN.out] at hk2n; exact hk2n, by omega, by omega, HO, by simp; omega, hb.setCell _ (by simp) (fun h => h), heap_setCell_same _ _ 3 _ _ _ HD1.out, HD0.out.far (by simp) _, ?_⟩
                exact (((bnext HBEL.out BB1.out (Nat.le_refl _)).alloc (by omega) _).alloc (by simp; omega) _ |>.grown HG3.out (by simp; omega) (fun j hj => by have := HLT.out _ hj; omega)).setCell (by simp) _
          · go_wp2_with fail
            refine (HIH.out f1 (by omega) wr k HVT.out (by omega) (by omega)).mono ?_
            rintro e w1 ⟨b1, K1, X1, Z1, A1, m1, c1, hcases⟩
            have hb0 := HB0.out.below b1 hlw
            have hb1 := HB1.out.below b1 hlx
            obtain ⟨a0, a1, a2, a3, r0, r1, r2, r3, hlw1⟩ := blk_facts4 hb0
            obtain ⟨p0, p1, p2, p3, s0, s1, s2, s3, hlx1⟩ := blk_facts4 hb1
            have HC0 := hidE hb0
            have HC1 := hidE hb1
            have BB1 := hidE b1
            clear b1 hb0 hb1
            rcases hcases with ⟨ho, rfl⟩ | ⟨t, k2, hk, hk2n, ho, rfl, hr⟩
            · have HO : Hid (args f (ts.drop (i + 1)) = none) := hidE (hargs.out.trans (by rw [args_none f1 ts k hkt HAT.out ho]; rfl))
              clear ho
              go_wp2_with fail
              try simp only [Exit.inBlock, Exit.then]
              refine bodyPost_ret (results_ct rfl _ _ w.heap.size 31 _ (0, 0) _ rfl ((blk_set4 _ _ _ _ HC0.out).alloc _) Tryz.underlying31 rfl (by kernel_rfl)) rfl ?_
              exact rpost_none ts i w _ _ _ 0 ⟨#[]⟩ 0 none 0 0 ((below_set4 (bnext HBEL.out BB1.out (Nat.le_refl _)) _ _ _ _ (Nat.le_refl _)).alloc (by simp; omega) _) (by rw [HO.out]; rfl) rfl
            · have HO := hidE (app_step (hargs.out.trans (by rw [args_some f1 ts k hkt HAT.out t _ ho])))
              have HR := hidE hr
              have hown2 := hidE (((own_below HOWN.out BB1.out).alloc (.cells #[.int .i64 K1, .string X1, .int .i64 Z1, .slice A1 m1 c1] 31)).alloc (.cells #[.int .i64 K1, .string X1, .int .i64 Z1, .slice A1 m1 c1] 31))
              clear ho hr
              go_wp2_with (at_builtin; refine wpList_append_own_at _ rfl (.tmp 75) (.tmp 77) 29 rfl (w.heap.size + 2) 31 i0 _ 4 56 Tryz.underlying29 hi0 hz0 hz1 hz2 rfl (by decide) _ done.length vs rfl hown2.out ⟨w1.heap.size + 1, 0, none⟩ 1 1 [.int .i64 K1, .string X1, .int .i64 Z1, .slice A1 m1 c1] rfl rfl (new_cells' _ _ _ _ (by simp)) (by intro u hu; simp at hu; rcases hu with rfl | rfl | rfl | rfl <;> rfl) (by unfold maxLen; omega) (by omega) (by have := BB1.out.size; have := HBEL.out.size; simp; omega) ?_; intro v2 w3 hown3 hgrow _ hat3; obtain ⟨A2, c2, rfl⟩ := own_shape hown3; have HO3 := hidE hown3; have HG3 := hidE hgrow; have HT3 := hidE hat3; clear hown3 hgrow hat3; have hc1 := ((HC1.out.alloc _).alloc _).grown HG3.out (fun e => by have := HLT.out _ e.symm; omega); have hc0 := ((HC0.out.alloc _).alloc _).grown HG3.out (fun e => by have := HLT.out _ e.symm; omega); obtain ⟨y0, y1, y2, y3, z0, z1, z2, z3, hly⟩ := blk_facts4 hc1; have HD1 := hidE hc1; have HD0 := hidE hc0; clear hc1 hc0)
              go_roundg (n - k2)
              case measure => omega
              case rel =>
                have hb := Built.next (w := wr) (w1 := w1) (fun _ h => h.elim) (by omega) HOWN.out HROW.out BB1.out (HR.out.keep (fun _ h => .inr h) (fun _ _ => rfl)) (((Below.refl _ w1).alloc (Nat.le_refl _) _).alloc (by simp) _) HO3.out HG3.out HT3.out
                have hsz := HBEL.out.size
                have hsz1 := BB1.out.size
                refine ⟨k2, f1, done ++ [t], _, rfl, rfl, by omega, by rw [HN.out] at hk2n; exact hk2n, by omega, by omega, HO, by simp; omega, hb.setCell _ (by simp) (fun h => h), heap_setCell_same _ _ 3 _ _ _ HD1.out, HD0.out.far (by simp) _, ?_⟩
                exact (((bnext HBEL.out BB1.out (Nat.le_refl _)).alloc (by omega) _).alloc (by simp; omega) _ |>.grown HG3.out (by simp; omega) (fun j hj => by have := HLT.out _ hj; omega)).setCell (by simp) _
          · go_wp2_with fail
            refine (HIH.out f1 (by omega) wr k HVT.out (by omega) (by omega)).mono ?_
            rintro e w1 ⟨b1, K1, X1, Z1, A1, m1, c1, hcases⟩
            have hb0 := HB0.out.below b1 hlw
            have hb1 := HB1.out.below b1 hlx
            obtain ⟨a0, a1, a2, a3, r0, r1, r2, r3, hlw1⟩ := blk_facts4 hb0
            obtain ⟨p0, p1, p2, p3, s0, s1, s2, s3, hlx1⟩ := blk_facts4 hb1
            have HC0 := hidE hb0
            have HC1 := hidE hb1
            have BB1 := hidE b1
            clear b1 hb0 hb1
            rcases hcases with ⟨ho, rfl⟩ | ⟨t, k2, hk, hk2n, ho, rfl, hr⟩
            · have HO : Hid (args f (ts.drop (i + 1)) = none) := hidE (hargs.out.trans (by rw [args_none f1 ts k hkt HAT.out ho]; rfl))
              clear ho
              go_wp2_with fail
              try simp only [Exit.inBlock, Exit.then]
              refine bodyPost_ret (results_ct rfl _ _ w.heap.size 31 _ (0, 0) _ rfl ((blk_set4 _ _ _ _ HC0.out).alloc _) Tryz.underlying31 rfl (by kernel_rfl)) rfl ?_
              exact rpost_none ts i w _ _ _ 0 ⟨#[]⟩ 0 none 0 0 ((below_set4 (bnext HBEL.out BB1.out (Nat.le_refl _)) _ _ _ _ (Nat.le_refl _)).alloc (by simp; omega) _) (by rw [HO.out]; rfl) rfl
            · have HO := hidE (app_step (hargs.out.trans (by rw [args_some f1 ts k hkt HAT.out t _ ho])))
              have HR := hidE hr
              have hown2 := hidE (((own_below HOWN.out BB1.out).alloc (.cells #[.int .i64 K1, .string X1, .int .i64 Z1, .slice A1 m1 c1] 31)).alloc (.cells #[.int .i64 K1, .string X1, .int .i64 Z1, .slice A1 m1 c1] 31))
              clear ho hr
              go_wp2_with (at_builtin; refine wpList_append_own_at _ rfl (.tmp 75) (.tmp 77) 29 rfl (w.heap.size + 2) 31 i0 _ 4 56 Tryz.underlying29 hi0 hz0 hz1 hz2 rfl (by decide) _ done.length vs rfl hown2.out ⟨w1.heap.size + 1, 0, none⟩ 1 1 [.int .i64 K1, .string X1, .int .i64 Z1, .slice A1 m1 c1] rfl rfl (new_cells' _ _ _ _ (by simp)) (by intro u hu; simp at hu; rcases hu with rfl | rfl | rfl | rfl <;> rfl) (by unfold maxLen; omega) (by omega) (by have := BB1.out.size; have := HBEL.out.size; simp; omega) ?_; intro v2 w3 hown3 hgrow _ hat3; obtain ⟨A2, c2, rfl⟩ := own_shape hown3; have HO3 := hidE hown3; have HG3 := hidE hgrow; have HT3 := hidE hat3; clear hown3 hgrow hat3; have hc1 := ((HC1.out.alloc _).alloc _).grown HG3.out (fun e => by have := HLT.out _ e.symm; omega); have hc0 := ((HC0.out.alloc _).alloc _).grown HG3.out (fun e => by have := HLT.out _ e.symm; omega); obtain ⟨y0, y1, y2, y3, z0, z1, z2, z3, hly⟩ := blk_facts4 hc1; have HD1 := hidE hc1; have HD0 := hidE hc0; clear hc1 hc0)
              go_roundg (n - k2)
              case measure => omega
              case rel =>
                have hb := Built.next (w := wr) (w1 := w1) (fun _ h => h.elim) (by omega) HOWN.out HROW.out BB1.out (HR.out.keep (fun _ h => .inr h) (fun _ _ => rfl)) (((Below.refl _ w1).alloc (Nat.le_refl _) _).alloc (by simp) _) HO3.out HG3.out HT3.out
                have hsz := HBEL.out.size
                have hsz1 := BB1.out.size
                refine ⟨k2, f1, done ++ [t], _, rfl, rfl, by omega, by rw [HN.out] at hk2n; exact hk2n, by omega, by omega, HO, by simp; omega, hb.setCell _ (by simp) (fun h => h), heap_setCell_same _ _ 3 _ _ _ HD1.out, HD0.out.far (by simp) _, ?_⟩
                exact (((bnext HBEL.out BB1.out (Nat.le_refl _)).alloc (by omega) _).alloc (by simp; omega) _ |>.grown HG3.out (by simp; omega) (fun j hj => by have := HLT.out _ hj; omega)).setCell (by simp) _
        · have hat : atomic ts[k] = false := by simpa using hat
          have HO : Hid (args f (ts.drop (i + 1)) = some (done, ts.drop k)) := hidE (hargs.out.trans (by rw [args_stop f1 ts k (fun _ => hat)]; simp))
          have HARG := hidE (Built.args (t := .con X.data.toList done) (show Built _ _ _ wr (kids (.con X.data.toList done)) _ from ⟨vs, hown, hrow⟩)).2
          obtain ⟨d1, d5, d2, dX⟩ := atomic_not _ Y hY hat
          obtain ⟨m, hm⟩ : ∃ m, ts[k].kind = m := ⟨_, rfl⟩
          rw [hm] at e0 d1 d2 d5
          have hglw : g < wr.heap.size := by have := hbel.size; omega
          clear hY hat hm hvt hown hrow hb1 hb0 hbel hown2
          go_wp2_with fail
          try simp only [Exit.inBlock, Exit.then]
          refine bodyPost_ret (results_ct rfl _ _ w.heap.size 31 _ (0, 0) _ rfl (blk_set4 _ _ _ _ HB0.out) Tryz.underlying31 rfl (by kernel_rfl)) rfl ?_
          refine rpost_some ts i w _ _ _ 3 X 0 A0 done.length c0 (.con X.data.toList done) k (below_set4 HBEL.out _ _ _ _ (Nat.le_refl _)) hik (by rw [HN.out]; exact hkn) (by rw [HO.out]; rfl) rfl ?_
          refine ⟨A0, c0, by rw [nmB, Lib.mk_data]; rfl, Args.keep (fun g hg => ?_) (fun g hg => heap_set4 _ _ _ _ _ _ _ ?_) _ _ HARG.out⟩
          · rcases hg with hg | hg
            · exact hg.elim
            · simp; omega
          · rcases hg with hg | hg
            · exact hg.elim
            · omega
      · have HO : Hid (args f (ts.drop (i + 1)) = some (done, ts.drop k)) := hidE (hargs.out.trans (by rw [args_stop f1 ts k (fun h => absurd h (by rw [HN.out]; omega))]; simp))
        have HARG := hidE (Built.args (t := .con X.data.toList done) (show Built _ _ _ wr (kids (.con X.data.toList done)) _ from ⟨vs, hown, hrow⟩)).2
        clear hvt hown hrow hb1 hb0 hbel hown2
        go_wp2_with fail
        try simp only [Exit.inBlock, Exit.then]
        refine bodyPost_ret (results_ct rfl _ _ w.heap.size 31 _ (0, 0) _ rfl (blk_set4 _ _ _ _ HB0.out) Tryz.underlying31 rfl (by kernel_rfl)) rfl ?_
        refine rpost_some ts i w _ _ _ 3 X 0 A0 done.length c0 (.con X.data.toList done) k (below_set4 HBEL.out _ _ _ _ (Nat.le_refl _)) hik (by rw [HN.out]; exact hkn) (by rw [HO.out]; rfl) rfl ?_
        refine ⟨A0, c0, by rw [nmB, Lib.mk_data]; rfl, Args.keep (fun g hg => ?_) (fun g hg => heap_set4 _ _ _ _ _ _ _ ?_) _ _ HARG.out⟩
        · rcases hg with hg | hg
          · exact hg.elim
          · simp; omega
        · rcases hg with hg | hg
          · exact hg.elim
          · omega

end Go.Proofs.YthgkpmgcikopnaaGreatDoor

/-
  The walk over Read of the document's answer for types, where no for all begins.
-/
namespace Go.Proofs.YthgkpmgcikopnaaGreatDoor
open Go.RowKit Lx Tx
set_option maxRecDepth 100000

set_option maxHeartbeats 1600000 in
theorem ref2_read_app (f : Nat) (ts : List Tok) (v : Value) (w : World) (i : Nat) (hv : RdT w v ts) (hn : ts.length ≤ 100000) (hi : i ≤ ts.length) (hf : 4 * (ts.length - i) + 4 ≤ f + 1) (hq : isAt ts i 3 wForall = false)
    (IHA : ∀ (w : World) (i : Nat), RdT w v ts → i ≤ ts.length → 4 * (ts.length - i) + 3 ≤ f → Calls Tryz.prog 79 #[v, .int .i64 i] w (RPost ts i w (app f (ts.drop i))))
    (IHR : ∀ (w : World) (i : Nat), RdT w v ts → i ≤ ts.length → 4 * (ts.length - i) + 4 ≤ f → Calls Tryz.prog 42 #[v, .int .i64 i] w (RPost ts i w (read f (ts.drop i)))) :
    Calls Tryz.prog 42 #[v, .int .i64 i] w (RPost ts i w (read (f + 1) (ts.drop i))) := by
  have hIs : ∀ w, RdT w v ts → Calls Tryz.prog 78 #[v, .int .i64 i, .int .i64 3, .string ⟨#[102, 111, 114, 97, 108, 108]⟩] w fun e w' => e = .returned (.bool false) ∧ w = w' := by
    intro w hv
    rw [← hq]
    exact ref2_is _ ts i 3 ⟨#[102, 111, 114, 97, 108, 108]⟩ 3 rfl w hv
  have HO := hidE (read_arrow f ts i hq)
  obtain ⟨O, hO⟩ : ∃ O, read (f + 1) (ts.drop i) = O := ⟨_, rfl⟩
  rw [hO]
  rw [hO] at HO
  have HV := hidE hv
  have HA := hidE IHA
  have HR := hidE IHR
  clear hq hO hv IHA IHR
  go_enter Tryz.func42, Tryz.ntmps42
  go_wp2_with (go_at_call 78; refine (hIs _ (HV.out.alloc _)).mono ?_; rintro e w2 ⟨rfl, rfl⟩)
  go_at_call 79
  refine (HA.out _ i (HV.out.alloc _) hi (by omega)).mono ?_
  rintro e w1 ⟨b1, K1, X1, Z1, A1, m1, c1, hcases⟩
  have hblk : Blk w1 w.heap.size 31 #[.int .i64 0, .string ⟨#[]⟩, .int .i64 0, .slice none 0 0] := Blk.below (heap_alloc_new _ _) b1 (by simp)
  have HBLK := hidE hblk
  have B1 := hidE b1
  obtain ⟨a0, a1, a2, a3, r0, r1, r2, r3, hlw⟩ := blk_facts4 hblk
  clear hblk b1
  rcases hcases with ⟨ho, rfl⟩ | ⟨t, k, hk, hkn, ho, rfl, hr⟩
  · have HO : Hid (O = none) := hidE (HO.out.trans (by rw [ho]))
    clear ho
    go_wp2_with fail
    try simp only [Exit.inBlock, Exit.then]
    refine bodyPost_ret (results_ct rfl _ _ w.heap.size 31 _ (0, 0) _ rfl ((blk_set4 _ _ _ _ HBLK.out).alloc _) Tryz.underlying31 rfl (by kernel_rfl)) rfl ?_
    exact rpost_none ts i w _ _ _ 0 ⟨#[]⟩ 0 none 0 0 ((below_set4 (below_pre B1.out (Nat.le_refl _)) _ _ _ _ (Nat.le_refl _)).alloc (by simp; omega) _) HO.out rfl
  · obtain ⟨q, hq⟩ : ∃ q, isAt ts k 6 [45, 62] = q := ⟨_, rfl⟩
    have HQ := hidE hq
    have hIs2 : ∀ w, RdT w v ts → Calls Tryz.prog 78 #[v, .int .i64 k, .int .i64 6, .string ⟨#[45, 62]⟩] w fun e w' => e = .returned (.bool q) ∧ w = w' := by
      intro w hv
      rw [← hq]
      exact ref2_is _ ts k 6 ⟨#[45, 62]⟩ 6 rfl w hv
    clear hq
    have HO : Hid (O = match eat (isSign · [45, 62]) (ts.drop k) with | none => some (t, ts.drop k) | some r2 => (read f r2).map fun x => (.fn t x.1, x.2)) := hidE (HO.out.trans (by rw [ho]; rfl))
    have HT := hidE hr
    clear ho hr
    cases q
    · have HO : Hid (O = some (t, ts.drop k)) := hidE (HO.out.trans (by rw [eat_sign _ _ _ (by simp), HQ.out, if_neg (by simp)]))
      go_wp2_with (go_at_call 78; refine (hIs2 _ (((HV.out.alloc _).below B1.out).alloc _)).mono ?_; rintro e w2 ⟨rfl, rfl⟩)
      try simp only [Exit.inBlock, Exit.then]
      refine bodyPost_ret (results_ct rfl _ _ w.heap.size 31 _ (0, 0) _ rfl ((blk_set4 _ _ _ _ HBLK.out).alloc _) Tryz.underlying31 rfl (by kernel_rfl)) rfl ?_
      refine rpost_some ts i w _ _ _ K1 X1 Z1 A1 m1 c1 t k ((below_set4 (below_pre B1.out (Nat.le_refl _)) _ _ _ _ (Nat.le_refl _)).alloc (by simp; omega) _) hk hkn HO.out rfl ?_
      exact HT.out.keep (fun g hg => by simp at hg ⊢; omega) (fun g hg => by simp at hg; rw [Below.heap_alloc _ _ _ (by simp; omega)]; exact heap_set4 _ _ _ _ _ _ _ (by omega))
    · have hkl := isAt_lt _ _ _ _ HQ.out
      have HO : Hid (O = (read f (ts.drop (k + 1))).map fun x => (.fn t x.1, x.2)) := hidE (HO.out.trans (by rw [eat_sign _ _ _ (by simp), HQ.out, if_pos rfl]))
      go_wp2_with (go_at_call 78; refine (hIs2 _ (((HV.out.alloc _).below B1.out).alloc _)).mono ?_; rintro e w2 ⟨rfl, rfl⟩)
      have hV1 := hidE ((((HV.out.alloc (.cells #[.int .i64 0, .string ⟨#[]⟩, .int .i64 0, .slice none 0 0] 31)).below B1.out).alloc (.cells #[.int .i64 K1, .string X1, .int .i64 Z1, .slice A1 m1 c1] 31)))
      refine (HR.out _ (k + 1) hV1.out (by omega) (by omega)).mono ?_
      rintro e w3 ⟨b3, K2, X2, Z2, A2, m2, c2, hcases⟩
      have hb12 : Blk w3 w1.heap.size 31 #[.int .i64 K1, .string X1, .int .i64 Z1, .slice A1 m1 c1] := Blk.below (heap_alloc_new _ _) b3 (by simp)
      have hb0 : Blk w3 w.heap.size 31 #[.int .i64 0, .string ⟨#[]⟩, .int .i64 0, .slice none 0 0] := Blk.below (HBLK.out.alloc _) b3 (by simp; omega)
      obtain ⟨a0, a1, a2, a3, r0, r1, r2, r3, hlw3⟩ := blk_facts4 hb0
      obtain ⟨p0, p1, p2, p3, s0, s1, s2, s3, hlx3⟩ := blk_facts4 hb12
      have HB0 := hidE hb0
      have B3 := hidE b3
      have B13 := hidE (below_pre b3 (Nat.le_refl _))
      have hbel := hidE (bnext (below_pre B1.out (Nat.le_refl _)) B13.out (Nat.le_refl _))
      clear hb12 hb0 b3
      rcases hcases with ⟨ho, rfl⟩ | ⟨u, k2, hk2, hkn2, ho, rfl, hr⟩
      · have HO : Hid (O = none) := hidE (HO.out.trans (by rw [ho]; rfl))
        clear ho
        go_wp2_with fail
        try simp only [Exit.inBlock, Exit.then]
        refine bodyPost_ret (results_ct rfl _ _ w.heap.size 31 _ (0, 0) _ rfl (((blk_set4 _ _ _ _ HB0.out).alloc _).alloc _) Tryz.underlying31 rfl (by kernel_rfl)) rfl ?_
        exact rpost_none ts i w _ _ _ 4 ⟨#[]⟩ 0 _ 2 2 (((below_set4 hbel.out _ _ _ _ (Nat.le_refl _)).alloc (by simp; omega) _).alloc (by simp; omega) _) HO.out rfl
      · have HO : Hid (O = some (.fn t u, ts.drop k2)) := hidE (HO.out.trans (by rw [ho]; rfl))
        have HU := hidE hr
        clear ho hr
        go_wp2_with fail
        try simp only [Exit.inBlock, Exit.then]
        refine bodyPost_ret (results_ct rfl _ _ w.heap.size 31 _ (0, 0) _ rfl (((blk_set4 _ _ _ _ HB0.out).alloc _).alloc _) Tryz.underlying31 rfl (by kernel_rfl)) rfl ?_
        refine rpost_some ts i w _ _ _ 4 ⟨#[]⟩ 0 (some ⟨w3.heap.size + 1, 0, none⟩) 2 2 (.fn t u) k2 (((below_set4 hbel.out _ _ _ _ (Nat.le_refl _)).alloc (by simp; omega) _).alloc (by simp; omega) _) (by omega) hkn2 HO.out rfl ?_
        have s3 := B3.out.size
        simp at s3
        refine fn_cells (K1 := K1) (X1 := X1) (Z1 := Z1) (A1 := A1) (m1 := m1) (c1 := c1) (K2 := K2) (X2 := X2) (Z2 := Z2) (A2 := A2) (m2 := m2) (c2 := c2) ?_ ?_ (by simp; omega) ?_
        · exact HT.out.keep (fun g hg => by simp at hg ⊢; omega) (fun g hg => by
            simp at hg
            rw [Below.heap_alloc _ _ _ (by simp; omega), Below.heap_alloc _ _ _ (by simp; omega), heap_set4 _ _ _ _ _ _ _ (by omega)]
            exact B13.out.block g hg.2)
        · exact HU.out.keep (fun g hg => by simp at hg ⊢; omega) (fun g hg => by
            simp at hg
            rw [Below.heap_alloc _ _ _ (by simp; omega), Below.heap_alloc _ _ _ (by simp; omega), heap_set4 _ _ _ _ _ _ _ (by omega)])
        · intro j x hx
          have := new_cells' ((((((w3.setCell ⟨w.heap.size, 0, none⟩ (.int .i64 4)).setCell ⟨w.heap.size, 1, none⟩ (.string ⟨#[]⟩)).setCell ⟨w.heap.size, 2, none⟩ (.int .i64 0)).setCell ⟨w.heap.size, 3, none⟩ (.slice (some ⟨w3.heap.size + 1, 0, none⟩) 2 2))).alloc (.cells #[.int .i64 K2, .string X2, .int .i64 Z2, .slice A2 m2 c2] 31)) #[.int .i64 K1, .string X1, .int .i64 Z1, .slice A1 m1 c1, .int .i64 K2, .string X2, .int .i64 Z2, .slice A2 m2 c2] 31 (w3.heap.size + 1) (by simp) j x hx
          rw [add_zero_addr] at this
          exact this

end Go.Proofs.YthgkpmgcikopnaaGreatDoor

/-
  The walk over Read of the document's answer for types, where a for all begins; and all three by induction.
-/
namespace Go.Proofs.YthgkpmgcikopnaaGreatDoor
open Go.RowKit Lx Tx
set_option maxRecDepth 100000

/-- what holds at the head of each round of the second loop -/
def HeadR (i K0 b9 : Nat) (V : List (List UInt8)) (o : Option Ty) (w : World) (gg : Nat) (vj : Value) (wr : World) : Prop :=
  ∃ j K X Z A m c, gg = j - i ∧ vj = .int .i64 j ∧ i ≤ j ∧ j < K0 ∧ Blk wr b9 31 #[.int .i64 K, .string X, .int .i64 Z, .slice A m c] ∧
    Blk wr w.heap.size 31 #[.int .i64 0, .string ⟨#[]⟩, .int .i64 0, .slice none 0 0] ∧ Below w.heap.size w wr ∧
    ∀ t0, o = some t0 → RdV (fun g => w.heap.size < g ∧ g < wr.heap.size ∧ g ≠ b9) wr (alls (V.drop (j - i)) t0) (.agg #[.int .i64 K, .string X, .int .i64 Z, .slice A m c])

set_option maxHeartbeats 1600000 in
theorem ref2_read_all (f : Nat) (ts : List Tok) (v : Value) (w : World) (i : Nat) (hv : RdT w v ts) (hn : ts.length ≤ 100000) (hf : 4 * (ts.length - i) + 4 ≤ f + 1) (hq : isAt ts i 3 wForall = true)
    (IHR : ∀ (w : World) (i : Nat), RdT w v ts → i ≤ ts.length → 4 * (ts.length - i) + 4 ≤ f → Calls Tryz.prog 42 #[v, .int .i64 i] w (RPost ts i w (read f (ts.drop i)))) :
    Calls Tryz.prog 42 #[v, .int .i64 i] w (RPost ts i w (read (f + 1) (ts.drop i))) := by
  have hlt := isAt_lt _ _ _ _ hq
  have hIs : ∀ w, RdT w v ts → Calls Tryz.prog 78 #[v, .int .i64 i, .int .i64 3, .string ⟨#[102, 111, 114, 97, 108, 108]⟩] w fun e w' => e = .returned (.bool true) ∧ w = w' := by
    intro w hv
    rw [← hq]
    exact ref2_is _ ts i 3 ⟨#[102, 111, 114, 97, 108, 108]⟩ 3 rfl w hv
  obtain ⟨hv1, hv2, hv3, hv4⟩ := vars_at ts ts.length (i + 1) (by omega) (by omega)
  have HO0 := read_all f ts i hq _ rfl hv3
  generalize hVe : (vars (ts.drop (i + 1))).1 = V at *
  obtain ⟨O, hO⟩ : ∃ O, read (f + 1) (ts.drop i) = O := ⟨_, rfl⟩
  rw [hO]
  rw [hO] at HO0
  obtain ⟨K0, hK0⟩ : ∃ K0, i + 1 + V.length = K0 := ⟨_, rfl⟩
  rw [hK0] at hv2 hv4 HO0
  have HO := hidE HO0
  have HV1 : Hid (∀ k, i + 1 ≤ k → k < K0 → ∃ h : k < ts.length, ts[k].kind = 1 ∧ ts[k].text = V.getD (k - (i + 1)) []) := by
    refine hidE fun k h1 h2 => ?_
    obtain ⟨d, rfl⟩ : ∃ d, k = i + 1 + d := ⟨k - (i + 1), by omega⟩
    obtain ⟨h, e1, e2⟩ := hv1 d (by omega)
    exact ⟨h, e1, by rw [e2, Nat.add_sub_cancel_left, List.getD_eq_getElem?_getD, List.getElem?_eq_getElem (by omega)]; rfl⟩
  have HV4 := hidE hv4
  have HK0 := hidE hK0
  have hKi : i + 1 ≤ K0 := by omega
  obtain ⟨q, hq2⟩ : ∃ q, isAt ts K0 6 [46] = q := ⟨_, rfl⟩
  have HQ := hidE hq2
  have hIs2 : ∀ w, RdT w v ts → Calls Tryz.prog 78 #[v, .int .i64 K0, .int .i64 6, .string ⟨#[46]⟩] w fun e w' => e = .returned (.bool q) ∧ w = w' := by
    intro w hv
    rw [← hq2]
    exact ref2_is _ ts K0 6 ⟨#[46]⟩ 6 rfl w hv
  clear HO0 hVe hv1 hv3 hv4 hO hq hq2 hK0
  obtain ⟨g, c, rfl, _, _, _⟩ := hv.at_ i hlt
  have hgl := hv.lt (by omega)
  obtain ⟨n, hN⟩ : ∃ n, ts.length = n := ⟨_, rfl⟩
  have HN := hidE hN
  rw [hN] at hv hIs hIs2 hn hf hlt hv2 IHR ⊢
  have HV := hidE hv
  have HR := hidE IHR
  clear hN IHR hv
  go_enter Tryz.func42, Tryz.ntmps42
  go_wp2_with (go_at_call 78; refine (hIs _ (HV.out.alloc _)).mono ?_; rintro e w2 ⟨rfl, rfl⟩)
  go_loopg [7] (K0 - (i + 1)) (fun gg vk wr => ∃ k : Nat, gg = K0 - k ∧ vk = .int .i64 k ∧ wr = w.alloc (.cells #[.int .i64 0, .string ⟨#[]⟩, .int .i64 0, .slice none 0 0] 31) ∧ i + 1 ≤ k ∧ k ≤ K0)
  case atStart => exact ⟨i + 1, rfl, by go_num, rfl, by omega, hKi⟩
  case round =>
    obtain ⟨k, rfl, rfl, rfl, hk1, hk2⟩ := hrel
    by_cases hkK : k < K0
    · obtain ⟨hkn, e1, -⟩ := HV1.out k hk1 hkK
      have e0 := (HV.out.cells k hkn).1
      rw [e1] at e0
      have e0 : w.cell? ⟨g, k * 3, none⟩ = some (.int .i64 1) := e0
      have hkn' : k < n := by omega
      clear e1 hkn
      go_wp2_with fail
      go_roundg (K0 - (k + 1))
      case measure => omega
      case rel => exact ⟨k + 1, rfl, by go_num, rfl, by omega, by omega⟩
    · obtain rfl : k = K0 := by omega
      by_cases hkn : k < n
      · have hkn' : k < ts.length := by rw [HN.out]; exact hkn
        have e0 := (HV.out.cells k hkn').1
        obtain ⟨m, hm⟩ : ∃ m, ts[k].kind = m := ⟨_, rfl⟩
        have d1 := kF m 1 (by rw [← hm]; exact HV4.out hkn')
        rw [hm] at e0
        clear hm hkn'
        cases q
        · have HO : Hid (O = none) := hidE (HO.out.trans (by rw [HQ.out]; simp))
          go_wp2_with (go_at_call 78; refine (hIs2 _ (HV.out.alloc _)).mono ?_; rintro e w2 ⟨rfl, rfl⟩)
          try simp only [Exit.inBlock, Exit.then]
          refine bodyPost_ret (results_ct rfl _ _ w.heap.size 31 _ (0, 0) _ rfl (heap_alloc_new _ _) Tryz.underlying31 rfl (by kernel_rfl)) rfl ?_
          exact rpost_none ts i w _ _ _ 0 ⟨#[]⟩ 0 none 0 0 ((Below.refl _ w).alloc (Nat.le_refl _) _) HO.out rfl
        · by_cases hki : k = i + 1
          · have dk : ((k : Int) == (i : Int) + 1) = true := by simp; omega
            have hVn : V = [] := by cases V with | nil => rfl | cons a b => have := HK0.out; simp at this; omega
            have HO : Hid (O = none) := hidE (HO.out.trans (by rw [if_pos hVn]))
            clear hVn hki
            go_wp2_with (go_at_call 78; refine (hIs2 _ (HV.out.alloc _)).mono ?_; rintro e w2 ⟨rfl, rfl⟩)
            try simp only [Exit.inBlock, Exit.then]
            refine bodyPost_ret (results_ct rfl _ _ w.heap.size 31 _ (0, 0) _ rfl (heap_alloc_new _ _) Tryz.underlying31 rfl (by kernel_rfl)) rfl ?_
            exact rpost_none ts i w _ _ _ 0 ⟨#[]⟩ 0 none 0 0 ((Below.refl _ w).alloc (Nat.le_refl _) _) HO.out rfl
          · have dk : ((k : Int) == (i : Int) + 1) = false := by rw [Bool.eq_false_iff]; intro h; simp at h; omega
            have hVn : V ≠ [] := by intro e; have := HK0.out; rw [e] at this; simp at this; omega
            have HO : Hid (O = (read f (ts.drop (k + 1))).map fun x => (alls V x.1, x.2)) := hidE (HO.out.trans (by rw [if_neg hVn, HQ.out, if_pos rfl]))
            clear hVn
            go_wp2_with (go_at_call 78; refine (hIs2 _ (HV.out.alloc _)).mono ?_; rintro e w2 ⟨rfl, rfl⟩)
            refine (HR.out _ (k + 1) (HV.out.alloc _) (by omega) (by omega)).mono ?_
            rintro e w1 ⟨b1, K1, X1, Z1, A1, m1, c1, hcases⟩
            have hb0 : Blk w1 w.heap.size 31 #[.int .i64 0, .string ⟨#[]⟩, .int .i64 0, .slice none 0 0] := Blk.below (heap_alloc_new _ _) b1 (by simp)
            have HB0 := hidE hb0
            have B1 := hidE b1
            have hlw := hb0.lt
            clear hb0 b1
            rcases hcases with ⟨ho, rfl⟩ | ⟨t, k2, hk2, hkn2, ho, rfl, hr⟩
            · have HO : Hid (O = none) := hidE (HO.out.trans (by rw [ho]; rfl))
              clear ho
              go_wp2_with fail
              go_loopg [11] (k - 1 - i) (fun gg vj wr => HeadR i k w1.heap.size V none w gg vj wr)
              case atStart =>
                refine ⟨k - 1, K1, X1, Z1, A1, m1, c1, by omega, by go_num, by omega, by omega, heap_alloc_new _ _, HB0.out.alloc _, (below_pre B1.out (Nat.le_refl _)).alloc (by omega) _, ?_⟩
                intro t0 h; exact absurd h (by simp)
              case round =>
                obtain ⟨j, K, X, Z, A, mm, cc, rfl, rfl, hij, hjK, hb9, hb0, hbel, hrd⟩ := hrel
                obtain ⟨p0, p1, p2, p3, s0, s1, s2, s3, hlx⟩ := blk_facts4 hb9
                obtain ⟨a0, a1, a2, a3, r0, r1, r2, r3, hlw3⟩ := blk_facts4 hb0
                have HB9 := hidE hb9
                have HB0 := hidE hb0
                have HBEL := hidE hbel
                have HRD := hidE hrd
                have hgw : g < wr.heap.size := by have := hbel.size; omega
                clear hb9 hb0 hrd
                by_cases hji : i < j
                · obtain ⟨hjn, -, hjt⟩ := HV1.out j (by omega) (by omega)
                  obtain ⟨-, e1⟩ := (HV.out.below hbel).cells j hjn
                  obtain ⟨Y, hY⟩ : ∃ Y : ByteArray, ⟨ts[j].text.toArray⟩ = Y := ⟨_, rfl⟩
                  rw [hY] at e1
                  have HY : Hid (Y = ⟨(V.getD (j - (i + 1)) []).toArray⟩) := hidE (by rw [← hY, hjt])
                  have hjn' : j < n := by omega
                  clear hbel hjt hY hjn
                  go_wp2_with fail
                  go_region
                  go_wp2_with fail
                  go_roundg (j - 1 - i)
                  case measure => omega
                  case rel =>
                    have hsz := HBEL.out.size
                    have h9 : w.heap.size < w1.heap.size := hlw
                    refine ⟨j - 1, 5, Y, 0, some ⟨wr.heap.size, 0, none⟩, 1, 1, by omega, by go_num, by omega, by omega, ((blk_set4 _ _ _ _ HB9.out).alloc _).drew, ((blk_far4 (by omega) HB0.out).alloc _).drew, ((below_set4 HBEL.out _ _ _ _ (by omega)).alloc (by simp; omega) _).drew, fun t0 h => ?_⟩
                    rw [alls_step V (j - 1 - i) t0 (by have := HK0.out; omega), show j - 1 - i + 1 = j - i by omega]
                    refine all_cells (w := wr) (by rw [HY.out, show j - 1 - i = j - (i + 1) by omega]) (HRD.out t0 h) (fun g hg => ?_) (fun g hg => ?_) ?_ ?_
                    · have := hg.2.1
                      exact ⟨hg.1, by simp; omega, hg.2.2⟩
                    · exact (Below.heap_alloc _ _ _ (by simp; exact hg.2.1)).trans (heap_set4 _ _ _ _ _ _ _ hg.2.2)
                    · exact ⟨by omega, by simp, by omega⟩
                    · intro d u hu
                      have := new_cells' ((((wr.setCell ⟨w1.heap.size, 0, none⟩ (.int .i64 5)).setCell ⟨w1.heap.size, 1, none⟩ (.string Y)).setCell ⟨w1.heap.size, 2, none⟩ (.int .i64 0)).setCell ⟨w1.heap.size, 3, none⟩ (.slice (some ⟨wr.heap.size, 0, none⟩) 1 1)) #[.int .i64 K, .string X, .int .i64 Z, .slice A mm cc] 31 wr.heap.size (by simp) d u hu
                      rw [add_zero_addr] at this
                      exact this
                · clear hbel
                  go_wp2_with fail
                  try simp only [Exit.inBlock, Exit.then]
                  refine bodyPost_ret (results_ct rfl _ _ w.heap.size 31 _ (0, 0) _ rfl (blk_set4 _ _ _ _ HB0.out) Tryz.underlying31 rfl (by kernel_rfl)) rfl ?_
                  exact rpost_none ts i w _ _ _ K X Z A mm cc (below_set4 HBEL.out _ _ _ _ (Nat.le_refl _)) HO.out rfl
            · have HO : Hid (O = some (alls V t, ts.drop k2)) := hidE (HO.out.trans (by rw [ho]; rfl))
              have HT := hidE hr
              clear ho hr
              go_wp2_with fail
              go_loopg [11] (k - 1 - i) (fun gg vj wr => HeadR i k w1.heap.size V (some t) w gg vj wr)
              case atStart =>
                refine ⟨k - 1, K1, X1, Z1, A1, m1, c1, by omega, by go_num, by omega, by omega, heap_alloc_new _ _, HB0.out.alloc _, (below_pre B1.out (Nat.le_refl _)).alloc (by omega) _, ?_⟩
                intro t0 h
                injection h with h
                subst h
                rw [List.drop_eq_nil_of_le (by have := HK0.out; omega)]
                exact HT.out.keep (fun g hg => by simp at hg ⊢; omega) (fun g hg => Below.heap_alloc _ _ _ hg.2)
              case round =>
                obtain ⟨j, K, X, Z, A, mm, cc, rfl, rfl, hij, hjK, hb9, hb0, hbel, hrd⟩ := hrel
                obtain ⟨p0, p1, p2, p3, s0, s1, s2, s3, hlx⟩ := blk_facts4 hb9
                obtain ⟨a0, a1, a2, a3, r0, r1, r2, r3, hlw3⟩ := blk_facts4 hb0
                have HB9 := hidE hb9
                have HB0 := hidE hb0
                have HBEL := hidE hbel
                have HRD := hidE hrd
                have hgw : g < wr.heap.size := by have := hbel.size; omega
                clear hb9 hb0 hrd
                by_cases hji : i < j
                · obtain ⟨hjn, -, hjt⟩ := HV1.out j (by omega) (by omega)
                  obtain ⟨-, e1⟩ := (HV.out.below hbel).cells j hjn
                  obtain ⟨Y, hY⟩ : ∃ Y : ByteArray, ⟨ts[j].text.toArray⟩ = Y := ⟨_, rfl⟩
                  rw [hY] at e1
                  have HY : Hid (Y = ⟨(V.getD (j - (i + 1)) []).toArray⟩) := hidE (by rw [← hY, hjt])
                  have hjn' : j < n := by omega
                  clear hbel hjt hY hjn
                  go_wp2_with fail
                  go_region
                  go_wp2_with fail
                  go_roundg (j - 1 - i)
                  case measure => omega
                  case rel =>
                    have hsz := HBEL.out.size
                    have h9 : w.heap.size < w1.heap.size := hlw
                    refine ⟨j - 1, 5, Y, 0, some ⟨wr.heap.size, 0, none⟩, 1, 1, by omega, by go_num, by omega, by omega, ((blk_set4 _ _ _ _ HB9.out).alloc _).drew, ((blk_far4 (by omega) HB0.out).alloc _).drew, ((below_set4 HBEL.out _ _ _ _ (by omega)).alloc (by simp; omega) _).drew, fun t0 h => ?_⟩
                    rw [alls_step V (j - 1 - i) t0 (by have := HK0.out; omega), show j - 1 - i + 1 = j - i by omega]
                    refine all_cells (w := wr) (by rw [HY.out, show j - 1 - i = j - (i + 1) by omega]) (HRD.out t0 h) (fun g hg => ?_) (fun g hg => ?_) ?_ ?_
                    · have := hg.2.1
                      exact ⟨hg.1, by simp; omega, hg.2.2⟩
                    · exact (Below.heap_alloc _ _ _ (by simp; exact hg.2.1)).trans (heap_set4 _ _ _ _ _ _ _ hg.2.2)
                    · exact ⟨by omega, by simp, by omega⟩
                    · intro d u hu
                      have := new_cells' ((((wr.setCell ⟨w1.heap.size, 0, none⟩ (.int .i64 5)).setCell ⟨w1.heap.size, 1, none⟩ (.string Y)).setCell ⟨w1.heap.size, 2, none⟩ (.int .i64 0)).setCell ⟨w1.heap.size, 3, none⟩ (.slice (some ⟨wr.heap.size, 0, none⟩) 1 1)) #[.int .i64 K, .string X, .int .i64 Z, .slice A mm cc] 31 wr.heap.size (by simp) d u hu
                      rw [add_zero_addr] at this
                      exact this
                · clear hbel
                  go_wp2_with fail
                  try simp only [Exit.inBlock, Exit.then]
                  refine bodyPost_ret (results_ct rfl _ _ w.heap.size 31 _ (0, 0) _ rfl (blk_set4 _ _ _ _ HB0.out) Tryz.underlying31 rfl (by kernel_rfl)) rfl ?_
                  obtain rfl : i = j := by omega
                  have hr := HRD.out t rfl
                  rw [Nat.sub_self, List.drop_zero] at hr
                  refine rpost_some ts i w _ _ _ K X Z A mm cc (alls V t) k2 (below_set4 HBEL.out _ _ _ _ (Nat.le_refl _)) (by omega) hkn2 HO.out rfl ?_
                  exact hr.keep (fun g hg => by simp at hg ⊢; omega) (fun g hg => heap_set4 _ _ _ _ _ _ _ (by omega))
      · cases q
        · have HO : Hid (O = none) := hidE (HO.out.trans (by rw [HQ.out]; simp))
          go_wp2_with (go_at_call 78; refine (hIs2 _ (HV.out.alloc _)).mono ?_; rintro e w2 ⟨rfl, rfl⟩)
          try simp only [Exit.inBlock, Exit.then]
          refine bodyPost_ret (results_ct rfl _ _ w.heap.size 31 _ (0, 0) _ rfl (heap_alloc_new _ _) Tryz.underlying31 rfl (by kernel_rfl)) rfl ?_
          exact rpost_none ts i w _ _ _ 0 ⟨#[]⟩ 0 none 0 0 ((Below.refl _ w).alloc (Nat.le_refl _) _) HO.out rfl
        · exact absurd (isAt_lt _ _ _ _ HQ.out) (by rw [HN.out]; exact hkn)

/-- ALL THREE: what reading leaves -/
theorem ref2_all (ts : List Tok) (v : Value) (hg : AllG ts) (hn : ts.length ≤ 100000) (f : Nat) : ∀ f1, f1 ≤ f →
    (∀ (w : World) (i : Nat), RdT w v ts → i ≤ ts.length → 4 * (ts.length - i) + 4 ≤ f1 → Calls Tryz.prog 42 #[v, .int .i64 i] w (RPost ts i w (read f1 (ts.drop i)))) ∧
    (∀ (w : World) (i : Nat), RdT w v ts → i ≤ ts.length → 4 * (ts.length - i) + 3 ≤ f1 → Calls Tryz.prog 79 #[v, .int .i64 i] w (RPost ts i w (app f1 (ts.drop i)))) ∧
    (∀ (w : World) (i : Nat), RdT w v ts → i ≤ ts.length → 4 * (ts.length - i) + 2 ≤ f1 → Calls Tryz.prog 113 #[v, .int .i64 i] w (RPost ts i w (atom f1 (ts.drop i)))) := by
  induction f with
  | zero =>
    intro f1 h
    exact ⟨fun w i _ _ h2 => by omega, fun w i _ _ h2 => by omega, fun w i _ _ h2 => by omega⟩
  | succ f ih =>
    intro f1 h1
    by_cases h : f1 ≤ f
    · exact ih f1 h
    · obtain rfl : f1 = f + 1 := by omega
      have i0 := ih f (Nat.le_refl _)
      refine ⟨fun w i hv hi hf => ?_, fun w i hv hi hf => ?_, fun w i hv hi hf => ?_⟩
      · cases hq : isAt ts i 3 wForall with
        | true => exact ref2_read_all f ts v w i hv hn hf hq i0.1
        | false => exact ref2_read_app f ts v w i hv hn hi hf hq i0.2.1 i0.1
      · exact ref2_app f ts v w i hv hn hi hf (fun f1 h => (ih f1 h).2.2)
      · exact ref2_atom f ts v w i hv hg hn hi hf i0.1

/-- Read of the document's answer, from the first token on -/
theorem ref2_read (ts : List Tok) (v : Value) (w : World) (hg : AllG ts) (hn : ts.length ≤ 100000) (hv : RdT w v ts) :
    Calls Tryz.prog 42 #[v, .int .i64 0] w (RPost ts 0 w (read (enough ts) ts)) := by
  have := (ref2_all ts v hg hn (enough ts) (enough ts) (Nat.le_refl _)).1 w 0 hv (Nat.zero_le _) (by unfold enough; omega)
  rwa [List.drop_zero] at this

end Go.Proofs.YthgkpmgcikopnaaGreatDoor

/-
  The walk over Print of the document's answer for types: variables, unknowns, constructors.
-/
namespace Go.Proofs.YthgkpmgcikopnaaGreatDoor
open Go.RowKit Lx Tx
set_option maxRecDepth 100000

/-- what Print is to do, for types up to a size -/
def PrintIH (n : Nat) : Prop := ∀ (t : Ty) (S : Nat → Prop) (v : Value) (w : World), t.size ≤ n → Nm t → t.print.length ≤ 10 ^ 12 → RdV S w t v → (∀ g, S g → g < w.heap.size) →
    Calls Tryz.prog 16 #[v] w fun e w' => e = .returned (.string ⟨t.print.toArray⟩) ∧ Below w.heap.size w w'

theorem ref2_print_var (x : List UInt8) (A : Option Addr) (c m : Nat) (w : World) :
    Calls Tryz.prog 16 #[.agg #[.int .i64 1, .string ⟨x.toArray⟩, .int .i64 0, .slice A m c]] w fun e w' => e = .returned (.string ⟨x.toArray⟩) ∧ Below w.heap.size w w' := by
  obtain ⟨X, hX⟩ : ∃ X : ByteArray, ⟨x.toArray⟩ = X := ⟨_, rfl⟩
  rw [hX]
  clear hX
  go_enter Tryz.func16, Tryz.ntmps16
  go_wp2_with fail
  go_ret
  exact ⟨rfl, (Below.refl _ _).alloc (Nat.le_refl _) _⟩

theorem ref2_print_mt (k : Nat) (hk : k ≤ 999999) (X : ByteArray) (A : Option Addr) (c m : Nat) (w : World) :
    Calls Tryz.prog 16 #[.agg #[.int .i64 2, .string X, .int .i64 k, .slice A m c]] w fun e w' => e = .returned (.string ⟨(63 :: dec k).toArray⟩) ∧ Below w.heap.size w w' := by
  have hd := fun w => ref2_dec k w (by omega)
  have hl : (⟨(dec k).toArray⟩ : ByteArray).size ≤ 20 := decF_len 20 20 k (by omega) (by omega)
  have hq := hidE (app_q (dec k))
  obtain ⟨D, hD⟩ : ∃ D : ByteArray, ⟨(dec k).toArray⟩ = D := ⟨_, rfl⟩
  rw [hD] at hd hl hq
  clear hD
  go_enter Tryz.func16, Tryz.ntmps16
  go_wp2_with (go_at_call 51; refine (hd _).mono ?_; rintro e w1 ⟨rfl, b1⟩)
  go_ret
  exact ⟨ret_string hq.out, below_pre b1 (Nat.le_refl _)⟩

set_option maxRecDepth 2000 in
set_option maxHeartbeats 1600000 in
theorem ref2_print_con (n : Nat) (IH : PrintIH n) (h6 : n ≤ 1000000) (c : List UInt8) (l : List Ty) (S : Nat → Prop) (w : World) (A : Option Addr) (cc m : Nat) (hn : (Ty.con c l).size ≤ n + 1) (hnm : Nm (.con c l)) (hlen : (Ty.con c l).print.length ≤ 10 ^ 12)
    (hm : (kids (.con c l)).length = m) (ha : Args S w (.con c l) A) (hS : ∀ g, S g → g < w.heap.size) :
    Calls Tryz.prog 16 #[.agg #[.int .i64 3, .string ⟨c.toArray⟩, .int .i64 0, .slice A m cc]] w fun e w' => e = .returned (.string ⟨(Ty.con c l).print.toArray⟩) ∧ Below w.heap.size w w' := by
  have hp : (Ty.con c l).print = c ++ printL l := by rw [Ty.print]
  rw [hp] at hlen ⊢
  obtain ⟨R, hR⟩ : ∃ R : ByteArray, ⟨(c ++ printL l).toArray⟩ = R := ⟨_, rfl⟩
  have hcl : (⟨c.toArray⟩ : ByteArray).size ≤ 10 ^ 12 := by rw [mk_size]; simp at hlen; omega
  have hm6 : m ≤ 1000000 := by have := kids_len (.con c l); omega
  obtain ⟨C, hC⟩ : ∃ C : ByteArray, ⟨c.toArray⟩ = C := ⟨_, rfl⟩
  have HR := hidE hR
  have HC := hidE hC
  have HIH := hidE IH
  have HN := hidE hn
  have HNM := hidE hnm
  have HL := hidE hlen
  have HM := hidE hm
  have HA := hidE ha
  have HS := hidE hS
  rw [hR]
  rw [hC] at hcl ⊢
  clear hp hR hC IH hn hnm hlen hm ha hS
  go_enter Tryz.func16, Tryz.ntmps16
  go_wp2_with fail
  go_loopg [3, 4] m (fun gg vs vi wr => ∃ (i : Nat) (X : ByteArray), gg = m - i ∧ vs = .string X ∧ vi = .int .i64 i ∧ i ≤ m ∧ Hid (X = ⟨(c ++ printL (l.take i)).toArray⟩) ∧ Below (w.heap.size + 1) (w.alloc (.cells #[.int .i64 3, .string C, .int .i64 0, .slice A m cc] 31)) wr)
  case atStart => exact ⟨0, C, rfl, rfl, rfl, by omega, hidE (by rw [← HC.out]; simp [printL]), Below.refl _ _⟩
  case round =>
    obtain ⟨i, X, rfl, rfl, rfl, hi, hX, hb⟩ := hrel
    have c3 : wr.cell? ⟨w.heap.size, 3, none⟩ = some (.slice A m cc) := (hb.cell (p := ⟨w.heap.size, 3, none⟩) (by simp)).trans (cell_of_row _ _ _ _ _ _ (heap_alloc_new _ _))
    have hXs : X.size ≤ 10 ^ 12 := by
      rw [hX.out, mk_size]
      have := HL.out
      have := printL_take_le l i
      simp at *
      omega
    have HB := hidE hb
    clear hb
    by_cases hlt : i < m
    · obtain ⟨g, u, K1, X1, Z1, A1, n1, c1, rfl, hg, e0, e1, e2, e3, ⟨hu1, hu⟩, hrd, hsz, hK1, hn1⟩ := kid_cells2 (w' := wr) HA.out HM.out hlt (fun g hg => by rw [HB.out.block g (by have := HS.out g hg; omega), Below.heap_alloc _ _ _ (HS.out g hg)])
      obtain ⟨hil, hul⟩ : ∃ h : i < l.length, l[i] = u := ⟨hu1, hu⟩
      have hpu : u.print.length ≤ 10 ^ 12 := by
        have := HL.out
        have := printL_kid l i hil
        rw [hul] at this
        simp at *
        omega
      have hgw : g < wr.heap.size := by have := HB.out.size; have := HS.out g hg; simp at *; omega
      have hcall := hidE (fun w' v hv hs => HIH.out u S v w' (by have := HN.out; omega) (by rw [← hu]; exact nm_kid HNM.out i hu1) hpu hv hs)
      have hst := printL_take l i hil
      rw [hul] at hst
      have hps : (⟨u.print.toArray⟩ : ByteArray).size ≤ 10 ^ 12 := hpu
      obtain ⟨P, hP⟩ : ∃ P : ByteArray, ⟨u.print.toArray⟩ = P := ⟨_, rfl⟩
      have HRDU := hidE hrd
      have HSG : Hid (∀ g, S g → g < wr.heap.size) := hidE (fun g hg => by have := HB.out.size; have := HS.out g hg; simp at *; omega)
      rw [hP] at hcall hps
      cases hbig : u.big with
      | true =>
        have HX : Hid (X ++ ⟨#[32, 40]⟩ ++ P ++ ⟨#[41]⟩ = ⟨(c ++ printL (l.take (i + 1))).toArray⟩) := hidE (by rw [hX.out, ← hP, cat_big, hst, hbig]; simp)
        have hw := big_ways u hbig
        rw [← hK1, ← hn1] at hw
        clear hX hpu hst hbig hP hrd hu hul hK1 hn1
        rcases hw with d4 | ⟨d4, d5⟩ | ⟨d4, d5, d3, dm⟩
        · go_wp2_with (go_at_call 16; refine (hcall.out _ _ (HRDU.out.keep (fun _ h => h) (fun g hg => Below.heap_alloc _ _ _ (HSG.out g hg))) (fun g hg => by have := HSG.out g hg; simp; omega)).mono ?_; rintro e w1 ⟨rfl, b1⟩)
          have HB2 := hidE (bnext HB.out (below_pre b1 (Nat.le_refl _)) (by simp))
          go_roundg (m - (i + 1))
          case measure => omega
          case rel => exact ⟨i + 1, _, rfl, rfl, by go_num, by omega, HX, HB2.out⟩
        · go_wp2_with (go_at_call 16; refine (hcall.out _ _ (HRDU.out.keep (fun _ h => h) (fun g hg => Below.heap_alloc _ _ _ (HSG.out g hg))) (fun g hg => by have := HSG.out g hg; simp; omega)).mono ?_; rintro e w1 ⟨rfl, b1⟩)
          have HB2 := hidE (bnext HB.out (below_pre b1 (Nat.le_refl _)) (by simp))
          go_roundg (m - (i + 1))
          case measure => omega
          case rel => exact ⟨i + 1, _, rfl, rfl, by go_num, by omega, HX, HB2.out⟩
        · go_wp2_with (go_at_call 16; refine (hcall.out _ _ (HRDU.out.keep (fun _ h => h) (fun g hg => Below.heap_alloc _ _ _ (HSG.out g hg))) (fun g hg => by have := HSG.out g hg; simp; omega)).mono ?_; rintro e w1 ⟨rfl, b1⟩)
          have HB2 := hidE (bnext HB.out (below_pre b1 (Nat.le_refl _)) (by simp))
          go_roundg (m - (i + 1))
          case measure => omega
          case rel => exact ⟨i + 1, _, rfl, rfl, by go_num, by omega, HX, HB2.out⟩
      | false =>
        have HX : Hid (X ++ ⟨#[32]⟩ ++ P = ⟨(c ++ printL (l.take (i + 1))).toArray⟩) := hidE (by rw [hX.out, ← hP, cat_small, hst, hbig]; simp)
        obtain ⟨d4, d5, hw⟩ := small_ways u hbig
        rw [← hK1] at d4 d5
        rw [← hK1, ← hn1] at hw
        clear hX hpu hst hbig hP hrd hu hul hK1 hn1
        rcases hw with d3 | ⟨d3, rfl⟩
        · go_wp2_with (go_at_call 16; refine (hcall.out _ _ (HRDU.out.keep (fun _ h => h) (fun g hg => Below.heap_alloc _ _ _ (HSG.out g hg))) (fun g hg => by have := HSG.out g hg; simp; omega)).mono ?_; rintro e w1 ⟨rfl, b1⟩)
          have HB2 := hidE (bnext HB.out (below_pre b1 (Nat.le_refl _)) (by simp))
          go_roundg (m - (i + 1))
          case measure => omega
          case rel => exact ⟨i + 1, _, rfl, rfl, by go_num, by omega, HX, HB2.out⟩
        · go_wp2_with (go_at_call 16; refine (hcall.out _ _ (HRDU.out.keep (fun _ h => h) (fun g hg => Below.heap_alloc _ _ _ (HSG.out g hg))) (fun g hg => by have := HSG.out g hg; simp; omega)).mono ?_; rintro e w1 ⟨rfl, b1⟩)
          have HB2 := hidE (bnext HB.out (below_pre b1 (Nat.le_refl _)) (by simp))
          go_roundg (m - (i + 1))
          case measure => omega
          case rel => exact ⟨i + 1, _, rfl, rfl, by go_num, by omega, HX, HB2.out⟩
    · have hr := hidE (show X = R by rw [hX.out, ← HR.out, List.take_of_length_le (by have := HM.out; rw [kids] at this; omega)])
      clear hX
      go_wp2_with fail
      go_ret
      exact ⟨ret_string hr.out, ((Below.refl _ w).alloc (Nat.le_refl _) _).trans (HB.out.mono (by omega))⟩

end Go.Proofs.YthgkpmgcikopnaaGreatDoor
