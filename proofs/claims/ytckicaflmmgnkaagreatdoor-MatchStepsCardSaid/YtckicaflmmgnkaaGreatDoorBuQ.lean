/-
  Contracts of the code's functions, part 17.
-/
import Derived.Test.YtckicaflmmgnkaaGreatDoorBuP
import Derived.Test.YtckicaflmmgnkaaGreatDoorBuH
import Derived.Test.YtckicaflmmgnkaaGreatDoorBuG
/-
  Package types: the walk over Parse.
-/
namespace Go.Proofs.YtckicaflmmgnkaaGreatDoor
open Go.RowKit Lx Tx
set_option maxRecDepth 100000

theorem toks_of_own {w : World} {base n : Nat} {v : Value} {ts : List Tok} {e : TypeId} (hn : n = ts.length) (h : w.ownsRow base e 3 v n (toksV ts)) : Toks (fun g => g < w.heap.size) w v ts := by
  subst hn
  refine (RdT.of_own h).toks ?_
  rcases h.2 with ⟨rfl, h0⟩ | ⟨g, cap, cur, rfl, hr⟩
  · exact ⟨none, 0, by rw [h0], by omega⟩
  · exact ⟨_, cap, rfl, by have := hr.2.2.1; omega⟩

set_option maxHeartbeats 1600000 in
theorem tc_parse (s : ByteArray) (w : World) (hs : s.size ≤ maxLen) : Calls Tryz.prog 27 #[.string s] w (PPost s.data.toList w) := by
  go_enter Tryz.func27, Tryz.ntmps27
  go_wp2_with fail
  refine (scan_any s _ hs).mono ?_
  rintro e w1 ⟨b1, v, ts, a, er, hsc, rfl, hown⟩
  have hb0 : Blk w1 w.heap.size 26 tyZ := Blk.below (heap_alloc_new _ _) b1 (by simp)
  unfold tyZ at hb0
  obtain ⟨a0, a1, a2, a3, r0, r1, r2, r3, hlw⟩ := blk_facts4 hb0
  have HB0 := hidE hb0
  have B1 := hidE (below_pre b1 (Nat.le_refl _))
  have HSC := hidE hsc
  have HTK := hidE (toks_of_own rfl hown)
  have hs1 := b1.size
  simp at hs1
  clear hb0 b1 hsc hown
  by_cases he : er = 0
  · subst he
    obtain ⟨hG, hL⟩ := scan_good _ _ _ HSC.out
    have HR := hidE (tc_read ts v w1 HTK.out hG (by omega))
    obtain ⟨O, hO⟩ : ∃ O, read (enough ts) ts = O := ⟨_, rfl⟩
    rw [hO] at HR
    have HO := hidE hO
    have HSZ : Hid (∀ t r, O = some (t, r) → t.size ≤ 4000) := hidE fun t r h => by have := ((read_nm _).1 ts t r hG (hO.trans h)).2.2; omega
    clear hO hG
    go_wp2_with fail
    refine HR.out.mono ?_
    rintro e w2 ⟨b2, K1, X1, Z1, A1, m1, c1, v2, q, rfl, hno, hyes⟩
    have hs2 := b2.size
    have hb0 := HB0.out.below b2 hlw
    obtain ⟨a0, a1, a2, a3, r0, r1, r2, r3, hlw2⟩ := blk_facts4 hb0
    have HC0 := hidE hb0
    have HBEL := hidE (B1.out.trans (b2.mono (by omega)))
    have HNO := hidE hno
    have HYES := hidE hyes
    clear hb0 b2 hno hyes HR
    cases q with
    | false =>
      have hno := HNO.out rfl
      have HP := hidE (parse_bad _ _ _ HSC.out (by rw [HO.out, hno.1]; simp))
      clear hno HNO HYES
      go_wp2_with fail
      try simp only [Exit.inBlock, Exit.then]
      refine bodyPost_ret (results_ct rfl _ _ w.heap.size 26 _ (0, 0) _ rfl ((blk_set4 _ _ _ _ HC0.out).alloc _) Tryz.underlying26 rfl (by kernel_rfl)) rfl ?_
      exact ppost_err _ _ _ _ 20 20 ((below_set4 HBEL.out _ _ _ _ (Nat.le_refl _)).alloc (by simp; omega) _) (by decide) HP.out rfl rfl
    | true =>
      obtain ⟨t, r, A2, c2, ho, rfl, hrd⟩ := HYES.out rfl
      have hsz := HSZ.out t r ho
      have HRD : Hid (RdV (fun g => w1.heap.size ≤ g ∧ g < w2.heap.size) w2 t (.agg #[.int .i64 K1, .string X1, .int .i64 Z1, .slice A1 m1 c1])) := hidE hrd
      obtain ⟨n, hn⟩ : ∃ n, r.length = n := ⟨_, rfl⟩
      rw [hn]
      clear HNO HYES hrd
      by_cases hn0 : n = 0
      · subst hn0
        obtain rfl : r = [] := List.length_eq_zero_iff.1 hn
        have HP := hidE (parse_some _ _ _ t HSC.out (by rw [HO.out, ho]))
        have HD := hidE (tc_depth 1000000 t (fun g => w1.heap.size ≤ g ∧ g < w2.heap.size) (.agg #[.int .i64 K1, .string X1, .int .i64 Z1, .slice A1 m1 c1]) (w2.alloc (.cells #[.int .i64 K1, .string X1, .int .i64 Z1, .slice A1 m1 c1] 26)) (by omega) (by omega) (HRD.out.keep (fun _ h => h) (fun g hg => Below.heap_alloc _ _ _ hg.2)) (fun g hg => by simp; omega))
        obtain ⟨D, hD⟩ : ∃ D, t.depth = D := ⟨_, rfl⟩
        rw [hD] at HP HD
        clear hD hn ho
        go_wp2_with fail
        refine HD.out.mono ?_
        rintro e w3 ⟨rfl, b3⟩
        have hs3 := b3.size
        simp at hs3
        have hb0 := (HC0.out.alloc (.cells #[.int .i64 K1, .string X1, .int .i64 Z1, .slice A1 m1 c1] 26)).below b3 (by simp; omega)
        have hf0 := Blk.below (heap_alloc_new w2 (.cells #[.int .i64 K1, .string X1, .int .i64 Z1, .slice A1 m1 c1] 26)) b3 (by simp)
        obtain ⟨a0, a1, a2, a3, r0, r1, r2, r3, hlw3⟩ := blk_facts4 hb0
        obtain ⟨p0, p1, p2, p3, s0, s1, s2, s3, hlx⟩ := blk_facts4 hf0
        have HC3 := hidE hb0
        have HBEL3 := hidE ((HBEL.out.alloc (by omega) _).trans (b3.mono (by simp; omega)))
        have HRD3 : Hid (RdV (fun g => w1.heap.size ≤ g ∧ g < w2.heap.size) w3 t (.agg #[.int .i64 K1, .string X1, .int .i64 Z1, .slice A1 m1 c1])) :=
          hidE (HRD.out.keep (fun _ h => h) (fun g hg => (b3.block g (by simp; omega)).trans (Below.heap_alloc _ _ _ hg.2)))
        clear hb0 hf0 b3 HD
        by_cases hd : 50 < D
        · have HP2 := hidE (HP.out.trans (if_pos hd))
          go_wp2_with fail
          try simp only [Exit.inBlock, Exit.then]
          refine bodyPost_ret (results_ct rfl _ _ w.heap.size 26 _ (0, 0) _ rfl (blk_set4 _ _ _ _ HC3.out) Tryz.underlying26 rfl (by kernel_rfl)) rfl ?_
          exact ppost_err _ _ _ _ 3 3 (below_set4 HBEL3.out _ _ _ _ (Nat.le_refl _)) (by decide) HP2.out rfl rfl
        · have HP2 := hidE (HP.out.trans (if_neg hd))
          go_wp2_with fail
          try simp only [Exit.inBlock, Exit.then]
          refine bodyPost_ret (results_ct rfl _ _ w.heap.size 26 _ (0, 0) _ rfl (blk_set4 _ _ _ _ HC3.out) Tryz.underlying26 rfl (by kernel_rfl)) rfl ?_
          refine ⟨below_set4 HBEL3.out _ _ _ _ (Nat.le_refl _), K1, X1, Z1, A1, m1, c1, .inr ⟨t, HP2.out, rfl, ?_⟩⟩
          refine HRD3.out.keep (fun g hg => ?_) (fun g hg => ?_)
          · refine ⟨by omega, ?_⟩
            rw [size_set4]; omega
          · rw [heap_set4 _ _ _ _ _ _ _ (by omega)]
      · have HP := hidE (parse_bad _ _ _ HSC.out (by
          rw [HO.out, ho]
          intro t' e
          injection e with e
          injection e with _ e
          rw [e] at hn
          exact hn0 hn.symm))
        have hnpos : 0 < n := by omega
        clear hn ho hn0
        go_wp2_with fail
        try simp only [Exit.inBlock, Exit.then]
        refine bodyPost_ret (results_ct rfl _ _ w.heap.size 26 _ (0, 0) _ rfl ((blk_set4 _ _ _ _ HC0.out).alloc _) Tryz.underlying26 rfl (by kernel_rfl)) rfl ?_
        exact ppost_err _ _ _ _ 20 20 ((below_set4 HBEL.out _ _ _ _ (Nat.le_refl _)).alloc (by simp; omega) _) (by decide) HP.out rfl rfl
  · have HP := hidE (parse_err _ _ _ _ HSC.out he)
    have dn : ((er : Int) != 0) = true := neqT _ _ (by omega)
    have HE := hidE he
    clear he
    go_wp2_with fail
    try simp only [Exit.inBlock, Exit.then]
    refine bodyPost_ret (results_ct rfl _ _ w.heap.size 26 _ (0, 0) _ rfl (blk_set4 _ _ _ _ HB0.out) Tryz.underlying26 rfl (by kernel_rfl)) rfl ?_
    exact ppost_err _ _ _ _ er er (below_set4 B1.out _ _ _ _ (Nat.le_refl _)) HE.out HP.out rfl rfl

end Go.Proofs.YtckicaflmmgnkaaGreatDoor
