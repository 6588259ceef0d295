/-
  Package types and what it stands on: contracts of the code's functions, part 1.
-/
import Derived.Test.YthgkpmgcikopnaaGreatDoorBuK
/-
  The walks over Depth of the document's answer for types.
-/
namespace Go.Proofs.YthgkpmgcikopnaaGreatDoor
open Go.RowKit Lx Tx
set_option maxRecDepth 100000

set_option maxHeartbeats 800000 in
theorem ref2_depth (n : Nat) : ∀ (t : Ty) (S : Nat → Prop) (v : Value) (w : World), t.size ≤ n → n ≤ 1000000 → RdV S w t v → (∀ g, S g → g < w.heap.size) →
    Calls Tryz.prog 43 #[v] w fun e w' => e = .returned (.int .i64 (t.depth : Nat)) ∧ Below w.heap.size w w' := by
  induction n with
  | zero => intro t S v w h; rw [size_kids] at h; omega
  | succ n ih =>
    intro t S v w hn h5 hv hS
    obtain ⟨K, X, Z, A, m, c, rfl, -, -, -, hm, ha⟩ := hv.parts
    obtain ⟨R, hR⟩ : ∃ R, t.depth = R := ⟨_, rfl⟩
    have hR1 : depthL (kids t) + 1 = R := by rw [← depth_kids]; exact hR
    have hm6 : m ≤ n := by have := kids_len t; omega
    have hR6 : R ≤ n + 1 := by have := depth_size t; omega
    have HM := hidE hm
    have HA := hidE ha
    have IH := hidE ih
    have HS := hidE hS
    have HN := hidE hn
    have HR1 := hidE hR1
    rw [hR]
    clear hm hR ha ih hS hn hR1 hv
    go_enter Tryz.func43, Tryz.ntmps43
    go_wp2
    go_loopg [3, 4] m (fun gg va vi wr => ∃ i a : Nat, gg = m - i ∧ va = .int .i64 a ∧ vi = .int .i64 i ∧ i ≤ m ∧ Hid (depthL ((kids t).take i) = a) ∧ Below (w.heap.size + 1) (w.alloc (.cells #[.int .i64 K, .string X, .int .i64 Z, .slice A m c] 31)) wr)
    case atStart => exact ⟨0, 0, rfl, rfl, rfl, by omega, hidE rfl, Below.refl _ _⟩
    case round =>
      obtain ⟨i, a, rfl, rfl, rfl, hi, hd, hb⟩ := hrel
      have c3 : wr.cell? ⟨w.heap.size, 3, none⟩ = some (.slice A m c) := (hb.cell (p := ⟨w.heap.size, 3, none⟩) (by simp)).trans (cell_of_row _ _ _ _ _ _ (heap_alloc_new _ _))
      have HB := hidE hb
      clear hb
      by_cases hlt : i < m
      · obtain ⟨g, u, K1, X1, Z1, A1, n1, c1, rfl, hg, e0, e1, e2, e3, hu, hrd, hsz⟩ := kid_cells (w' := wr) HA.out HM.out hlt (fun g hg => by rw [HB.out.block g (by have := HS.out g hg; omega), Below.heap_alloc _ _ _ (HS.out g hg)])
        have hcall := IH.out u S _ wr (by have := HN.out; omega) (by omega) hrd (fun g hg => by have := HB.out.size; have := HS.out g hg; simp at *; omega)
        have hmx := hidE (depth_take _ _ _ _ hd hu)
        obtain ⟨D, hD⟩ : ∃ D, u.depth = D := ⟨_, rfl⟩
        rw [hD] at hmx hcall
        clear hrd hu hD
        go_wp2_with (go_at_call 43; refine hcall.mono ?_; rintro e w1 ⟨rfl, b1⟩)
        all_goals
          have HB2 := hidE (HB.out.trans (b1.mono (by have := HB.out.size; simp at this; omega)))
          go_roundg (m - (i + 1))
          case measure => omega
          case rel => exact ⟨i + 1, _, rfl, rfl, by go_num, by omega, hidE (by rw [hmx.out]; omega), HB2.out⟩
      · have hr := hidE (show a + 1 = R by rw [List.take_of_length_le (by rw [HM.out]; omega)] at hd; rw [hd.out] at HR1; exact HR1.out)
        have ha6 : a < 1000001 := by have := hr.out; omega
        go_wp2_with fail
        go_ret
        exact ⟨ret_i64 (by rw [← hr.out]; rfl), ((Below.refl _ w).alloc (Nat.le_refl _) _).trans (HB.out.mono (by omega))⟩

end Go.Proofs.YthgkpmgcikopnaaGreatDoor

/-
  The walk over atom of the document's answer for types.
-/
namespace Go.Proofs.YthgkpmgcikopnaaGreatDoor
open Go.RowKit Lx Tx
set_option maxRecDepth 100000

set_option maxHeartbeats 800000 in
theorem ref2_atom (f : Nat) (ts : List Tok) (v : Value) (w : World) (i : Nat) (hv : RdT w v ts) (hg : AllG ts) (hn : ts.length ≤ 100000) (hi : i ≤ ts.length) (hf : 4 * (ts.length - i) + 2 ≤ f + 1)
    (IH : ∀ (w : World) (i : Nat), RdT w v ts → i ≤ ts.length → 4 * (ts.length - i) + 4 ≤ f → Calls Tryz.prog 42 #[v, .int .i64 i] w (RPost ts i w (read f (ts.drop i)))) :
    Calls Tryz.prog 113 #[v, .int .i64 i] w (RPost ts i w (atom (f + 1) (ts.drop i))) := by
  by_cases hlt : i < ts.length
  · have hdr := drop_tok ts i hlt
    obtain ⟨g, c, rfl, h0, h1, h2⟩ := hv.at_ i hlt
    have hgood := hg _ (List.getElem_mem hlt)
    have hgl := hv.lt (by omega)
    rw [hdr]
    generalize hT : ts[i] = T at *
    obtain ⟨m, s, p⟩ := T
    obtain ⟨X, hX⟩ : ∃ X : ByteArray, ⟨s.toArray⟩ = X := ⟨_, rfl⟩
    obtain ⟨n, hN⟩ : ∃ n, ts.length = n := ⟨_, rfl⟩
    have HX := hidE hX
    have HN := hidE hN
    simp only at h0 h1 h2
    rw [hX] at h1
    rw [hN] at hv hlt hn hi hf IH ⊢
    have HV := hidE hv
    have HIH := hidE IH
    have HG := hidE hgood
    clear h2 hv IH hX hN hgood hT hdr hg
    obtain ⟨O, hO⟩ : ∃ O, atom (f + 1) (⟨m, s, p⟩ :: ts.drop (i + 1)) = O := ⟨_, rfl⟩
    rw [hO]
    rw [atom] at hO
    replace hO := hO.symm
    simp only at hO
    by_cases k1 : m = 1
    · have HO := hidE (hO.trans (if_pos k1))
      subst k1
      clear hO
      have h0 : w.cell? ⟨g, i * 3, none⟩ = some (.int .i64 1) := h0
      go_enter Tryz.func113, Tryz.ntmps113
      go_wp2_with fail
      try simp only [Exit.inBlock, Exit.then]
      refine bodyPost_ret (results_ct rfl _ _ w.heap.size 31 _ (0, 0) _ rfl (heap_alloc_new _ _) Tryz.underlying31 rfl (by kernel_rfl)) rfl ?_
      exact rpost_some ts i w _ _ _ 1 X 0 none 0 0 (.var s) (i + 1) ((Below.refl _ w).alloc (Nat.le_refl _) _) (by omega) (by rw [HN.out]; omega) HO.out rfl ⟨none, 0, by rw [← HX.out]; rfl, by rw [Args]; trivial⟩
    · have d1 := neq_int m 1 1 rfl k1
      rw [if_neg k1] at hO
      by_cases k2 : m = 2
      · have HO := hidE (hO.trans (if_pos k2))
        subst k2
        clear hO
        have h0 : w.cell? ⟨g, i * 3, none⟩ = some (.int .i64 2) := h0
        go_enter Tryz.func113, Tryz.ntmps113
        go_wp2_with fail
        try simp only [Exit.inBlock, Exit.then]
        refine bodyPost_ret (results_ct rfl _ _ w.heap.size 31 _ (0, 0) _ rfl (heap_alloc_new _ _) Tryz.underlying31 rfl (by kernel_rfl)) rfl ?_
        exact rpost_some ts i w _ _ _ 3 X 0 none 0 0 (.con s []) (i + 1) ((Below.refl _ w).alloc (Nat.le_refl _) _) (by omega) (by rw [HN.out]; omega) HO.out rfl ⟨none, 0, by rw [← HX.out]; rfl, by rw [Args]; intro h; exact absurd rfl h⟩
      · have d2 := neq_int m 2 2 rfl k2
        rw [if_neg k2] at hO
        by_cases k5 : m = 5
        · have HO := hidE (hO.trans (if_pos k5))
          subst k5
          clear hO
          have h0 : w.cell? ⟨g, i * 3, none⟩ = some (.int .i64 5) := h0
          obtain ⟨g1, g2, g3⟩ := good_meta _ HG.out rfl
          have hXs : X.data.toList = s := by rw [← HX.out]
          have hX1 : 1 ≤ X.size := by rw [Lib.size_eq, hXs]; exact g3
          have hXe : (X.extract 1 X.size).data.toList = s.drop 1 := by rw [Lib.extract_eq, hXs]; simp only []; rw [List.take_of_length_le]; rw [List.length_drop, ← hXs, ← Lib.size_eq]; omega
          have hnum := fun w => ref2_number (X.extract 1 X.size) w (by rw [hXe]; exact g1) (by rw [Lib.size_eq, hXe]; exact g2)
          rw [hXe] at hnum
          clear hXe hXs g1 g2 g3
          obtain ⟨N, hNn⟩ : ∃ N, numOf (s.drop 1) = N := ⟨_, rfl⟩
          rw [hNn] at hnum HO
          clear hNn
          go_enter Tryz.func113, Tryz.ntmps113
          go_wp2_with (go_at_call 145; refine (hnum _).mono ?_; rintro e w1 ⟨rfl, rfl⟩)
          try simp only [Exit.inBlock, Exit.then]
          refine bodyPost_ret (results_ct rfl _ _ w.heap.size 31 _ (0, 0) _ rfl (heap_alloc_new _ _) Tryz.underlying31 rfl (by kernel_rfl)) rfl ?_
          exact rpost_some ts i w _ _ _ 2 ⟨#[]⟩ (N : Nat) none 0 0 (.mt N) (i + 1) ((Below.refl _ w).alloc (Nat.le_refl _) _) (by omega) (by rw [HN.out]; omega) HO.out rfl ⟨none, 0, rfl, by rw [Args]; trivial⟩
        · have d5 := neq_int m 5 5 rfl k5
          rw [if_neg k5] at hO
          by_cases k40 : s = [40]
          · have dX : (X.toList == [40]) = true := by rw [Lib.toList_data, ← HX.out, k40]; rfl
            have HO := hidE (hO.trans (if_pos k40))
            clear hO k40
            go_enter Tryz.func113, Tryz.ntmps113
            go_wp2_with fail
            refine (HIH.out _ (i + 1) (HV.out.alloc _) (by omega) (by omega)).mono ?_
            rintro e w1 ⟨b1, K1, X1, Z1, A1, m1, c1, hcases⟩
            have hblk : Blk w1 w.heap.size 31 #[.int .i64 0, .string ⟨#[]⟩, .int .i64 0, .slice none 0 0] := Blk.below (heap_alloc_new _ _) b1 (by simp)
            obtain ⟨a0, a1, a2, a3, r0, r1, r2, r3, hlw⟩ := blk_facts4 hblk
            have HBLK := hidE hblk
            clear hblk
            rcases hcases with ⟨ho, rfl⟩ | ⟨t, k, hk, hkn, ho, rfl, hr⟩
            · have HO := hidE (HO.out.trans (by rw [ho]))
              have B1 := hidE b1
              clear b1 ho
              go_wp2_with fail
              try simp only [Exit.inBlock, Exit.then]
              refine bodyPost_ret (results_ct rfl _ _ w.heap.size 31 _ (0, 0) _ rfl ((blk_set4 _ _ _ _ HBLK.out).alloc _) Tryz.underlying31 rfl (by kernel_rfl)) rfl ?_
              exact rpost_none ts i w _ _ _ 0 ⟨#[]⟩ 0 none 0 0 ((below_set4 (below_pre B1.out (Nat.le_refl _)) _ _ _ _ (Nat.le_refl _)).alloc (by simp; omega) _) HO.out rfl
            · obtain ⟨q, hq⟩ : ∃ q, isAt ts k 6 [41] = q := ⟨_, rfl⟩
              have HO : Hid (O = (eat (isSign · [41]) (ts.drop k)).map fun r3 => (t, r3)) := hidE (HO.out.trans (by rw [ho]))
              have B1 := hidE b1
              have HQ := hidE hq
              have hIs : ∀ w, RdT w (.slice (some ⟨g, 0, none⟩) n c) ts → Calls Tryz.prog 78 #[.slice (some ⟨g, 0, none⟩) n c, .int .i64 k, .int .i64 6, .string ⟨#[41]⟩] w fun e w' => e = .returned (.bool q) ∧ w = w' := by
                intro w hv
                rw [← hq]
                exact ref2_is _ ts k 6 ⟨#[41]⟩ 6 rfl w hv
              clear hq
              have HR := hidE hr
              clear b1 ho hr
              cases q
              · go_wp2_with (go_at_call 78; refine (hIs _ (((HV.out.alloc _).below B1.out).alloc _)).mono ?_; rintro e w2 ⟨rfl, rfl⟩)
                try simp only [Exit.inBlock, Exit.then]
                refine bodyPost_ret (results_ct rfl _ _ w.heap.size 31 _ (0, 0) _ rfl ((blk_set4 _ _ _ _ HBLK.out).alloc _) Tryz.underlying31 rfl (by kernel_rfl)) rfl ?_
                exact rpost_none ts i w _ _ _ 0 ⟨#[]⟩ 0 none 0 0 ((below_set4 (below_pre B1.out (Nat.le_refl _)) _ _ _ _ (Nat.le_refl _)).alloc (by simp; omega) _) (HO.out.trans (by rw [eat_sign _ _ _ (by simp), HQ.out, if_neg (by simp)]; rfl)) rfl
              · have hkl := isAt_lt _ _ _ _ HQ.out
                have hk5 : k < 100000 := by rw [HN.out] at hkl; omega
                go_wp2_with (go_at_call 78; refine (hIs _ (((HV.out.alloc _).below B1.out).alloc _)).mono ?_; rintro e w2 ⟨rfl, rfl⟩)
                try simp only [Exit.inBlock, Exit.then]
                refine bodyPost_ret (results_ct rfl _ _ w.heap.size 31 _ (0, 0) _ rfl ((blk_set4 _ _ _ _ HBLK.out).alloc _) Tryz.underlying31 rfl (by kernel_rfl)) rfl ?_
                refine rpost_some ts i w _ _ _ K1 X1 Z1 A1 m1 c1 t (k + 1) ((below_set4 (below_pre B1.out (Nat.le_refl _)) _ _ _ _ (Nat.le_refl _)).alloc (by simp; omega) _) (by omega) (by omega) (HO.out.trans (by rw [eat_sign _ _ _ (by simp), HQ.out, if_pos rfl]; rfl)) rfl ?_
                exact HR.out.keep (fun g hg => by simp at hg ⊢; omega) (fun g hg => by
                  simp at hg
                  rw [Below.heap_alloc _ _ _ (by simp; omega), Below.heap_setCell _ _ _ _ (by simp; omega), Below.heap_setCell _ _ _ _ (by simp; omega), Below.heap_setCell _ _ _ _ (by simp; omega), Below.heap_setCell _ _ _ _ (by simp; omega)])
          · have dX : (X.toList == [40]) = false := by rw [Lib.toList_data, ← HX.out]; exact beq_eq_false_iff_ne.2 k40
            have HO := hidE (hO.trans (if_neg k40))
            clear hO k40
            go_enter Tryz.func113, Tryz.ntmps113
            go_wp2_with fail
            try simp only [Exit.inBlock, Exit.then]
            refine bodyPost_ret (results_ct rfl _ _ w.heap.size 31 _ (0, 0) _ rfl (heap_alloc_new _ _) Tryz.underlying31 rfl (by kernel_rfl)) rfl ?_
            exact rpost_none ts i w _ _ _ 0 ⟨#[]⟩ 0 none 0 0 ((Below.refl _ w).alloc (Nat.le_refl _) _) HO.out rfl
  · have HO : atom (f + 1) (ts.drop i) = none := by rw [List.drop_eq_nil_of_le (by omega), atom]
    obtain ⟨A, c, rfl, _⟩ := hv
    obtain ⟨n, hN⟩ : ∃ n, ts.length = n := ⟨_, rfl⟩
    rw [hN] at hlt hn hi ⊢
    rw [HO]
    clear hN IH HO hf hg
    go_enter Tryz.func113, Tryz.ntmps113
    go_wp2_with fail
    try simp only [Exit.inBlock, Exit.then]
    refine bodyPost_ret (results_ct rfl _ _ w.heap.size 31 _ (0, 0) _ rfl (heap_alloc_new _ _) Tryz.underlying31 rfl (by kernel_rfl)) rfl ?_
    exact rpost_none ts i w _ _ _ 0 ⟨#[]⟩ 0 none 0 0 ((Below.refl _ w).alloc (Nat.le_refl _) _) rfl rfl

end Go.Proofs.YthgkpmgcikopnaaGreatDoor
