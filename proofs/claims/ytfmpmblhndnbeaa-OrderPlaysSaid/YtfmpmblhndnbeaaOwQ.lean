/-
  Order: the groups are found: the walk.
-/
import Derived.Test.YtfmpmblhndnbeaaOwP
namespace Go.Proofs.Ytfmpmblhndnbeaa
open Go.RowKit Go.Shelf Go.Proofs.Ytfmpmblhndnbeaa.Od
set_option maxRecDepth 100000
attribute [local go_sem] Oper.semAt_some

theorem owns_nil (w : World) (B : Nat) (e : TypeId) : w.ownsRow B e 1 (.slice none 0 0) 0 [] := World.ownsRow_nil _ _ _ _
theorem box_facts {W w2 : World} {x x' B n : Nat} {t e : TypeId} {v : Value} {l : List Value} {o : Obj} (h : Blk W x t #[v]) (ho : W.ownsRow B e 1 v n l) (hx : x < B) (hg : (W.alloc o).grownBy w2 v.ownBlock) (e : x' = x) : w2.cell? ⟨x', 0, none⟩ = some v ∧ w2.frozen? ⟨x', 0, none⟩ = false ∧ x' < w2.heap.size := by
  subst e
  exact blk_facts1 ((h.alloc o).grown hg (fun e => by have := (own_more ho _ e.symm).1; omega))
theorem own_head {w : World} {B n c : Nat} {e : TypeId} {A : Option Addr} {xs : List Value} (h : w.ownsRow B e 1 (.slice A n c) n xs) (h0 : 0 < n) : ∃ g, A = some ⟨g, 0, none⟩ := by
  rcases h.2 with ⟨_, h1⟩ | ⟨g, cap, cur, hv, _⟩
  · omega
  · injection hv with hv; exact ⟨g, hv⟩
theorem row_head {B : Nat} {w : World} {g n c j q : Nat} {a : List Nat} (h : RowB B w (.slice (some ⟨g, 0, none⟩) n c) (intV a)) (hq : a[j]? = some q) : w.cell? ⟨g, j, none⟩ = some (.int .i64 (q : Nat)) := by
  obtain ⟨A, c', e, hp⟩ := h
  have hj : j < a.length := (List.getElem?_eq_some_iff.1 hq).1
  obtain ⟨p, e1, _, e3⟩ := hp (by rw [intV_len]; omega)
  injection e with e
  rw [← e] at e1
  injection e1 with e1
  have := e3 j (.int .i64 (q : Nat)) (by simp [intV, hq])
  rw [← e1, add_blk] at this
  exact this
theorem lt_of_all {a : List Nat} {n : Nat} (h : a.Nodup) (hl : ∀ j ∈ a, j < n) : a.length ≤ n := by
  have := h.length_le_of_subset (l₂ := List.range n) (List.subset_def.2 (fun {x} hx => List.mem_range.2 (hl x hx)))
  simpa using this

set_option maxHeartbeats 3200000 in
theorem ow_together (u us : Uses) (n ct cs : Nat) (au aus : Option Addr) (w : World) (hv : Valid u) (hn : u.length = n) (hn2 : n ≤ 500) (hl : ∀ l ∈ u, l.length ≤ 1001000000) (hls : ∀ l ∈ us, l.length ≤ 1001000000) (ht : Turn u us)
    (hU : RdB w.heap.size w (.slice au n ct) (u.map intV)) (hUS : RdB w.heap.size w (.slice aus n cs) (us.map intV)) :
    Calls Try.prog 15 #[.slice au n ct, .slice aus n cs] w fun e w' => ∃ H v', e = .returned v' ∧ Srt u H ∧ RdU w' v' H ∧ Below w.heap.size w w' := by
  obtain ⟨i0, hi0, hz0, hz1, hz2⟩ := info_parts int_info
  obtain ⟨j0, hj0, hy0, hy1, hy2⟩ := info_parts row_info
  have ek : ∀ args w, (callFunc 31 args).run Try.prog w = .ok (.enter 31 args) w := enters_of Try.func31 (by kernel_rfl) rfl
  have hR1 := ow_reacher w.heap.size n ct au u (by omega) w hU (Nat.le_refl _)
  have HR1 := hidE hR1
  have HV := hidE hv
  have HN := hidE hn
  have HL := hidE hl
  have HLS := hidE hls
  have HT := hidE ht
  have HU := hidE hU
  have HUS := hidE hUS
  clear hR1 hv hn hl hls ht hU hUS
  refine (callsIn_wide (n := 10)).1 ?_
  refine callsIn_of_wp_marks Try.func15 rfl trivial ?_ rfl
  simp only [Try.ntmps15, List.size_toArray, List.length_cons, List.length_nil, Nat.reduceAdd, Nat.reduceSub, Array.replicate_succ, Array.replicate_zero, List.push_toArray, List.append_toArray, List.nil_append, List.cons_append]
  refine wpIn_wide.2 ?_
  go_wp2_with fail
  refine HR1.out.mono ?_
  rintro e w1 ⟨rfl, s1, hs1, b1⟩
  unfold usedV
  have HS1 := hidE s1
  have HB1 := hidE b1
  have HZ1 := hidE hs1
  clear HR1 s1 b1 hs1
  go_wp2_with fail
  go_loopg [6, 17] n (fun gg v6 vi wr => ∃ (k : Nat) (M : Nat → Bool) (a : List Nat), gg = n - k ∧ vi = .int .i64 (k : Nat) ∧ k ≤ n ∧ Hid (DFL u nomet (List.range k) M a) ∧ Hid (S0 w.heap.size w.heap.size (w.heap.size + 2) (w.heap.size + 1) n (.slice au n ct) u M wr) ∧ Hid (wr.ownsRow (w.heap.size + 3) 3 1 v6 a.length (intV a)) ∧ Hid (Below w.heap.size w wr) ∧ Hid (w.heap.size + 3 ≤ wr.heap.size))
  case atStart => exact ⟨0, nomet, [], rfl, rfl, by omega, hidE (.nil _), HS1, hidE (owns_nil _ _ _), HB1, hidE (by have := HZ1.out; omega)⟩
  case round =>
    obtain ⟨k, M, a, rfl, rfl, hk, hD, hS, hO, hB, hsz⟩ := hrel
    clear HS1 HB1 HZ1
    obtain ⟨A6, c6, rfl⟩ := own_shape hO.out
    by_cases hlt : k < n
    · have HC := hidE (ow_used w.heap.size w.heap.size (w.heap.size + 2) (w.heap.size + 1) n ct au u HV.out HN.out (by omega) HL.out M k wr hlt hS.out (by have := hsz.out; omega))
      have hal : a.length ≤ n := lt_of_all hD.out.nodup fun j hj => by
        have := hD.out.lt HV.out (fun x hx => by have := List.mem_range.1 hx; rw [HN.out]; omega) j hj
        rw [HN.out] at this; exact this
      obtain ⟨mt, hmt⟩ : ∃ mt, a.length = mt := ⟨_, rfl⟩
      rw [hmt] at hO hal
      have HMT := hidE hmt
      clear hmt
      go_wp2_with fail
      rw [HMT.out]
      refine HC.out.mono ?_
      rintro e w2 ⟨M', g, v', rfl, d, s, o, lg, c⟩
      have hO2 : w2.ownsRow (w.heap.size + 3) 3 1 (.slice A6 mt c6) mt (intV a) := own_keepv hO.out fun b hb => c.block b (own_more hO.out b hb).2 (fun e => by have e : b = _ := e; have := (own_more hO.out b hb).1; omega)
      obtain ⟨gl, hgl⟩ : ∃ gl, g.length = gl := ⟨_, rfl⟩
      rw [hgl] at o lg
      obtain ⟨A8, c8, rfl⟩ := own_shape o
      have HO2 := hidE hO2
      have HGL := hidE hgl
      have HOO := hidE o
      have HDD := hidE d
      have HSS := hidE s
      have HCC := hidE c
      have hw2 : w.heap.size + 3 ≤ w2.heap.size := by have := hsz.out; have := c.size; omega
      clear HC d s o c hO2 hgl
      go_wp2_with (at_builtin; refine wpList_append_any rfl (.tmp 20) (.tmp 23) 30 rfl (w.heap.size + 3) 3 i0 _ 1 8 Try.underlying30 hi0 hz0 hz1 hz2 rfl (by decide) _ _ mt gl (intV a) (intV g) rfl rfl HO2.out (SrcR.of_own HOO.out) (intO g) (by unfold maxLen; omega) (by omega) hw2 ?_; intro A3 c3 w5 hown3 hb5; have HO3 := hidE hown3; have HB5 := hidE hb5; clear hown3 hb5)
      have hbb : Below w.heap.size w w5 := (hB.out.trans (HCC.out.toBelow (by have := hsz.out; omega) (fun b hb e => by have e : b = _ := e; omega))).trans (HB5.out.mono (by omega))
      have hss := HSS.out.keep (P := fun b => w.heap.size + 3 ≤ b) (w' := w5) ⟨HB5.out.os, HB5.out.tape, HB5.out.output, HB5.out.size, fun b _ hn => HB5.out.block b (by omega)⟩ (fun b hb => by omega) (by omega)
      have hs5 := HB5.out.size
      go_roundg (n - (k + 1))
      case measure => omega
      case rel => exact ⟨k + 1, M', a ++ g, rfl, by go_num, by omega, hidE (by rw [List.range_succ]; exact hD.out.app HDD.out), hidE hss, hidE (by rw [List.length_append, HMT.out, HGL.out]; unfold intV; rw [List.map_append]; exact HO3.out), hidE hbb, hidE (by omega)⟩
    · have hkn : k = n := by omega
      subst hkn
      have hwh := hD.out
      rw [← HN.out] at hwh
      obtain ⟨w1', w2', w3'⟩ := hwh.whole HV.out
      have HW1 := hidE w1'
      have HW2 := hidE w2'
      have HW3 := hidE w3'
      have HUS2 := hidE ((HUS.out.below hB.out (Nat.le_refl _)).mono hB.out.size)
      have HR2 := hidE (ow_reacher wr.heap.size k cs aus us (by omega) wr HUS2.out (Nat.le_refl _))
      have hal : a.length ≤ k := lt_of_all w2' fun j hj => by rw [← HN.out]; exact (w1' j).1 hj
      clear hwh w1' w2' w3' hS hk hlt
      go_wp2_with fail
      refine HR2.out.mono ?_
      rintro e w3 ⟨rfl, s3, hs3, b3⟩
      unfold usedV
      have HS3 := hidE s3
      have HB3 := hidE b3
      have HZ3 := hidE hs3
      clear HR2 s3 b3 hs3
      go_wp2_with fail
      refine ((callsIn_wide (n := 10)).1 (it_makeI Fence.wide 10 trivial rfl _ _ _ _)).mono ?_
      rintro e w4 ⟨rfl, rfl⟩
      obtain ⟨q0, q1, q2, qs, qb⟩ := laid3 w3 (.cells #[usedV (wr.heap.size + 2) wr.heap.size] 41) (.cells #[.slice none 0 0] 22) (.cells #[.slice A6 a.length c6] 30)
      unfold usedV at q0 q1 q2 qs qb
      obtain ⟨W4, hW4⟩ : ∃ X, ((w3.alloc (.cells #[.func (.func 31) #[] #[.pointer (some ⟨wr.heap.size + 2, 0, none⟩), .pointer (some ⟨wr.heap.size, 0, none⟩)]] 41)).alloc (.cells #[.slice none 0 0] 22)).alloc (.cells #[.slice A6 a.length c6] 30) = X := ⟨_, rfl⟩
      rw [hW4] at q0 q1 q2 qs qb
      go_wp2_with fail
      try rw [hW4]
      have hz3 := HZ3.out
      have hq4 : W4.heap.size = wr.heap.size + 6 := by omega
      have hS4 := HS3.out.keep (P := fun _ => False) (Chg.of_below qb) (fun _ h => h.elim) (by have := HB3.out.size; omega)
      have hrow4 : RowB wr.heap.size W4 (.slice A6 a.length c6) (intV a) := ((RowA.rowB (own_rowA hO.out)).below HB3.out (Nat.le_refl _)).below qb (by omega)
      have HJ0 : Hid (∀ W1, Below W4.heap.size W4 W1 → W1.heap.size = W4.heap.size + 2 → KJ k wr.heap.size cs aus u us a (.slice A6 a.length c6) wr a.length W1) := hidE fun W1 hb1 hs1 =>
        ⟨nomet, [], .slice none 0 0, { s0 := hS4.keep (P := fun _ => False) (Chg.of_below hb1) (fun _ h => h.elim) (by omega), fnd := .nil u us, gb := by rw [show wr.heap.size + 4 = w3.heap.size + 1 by omega]; exact Blk.below q1 hb1 (by omega), gi := GI.nil _ _, ub := by rw [show wr.heap.size + 3 = w3.heap.size by omega]; exact Blk.below q0 hb1 (by omega), ab := by rw [show wr.heap.size + 5 = w3.heap.size + 1 + 1 by omega]; exact Blk.below q2 hb1 (by omega), row := hrow4.below hb1 (by omega), suf := (by rw [List.drop_length]; intro z hz; cases hz), bl := (HB3.out.trans (qb.mono (by omega))).trans (hb1.mono (by omega)), sz := rfl, big := by omega }⟩
      have HQ4 := hidE hq4
      clear hS4 hrow4 q0 q1 q2 qs qb hW4 hz3 hq4
      refine (wpIn_wide (n := 10)).1 ?_
      refine wpIn_range (σ := Nat × Nat) rfl (by omega) (gf := 33) (fb := #[]) (lb := #[.pointer (some ⟨w3.heap.size + 1 + 1, 0, none⟩)]) rfl trivial (enters_of Try.func33 (by kernel_rfl) rfl)
        (fun s => #[.int .i64 (s.1 : Nat), .int .i64 (s.2 : Nat)]) (fun _ => rfl)
        (fun s W => KJ k wr.heap.size cs aus u us a (.slice A6 a.length c6) wr (s.1 + 1) W ∧ a[s.1]? = some s.2) (fun s W => KJ k wr.heap.size cs aus u us a (.slice A6 a.length c6) wr s.1 W)
        (fun s a₁ W => KJ k wr.heap.size cs aus u us a (.slice A6 a.length c6) wr (s.1 + 1) W ∧ a[s.1]? = some s.2 ∧ a₁ = { tmps := #[.slice au k ct, .slice aus k cs, undef, undef, .slice none 0 0, .func (.func 31) #[] #[.pointer (some ⟨w.heap.size + 2, 0, none⟩), .pointer (some ⟨w.heap.size, 0, none⟩)], .slice A6 a.length c6, u7, .pointer (some ⟨w3.heap.size, 0, none⟩), .pointer (some ⟨w3.heap.size + 1, 0, none⟩), undef, .int .i64 (s.2 : Nat), undef, .slice au k ct, .func (.func 31) #[] #[.pointer (some ⟨w.heap.size + 2, 0, none⟩), .pointer (some ⟨w.heap.size, 0, none⟩)], .slice au k ct, .int .i64 (k : Nat), .int .i64 (k : Nat), .bool false, u19, u20, u21, u22, u23, u24, u25, .slice aus k cs, .func (.func 31) #[] #[.pointer (some ⟨wr.heap.size + 2, 0, none⟩), .pointer (some ⟨wr.heap.size, 0, none⟩)], .slice A6 a.length c6, .func (.func 33) #[] #[.pointer (some ⟨w3.heap.size + 1 + 1, 0, none⟩)], .int .i64 (s.1 : Nat), .int .i64 (s.2 : Nat), undef, undef, undef, undef, undef, undef, undef, undef, undef, undef, undef, undef, undef, undef, undef], defers := [] })
        (KJ k wr.heap.size cs aus u us a (.slice A6 a.length c6) wr 0) (fun _ _ => False)
        (fun s a₁ W r r' h hl => ⟨by have := HQ4.out; rw [this] at hl ⊢; exact KJ.noRec W r r' h.1 hl, h.2⟩) (fun s W r r' h hl => by have := HQ4.out; rw [this] at hl ⊢; exact KJ.noRec W r r' h hl) (fun W r r' h hl => by have := HQ4.out; rw [this] at hl ⊢; exact KJ.noRec W r r' h hl) (fun _ _ _ _ h _ => h) ?assign ?body ?iter ?done ?stop
      case assign =>
        intro r s W hj hl
        have HJ := hidE hj
        have HLo := hidE hl
        clear hj hl
        gi_wp2
        exact ⟨HLo.out, HJ.out.1, HJ.out.2, trivial⟩
      case iter =>
        intro rec W1 hb1 hs1 hl1 hY
        refine (it_backI Fence.wide (10 - 1) trivial rfl (by omega) (W4.heap.size + 1) (w3.heap.size + 1 + 1) a A6 c6 (fun i W => KJ k wr.heap.size cs aus u us a (.slice A6 a.length c6) wr i W ∧ LoopAt (rec .ready none) (W4.heap.size + 1) W4.heap.size W) (by omega)
          (fun i W h => by obtain ⟨⟨T, G, v, f⟩, _⟩ := h; rw [show w3.heap.size + 1 + 1 = wr.heap.size + 5 by have := HZ3.out; omega]; exact f.ab.cell 0)
          (fun i W h j q hq => by
            obtain ⟨⟨T, G, v, f⟩, _⟩ := h
            obtain ⟨g, hg⟩ := own_head hO.out (by have := (List.getElem?_eq_some_iff.1 hq).1; omega)
            refine ⟨g, hg, ?_⟩
            have hrow := f.row
            rw [hg] at hrow
            exact row_head hrow hq) (fun i q W h hq => ?_) W1 ⟨HJ0.out W1 hb1 hs1, hl1⟩).mono ?_
        · refine (hY (i, q) W ⟨h.1, hq⟩ h.2).mono ?_
          intro e W' hs
          rcases hs with ⟨h1, h2, h3⟩ | ⟨_, _, h2, _⟩
          · exact ⟨h1, h2, h3⟩
          · exact h2.elim
        · rintro e W' ⟨hv, hj, hl⟩
          exact ⟨hv, .inl ⟨hj, hl⟩⟩
      case stop => intro c W h; exact h.elim
      case body =>
        rintro rl ⟨j, q⟩ a₁ W ⟨hj, hq, rfl⟩ hl
        obtain ⟨T, G, v, f⟩ := hj
        have hqk : q < k := by rw [← HN.out]; exact (HW1.out q).1 (List.mem_iff_getElem?.2 ⟨j, hq⟩)
        have hx8 : W.cell? ⟨w3.heap.size, 0, none⟩ = some (usedV (wr.heap.size + 2) wr.heap.size) := by rw [show w3.heap.size = wr.heap.size + 3 by have := HZ3.out; omega]; exact f.ub.cell 0
        unfold usedV at hx8
        have HC := hidE (f.call HT.out.valid (by rw [HT.out.len, HN.out]) (by omega) HLS.out hqk)
        have HF := hidE f
        have HQ := hidE hq
        have HLo := hidE hl
        clear f hq hl
        gi_wp2
        refine ⟨trivial, ?_⟩
        refine (CallsIn.inRound _ ((callsIn_wide (n := _)).2 HC.out)).mono ?_
        rintro e W3 ⟨T', g, vg, rfl, hgl, m⟩
        clear HC hx8
        have hb8 := HF.out.big
        obtain ⟨gl, hg⟩ : ∃ gl, g.length = gl := ⟨_, rfl⟩
        have hown := m.own
        rw [hg] at hgl hown
        obtain ⟨A8, c8, rfl⟩ := own_shape hown
        have hloop : ∀ W', (∀ b, b = wr.heap.size + 6 ∨ b = wr.heap.size + 7 → W'.heap[b]? = W.heap[b]?) → LoopAt rl (W4.heap.size + 1) W4.heap.size W' := fun W' h => HLo.out.keep (h _ (by have := HQ4.out; omega)) (h _ (by have := HQ4.out; omega))
        have HLOOP := hidE hloop
        have HM := hidE m
        have HG := hidE hg
        have HOWN := hidE hown
        clear hloop m hg hown
        by_cases h0 : 0 < gl
        · have d0 : decide ((0 : Int) < (gl : Nat)) = true := by simp; omega
          have HS := hidE (ow_sort g W.heap.size (.slice A8 gl c8) W3 HM.out.own (by rw [HG.out]; exact h0) (by rw [HG.out]; exact hgl))
          gi_wp2
          refine ⟨trivial, ?_⟩
          refine (CallsIn.inRound _ ((callsIn_wide (n := _)).2 HS.out)).mono ?_
          rintro e W5 ⟨rfl, s, sp, su, so, sc⟩
          clear HS
          have hM5 := HM.out.sorted hb8 sp so sc
          obtain ⟨m1, ⟨vs, g1, g2⟩, m3, m4, m5, m6, m7⟩ := HF.out.mid hM5
          obtain ⟨ng, hng⟩ : ∃ ng, G.length = ng := ⟨_, rfl⟩
          have hngl : ng ≤ k := by rw [← hng, ← HN.out]; exact HF.out.fnd.len
          rw [hng] at g1
          obtain ⟨A9, c9, rfl⟩ := own_shape g1
          have z0 : W5.cell? ⟨w3.heap.size + 1, 0, none⟩ = some (.slice A9 ng c9) := by rw [show w3.heap.size + 1 = wr.heap.size + 4 by have := HZ3.out; omega]; exact m1.cell 0
          have HO5 := hidE (World.ownsRow.alloc g1 (.cells #[.slice A8 gl c8] 30))
          have HG2 := hidE g2
          have HG1 := hidE g1
          have HM1 := hidE m1
          have HM5 := hidE hM5
          have HNG := hidE hng
          have HSU := hidE su
          have HSP := hidE sp
          have HW5 := hidE m7
          clear sp su so sc hM5 m1 g1 g2 m3 m4 m5 m6 m7 hng
          gi_wp2_with (gi_at_builtin; go_loud (refine wpListIn_append_own_at _ rfl (.tmp 40) (.tmp 42) 22 rfl (wr.heap.size + 8) 30 j0 _ 1 24 Try.underlying22 hj0 hy0 hy1 hy2 rfl (by decide) _ ng vs rfl HO5.out ⟨W5.heap.size, 0, none⟩ 1 1 [.slice A8 gl c8] rfl rfl (World.news_of_block (heap_alloc_new _ _)) (by intro u hu; simp at hu; subst hu; rfl) (by unfold maxLen; omega) (by omega) (by have := HW5.out; simp; omega) ?_); intro v9 w9 hown9 hgrow _ hat9; obtain ⟨A7, c7, rfl⟩ := own_shape hown9; obtain ⟨y1, y2, y3⟩ := box_facts HM1.out HG1.out (show wr.heap.size + 4 < wr.heap.size + 8 by omega) hgrow (show w3.heap.size + 1 = wr.heap.size + 4 by have := HZ3.out; omega); have HO9 := hidE hown9; have HG9 := hidE hgrow; have HA9 := hidE hat9; clear hown9 hgrow hat9)
          have hend := HF.out.push HM5.out HQ.out (by rw [HSP.out.length_eq, HG.out]; exact h0) HSU.out (HT.out.use HV.out) HT.out.len HT.out.valid HW3.out HW1.out (by rw [HNG.out]; exact HG1.out) HG2.out HG9.out (by rw [HNG.out]; exact HO9.out) HA9.out
          rw [show wr.heap.size + 4 = w3.heap.size + 1 by have := HZ3.out; omega] at hend
          refine ⟨hend, HLOOP.out _ (fun b hb => ?_)⟩
          have hsz5 : (W5.alloc (.cells #[.slice A8 gl c8] 30)).heap.size = W5.heap.size + 1 := size_alloc _ _
          have h35 := HM5.out.ch.size
          rw [heap_setCell_other _ _ _ _ (by show b ≠ w3.heap.size + 1; have := HZ3.out; omega), HG9.out.block b (by omega) (fun e => by have := (own_more HG1.out b e.symm).1; omega)]
          exact (heap_alloc_old W5 _ (by omega)).trans (HM5.out.ch.block b (by omega) (fun e => by omega))
        · have hg0 : gl = 0 := by omega
          subst hg0
          have hend := HF.out.stay HM.out HQ.out (by rw [HG.out]; omega)
          have HEND := hidE (show _ ∧ _ from ⟨hend, HLOOP.out W3 (fun b hb => HM.out.ch.block b (by omega) (fun e => by omega))⟩)
          clear hend
          gi_wp2
          exact HEND.out
      case done =>
        intro W hj hD
        obtain ⟨T, G, v, f⟩ := hj
        have hall : ∀ i, i < u.length → T i = true := fun i hi => f.suf i (by rw [List.drop_zero]; exact (HW1.out i).2 hi)
        have hgl : ∀ g ∈ G, g.length ≤ 1000000 := fun g hg => by
          have h1 : g.length ≤ u.length := lt_of_all ((f.fnd.up g hg).imp fun h => by omega) (f.fnd.lt g hg)
          have := HN.out
          omega
        have hlen : G.length ≤ 1000 := by have := f.fnd.len; have := HN.out; omega
        have HS := hidE (ow_sortRows (wr.heap.size + 8) v W G f.gi hlen hgl)
        have x9 : W.cell? ⟨w3.heap.size + 1, 0, none⟩ = some v := by rw [show w3.heap.size + 1 = wr.heap.size + 4 by have := HZ3.out; omega]; exact f.gb.cell 0
        obtain ⟨A9, c9, rfl⟩ := f.gi.shape
        obtain ⟨ng, hng⟩ : ∃ ng, G.length = ng := ⟨_, rfl⟩
        rw [hng] at x9
        have HF := hidE f
        have HD := hidE hD
        have HALL := hidE hall
        have HNG := hidE hng
        clear f hD hall hgl hlen hng
        go_wp2_with fail
        rw [← HNG.out]
        refine HS.out.mono ?_
        rintro e w5 ⟨rfl, H, hp, hs, hgi, hc⟩
        have hvb : ∀ b, (Value.slice A9 G.length c9).ownBlock = some b → wr.heap.size + 8 ≤ b := fun b hb => by
          obtain ⟨vs, g1, _⟩ := HF.out.gi
          exact (own_more g1 b hb).1
        have y9 : w5.cell? ⟨w3.heap.size + 1, 0, none⟩ = some (.slice A9 G.length c9) := by
          rw [show w3.heap.size + 1 = wr.heap.size + 4 by have := HZ3.out; omega]
          exact (HF.out.gb.chg hc (fun e => by have := hvb _ e; omega)).cell 0
        have HP := hidE hp
        have HSO := hidE hs
        have HGI := hidE hgi
        have HCH := hidE hc
        have HVB := hidE hvb
        clear HS hp hs hgi hc hvb x9
        go_wp2_with fail
        have hd5 : w5.heap[W4.heap.size]? = some (.deferred (some [])) := (HCH.out.block _ (Array.getElem?_eq_some_iff.1 HD.out).1 (fun e => by have := HVB.out _ e; have := HQ4.out; omega)).trans HD.out
        refine ⟨by simp, .inl ⟨_, _, rfl, run_takeDeferred hd5, ?_⟩⟩
        refine ⟨_, results_tmp (show Try.f15.results = #[.tmp 4] from rfl) _ _ _, ?_⟩
        have hPk : ∀ b, b ≠ W4.heap.size → (w5.putObj W4.heap.size (.deferred none)).heap[b]? = w5.heap[b]? := fun b hb => World.putObj_heap_other hb
        have hb8 := HF.out.big
        have b1 : Below wr.heap.size W w5 := HCH.out.toBelow (by omega) (fun b hb e => by have := HVB.out _ e; omega)
        have b2 : Below wr.heap.size w5 (w5.putObj W4.heap.size (.deferred none)) := ⟨rfl, rfl, rfl, by rw [World.putObj_size]; exact Nat.le_refl _, fun b hb => hPk b (by have := HQ4.out; omega)⟩
        refine ⟨H, _, rfl, HF.out.fnd.srt HALL.out HP.out HSO.out, ?_, (hB.out.trans ((HF.out.bl.trans (b1.trans b2)).mono (by have := hB.out.size; omega)))⟩
        exact (HGI.out.keep (by rw [World.putObj_size]; exact Nat.le_refl _) (fun b h1 _ => hPk b (by have := HQ4.out; omega))).rd
end Go.Proofs.Ytfmpmblhndnbeaa
