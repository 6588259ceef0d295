/-
  Order: groups are told each behind those that it uses: the walk.
-/
import Derived.Test.YtfmpmblhndnbeaaOwU
import Derived.Test.YtfmpmblhndnbeaaOwO
namespace Go.Proofs.Ytfmpmblhndnbeaa
open Go.RowKit Go.Shelf Go.Proofs.Ytfmpmblhndnbeaa.Od
set_option maxRecDepth 100000

theorem zV_zero (m : Nat) : List.replicate m (.int .i64 0) = zV (List.replicate m 0) := by unfold zV; simp
set_option maxHeartbeats 3200000 in
theorem ow_inOrder (u us : Uses) (H : List (List Nat)) (n m cm cu cs : Nat) (ag au aus : Option Addr) (w : World) (s : Srt u H) (hv : Valid u) (ht : Turn u us) (hn : u.length = n) (hn2 : n ≤ 500) (hm : H.length = m) (hm2 : m ≤ 500)
    (hl : ∀ l ∈ u, l.length ≤ 1001000000) (hls : ∀ l ∈ us, l.length ≤ 1001000000) (hGl : ∀ l ∈ H, l.length ≤ 500)
    (hH : RdU w (.slice ag m cm) H) (hU : RdB w.heap.size w (.slice au n cu) (u.map intV)) (hUS : RdB w.heap.size w (.slice aus n cs) (us.map intV)) :
    Calls Try.prog 14 #[.slice ag m cm, .slice au n cu, .slice aus n cs] w fun e w' => ∃ v' told, e = .returned v' ∧ GrpOK u (tld H told) ∧ RdU w' v' (tld H told) ∧ Below w.heap.size w w' := by
  obtain ⟨j0, hj0, hy0, hy1, hy2⟩ := info_parts row_info
  have hmf : ∀ (fn : Fn) (first cap : Array Value) (w : World), (Instr.makeFunc fn first cap).run Try.prog w = .ok (.func fn first cap) w := fun _ _ _ _ => rfl
  obtain ⟨arr, harr⟩ : ∃ arr, (List.replicate m (Value.int .i64 0)).toArray = arr := ⟨_, rfl⟩
  have hmk := fun W => make_ints m (by omega) W
  rw [harr] at hmk
  have HARR := hidE harr
  clear harr
  have ek1 : ∀ args w, (callFunc 21 args).run Try.prog w = .ok (.enter 21 args) w := enters_of Try.func21 (by kernel_rfl) rfl
  have hGB : RdB w.heap.size w (.slice ag m cm) (H.map intV) := by
    obtain ⟨A, c, e, hp⟩ := hH
    refine ⟨A, c, by rw [List.length_map]; exact e, fun h0 => ?_⟩
    rw [List.length_map] at h0
    obtain ⟨a, e1, e2, e3⟩ := hp h0
    refine ⟨a, e1, e2, fun j l hl => ?_⟩
    rw [List.getElem?_map] at hl
    cases hj : H[j]? with
    | none => rw [hj] at hl; cases hl
    | some g => rw [hj] at hl; injection hl with hl; subst hl; exact e3 j g hj
  have hh1 : RdU (w.alloc (.cells #[.slice ag m cm] 22)) (.slice ag m cm) H := hH.below ((Below.refl _ w).alloc (Nat.le_refl _) _)
  have HC1 := hidE (ow_homes u H n (.slice ag m cm) _ s hn hn2 (by omega) (fun g hg => by have := hGl g hg; omega) hh1)
  have ha1 : Blk (w.alloc (.cells #[.slice ag m cm] 22)) w.heap.size 22 #[.slice ag m cm] := heap_alloc_new w _
  have hb1 := (Below.refl w.heap.size w).alloc (Nat.le_refl _) (.cells #[.slice ag m cm] 22)
  obtain ⟨W1, hW1⟩ : ∃ X, w.alloc (.cells #[.slice ag m cm] 22) = X := ⟨_, rfl⟩
  have hs1 : W1.heap.size = w.heap.size + 1 := by rw [← hW1]; exact size_alloc _ _
  rw [hW1] at HC1 ha1 hb1
  have HS := hidE s
  have HV := hidE hv
  have HT := hidE ht
  have HN := hidE hn
  have HM := hidE hm
  have HL := hidE hl
  have HLS := hidE hls
  have HGL := hidE hGl
  have HGB := hidE hGB
  have HU := hidE hU
  have HUS := hidE hUS
  have HA1 := hidE ha1
  have HB1 := hidE hb1
  have HS1 := hidE hs1
  have HW1 := hidE hW1
  obtain ⟨p0, -, -⟩ := blk_facts1 ha1
  clear s hv ht hn hm hl hls hGl hGB hU hUS hH hh1 ha1 hb1 hs1 hW1
  go_enter Try.func14, Try.ntmps14
  go_wp2_with fail
  try rw [HW1.out]
  refine HC1.out.mono ?_
  rintro e w2 ⟨rfl, hd, b2⟩
  have ha2 := HA1.out.below b2 HA1.out.lt
  obtain ⟨q0, -, -⟩ := blk_facts1 ha2
  have HD2 := hidE hd
  have HB2 := hidE b2
  have HA2 := hidE ha2
  have hs2 : w.heap.size + 1 + 1 ≤ w2.heap.size := by have := HD2.out.lt; have := HS1.out; omega
  obtain ⟨a3, a4, a5, hs5, b5⟩ := laid3 w2 (.cells #[.slice (some ⟨W1.heap.size, 0, none⟩) n n] 30) (.cells arr 3) (.cells #[.slice (some ⟨w2.heap.size + 1, 0, none⟩) m m] 30)
  have hs3 : (w2.alloc (.cells #[.slice (some ⟨W1.heap.size, 0, none⟩) n n] 30)).heap.size = w2.heap.size + 1 := size_alloc _ _
  have hg3 : (w2.alloc (.cells #[.slice (some ⟨W1.heap.size, 0, none⟩) n n] 30)).cell? ⟨w.heap.size, 0, none⟩ = some (.slice ag m cm) := (ha2.alloc _).cell 0
  have hg5 := (ha2.below b5 (by omega)).cell 0
  obtain ⟨W3, hW3⟩ : ∃ X, w2.alloc (.cells #[.slice (some ⟨W1.heap.size, 0, none⟩) n n] 30) = X := ⟨_, rfl⟩
  rw [hW3] at a3 a4 a5 hs5 b5 hs3 hg3 hg5
  rw [← hs3] at a3 a4 a5 hs5 b5 hg5
  obtain ⟨W5, hW5⟩ : ∃ X, (W3.alloc (.cells arr 3)).alloc (.cells #[.slice (some ⟨W3.heap.size, 0, none⟩) m m] 30) = X := ⟨_, rfl⟩
  rw [hW5] at a3 a4 a5 hs5 b5 hg5
  replace hg5 : W5.cell? ⟨w.heap.size, 0, none⟩ = some (.slice ag m cm) := hg5
  have HB5 := hidE b5
  have HS2 := hidE hs2
  have HS3 := hidE hs3
  have HS5 := hidE hs5
  have HA3 := hidE a3
  have HA4 := hidE a4
  have HA5 := hidE a5
  clear HC1 hd b2 ha2 p0 b5 hs2 hs3 hs5 a3 a4 a5
  go_wp2_with fail
  have hlo : w.heap.size + 1 = W1.heap.size ∧ W1.heap.size < w2.heap.size ∧ w2.heap.size + 1 = W3.heap.size ∧ W3.heap.size + 2 = W5.heap.size := by
    have h1 := HS1.out; have h2 := HD2.out.lt; have h3 := HS3.out; have h5 := HS5.out
    exact ⟨by omega, by omega, by omega, by omega⟩
  have hFX : ∀ W', Chg (fun b => b = W3.heap.size) W5 W' → Blk W' w.heap.size 22 #[.slice ag m cm] ∧ Blk W' w2.heap.size 30 #[.slice (some ⟨W1.heap.size, 0, none⟩) n n] ∧ Blk W' W1.heap.size 3 (homV n (hm H)).toArray ∧
      RdB w.heap.size W' (.slice ag m cm) (H.map intV) ∧ RdB w.heap.size W' (.slice au n cu) (u.map intV) ∧ RdB w.heap.size W' (.slice aus n cs) (us.map intV) ∧ Below w.heap.size w W' ∧ W5.heap.size ≤ W'.heap.size := fun W' hc => by
    obtain ⟨l1, l2, l3, l4⟩ := hlo
    have b1 : Below w.heap.size w W' := ((HB1.out.trans (HB2.out.mono (by omega))).trans (HB5.out.mono (by omega))).trans (hc.toBelow (by omega) (fun b hb e => by have e : b = W3.heap.size := e; omega))
    have ne : ∀ b, b ≠ W3.heap.size → ¬ b = W3.heap.size := fun b h => h
    exact ⟨(HA2.out.below HB5.out (by omega)).chg hc (ne _ (by omega)), Blk.chg HA3.out hc (ne _ (by omega)), (HD2.out.below HB5.out (by omega)).chg hc (ne _ (by omega)), HGB.out.below b1 (Nat.le_refl _), HU.out.below b1 (Nat.le_refl _), HUS.out.below b1 (Nat.le_refl _), b1, hc.size⟩
  have FX := hidE hFX
  have LO := hidE hlo
  clear hmk hW3 hW5 hg3 hg5 q0 hFX hlo
  go_loopg [23] m (fun gg v wr => ∃ k W, gg = m - k ∧ v = .int .i64 (k : Nat) ∧ k ≤ m ∧ Hid (IncP H u k W) ∧ Hid (WI (W3.heap.size + 1) W3.heap.size m (k * 501000000000) W wr) ∧ Hid (Chg (fun b => b = W3.heap.size) W5 wr))
  case atStart =>
    refine ⟨0, List.replicate m 0, rfl, rfl, by omega, hidE (by have := IncP.start H u; rw [HM.out] at this; exact this), hidE ?_, hidE (Chg.refl _ _)⟩
    exact { bx := HA5.out, dt := by have h := HA4.out; rw [← HARR.out, zV_zero] at h; exact h, len := by simp, bd := fun x hx => by rw [(List.mem_replicate.1 hx).2]; omega, ne := by omega }
  case round =>
    obtain ⟨k, W, rfl, rfl, hk, hP, hW, hC⟩ := hrel
    by_cases hlt : k < m
    · obtain ⟨l1, l2, l3, l4⟩ := LO.out
      obtain ⟨f1, f2, f3, f4, f5, f6, f7, f8⟩ := FX.out wr hC.out
      have hca : Chg (fun b => b = W3.heap.size) W5 (wr.alloc (.cells #[.int .i64 (k : Nat)] 3)) := hC.out.alloc _
      obtain ⟨g1, g2, g3, g4, g5, g6, g7, g8⟩ := FX.out _ hca
      have hgx : Blk (wr.alloc (.cells #[.int .i64 (k : Nat)] 3)) wr.heap.size 3 #[.int .i64 (k : Nat)] := heap_alloc_new wr _
      have hcall := ow_others w.heap.size w.heap.size w2.heap.size W1.heap.size W3.heap.size n m cm cu k ag au u u H 22 #[.pointer (some ⟨W3.heap.size + 1, 0, none⟩), .pointer (some ⟨wr.heap.size, 0, none⟩)]
        (fun B W w => WI (W3.heap.size + 1) W3.heap.size m B W w ∧ Blk w wr.heap.size 3 #[.int .i64 (k : Nat)]) (inc1 k) (inc_doer _ _ m wr.heap.size k hlt (by omega)) (enters_of Try.func22 (by kernel_rfl) rfl) (fun B B' W w h hB => ⟨h.1.more hB, h.2⟩)
        HS.out HN.out HN.out (fun l hl x hx => by rw [← HN.out]; obtain ⟨i, hi⟩ := List.mem_iff_getElem?.1 hl; exact HV.out i x ⟨l, hi, hx⟩) hn2 HM.out hm2 hlt HL.out HGL.out (k * 501000000000) (by omega) W _
        ⟨hW.out.keep (P := fun _ => False) (Chg.of_below ((Below.refl _ wr).alloc (Nat.le_refl _) _)) (fun _ h => h.elim), hgx⟩ g1 g4 g2 g3 g5 (by omega) (by omega) (by omega) (by omega)
      have y0 : (wr.alloc (.cells #[.int .i64 (k : Nat)] 3)).cell? ⟨wr.heap.size, 0, none⟩ = some (.int .i64 (k : Nat)) := hgx.cell 0
      have HCALL := hidE hcall
      have HCA := hidE hca
      clear f1 f2 f3 f4 f5 f6 f7 g1 g2 g3 g4 g5 g6 g7 g8 hgx hcall hca
      go_wp2_with fail
      refine HCALL.out.mono ?_
      rintro e w5 ⟨rfl, ⟨hI5, _⟩, hC5⟩
      have HI5 := hidE (hI5.more (show k * 501000000000 + 500 * 1001000000 ≤ (k + 1) * 501000000000 by omega))
      have HC5 := hidE (HCA.out.trans' hC5 (fun _ _ h => h))
      have HP5 := hidE (hP.out.step (by rw [HM.out]; exact hlt))
      clear hI5 hC5 HCALL HCA
      go_wp2_with fail
      go_roundg (m - (k + 1))
      case measure => omega
      case rel => exact ⟨k + 1, _, rfl, by go_num, by omega, HP5, HI5, HC5⟩
    · have hkm : k = m := by omega
      subst hkm
      have HIN : Hid (InO u H [] W) := hidE (IncP.done (by rw [HM.out]; exact hP.out))
      obtain ⟨f1, -, -, -, -, -, -, f8⟩ := FX.out wr hC.out
      obtain ⟨z3, -, -⟩ := blk_facts1 f1
      clear f1
      go_wp2_with fail
      clear z3
      have hT0 : Hid (TR w.heap.size W5.heap.size H [] (.slice none 0 0) wr) := hidE (TR.nil _ _ _ _)
      go_loopg [11, 34] k (fun gg v11 vi wx => ∃ r told W, gg = k - r ∧ vi = .int .i64 (r : Nat) ∧ r ≤ k ∧ told.length = r ∧ Hid (InO u H told W) ∧ Hid (WI (W3.heap.size + 1) W3.heap.size k (k * 501000000000 + r * 501000000000) W wx) ∧ Hid (TR w.heap.size W5.heap.size H told v11 wx) ∧ Hid (Chg (fun b => b = W3.heap.size) W5 wx))
      case atStart => exact ⟨0, [], W, rfl, rfl, by omega, rfl, HIN, hidE (hW.out.more (by omega)), hT0, hC⟩
      case round =>
        obtain ⟨r, told, W, rfl, rfl, hr, htl, hI, hW, hTR, hC⟩ := hrel
        clear hT0 HIN
        by_cases hlt : r < k
        · obtain ⟨l1, l2, l3, l4⟩ := LO.out
          obtain ⟨kz, hkz, hz⟩ := hI.out.left HS.out HV.out (by rw [HM.out]; omega)
          obtain ⟨q, hq0, hqf⟩ := first_zero hz
          have hqk : q < k := by rw [← HM.out, ← hI.out.len]; exact (List.getElem?_eq_some_iff.1 hq0).1
          obtain ⟨c1, c2, c3, c4, -⟩ := hW.out.facts hq0
          have hcall := ow_first W q _ wr hW.out.row (by rw [hI.out.len, HM.out]; omega) hq0 hqf
          obtain ⟨s1, s2⟩ := hW.out.set (o := q) (x := 0) (y := -1) (by omega) hq0
          have hca := hC.out.trans' s2 (fun _ _ h => h)
          obtain ⟨f1, f2, f3, f4, f5, f6, f7, f8⟩ := FX.out _ hca
          have y3 : (wr.setCell ⟨W3.heap.size, q, none⟩ (.int .i64 (-1))).cell? ⟨w.heap.size, 0, none⟩ = some (.slice ag k cm) := f1.cell 0
          obtain ⟨l, hl⟩ : ∃ l, H[q]? = some l := ⟨_, List.getElem?_eq_getElem (by rw [HM.out]; exact hqk)⟩
          have f4' := f4
          obtain ⟨Ag, cg, e1, hp1⟩ := f4
          rw [List.length_map, HM.out] at e1 hp1
          injection e1 with e1 _ e1'
          subst e1 e1'
          obtain ⟨pg, rfl, _, hc1⟩ := hp1 (by omega)
          obtain ⟨xv, hxc, hxr⟩ := hc1 q (intV l) (by rw [List.getElem?_map, hl]; rfl)
          have hk1 : pg.add (q * 1) = pg.add q := by rw [Nat.mul_one]
          have hTR2 := hTR.out.keep s2 (fun g hg => by have hg : g = W3.heap.size := hg; omega) (by have := hC.out.size; omega)
          obtain ⟨xs, t1, t2⟩ := hTR2
          rw [htl] at t1
          obtain ⟨A9, c9, rfl⟩ := own_shape t1
          have HCALL := hidE hcall
          have HCA := hidE hca
          have HS1' := hidE s1
          have HT1 := hidE t1
          have HT2 := hidE t2
          have HLQ := hidE hl
          have HXR := hidE hxr
          have HQ0 := hidE hq0
          have HQF := hidE hqf
          have HTL := hidE htl
          have HX1 := hidE hxr
          obtain ⟨Ax, cx, rfl, -⟩ := hxr
          obtain ⟨lx, hlx⟩ : ∃ lx, (intV l).length = lx := ⟨_, rfl⟩
          rw [hlx] at hxc HX1
          have HO := hidE (World.ownsRow.alloc t1 (.cells #[.slice Ax lx cx] 30))
          have hnb : ((wr.setCell ⟨W3.heap.size, q, none⟩ (.int .i64 (-1))).alloc (.cells #[.slice Ax lx cx] 30)).heap[wr.heap.size]? = some (.cells #[.slice Ax lx cx] 30 (0, 0)) := by
            have := heap_alloc_new (wr.setCell ⟨W3.heap.size, q, none⟩ (.int .i64 (-1))) (.cells #[.slice Ax lx cx] 30)
            rwa [World.size_setCell] at this
          have HNB := hidE hnb
          have hwz : W5.heap.size ≤ wr.heap.size := hC.out.size
          have HLX := hidE hlx
          clear hnb hlx
          clear hcall hca s1 s2 f1 f2 f3 f4' f5 f6 f7 f8 hp1 hc1 t1 t2 hl hq0 hqf htl hz hkz HXR
          go_wp2_with fail
          refine HCALL.out.mono ?_
          rintro e w1 ⟨rfl, rfl⟩
          clear HCALL
          go_wp2_with (at_builtin; refine wpList_append_own_at _ rfl (.tmp 41) (.tmp 46) 22 rfl W5.heap.size 30 j0 _ 1 24 Try.underlying22 hj0 hy0 hy1 hy2 rfl (by decide) _ r xs rfl HO.out ⟨wr.heap.size, 0, none⟩ 1 1 [.slice Ax lx cx] rfl rfl (World.news_of_block HNB.out) (by intro u hu; simp at hu; subst hu; rfl) (by unfold maxLen; omega) (by omega) (by simp; omega) ?_; intro v3 w5 hown3 hgrow _ _; obtain ⟨A7, c7, rfl⟩ := own_shape hown3; have HO3 := hidE hown3; have HG3 := hidE hgrow; clear hown3 hgrow)
          have hch : Chg (fun b => W5.heap.size ≤ b) (wr.setCell ⟨W3.heap.size, q, none⟩ (.int .i64 (-1))) w5 := ((Chg.refl _ _).alloc _).grown HG3.out (fun z hz => .inr (own_more HT1.out z hz).1)
          have hc5 : Chg (fun b => b = W3.heap.size) W5 w5 := (HCA.out.alloc _).grown HG3.out (fun z hz => .inl (own_more HT1.out z hz).1)
          have hw5 := HS1'.out.keep hch (fun z hz => by have hz : W5.heap.size ≤ z := hz; omega)
          obtain ⟨g1, g2, g3, g4, g5, g6, g7, g8⟩ := FX.out w5 hc5
          have hsa : w.heap.size ≤ (wr.setCell ⟨W3.heap.size, q, none⟩ (.int .i64 (-1))).heap.size := by rw [World.size_setCell]; omega
          have htr : TR w.heap.size W5.heap.size H (told ++ [q]) (.slice A7 (r + 1) c7) w5 := TR.push (by rw [HTL.out]; exact HT1.out) HT2.out HLQ.out HX1.out HG3.out (by rw [HTL.out]; exact HO3.out) hsa (by omega)
          have hcall := ow_others w.heap.size w.heap.size w2.heap.size W1.heap.size W3.heap.size n k cm cs q (some pg) aus u us H 24 #[.pointer (some ⟨W3.heap.size + 1, 0, none⟩)]
            (fun B W w => WI (W3.heap.size + 1) W3.heap.size k B W w) dec1 (dec_doer _ _ k) (enters_of Try.func24 (by kernel_rfl) rfl) (fun B B' W w h hB => h.more hB)
            HS.out HN.out (by rw [HT.out.len, HN.out]) (fun l hl x hx => by rw [← HN.out]; exact HT.out.lt l hl x hx) hn2 HM.out hm2 hqk HLS.out HGL.out (k * 501000000000 + r * 501000000000 + 1) (by omega) _ w5
            hw5 g1 g4 g2 g3 g6 (by omega) (by omega) (by omega) (by omega)
          refine hcall.mono ?_
          rintro e w6 ⟨rfl, hI6, hC6⟩
          have HI6 := hidE (hI6.more (show k * 501000000000 + r * 501000000000 + 1 + 500 * 1001000000 ≤ k * 501000000000 + (r + 1) * 501000000000 by omega))
          have HC6 := hidE (hc5.trans' hC6 (fun _ _ h => h))
          have HTR6 := hidE (htr.keep hC6 (fun z hz => by have hz : z = W3.heap.size := hz; omega) (by omega))
          have HIN6 := hidE (hI.out.push HS.out HV.out HT.out (by rw [HM.out]; exact hqk) HQ0.out HQF.out)
          clear hch hc5 hw5 g1 g2 g3 g4 g5 g6 g7 g8 hsa htr hcall hI6 hC6
          go_wp2_with fail
          go_roundg (k - (r + 1))
          case measure => omega
          case rel => exact ⟨r + 1, told ++ [q], _, rfl, by go_num, by omega, by rw [List.length_append, HTL.out]; rfl, HIN6, HI6, HTR6, HC6⟩
        · have hrk : r = k := by omega
          subst hrk
          have hend := hI.out.done HS.out (by rw [HM.out, htl]; exact Nat.le_refl _)
          obtain ⟨-, -, -, -, -, -, f7, -⟩ := FX.out wr hC.out
          have hrd := hTR.out.rd f7.size
          have HE := hidE hend
          have HR := hidE hrd
          have HBB := hidE f7
          clear hend hrd f7
          go_wp2_with fail
          go_ret
          exact ⟨_, told, rfl, HE.out, HR.out, HBB.out⟩
end Go.Proofs.Ytfmpmblhndnbeaa
