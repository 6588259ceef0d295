/-
  OrderTurned: turned uses have the same groups, if in another order. Of whatever uses.
-/
import Derived.Test.YtfmpmblhndnbeaaOxD
import Derived.Deep.RegionHeld3
import Derived.Deep.RegionLaw
namespace Go.Proofs.Ytfmpmblhndnbeaa.OrderTurned
open Go.RowKit Go.Shelf Go.ChangeShapes Go.WideShapes Go.Proofs.Ytfmpmblhndnbeaa.Od
set_option maxRecDepth 100000

set_option maxHeartbeats 6400000 in
theorem walk (z : List (List Int)) (v : Value) (w : World) (hz : RdR w v (z.map zV)) :
    Calls Try.prog 6 #[v] w fun e w' => e = .returned (.bool true) ∧ Below w.heap.size w w' := by
  obtain ⟨A, c, hsh⟩ : ∃ A c, v = .slice A z.length c := by
    obtain ⟨A, c, rfl, -⟩ := hz
    exact ⟨A, c, by rw [List.length_map]⟩
  subst hsh
  obtain ⟨n, hn⟩ : ∃ n, z.length = n := ⟨_, rfl⟩
  rw [hn] at hz ⊢
  have HZ := hidE hz
  have HN := hidE hn
  have HC := hidE (ow_awake w)
  clear hz hn
  go_enter Try.func6, Try.ntmps6
  go_wp2_with fail
  refine HC.out.mono ?_
  rintro e w1 ⟨rfl, b1⟩
  have hz1 : RdR w1 (.slice A n c) (z.map zV) := ((RdR.b HZ.out).below b1 (Nat.le_refl _)).r b1.size
  obtain ⟨b, hb⟩ : ∃ b, fewB (z.map zV) 100 = b := ⟨_, rfl⟩
  have hf := od_few (.slice A n c) (z.map zV) 100 w1 hz1 (by omega)
  rw [hb] at hf
  have HF := hidE hf
  have HB1 := hidE b1
  have HZ1 := hidE hz1
  have HB := hidE hb
  clear HC b1 hz1 hf hb
  go_wp2_with fail
  refine HF.out.mono ?_
  rintro e w2 ⟨rfl, rfl⟩
  clear HF
  cases b with
  | false =>
    go_wp2_with fail
    go_ret
    exact ⟨rfl, HB1.out⟩
  | true =>
    obtain ⟨hl1, hl2⟩ := few_len HB.out
    rw [HN.out] at hl1
    have HG := hidE (ow_Groups _ z w1 HZ1.out (by rw [HN.out]; omega) (fun l hl => by have := hl2 l hl; omega))
    have HL2 := hidE hl2
    clear hl2
    go_wp2_with fail
    refine HG.out.mono ?_
    rintro e w3 ⟨v3, x, rfl, b3, ⟨ht, rfl, r3⟩ | ⟨ht, rfl, rfl⟩⟩
    · obtain ⟨u, hu⟩ : ∃ u, natU z = u := ⟨_, rfl⟩
      have hV := natU_V ht
      have hval := natU_valid ht
      have hlen := natU_len z
      have hsz := natU_sz HL2.out
      rw [hu] at hV hval hlen hsz r3
      rw [HN.out] at hlen
      have hok := groups_ok hval
      obtain ⟨G, hG⟩ : ∃ G, groups u = G := ⟨_, rfl⟩
      rw [hG] at r3 hok
      have hgl := grp_len hok
      have hU3 : RdU w3 (.slice A n c) u := RdR.u (((RdR.b (by rw [hV]; exact HZ1.out)).below b3 (Nat.le_refl _)).r b3.size)
      obtain ⟨A0, c0, e0, hp0⟩ := hU3
      rw [hlen] at e0 hp0 hgl
      injection e0 with e0 _ e0'
      subst e0 e0'
      have hst := TurnP.start u 100
      rw [hlen] at hst
      have hmk := fun W => make_rows n (by omega) W
      have hshp := r3
      obtain ⟨A3, c3, rfl, -⟩ := hshp
      obtain ⟨m, hm⟩ : ∃ m, G.length = m := ⟨_, rfl⟩
      rw [hm] at hgl r3 ⊢
      have HB3 := hidE (HB1.out.trans (b3.mono HB1.out.size))
      have HP0 := hidE hp0
      have HOK := hidE hok
      have HVAL := hidE hval
      have HLEN := hidE hlen
      have HSZ := hidE hsz
      have HM := hidE hm
      have HR3 := hidE r3
      have HST := hidE hst
      obtain ⟨i0, hi0, hz0, hz1, hz2⟩ := info_parts int_info
      clear HG ht hV hval hlen hsz hok b3 hp0 hm hu hG r3 hst
      go_wp2_with fail
      have hR0 := hidE (Rows.made (w := w3) (n := n) (w3.heap.size + 1) rfl rfl)
      have hB0 := hidE ((Below.refl w3.heap.size w3).alloc (Nat.le_refl _) (.cells (List.replicate n (.slice none 0 0)).toArray 30))
      go_loopg [8] n (fun gg vi wr => ∃ k us vs, gg = n - k ∧ vi = .int .i64 (k : Nat) ∧ k ≤ n ∧ Hid (Below w3.heap.size w3 wr) ∧ Hid (Rows (w3.heap.size + 1) wr w3.heap.size vs us) ∧ Hid (TurnP u 100 k 0 us))
      case atStart => exact ⟨0, _, _, rfl, rfl, by omega, hB0, hR0, HST⟩
      case round =>
        obtain ⟨k, us, vs, rfl, rfl, hk, hB, hR, hT⟩ := hrel
        clear hR0 hB0 hmk HST
        by_cases hlt : k < n
        · obtain ⟨a, rfl, hab, hcc⟩ := HP0.out (by omega)
          obtain ⟨l, hl⟩ : ∃ l, u[k]? = some l := ⟨_, List.getElem?_eq_getElem (by rw [HLEN.out]; exact hlt)⟩
          obtain ⟨x, hxc, hxr⟩ := hcc k l hl
          have hk1 : a.add (k * 1) = a.add k := by rw [Nat.mul_one]
          obtain ⟨A2, c2, rfl, hp2⟩ := hxr
          rw [intV_len] at hxc hp2
          obtain ⟨q, hq⟩ : ∃ q, l.length = q := ⟨_, rfl⟩
          have hql : q ≤ 100 := by rw [← hq]; exact HSZ.out l (List.mem_iff_getElem?.2 ⟨k, hl⟩)
          rw [hq] at hxc hp2
          have HCK : Hid (∀ W, Below w3.heap.size w3 W → W.cell? (a.add k) = some (.slice A2 q c2)) := hidE fun W hW => (hW.cell (p := a.add k) (by rw [addr_add_block]; exact hab)).trans hxc
          have hck := HCK.out wr hB.out
          have HQ := hidE hq
          have HLK := hidE hl
          have HP2 := hidE hp2
          clear hcc hl hxc hab hp2 hq
          go_wp2_with fail
          go_loopg [9] q (fun gg vj wx => ∃ p us vs, gg = q - p ∧ vj = .int .i64 (p : Nat) ∧ p ≤ q ∧ Hid (Below w3.heap.size w3 wx) ∧ Hid (Rows (w3.heap.size + 1) wx w3.heap.size vs us) ∧ Hid (TurnP u 100 k p us))
          case atStart => exact ⟨0, us, vs, rfl, rfl, by omega, hB, hR, hT⟩
          case round =>
            obtain ⟨p, us, vs, rfl, rfl, hpq, hB, hR, hT⟩ := hrel
            clear hck
            have hck := HCK.out wr hB.out
            by_cases hpl : p < q
            · obtain ⟨a2, rfl, hab2, hcc2⟩ := HP2.out (by omega)
              obtain ⟨y, hy⟩ : ∃ y, l[p]? = some y := ⟨_, List.getElem?_eq_getElem (by rw [HQ.out]; exact hpl)⟩
              have hcy : wr.cell? (a2.add p) = some (.int .i64 (y : Nat)) := (hB.out.cell (p := a2.add p) (by rw [addr_add_block]; exact hab2)).trans (hcc2 p _ (by simp [intV, hy]))
              have hk2 : a2.add (p * 1) = a2.add p := by rw [Nat.mul_one]
              have hyn : y < n := by rw [← HLEN.out]; exact HVAL.out k y ⟨l, HLK.out, List.mem_iff_getElem?.2 ⟨p, hy⟩⟩
              obtain ⟨o, ho⟩ : ∃ o, us[y]? = some o := ⟨_, List.getElem?_eq_getElem (by rw [hT.out.len, HLEN.out]; exact hyn)⟩
              obtain ⟨vy, hvy⟩ : ∃ vy, vs[y]? = some vy := ⟨_, List.getElem?_eq_getElem (by rw [hR.out.len, hT.out.len, HLEN.out]; exact hyn)⟩
              have hrow := hR.out.row y vy o hvy ho
              obtain ⟨A6, c6, rfl⟩ := own_shape hrow
              have hcell : wr.cell? ⟨w3.heap.size, y, none⟩ = some (.slice A6 o.length c6) := by rw [hR.out.blk.cell]; simpa using hvy
              have hfr := hR.out.blk.frozen y
              have hlb := hR.out.blk.lt
              have hsz := hT.out.sz o (List.mem_iff_getElem?.2 ⟨y, ho⟩)
              have hsm : o.length ≤ 1001000000 := by omega
              obtain ⟨mt, hmt⟩ : ∃ mt, o.length = mt := ⟨_, rfl⟩
              rw [hmt] at hsm hrow hcell hvy
              have HO := hidE (World.ownsRow.alloc hrow (.cells #[.int .i64 (k : Nat)] 3))
              have HMo := hidE ho
              have HVY := hidE hvy
              have HMT := hidE hmt
              have HYY := hidE hy
              clear hrow ho hvy hsz hcc2 hy hmt hab2
              go_wp2_with (at_builtin; refine wpList_append_own_at _ rfl (.tmp 62) (.tmp 64) 30 rfl (w3.heap.size + 1) 3 i0 _ 1 8 Try.underlying30 hi0 hz0 hz1 hz2 rfl (by decide) _ mt (intV o) rfl HO.out ⟨wr.heap.size, 0, none⟩ 1 1 [.int .i64 (k : Nat)] rfl rfl (World.news_of_block (heap_alloc_new _ _)) (by intro u hu; simp at hu; subst hu; rfl) (by unfold maxLen; omega) (by omega) (by have := hR.out.blk.lt; simp; omega) ?_; intro v3 w5 hown3 hgrow _ hat3; obtain ⟨A7, c7, rfl⟩ := own_shape hown3; obtain ⟨z1, z2, z3⟩ := hR.out.blk_put HVY.out HMo.out hgrow; have HO3 := hidE hown3; have HG3 := hidE hgrow; have HA3 := hidE hat3; clear hown3 hgrow hat3)
              have hnew := hR.out.put (x := k) HVY.out HMo.out HG3.out (by rw [HMT.out, intV_snoc]; exact HO3.out) HA3.out
              have hnb := hR.out.put_below (v' := .slice A7 (mt + 1) c7) HVY.out HMo.out HG3.out hB.out (Nat.le_refl _)
              have hnt := hT.out.step HLK.out HYY.out HMo.out
              go_roundg (q - (p + 1))
              case measure => omega
              case rel => exact ⟨p + 1, _, _, rfl, by go_num, by omega, hidE hnb, hidE hnew, hidE hnt⟩
            · have hpq' : p = q := by omega
              subst hpq'
              have hnx := hidE (TurnP.next (l := l) (by rw [HQ.out]; exact hT.out) HLK.out (by rw [HQ.out]; exact hql))
              go_wp2_with fail
              go_roundg (n - (k + 1))
              case measure => omega
              case rel => exact ⟨k + 1, us, vs, rfl, by go_num, by omega, hB, hR, hnx⟩
        · have hkn : k = n := by omega
          subst hkn
          have hTu : Turn u us := TurnP.done (L := 100) (by rw [HLEN.out]; exact hT.out)
          have husl : us.length = k := by rw [hTu.len, HLEN.out]
          have hthere := intU_there husl (fun l hl x hx => by rw [← HLEN.out]; exact hTu.lt l hl x hx)
          have hrd : RdR wr (.slice (some ⟨w3.heap.size, 0, none⟩) k k) ((intU us).map zV) := by
            rw [intU_V]
            have := hR.out.rd k
            rw [husl] at this
            exact this.r (Nat.le_refl _)
          have HG2 := hidE (ow_Groups _ (intU us) wr hrd (by rw [intU_len, husl]; omega) (intU_sz (fun l hl => by have := hT.out.sz l hl; omega)))
          have HTU := hidE hTu
          have HTH := hidE hthere
          have HUSL := hidE husl
          clear hTu husl hthere hrd
          go_wp2_with fail
          refine HG2.out.mono ?_
          rintro e w5 hgp
          obtain ⟨v5, rfl, b5, r5⟩ := hgp.good (g := groups us) HTH.out (by rw [natU_intU])
          have hok5 := groups_ok HTU.out.valid
          obtain ⟨G5, hG5⟩ : ∃ G5, groups us = G5 := ⟨_, rfl⟩
          rw [hG5] at r5 hok5
          have hml := turn_len HOK.out hok5 HTU.out HVAL.out
          rw [HM.out] at hml
          have hb35 : Below w3.heap.size w3 w5 := hB.out.trans (b5.mono hB.out.size)
          obtain ⟨A9, c9, e9, hp9⟩ := HR3.out.below hb35
          rw [HM.out] at e9 hp9
          injection e9 with e9 _ e9'
          subst e9 e9'
          obtain ⟨A5, c5, rfl, hp5⟩ := r5
          rw [← hml] at hp5 ⊢
          have hgs := grp_sz HOK.out
          have hgs5 := grp_sz hok5
          rw [HLEN.out] at hgs
          rw [HUSL.out] at hgs5
          have hmk := fun W => make_ints k (by omega) W
          have hneq : ((m : Int) != (m : Nat)) = false := by simp
          have HOK5 := hidE hok5
          have HM5 := hidE hml
          have HP9 := hidE hp9
          have HP5 := hidE hp5
          have HGS := hidE hgs
          have HGS5 := hidE hgs5
          have HB5 := hidE (HB3.out.trans (hb35.mono HB3.out.size))
          clear HG2 hgp b5 hok5 hml hb35 hp9 hp5 hgs hgs5 hG5
          go_wp2_with fail
          have hR0 : Hid (Blk (w5.alloc (.cells (List.replicate k (.int .i64 0)).toArray 3)) w5.heap.size 3 (homV k (fun _ => 0)).toArray) := hidE (by rw [homV_zero]; exact heap_alloc_new w5 _)
          have hB0 := hidE ((Below.refl w5.heap.size w5).alloc (Nat.le_refl _) (.cells (List.replicate k (.int .i64 0)).toArray 3))
          clear hmk
          go_loopg [14] m (fun gg vi wx => ∃ i f, gg = m - i ∧ vi = .int .i64 (i : Nat) ∧ i ≤ m ∧ Hid (Below w5.heap.size w5 wx) ∧ Hid (Blk wx w5.heap.size 3 (homV k f).toArray) ∧ Hid (FsP G i 0 f))
          case atStart => exact ⟨0, _, rfl, rfl, by omega, hB0, hR0, hidE (.start _ _)⟩
          case round =>
            obtain ⟨i, f, rfl, rfl, hi, hB, hR, hF⟩ := hrel
            clear hR0 hB0
            by_cases hlt : i < m
            · obtain ⟨a, rfl, hab, hcc⟩ := HP9.out (by omega)
              obtain ⟨l, hl⟩ : ∃ l, G[i]? = some l := ⟨_, List.getElem?_eq_getElem (by rw [HM.out]; exact hlt)⟩
              have hlm : l ∈ G := List.mem_iff_getElem?.2 ⟨i, hl⟩
              obtain ⟨xv, hxc, hxr⟩ := hcc i l hl
              have hk1 : a.add (i * 1) = a.add i := by rw [Nat.mul_one]
              obtain ⟨Al, cl, rfl, hpl⟩ := hxr
              rw [intV_len] at hxc hpl
              obtain ⟨q, hq⟩ : ∃ q, l.length = q := ⟨_, rfl⟩
              rw [hq] at hxc hpl
              have hq0 : 0 < q := by rw [← hq]; exact List.length_pos_iff.2 (HOK.out.ne l hlm)
              have hql : q ≤ k := by rw [← hq]; exact HGS.out l hlm
              obtain ⟨pl, rfl, hpb, hcl⟩ := hpl hq0
              obtain ⟨h0, hh0⟩ : ∃ y, l[0]? = some y := ⟨_, List.getElem?_eq_getElem (by rw [hq]; exact hq0)⟩
              have hHC : ∀ W, Below w5.heap.size w5 W → W.cell? (a.add i) = some (.slice (some pl) q cl) ∧ W.cell? pl = some (.int .i64 (h0 : Nat)) := fun W hW =>
                ⟨(hW.cell (p := a.add i) (by rw [addr_add_block]; exact hab)).trans hxc, by
                  have := (hW.cell (p := pl.add 0) (by rw [addr_add_block]; exact hpb)).trans (hcl 0 (.int .i64 (h0 : Nat)) (by simp [intV, hh0]))
                  rwa [show pl.add 0 = pl by simp [Addr.add]] at this⟩
              have HCK := hidE hHC
              obtain ⟨hck, hck0⟩ := HCK.out wr hB.out
              have HL := hidE hl
              have HCL := hidE hcl
              have HQ := hidE hq
              have HPB := hidE hpb
              have HH0 := hidE hh0
              have HLM := hidE hlm
              clear hcc hl hlm hxc hcl hq hab hHC hpb hh0
              go_wp2_with fail
              go_loopg [15] q (fun gg vj wx => ∃ j f, gg = q - j ∧ vj = .int .i64 (j : Nat) ∧ j ≤ q ∧ Hid (Below w5.heap.size w5 wx) ∧ Hid (Blk wx w5.heap.size 3 (homV k f).toArray) ∧ Hid (FsP G i j f))
              case atStart => exact ⟨0, f, rfl, rfl, by omega, hB, hR, hF⟩
              case round =>
                obtain ⟨j, f, rfl, rfl, hj, hB, hR, hF⟩ := hrel
                clear hck hck0
                obtain ⟨hck, hck0⟩ := HCK.out wr hB.out
                by_cases hjq : j < q
                · obtain ⟨x, hx⟩ : ∃ x, l[j]? = some x := ⟨_, List.getElem?_eq_getElem (by rw [HQ.out]; exact hjq)⟩
                  have hcx : wr.cell? (pl.add j) = some (.int .i64 (x : Nat)) := (hB.out.cell (p := pl.add j) (by rw [addr_add_block]; exact HPB.out)).trans (HCL.out j _ (by simp [intV, hx]))
                  have HCX : Hid (∀ W, Below w5.heap.size w5 W → W.cell? (a.add i) = some (.slice (some pl) q cl) ∧ W.cell? (pl.add j) = some (.int .i64 (x : Nat)) ∧ W.cell? pl = some (.int .i64 (h0 : Nat))) := hidE fun W hW =>
                    ⟨(HCK.out W hW).1, (hW.cell (p := pl.add j) (by rw [addr_add_block]; exact HPB.out)).trans (HCL.out j _ (by simp [intV, hx])), (HCK.out W hW).2⟩
                  have hk2 : pl.add (j * 1) = pl.add j := by rw [Nat.mul_one]
                  have hxn : x < k := by rw [← HLEN.out]; exact HOK.out.lt l HLM.out x (List.mem_iff_getElem?.2 ⟨j, hx⟩)
                  have hcell : wr.cell? ⟨w5.heap.size, x, none⟩ = some (.int .i64 (f x : Nat)) := by rw [hR.out.cell]; simpa using homV_at f hxn
                  have hfr := hR.out.frozen x
                  have hlb := hR.out.lt
                  have hnew : Hid (Blk (wr.setCell ⟨w5.heap.size, x, none⟩ (.int .i64 (h0 : Nat))) w5.heap.size 3 (homV k (fun j => if j = x then h0 else f j)).toArray) := hidE (by
                    have := heap_setCell_same wr w5.heap.size x _ _ (.int .i64 (h0 : Nat)) hR.out
                    rw [List.setIfInBounds_toArray, homV_set] at this
                    exact this)
                  have hst := hidE (hF.out.step HOK.out HL.out hx HH0.out)
                  have hbb := hidE (hB.out.setCell (p := ⟨w5.heap.size, x, none⟩) (Nat.le_refl _) (.int .i64 (h0 : Nat)))
                  clear hx
                  go_wp2_with fail
                  go_region_held3 (fun W => W.cell? (a.add i) = some (.slice (some pl) q cl) ∧ W.cell? (pl.add j) = some (.int .i64 (x : Nat)) ∧ W.cell? pl = some (.int .i64 (h0 : Nat)))
                    (first | (with_reducible exact HCX.out _ hB.out) | (with_reducible exact HCX.out _ hB.out.drew) | (with_reducible exact HCX.out _ hbb.out) | (exact HCX.out _ hbb.out.drew)) (fail)
                  all_goals
                    go_wp2_with fail
                    go_roundg (q - (j + 1))
                    case measure => omega
                    case rel => exact ⟨j + 1, _, rfl, by go_num, by omega, hidE hbb.out.drew, hidE hnew.out.drew, hst⟩
                · have hjq' : j = q := by omega
                  subst hjq'
                  have hnx := hidE (FsP.next (l := l) (by rw [HQ.out]; exact hF.out) HL.out)
                  go_wp2_with fail
                  go_roundg (m - (i + 1))
                  case measure => omega
                  case rel => exact ⟨i + 1, f, rfl, by go_num, by omega, hB, hR, hnx⟩
            · have him : i = m := by omega
              subst him
              have hF' := hF.out
              rw [← HM.out] at hF'
              have HF2 := hidE hF'
              clear hF hF'
              go_wp2_with fail
              go_loopg [16] i (fun gg vi wx => ∃ r, gg = i - r ∧ vi = .int .i64 (r : Nat) ∧ r ≤ i ∧ Hid (Below w5.heap.size w5 wx) ∧ Hid (Blk wx w5.heap.size 3 (homV k f).toArray))
              case atStart => exact ⟨0, rfl, rfl, by omega, hB, hR⟩
              case round =>
                obtain ⟨r, rfl, rfl, hr, hB, hR⟩ := hrel
                by_cases hlt : r < i
                · obtain ⟨a, rfl, hab, hcc⟩ := HP5.out (by omega)
                  obtain ⟨l, hl⟩ : ∃ l, G5[r]? = some l := ⟨_, List.getElem?_eq_getElem (by rw [← HM5.out]; exact hlt)⟩
                  have hlm : l ∈ G5 := List.mem_iff_getElem?.2 ⟨r, hl⟩
                  obtain ⟨xv, hxc, hxr⟩ := hcc r l hl
                  have hk1 : a.add (r * 1) = a.add r := by rw [Nat.mul_one]
                  obtain ⟨Al, cl, rfl, hpl⟩ := hxr
                  rw [intV_len] at hxc hpl
                  obtain ⟨q, hq⟩ : ∃ q, l.length = q := ⟨_, rfl⟩
                  rw [hq] at hxc hpl
                  have hq0 : 0 < q := by rw [← hq]; exact List.length_pos_iff.2 (HOK5.out.ne l hlm)
                  have hql : q ≤ k := by rw [← hq]; exact HGS5.out l hlm
                  obtain ⟨pl, rfl, hpb, hcl⟩ := hpl hq0
                  obtain ⟨h0, hh0⟩ : ∃ y, l[0]? = some y := ⟨_, List.getElem?_eq_getElem (by rw [hq]; exact hq0)⟩
                  have hHC : ∀ W, Below w5.heap.size w5 W → W.cell? (a.add r) = some (.slice (some pl) q cl) ∧ W.cell? pl = some (.int .i64 (h0 : Nat)) := fun W hW =>
                    ⟨(hW.cell (p := a.add r) (by rw [addr_add_block]; exact hab)).trans hxc, by
                      have := (hW.cell (p := pl.add 0) (by rw [addr_add_block]; exact hpb)).trans (hcl 0 (.int .i64 (h0 : Nat)) (by simp [intV, hh0]))
                      rwa [show pl.add 0 = pl by simp [Addr.add]] at this⟩
                  have HCK := hidE hHC
                  obtain ⟨hck, hck0⟩ := HCK.out wr hB.out
                  have HL := hidE hl
                  have HCL := hidE hcl
                  have HQ := hidE hq
                  have HPB := hidE hpb
                  have HH0 := hidE hh0
                  have HLM := hidE hlm
                  clear hcc hl hlm hxc hcl hq hab hHC hpb hh0
                  go_wp2_with fail
                  go_loopg [17] q (fun gg vj wx => ∃ j, gg = q - j ∧ vj = .int .i64 (j : Nat) ∧ j ≤ q ∧ Hid (Below w5.heap.size w5 wx) ∧ Hid (Blk wx w5.heap.size 3 (homV k f).toArray))
                  case atStart => exact ⟨0, rfl, rfl, by omega, hB, hR⟩
                  case round =>
                    obtain ⟨j, rfl, rfl, hj, hB, hR⟩ := hrel
                    clear hck hck0
                    obtain ⟨hck, hck0⟩ := HCK.out wr hB.out
                    by_cases hjq : j < q
                    · obtain ⟨x, hx⟩ : ∃ x, l[j]? = some x := ⟨_, List.getElem?_eq_getElem (by rw [HQ.out]; exact hjq)⟩
                      have hcx : wr.cell? (pl.add j) = some (.int .i64 (x : Nat)) := (hB.out.cell (p := pl.add j) (by rw [addr_add_block]; exact HPB.out)).trans (HCL.out j _ (by simp [intV, hx]))
                      have hk2 : pl.add (j * 1) = pl.add j := by rw [Nat.mul_one]
                      have hxn : x < k := by rw [← HUSL.out]; exact HOK5.out.lt l HLM.out x (List.mem_iff_getElem?.2 ⟨j, hx⟩)
                      have hfx := HF2.out.turn HOK.out HOK5.out HTU.out HVAL.out HL.out hx HH0.out
                      have hcell : wr.cell? ⟨w5.heap.size, x, none⟩ = some (.int .i64 (h0 : Nat)) := by rw [hR.out.cell, ← hfx]; simpa using homV_at f hxn
                      have e3 : (((h0 : Nat) : Int) != ((h0 : Nat) : Int)) = false := by simp
                      clear hx hfx
                      go_wp2_with fail
                      go_quiet (fail)
                      go_wp2_with fail
                      go_roundg (q - (j + 1))
                      case measure => omega
                      case rel => exact ⟨j + 1, rfl, by go_num, by omega, hidE (below_drewN hB.out _), hidE (hR.out.drewN _)⟩
                    · have hjq' : j = q := by omega
                      subst hjq'
                      go_wp2_with fail
                      go_roundg (i - (r + 1))
                      case measure => omega
                      case rel => exact ⟨r + 1, rfl, by go_num, by omega, hB, hR⟩
                · have hri : r = i := by omega
                  subst hri
                  go_wp2_with fail
                  go_ret
                  exact ⟨rfl, HB5.out.trans (hB.out.mono HB5.out.size)⟩
    · go_wp2_with fail
      go_ret
      exact ⟨rfl, HB1.out.trans (b3.mono HB1.out.size)⟩
end Go.Proofs.Ytfmpmblhndnbeaa.OrderTurned
