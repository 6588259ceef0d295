/-
  OrderFirst: what is used comes first, or in the same group; each thing is in one group, in rising order. Of whatever uses.
-/
import Derived.Test.YtfmpmblhndnbeaaOxA
namespace Go.Proofs.Ytfmpmblhndnbeaa.OrderFirst
open Go.RowKit Go.Shelf Go.ChangeShapes Go.WideShapes Go.Proofs.Ytfmpmblhndnbeaa.Od
set_option maxRecDepth 100000

set_option maxHeartbeats 6400000 in
theorem walk (z : List (List Int)) (v : Value) (w : World) (hz : RdR w v (z.map zV)) :
    Calls Try.prog 4 #[v] w fun e w' => e = .returned (.bool true) ∧ Below w.heap.size w w' := by
  obtain ⟨A, c, hsh⟩ : ∃ A c, v = .slice A z.length c := by
    obtain ⟨A, c, rfl, -⟩ := hz
    exact ⟨A, c, by rw [List.length_map]⟩
  subst hsh
  obtain ⟨n, hn⟩ : ∃ n, z.length = n := ⟨_, rfl⟩
  rw [hn] at hz ⊢
  have HZ := hidE hz
  have HN := hidE hn
  have HC := hidE (ow_awake w)
  clear hz hn
  go_enter Try.func4, Try.ntmps4
  go_wp2_with fail
  refine HC.out.mono ?_
  rintro e w1 ⟨rfl, b1⟩
  have hz1 : RdR w1 (.slice A n c) (z.map zV) := ((RdR.b HZ.out).below b1 (Nat.le_refl _)).r b1.size
  obtain ⟨b, hb⟩ : ∃ b, fewB (z.map zV) 200 = b := ⟨_, rfl⟩
  have hf := od_few (.slice A n c) (z.map zV) 200 w1 hz1 (by omega)
  rw [hb] at hf
  have HF := hidE hf
  have HB1 := hidE b1
  have HZ1 := hidE hz1
  have HB := hidE hb
  clear HC b1 hz1 hf hb
  go_wp2_with fail
  refine HF.out.mono ?_
  rintro e w2 ⟨rfl, rfl⟩
  clear HF
  cases b with
  | false =>
    go_wp2_with fail
    go_ret
    exact ⟨rfl, HB1.out⟩
  | true =>
    obtain ⟨hl1, hl2⟩ := few_len HB.out
    rw [HN.out] at hl1
    have HG := hidE (ow_Groups _ z w1 HZ1.out (by rw [HN.out]; omega) (fun l hl => by have := hl2 l hl; omega))
    have HL2 := hidE hl2
    clear hl2
    go_wp2_with fail
    refine HG.out.mono ?_
    rintro e w3 ⟨v3, x, rfl, b3, ⟨ht, rfl, r3⟩ | ⟨ht, rfl, rfl⟩⟩
    · obtain ⟨u, hu⟩ : ∃ u, natU z = u := ⟨_, rfl⟩
      have hV := natU_V ht
      have hval := natU_valid ht
      have hlen := natU_len z
      have hsz := natU_sz HL2.out
      rw [hu] at hV hval hlen hsz r3
      rw [HN.out] at hlen
      have hok := groups_ok hval
      obtain ⟨G, hG⟩ : ∃ G, groups u = G := ⟨_, rfl⟩
      rw [hG] at r3 hok
      have hfl := hok.flat_len
      have hU3 : RdU w3 (.slice A n c) u := RdR.u (((RdR.b (by rw [hV]; exact HZ1.out)).below b3 (Nat.le_refl _)).r b3.size)
      obtain ⟨A3, c3, rfl, hp3⟩ := r3
      obtain ⟨m, hm⟩ : ∃ m, G.length = m := ⟨_, rfl⟩
      have hmn : m ≤ 200 := by
        have hnd := hok.groups_nodup
        have h2 : ∀ l : List (List Nat), (∀ g ∈ l, g ≠ []) → l.length ≤ l.flatten.length := by
          intro l
          induction l with
          | nil => intro _; simp
          | cons g l ih =>
            intro h
            have := ih (fun x hx => h x (by simp [hx]))
            have h3 : 0 < g.length := List.length_pos_iff.2 (h g (by simp))
            simp only [List.length_cons, List.flatten_cons, List.length_append]
            omega
        have := h2 G hok.ne
        rw [hfl, hlen, hm] at this
        omega
      rw [hm] at hp3 ⊢
      obtain ⟨A0, c0, e0, hp0⟩ := hU3
      rw [hlen] at e0 hp0
      injection e0 with e0 _ e0'
      subst e0 e0'
      rw [hlen] at hfl
      have hmk := fun W => make_ints n (by omega) W
      have HB3 := hidE (HB1.out.trans (b3.mono HB1.out.size))
      have HP3 := hidE hp3
      have HP0 := hidE hp0
      have HOK := hidE hok
      have HVAL := hidE hval
      have HLEN := hidE hlen
      have HSZ := hidE hsz
      have HM := hidE hm
      have HFL := hidE hfl
      clear HG ht hV hval hlen hsz hok hfl b3 hp3 hp0 hm hu hG
      go_wp2_with fail
      have hR0 : Hid (Blk (w3.alloc (.cells (List.replicate n (.int .i64 0)).toArray 3)) w3.heap.size 3 (homV n (fun _ => 0)).toArray) := hidE (by rw [homV_zero]; exact heap_alloc_new w3 _)
      have hB0 := hidE ((Below.refl w3.heap.size w3).alloc (Nat.le_refl _) (.cells (List.replicate n (.int .i64 0)).toArray 3))
      go_loopg [8, 9] m (fun gg v8 vi wr => ∃ i f, gg = m - i ∧ vi = .int .i64 (i : Nat) ∧ v8 = .int .i64 (cntA G i 0 : Nat) ∧ i ≤ m ∧ Hid (Below w3.heap.size w3 wr) ∧ Hid (Blk wr w3.heap.size 3 (homV n f).toArray) ∧ Hid (AtP G i 0 f))
      case atStart => exact ⟨0, _, rfl, rfl, rfl, by omega, hB0, hR0, hidE (.start _)⟩
      case round =>
        obtain ⟨i, f, rfl, rfl, rfl, hi, hB, hR, hT⟩ := hrel
        clear hR0 hB0 hmk
        obtain ⟨cn, hcn⟩ : ∃ cn, cntA G i 0 = cn := ⟨_, rfl⟩
        rw [hcn]
        have HCN := hidE hcn
        clear hcn
        by_cases hlt : i < m
        · obtain ⟨a, rfl, hab, hcc⟩ := HP3.out (by omega)
          obtain ⟨l, hl⟩ : ∃ l, G[i]? = some l := ⟨_, List.getElem?_eq_getElem (by rw [HM.out]; exact hlt)⟩
          have hlm : l ∈ G := List.mem_iff_getElem?.2 ⟨i, hl⟩
          obtain ⟨xv, hxc, hxr⟩ := hcc i l hl
          have hk1 : a.add (i * 1) = a.add i := by rw [Nat.mul_one]
          obtain ⟨Al, cl, rfl, hpl⟩ := hxr
          rw [intV_len] at hxc hpl
          obtain ⟨q, hq⟩ : ∃ q, l.length = q := ⟨_, rfl⟩
          rw [hq] at hxc hpl
          have hq0 : 0 < q := by rw [← hq]; exact List.length_pos_iff.2 (HOK.out.ne l hlm)
          have hql : q ≤ 200 := by
            have h1 : l.length ≤ List.length u := lt_of_all ((HOK.out.up l hlm).imp fun h => by omega) (HOK.out.lt l hlm)
            have := HLEN.out
            omega
          have hqe : ((q : Int) == 0) = false := by simp; omega
          have hck : wr.cell? (a.add i) = some (.slice Al q cl) := (hB.out.cell (p := a.add i) (by rw [addr_add_block]; exact hab)).trans hxc
          have HCK : Hid (∀ W, Below w3.heap.size w3 W → W.cell? (a.add i) = some (.slice Al q cl)) := hidE fun W hW => (hW.cell (p := a.add i) (by rw [addr_add_block]; exact hab)).trans hxc
          have HL := hidE hl
          have HPL := hidE hpl
          have HQ := hidE hq
          clear hcc hl hlm hxc hpl hq hab
          go_wp2_with fail
          go_loopg [8, 10] q (fun gg v8 vk wx => ∃ k f, gg = q - k ∧ vk = .int .i64 (k : Nat) ∧ v8 = .int .i64 (cn + k : Nat) ∧ k ≤ q ∧ Hid (Below w3.heap.size w3 wx) ∧ Hid (Blk wx w3.heap.size 3 (homV n f).toArray) ∧ Hid (AtP G i k f))
          case atStart => exact ⟨0, f, rfl, rfl, rfl, by omega, hB, hR, hT⟩
          case round =>
            obtain ⟨k, f, rfl, rfl, rfl, hk, hB, hR, hT⟩ := hrel
            have hck2 := HCK.out _ hB.out
            clear hck
            have hcb : cn + k ≤ 200 := by
              have h1 := cntA_le HL.out (show k ≤ l.length by rw [HQ.out]; exact hk)
              rw [HFL.out] at h1
              have h2 : cntA G i k = cntA G i 0 + k := by unfold cntA; omega
              rw [HCN.out] at h2
              omega
            by_cases hkq : k < q
            · obtain ⟨pl, rfl, hpb, hcl⟩ := HPL.out (by omega)
              obtain ⟨x, hx⟩ : ∃ x, l[k]? = some x := ⟨_, List.getElem?_eq_getElem (by rw [HQ.out]; exact hkq)⟩
              have hcx : wr.cell? (pl.add k) = some (.int .i64 (x : Nat)) := (hB.out.cell (p := pl.add k) (by rw [addr_add_block]; exact hpb)).trans (hcl k _ (by simp [intV, hx]))
              have hk2 : pl.add (k * 1) = pl.add k := by rw [Nat.mul_one]
              have hxn : x < n := by rw [← HLEN.out]; exact HOK.out.lt l (List.mem_iff_getElem?.2 ⟨i, HL.out⟩) x (List.mem_iff_getElem?.2 ⟨k, hx⟩)
              have hf0 := hT.out.fresh HOK.out HL.out hx
              have hcell : wr.cell? ⟨w3.heap.size, x, none⟩ = some (.int .i64 0) := by
                rw [hR.out.cell]
                have := homV_at f hxn
                rw [hf0] at this
                simpa using this
              have hfr := hR.out.frozen x
              have hlb := hR.out.lt
              have hnew : Hid (Blk (wr.setCell ⟨w3.heap.size, x, none⟩ (.int .i64 ((i + 1 : Nat) : Int))) w3.heap.size 3 (homV n (fun j => if j = x then i + 1 else f j)).toArray) := hidE (by
                have := heap_setCell_same wr w3.heap.size x _ _ (.int .i64 ((i + 1 : Nat) : Int)) hR.out
                rw [List.setIfInBounds_toArray, homV_set] at this
                exact this)
              have hst := hidE (hT.out.step HOK.out HL.out hx)
              have hbb := hidE (hB.out.setCell (p := ⟨w3.heap.size, x, none⟩) (Nat.le_refl _) (.int .i64 ((i + 1 : Nat) : Int)))
              have e1 : decide ((x : Int) < 0) = false := by simp
              have e2 : decide ((n : Int) ≤ (x : Nat)) = false := by simp; omega
              have hkn1 : (((k + 1 : Nat)) : Int) = (k : Int) + 1 := by omega
              by_cases hk0 : k = 0
              · subst hk0
                have hcx0 : wr.cell? pl = some (.int .i64 (x : Nat)) := by rw [show pl.add 0 = pl by simp [Addr.add]] at hcx; exact hcx
                clear hcl hx hpb hf0 hkn1
                go_wp2_with fail
                go_roundg (q - 1)
                case measure => omega
                case rel => exact ⟨1, _, rfl, by go_num, by go_num, by omega, hbb, hnew, hst⟩
              · obtain ⟨p, hp⟩ : ∃ p, k = p + 1 := ⟨k - 1, by omega⟩
                obtain ⟨y, hy⟩ : ∃ y, l[p]? = some y := ⟨_, List.getElem?_eq_getElem (by rw [HQ.out]; omega)⟩
                have hcy : wr.cell? (pl.add p) = some (.int .i64 (y : Nat)) := (hB.out.cell (p := pl.add p) (by rw [addr_add_block]; exact hpb)).trans (hcl p _ (by simp [intV, hy]))
                have hk3 : pl.add (p * 1) = pl.add p := by rw [Nat.mul_one]
                have hyx := grp_sorted HOK.out HL.out hy (by rw [← hp]; exact hx)
                have e3 : decide ((x : Int) ≤ (y : Nat)) = false := by simp; omega
                have e3' : decide (x ≤ y) = false := by simp; omega
                have e0 : decide ((0 : Int) < (k : Nat)) = true := by simp; omega
                have e0' : decide (0 < k) = true := by simp; omega
                have hsub : (k : Int) - 1 = (p : Nat) := by omega
                clear hcl hx hpb hf0 hy hyx hp hk0
                go_wp2_with fail
                go_roundg (q - (k + 1))
                case measure => omega
                case rel => exact ⟨k + 1, _, rfl, by go_num, by go_num, by omega, hbb, hnew, hst⟩
            · have hkq' : k = q := by omega
              subst hkq'
              have hnx := hidE (AtP.next (l := l) (by rw [HQ.out]; exact hT.out) HL.out)
              have hcn1 : cntA G (i + 1) 0 = cn + k := by
                rw [cntA_next HL.out, HQ.out, ← HCN.out]; unfold cntA; omega
              have HC1 := hidE hcn1
              clear hcn1
              go_wp2_with fail
              go_roundg (m - (i + 1))
              case measure => omega
              case rel => exact ⟨i + 1, f, rfl, by go_num, by rw [HC1.out], by omega, hB, hR, hnx⟩
        · have him : i = m := by omega
          subst him
          have hce : cn = n := by rw [← HCN.out, ← HFL.out, ← HM.out]; exact cntA_all G
          subst hce
          have hT' := hT.out
          rw [← HM.out] at hT'
          have HT2 := hidE hT'
          clear hT' hT HCN
          go_wp2_with fail
          go_loopg [12] cn (fun gg vi wx => ∃ k, gg = cn - k ∧ vi = .int .i64 (k : Nat) ∧ k ≤ cn ∧ Hid (Below w3.heap.size w3 wx) ∧ Hid (Blk wx w3.heap.size 3 (homV cn f).toArray))
          case atStart => exact ⟨0, rfl, rfl, by omega, hB, hR⟩
          case round =>
            obtain ⟨k, rfl, rfl, hk, hB, hR⟩ := hrel
            by_cases hkn : k < cn
            · obtain ⟨a, rfl, hab, hcc⟩ := HP0.out (by omega)
              obtain ⟨l, hl⟩ : ∃ l, u[k]? = some l := ⟨_, List.getElem?_eq_getElem (by rw [HLEN.out]; exact hkn)⟩
              obtain ⟨xv, hxc, hxr⟩ := hcc k l hl
              have hk1 : a.add (k * 1) = a.add k := by rw [Nat.mul_one]
              obtain ⟨Al, cl, rfl, hpl⟩ := hxr
              rw [intV_len] at hxc hpl
              obtain ⟨q, hq⟩ : ∃ q, l.length = q := ⟨_, rfl⟩
              rw [hq] at hxc hpl
              have hql : q ≤ 200 := by rw [← hq]; exact HSZ.out l (List.mem_iff_getElem?.2 ⟨k, hl⟩)
              have HCK : Hid (∀ W, Below w3.heap.size w3 W → W.cell? (a.add k) = some (.slice Al q cl)) := hidE fun W hW => (hW.cell (p := a.add k) (by rw [addr_add_block]; exact hab)).trans hxc
              have hck := HCK.out wr hB.out
              have hcell2 : wr.cell? ⟨w3.heap.size, k, none⟩ = some (.int .i64 (f k : Nat)) := by rw [hR.out.cell]; simpa using homV_at f hkn
              have HL := hidE hl
              have HPL := hidE hpl
              have HQ := hidE hq
              obtain ⟨fk, hfk⟩ : ∃ fk, f k = fk := ⟨_, rfl⟩
              rw [hfk] at hcell2
              have HFK := hidE hfk
              clear hcc hl hxc hpl hq hab hfk
              go_wp2_with fail
              go_loopg [13] q (fun gg vj wx => ∃ j, gg = q - j ∧ vj = .int .i64 (j : Nat) ∧ j ≤ q ∧ Hid (Below w3.heap.size w3 wx) ∧ Hid (Blk wx w3.heap.size 3 (homV cn f).toArray))
              case atStart => exact ⟨0, rfl, rfl, by omega, hB, hR⟩
              case round =>
                obtain ⟨j, rfl, rfl, hj, hB, hR⟩ := hrel
                clear hck hcell2
                have hck := HCK.out wr hB.out
                by_cases hjq : j < q
                · obtain ⟨pl, rfl, hpb, hcl⟩ := HPL.out (by omega)
                  obtain ⟨y, hy⟩ : ∃ y, l[j]? = some y := ⟨_, List.getElem?_eq_getElem (by rw [HQ.out]; exact hjq)⟩
                  have hcy : wr.cell? (pl.add j) = some (.int .i64 (y : Nat)) := (hB.out.cell (p := pl.add j) (by rw [addr_add_block]; exact hpb)).trans (hcl j _ (by simp [intV, hy]))
                  have hk2 : pl.add (j * 1) = pl.add j := by rw [Nat.mul_one]
                  have hu : Use u k y := ⟨l, HL.out, List.mem_iff_getElem?.2 ⟨j, hy⟩⟩
                  have hyn : y < cn := by rw [← HLEN.out]; exact HVAL.out k y hu
                  have hle := HT2.out.le HOK.out HVAL.out hu
                  have hcell1 : wr.cell? ⟨w3.heap.size, y, none⟩ = some (.int .i64 (f y : Nat)) := by rw [hR.out.cell]; simpa using homV_at f hyn
                  have hcell2 : wr.cell? ⟨w3.heap.size, k, none⟩ = some (.int .i64 (fk : Nat)) := by rw [hR.out.cell, ← HFK.out]; simpa using homV_at f hkn
                  rw [HFK.out] at hle
                  obtain ⟨fy, hfy⟩ : ∃ fy, f y = fy := ⟨_, rfl⟩
                  rw [hfy] at hcell1 hle
                  have e3 : decide ((fk : Int) < (fy : Nat)) = false := by simp; omega
                  have e3' : decide (fk < fy) = false := by simp; omega
                  clear hcl hy hpb hu hfy hle
                  go_wp2_with fail
                  go_quiet (fail)
                  go_wp2_with fail
                  go_roundg (q - (j + 1))
                  case measure => omega
                  case rel => exact ⟨j + 1, rfl, by go_num, by omega, hidE (below_drewN hB.out _), hidE (hR.out.drewN _)⟩
                · have hjq' : j = q := by omega
                  subst hjq'
                  go_wp2_with fail
                  go_roundg (cn - (k + 1))
                  case measure => omega
                  case rel => exact ⟨k + 1, rfl, by go_num, by omega, hB, hR⟩
            · have hkn' : k = cn := by omega
              subst hkn'
              go_wp2_with fail
              go_ret
              exact ⟨rfl, HB3.out.trans (hB.out.mono (by have := HB3.out.size; exact this))⟩
    · go_wp2_with fail
      go_ret
      exact ⟨rfl, HB1.out.trans (b3.mono HB1.out.size)⟩
end Go.Proofs.Ytfmpmblhndnbeaa.OrderFirst
