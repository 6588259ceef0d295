/-
  Order: the closure that goes down the uses: the walk.
-/
import Derived.Test.YtfmpmblhndnbeaaOwI
namespace Go.Proofs.Ytfmpmblhndnbeaa
open Go.RowKit Go.Shelf Go.Proofs.Ytfmpmblhndnbeaa.Od
set_option maxRecDepth 100000

theorem St.facts {T bt bm mm br bo Bd n x : Nat} {vt : Value} {to : Uses} {M : Nat → Bool} {told : List Nat} {w : World} (h : St T bt bm mm br bo Bd n vt to M told w) (hx : x < n) :
    w.cell? ⟨bt, 0, none⟩ = some vt ∧ w.cell? ⟨bm, 0, none⟩ = some (.slice (some ⟨mm, 0, none⟩) n n) ∧ w.cell? ⟨mm, x, none⟩ = some (.bool (M x)) ∧ w.frozen? ⟨mm, x, none⟩ = false ∧ mm < w.heap.size ∧ w.cell? ⟨br, 0, none⟩ = some (reachV bm bt br bo) :=
  ⟨h.tb.cell 0, h.mb.cell 0, by rw [h.mt.cell]; simpa using metV_at M hx, h.mt.frozen x, h.mt.lt, h.rb.cell 0⟩
theorem St.use {T bt bm mm br bo Bd n x : Nat} {vt : Value} {to : Uses} {M : Nat → Bool} {told : List Nat} {w : World} {a : Option Addr} {c : Nat} {l : List Nat} (h : St T bt bm mm br bo Bd n vt to M told w) (hv : vt = .slice a n c) (hn : to.length = n) (hl : to[x]? = some l) :
    ∃ (p : Addr) (A : Option Addr) (cl : Nat), a = some p ∧ w.cell? (p.add x) = some (.slice A l.length cl) ∧ RowB T w (.slice A l.length cl) (intV l) := by
  obtain ⟨A, c', h1, h2⟩ := h.rd
  rw [List.length_map] at h1 h2
  have hx : x < to.length := (List.getElem?_eq_some_iff.1 hl).1
  obtain ⟨p, h3, h4, h5⟩ := h2 (by omega)
  obtain ⟨y, h6, h7⟩ := h5 x (intV l) (by rw [List.getElem?_map, hl]; rfl)
  have h8 := h7
  obtain ⟨A2, c2, rfl, _⟩ := h8
  rw [intV_len] at *
  rw [hv] at h1
  injection h1 with h1
  exact ⟨p, A2, c2, by rw [h1, h3], h6, h7⟩

set_option maxHeartbeats 1600000 in
theorem ow_reach (T bt bm mm br bo Bd n ct : Nat) (at_ : Option Addr) (to : Uses) (s : Sep T bt bm mm br bo Bd) (hv : Valid to) (hn : to.length = n) (hn2 : n ≤ 1000) (hlen : ∀ l ∈ to, l.length ≤ 1001000000) :
    ∀ (k : Nat) (M : Nat → Bool) (told : List Nat) (x : Nat) (w : World), unm n M < k → x < n → St T bt bm mm br bo Bd n (.slice at_ n ct) to M told w → Tld n M told → Bd ≤ w.heap.size →
      Calls Try.prog 32 #[.int .i64 (x : Nat), .pointer (some ⟨bm, 0, none⟩), .pointer (some ⟨bt, 0, none⟩), .pointer (some ⟨br, 0, none⟩), .pointer (some ⟨bo, 0, none⟩)] w fun e w' => e = .returned (.tuple #[]) ∧
        ∃ M' a, DFL to M [x] M' a ∧ St T bt bm mm br bo Bd n (.slice at_ n ct) to M' (told ++ a) w' ∧ Chg (fun g => g = mm ∨ g = bo ∨ Bd ≤ g) w w' := by
  intro k
  induction k with
  | zero => intro M told x w h; omega
  | succ k ih =>
    intro M told x w hk hx hS hT hBs
    have hTs : T ≤ w.heap.size := by have := s.d6; omega
    have IH := hidE ih
    have ek : ∀ args w, (callFunc 32 args).run Try.prog w = .ok (.enter 32 args) w := enters_of Try.func32 (by kernel_rfl) rfl
    obtain ⟨f1, f2, f3, f4, f5, f6⟩ := hS.facts hx
    obtain ⟨b, hb⟩ : ∃ b, M x = b := ⟨_, rfl⟩
    rw [hb] at f3
    have HSEP := hidE s
    have HV := hidE hv
    have HN := hidE hn
    have HLEN := hidE hlen
    have HST := hidE hS
    have HT := hidE hT
    have HB := hidE hb
    have HK := hidE hk
    obtain ⟨i0, hi0, hz0, hz1, hz2⟩ := info_parts int_info
    obtain ⟨l, hl⟩ : ∃ l, to[x]? = some l := ⟨_, List.getElem?_eq_getElem (by rw [hn]; exact hx)⟩
    clear ih hv hn hlen hS hT hb hk s
    cases b with
    | true =>
      clear ek hl
      go_enter Try.func32, Try.ntmps32
      go_wp2_with fail
      first | go_end0 | refine bodyPost_ret (results_none rfl _ _ _) rfl ?_
      exact ⟨rfl, M, [], .skip1 HB.out, by rw [List.append_nil]; exact HST.out, Chg.refl _ _⟩
    | false =>
      obtain ⟨m1, m2⟩ := HST.out.mark HSEP.out x
      obtain ⟨p, A2, c2, rfl, u1, u2⟩ := m1.use rfl HN.out hl
      obtain ⟨A3, c3, e3, hp3⟩ := u2
      rw [intV_len] at e3 hp3
      injection e3 with e3 _ e3'
      subst e3 e3'
      obtain ⟨g1, g2, -, -, -, g6⟩ := m1.facts hx
      obtain ⟨q, hq⟩ : ∃ q, l.length = q := ⟨_, rfl⟩
      have hql : q ≤ 1001000000 := by rw [← hq]; exact HLEN.out l (List.mem_iff_getElem?.2 ⟨x, hl⟩)
      rw [hq] at u1 hp3
      have HQ := hidE hq
      have HL := hidE hl
      have HP3 := hidE hp3
      have HM1 := hidE m1
      have HM2 := hidE m2
      have hk1 : p.add (x * 1) = p.add x := by rw [Nat.mul_one]
      clear hq hl hp3 m1 m2 f6
      go_enter Try.func32, Try.ntmps32
      go_wp2_with fail
      clear f1 f2 f3 f4 f5 g1 g2 u1 g6
      go_loopg [20] q (fun gg v wr => ∃ (j : Nat) (Mp : Nat → Bool) (ap : List Nat), gg = q - j ∧ v = .int .i64 (j : Nat) ∧ j ≤ q ∧ Hid (DFL to (madd M x) (l.take j) Mp ap) ∧ Hid (St T bt bm mm br bo Bd n (.slice (some p) n ct) to Mp (told ++ ap) wr) ∧ Hid (Chg (fun g => g = mm ∨ g = bo ∨ Bd ≤ g) w wr))
      case atStart => exact ⟨0, madd M x, [], rfl, rfl, by omega, hidE (.nil _), hidE (by rw [List.append_nil]; exact HM1.out), HM2⟩
      case round =>
        obtain ⟨j, Mp, ap, rfl, rfl, hj, hD, hSt, hC⟩ := hrel
        obtain ⟨t1, t2, -, -, -, t6⟩ := hSt.out.facts hx
        unfold reachV at t6
        have hTd := hidE (((HT.out.add x).more hD.out HV.out HN.out (fun y hy => by rw [← HN.out]; exact HV.out x y ⟨l, HL.out, List.mem_of_mem_take hy⟩)))
        by_cases hlt : j < q
        · obtain ⟨a3, rfl, hab, hcc⟩ := HP3.out (by omega)
          obtain ⟨y, hy⟩ : ∃ y, l[j]? = some y := ⟨_, List.getElem?_eq_getElem (by rw [HQ.out]; exact hlt)⟩
          have hyn : y < n := by rw [← HN.out]; exact HV.out x y ⟨l, HL.out, List.mem_iff_getElem?.2 ⟨j, hy⟩⟩
          have hcy : wr.cell? (a3.add j) = some (.int .i64 (y : Nat)) := by
            have hno : ∀ i, i < T → ¬ (i = mm ∨ i = bo ∨ Bd ≤ i) := fun i hi h => by
              have := HSEP.out.t1
              have := HSEP.out.t2
              have := HSEP.out.d6
              omega
            have b1 := hC.out.toBelow hTs hno
            have b2 := HM2.out.toBelow hTs hno
            have hblk : (a3.add j).block < T := by rw [addr_add_block]; exact hab
            exact (b1.cell hblk).trans ((b2.cell hblk).symm.trans (hcc j _ (by simp [intV, hy])))
          have hk3 : a3.add (j * 1) = a3.add j := by rw [Nat.mul_one]
          have hun : unm n Mp < k := by
            have h1 := unm_add (M := M) hx HB.out
            have h2 := unm_le (n := n) (fun i hi => (hD.out.mem i).2 (.inl hi))
            have := HK.out
            omega
          have HC := hidE (IH.out Mp (told ++ ap) y wr hun hyn hSt.out hTd.out (by have := hC.out.size; omega))
          have HY := hidE hy
          clear hcc hy hun
          go_wp2_with fail
          refine HC.out.mono ?_
          rintro e w1 ⟨rfl, M', a', d', s', c'⟩
          have HD := hidE d'
          have HS := hidE s'
          have HCC := hidE c'
          clear HC d' s' c'
          go_wp2_with fail
          go_roundg (q - (j + 1))
          case measure => omega
          case rel => exact ⟨j + 1, M', ap ++ a', rfl, by go_num, by omega, hidE (by rw [take_snoc HY.out]; exact hD.out.app HD.out), hidE (by rw [← List.append_assoc]; exact HS.out), hidE (hC.out.trans' HCC.out (fun _ _ h => h))⟩
        · have hjq : j = q := by omega
          subst hjq
          obtain ⟨v, o1, o2⟩ := hSt.out.ob
          obtain ⟨A8, c8, rfl⟩ := own_shape o2
          obtain ⟨z1, z2, z3⟩ := blk_facts1 o1
          have hln := hTd.out.len
          obtain ⟨mt, hmt⟩ : ∃ mt, (told ++ ap).length = mt := ⟨_, rfl⟩
          rw [hmt] at o1 o2 z1 hln
          have hne : ∀ g, (Value.slice A8 mt c8).ownBlock = some g → Bd ≤ g := fun g hg => (own_more o2 g hg).1
          have hd5 := HSEP.out.d5
          have HO := hidE (World.ownsRow.alloc o2 (.cells #[.int .i64 (x : Nat)] 3))
          have HO1 := hidE o1
          have HO2 := hidE o2
          have HMT := hidE hmt
          have HNE := hidE hne
          have hsep := HSEP.out
          clear o2 hmt hne
          go_wp2_with (at_builtin; refine wpList_append_own_at _ rfl (.tmp 28) (.tmp 30) 30 rfl Bd 3 i0 _ 1 8 Try.underlying30 hi0 hz0 hz1 hz2 rfl (by decide) _ mt (intV (told ++ ap)) rfl HO.out ⟨wr.heap.size, 0, none⟩ 1 1 [.int .i64 (x : Nat)] rfl rfl (World.news_of_block (heap_alloc_new _ _)) (by intro u hu; simp at hu; subst hu; rfl) (by unfold maxLen; omega) (by omega) (by have := hC.out.size; simp; omega) ?_; intro v3 w5 hown3 hgrow _ hat3; obtain ⟨A7, c7, rfl⟩ := own_shape hown3; obtain ⟨y1, y2, y3⟩ := blk_facts1 ((o1.alloc _).grown hgrow (fun e => by have := HNE.out bo e.symm; omega)); have HO3 := hidE hown3; have HG3 := hidE hgrow; clear hown3 hgrow hat3)
          have hend := hSt.out.tell (x := x) hsep (by rw [HMT.out] at *; exact HO1.out) (by rw [HMT.out]; exact HO2.out) HG3.out (by rw [HMT.out, intV_snoc]; exact HO3.out)
          first | go_end0 | refine bodyPost_ret (results_none rfl _ _ _) rfl ?_
          refine ⟨rfl, Mp, ap ++ [x], .one HB.out ?_, by rw [← List.append_assoc]; exact hend.1, hC.out.trans' hend.2 (fun _ _ h => h)⟩
          rw [show to.getD x [] = l by rw [List.getD_eq_getElem?_getD, HL.out]; rfl, ← List.take_of_length_le (show l.length ≤ j by rw [HQ.out]; exact Nat.le_refl _)]
          exact hD.out
end Go.Proofs.Ytfmpmblhndnbeaa
