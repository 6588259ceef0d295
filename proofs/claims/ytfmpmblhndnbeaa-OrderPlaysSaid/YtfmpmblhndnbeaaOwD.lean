/-
  Order: whether two lists of groups are one.
-/
import Derived.Test.YtfmpmblhndnbeaaOwC
namespace Go.Proofs.Ytfmpmblhndnbeaa
open Go.RowKit Go.Proofs.Ytfmpmblhndnbeaa.Od
set_option maxRecDepth 100000
theorem below_drewN {B : Nat} {w w' : World} (h : Below B w w') (n : Nat) : Below B w (w'.drewN n) := ⟨h.1, h.2, h.3, h.4, h.5⟩
theorem take_eq_snoc {α : Type} {a b : List α} {k : Nat} {x y : α} (h : a.take k = b.take k) (ha : a[k]? = some x) (hb : b[k]? = some y) (e : x = y) : a.take (k + 1) = b.take (k + 1) := by
  rw [List.take_add_one, List.take_add_one, h, ha, hb, e]
theorem ne_at {α : Type} {a b : List α} {k : Nat} {x y : α} (ha : a[k]? = some x) (hb : b[k]? = some y) (e : x ≠ y) : a ≠ b := by
  intro h; subst h; rw [ha] at hb; injection hb with hb; exact e hb

set_option maxHeartbeats 1600000 in
theorem od_same (va vb : Value) (a b : Uses) (w : World) (ha : RdU w va a) (hb : RdU w vb b) (hl : a.length ≤ 1000000) (hla : ∀ l ∈ a, l.length ≤ 1000000) :
    Calls Try.prog 11 #[va, vb] w fun e w' => e = .returned (.bool (decide (a = b))) ∧ Below w.heap.size w w' := by
  obtain ⟨A, ca, rfl, hp⟩ := ha
  obtain ⟨B, cb, rfl, hq⟩ := hb
  obtain ⟨n, hn⟩ : ∃ n, a.length = n := ⟨_, rfl⟩
  obtain ⟨n2, hn2⟩ : ∃ n2, b.length = n2 := ⟨_, rfl⟩
  rw [hn] at hp hl ⊢
  rw [hn2] at hq ⊢
  have HP := hidE hp
  have HQ := hidE hq
  have HLA := hidE hla
  obtain ⟨R, hR⟩ : ∃ R, decide (a = b) = R := ⟨_, rfl⟩
  have HR := hidE hR
  have HN := hidE hn
  have HN2 := hidE hn2
  rw [hR]
  clear hp hq hR hn hn2 hla
  by_cases he : n = n2
  · subst he
    have hne : (((n : Nat) : Int) != (n : Nat)) = false := by simp
    go_enter Try.func11, Try.ntmps11
    go_wp2_with fail
    go_loopg [5] n (fun gg v wr => ∃ k : Nat, gg = n - k ∧ v = .int .i64 k ∧ k ≤ n ∧ Hid (Below w.heap.size w wr) ∧ Hid (a.take k = b.take k))
    case atStart => exact ⟨0, rfl, rfl, by omega, hidE (Below.refl _ _), hidE (by simp)⟩
    case round =>
      obtain ⟨k, rfl, rfl, hk, hB, hall⟩ := hrel
      by_cases hlt : k < n
      · obtain ⟨p, rfl, hpb, hc⟩ := HP.out (by omega)
        obtain ⟨q, rfl, hqb, hd⟩ := HQ.out (by omega)
        obtain ⟨l, hl'⟩ : ∃ l, a[k]? = some l := ⟨_, List.getElem?_eq_getElem (by rw [HN.out]; exact hlt)⟩
        obtain ⟨m, hm'⟩ : ∃ m, b[k]? = some m := ⟨_, List.getElem?_eq_getElem (by rw [HN2.out]; exact hlt)⟩
        obtain ⟨x, hck, Al, cl, rfl, hpl⟩ := hc k l hl'
        obtain ⟨y, hdk, Bl, dl, rfl, hql⟩ := hd k m hm'
        rw [intV_len] at *
        obtain ⟨s, hs⟩ : ∃ s, l.length = s := ⟨_, rfl⟩
        obtain ⟨t, ht⟩ : ∃ t, m.length = t := ⟨_, rfl⟩
        rw [hs] at hck hpl
        rw [ht] at hdk hql
        have hCK : Hid (∀ W, Below w.heap.size w W → W.cell? (p.add k) = some (.slice Al s cl) ∧ W.cell? (q.add k) = some (.slice Bl t dl)) := hidE fun W hW =>
          ⟨(hW.cell (p := p.add k) (by rw [addr_add_block]; exact hpb)).trans hck, (hW.cell (p := q.add k) (by rw [addr_add_block]; exact hqb)).trans hdk⟩
        obtain ⟨hck1, hdk1⟩ := hCK.out wr hB.out
        have hsl : s ≤ 1000000 := by rw [← hs]; exact HLA.out l (List.mem_iff_getElem?.2 ⟨k, hl'⟩)
        have hk1 : p.add (k * 1) = p.add k := by rw [Nat.mul_one]
        have hk2 : q.add (k * 1) = q.add k := by rw [Nat.mul_one]
        have HL := hidE hl'
        have HM := hidE hm'
        have HPL := hidE hpl
        have HQL := hidE hql
        have HS := hidE hs
        have HT := hidE ht
        clear hc hd hl' hm' hpl hql hs ht hck hdk hpb hqb
        by_cases hst : s = t
        · subst hst
          have hne2 : (((s : Nat) : Int) != (s : Nat)) = false := by simp
          go_wp2_with fail
          go_quiet (fail)
          go_wp2_with fail
          have hB0 : Hid (Below w.heap.size w (wr.drewN nq)) := hidE (below_drewN hB.out nq)
          go_loopg [6] s (fun gg v6 wx => ∃ j : Nat, gg = s - j ∧ v6 = .int .i64 (j : Nat) ∧ j ≤ s ∧ Hid (Below w.heap.size w wx) ∧ Hid (l.take j = m.take j))
          case atStart => exact ⟨0, rfl, rfl, by omega, hB0, hidE (by simp)⟩
          case round =>
            obtain ⟨j, rfl, rfl, hj, hB2, hall2⟩ := hrel
            obtain ⟨hck2, hdk2⟩ := hCK.out wr hB2.out
            by_cases hjl : j < s
            · obtain ⟨y, hy⟩ : ∃ y, l[j]? = some y := ⟨_, List.getElem?_eq_getElem (by rw [HS.out]; exact hjl)⟩
              obtain ⟨z, hz⟩ : ∃ z, m[j]? = some z := ⟨_, List.getElem?_eq_getElem (by rw [HT.out]; exact hjl)⟩
              obtain ⟨al, rfl, hgl, hcl⟩ := HPL.out (by omega)
              obtain ⟨bl, rfl, hgm, hcm⟩ := HQL.out (by omega)
              have hcy : wr.cell? (al.add j) = some (.int .i64 (y : Nat)) := (hB2.out.cell (p := al.add j) (by rw [addr_add_block]; exact hgl)).trans (hcl j _ (by simp [intV, hy]))
              have hcz : wr.cell? (bl.add j) = some (.int .i64 (z : Nat)) := (hB2.out.cell (p := bl.add j) (by rw [addr_add_block]; exact hgm)).trans (hcm j _ (by simp [intV, hz]))
              have hk3 : al.add (j * 1) = al.add j := by rw [Nat.mul_one]
              have hk4 : bl.add (j * 1) = bl.add j := by rw [Nat.mul_one]
              have HY := hidE hy
              have HZ := hidE hz
              clear hcl hcm hy hz hgl hgm hck1 hdk1
              by_cases hyz : y = z
              · have hne3 : (((y : Nat) : Int) != (z : Nat)) = false := by subst hyz; simp
                have hr := hidE (take_eq_snoc hall2.out HY.out HZ.out hyz)
                clear hyz
                go_wp2_with fail
                go_quiet (fail)
                go_wp2_with fail
                go_roundg (s - (j + 1))
                case measure => omega
                case rel => exact ⟨j + 1, rfl, by go_num, by omega, hidE (below_drewN hB2.out _), hr⟩
              · have hne3 : (((y : Nat) : Int) != (z : Nat)) = true := by simp; omega
                have hr := hidE (show R = false by rw [← HR.out]; exact decide_eq_false (ne_at HL.out HM.out (ne_at HY.out HZ.out hyz)))
                clear hyz
                go_wp2_with fail
                go_quiet (fail)
                go_wp2_with fail
                go_ret
                exact ⟨ret_bool hr.out.symm, below_drewN hB2.out _⟩
            · have hr := hidE (take_eq_snoc hall.out HL.out HM.out (by
                have := hall2.out
                rwa [List.take_of_length_le (by rw [HS.out]; omega), List.take_of_length_le (by rw [HT.out]; omega)] at this))
              clear hck1 hdk1
              go_wp2_with fail
              go_roundg (n - (k + 1))
              case measure => omega
              case rel => exact ⟨k + 1, rfl, by go_num, by omega, hB2, hr⟩
        · have hr := hidE (show R = false by rw [← HR.out]; exact decide_eq_false (ne_at HL.out HM.out (fun e => hst (by rw [← HS.out, ← HT.out, e]))))
          have hne2 : (((s : Nat) : Int) != (t : Nat)) = true := by simp; omega
          go_wp2_with fail
          go_quiet (fail)
          go_wp2_with fail
          go_ret
          exact ⟨ret_bool hr.out.symm, below_drewN hB.out _⟩
      · have hr := hidE (show R = true by
          rw [← HR.out]
          have := hall.out
          rw [List.take_of_length_le (by rw [HN.out]; omega), List.take_of_length_le (by rw [HN2.out]; omega)] at this
          exact decide_eq_true this)
        go_wp2_with fail
        go_ret
        exact ⟨ret_bool hr.out.symm, hB.out⟩
  · have hr := hidE (show R = false by rw [← HR.out]; exact decide_eq_false (fun e => he (by rw [← HN.out, ← HN2.out, e])))
    have hne : (((n : Nat) : Int) != (n2 : Nat)) = true := by simp; omega
    go_enter Try.func11, Try.ntmps11
    go_wp2_with fail
    go_ret
    exact ⟨ret_bool hr.out.symm, Below.refl _ _⟩
end Go.Proofs.Ytfmpmblhndnbeaa
