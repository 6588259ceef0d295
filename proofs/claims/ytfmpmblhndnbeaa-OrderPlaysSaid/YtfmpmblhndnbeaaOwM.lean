/-
  Order: slices.Compare of rows of numbers.
-/
import Derived.Test.YtfmpmblhndnbeaaOwL
namespace Go.Proofs.Ytfmpmblhndnbeaa
open Go.RowKit Go.Shelf Go.Proofs.Ytfmpmblhndnbeaa.Od
set_option maxRecDepth 100000

/-- one number against another one -/
def cmpI (x y : Nat) : Int := if x < y then -1 else if y < x then 1 else 0
theorem ow_nan (x : Int) (w : World) : Calls Try.prog 57 #[.int .i64 x] w fun e w' => e = .returned (.bool false) ∧ w' = w := by
  go_enter Try.func57, Try.ntmps57
  go_wp2
  go_ret
  exact ⟨rfl, rfl⟩
theorem ow_cmp (x y : Nat) (w : World) : Calls Try.prog 37 #[.int .i64 (x : Nat), .int .i64 (y : Nat)] w fun e w' => e = .returned (.int .i64 (cmpI x y)) ∧ w' = w := by
  unfold cmpI
  go_enter Try.func37, Try.ntmps37
  go_wp2_with fail
  refine (ow_nan _ _).mono ?_
  rintro e w' ⟨rfl, rfl⟩
  go_wp2_with fail
  refine (ow_nan _ _).mono ?_
  rintro e w' ⟨rfl, rfl⟩
  go_wp2_with fail
  all_goals go_ret
  all_goals (refine ⟨?_, rfl⟩; simp [*])

theorem ret_int {a b : Int} (h : a = b) : Ending.returned (.int .i64 a) = .returned (.int .i64 b) := by rw [h]
set_option maxHeartbeats 1600000 in
theorem ow_compare (va vb : Value) (a b : List Nat) (w : World) (ha : RowA w va (intV a)) (hb : RowA w vb (intV b)) (hl : a.length ≤ 1000000) (hl2 : b.length ≤ 1000000) :
    Calls Try.prog 29 #[va, vb] w fun e w' => e = .returned (.int .i64 (cmpL a b)) ∧ w' = w := by
  obtain ⟨A, ca, rfl, hp⟩ := ha
  obtain ⟨B, cb, rfl, hq⟩ := hb
  rw [intV_len] at hp hq
  simp only [intV_len]
  obtain ⟨n, hn⟩ : ∃ n, a.length = n := ⟨_, rfl⟩
  obtain ⟨m, hm⟩ : ∃ m, b.length = m := ⟨_, rfl⟩
  rw [hn] at hp hl ⊢
  rw [hm] at hq hl2 ⊢
  have HP := hidE hp
  have HQ := hidE hq
  have HN := hidE hn
  have HM := hidE hm
  obtain ⟨R, hR⟩ : ∃ R, cmpL a b = R := ⟨_, rfl⟩
  have HR := hidE hR
  rw [hR]
  clear hp hq hn hm hR
  go_enter Try.func29, Try.ntmps29
  go_wp2_with fail
  go_loopg [11] n (fun gg v wr => ∃ k : Nat, gg = n - k ∧ v = .int .i64 k ∧ k ≤ n ∧ k ≤ m ∧ wr = w ∧ Hid (a.take k = b.take k))
  case atStart => exact ⟨0, rfl, rfl, by omega, by omega, rfl, hidE (by simp)⟩
  case round =>
    obtain ⟨k, rfl, rfl, hk, hkm, rfl, hall⟩ := hrel
    by_cases hlt : k < n
    · obtain ⟨p, rfl, _, hc⟩ := HP.out (by omega)
      obtain ⟨x, hx⟩ : ∃ x, a[k]? = some x := ⟨_, List.getElem?_eq_getElem (by rw [HN.out]; exact hlt)⟩
      have hck := hc k (.int .i64 (x : Nat)) (by simp [intV, hx])
      have hk1 : p.add (k * 1) = p.add k := by rw [Nat.mul_one]
      have HX := hidE hx
      clear hc hx
      by_cases hlm : k < m
      · obtain ⟨q, rfl, _, hd⟩ := HQ.out (by omega)
        obtain ⟨y, hy⟩ : ∃ y, b[k]? = some y := ⟨_, List.getElem?_eq_getElem (by rw [HM.out]; exact hlm)⟩
        have hdk := hd k (.int .i64 (y : Nat)) (by simp [intV, hy])
        have hk2 : q.add (k * 1) = q.add k := by rw [Nat.mul_one]
        have HY := hidE hy
        have hge : decide ((m : Int) ≤ (k : Nat)) = false := by simp; omega
        have HC := hidE (ow_cmp x y wr)
        clear hd hy
        rcases Nat.lt_trichotomy x y with h | h | h
        · have hr := hidE (show R = -1 by rw [← HR.out]; exact cmpL_neg (lt_at hall.out HX.out HY.out h))
          rw [show cmpI x y = -1 by unfold cmpI; rw [if_pos h]] at HC
          clear h
          go_wp2_with fail
          refine HC.out.mono ?_
          rintro e w' ⟨rfl, rfl⟩
          clear HC
          go_wp2_with fail
          go_ret
          exact ⟨ret_int hr.out.symm, rfl⟩
        · have hr := hidE (show a.take (k + 1) = b.take (k + 1) from take_eq_snoc hall.out HX.out HY.out h)
          rw [show cmpI x y = 0 by unfold cmpI; rw [if_neg (by omega), if_neg (by omega)]] at HC
          clear h
          go_wp2_with fail
          refine HC.out.mono ?_
          rintro e w' ⟨rfl, rfl⟩
          clear HC
          go_wp2_with fail
          go_roundg (n - (k + 1))
          case measure => omega
          case rel => exact ⟨k + 1, rfl, by go_num, by omega, by omega, rfl, hr⟩
        · have hr := hidE (show R = 1 by rw [← HR.out]; exact cmpL_pos (lt_at hall.out.symm HY.out HX.out h))
          rw [show cmpI x y = 1 by unfold cmpI; rw [if_neg (by omega), if_pos h]] at HC
          clear h
          go_wp2_with fail
          refine HC.out.mono ?_
          rintro e w' ⟨rfl, rfl⟩
          clear HC
          go_wp2_with fail
          go_ret
          exact ⟨ret_int hr.out.symm, rfl⟩
      · have hkm' : k = m := by omega
        subst hkm'
        have hr := hidE (show R = 1 by
          rw [← HR.out]
          refine cmpL_pos (lt_pre ?_ (by rw [HM.out, HN.out]; exact hlt))
          rw [HM.out, hall.out, List.take_of_length_le (by rw [HM.out]; exact Nat.le_refl _)])
        go_wp2_with fail
        go_ret
        exact ⟨ret_int hr.out.symm, rfl⟩
    · have hkn : k = n := by omega
      subst hkn
      have hall' := hall.out
      rw [List.take_of_length_le (show a.length ≤ k by rw [HN.out]; exact Nat.le_refl _)] at hall'
      have HALL := hidE hall'
      clear hall' hall
      by_cases hlm : k < m
      · have hr := hidE (show R = -1 by
          rw [← HR.out]
          refine cmpL_neg (lt_pre ?_ (by rw [HM.out, HN.out]; exact hlm))
          rw [HN.out]; exact HALL.out)
        have d1 : decide ((k : Int) < (m : Nat)) = true := by simp; omega
        go_wp2_with fail
        go_ret
        exact ⟨ret_int hr.out.symm, rfl⟩
      · have hkm' : k = m := by omega
        subst hkm'
        have hr := hidE (show R = 0 by
          rw [← HR.out, HALL.out, List.take_of_length_le (show b.length ≤ k by rw [HM.out]; exact Nat.le_refl _), cmpL_self])
        have d1 : decide ((k : Int) < (k : Nat)) = false := by simp
        go_wp2_with fail
        go_ret
        exact ⟨ret_int hr.out.symm, rfl⟩
end Go.Proofs.Ytfmpmblhndnbeaa
