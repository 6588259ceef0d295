/-
  Order: rows of rows; whether there are few.
-/
import Derived.Test.YtfmpmblhndnbeaaOwB
namespace Go.Proofs.Ytfmpmblhndnbeaa
open Go.RowKit Go.Proofs.Ytfmpmblhndnbeaa.Od
set_option maxRecDepth 100000
/-- rows of rows of cells -/
def RdR (w : World) (v : Value) (U : List (List Value)) : Prop :=
  ∃ A c, v = .slice A U.length c ∧ (0 < U.length → ∃ a, A = some a ∧ a.block < w.heap.size ∧ ∀ j l, U[j]? = some l → ∃ x, w.cell? (a.add j) = some x ∧ RowA w x l)
theorem RdR.u {w : World} {v : Value} {u : Uses} (h : RdR w v (u.map intV)) : RdU w v u := by
  obtain ⟨A, c, h1, h2⟩ := h
  rw [List.length_map] at h1 h2
  refine ⟨A, c, h1, fun hp => ?_⟩
  obtain ⟨a, h3, h4, h5⟩ := h2 hp
  exact ⟨a, h3, h4, fun j l hl => h5 j (intV l) (by rw [List.getElem?_map, hl]; rfl)⟩
def fewB (U : List (List Value)) (m : Nat) : Bool := decide (U.length ≤ m) && U.all (fun l => decide (l.length ≤ m))
theorem all_take (U : List (List Value)) (p : List Value → Bool) (k : Nat) (l : List Value) (h : (U.take k).all p = true) (hl : U[k]? = some l) (hp : p l = true) : (U.take (k + 1)).all p = true := by
  rw [List.take_add_one, hl, List.all_append, h]; simp [hp]

set_option maxHeartbeats 1600000 in
theorem od_few (v : Value) (U : List (List Value)) (most : Nat) (w : World) (h : RdR w v U) (hM : most ≤ 1000000) :
    Calls Try.prog 8 #[v, .int .i64 (most : Nat)] w fun e w' => e = .returned (.bool (fewB U most)) ∧ w = w' := by
  obtain ⟨A, c, rfl, hp⟩ := h
  obtain ⟨n, hn⟩ : ∃ n, U.length = n := ⟨_, rfl⟩
  rw [hn] at hp ⊢
  have HP := hidE hp
  obtain ⟨R, hR⟩ : ∃ R, fewB U most = R := ⟨_, rfl⟩
  have HR := hidE hR
  have HN := hidE hn
  rw [hR]
  clear hp hR hn
  by_cases hm : most < n
  · have hr := hidE (show R = false by rw [← HR.out]; unfold fewB; rw [decide_eq_false (by rw [HN.out]; omega)]; rfl)
    go_enter Try.func8, Try.ntmps8
    go_wp2_with fail
    go_ret
    exact ⟨ret_bool hr.out.symm, rfl⟩
  · go_enter Try.func8, Try.ntmps8
    go_wp2_with fail
    go_loopg [5] n (fun gg v wr => ∃ k : Nat, gg = n - k ∧ v = .int .i64 k ∧ wr = w ∧ k ≤ n ∧ Hid ((U.take k).all (fun l => decide (l.length ≤ most)) = true))
    case atStart => exact ⟨0, rfl, rfl, rfl, by omega, hidE (by simp)⟩
    case round =>
      obtain ⟨k, rfl, rfl, rfl, hk, hall⟩ := hrel
      by_cases hlt : k < n
      · obtain ⟨a, rfl, _, hc⟩ := HP.out (by omega)
        obtain ⟨l, hl⟩ : ∃ l, U[k]? = some l := ⟨_, List.getElem?_eq_getElem (by rw [HN.out]; exact hlt)⟩
        obtain ⟨x, hck, Al, cl, rfl, _⟩ := hc k l hl
        obtain ⟨q, hq⟩ : ∃ q, l.length = q := ⟨_, rfl⟩
        rw [hq] at hck
        have HL := hidE hl
        have HQ := hidE hq
        have hk1 : a.add (k * 1) = a.add k := by rw [Nat.mul_one]
        clear hc hl hq
        by_cases he : most < q
        · have hr := hidE (show R = false by
            rw [← HR.out]; unfold fewB
            rw [Bool.and_eq_false_iff]
            refine .inr (List.all_eq_false.2 ⟨l, List.mem_iff_getElem?.2 ⟨k, HL.out⟩, by rw [HQ.out]; simp; exact he⟩))
          go_wp2_with fail
          go_ret
          exact ⟨ret_bool hr.out.symm, rfl⟩
        · have hr := hidE (all_take U _ k l hall.out HL.out (by rw [HQ.out]; simp; omega))
          go_wp2_with fail
          go_roundg (n - (k + 1))
          case measure => omega
          case rel => exact ⟨k + 1, rfl, by go_num, rfl, by omega, hr⟩
      · have hr := hidE (show R = true by
          rw [← HR.out]; unfold fewB
          have := hall.out
          rw [List.take_of_length_le (by rw [HN.out]; omega)] at this
          rw [this, decide_eq_true (by rw [HN.out]; omega)]; rfl)
        go_wp2_with fail
        go_ret
        exact ⟨ret_bool hr.out.symm, rfl⟩
end Go.Proofs.Ytfmpmblhndnbeaa
