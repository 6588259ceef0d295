/-
  The walks over letter, digit, number of the document's answer for lex.
-/
import Derived.Test.YtphffibigmpnkaaLexScan
namespace Go.Proofs.Ytphffibigmpnkaa
open Go.RowKit Lx

theorem ref_letter (c : UInt8) (w : World) : Calls Try.prog 18 #[.int .u8 c.toNat] w fun e w' => e = .returned (.bool (isLet c)) ∧ w = w' := by
  rcases (show (c.toNat ≤ 64) ∨ (65 ≤ c.toNat ∧ c.toNat ≤ 90) ∨ (91 ≤ c.toNat ∧ c.toNat ≤ 96) ∨ (97 ≤ c.toNat ∧ c.toNat ≤ 122) ∨ (123 ≤ c.toNat) by omega) with h0 | h1 | h2 | h3 | h4
  · have d97 : decide ((97 : Int) ≤ (c.toNat : Int)) = false := decide_eq_false (by omega)
    have d122 : decide ((c.toNat : Int) ≤ 122) = true := decide_eq_true (by omega)
    have d65 : decide ((65 : Int) ≤ (c.toNat : Int)) = false := decide_eq_false (by omega)
    have d90 : decide ((c.toNat : Int) ≤ 90) = true := decide_eq_true (by omega)
    have hr : isLet c = false := by simp [isLet, isUp]; omega
    go_enter Try.func18, Try.ntmps18
    go_wp2
    go_ret
    exact ⟨ret_bool hr.symm, rfl⟩
  · have d97 : decide ((97 : Int) ≤ (c.toNat : Int)) = false := decide_eq_false (by omega)
    have d122 : decide ((c.toNat : Int) ≤ 122) = true := decide_eq_true (by omega)
    have d65 : decide ((65 : Int) ≤ (c.toNat : Int)) = true := decide_eq_true (by omega)
    have d90 : decide ((c.toNat : Int) ≤ 90) = true := decide_eq_true (by omega)
    have hr : isLet c = true := by simp [isLet, isUp]; omega
    go_enter Try.func18, Try.ntmps18
    go_wp2
    go_ret
    exact ⟨ret_bool hr.symm, rfl⟩
  · have d97 : decide ((97 : Int) ≤ (c.toNat : Int)) = false := decide_eq_false (by omega)
    have d122 : decide ((c.toNat : Int) ≤ 122) = true := decide_eq_true (by omega)
    have d65 : decide ((65 : Int) ≤ (c.toNat : Int)) = true := decide_eq_true (by omega)
    have d90 : decide ((c.toNat : Int) ≤ 90) = false := decide_eq_false (by omega)
    have hr : isLet c = false := by simp [isLet, isUp]; omega
    go_enter Try.func18, Try.ntmps18
    go_wp2
    go_ret
    exact ⟨ret_bool hr.symm, rfl⟩
  · have d97 : decide ((97 : Int) ≤ (c.toNat : Int)) = true := decide_eq_true (by omega)
    have d122 : decide ((c.toNat : Int) ≤ 122) = true := decide_eq_true (by omega)
    have d65 : decide ((65 : Int) ≤ (c.toNat : Int)) = true := decide_eq_true (by omega)
    have d90 : decide ((c.toNat : Int) ≤ 90) = false := decide_eq_false (by omega)
    have hr : isLet c = true := by simp [isLet, isUp]; omega
    go_enter Try.func18, Try.ntmps18
    go_wp2
    go_ret
    exact ⟨ret_bool hr.symm, rfl⟩
  · have d97 : decide ((97 : Int) ≤ (c.toNat : Int)) = true := decide_eq_true (by omega)
    have d122 : decide ((c.toNat : Int) ≤ 122) = false := decide_eq_false (by omega)
    have d65 : decide ((65 : Int) ≤ (c.toNat : Int)) = true := decide_eq_true (by omega)
    have d90 : decide ((c.toNat : Int) ≤ 90) = false := decide_eq_false (by omega)
    have hr : isLet c = false := by simp [isLet, isUp]; omega
    go_enter Try.func18, Try.ntmps18
    go_wp2
    go_ret
    exact ⟨ret_bool hr.symm, rfl⟩

theorem ref_digit (c : UInt8) (w : World) : Calls Try.prog 19 #[.int .u8 c.toNat] w fun e w' => e = .returned (.bool (isDig c)) ∧ w = w' := by
  rcases (show (c.toNat ≤ 47) ∨ (48 ≤ c.toNat ∧ c.toNat ≤ 57) ∨ (58 ≤ c.toNat) by omega) with h0 | h1 | h2
  · have d48 : decide ((48 : Int) ≤ (c.toNat : Int)) = false := decide_eq_false (by omega)
    have d57 : decide ((c.toNat : Int) ≤ 57) = true := decide_eq_true (by omega)
    have hr : isDig c = false := by simp [isDig]; omega
    go_enter Try.func19, Try.ntmps19
    go_wp2
    go_ret
    exact ⟨ret_bool hr.symm, rfl⟩
  · have d48 : decide ((48 : Int) ≤ (c.toNat : Int)) = true := decide_eq_true (by omega)
    have d57 : decide ((c.toNat : Int) ≤ 57) = true := decide_eq_true (by omega)
    have hr : isDig c = true := by simp [isDig]; omega
    go_enter Try.func19, Try.ntmps19
    go_wp2
    go_ret
    exact ⟨ret_bool hr.symm, rfl⟩
  · have d48 : decide ((48 : Int) ≤ (c.toNat : Int)) = true := decide_eq_true (by omega)
    have d57 : decide ((c.toNat : Int) ≤ 57) = false := decide_eq_false (by omega)
    have hr : isDig c = false := by simp [isDig]; omega
    go_enter Try.func19, Try.ntmps19
    go_wp2
    go_ret
    exact ⟨ret_bool hr.symm, rfl⟩

/-- from i on the digits go up to k: how number ends -/
theorem num_bad (s : ByteArray) (i : Nat) (hb : badNum (s.data.toList.drop i) = true) : i = i + (number (s.data.toList.drop i)).2 := by
  rw [number_of_bad _ hb]; rfl
theorem num_good (s : ByteArray) (i k : Nat) (h : Hid (k = i + span isDig (s.data.toList.drop i))) (hb : badNum (s.data.toList.drop i) = false) : k = i + (number (s.data.toList.drop i)).2 := by
  rw [number_of_good _ _ hb (hidE rfl)]; exact h.out
theorem num_same (s : ByteArray) (i k : Nat) (h : Hid (k = i + span isDig (s.data.toList.drop i))) (hk : k = i) : k = i + (number (s.data.toList.drop i)).2 := by
  have h0 : span isDig (s.data.toList.drop i) = 0 := by have := h.out; omega
  rw [number_of_bad _ (by unfold badNum; rw [h0]; simp)]; exact hk
theorem head_drop (s : ByteArray) (i : Nat) (h : i < s.size) : (s.data.toList.drop i).headD 0 = s[i] := by rw [drop_at s i h]; rfl
theorem badNum_at (s : ByteArray) (i k : Nat) (hi : i < s.size) (h : Hid (k = i + span isDig (s.data.toList.drop i))) : badNum (s.data.toList.drop i) = decide (k - i = 0 ∨ 6 < k - i ∨ (1 < k - i ∧ s[i] = 48)) := by
  unfold badNum
  rw [head_drop s i hi, show span isDig (s.data.toList.drop i) = k - i by have := h.out; omega]

theorem span_at_size (p : UInt8 → Bool) (s : ByteArray) (i : Nat) (hi : i ≤ s.size) : i + span p (s.data.toList.drop i) ≤ s.size := by
  have := span_le p (s.data.toList.drop i)
  rw [List.length_drop, ← Lib.size_eq] at this
  omega

set_option maxHeartbeats 800000 in
theorem ref_number (s : ByteArray) (i : Nat) (w : World) (hs : s.size ≤ 4000) (hi : i ≤ s.size) :
    Calls Try.prog 20 #[.string s, .int .i64 i] w fun e w' => e = .returned (.int .i64 ((i + (number (s.data.toList.drop i)).2 : Nat) : Int)) ∧ w = w' := by
  obtain ⟨N, hN⟩ : ∃ N, N = i + span isDig (s.data.toList.drop i) := ⟨_, rfl⟩
  obtain ⟨R, hR⟩ : ∃ R, R = i + (number (s.data.toList.drop i)).2 := ⟨_, rfl⟩
  have hNs : N ≤ s.size := by rw [hN]; exact span_at_size _ _ _ hi
  have HN := hidE hN
  have HR := hidE hR
  rw [← hR]
  clear hN hR
  go_enter Try.func20, Try.ntmps20
  go_wp2
  go_loopg [5] (s.size - i) (fun gg v wr => ∃ k : Nat, gg = s.size - k ∧ v = .int .i64 k ∧ wr = w ∧ i ≤ k ∧ k ≤ s.size ∧ k + span isDig (s.data.toList.drop k) = N)
  case atStart => exact ⟨i, rfl, rfl, rfl, by omega, hi, HN.out.symm⟩
  case round =>
    obtain ⟨k, rfl, rfl, rfl, hik, hk, hn⟩ := hrel
    by_cases hlt : k < s.size
    · by_cases hp : isDig s[k] = true
      · have HS := hidE (span_step _ s k _ hlt hn hp)
        clear hn
        go_wp2_with (go_at_call 19; refine (ref_digit _ _).mono ?_; rintro e w' ⟨rfl, rfl⟩)
        go_roundg (s.size - (k + 1))
        case measure => omega
        case rel => exact ⟨k + 1, rfl, by go_num, rfl, by omega, by omega, HS.out⟩
      · have hp : isDig s[k] = false := by simpa using hp
        obtain rfl : k = N := span_stop _ s k _ hlt hn hp
        clear hn
        by_cases h6 : 6 < k - i
        · have d6 : decide ((6 : Int) < (k : Int) - (i : Int)) = true := decide_eq_true (by omega)
          have hr := hidE (num_bad s i (by rw [badNum_at s i k (by omega) HN]; simp; omega))
          go_wp2_with (go_at_call 19; refine (ref_digit _ _).mono ?_; rintro e w' ⟨rfl, rfl⟩)
          go_ret
          exact ⟨ret_i64 (by rw [HR.out, ← hr.out]), rfl⟩
        · have d6 : decide ((6 : Int) < (k : Int) - (i : Int)) = false := decide_eq_false (by omega)
          by_cases h1 : 1 < k - i
          · have d1 : decide ((1 : Int) < (k : Int) - (i : Int)) = true := decide_eq_true (by omega)
            have his : i < s.size := by omega
            by_cases hd : s[i] = 48
            · have d48 : ((s[i].toNat : Int) == 48) = true := u8t _ 48 hd
              have hr := hidE (num_bad s i (by rw [badNum_at s i k (by omega) HN]; simp [h1, hd]))
              clear hd
              go_wp2_with (go_at_call 19; refine (ref_digit _ _).mono ?_; rintro e w' ⟨rfl, rfl⟩)
              go_ret
              exact ⟨ret_i64 (by rw [HR.out, ← hr.out]), rfl⟩
            · have d48 : ((s[i].toNat : Int) == 48) = false := u8f _ 48 hd
              have hr := hidE (num_good s i k HN (by rw [badNum_at s i k (by omega) HN]; simp [hd]; omega))
              clear hd
              go_wp2_with (go_at_call 19; refine (ref_digit _ _).mono ?_; rintro e w' ⟨rfl, rfl⟩)
              go_ret
              exact ⟨ret_i64 (by rw [HR.out, ← hr.out]), rfl⟩
          · have d1 : decide ((1 : Int) < (k : Int) - (i : Int)) = false := decide_eq_false (by omega)
            have hr : Hid (k = i + (number (s.data.toList.drop i)).2) := by
              by_cases he : k = i
              · exact hidE (num_same s i k HN he)
              · exact hidE (num_good s i k HN (by rw [badNum_at s i k (by omega) HN]; simp; omega))
            go_wp2_with (go_at_call 19; refine (ref_digit _ _).mono ?_; rintro e w' ⟨rfl, rfl⟩)
            go_ret
            exact ⟨ret_i64 (by rw [HR.out, ← hr.out]), rfl⟩
    · obtain rfl : k = N := span_end _ s k _ (by omega) hn
      clear hn
      by_cases h6 : 6 < k - i
      · have d6 : decide ((6 : Int) < (k : Int) - (i : Int)) = true := decide_eq_true (by omega)
        have hr := hidE (num_bad s i (by rw [badNum_at s i k (by omega) HN]; simp; omega))
        go_wp2_with fail
        go_ret
        exact ⟨ret_i64 (by rw [HR.out, ← hr.out]), rfl⟩
      · have d6 : decide ((6 : Int) < (k : Int) - (i : Int)) = false := decide_eq_false (by omega)
        by_cases h1 : 1 < k - i
        · have d1 : decide ((1 : Int) < (k : Int) - (i : Int)) = true := decide_eq_true (by omega)
          have his : i < s.size := by omega
          by_cases hd : s[i] = 48
          · have d48 : ((s[i].toNat : Int) == 48) = true := u8t _ 48 hd
            have hr := hidE (num_bad s i (by rw [badNum_at s i k (by omega) HN]; simp [h1, hd]))
            clear hd
            go_wp2_with fail
            go_ret
            exact ⟨ret_i64 (by rw [HR.out, ← hr.out]), rfl⟩
          · have d48 : ((s[i].toNat : Int) == 48) = false := u8f _ 48 hd
            have hr := hidE (num_good s i k HN (by rw [badNum_at s i k (by omega) HN]; simp [hd]; omega))
            clear hd
            go_wp2_with fail
            go_ret
            exact ⟨ret_i64 (by rw [HR.out, ← hr.out]), rfl⟩
        · have d1 : decide ((1 : Int) < (k : Int) - (i : Int)) = false := decide_eq_false (by omega)
          have hr : Hid (k = i + (number (s.data.toList.drop i)).2) := by
            by_cases he : k = i
            · exact hidE (num_same s i k HN he)
            · exact hidE (num_good s i k HN (by rw [badNum_at s i k (by omega) HN]; simp; omega))
          go_wp2_with fail
          go_ret
          exact ⟨ret_i64 (by rw [HR.out, ← hr.out]), rfl⟩

end Go.Proofs.Ytphffibigmpnkaa
