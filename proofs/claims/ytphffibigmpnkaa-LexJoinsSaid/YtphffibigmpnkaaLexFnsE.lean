/-
  The walks over first and between of package lex.
-/
import Derived.Test.YtphffibigmpnkaaLexFnsD
namespace Go.Proofs.Ytphffibigmpnkaa
open Go.RowKit Lx

theorem first_cons (s : ByteArray) (h0 : 0 < s.size) : first s.data.toList = if isLet s[0] then word s.data.toList else if isDig s[0] then number s.data.toList else if s[0] = 63 then meta_ s.data.toList else sign s.data.toList := by
  have h := drop_at s 0 h0
  simp only [List.drop_zero] at h
  rw [h]
  rfl
theorem first_empty (s : ByteArray) (h0 : ¬ 0 < s.size) : first s.data.toList = (0, 0) := by
  have : s.data.toList = [] := by apply List.eq_nil_of_length_eq_zero; rw [← Lib.size_eq]; omega
  rw [this]; rfl
theorem empty_no (s : ByteArray) (h0 : 0 < s.size) : s.toList.isEmpty = false := by
  rw [Lib.toList_data]
  have := Lib.size_eq s
  cases h : s.data.toList with
  | nil => have e : s.size = 0 := by rw [this, h]; rfl
           omega
  | cons => rfl
theorem empty_yes (s : ByteArray) (h0 : ¬ 0 < s.size) : s.toList.isEmpty = true := by
  rw [Lib.toList_data]
  have := Lib.size_eq s
  cases h : s.data.toList with
  | nil => rfl
  | cons => rw [h] at this; simp at this; omega
theorem u8t (c d : UInt8) (h : c = d) : ((c.toNat : Int) == (d.toNat : Int)) = true := by rw [h]; simp
theorem u8f (c d : UInt8) (h : ¬ c = d) : ((c.toNat : Int) == (d.toNat : Int)) = false := by
  rw [Bool.eq_false_iff]
  intro e
  apply h
  rw [← UInt8.toNat_inj]
  simp at e
  omega

theorem first_any (s : ByteArray) (w : World) (hs : s.size ≤ maxLen) :
    Calls Try.prog 17 #[.string s] w fun e w' => e = .returned (.tuple #[.int .i64 (first s.data.toList).1, .int .i64 (first s.data.toList).2]) ∧ w = w' := by
  by_cases h0 : 0 < s.size
  · have hf := first_cons s h0
    have he := empty_no s h0
    by_cases hl : isLet s[0] = true
    · have hd := head_data s h0
      have hw1 : 1 ≤ span inW s.data.toList := by
        have h := drop_at s 0 h0
        simp only [List.drop_zero] at h
        rw [h]; exact isLet_span _ _ hl
      rw [if_pos hl] at hf
      have HC := word_any s w hs hw1
      rw [← hf] at HC
      clear hf hd hw1
      go_enter Try.func17, Try.ntmps17
      go_wp2_with (first | (go_at_call 22; refine (isLetter_any _ _).mono ?_; rintro e w' ⟨rfl, rfl⟩) | (go_at_call 23; refine HC.mono ?_; rintro e w' ⟨rfl, rfl⟩))
      go_ret2
      exact ⟨rfl, rfl⟩
    · rw [if_neg hl] at hf
      have hl : isLet s[0] = false := by simpa using hl
      by_cases hg : isDig s[0] = true
      · rw [if_pos hg] at hf
        have HC := number_any s w hs
        rw [← hf] at HC
        clear hf
        go_enter Try.func17, Try.ntmps17
        go_wp2_with (first | (go_at_call 22; refine (isLetter_any _ _).mono ?_; rintro e w' ⟨rfl, rfl⟩) | (go_at_call 24; refine (isDigit_any _ _).mono ?_; rintro e w' ⟨rfl, rfl⟩) | (go_at_call 25; refine HC.mono ?_; rintro e w' ⟨rfl, rfl⟩))
        go_ret2
        exact ⟨rfl, rfl⟩
      · rw [if_neg hg] at hf
        have hg : isDig s[0] = false := by simpa using hg
        by_cases hq : s[0] = 63
        · rw [if_pos hq] at hf
          have HC := meta_any s w hs h0
          rw [← hf] at HC
          have hq' : ((s[0].toNat : Int) == 63) = true := u8t _ 63 hq
          clear hf hq
          go_enter Try.func17, Try.ntmps17
          go_wp2_with (first | (go_at_call 22; refine (isLetter_any _ _).mono ?_; rintro e w' ⟨rfl, rfl⟩) | (go_at_call 24; refine (isDigit_any _ _).mono ?_; rintro e w' ⟨rfl, rfl⟩) | (go_at_call 26; refine HC.mono ?_; rintro e w' ⟨rfl, rfl⟩))
          go_ret2
          exact ⟨rfl, rfl⟩
        · rw [if_neg hq] at hf
          have HC := sign_any s w h0
          rw [← hf] at HC
          have hq' : ((s[0].toNat : Int) == 63) = false := u8f _ 63 hq
          clear hf hq
          go_enter Try.func17, Try.ntmps17
          go_wp2_with (first | (go_at_call 22; refine (isLetter_any _ _).mono ?_; rintro e w' ⟨rfl, rfl⟩) | (go_at_call 24; refine (isDigit_any _ _).mono ?_; rintro e w' ⟨rfl, rfl⟩) | (go_at_call 27; refine HC.mono ?_; rintro e w' ⟨rfl, rfl⟩))
          go_ret2
          exact ⟨rfl, rfl⟩
  · have hf := hidE (first_empty s h0)
    have he := empty_yes s h0
    go_enter Try.func17, Try.ntmps17
    go_wp2
    go_ret2
    exact ⟨ret_2 (by rw [hf.out]; rfl) (by rw [hf.out]; rfl), rfl⟩

theorem rem_none (l : List UInt8) (h : Lib.indexByte l 10 < 0) : btw true l = l.length := by
  induction l with
  | nil => rfl
  | cons c r ih =>
    simp only [btw, List.length_cons]
    have hg := Lib.indexByte_ge r 10
    by_cases hc : c = 10
    · subst hc; simp [Lib.indexByte] at h
    · have hc' : (c == 10) = false := by simpa using hc
      have hc2 : (c != 10) = true := by simpa using hc
      rw [Lib.indexByte, hc'] at h
      simp only [Bool.false_eq_true, if_false] at h
      have h0 : Lib.indexByte r 10 < 0 := by
        by_cases h1 : Lib.indexByte r 10 = -1
        · omega
        · rw [if_neg (by simpa using h1)] at h; omega
      rw [hc2, ih h0]

theorem rem_some (l : List UInt8) (j : Nat) (h : Lib.indexByte l 10 = j) : j < l.length ∧ btw true l = j + 1 + btw false (l.drop (j + 1)) := by
  induction l generalizing j with
  | nil => simp [Lib.indexByte] at h
  | cons c r ih =>
    simp only [btw, List.length_cons]
    have hg := Lib.indexByte_ge r 10
    by_cases hc : c = 10
    · subst hc
      simp [Lib.indexByte] at h
      obtain rfl : j = 0 := by omega
      simp
      omega
    · have hc' : (c == 10) = false := by simpa using hc
      have hc2 : (c != 10) = true := by simpa using hc
      rw [Lib.indexByte, hc'] at h
      simp only [Bool.false_eq_true, if_false] at h
      split at h
      · omega
      · rename_i hne
        have hne : ¬ Lib.indexByte r 10 = -1 := by simpa using hne
        obtain ⟨i, hi⟩ : ∃ i : Nat, Lib.indexByte r 10 = i := ⟨(Lib.indexByte r 10).toNat, by omega⟩
        obtain ⟨h1, h2⟩ := ih i hi
        obtain rfl : j = i + 1 := by omega
        rw [hc2, h2]
        simp only [List.drop_succ_cons]
        omega

/-- what the loop of between keeps: from k on as many bytes are still to be passed as make N in all -/
def Bt (s : ByteArray) (k N : Nat) : Prop := k + btw false (s.data.toList.drop k) = N

theorem bt_blank (s : ByteArray) (k N : Nat) (h : Bt s k N) (hk : k < s.size) (hc : s[k] = 32 ∨ s[k] = 9 ∨ s[k] = 10) : Bt s (k + 1) N := by
  unfold Bt at *
  rw [drop_at s k hk, btw, if_pos hc] at h
  omega
theorem bt_other (s : ByteArray) (k N : Nat) (h : Bt s k N) (hk : k < s.size) (hc : ¬ (s[k] = 32 ∨ s[k] = 9 ∨ s[k] = 10)) (h35 : ¬ s[k] = 35) : k = N := by
  unfold Bt at *
  rw [drop_at s k hk, btw, if_neg hc, if_neg h35] at h
  omega
theorem bt_end (s : ByteArray) (k N : Nat) (h : Bt s k N) (hk : s.size ≤ k) : k = N := by
  unfold Bt at *
  rw [List.drop_eq_nil_of_le (by simpa using hk)] at h
  exact h
theorem bt_remark (s : ByteArray) (k : Nat) (hk : k < s.size) (h35 : s[k] = 35) : btw false (s.data.toList.drop k) = btw true (s.data.toList.drop k) := by
  rw [drop_at s k hk, h35]
  simp [btw]
theorem bt_none (s : ByteArray) (k N : Nat) (h : Bt s k N) (hk : k < s.size) (h35 : s[k] = 35) (hj : Lib.indexByte (s.data.toList.drop k) 10 < 0) : s.size = N := by
  unfold Bt at *
  rw [bt_remark s k hk h35, rem_none _ hj, List.length_drop, ← Lib.size_eq] at h
  omega
theorem bt_some (s : ByteArray) (k N j : Nat) (h : Bt s k N) (hk : k < s.size) (h35 : s[k] = 35) (hj : Lib.indexByte (s.data.toList.drop k) 10 = j) : k + j < s.size ∧ Bt s (k + j + 1) N := by
  unfold Bt at *
  obtain ⟨h1, h2⟩ := rem_some _ _ hj
  rw [bt_remark s k hk h35, h2, List.drop_drop] at h
  rw [List.length_drop, ← Lib.size_eq] at h1
  refine ⟨by omega, ?_⟩
  rw [show k + j + 1 = k + (j + 1) by omega]
  omega

set_option maxHeartbeats 800000 in
theorem between_any (s : ByteArray) (w : World) (hs : s.size ≤ maxLen) :
    Calls Try.prog 16 #[.string s] w fun e w' => e = .returned (.int .i64 (btw false s.data.toList)) ∧ w = w' := by
  have hm := hs
  unfold maxLen at hs
  go_enter Try.func16, Try.ntmps16
  go_wp2
  go_loop [3] (fun i => ∃ k : Nat, k ≤ s.size ∧ i = .int .i64 k ∧ Bt s k (btw false s.data.toList)) (fun i => s.size - (intOf i).toNat)
  case atStart => exact ⟨0, Nat.zero_le _, rfl, by simp [Bt]⟩
  case round =>
    obtain ⟨k, hk, rfl, hn⟩ := hrel
    have HN := hidE hn
    clear hn
    by_cases hlt : k < s.size
    · by_cases hb : s[k] = 32 ∨ s[k] = 9 ∨ s[k] = 10
      · have H := hidE (bt_blank s k _ HN.out hlt hb)
        clear HN
        rcases hb with hb | hb | hb
        · have b1 : ((s[k].toNat : Int) == 32) = true := u8t _ 32 hb
          clear hb
          go_wp2
          go_round
          case rel => exact ⟨k + 1, by omega, by go_num, H.out⟩
          case measure => simp [intOf]; omega
        · have b1 : ((s[k].toNat : Int) == 32) = false := u8f _ 32 (by rw [hb]; decide)
          have b2 : ((s[k].toNat : Int) == 9) = true := u8t _ 9 hb
          clear hb
          go_wp2
          go_round
          case rel => exact ⟨k + 1, by omega, by go_num, H.out⟩
          case measure => simp [intOf]; omega
        · have b1 : ((s[k].toNat : Int) == 32) = false := u8f _ 32 (by rw [hb]; decide)
          have b2 : ((s[k].toNat : Int) == 9) = false := u8f _ 9 (by rw [hb]; decide)
          have b3 : ((s[k].toNat : Int) == 10) = true := u8t _ 10 hb
          clear hb
          go_wp2
          go_round
          case rel => exact ⟨k + 1, by omega, by go_num, H.out⟩
          case measure => simp [intOf]; omega
      · have b1 : ((s[k].toNat : Int) == 32) = false := u8f _ 32 (fun e => hb (.inl e))
        have b2 : ((s[k].toNat : Int) == 9) = false := u8f _ 9 (fun e => hb (.inr (.inl e)))
        have b3 : ((s[k].toNat : Int) == 10) = false := u8f _ 10 (fun e => hb (.inr (.inr e)))
        by_cases h35 : s[k] = 35
        · have b4 : ((s[k].toNat : Int) == 35) = true := u8t _ 35 h35
          have P := IndexByte_any (s.extract k s.size) 10 w
          rw [drop_data, show (10 : Int).toNat.toUInt8 = 10 from rfl] at P
          obtain ⟨j, hj⟩ : ∃ j, Lib.indexByte (s.data.toList.drop k) 10 = j := ⟨_, rfl⟩
          rw [hj] at P
          by_cases hj0 : j < 0
          · have H := hidE (bt_none s k _ HN.out hlt h35 (by rw [hj]; exact hj0))
            clear hj h35 hb HN
            go_wp2_with (go_at_call 21; refine P.mono ?_; rintro e w' ⟨rfl, rfl⟩)
            go_ret
            exact ⟨ret_i64 (by rw [← H.out]), rfl⟩
          · obtain ⟨m, rfl⟩ : ∃ m : Nat, j = m := ⟨j.toNat, by omega⟩
            obtain ⟨hkm, hbt⟩ := bt_some s k _ m HN.out hlt h35 hj
            have H := hidE hbt
            clear hj h35 hb HN hbt
            go_wp2_with (go_at_call 21; refine P.mono ?_; rintro e w' ⟨rfl, rfl⟩)
            go_round
            case rel => exact ⟨k + m + 1, by omega, by go_num, H.out⟩
            case measure => simp [intOf]; omega
        · have b4 : ((s[k].toNat : Int) == 35) = false := u8f _ 35 h35
          have H := hidE (bt_other s k _ HN.out hlt hb h35)
          clear HN hb h35
          go_wp2
          go_ret
          exact ⟨ret_i64 (by rw [← H.out]), rfl⟩
    · have H := hidE (bt_end s k _ HN.out (by omega))
      have hke : k = s.size := by omega
      clear HN
      have H2 := hidE (hke.symm.trans H.out)
      clear H hke
      go_wp2
      go_ret
      exact ⟨ret_i64 (by rw [← H2.out]), rfl⟩

end Go.Proofs.Ytphffibigmpnkaa
