/-
  The walks over word, number, meta, sign, first of package lex, and over strings.HasPrefix.
-/
import Derived.Test.YtphffibigmpnkaaLexFnsB
namespace Go.Proofs.Ytphffibigmpnkaa
open Go.RowKit Lx

theorem ret_2 {a b c d : Int} (h : a = b) (k : c = d) : Ending.returned (.tuple #[.int .i64 a, .int .i64 c]) = .returned (.tuple #[.int .i64 b, .int .i64 d]) := by rw [h, k]

theorem word_long (l : List UInt8) (n : Nat) (h : Hid (span inW l = n)) (k : 16 < n) : word l = (0, 0) := by
  unfold word; rw [h.out, if_pos k]
theorem word_short (l : List UInt8) (n : Nat) (h : Hid (span inW l = n)) (k : n ≤ 16) : word l = (wordKind (l.take n), n) := by
  unfold word; rw [h.out, if_neg (by omega)]
theorem take_data (s : ByteArray) (n : Nat) : (s.extract 0 n).data.toList = s.data.toList.take n := by
  rw [Lib.extract_data]; simp
theorem take_size (s : ByteArray) (n : Nat) (h : n ≤ s.size) : (s.extract 0 n).size = n := by
  rw [Lib.size_eq, take_data, List.length_take]
  have := Lib.size_eq s
  omega

theorem word_any (s : ByteArray) (w : World) (hs : s.size ≤ maxLen) (h1 : 1 ≤ span inW s.data.toList) :
    Calls Try.prog 23 #[.string s] w fun e w' => e = .returned (.tuple #[.int .i64 (word s.data.toList).1, .int .i64 (word s.data.toList).2]) ∧ w = w' := by
  obtain ⟨n, hn⟩ : ∃ n, span inW s.data.toList = n := ⟨_, rfl⟩
  have hb := span_size inW s
  have HC := span_word s w hs
  rw [hn] at h1 hb HC
  have HN := hidE hn
  clear hn
  unfold maxLen at hs
  by_cases hk : 16 < n
  · have hw := hidE (word_long _ _ HN hk)
    go_enter Try.func23, Try.ntmps23
    go_wp2_with (go_at_call 30; refine HC.mono ?_; rintro e w' ⟨rfl, rfl⟩)
    go_ret2
    exact ⟨ret_2 (by rw [hw.out]; rfl) (by rw [hw.out]; rfl), rfl⟩
  · have hw := hidE (word_short _ _ HN (by omega))
    have hx := take_data s n
    have hz := take_size s n hb
    have HD := wordKind_any (s.extract 0 n) w (by omega)
    rw [hx] at HD
    clear hz hx
    go_enter Try.func23, Try.ntmps23
    go_wp2_with (first | (go_at_call 30; refine HC.mono ?_; rintro e w' ⟨rfl, rfl⟩) | (go_at_call 32; refine HD.mono ?_; rintro e w' ⟨rfl, rfl⟩))
    go_ret2
    exact ⟨ret_2 (by rw [hw.out]) (by rw [hw.out]), rfl⟩

theorem badNum_eq (s : ByteArray) (h0 : 0 < s.size) (n : Nat) (h : Hid (span isDig s.data.toList = n)) : badNum s.data.toList = decide (n = 0 ∨ 6 < n ∨ (1 < n ∧ s[0] = 48)) := by
  unfold badNum
  have := drop_at s 0 h0
  simp only [List.drop_zero] at this
  rw [h.out, show s.data.toList.headD 0 = s[0] by rw [this]; rfl]
theorem number_of_bad (l : List UInt8) (h : badNum l = true) : number l = (0, 0) := by unfold number; rw [if_pos h]
theorem number_of_good (l : List UInt8) (n : Nat) (h : badNum l = false) (k : Hid (span isDig l = n)) : number l = (4, n) := by
  unfold number; rw [if_neg (by simp [h]), k.out]

theorem number_any (s : ByteArray) (w : World) (hs : s.size ≤ maxLen) :
    Calls Try.prog 25 #[.string s] w fun e w' => e = .returned (.tuple #[.int .i64 (number s.data.toList).1, .int .i64 (number s.data.toList).2]) ∧ w = w' := by
  obtain ⟨n, hn⟩ : ∃ n, span isDig s.data.toList = n := ⟨_, rfl⟩
  have hb := span_size isDig s
  have HC := span_digit s w hs
  rw [hn] at hb HC
  have HN := hidE hn
  clear hn
  unfold maxLen at hs
  by_cases hz : n = 0
  · have hw := hidE (number_of_bad s.data.toList (by unfold badNum; rw [HN.out]; simp [hz]))
    have hz' : n < 1 := by omega
    have HZ := hidE hz
    clear hz
    go_enter Try.func25, Try.ntmps25
    go_wp2_with (go_at_call 30; refine HC.mono ?_; rintro e w' ⟨rfl, rfl⟩)
    go_ret2
    exact ⟨ret_2 (by rw [hw.out]; rfl) (by rw [hw.out]; rfl), rfl⟩
  · have h0 : 0 < s.size := by omega
    have he := badNum_eq s h0 n HN
    have hzb : ((n : Int) == 0) = false := by rw [Bool.eq_false_iff]; intro h; simp at h; omega
    by_cases h6 : 6 < n
    · have hw := hidE (number_of_bad s.data.toList (by rw [he]; simp [h6]))
      clear he
      go_enter Try.func25, Try.ntmps25
      go_wp2_with (go_at_call 30; refine HC.mono ?_; rintro e w' ⟨rfl, rfl⟩)
      go_ret2
      exact ⟨ret_2 (by rw [hw.out]; rfl) (by rw [hw.out]; rfl), rfl⟩
    · by_cases h1 : 1 < n
      · have h6b : decide ((6 : Int) < n) = false := by rw [decide_eq_false_iff_not]; omega
        by_cases hd : s[0] = 48
        · have hw := hidE (number_of_bad s.data.toList (by rw [he]; simp [h1, hd]))
          have hd' : ((s[0].toNat : Int) == 48) = true := by rw [hd]; rfl
          clear he hd
          go_enter Try.func25, Try.ntmps25
          go_wp2_with (go_at_call 30; refine HC.mono ?_; rintro e w' ⟨rfl, rfl⟩)
          go_ret2
          exact ⟨ret_2 (by rw [hw.out]; rfl) (by rw [hw.out]; rfl), rfl⟩
        · have hw := hidE (number_of_good s.data.toList n (by rw [he]; simp [h1, hd]; omega) HN)
          have hd' : ((s[0].toNat : Int) == 48) = false := by
            rw [Bool.eq_false_iff]; intro h; apply hd; simp at h; rw [← UInt8.toNat_inj]; simp; omega
          clear he hd
          go_enter Try.func25, Try.ntmps25
          go_wp2_with (go_at_call 30; refine HC.mono ?_; rintro e w' ⟨rfl, rfl⟩)
          go_ret2
          exact ⟨ret_2 (by rw [hw.out]; rfl) (by rw [hw.out]), rfl⟩
      · have h6b : decide ((6 : Int) < n) = false := by rw [decide_eq_false_iff_not]; omega
        have hw := hidE (number_of_good s.data.toList n (by rw [he]; simp; omega) HN)
        clear he
        go_enter Try.func25, Try.ntmps25
        go_wp2_with (go_at_call 30; refine HC.mono ?_; rintro e w' ⟨rfl, rfl⟩)
        go_ret2
        exact ⟨ret_2 (by rw [hw.out]; rfl) (by rw [hw.out]), rfl⟩

end Go.Proofs.Ytphffibigmpnkaa
