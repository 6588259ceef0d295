/-
  The walks over meta, sign, first of package lex, and over strings.HasPrefix.
-/
import Derived.Test.YtphffibigmpnkaaLexFnsC
namespace Go.Proofs.Ytphffibigmpnkaa
open Go.RowKit Lx

theorem drop_data (s : ByteArray) (k : Nat) : (s.extract k s.size).data.toList = s.data.toList.drop k := by
  rw [Lib.extract_data, List.take_of_length_le]
  rw [List.length_drop, ← Lib.size_eq]
  omega
theorem drop_size (s : ByteArray) (k : Nat) : (s.extract k s.size).size = s.size - k := by
  rw [Lib.size_eq, drop_data, List.length_drop, ← Lib.size_eq]

theorem meta_bad (l : List UInt8) (n : Nat) (h : Hid ((number (l.drop 1)).2 = n)) (k : n = 0) : meta_ l = (0, 0) := by
  unfold meta_; rw [h.out, if_pos k]
theorem meta_good (l : List UInt8) (n : Nat) (h : Hid ((number (l.drop 1)).2 = n)) (k : n ≠ 0) : meta_ l = (5, 1 + n) := by
  unfold meta_; rw [h.out, if_neg k]

theorem meta_any (s : ByteArray) (w : World) (hs : s.size ≤ maxLen) (h0 : 0 < s.size) :
    Calls Try.prog 26 #[.string s] w fun e w' => e = .returned (.tuple #[.int .i64 (meta_ s.data.toList).1, .int .i64 (meta_ s.data.toList).2]) ∧ w = w' := by
  have hz := drop_size s 1
  have HC := number_any (s.extract 1 s.size) w (by omega)
  rw [drop_data] at HC
  obtain ⟨n, hn⟩ : ∃ n, (number (s.data.toList.drop 1)).2 = n := ⟨_, rfl⟩
  obtain ⟨m, hm⟩ : ∃ n, (number (s.data.toList.drop 1)).1 = n := ⟨_, rfl⟩
  have hb : n ≤ 6 := by
    rcases number_cases (s.data.toList.drop 1) with e | ⟨e, _, h2⟩
    · rw [← hn, e]; omega
    · rw [← hn, e]; exact h2
  rw [hn, hm] at HC
  have HN := hidE hn
  clear hn hm hz
  unfold maxLen at hs
  by_cases hk : n = 0
  · have hw := hidE (meta_bad _ _ HN hk)
    have hzb : ((n : Int) == 0) = true := by rw [hk]; rfl
    clear hk
    go_enter Try.func26, Try.ntmps26
    go_wp2_with (go_at_call 25; refine HC.mono ?_; rintro e w' ⟨rfl, rfl⟩)
    go_ret2
    exact ⟨ret_2 (by rw [hw.out]; rfl) (by rw [hw.out]; rfl), rfl⟩
  · have hw := hidE (meta_good _ _ HN hk)
    have hzb : ((n : Int) == 0) = false := by rw [Bool.eq_false_iff]; intro h; simp at h; omega
    go_enter Try.func26, Try.ntmps26
    go_wp2_with (go_at_call 25; refine HC.mono ?_; rintro e w' ⟨rfl, rfl⟩)
    go_ret2
    exact ⟨ret_2 (by rw [hw.out]; rfl) (by rw [hw.out]; simp), rfl⟩

theorem stringslite_HasPrefix_any (s p : ByteArray) (w : World) :
    Calls Try.prog 35 #[.string s, .string p] w fun e w' => e = .returned (.bool (pre p.data.toList s.data.toList)) ∧ w = w' := by
  have hr : _ = pre p.data.toList s.data.toList := Lib.hasPrefix_raw s p
  have HR := hidE hr
  clear hr
  by_cases h : p.size ≤ s.size
  · go_enter Try.func35, Try.ntmps35
    go_wp2
    go_ret
    exact ⟨ret_bool (by rw [← HR.out]; simp [h]), rfl⟩
  · go_enter Try.func35, Try.ntmps35
    go_wp2
    go_ret
    exact ⟨ret_bool (by rw [← HR.out]; simp [h]), rfl⟩

theorem HasPrefix_any (s p : ByteArray) (w : World) :
    Calls Try.prog 33 #[.string s, .string p] w fun e w' => e = .returned (.bool (pre p.data.toList s.data.toList)) ∧ w = w' := by
  go_enter Try.func33, Try.ntmps33
  go_wp2_with (go_at_call 35; refine (stringslite_HasPrefix_any _ _ _).mono ?_; rintro e w' ⟨rfl, rfl⟩)
  go_ret
  exact ⟨rfl, rfl⟩

theorem indexByte_mem (l : List UInt8) (c : UInt8) : 0 ≤ Lib.indexByte l c ↔ c ∈ l := by
  induction l with
  | nil => simp [Lib.indexByte]
  | cons b l ih =>
    unfold Lib.indexByte
    have hg := Lib.indexByte_ge l c
    by_cases hb : b = c
    · simp [hb]
    · have hb' : (b == c) = false := by simpa using hb
      rw [hb']
      by_cases h1 : Lib.indexByte l c = -1
      · simp [h1]
        rw [← ih, h1]
        exact ⟨fun h => hb h.symm, by omega⟩
      · have h1' : (Lib.indexByte l c == -1) = false := by simpa using h1
        rw [h1']
        simp only [Bool.false_eq_true, if_false, List.mem_cons]
        rw [← ih]
        constructor
        · intro h; right; omega
        · rintro (h | h)
          · exact absurd h.symm hb
          · omega

theorem sign_two (l : List UInt8) (h : pre [45, 62] l = true ∨ pre [124, 62] l = true) : sign l = (6, 2) := by
  unfold sign; rw [if_pos (by simpa using h)]
theorem sign_one (l : List UInt8) (h1 : pre [45, 62] l = false) (h2 : pre [124, 62] l = false) (h : l.headD 0 ∈ signs) : sign l = (6, 1) := by
  unfold sign; rw [h1, h2, if_neg (by simp), if_pos h]
theorem sign_none (l : List UInt8) (h1 : pre [45, 62] l = false) (h2 : pre [124, 62] l = false) (h : l.headD 0 ∉ signs) : sign l = (0, 0) := by
  unfold sign; rw [h1, h2, if_neg (by simp), if_neg h]
theorem u8_back (c : UInt8) : (c.toNat : Int).toNat.toUInt8 = c := by simp

theorem head_data (s : ByteArray) (h0 : 0 < s.size) : s.data.toList.headD 0 = s[0] := by
  have := drop_at s 0 h0
  simp only [List.drop_zero] at this
  rw [this]; rfl

theorem sign_any (s : ByteArray) (w : World) (h0 : 0 < s.size) :
    Calls Try.prog 27 #[.string s] w fun e w' => e = .returned (.tuple #[.int .i64 (sign s.data.toList).1, .int .i64 (sign s.data.toList).2]) ∧ w = w' := by
  have P1 := HasPrefix_any s ⟨#[45, 62]⟩ w
  have P2 := HasPrefix_any s ⟨#[124, 62]⟩ w
  have P3 := IndexByte_any ⟨#[92, 58, 61, 59, 123, 125, 40, 41, 46, 126, 64, 60, 62, 44, 91, 93, 33]⟩ (s[0].toNat : Int) w
  rw [u8_back] at P3
  have hm := indexByte_mem signs s[0]
  rw [← head_data s h0] at hm
  have e3 : Lib.indexByte (⟨#[92, 58, 61, 59, 123, 125, 40, 41, 46, 126, 64, 60, 62, 44, 91, 93, 33]⟩ : ByteArray).data.toList s[0] = Lib.indexByte signs (s.data.toList.headD 0) := by rw [head_data s h0]; rfl
  rw [e3] at P3
  clear e3
  obtain ⟨b1, hb1⟩ : ∃ b, pre [45, 62] s.data.toList = b := ⟨_, rfl⟩
  obtain ⟨b2, hb2⟩ : ∃ b, pre [124, 62] s.data.toList = b := ⟨_, rfl⟩
  obtain ⟨n, hn⟩ : ∃ n, Lib.indexByte signs (s.data.toList.headD 0) = n := ⟨_, rfl⟩
  have P1 : Calls Try.prog 33 #[.string s, .string ⟨#[45, 62]⟩] w fun e w' => e = .returned (.bool b1) ∧ w = w' := by rw [← hb1]; exact P1
  have P2 : Calls Try.prog 33 #[.string s, .string ⟨#[124, 62]⟩] w fun e w' => e = .returned (.bool b2) ∧ w = w' := by rw [← hb2]; exact P2
  rw [hn] at P3 hm
  by_cases h1 : b1 = true
  · have hw := hidE (sign_two s.data.toList (.inl (hb1.trans h1)))
    subst h1
    clear hb1 hb2 hn hm
    go_enter Try.func27, Try.ntmps27
    go_wp2_with (go_at_call 33; refine P1.mono ?_; rintro e w' ⟨rfl, rfl⟩)
    go_ret2
    exact ⟨ret_2 (by rw [hw.out]; rfl) (by rw [hw.out]; rfl), rfl⟩
  · have h1 : b1 = false := by simpa using h1
    subst h1
    by_cases h2 : b2 = true
    · have hw := hidE (sign_two s.data.toList (.inr (hb2.trans h2)))
      subst h2
      clear hb1 hb2 hn hm
      go_enter Try.func27, Try.ntmps27
      go_wp2_with (first | ((with_reducible go_at_call 33); (with_reducible refine P1.mono ?_); rintro e w' ⟨rfl, rfl⟩) | ((with_reducible go_at_call 33); (with_reducible refine P2.mono ?_); rintro e w' ⟨rfl, rfl⟩))
      go_ret2
      exact ⟨ret_2 (by rw [hw.out]; rfl) (by rw [hw.out]; rfl), rfl⟩
    · have h2 : b2 = false := by simpa using h2
      subst h2
      by_cases h3 : 0 ≤ n
      · have hw := hidE (sign_one s.data.toList hb1 hb2 (hm.1 h3))
        clear hb1 hb2 hn hm
        go_enter Try.func27, Try.ntmps27
        go_wp2_with (first | (go_at_call 33; (with_reducible refine P1.mono ?_); rintro e w' ⟨rfl, rfl⟩) | (go_at_call 33; (with_reducible refine P2.mono ?_); rintro e w' ⟨rfl, rfl⟩) | (go_at_call 21; refine P3.mono ?_; rintro e w' ⟨rfl, rfl⟩))
        go_ret2
        exact ⟨ret_2 (by rw [hw.out]; rfl) (by rw [hw.out]; rfl), rfl⟩
      · have hw := hidE (sign_none s.data.toList hb1 hb2 (fun h => h3 (hm.2 h)))
        clear hb1 hb2 hn hm
        go_enter Try.func27, Try.ntmps27
        go_wp2_with (first | (go_at_call 33; (with_reducible refine P1.mono ?_); rintro e w' ⟨rfl, rfl⟩) | (go_at_call 33; (with_reducible refine P2.mono ?_); rintro e w' ⟨rfl, rfl⟩) | (go_at_call 21; refine P3.mono ?_; rintro e w' ⟨rfl, rfl⟩))
        go_ret2
        exact ⟨ret_2 (by rw [hw.out]; rfl) (by rw [hw.out]; rfl), rfl⟩

end Go.Proofs.Ytphffibigmpnkaa
