/-
  The walk over one of the document's answer for lex: numbers, unknowns and signs.
-/
import Derived.Test.YtphffibigmpnkaaRefOne
namespace Go.Proofs.Ytphffibigmpnkaa
open Go.RowKit Lx

theorem one_num (s : ByteArray) (i : Nat) (hi : i < s.size) (hl : isLet s[i] = false) (hd : isDig s[i] = true) : first (s.data.toList.drop i) = number (s.data.toList.drop i) := by
  rw [first_at s i hi, hl, if_neg (by simp), if_pos hd]
theorem one_meta (s : ByteArray) (i : Nat) (hi : i < s.size) (hl : isLet s[i] = false) (hd : isDig s[i] = false) (hq : s[i] = 63) : first (s.data.toList.drop i) = meta_ (s.data.toList.drop i) := by
  rw [first_at s i hi, hl, hd, if_neg (by simp), if_neg (by simp), if_pos hq]
theorem one_sign (s : ByteArray) (i : Nat) (hi : i < s.size) (hl : isLet s[i] = false) (hd : isDig s[i] = false) (hq : ¬ s[i] = 63) : first (s.data.toList.drop i) = sign (s.data.toList.drop i) := by
  rw [first_at s i hi, hl, hd, if_neg (by simp), if_neg (by simp), if_neg hq]

theorem num_zero (l : List UInt8) (h : (number l).2 = 0) : number l = (0, 0) := by
  rcases number_cases l with e | ⟨e, h1, _⟩
  · exact e
  · rw [e] at h; simp at h; omega
theorem num_pos (l : List UInt8) (n : Nat) (h : (number l).2 = n) (h0 : n ≠ 0) : number l = (4, n) := by
  rcases number_cases l with e | ⟨e, h1, _⟩
  · rw [e] at h; exact absurd h.symm h0
  · rw [e] at h ⊢; exact congrArg (Prod.mk 4) h
theorem num_size (s : ByteArray) (i : Nat) (hi : i ≤ s.size) : i + (number (s.data.toList.drop i)).2 ≤ s.size := by
  have h1 := span_at_size isDig s i hi
  rcases number_cases (s.data.toList.drop i) with e | ⟨e, _, _⟩
  · rw [e]; exact hi
  · rw [e]; exact h1

set_option maxHeartbeats 800000 in
theorem one_digit (s : ByteArray) (i : Nat) (w : World) (hs : s.size ≤ 4000) (hi : i < s.size) (hl : isLet s[i] = false) (hd : isDig s[i] = true) :
    Calls Try.prog 14 #[.string s, .int .i64 i] w fun e w' => e = .returned (.tuple #[.int .i64 ((first (s.data.toList.drop i)).1 : Nat), .int .i64 ((i + (first (s.data.toList.drop i)).2 : Nat) : Int)]) ∧ w = w' := by
  obtain ⟨K, hK⟩ : ∃ K, K = (first (s.data.toList.drop i)).1 := ⟨_, rfl⟩
  obtain ⟨E, hE⟩ : ∃ E, E = i + (first (s.data.toList.drop i)).2 := ⟨_, rfl⟩
  have HK := hidE hK
  have HE := hidE hE
  rw [← hK, ← hE]
  clear hK hE
  have hns := num_size s i (by omega)
  have RN := ref_number s i w hs (by omega)
  obtain ⟨n, hn⟩ : ∃ n, (number (s.data.toList.drop i)).2 = n := ⟨_, rfl⟩
  obtain ⟨k, hk⟩ : ∃ k, i + n = k := ⟨_, rfl⟩
  rw [hn, hk] at RN hns
  have hf := one_num s i hi hl hd
  by_cases h0 : n = 0
  · have H1 := hidE (show K = 0 ∧ E = i by rw [HK.out, HE.out, hf, num_zero _ (hn.trans h0)]; exact ⟨rfl, rfl⟩)
    have dk : ((k : Int) == (i : Int)) = true := by simp; omega
    clear hn hk h0 hf
    go_enter Try.func14, Try.ntmps14
    go_wp2_with (first | (go_at_call 18; refine (ref_letter _ _).mono ?_; rintro e w' ⟨rfl, rfl⟩) | (go_at_call 19; refine (ref_digit _ _).mono ?_; rintro e w' ⟨rfl, rfl⟩) | (go_at_call 20; refine RN.mono ?_; rintro e w' ⟨rfl, rfl⟩))
    go_ret2
    exact ⟨ret_2 (by rw [H1.out.1]; rfl) (by rw [H1.out.2]), rfl⟩
  · have H1 := hidE (show K = 4 ∧ E = k by rw [HK.out, HE.out, hf, num_pos _ n hn h0]; exact ⟨rfl, hk⟩)
    have dk : ((k : Int) == (i : Int)) = false := by rw [Bool.eq_false_iff]; intro h; simp at h; omega
    clear hn hk h0 hf
    go_enter Try.func14, Try.ntmps14
    go_wp2_with (first | (go_at_call 18; refine (ref_letter _ _).mono ?_; rintro e w' ⟨rfl, rfl⟩) | (go_at_call 19; refine (ref_digit _ _).mono ?_; rintro e w' ⟨rfl, rfl⟩) | (go_at_call 20; refine RN.mono ?_; rintro e w' ⟨rfl, rfl⟩))
    go_ret2
    exact ⟨ret_2 (by rw [H1.out.1]; rfl) (by rw [H1.out.2]), rfl⟩

set_option maxHeartbeats 800000 in
theorem one_quest (s : ByteArray) (i : Nat) (w : World) (hs : s.size ≤ 4000) (hi : i < s.size) (hl : isLet s[i] = false) (hd : isDig s[i] = false) (hq : s[i] = 63) :
    Calls Try.prog 14 #[.string s, .int .i64 i] w fun e w' => e = .returned (.tuple #[.int .i64 ((first (s.data.toList.drop i)).1 : Nat), .int .i64 ((i + (first (s.data.toList.drop i)).2 : Nat) : Int)]) ∧ w = w' := by
  obtain ⟨K, hK⟩ : ∃ K, K = (first (s.data.toList.drop i)).1 := ⟨_, rfl⟩
  obtain ⟨E, hE⟩ : ∃ E, E = i + (first (s.data.toList.drop i)).2 := ⟨_, rfl⟩
  have HK := hidE hK
  have HE := hidE hE
  rw [← hK, ← hE]
  clear hK hE
  have hns := num_size s (i + 1) (by omega)
  have RN := ref_number s (i + 1) w hs (by omega)
  obtain ⟨n, hn⟩ : ∃ n, (number (s.data.toList.drop (i + 1))).2 = n := ⟨_, rfl⟩
  obtain ⟨k, hk⟩ : ∃ k, i + 1 + n = k := ⟨_, rfl⟩
  rw [hn, hk] at RN hns
  have RN : Calls Try.prog 20 #[.string s, .int .i64 ((i : Int) + 1)] w fun e w' => e = .returned (.int .i64 (k : Nat)) ∧ w = w' := RN
  have hf := one_meta s i hi hl hd hq
  have q1 : ((s[i].toNat : Int) == 63) = true := u8t _ 63 hq
  have hdd : (s.data.toList.drop i).drop 1 = s.data.toList.drop (i + 1) := by rw [List.drop_drop]
  by_cases h0 : n = 0
  · have H1 := hidE (show K = 0 ∧ E = i by rw [HK.out, HE.out, hf, meta_, hdd, if_pos (hn.trans h0)]; exact ⟨rfl, rfl⟩)
    have dk : ((k : Int) == (i : Int) + 1) = true := by simp; omega
    clear hn hk h0 hf hq hdd
    go_enter Try.func14, Try.ntmps14
    go_wp2_with (first | (go_at_call 18; refine (ref_letter _ _).mono ?_; rintro e w' ⟨rfl, rfl⟩) | (go_at_call 19; refine (ref_digit _ _).mono ?_; rintro e w' ⟨rfl, rfl⟩) | (go_at_call 20; refine RN.mono ?_; rintro e w' ⟨rfl, rfl⟩))
    go_ret2
    exact ⟨ret_2 (by rw [H1.out.1]; rfl) (by rw [H1.out.2]), rfl⟩
  · have H1 := hidE (show K = 5 ∧ E = k by rw [HK.out, HE.out, hf, meta_, hdd, if_neg (by rw [hn]; exact h0), hn]; exact ⟨rfl, by simp; omega⟩)
    have dk : ((k : Int) == (i : Int) + 1) = false := by rw [Bool.eq_false_iff]; intro h; simp at h; omega
    clear hn hk h0 hf hq hdd
    go_enter Try.func14, Try.ntmps14
    go_wp2_with (first | (go_at_call 18; refine (ref_letter _ _).mono ?_; rintro e w' ⟨rfl, rfl⟩) | (go_at_call 19; refine (ref_digit _ _).mono ?_; rintro e w' ⟨rfl, rfl⟩) | (go_at_call 20; refine RN.mono ?_; rintro e w' ⟨rfl, rfl⟩))
    go_ret2
    exact ⟨ret_2 (by rw [H1.out.1]; rfl) (by rw [H1.out.2]), rfl⟩

theorem pre_at (s : ByteArray) (i : Nat) (a : UInt8) (hi : i < s.size) : pre [a, 62] (s.data.toList.drop i) = (a == s[i] && (if h : i + 1 < s.size then (62 : UInt8) == s[i + 1] else false)) := by
  rw [drop_at s i hi]
  by_cases h : i + 1 < s.size
  · rw [dif_pos h, drop_at s (i + 1) h]
    simp [pre, List.isPrefixOf]
  · rw [dif_neg h, List.drop_eq_nil_of_le (by rw [← Lib.size_eq]; omega)]
    simp [pre, List.isPrefixOf]

theorem sign_arrow (s : ByteArray) (i : Nat) (hi : i < s.size) (h1 : i + 1 < s.size) (h62 : s[i + 1] = 62) (h : s[i] = 45 ∨ s[i] = 124) : sign (s.data.toList.drop i) = (6, 2) := by
  refine sign_two _ ?_
  rw [pre_at s i 45 hi, pre_at s i 124 hi, dif_pos h1, h62]
  rcases h with h | h <;> rw [h] <;> decide
theorem no_arrow (s : ByteArray) (i : Nat) (hi : i < s.size) (h : ∀ h1 : i + 1 < s.size, s[i + 1] = 62 → ¬ (s[i] = 45 ∨ s[i] = 124)) : pre [45, 62] (s.data.toList.drop i) = false ∧ pre [124, 62] (s.data.toList.drop i) = false := by
  rw [pre_at s i 45 hi, pre_at s i 124 hi]
  by_cases h1 : i + 1 < s.size
  · rw [dif_pos h1]
    by_cases h62 : s[i + 1] = 62
    · have := h h1 h62
      constructor <;> rw [Bool.and_eq_false_iff] <;> left <;> rw [beq_eq_false_iff_ne] <;> intro e <;> exact this (by simp [← e])
    · have e : ((62 : UInt8) == s[i + 1]) = false := by rw [beq_eq_false_iff_ne]; exact fun e => h62 e.symm
      rw [e]; simp
  · rw [dif_neg h1]; simp

/-- the signs of one byte, as the loop sees them -/
def SG : ByteArray := ⟨#[92, 58, 61, 59, 123, 125, 40, 41, 46, 126, 64, 60, 62, 44, 91, 93, 33]⟩
theorem sg_size : SG.size = 17 := rfl
theorem sg_mem (c : UInt8) : c ∈ signs ↔ ∃ (k : Nat) (h : k < SG.size), SG[k] = c := by
  rw [show signs = SG.data.toList from rfl]
  constructor
  · intro h
    obtain ⟨k, hk, e⟩ := List.getElem_of_mem h
    exact ⟨k, by simpa using hk, by rw [← e]; rfl⟩
  · rintro ⟨k, hk, e⟩
    rw [← e]
    exact List.mem_iff_getElem.2 ⟨k, by simpa using hk, rfl⟩

set_option maxHeartbeats 800000 in
theorem one_arrow (s : ByteArray) (i : Nat) (w : World) (hs : s.size ≤ 4000) (hi : i < s.size) (hl : isLet s[i] = false) (hd : isDig s[i] = false) (hq : ¬ s[i] = 63) (h1 : i + 1 < s.size) (h62 : s[i + 1] = 62) (h : s[i] = 45 ∨ s[i] = 124) :
    Calls Try.prog 14 #[.string s, .int .i64 i] w fun e w' => e = .returned (.tuple #[.int .i64 ((first (s.data.toList.drop i)).1 : Nat), .int .i64 ((i + (first (s.data.toList.drop i)).2 : Nat) : Int)]) ∧ w = w' := by
  obtain ⟨K, hK⟩ : ∃ K, K = (first (s.data.toList.drop i)).1 := ⟨_, rfl⟩
  obtain ⟨E, hE⟩ : ∃ E, E = i + (first (s.data.toList.drop i)).2 := ⟨_, rfl⟩
  have HK := hidE hK
  have HE := hidE hE
  rw [← hK, ← hE]
  clear hK hE
  have hf := one_sign s i hi hl hd hq
  have H1 := hidE (show K = 6 ∧ E = i + 2 by rw [HK.out, HE.out, hf, sign_arrow s i hi h1 h62 h]; exact ⟨rfl, rfl⟩)
  have q1 : ((s[i].toNat : Int) == 63) = false := u8f _ 63 hq
  have q2 : ((s[i + 1].toNat : Int) == 62) = true := u8t _ 62 h62
  clear hf hq h62
  rcases h with h | h
  · have q3 : ((s[i].toNat : Int) == 45) = true := u8t _ 45 h
    clear h
    go_enter Try.func14, Try.ntmps14
    go_wp2_with (first | (go_at_call 18; refine (ref_letter _ _).mono ?_; rintro e w' ⟨rfl, rfl⟩) | (go_at_call 19; refine (ref_digit _ _).mono ?_; rintro e w' ⟨rfl, rfl⟩))
    go_ret2
    exact ⟨ret_2 (by rw [H1.out.1]; rfl) (by rw [H1.out.2]; simp), rfl⟩
  · have q3 : ((s[i].toNat : Int) == 45) = false := u8f _ 45 (by rw [h]; decide)
    have q4 : ((s[i].toNat : Int) == 124) = true := u8t _ 124 h
    clear h
    go_enter Try.func14, Try.ntmps14
    go_wp2_with (first | (go_at_call 18; refine (ref_letter _ _).mono ?_; rintro e w' ⟨rfl, rfl⟩) | (go_at_call 19; refine (ref_digit _ _).mono ?_; rintro e w' ⟨rfl, rfl⟩))
    go_ret2
    exact ⟨ret_2 (by rw [H1.out.1]; rfl) (by rw [H1.out.2]; simp), rfl⟩

set_option maxHeartbeats 1600000 in
theorem one_other (s : ByteArray) (i : Nat) (w : World) (hs : s.size ≤ 4000) (hi : i < s.size) (hl : isLet s[i] = false) (hd : isDig s[i] = false) (hq : ¬ s[i] = 63) (hno : ∀ h1 : i + 1 < s.size, s[i + 1] = 62 → ¬ (s[i] = 45 ∨ s[i] = 124)) :
    Calls Try.prog 14 #[.string s, .int .i64 i] w fun e w' => e = .returned (.tuple #[.int .i64 ((first (s.data.toList.drop i)).1 : Nat), .int .i64 ((i + (first (s.data.toList.drop i)).2 : Nat) : Int)]) ∧ ∃ n, w' = w.drewN n := by
  obtain ⟨K, hK⟩ : ∃ K, K = (first (s.data.toList.drop i)).1 := ⟨_, rfl⟩
  obtain ⟨E, hE⟩ : ∃ E, E = i + (first (s.data.toList.drop i)).2 := ⟨_, rfl⟩
  have HK := hidE hK
  have HE := hidE hE
  rw [← hK, ← hE]
  clear hK hE
  have hf := one_sign s i hi hl hd hq
  have hna := no_arrow s i hi hno
  obtain ⟨G, hG⟩ : ∃ G, (⟨#[92, 58, 61, 59, 123, 125, 40, 41, 46, 126, 64, 60, 62, 44, 91, 93, 33]⟩ : ByteArray) = G := ⟨_, rfl⟩
  have q1 : ((s[i].toNat : Int) == 63) = false := u8f _ 63 hq
  clear hq
  by_cases h1 : i + 1 < s.size
  · by_cases h62 : s[i + 1] = 62
    · have hn2 := hno h1 h62
      have q2 : ((s[i + 1].toNat : Int) == 62) = true := u8t _ 62 h62
      have q3 : ((s[i].toNat : Int) == 45) = false := u8f _ 45 (fun e => hn2 (.inl e))
      have q4 : ((s[i].toNat : Int) == 124) = false := u8f _ 124 (fun e => hn2 (.inr e))
      clear hno hn2 h62
      go_enter Try.func14, Try.ntmps14
      go_wp2_with (first | (go_at_call 18; refine (ref_letter _ _).mono ?_; rintro e w' ⟨rfl, rfl⟩) | (go_at_call 19; refine (ref_digit _ _).mono ?_; rintro e w' ⟨rfl, rfl⟩))
      go_loopg [12] 17 (fun gg v wr => ∃ k m : Nat, gg = 17 - k ∧ v = .int .i64 k ∧ wr = w.drewN m ∧ k ≤ 17 ∧ ∀ j (hj : j < SG.size), j < k → SG[j] ≠ s[i])
      case atStart => exact ⟨0, 0, rfl, rfl, rfl, by omega, fun j _ h => absurd h (by omega)⟩
      case round =>
        obtain ⟨k, m, rfl, rfl, rfl, hk, hn⟩ := hrel
        have HNO := hidE hn
        clear hn
        have hz : G.size ≤ 17 ∧ 17 ≤ G.size := by rw [← hG]; exact ⟨Nat.le_refl _, Nat.le_refl _⟩
        obtain ⟨hz1, hz2⟩ := hz
        by_cases hlt : k < G.size
        · have hlt2 : k < SG.size := by rw [sg_size]; omega
          have hGk : G[k] = SG[k] := by simp only [← hG]; rfl
          by_cases he : SG[k] = s[i]
          · have q9 : ((G[k].toNat : Int) == (s[i].toNat : Int)) = true := u8t _ _ (hGk.trans he)
            have H1 := hidE (show K = 6 ∧ E = i + 1 by rw [HK.out, HE.out, hf, sign_one _ hna.1 hna.2 (by rw [head_drop s i hi]; exact (sg_mem _).2 ⟨k, hlt2, he⟩)]; exact ⟨rfl, rfl⟩)
            clear hf hna hGk he
            go_wp2_with fail
            go_quiet (fail)
            go_wp2_with fail
            go_ret2
            exact ⟨ret_2 (by rw [H1.out.1]; rfl) (by rw [H1.out.2]; simp), _, rfl⟩
          · have q9 : ((G[k].toNat : Int) == (s[i].toNat : Int)) = false := u8f _ _ (fun e => he (hGk.symm.trans e))
            have HS : Hid (∀ j (hj : j < SG.size), j < k + 1 → SG[j] ≠ s[i]) := by
              intro j hj hjk
              by_cases e : j = k
              · subst e; exact he
              · exact HNO.out j hj (by omega)
            clear hf hna hGk he
            go_wp2_with fail
            go_quiet (fail)
            go_wp2_with fail
            go_roundg (17 - (k + 1))
            case measure => omega
            case rel => exact ⟨k + 1, _, rfl, by go_num, rfl, by omega, HS.out⟩
        · have H1 := hidE (show K = 0 ∧ E = i by
            rw [HK.out, HE.out, hf, sign_none _ hna.1 hna.2 (by
              rw [head_drop s i hi]
              intro hm
              obtain ⟨j, hj, e⟩ := (sg_mem _).1 hm
              exact HNO.out j hj (by rw [sg_size] at hj; omega) e)]
            exact ⟨rfl, rfl⟩)
          clear hf hna
          go_wp2_with fail
          go_ret2
          exact ⟨ret_2 (by rw [H1.out.1]; rfl) (by rw [H1.out.2]), _, rfl⟩
    · have q2 : ((s[i + 1].toNat : Int) == 62) = false := u8f _ 62 h62
      clear hno h62
      go_enter Try.func14, Try.ntmps14
      go_wp2_with (first | (go_at_call 18; refine (ref_letter _ _).mono ?_; rintro e w' ⟨rfl, rfl⟩) | (go_at_call 19; refine (ref_digit _ _).mono ?_; rintro e w' ⟨rfl, rfl⟩))
      go_loopg [12] 17 (fun gg v wr => ∃ k m : Nat, gg = 17 - k ∧ v = .int .i64 k ∧ wr = w.drewN m ∧ k ≤ 17 ∧ ∀ j (hj : j < SG.size), j < k → SG[j] ≠ s[i])
      case atStart => exact ⟨0, 0, rfl, rfl, rfl, by omega, fun j _ h => absurd h (by omega)⟩
      case round =>
        obtain ⟨k, m, rfl, rfl, rfl, hk, hn⟩ := hrel
        have HNO := hidE hn
        clear hn
        have hz : G.size ≤ 17 ∧ 17 ≤ G.size := by rw [← hG]; exact ⟨Nat.le_refl _, Nat.le_refl _⟩
        obtain ⟨hz1, hz2⟩ := hz
        by_cases hlt : k < G.size
        · have hlt2 : k < SG.size := by rw [sg_size]; omega
          have hGk : G[k] = SG[k] := by simp only [← hG]; rfl
          by_cases he : SG[k] = s[i]
          · have q9 : ((G[k].toNat : Int) == (s[i].toNat : Int)) = true := u8t _ _ (hGk.trans he)
            have H1 := hidE (show K = 6 ∧ E = i + 1 by rw [HK.out, HE.out, hf, sign_one _ hna.1 hna.2 (by rw [head_drop s i hi]; exact (sg_mem _).2 ⟨k, hlt2, he⟩)]; exact ⟨rfl, rfl⟩)
            clear hf hna hGk he
            go_wp2_with fail
            go_quiet (fail)
            go_wp2_with fail
            go_ret2
            exact ⟨ret_2 (by rw [H1.out.1]; rfl) (by rw [H1.out.2]; simp), _, rfl⟩
          · have q9 : ((G[k].toNat : Int) == (s[i].toNat : Int)) = false := u8f _ _ (fun e => he (hGk.symm.trans e))
            have HS : Hid (∀ j (hj : j < SG.size), j < k + 1 → SG[j] ≠ s[i]) := by
              intro j hj hjk
              by_cases e : j = k
              · subst e; exact he
              · exact HNO.out j hj (by omega)
            clear hf hna hGk he
            go_wp2_with fail
            go_quiet (fail)
            go_wp2_with fail
            go_roundg (17 - (k + 1))
            case measure => omega
            case rel => exact ⟨k + 1, _, rfl, by go_num, rfl, by omega, HS.out⟩
        · have H1 := hidE (show K = 0 ∧ E = i by
            rw [HK.out, HE.out, hf, sign_none _ hna.1 hna.2 (by
              rw [head_drop s i hi]
              intro hm
              obtain ⟨j, hj, e⟩ := (sg_mem _).1 hm
              exact HNO.out j hj (by rw [sg_size] at hj; omega) e)]
            exact ⟨rfl, rfl⟩)
          clear hf hna
          go_wp2_with fail
          go_ret2
          exact ⟨ret_2 (by rw [H1.out.1]; rfl) (by rw [H1.out.2]), _, rfl⟩
  · clear hno
    go_enter Try.func14, Try.ntmps14
    go_wp2_with (first | (go_at_call 18; refine (ref_letter _ _).mono ?_; rintro e w' ⟨rfl, rfl⟩) | (go_at_call 19; refine (ref_digit _ _).mono ?_; rintro e w' ⟨rfl, rfl⟩))
    go_loopg [12] 17 (fun gg v wr => ∃ k m : Nat, gg = 17 - k ∧ v = .int .i64 k ∧ wr = w.drewN m ∧ k ≤ 17 ∧ ∀ j (hj : j < SG.size), j < k → SG[j] ≠ s[i])
    case atStart => exact ⟨0, 0, rfl, rfl, rfl, by omega, fun j _ h => absurd h (by omega)⟩
    case round =>
      obtain ⟨k, m, rfl, rfl, rfl, hk, hn⟩ := hrel
      have HNO := hidE hn
      clear hn
      have hz : G.size ≤ 17 ∧ 17 ≤ G.size := by rw [← hG]; exact ⟨Nat.le_refl _, Nat.le_refl _⟩
      obtain ⟨hz1, hz2⟩ := hz
      by_cases hlt : k < G.size
      · have hlt2 : k < SG.size := by rw [sg_size]; omega
        have hGk : G[k] = SG[k] := by simp only [← hG]; rfl
        by_cases he : SG[k] = s[i]
        · have q9 : ((G[k].toNat : Int) == (s[i].toNat : Int)) = true := u8t _ _ (hGk.trans he)
          have H1 := hidE (show K = 6 ∧ E = i + 1 by rw [HK.out, HE.out, hf, sign_one _ hna.1 hna.2 (by rw [head_drop s i hi]; exact (sg_mem _).2 ⟨k, hlt2, he⟩)]; exact ⟨rfl, rfl⟩)
          clear hf hna hGk he
          go_wp2_with fail
          go_quiet (fail)
          go_wp2_with fail
          go_ret2
          exact ⟨ret_2 (by rw [H1.out.1]; rfl) (by rw [H1.out.2]; simp), _, rfl⟩
        · have q9 : ((G[k].toNat : Int) == (s[i].toNat : Int)) = false := u8f _ _ (fun e => he (hGk.symm.trans e))
          have HS : Hid (∀ j (hj : j < SG.size), j < k + 1 → SG[j] ≠ s[i]) := by
            intro j hj hjk
            by_cases e : j = k
            · subst e; exact he
            · exact HNO.out j hj (by omega)
          clear hf hna hGk he
          go_wp2_with fail
          go_quiet (fail)
          go_wp2_with fail
          go_roundg (17 - (k + 1))
          case measure => omega
          case rel => exact ⟨k + 1, _, rfl, by go_num, rfl, by omega, HS.out⟩
      · have H1 := hidE (show K = 0 ∧ E = i by
          rw [HK.out, HE.out, hf, sign_none _ hna.1 hna.2 (by
            rw [head_drop s i hi]
            intro hm
            obtain ⟨j, hj, e⟩ := (sg_mem _).1 hm
            exact HNO.out j hj (by rw [sg_size] at hj; omega) e)]
          exact ⟨rfl, rfl⟩)
        clear hf hna
        go_wp2_with fail
        go_ret2
        exact ⟨ret_2 (by rw [H1.out.1]; rfl) (by rw [H1.out.2]), _, rfl⟩

set_option maxHeartbeats 400000 in
theorem ref_one (s : ByteArray) (i : Nat) (w : World) (hs : s.size ≤ 4000) (hi : i < s.size) :
    Calls Try.prog 14 #[.string s, .int .i64 i] w fun e w' => e = .returned (.tuple #[.int .i64 ((first (s.data.toList.drop i)).1 : Nat), .int .i64 ((i + (first (s.data.toList.drop i)).2 : Nat) : Int)]) ∧ ∃ n, w' = w.drewN n := by
  by_cases hl : isLet s[i] = true
  · exact (one_letter s i w hs hi hl).mono fun e w' h => ⟨h.1, 0, h.2.symm⟩
  · have hl : isLet s[i] = false := by simpa using hl
    by_cases hd : isDig s[i] = true
    · exact (one_digit s i w hs hi hl hd).mono fun e w' h => ⟨h.1, 0, h.2.symm⟩
    · have hd : isDig s[i] = false := by simpa using hd
      by_cases hq : s[i] = 63
      · exact (one_quest s i w hs hi hl hd hq).mono fun e w' h => ⟨h.1, 0, h.2.symm⟩
      · by_cases h : ∃ h1 : i + 1 < s.size, s[i + 1] = 62 ∧ (s[i] = 45 ∨ s[i] = 124)
        · obtain ⟨h1, h62, ha⟩ := h
          exact (one_arrow s i w hs hi hl hd hq h1 h62 ha).mono fun e w' h => ⟨h.1, 0, h.2.symm⟩
        · exact one_other s i w hs hi hl hd hq (fun h1 h62 ha => h ⟨h1, h62, ha⟩)

end Go.Proofs.Ytphffibigmpnkaa
