/-
  Package types and what it stands on: contracts of the code's functions, part 1.
-/
import Derived.Test.YthgkpmgcikopnaaGreatDoorBuE
import Derived.Test.YthgkpmgcikopnaaGreatDoorBuD
import Derived.Test.YthgkpmgcikopnaaGreatDoorBwB
import Derived.Test.YthgkpmgcikopnaaGreatDoorBuG
import Derived.Test.YthgkpmgcikopnaaGreatDoorBwA
/-
  The walks over letter, digit, number of the document's answer for lex.
-/
namespace Go.Proofs.YthgkpmgcikopnaaGreatDoor
open Go.RowKit Lx
set_option maxRecDepth 100000

theorem ref_letter (c : UInt8) (w : World) : Calls Tryz.prog 110 #[.int .u8 c.toNat] w fun e w' => e = .returned (.bool (isLet c)) ∧ w = w' := by
  rcases (show (c.toNat ≤ 64) ∨ (65 ≤ c.toNat ∧ c.toNat ≤ 90) ∨ (91 ≤ c.toNat ∧ c.toNat ≤ 96) ∨ (97 ≤ c.toNat ∧ c.toNat ≤ 122) ∨ (123 ≤ c.toNat) by omega) with h0 | h1 | h2 | h3 | h4
  · have d97 : decide ((97 : Int) ≤ (c.toNat : Int)) = false := decide_eq_false (by omega)
    have d122 : decide ((c.toNat : Int) ≤ 122) = true := decide_eq_true (by omega)
    have d65 : decide ((65 : Int) ≤ (c.toNat : Int)) = false := decide_eq_false (by omega)
    have d90 : decide ((c.toNat : Int) ≤ 90) = true := decide_eq_true (by omega)
    have hr : isLet c = false := by simp [isLet, isUp]; omega
    go_enter Tryz.func110, Tryz.ntmps110
    go_wp2
    go_ret
    exact ⟨ret_bool hr.symm, rfl⟩
  · have d97 : decide ((97 : Int) ≤ (c.toNat : Int)) = false := decide_eq_false (by omega)
    have d122 : decide ((c.toNat : Int) ≤ 122) = true := decide_eq_true (by omega)
    have d65 : decide ((65 : Int) ≤ (c.toNat : Int)) = true := decide_eq_true (by omega)
    have d90 : decide ((c.toNat : Int) ≤ 90) = true := decide_eq_true (by omega)
    have hr : isLet c = true := by simp [isLet, isUp]; omega
    go_enter Tryz.func110, Tryz.ntmps110
    go_wp2
    go_ret
    exact ⟨ret_bool hr.symm, rfl⟩
  · have d97 : decide ((97 : Int) ≤ (c.toNat : Int)) = false := decide_eq_false (by omega)
    have d122 : decide ((c.toNat : Int) ≤ 122) = true := decide_eq_true (by omega)
    have d65 : decide ((65 : Int) ≤ (c.toNat : Int)) = true := decide_eq_true (by omega)
    have d90 : decide ((c.toNat : Int) ≤ 90) = false := decide_eq_false (by omega)
    have hr : isLet c = false := by simp [isLet, isUp]; omega
    go_enter Tryz.func110, Tryz.ntmps110
    go_wp2
    go_ret
    exact ⟨ret_bool hr.symm, rfl⟩
  · have d97 : decide ((97 : Int) ≤ (c.toNat : Int)) = true := decide_eq_true (by omega)
    have d122 : decide ((c.toNat : Int) ≤ 122) = true := decide_eq_true (by omega)
    have d65 : decide ((65 : Int) ≤ (c.toNat : Int)) = true := decide_eq_true (by omega)
    have d90 : decide ((c.toNat : Int) ≤ 90) = false := decide_eq_false (by omega)
    have hr : isLet c = true := by simp [isLet, isUp]; omega
    go_enter Tryz.func110, Tryz.ntmps110
    go_wp2
    go_ret
    exact ⟨ret_bool hr.symm, rfl⟩
  · have d97 : decide ((97 : Int) ≤ (c.toNat : Int)) = true := decide_eq_true (by omega)
    have d122 : decide ((c.toNat : Int) ≤ 122) = false := decide_eq_false (by omega)
    have d65 : decide ((65 : Int) ≤ (c.toNat : Int)) = true := decide_eq_true (by omega)
    have d90 : decide ((c.toNat : Int) ≤ 90) = false := decide_eq_false (by omega)
    have hr : isLet c = false := by simp [isLet, isUp]; omega
    go_enter Tryz.func110, Tryz.ntmps110
    go_wp2
    go_ret
    exact ⟨ret_bool hr.symm, rfl⟩

theorem ref_digit (c : UInt8) (w : World) : Calls Tryz.prog 111 #[.int .u8 c.toNat] w fun e w' => e = .returned (.bool (isDig c)) ∧ w = w' := by
  rcases (show (c.toNat ≤ 47) ∨ (48 ≤ c.toNat ∧ c.toNat ≤ 57) ∨ (58 ≤ c.toNat) by omega) with h0 | h1 | h2
  · have d48 : decide ((48 : Int) ≤ (c.toNat : Int)) = false := decide_eq_false (by omega)
    have d57 : decide ((c.toNat : Int) ≤ 57) = true := decide_eq_true (by omega)
    have hr : isDig c = false := by simp [isDig]; omega
    go_enter Tryz.func111, Tryz.ntmps111
    go_wp2
    go_ret
    exact ⟨ret_bool hr.symm, rfl⟩
  · have d48 : decide ((48 : Int) ≤ (c.toNat : Int)) = true := decide_eq_true (by omega)
    have d57 : decide ((c.toNat : Int) ≤ 57) = true := decide_eq_true (by omega)
    have hr : isDig c = true := by simp [isDig]; omega
    go_enter Tryz.func111, Tryz.ntmps111
    go_wp2
    go_ret
    exact ⟨ret_bool hr.symm, rfl⟩
  · have d48 : decide ((48 : Int) ≤ (c.toNat : Int)) = true := decide_eq_true (by omega)
    have d57 : decide ((c.toNat : Int) ≤ 57) = false := decide_eq_false (by omega)
    have hr : isDig c = false := by simp [isDig]; omega
    go_enter Tryz.func111, Tryz.ntmps111
    go_wp2
    go_ret
    exact ⟨ret_bool hr.symm, rfl⟩

/-- from i on the digits go up to k: how number ends -/
theorem num_bad (s : ByteArray) (i : Nat) (hb : badNum (s.data.toList.drop i) = true) : i = i + (number (s.data.toList.drop i)).2 := by
  rw [number_of_bad _ hb]; rfl
theorem num_good (s : ByteArray) (i k : Nat) (h : Hid (k = i + span isDig (s.data.toList.drop i))) (hb : badNum (s.data.toList.drop i) = false) : k = i + (number (s.data.toList.drop i)).2 := by
  rw [number_of_good _ _ hb (hidE rfl)]; exact h.out
theorem num_same (s : ByteArray) (i k : Nat) (h : Hid (k = i + span isDig (s.data.toList.drop i))) (hk : k = i) : k = i + (number (s.data.toList.drop i)).2 := by
  have h0 : span isDig (s.data.toList.drop i) = 0 := by have := h.out; omega
  rw [number_of_bad _ (by unfold badNum; rw [h0]; simp)]; exact hk
theorem head_drop (s : ByteArray) (i : Nat) (h : i < s.size) : (s.data.toList.drop i).headD 0 = s[i] := by rw [drop_at s i h]; rfl
theorem badNum_at (s : ByteArray) (i k : Nat) (hi : i < s.size) (h : Hid (k = i + span isDig (s.data.toList.drop i))) : badNum (s.data.toList.drop i) = decide (k - i = 0 ∨ 6 < k - i ∨ (1 < k - i ∧ s[i] = 48)) := by
  unfold badNum
  rw [head_drop s i hi, show span isDig (s.data.toList.drop i) = k - i by have := h.out; omega]

theorem span_at_size (p : UInt8 → Bool) (s : ByteArray) (i : Nat) (hi : i ≤ s.size) : i + span p (s.data.toList.drop i) ≤ s.size := by
  have := span_le p (s.data.toList.drop i)
  rw [List.length_drop, ← Lib.size_eq] at this
  omega

set_option maxHeartbeats 800000 in
theorem ref_number (s : ByteArray) (i : Nat) (w : World) (hs : s.size ≤ 4000) (hi : i ≤ s.size) :
    Calls Tryz.prog 112 #[.string s, .int .i64 i] w fun e w' => e = .returned (.int .i64 ((i + (number (s.data.toList.drop i)).2 : Nat) : Int)) ∧ w = w' := by
  obtain ⟨N, hN⟩ : ∃ N, N = i + span isDig (s.data.toList.drop i) := ⟨_, rfl⟩
  obtain ⟨R, hR⟩ : ∃ R, R = i + (number (s.data.toList.drop i)).2 := ⟨_, rfl⟩
  have hNs : N ≤ s.size := by rw [hN]; exact span_at_size _ _ _ hi
  have HN := hidE hN
  have HR := hidE hR
  rw [← hR]
  clear hN hR
  go_enter Tryz.func112, Tryz.ntmps112
  go_wp2
  go_loopg [5] (s.size - i) (fun gg v wr => ∃ k : Nat, gg = s.size - k ∧ v = .int .i64 k ∧ wr = w ∧ i ≤ k ∧ k ≤ s.size ∧ k + span isDig (s.data.toList.drop k) = N)
  case atStart => exact ⟨i, rfl, rfl, rfl, by omega, hi, HN.out.symm⟩
  case round =>
    obtain ⟨k, rfl, rfl, rfl, hik, hk, hn⟩ := hrel
    by_cases hlt : k < s.size
    · by_cases hp : isDig s[k] = true
      · have HS := hidE (span_step _ s k _ hlt hn hp)
        clear hn
        go_wp2_with (go_at_call 111; refine (ref_digit _ _).mono ?_; rintro e w' ⟨rfl, rfl⟩)
        go_roundg (s.size - (k + 1))
        case measure => omega
        case rel => exact ⟨k + 1, rfl, by go_num, rfl, by omega, by omega, HS.out⟩
      · have hp : isDig s[k] = false := by simpa using hp
        obtain rfl : k = N := span_stop _ s k _ hlt hn hp
        clear hn
        by_cases h6 : 6 < k - i
        · have d6 : decide ((6 : Int) < (k : Int) - (i : Int)) = true := decide_eq_true (by omega)
          have hr := hidE (num_bad s i (by rw [badNum_at s i k (by omega) HN]; simp; omega))
          go_wp2_with (go_at_call 111; refine (ref_digit _ _).mono ?_; rintro e w' ⟨rfl, rfl⟩)
          go_ret
          exact ⟨ret_i64 (by rw [HR.out, ← hr.out]), rfl⟩
        · have d6 : decide ((6 : Int) < (k : Int) - (i : Int)) = false := decide_eq_false (by omega)
          by_cases h1 : 1 < k - i
          · have d1 : decide ((1 : Int) < (k : Int) - (i : Int)) = true := decide_eq_true (by omega)
            have his : i < s.size := by omega
            by_cases hd : s[i] = 48
            · have d48 : ((s[i].toNat : Int) == 48) = true := u8t _ 48 hd
              have hr := hidE (num_bad s i (by rw [badNum_at s i k (by omega) HN]; simp [h1, hd]))
              clear hd
              go_wp2_with (go_at_call 111; refine (ref_digit _ _).mono ?_; rintro e w' ⟨rfl, rfl⟩)
              go_ret
              exact ⟨ret_i64 (by rw [HR.out, ← hr.out]), rfl⟩
            · have d48 : ((s[i].toNat : Int) == 48) = false := u8f _ 48 hd
              have hr := hidE (num_good s i k HN (by rw [badNum_at s i k (by omega) HN]; simp [hd]; omega))
              clear hd
              go_wp2_with (go_at_call 111; refine (ref_digit _ _).mono ?_; rintro e w' ⟨rfl, rfl⟩)
              go_ret
              exact ⟨ret_i64 (by rw [HR.out, ← hr.out]), rfl⟩
          · have d1 : decide ((1 : Int) < (k : Int) - (i : Int)) = false := decide_eq_false (by omega)
            have hr : Hid (k = i + (number (s.data.toList.drop i)).2) := by
              by_cases he : k = i
              · exact hidE (num_same s i k HN he)
              · exact hidE (num_good s i k HN (by rw [badNum_at s i k (by omega) HN]; simp; omega))
            go_wp2_with (go_at_call 111; refine (ref_digit _ _).mono ?_; rintro e w' ⟨rfl, rfl⟩)
            go_ret
            exact ⟨ret_i64 (by rw [HR.out, ← hr.out]), rfl⟩
    · obtain rfl : k = N := span_end _ s k _ (by omega) hn
      clear hn
      by_cases h6 : 6 < k - i
      · have d6 : decide ((6 : Int) < (k : Int) - (i : Int)) = true := decide_eq_true (by omega)
        have hr := hidE (num_bad s i (by rw [badNum_at s i k (by omega) HN]; simp; omega))
        go_wp2_with fail
        go_ret
        exact ⟨ret_i64 (by rw [HR.out, ← hr.out]), rfl⟩
      · have d6 : decide ((6 : Int) < (k : Int) - (i : Int)) = false := decide_eq_false (by omega)
        by_cases h1 : 1 < k - i
        · have d1 : decide ((1 : Int) < (k : Int) - (i : Int)) = true := decide_eq_true (by omega)
          have his : i < s.size := by omega
          by_cases hd : s[i] = 48
          · have d48 : ((s[i].toNat : Int) == 48) = true := u8t _ 48 hd
            have hr := hidE (num_bad s i (by rw [badNum_at s i k (by omega) HN]; simp [h1, hd]))
            clear hd
            go_wp2_with fail
            go_ret
            exact ⟨ret_i64 (by rw [HR.out, ← hr.out]), rfl⟩
          · have d48 : ((s[i].toNat : Int) == 48) = false := u8f _ 48 hd
            have hr := hidE (num_good s i k HN (by rw [badNum_at s i k (by omega) HN]; simp [hd]; omega))
            clear hd
            go_wp2_with fail
            go_ret
            exact ⟨ret_i64 (by rw [HR.out, ← hr.out]), rfl⟩
        · have d1 : decide ((1 : Int) < (k : Int) - (i : Int)) = false := decide_eq_false (by omega)
          have hr : Hid (k = i + (number (s.data.toList.drop i)).2) := by
            by_cases he : k = i
            · exact hidE (num_same s i k HN he)
            · exact hidE (num_good s i k HN (by rw [badNum_at s i k (by omega) HN]; simp; omega))
          go_wp2_with fail
          go_ret
          exact ⟨ret_i64 (by rw [HR.out, ← hr.out]), rfl⟩

end Go.Proofs.YthgkpmgcikopnaaGreatDoor

/-
  The walk over one of the document's answer for lex: the token that begins at a place.
-/
namespace Go.Proofs.YthgkpmgcikopnaaGreatDoor
open Go.RowKit Lx
set_option maxRecDepth 100000

theorem first_at (s : ByteArray) (i : Nat) (hi : i < s.size) : first (s.data.toList.drop i) = if isLet s[i] then word (s.data.toList.drop i) else if isDig s[i] then number (s.data.toList.drop i) else if s[i] = 63 then meta_ (s.data.toList.drop i) else sign (s.data.toList.drop i) := by
  rw [drop_at s i hi]; rfl

/-- the word's contract, in the words of what is to come -/
theorem one_long (s : ByteArray) (i k : Nat) (hi : i < s.size) (hl : isLet s[i] = true) (h : Hid (k = i + span inW (s.data.toList.drop i))) (hk : 16 < k - i) : first (s.data.toList.drop i) = (0, 0) := by
  rw [first_at s i hi, if_pos hl, word, show span inW (s.data.toList.drop i) = k - i by have := h.out; omega, if_pos hk]
theorem one_word (s : ByteArray) (i k : Nat) (hi : i < s.size) (hl : isLet s[i] = true) (h : Hid (k = i + span inW (s.data.toList.drop i))) (hk : ¬ 16 < k - i) : first (s.data.toList.drop i) = (wordKind (s.extract i k).data.toList, k - i) := by
  rw [first_at s i hi, if_pos hl, word, show span inW (s.data.toList.drop i) = k - i by have := h.out; omega, if_neg hk, Lib.extract_data]
theorem ext_head (s : ByteArray) (i k : Nat) (hi : i < s.size) (hik : i < k) : (s.extract i k).data.toList.headD 0 = s[i] := by
  rw [Lib.extract_data, drop_at s i hi, show k - i = (k - i - 1) + 1 by omega, List.take_succ_cons]; rfl
theorem wk_key (l : List UInt8) (W : ByteArray) (hW : W.data.toList = l) (h : W.toList ∈ keys) : wordKind l = 3 := by
  rw [Lib.toList_data, hW] at h
  simp [wordKind, h]
theorem wk_up (l : List UInt8) (W : ByteArray) (hW : W.data.toList = l) (h : W.toList ∉ keys) (hu : isUp (l.headD 0) = true) : wordKind l = 2 := by
  rw [Lib.toList_data, hW] at h
  unfold wordKind
  rw [if_neg h, if_pos hu]
theorem wk_low (l : List UInt8) (W : ByteArray) (hW : W.data.toList = l) (h : W.toList ∉ keys) (hu : isUp (l.headD 0) = false) : wordKind l = 1 := by
  rw [Lib.toList_data, hW] at h
  unfold wordKind
  rw [if_neg h, hu]; rfl

set_option maxHeartbeats 1600000 in
theorem one_letter (s : ByteArray) (i : Nat) (w : World) (hs : s.size ≤ 4000) (hi : i < s.size) (hl : isLet s[i] = true) :
    Calls Tryz.prog 77 #[.string s, .int .i64 i] w fun e w' => e = .returned (.tuple #[.int .i64 ((first (s.data.toList.drop i)).1 : Nat), .int .i64 ((i + (first (s.data.toList.drop i)).2 : Nat) : Int)]) ∧ w = w' := by
  obtain ⟨N, hN⟩ : ∃ N, N = i + span inW (s.data.toList.drop i) := ⟨_, rfl⟩
  obtain ⟨K, hK⟩ : ∃ K, K = (first (s.data.toList.drop i)).1 := ⟨_, rfl⟩
  obtain ⟨E, hE⟩ : ∃ E, E = i + (first (s.data.toList.drop i)).2 := ⟨_, rfl⟩
  have hNs : N ≤ s.size := by rw [hN]; exact span_at_size _ _ _ (by omega)
  have hiN : i < N := by
    have : 1 ≤ span inW (s.data.toList.drop i) := by rw [drop_at s i hi]; exact isLet_span _ _ hl
    omega
  have hlr := let_range s[i] hl
  have HN := hidE hN
  have HK := hidE hK
  have HE := hidE hE
  rw [← hK, ← hE]
  clear hN hK hE
  go_enter Tryz.func77, Tryz.ntmps77
  go_wp2_with (go_at_call 110; refine (ref_letter _ _).mono ?_; rintro e w' ⟨rfl, rfl⟩)
  go_loopg [7] (s.size - i) (fun gg v wr => ∃ k : Nat, gg = s.size - k ∧ v = .int .i64 k ∧ wr = w ∧ i ≤ k ∧ k ≤ s.size ∧ k + span inW (s.data.toList.drop k) = N)
  case atStart => exact ⟨i, rfl, rfl, rfl, by omega, by omega, HN.out.symm⟩
  case round =>
    obtain ⟨k, rfl, rfl, rfl, hik, hk, hn⟩ := hrel
    by_cases hgo : ∃ h : k < s.size, inW s[k] = true
    · obtain ⟨hlt, hp⟩ := hgo
      have HS := hidE (span_step _ s k _ hlt hn hp)
      clear hn
      by_cases hlk : isLet s[k] = true
      · go_wp2_with (first | (go_at_call 110; refine (ref_letter _ _).mono ?_; rintro e w' ⟨rfl, rfl⟩) | (go_at_call 111; refine (ref_digit _ _).mono ?_; rintro e w' ⟨rfl, rfl⟩))
        go_roundg (s.size - (k + 1))
        case measure => omega
        case rel => exact ⟨k + 1, rfl, by go_num, rfl, by omega, by omega, HS.out⟩
      · have hlk : isLet s[k] = false := by simpa using hlk
        by_cases hdk : isDig s[k] = true
        · go_wp2_with (first | (go_at_call 110; refine (ref_letter _ _).mono ?_; rintro e w' ⟨rfl, rfl⟩) | (go_at_call 111; refine (ref_digit _ _).mono ?_; rintro e w' ⟨rfl, rfl⟩))
          go_roundg (s.size - (k + 1))
          case measure => omega
          case rel => exact ⟨k + 1, rfl, by go_num, rfl, by omega, by omega, HS.out⟩
        · have hdk : isDig s[k] = false := by simpa using hdk
          have e95 : s[k] = 95 := by simpa [inW, hlk, hdk] using hp
          have d95 : ((s[k].toNat : Int) == 95) = true := u8t _ 95 e95
          clear e95 hp
          go_wp2_with (first | (go_at_call 110; refine (ref_letter _ _).mono ?_; rintro e w' ⟨rfl, rfl⟩) | (go_at_call 111; refine (ref_digit _ _).mono ?_; rintro e w' ⟨rfl, rfl⟩))
          go_roundg (s.size - (k + 1))
          case measure => omega
          case rel => exact ⟨k + 1, rfl, by go_num, rfl, by omega, by omega, HS.out⟩
    · have hkN : k = N := by
        by_cases hlt : k < s.size
        · exact span_stop _ s k _ hlt hn (by simpa using fun h => hgo ⟨hlt, h⟩)
        · exact span_end _ s k _ (by omega) hn
      obtain rfl := hkN
      clear hn
      have hstop : k < s.size → ∃ h : k < s.size, isLet s[k] = false ∧ isDig s[k] = false ∧ ((s[k].toNat : Int) == 95) = false := fun h => by
        have hp : inW s[k] = false := by simpa using fun e => hgo ⟨h, e⟩
        simp [inW] at hp
        exact ⟨h, hp.1.1, hp.1.2, u8f _ 95 hp.2⟩
      have HST := hidE hstop
      clear hgo hstop
      by_cases h16 : 16 < k - i
      · have d16 : decide ((16 : Int) < (k : Int) - (i : Int)) = true := decide_eq_true (by omega)
        have hf := one_long s i k hi hl HN h16
        have H1 := hidE (show K = 0 ∧ E = i by rw [HK.out, HE.out, hf]; exact ⟨rfl, rfl⟩)
        clear hf
        by_cases hlt : k < s.size
        · obtain ⟨_, f1, f2, f3⟩ := HST.out hlt
          go_wp2_with (first | (go_at_call 110; refine (ref_letter _ _).mono ?_; rintro e w' ⟨rfl, rfl⟩) | (go_at_call 111; refine (ref_digit _ _).mono ?_; rintro e w' ⟨rfl, rfl⟩))
          go_ret2
          exact ⟨ret_2 (by rw [H1.out.1]; rfl) (by rw [H1.out.2]), rfl⟩
        · go_wp2_with (first | (go_at_call 110; refine (ref_letter _ _).mono ?_; rintro e w' ⟨rfl, rfl⟩) | (go_at_call 111; refine (ref_digit _ _).mono ?_; rintro e w' ⟨rfl, rfl⟩))
          go_ret2
          exact ⟨ret_2 (by rw [H1.out.1]; rfl) (by rw [H1.out.2]), rfl⟩
      · have d16 : decide ((16 : Int) < (k : Int) - (i : Int)) = false := decide_eq_false (by omega)
        have hf := one_word s i k hi hl HN h16
        have hhd := ext_head s i k hi hiN
        obtain ⟨W, hW⟩ : ∃ W, s.extract i k = W := ⟨_, rfl⟩
        rw [hW] at hf hhd
        have H1 := hidE (show K = wordKind W.data.toList ∧ E = k by rw [HK.out, HE.out, hf]; exact ⟨rfl, by simp; omega⟩)
        clear hf
        by_cases hm : W.toList ∈ keys
        · have hwk := wk_key _ W rfl hm
          simp only [keys, List.mem_cons, List.not_mem_nil, or_false] at hm
          rcases hm with hm | hm | hm | hm | hm | hm
          · have e0 : (W.toList == [100, 97, 116, 97]) = true := by rw [hm]; rfl
            have H2 := hidE (H1.out.1.trans (hwk))
            clear hm hhd
            by_cases hlt : k < s.size
            · obtain ⟨_, f1, f2, f3⟩ := HST.out hlt
              go_wp2_with (first | (go_at_call 110; refine (ref_letter _ _).mono ?_; rintro e w' ⟨rfl, rfl⟩) | (go_at_call 111; refine (ref_digit _ _).mono ?_; rintro e w' ⟨rfl, rfl⟩))
              go_ret2
              exact ⟨ret_2 (by rw [H2.out]; rfl) (by rw [H1.out.2]), rfl⟩
            · go_wp2_with (first | (go_at_call 110; refine (ref_letter _ _).mono ?_; rintro e w' ⟨rfl, rfl⟩) | (go_at_call 111; refine (ref_digit _ _).mono ?_; rintro e w' ⟨rfl, rfl⟩))
              go_ret2
              exact ⟨ret_2 (by rw [H2.out]; rfl) (by rw [H1.out.2]), rfl⟩
          · have e0 : (W.toList == [100, 97, 116, 97]) = false := by rw [hm]; rfl
            have e1 : (W.toList == [108, 101, 116]) = true := by rw [hm]; rfl
            have H2 := hidE (H1.out.1.trans (hwk))
            clear hm hhd
            by_cases hlt : k < s.size
            · obtain ⟨_, f1, f2, f3⟩ := HST.out hlt
              go_wp2_with (first | (go_at_call 110; refine (ref_letter _ _).mono ?_; rintro e w' ⟨rfl, rfl⟩) | (go_at_call 111; refine (ref_digit _ _).mono ?_; rintro e w' ⟨rfl, rfl⟩))
              go_ret2
              exact ⟨ret_2 (by rw [H2.out]; rfl) (by rw [H1.out.2]), rfl⟩
            · go_wp2_with (first | (go_at_call 110; refine (ref_letter _ _).mono ?_; rintro e w' ⟨rfl, rfl⟩) | (go_at_call 111; refine (ref_digit _ _).mono ?_; rintro e w' ⟨rfl, rfl⟩))
              go_ret2
              exact ⟨ret_2 (by rw [H2.out]; rfl) (by rw [H1.out.2]), rfl⟩
          · have e0 : (W.toList == [100, 97, 116, 97]) = false := by rw [hm]; rfl
            have e1 : (W.toList == [108, 101, 116]) = false := by rw [hm]; rfl
            have e2 : (W.toList == [105, 110]) = true := by rw [hm]; rfl
            have H2 := hidE (H1.out.1.trans (hwk))
            clear hm hhd
            by_cases hlt : k < s.size
            · obtain ⟨_, f1, f2, f3⟩ := HST.out hlt
              go_wp2_with (first | (go_at_call 110; refine (ref_letter _ _).mono ?_; rintro e w' ⟨rfl, rfl⟩) | (go_at_call 111; refine (ref_digit _ _).mono ?_; rintro e w' ⟨rfl, rfl⟩))
              go_ret2
              exact ⟨ret_2 (by rw [H2.out]; rfl) (by rw [H1.out.2]), rfl⟩
            · go_wp2_with (first | (go_at_call 110; refine (ref_letter _ _).mono ?_; rintro e w' ⟨rfl, rfl⟩) | (go_at_call 111; refine (ref_digit _ _).mono ?_; rintro e w' ⟨rfl, rfl⟩))
              go_ret2
              exact ⟨ret_2 (by rw [H2.out]; rfl) (by rw [H1.out.2]), rfl⟩
          · have e0 : (W.toList == [100, 97, 116, 97]) = false := by rw [hm]; rfl
            have e1 : (W.toList == [108, 101, 116]) = false := by rw [hm]; rfl
            have e2 : (W.toList == [105, 110]) = false := by rw [hm]; rfl
            have e3 : (W.toList == [99, 97, 115, 101]) = true := by rw [hm]; rfl
            have H2 := hidE (H1.out.1.trans (hwk))
            clear hm hhd
            by_cases hlt : k < s.size
            · obtain ⟨_, f1, f2, f3⟩ := HST.out hlt
              go_wp2_with (first | (go_at_call 110; refine (ref_letter _ _).mono ?_; rintro e w' ⟨rfl, rfl⟩) | (go_at_call 111; refine (ref_digit _ _).mono ?_; rintro e w' ⟨rfl, rfl⟩))
              go_ret2
              exact ⟨ret_2 (by rw [H2.out]; rfl) (by rw [H1.out.2]), rfl⟩
            · go_wp2_with (first | (go_at_call 110; refine (ref_letter _ _).mono ?_; rintro e w' ⟨rfl, rfl⟩) | (go_at_call 111; refine (ref_digit _ _).mono ?_; rintro e w' ⟨rfl, rfl⟩))
              go_ret2
              exact ⟨ret_2 (by rw [H2.out]; rfl) (by rw [H1.out.2]), rfl⟩
          · have e0 : (W.toList == [100, 97, 116, 97]) = false := by rw [hm]; rfl
            have e1 : (W.toList == [108, 101, 116]) = false := by rw [hm]; rfl
            have e2 : (W.toList == [105, 110]) = false := by rw [hm]; rfl
            have e3 : (W.toList == [99, 97, 115, 101]) = false := by rw [hm]; rfl
            have e4 : (W.toList == [111, 102]) = true := by rw [hm]; rfl
            have H2 := hidE (H1.out.1.trans (hwk))
            clear hm hhd
            by_cases hlt : k < s.size
            · obtain ⟨_, f1, f2, f3⟩ := HST.out hlt
              go_wp2_with (first | (go_at_call 110; refine (ref_letter _ _).mono ?_; rintro e w' ⟨rfl, rfl⟩) | (go_at_call 111; refine (ref_digit _ _).mono ?_; rintro e w' ⟨rfl, rfl⟩))
              go_ret2
              exact ⟨ret_2 (by rw [H2.out]; rfl) (by rw [H1.out.2]), rfl⟩
            · go_wp2_with (first | (go_at_call 110; refine (ref_letter _ _).mono ?_; rintro e w' ⟨rfl, rfl⟩) | (go_at_call 111; refine (ref_digit _ _).mono ?_; rintro e w' ⟨rfl, rfl⟩))
              go_ret2
              exact ⟨ret_2 (by rw [H2.out]; rfl) (by rw [H1.out.2]), rfl⟩
          · have e0 : (W.toList == [100, 97, 116, 97]) = false := by rw [hm]; rfl
            have e1 : (W.toList == [108, 101, 116]) = false := by rw [hm]; rfl
            have e2 : (W.toList == [105, 110]) = false := by rw [hm]; rfl
            have e3 : (W.toList == [99, 97, 115, 101]) = false := by rw [hm]; rfl
            have e4 : (W.toList == [111, 102]) = false := by rw [hm]; rfl
            have e5 : (W.toList == [102, 111, 114, 97, 108, 108]) = true := by rw [hm]; rfl
            have H2 := hidE (H1.out.1.trans (hwk))
            clear hm hhd
            by_cases hlt : k < s.size
            · obtain ⟨_, f1, f2, f3⟩ := HST.out hlt
              go_wp2_with (first | (go_at_call 110; refine (ref_letter _ _).mono ?_; rintro e w' ⟨rfl, rfl⟩) | (go_at_call 111; refine (ref_digit _ _).mono ?_; rintro e w' ⟨rfl, rfl⟩))
              go_ret2
              exact ⟨ret_2 (by rw [H2.out]; rfl) (by rw [H1.out.2]), rfl⟩
            · go_wp2_with (first | (go_at_call 110; refine (ref_letter _ _).mono ?_; rintro e w' ⟨rfl, rfl⟩) | (go_at_call 111; refine (ref_digit _ _).mono ?_; rintro e w' ⟨rfl, rfl⟩))
              go_ret2
              exact ⟨ret_2 (by rw [H2.out]; rfl) (by rw [H1.out.2]), rfl⟩
        · have e0 : (W.toList == [100, 97, 116, 97]) = false := by rw [beq_eq_false_iff_ne]; intro e; exact hm (by rw [e]; decide)
          have e1 : (W.toList == [108, 101, 116]) = false := by rw [beq_eq_false_iff_ne]; intro e; exact hm (by rw [e]; decide)
          have e2 : (W.toList == [105, 110]) = false := by rw [beq_eq_false_iff_ne]; intro e; exact hm (by rw [e]; decide)
          have e3 : (W.toList == [99, 97, 115, 101]) = false := by rw [beq_eq_false_iff_ne]; intro e; exact hm (by rw [e]; decide)
          have e4 : (W.toList == [111, 102]) = false := by rw [beq_eq_false_iff_ne]; intro e; exact hm (by rw [e]; decide)
          have e5 : (W.toList == [102, 111, 114, 97, 108, 108]) = false := by rw [beq_eq_false_iff_ne]; intro e; exact hm (by rw [e]; decide)
          by_cases hup : s[i].toNat ≤ 90
          · have d90 : decide ((s[i].toNat : Int) ≤ 90) = true := decide_eq_true (by omega)
            have hwk := wk_up _ W rfl hm (by rw [hhd]; simp [isUp]; omega)
            have H2 := hidE (H1.out.1.trans (hwk))
            clear hm hhd
            by_cases hlt : k < s.size
            · obtain ⟨_, f1, f2, f3⟩ := HST.out hlt
              go_wp2_with (first | (go_at_call 110; refine (ref_letter _ _).mono ?_; rintro e w' ⟨rfl, rfl⟩) | (go_at_call 111; refine (ref_digit _ _).mono ?_; rintro e w' ⟨rfl, rfl⟩))
              go_ret2
              exact ⟨ret_2 (by rw [H2.out]; rfl) (by rw [H1.out.2]), rfl⟩
            · go_wp2_with (first | (go_at_call 110; refine (ref_letter _ _).mono ?_; rintro e w' ⟨rfl, rfl⟩) | (go_at_call 111; refine (ref_digit _ _).mono ?_; rintro e w' ⟨rfl, rfl⟩))
              go_ret2
              exact ⟨ret_2 (by rw [H2.out]; rfl) (by rw [H1.out.2]), rfl⟩
          · have d90 : decide ((s[i].toNat : Int) ≤ 90) = false := decide_eq_false (by omega)
            have hwk := wk_low _ W rfl hm (by rw [hhd]; simp [isUp]; omega)
            have H2 := hidE (H1.out.1.trans (hwk))
            clear hm hhd
            by_cases hlt : k < s.size
            · obtain ⟨_, f1, f2, f3⟩ := HST.out hlt
              go_wp2_with (first | (go_at_call 110; refine (ref_letter _ _).mono ?_; rintro e w' ⟨rfl, rfl⟩) | (go_at_call 111; refine (ref_digit _ _).mono ?_; rintro e w' ⟨rfl, rfl⟩))
              go_ret2
              exact ⟨ret_2 (by rw [H2.out]; rfl) (by rw [H1.out.2]), rfl⟩
            · go_wp2_with (first | (go_at_call 110; refine (ref_letter _ _).mono ?_; rintro e w' ⟨rfl, rfl⟩) | (go_at_call 111; refine (ref_digit _ _).mono ?_; rintro e w' ⟨rfl, rfl⟩))
              go_ret2
              exact ⟨ret_2 (by rw [H2.out]; rfl) (by rw [H1.out.2]), rfl⟩

end Go.Proofs.YthgkpmgcikopnaaGreatDoor

/-
  The walk over one of the document's answer for lex: numbers, unknowns and signs.
-/
namespace Go.Proofs.YthgkpmgcikopnaaGreatDoor
open Go.RowKit Lx
set_option maxRecDepth 100000

theorem one_num (s : ByteArray) (i : Nat) (hi : i < s.size) (hl : isLet s[i] = false) (hd : isDig s[i] = true) : first (s.data.toList.drop i) = number (s.data.toList.drop i) := by
  rw [first_at s i hi, hl, if_neg (by simp), if_pos hd]
theorem one_meta (s : ByteArray) (i : Nat) (hi : i < s.size) (hl : isLet s[i] = false) (hd : isDig s[i] = false) (hq : s[i] = 63) : first (s.data.toList.drop i) = meta_ (s.data.toList.drop i) := by
  rw [first_at s i hi, hl, hd, if_neg (by simp), if_neg (by simp), if_pos hq]
theorem one_sign (s : ByteArray) (i : Nat) (hi : i < s.size) (hl : isLet s[i] = false) (hd : isDig s[i] = false) (hq : ¬ s[i] = 63) : first (s.data.toList.drop i) = sign (s.data.toList.drop i) := by
  rw [first_at s i hi, hl, hd, if_neg (by simp), if_neg (by simp), if_neg hq]

theorem num_zero (l : List UInt8) (h : (number l).2 = 0) : number l = (0, 0) := by
  rcases number_cases l with e | ⟨e, h1, _⟩
  · exact e
  · rw [e] at h; simp at h; omega
theorem num_pos (l : List UInt8) (n : Nat) (h : (number l).2 = n) (h0 : n ≠ 0) : number l = (4, n) := by
  rcases number_cases l with e | ⟨e, h1, _⟩
  · rw [e] at h; exact absurd h.symm h0
  · rw [e] at h ⊢; exact congrArg (Prod.mk 4) h
theorem num_size (s : ByteArray) (i : Nat) (hi : i ≤ s.size) : i + (number (s.data.toList.drop i)).2 ≤ s.size := by
  have h1 := span_at_size isDig s i hi
  rcases number_cases (s.data.toList.drop i) with e | ⟨e, _, _⟩
  · rw [e]; exact hi
  · rw [e]; exact h1

set_option maxHeartbeats 800000 in
theorem one_digit (s : ByteArray) (i : Nat) (w : World) (hs : s.size ≤ 4000) (hi : i < s.size) (hl : isLet s[i] = false) (hd : isDig s[i] = true) :
    Calls Tryz.prog 77 #[.string s, .int .i64 i] w fun e w' => e = .returned (.tuple #[.int .i64 ((first (s.data.toList.drop i)).1 : Nat), .int .i64 ((i + (first (s.data.toList.drop i)).2 : Nat) : Int)]) ∧ w = w' := by
  obtain ⟨K, hK⟩ : ∃ K, K = (first (s.data.toList.drop i)).1 := ⟨_, rfl⟩
  obtain ⟨E, hE⟩ : ∃ E, E = i + (first (s.data.toList.drop i)).2 := ⟨_, rfl⟩
  have HK := hidE hK
  have HE := hidE hE
  rw [← hK, ← hE]
  clear hK hE
  have hns := num_size s i (by omega)
  have RN := ref_number s i w hs (by omega)
  obtain ⟨n, hn⟩ : ∃ n, (number (s.data.toList.drop i)).2 = n := ⟨_, rfl⟩
  obtain ⟨k, hk⟩ : ∃ k, i + n = k := ⟨_, rfl⟩
  rw [hn, hk] at RN hns
  have hf := one_num s i hi hl hd
  by_cases h0 : n = 0
  · have H1 := hidE (show K = 0 ∧ E = i by rw [HK.out, HE.out, hf, num_zero _ (hn.trans h0)]; exact ⟨rfl, rfl⟩)
    have dk : ((k : Int) == (i : Int)) = true := by simp; omega
    clear hn hk h0 hf
    go_enter Tryz.func77, Tryz.ntmps77
    go_wp2_with (first | (go_at_call 110; refine (ref_letter _ _).mono ?_; rintro e w' ⟨rfl, rfl⟩) | (go_at_call 111; refine (ref_digit _ _).mono ?_; rintro e w' ⟨rfl, rfl⟩) | (go_at_call 112; refine RN.mono ?_; rintro e w' ⟨rfl, rfl⟩))
    go_ret2
    exact ⟨ret_2 (by rw [H1.out.1]; rfl) (by rw [H1.out.2]), rfl⟩
  · have H1 := hidE (show K = 4 ∧ E = k by rw [HK.out, HE.out, hf, num_pos _ n hn h0]; exact ⟨rfl, hk⟩)
    have dk : ((k : Int) == (i : Int)) = false := by rw [Bool.eq_false_iff]; intro h; simp at h; omega
    clear hn hk h0 hf
    go_enter Tryz.func77, Tryz.ntmps77
    go_wp2_with (first | (go_at_call 110; refine (ref_letter _ _).mono ?_; rintro e w' ⟨rfl, rfl⟩) | (go_at_call 111; refine (ref_digit _ _).mono ?_; rintro e w' ⟨rfl, rfl⟩) | (go_at_call 112; refine RN.mono ?_; rintro e w' ⟨rfl, rfl⟩))
    go_ret2
    exact ⟨ret_2 (by rw [H1.out.1]; rfl) (by rw [H1.out.2]), rfl⟩

set_option maxHeartbeats 800000 in
theorem one_quest (s : ByteArray) (i : Nat) (w : World) (hs : s.size ≤ 4000) (hi : i < s.size) (hl : isLet s[i] = false) (hd : isDig s[i] = false) (hq : s[i] = 63) :
    Calls Tryz.prog 77 #[.string s, .int .i64 i] w fun e w' => e = .returned (.tuple #[.int .i64 ((first (s.data.toList.drop i)).1 : Nat), .int .i64 ((i + (first (s.data.toList.drop i)).2 : Nat) : Int)]) ∧ w = w' := by
  obtain ⟨K, hK⟩ : ∃ K, K = (first (s.data.toList.drop i)).1 := ⟨_, rfl⟩
  obtain ⟨E, hE⟩ : ∃ E, E = i + (first (s.data.toList.drop i)).2 := ⟨_, rfl⟩
  have HK := hidE hK
  have HE := hidE hE
  rw [← hK, ← hE]
  clear hK hE
  have hns := num_size s (i + 1) (by omega)
  have RN := ref_number s (i + 1) w hs (by omega)
  obtain ⟨n, hn⟩ : ∃ n, (number (s.data.toList.drop (i + 1))).2 = n := ⟨_, rfl⟩
  obtain ⟨k, hk⟩ : ∃ k, i + 1 + n = k := ⟨_, rfl⟩
  rw [hn, hk] at RN hns
  have RN : Calls Tryz.prog 112 #[.string s, .int .i64 ((i : Int) + 1)] w fun e w' => e = .returned (.int .i64 (k : Nat)) ∧ w = w' := RN
  have hf := one_meta s i hi hl hd hq
  have q1 : ((s[i].toNat : Int) == 63) = true := u8t _ 63 hq
  have hdd : (s.data.toList.drop i).drop 1 = s.data.toList.drop (i + 1) := by rw [List.drop_drop]
  by_cases h0 : n = 0
  · have H1 := hidE (show K = 0 ∧ E = i by rw [HK.out, HE.out, hf, meta_, hdd, if_pos (hn.trans h0)]; exact ⟨rfl, rfl⟩)
    have dk : ((k : Int) == (i : Int) + 1) = true := by simp; omega
    clear hn hk h0 hf hq hdd
    go_enter Tryz.func77, Tryz.ntmps77
    go_wp2_with (first | (go_at_call 110; refine (ref_letter _ _).mono ?_; rintro e w' ⟨rfl, rfl⟩) | (go_at_call 111; refine (ref_digit _ _).mono ?_; rintro e w' ⟨rfl, rfl⟩) | (go_at_call 112; refine RN.mono ?_; rintro e w' ⟨rfl, rfl⟩))
    go_ret2
    exact ⟨ret_2 (by rw [H1.out.1]; rfl) (by rw [H1.out.2]), rfl⟩
  · have H1 := hidE (show K = 5 ∧ E = k by rw [HK.out, HE.out, hf, meta_, hdd, if_neg (by rw [hn]; exact h0), hn]; exact ⟨rfl, by simp; omega⟩)
    have dk : ((k : Int) == (i : Int) + 1) = false := by rw [Bool.eq_false_iff]; intro h; simp at h; omega
    clear hn hk h0 hf hq hdd
    go_enter Tryz.func77, Tryz.ntmps77
    go_wp2_with (first | (go_at_call 110; refine (ref_letter _ _).mono ?_; rintro e w' ⟨rfl, rfl⟩) | (go_at_call 111; refine (ref_digit _ _).mono ?_; rintro e w' ⟨rfl, rfl⟩) | (go_at_call 112; refine RN.mono ?_; rintro e w' ⟨rfl, rfl⟩))
    go_ret2
    exact ⟨ret_2 (by rw [H1.out.1]; rfl) (by rw [H1.out.2]), rfl⟩

theorem pre_at (s : ByteArray) (i : Nat) (a : UInt8) (hi : i < s.size) : pre [a, 62] (s.data.toList.drop i) = (a == s[i] && (if h : i + 1 < s.size then (62 : UInt8) == s[i + 1] else false)) := by
  rw [drop_at s i hi]
  by_cases h : i + 1 < s.size
  · rw [dif_pos h, drop_at s (i + 1) h]
    simp [pre, List.isPrefixOf]
  · rw [dif_neg h, List.drop_eq_nil_of_le (by rw [← Lib.size_eq]; omega)]
    simp [pre, List.isPrefixOf]

theorem sign_arrow (s : ByteArray) (i : Nat) (hi : i < s.size) (h1 : i + 1 < s.size) (h62 : s[i + 1] = 62) (h : s[i] = 45 ∨ s[i] = 124) : sign (s.data.toList.drop i) = (6, 2) := by
  refine sign_two _ ?_
  rw [pre_at s i 45 hi, pre_at s i 124 hi, dif_pos h1, h62]
  rcases h with h | h <;> rw [h] <;> decide
theorem no_arrow (s : ByteArray) (i : Nat) (hi : i < s.size) (h : ∀ h1 : i + 1 < s.size, s[i + 1] = 62 → ¬ (s[i] = 45 ∨ s[i] = 124)) : pre [45, 62] (s.data.toList.drop i) = false ∧ pre [124, 62] (s.data.toList.drop i) = false := by
  rw [pre_at s i 45 hi, pre_at s i 124 hi]
  by_cases h1 : i + 1 < s.size
  · rw [dif_pos h1]
    by_cases h62 : s[i + 1] = 62
    · have := h h1 h62
      constructor <;> rw [Bool.and_eq_false_iff] <;> left <;> rw [beq_eq_false_iff_ne] <;> intro e <;> exact this (by simp [← e])
    · have e : ((62 : UInt8) == s[i + 1]) = false := by rw [beq_eq_false_iff_ne]; exact fun e => h62 e.symm
      rw [e]; simp
  · rw [dif_neg h1]; simp

/-- the signs of one byte, as the loop sees them -/
def SG : ByteArray := ⟨#[92, 58, 61, 59, 123, 125, 40, 41, 46, 126, 64, 60, 62, 44, 91, 93, 33]⟩
theorem sg_size : SG.size = 17 := rfl
theorem sg_mem (c : UInt8) : c ∈ signs ↔ ∃ (k : Nat) (h : k < SG.size), SG[k] = c := by
  rw [show signs = SG.data.toList from rfl]
  constructor
  · intro h
    obtain ⟨k, hk, e⟩ := List.getElem_of_mem h
    exact ⟨k, by simpa using hk, by rw [← e]; rfl⟩
  · rintro ⟨k, hk, e⟩
    rw [← e]
    exact List.mem_iff_getElem.2 ⟨k, by simpa using hk, rfl⟩

set_option maxHeartbeats 800000 in
theorem one_arrow (s : ByteArray) (i : Nat) (w : World) (hs : s.size ≤ 4000) (hi : i < s.size) (hl : isLet s[i] = false) (hd : isDig s[i] = false) (hq : ¬ s[i] = 63) (h1 : i + 1 < s.size) (h62 : s[i + 1] = 62) (h : s[i] = 45 ∨ s[i] = 124) :
    Calls Tryz.prog 77 #[.string s, .int .i64 i] w fun e w' => e = .returned (.tuple #[.int .i64 ((first (s.data.toList.drop i)).1 : Nat), .int .i64 ((i + (first (s.data.toList.drop i)).2 : Nat) : Int)]) ∧ w = w' := by
  obtain ⟨K, hK⟩ : ∃ K, K = (first (s.data.toList.drop i)).1 := ⟨_, rfl⟩
  obtain ⟨E, hE⟩ : ∃ E, E = i + (first (s.data.toList.drop i)).2 := ⟨_, rfl⟩
  have HK := hidE hK
  have HE := hidE hE
  rw [← hK, ← hE]
  clear hK hE
  have hf := one_sign s i hi hl hd hq
  have H1 := hidE (show K = 6 ∧ E = i + 2 by rw [HK.out, HE.out, hf, sign_arrow s i hi h1 h62 h]; exact ⟨rfl, rfl⟩)
  have q1 : ((s[i].toNat : Int) == 63) = false := u8f _ 63 hq
  have q2 : ((s[i + 1].toNat : Int) == 62) = true := u8t _ 62 h62
  clear hf hq h62
  rcases h with h | h
  · have q3 : ((s[i].toNat : Int) == 45) = true := u8t _ 45 h
    clear h
    go_enter Tryz.func77, Tryz.ntmps77
    go_wp2_with (first | (go_at_call 110; refine (ref_letter _ _).mono ?_; rintro e w' ⟨rfl, rfl⟩) | (go_at_call 111; refine (ref_digit _ _).mono ?_; rintro e w' ⟨rfl, rfl⟩))
    go_ret2
    exact ⟨ret_2 (by rw [H1.out.1]; rfl) (by rw [H1.out.2]; simp), rfl⟩
  · have q3 : ((s[i].toNat : Int) == 45) = false := u8f _ 45 (by rw [h]; decide)
    have q4 : ((s[i].toNat : Int) == 124) = true := u8t _ 124 h
    clear h
    go_enter Tryz.func77, Tryz.ntmps77
    go_wp2_with (first | (go_at_call 110; refine (ref_letter _ _).mono ?_; rintro e w' ⟨rfl, rfl⟩) | (go_at_call 111; refine (ref_digit _ _).mono ?_; rintro e w' ⟨rfl, rfl⟩))
    go_ret2
    exact ⟨ret_2 (by rw [H1.out.1]; rfl) (by rw [H1.out.2]; simp), rfl⟩

set_option maxHeartbeats 1600000 in
theorem one_other (s : ByteArray) (i : Nat) (w : World) (hs : s.size ≤ 4000) (hi : i < s.size) (hl : isLet s[i] = false) (hd : isDig s[i] = false) (hq : ¬ s[i] = 63) (hno : ∀ h1 : i + 1 < s.size, s[i + 1] = 62 → ¬ (s[i] = 45 ∨ s[i] = 124)) :
    Calls Tryz.prog 77 #[.string s, .int .i64 i] w fun e w' => e = .returned (.tuple #[.int .i64 ((first (s.data.toList.drop i)).1 : Nat), .int .i64 ((i + (first (s.data.toList.drop i)).2 : Nat) : Int)]) ∧ ∃ n, w' = w.drewN n := by
  obtain ⟨K, hK⟩ : ∃ K, K = (first (s.data.toList.drop i)).1 := ⟨_, rfl⟩
  obtain ⟨E, hE⟩ : ∃ E, E = i + (first (s.data.toList.drop i)).2 := ⟨_, rfl⟩
  have HK := hidE hK
  have HE := hidE hE
  rw [← hK, ← hE]
  clear hK hE
  have hf := one_sign s i hi hl hd hq
  have hna := no_arrow s i hi hno
  obtain ⟨G, hG⟩ : ∃ G, (⟨#[92, 58, 61, 59, 123, 125, 40, 41, 46, 126, 64, 60, 62, 44, 91, 93, 33]⟩ : ByteArray) = G := ⟨_, rfl⟩
  have q1 : ((s[i].toNat : Int) == 63) = false := u8f _ 63 hq
  clear hq
  by_cases h1 : i + 1 < s.size
  · by_cases h62 : s[i + 1] = 62
    · have hn2 := hno h1 h62
      have q2 : ((s[i + 1].toNat : Int) == 62) = true := u8t _ 62 h62
      have q3 : ((s[i].toNat : Int) == 45) = false := u8f _ 45 (fun e => hn2 (.inl e))
      have q4 : ((s[i].toNat : Int) == 124) = false := u8f _ 124 (fun e => hn2 (.inr e))
      clear hno hn2 h62
      go_enter Tryz.func77, Tryz.ntmps77
      go_wp2_with (first | (go_at_call 110; refine (ref_letter _ _).mono ?_; rintro e w' ⟨rfl, rfl⟩) | (go_at_call 111; refine (ref_digit _ _).mono ?_; rintro e w' ⟨rfl, rfl⟩))
      go_loopg [12] 17 (fun gg v wr => ∃ k m : Nat, gg = 17 - k ∧ v = .int .i64 k ∧ wr = w.drewN m ∧ k ≤ 17 ∧ ∀ j (hj : j < SG.size), j < k → SG[j] ≠ s[i])
      case atStart => exact ⟨0, 0, rfl, rfl, rfl, by omega, fun j _ h => absurd h (by omega)⟩
      case round =>
        obtain ⟨k, m, rfl, rfl, rfl, hk, hn⟩ := hrel
        have HNO := hidE hn
        clear hn
        have hz : G.size ≤ 17 ∧ 17 ≤ G.size := by rw [← hG]; exact ⟨Nat.le_refl _, Nat.le_refl _⟩
        obtain ⟨hz1, hz2⟩ := hz
        by_cases hlt : k < G.size
        · have hlt2 : k < SG.size := by rw [sg_size]; omega
          have hGk : G[k] = SG[k] := by simp only [← hG]; rfl
          by_cases he : SG[k] = s[i]
          · have q9 : ((G[k].toNat : Int) == (s[i].toNat : Int)) = true := u8t _ _ (hGk.trans he)
            have H1 := hidE (show K = 6 ∧ E = i + 1 by rw [HK.out, HE.out, hf, sign_one _ hna.1 hna.2 (by rw [head_drop s i hi]; exact (sg_mem _).2 ⟨k, hlt2, he⟩)]; exact ⟨rfl, rfl⟩)
            clear hf hna hGk he
            go_wp2_with fail
            go_quiet (fail)
            go_wp2_with fail
            go_ret2
            exact ⟨ret_2 (by rw [H1.out.1]; rfl) (by rw [H1.out.2]; simp), _, rfl⟩
          · have q9 : ((G[k].toNat : Int) == (s[i].toNat : Int)) = false := u8f _ _ (fun e => he (hGk.symm.trans e))
            have HS : Hid (∀ j (hj : j < SG.size), j < k + 1 → SG[j] ≠ s[i]) := by
              intro j hj hjk
              by_cases e : j = k
              · subst e; exact he
              · exact HNO.out j hj (by omega)
            clear hf hna hGk he
            go_wp2_with fail
            go_quiet (fail)
            go_wp2_with fail
            go_roundg (17 - (k + 1))
            case measure => omega
            case rel => exact ⟨k + 1, _, rfl, by go_num, rfl, by omega, HS.out⟩
        · have H1 := hidE (show K = 0 ∧ E = i by
            rw [HK.out, HE.out, hf, sign_none _ hna.1 hna.2 (by
              rw [head_drop s i hi]
              intro hm
              obtain ⟨j, hj, e⟩ := (sg_mem _).1 hm
              exact HNO.out j hj (by rw [sg_size] at hj; omega) e)]
            exact ⟨rfl, rfl⟩)
          clear hf hna
          go_wp2_with fail
          go_ret2
          exact ⟨ret_2 (by rw [H1.out.1]; rfl) (by rw [H1.out.2]), _, rfl⟩
    · have q2 : ((s[i + 1].toNat : Int) == 62) = false := u8f _ 62 h62
      clear hno h62
      go_enter Tryz.func77, Tryz.ntmps77
      go_wp2_with (first | (go_at_call 110; refine (ref_letter _ _).mono ?_; rintro e w' ⟨rfl, rfl⟩) | (go_at_call 111; refine (ref_digit _ _).mono ?_; rintro e w' ⟨rfl, rfl⟩))
      go_loopg [12] 17 (fun gg v wr => ∃ k m : Nat, gg = 17 - k ∧ v = .int .i64 k ∧ wr = w.drewN m ∧ k ≤ 17 ∧ ∀ j (hj : j < SG.size), j < k → SG[j] ≠ s[i])
      case atStart => exact ⟨0, 0, rfl, rfl, rfl, by omega, fun j _ h => absurd h (by omega)⟩
      case round =>
        obtain ⟨k, m, rfl, rfl, rfl, hk, hn⟩ := hrel
        have HNO := hidE hn
        clear hn
        have hz : G.size ≤ 17 ∧ 17 ≤ G.size := by rw [← hG]; exact ⟨Nat.le_refl _, Nat.le_refl _⟩
        obtain ⟨hz1, hz2⟩ := hz
        by_cases hlt : k < G.size
        · have hlt2 : k < SG.size := by rw [sg_size]; omega
          have hGk : G[k] = SG[k] := by simp only [← hG]; rfl
          by_cases he : SG[k] = s[i]
          · have q9 : ((G[k].toNat : Int) == (s[i].toNat : Int)) = true := u8t _ _ (hGk.trans he)
            have H1 := hidE (show K = 6 ∧ E = i + 1 by rw [HK.out, HE.out, hf, sign_one _ hna.1 hna.2 (by rw [head_drop s i hi]; exact (sg_mem _).2 ⟨k, hlt2, he⟩)]; exact ⟨rfl, rfl⟩)
            clear hf hna hGk he
            go_wp2_with fail
            go_quiet (fail)
            go_wp2_with fail
            go_ret2
            exact ⟨ret_2 (by rw [H1.out.1]; rfl) (by rw [H1.out.2]; simp), _, rfl⟩
          · have q9 : ((G[k].toNat : Int) == (s[i].toNat : Int)) = false := u8f _ _ (fun e => he (hGk.symm.trans e))
            have HS : Hid (∀ j (hj : j < SG.size), j < k + 1 → SG[j] ≠ s[i]) := by
              intro j hj hjk
              by_cases e : j = k
              · subst e; exact he
              · exact HNO.out j hj (by omega)
            clear hf hna hGk he
            go_wp2_with fail
            go_quiet (fail)
            go_wp2_with fail
            go_roundg (17 - (k + 1))
            case measure => omega
            case rel => exact ⟨k + 1, _, rfl, by go_num, rfl, by omega, HS.out⟩
        · have H1 := hidE (show K = 0 ∧ E = i by
            rw [HK.out, HE.out, hf, sign_none _ hna.1 hna.2 (by
              rw [head_drop s i hi]
              intro hm
              obtain ⟨j, hj, e⟩ := (sg_mem _).1 hm
              exact HNO.out j hj (by rw [sg_size] at hj; omega) e)]
            exact ⟨rfl, rfl⟩)
          clear hf hna
          go_wp2_with fail
          go_ret2
          exact ⟨ret_2 (by rw [H1.out.1]; rfl) (by rw [H1.out.2]), _, rfl⟩
  · clear hno
    go_enter Tryz.func77, Tryz.ntmps77
    go_wp2_with (first | (go_at_call 110; refine (ref_letter _ _).mono ?_; rintro e w' ⟨rfl, rfl⟩) | (go_at_call 111; refine (ref_digit _ _).mono ?_; rintro e w' ⟨rfl, rfl⟩))
    go_loopg [12] 17 (fun gg v wr => ∃ k m : Nat, gg = 17 - k ∧ v = .int .i64 k ∧ wr = w.drewN m ∧ k ≤ 17 ∧ ∀ j (hj : j < SG.size), j < k → SG[j] ≠ s[i])
    case atStart => exact ⟨0, 0, rfl, rfl, rfl, by omega, fun j _ h => absurd h (by omega)⟩
    case round =>
      obtain ⟨k, m, rfl, rfl, rfl, hk, hn⟩ := hrel
      have HNO := hidE hn
      clear hn
      have hz : G.size ≤ 17 ∧ 17 ≤ G.size := by rw [← hG]; exact ⟨Nat.le_refl _, Nat.le_refl _⟩
      obtain ⟨hz1, hz2⟩ := hz
      by_cases hlt : k < G.size
      · have hlt2 : k < SG.size := by rw [sg_size]; omega
        have hGk : G[k] = SG[k] := by simp only [← hG]; rfl
        by_cases he : SG[k] = s[i]
        · have q9 : ((G[k].toNat : Int) == (s[i].toNat : Int)) = true := u8t _ _ (hGk.trans he)
          have H1 := hidE (show K = 6 ∧ E = i + 1 by rw [HK.out, HE.out, hf, sign_one _ hna.1 hna.2 (by rw [head_drop s i hi]; exact (sg_mem _).2 ⟨k, hlt2, he⟩)]; exact ⟨rfl, rfl⟩)
          clear hf hna hGk he
          go_wp2_with fail
          go_quiet (fail)
          go_wp2_with fail
          go_ret2
          exact ⟨ret_2 (by rw [H1.out.1]; rfl) (by rw [H1.out.2]; simp), _, rfl⟩
        · have q9 : ((G[k].toNat : Int) == (s[i].toNat : Int)) = false := u8f _ _ (fun e => he (hGk.symm.trans e))
          have HS : Hid (∀ j (hj : j < SG.size), j < k + 1 → SG[j] ≠ s[i]) := by
            intro j hj hjk
            by_cases e : j = k
            · subst e; exact he
            · exact HNO.out j hj (by omega)
          clear hf hna hGk he
          go_wp2_with fail
          go_quiet (fail)
          go_wp2_with fail
          go_roundg (17 - (k + 1))
          case measure => omega
          case rel => exact ⟨k + 1, _, rfl, by go_num, rfl, by omega, HS.out⟩
      · have H1 := hidE (show K = 0 ∧ E = i by
          rw [HK.out, HE.out, hf, sign_none _ hna.1 hna.2 (by
            rw [head_drop s i hi]
            intro hm
            obtain ⟨j, hj, e⟩ := (sg_mem _).1 hm
            exact HNO.out j hj (by rw [sg_size] at hj; omega) e)]
          exact ⟨rfl, rfl⟩)
        clear hf hna
        go_wp2_with fail
        go_ret2
        exact ⟨ret_2 (by rw [H1.out.1]; rfl) (by rw [H1.out.2]), _, rfl⟩

set_option maxHeartbeats 400000 in
theorem ref_one (s : ByteArray) (i : Nat) (w : World) (hs : s.size ≤ 4000) (hi : i < s.size) :
    Calls Tryz.prog 77 #[.string s, .int .i64 i] w fun e w' => e = .returned (.tuple #[.int .i64 ((first (s.data.toList.drop i)).1 : Nat), .int .i64 ((i + (first (s.data.toList.drop i)).2 : Nat) : Int)]) ∧ ∃ n, w' = w.drewN n := by
  by_cases hl : isLet s[i] = true
  · exact (one_letter s i w hs hi hl).mono fun e w' h => ⟨h.1, 0, h.2.symm⟩
  · have hl : isLet s[i] = false := by simpa using hl
    by_cases hd : isDig s[i] = true
    · exact (one_digit s i w hs hi hl hd).mono fun e w' h => ⟨h.1, 0, h.2.symm⟩
    · have hd : isDig s[i] = false := by simpa using hd
      by_cases hq : s[i] = 63
      · exact (one_quest s i w hs hi hl hd hq).mono fun e w' h => ⟨h.1, 0, h.2.symm⟩
      · by_cases h : ∃ h1 : i + 1 < s.size, s[i + 1] = 62 ∧ (s[i] = 45 ∨ s[i] = 124)
        · obtain ⟨h1, h62, ha⟩ := h
          exact (one_arrow s i w hs hi hl hd hq h1 h62 ha).mono fun e w' h => ⟨h.1, 0, h.2.symm⟩
        · exact one_other s i w hs hi hl hd hq (fun h1 h62 ha => h ⟨h1, h62, ha⟩)

end Go.Proofs.YthgkpmgcikopnaaGreatDoor

/-
  The walk over Scan of the document's answer for lex: it tells what the plain mathematics tells.
-/
namespace Go.Proofs.YthgkpmgcikopnaaGreatDoor
open Go.RowKit Lx
set_option maxRecDepth 100000

/-! ### the rest, where it may begin within a remark -/
def scM (m : Bool) (i : Nat) (l : List UInt8) : Except Nat (List Tok) :=
  if l.drop (btw m l) = [] then .ok []
  else if (first (l.drop (btw m l))).1 = 0 then .error (i + btw m l)
  else (sc (i + btw m l + (first (l.drop (btw m l))).2) ((l.drop (btw m l)).drop (first (l.drop (btw m l))).2)).map (⟨(first (l.drop (btw m l))).1, (l.drop (btw m l)).take (first (l.drop (btw m l))).2, i + btw m l⟩ :: ·)
theorem sc_scM (i : Nat) (l : List UInt8) : sc i l = scM false i l := sc_unfold i l
theorem scM_shift (m m' : Bool) (i : Nat) (c : UInt8) (r : List UInt8) (h : btw m (c :: r) = btw m' r + 1) : scM m i (c :: r) = scM m' (i + 1) r := by
  unfold scM
  rw [h, List.drop_succ_cons, show i + (btw m' r + 1) = i + 1 + btw m' r by omega]
theorem scM_same (m m' : Bool) (i : Nat) (l : List UInt8) (h : btw m l = btw m' l) : scM m i l = scM m' i l := by
  unfold scM
  rw [h]

def KnownT (s : ByteArray) (k : Nat) (ts : List Tok) : Prop := lex s.data.toList = (scM true k (s.data.toList.drop k)).map (ts ++ ·) ∧ ts.length ≤ k

theorem known_blank (s : ByteArray) (i : Nat) (ts : List Tok) (hk : Known s i ts) (hi : i < s.size) (hb : s[i] = 32 ∨ s[i] = 9 ∨ s[i] = 10) : Known s (i + 1) ts := by
  refine ⟨?_, by have := hk.2; omega⟩
  rw [hk.1, drop_at s i hi, sc_scM, scM_shift false false i _ _ (by rw [btw, if_pos hb]), sc_scM]
theorem known_hash (s : ByteArray) (i : Nat) (ts : List Tok) (hk : Known s i ts) (hi : i < s.size) (h35 : s[i] = 35) : KnownT s i ts := by
  refine ⟨?_, hk.2⟩
  rw [hk.1, sc_scM, scM_same false true i _ (bt_remark s i hi h35)]
theorem knownT_step (s : ByteArray) (k : Nat) (ts : List Tok) (hk : KnownT s k ts) (hi : k < s.size) (h : ¬ s[k] = 10) : KnownT s (k + 1) ts := by
  refine ⟨?_, by have := hk.2; omega⟩
  have hb : (s[k] != 10) = true := by simpa using h
  rw [hk.1, drop_at s k hi, scM_shift true true k _ _ (by rw [btw, hb])]
theorem knownT_nl (s : ByteArray) (k : Nat) (ts : List Tok) (hk : KnownT s k ts) (hi : k < s.size) (h : s[k] = 10) : Known s k ts := by
  refine ⟨?_, hk.2⟩
  rw [hk.1, sc_scM, drop_at s k hi, h, scM_same true false k _ (by simp [btw])]
theorem knownT_end (s : ByteArray) (k : Nat) (ts : List Tok) (hk : KnownT s k ts) (hi : s.size ≤ k) : Known s k ts := by
  refine ⟨?_, hk.2⟩
  rw [hk.1, sc_scM, List.drop_eq_nil_of_le (by rw [← Lib.size_eq]; exact hi)]
  rfl
theorem tok_step (s : ByteArray) (i : Nat) (hi : i < s.size) (hb : ¬ (s[i] = 32 ∨ s[i] = 9 ∨ s[i] = 10)) (h35 : ¬ s[i] = 35) : Step s i i (i + (first (s.data.toList.drop i)).2) (first (s.data.toList.drop i)).1 := by
  have h2 := first_le (s.data.toList.drop i)
  rw [List.length_drop, ← Lib.size_eq] at h2
  refine ⟨Nat.le_refl _, by omega, by omega, ?_, by rw [Nat.add_sub_cancel_left]⟩
  rw [drop_at s i hi, btw, if_neg hb, if_neg h35]
  omega

/-- what holds at the head of each round -/
def RHead (s : ByteArray) (g : Nat) (w : World) (v x : Value) (wr : World) : Prop :=
  ∃ i ts, g = s.size - i ∧ i ≤ s.size ∧ x = .int .i64 (i : Nat) ∧ Known s i ts ∧ wr.ownsRow w.heap.size 120 3 v ts.length (toksV ts) ∧ Below w.heap.size w wr

theorem ownsRow_drewN {w : World} {base : Nat} {e : TypeId} {v : Value} {n : Nat} {xs : List Value} (h : w.ownsRow base e 3 v n xs) (k : Nat) : (w.drewN k).ownsRow base e 3 v n xs := h

theorem rhead_next (s : ByteArray) (w wr w2 : World) (v v' : Value) (i q k : Nat) (ts : List Tok)
    (st : Step s i i q k) (kn : Known s i ts) (hi : i < s.size) (h0 : k ≠ 0) (hbel : Below w.heap.size w wr)
    (hown : wr.ownsRow w.heap.size 120 3 v ts.length (toksV ts))
    (hgr : (wr.alloc (.cells #[.int .i64 (k : Nat), .string (s.extract i q), .int .i64 (i : Nat)] 120)).grownBy w2 v.ownBlock)
    (how : w2.ownsRow w.heap.size 120 3 v' (ts.length + 1) (toksV ts ++ [.int .i64 (k : Nat), .string (s.extract i q), .int .i64 (i : Nat)])) :
    i < q ∧ RHead s (s.size - q) w v' (.int .i64 (q : Nat)) w2 := by
  obtain ⟨hq, kn'⟩ := known_next s i i q k ts kn st hi h0
  refine ⟨hq, q, _, rfl, st.2.2.1, rfl, kn', ?_, ?_⟩
  · rw [toksV_snoc, tokV_extract, List.length_append]
    exact how
  · exact (hbel.alloc hbel.size _).grown hgr (by have := hbel.size; simp; omega) (fun m hm => (hown.lt m hm).1)

theorem ref_long (s : ByteArray) (w : World) (hs : s.size ≤ maxLen) (hl : 4000 < s.size) : Calls Tryz.prog 41 #[.string s] w (ScanPost s w) := by
  have HS : Hid (scanS s.data.toList = ([], 0, 2)) := by
    refine hidE ?_
    unfold scanS
    rw [if_pos (by rw [← Lib.size_eq]; exact hl)]
  unfold maxLen at hs
  go_enter Tryz.func41, Tryz.ntmps41
  go_wp2
  go_ret3
  exact ⟨Below.refl _ _, _, [], 0, 2, HS.out, rfl, World.ownsRow_nil _ _ _ _⟩

set_option maxHeartbeats 1600000 in
theorem ref_short (s : ByteArray) (w : World) (hl : s.size ≤ 4000) : Calls Tryz.prog 41 #[.string s] w (ScanPost s w) := by
  obtain ⟨i0, hi0, hz0, hz1, hz2⟩ := info_parts tok_info
  go_enter Tryz.func41, Tryz.ntmps41
  go_wp2_with fail
  go_loopg [5, 6] s.size (fun g v x wr => RHead s g w v x wr)
  case atStart => exact ⟨0, [], rfl, Nat.zero_le _, rfl, known_start s, World.ownsRow_nil _ _ _ _, Below.refl _ _⟩
  case round =>
    obtain ⟨i, ts, rfl, hi, rfl, kn, hown, hbel⟩ := hrel
    have KN := hidE kn
    have HOWN := hidE hown
    have HBEL := hidE hbel
    clear kn hown hbel
    by_cases hlt : i < s.size
    · by_cases hb : s[i] = 32 ∨ s[i] = 9 ∨ s[i] = 10
      · have HK := hidE (known_blank s i ts KN.out hlt hb)
        have bb : (((s[i].toNat : Int) == 32) = true) ∨ (((s[i].toNat : Int) == 32) = false ∧ ((s[i].toNat : Int) == 9) = true) ∨ (((s[i].toNat : Int) == 32) = false ∧ ((s[i].toNat : Int) == 9) = false ∧ ((s[i].toNat : Int) == 10) = true) := by
          rcases hb with h | h | h
          · exact .inl (u8t _ 32 h)
          · exact .inr (.inl ⟨u8f _ 32 (by rw [h]; decide), u8t _ 9 h⟩)
          · exact .inr (.inr ⟨u8f _ 32 (by rw [h]; decide), u8f _ 9 (by rw [h]; decide), u8t _ 10 h⟩)
        clear hb
        rcases bb with b1 | ⟨b1, b2⟩ | ⟨b1, b2, b3⟩
        all_goals
          go_wp2_with fail
          go_roundg (s.size - (i + 1))
          case measure => omega
          case rel => exact ⟨i + 1, ts, rfl, by omega, by go_num, HK.out, HOWN.out, HBEL.out⟩
      · have b1 : ((s[i].toNat : Int) == 32) = false := u8f _ 32 (fun e => hb (.inl e))
        have b2 : ((s[i].toNat : Int) == 9) = false := u8f _ 9 (fun e => hb (.inr (.inl e)))
        have b3 : ((s[i].toNat : Int) == 10) = false := u8f _ 10 (fun e => hb (.inr (.inr e)))
        by_cases h35 : s[i] = 35
        · have b4 : ((s[i].toNat : Int) == 35) = true := u8t _ 35 h35
          have HT := hidE (known_hash s i ts KN.out hlt h35)
          have H35 := hidE h35
          clear hb h35
          go_wp2_with fail
          obtain ⟨wo, hwo⟩ : ∃ wo : World, wo = wr := ⟨_, rfl⟩
          have HWO := hidE hwo
          clear hwo
          go_loopg [6] (s.size - i) (fun g x wi => ∃ k : Nat, g = s.size - k ∧ x = .int .i64 k ∧ wi = wr ∧ i ≤ k ∧ k ≤ s.size ∧ KnownT s k ts)
          case atStart => exact ⟨i, rfl, rfl, rfl, Nat.le_refl _, by omega, HT.out⟩
          case round =>
            obtain ⟨k, rfl, rfl, rfl, hik, hk, kt⟩ := hrel
            have KT := hidE kt
            clear kt
            by_cases hkl : k < s.size
            · by_cases h10 : s[k] = 10
              · have b5 : ((s[k].toNat : Int) != 10) = false := by rw [h10]; rfl
                have HKN := hidE (knownT_nl s k ts KT.out hkl h10)
                have hne : i < k := by
                  rcases Nat.lt_or_ge i k with h | h
                  · exact h
                  · have e : i = k := by omega
                    have h35' := H35.out
                    subst e
                    rw [h35'] at h10
                    exact absurd h10 (by decide)
                clear h10
                go_wp2_with fail
                go_roundg (s.size - k)
                case measure => omega
                case rel => exact ⟨k, ts, rfl, hk, rfl, HKN.out, HOWN.out, HBEL.out⟩
              · have b5 : ((s[k].toNat : Int) != 10) = true := by
                  have h10f : ((s[k].toNat : Int) == 10) = false := u8f _ 10 h10
                  rw [bne, h10f]; rfl
                have HKT := hidE (knownT_step s k ts KT.out hkl h10)
                clear h10
                go_wp2_with fail
                go_roundg (s.size - (k + 1))
                case measure => omega
                case rel => exact ⟨k + 1, rfl, by go_num, rfl, by omega, by omega, HKT.out⟩
            · have HKN := hidE (knownT_end s k ts KT.out (by omega))
              go_wp2_with fail
              go_roundg (s.size - k)
              case measure => omega
              case rel => exact ⟨k, ts, rfl, hk, rfl, HKN.out, HOWN.out, HBEL.out⟩
        · have b4 : ((s[i].toNat : Int) == 35) = false := u8f _ 35 h35
          have hst := tok_step s i hlt hb h35
          have RO := fun w => ref_one s i w hl hlt
          obtain ⟨k, hk⟩ : ∃ k, (first (s.data.toList.drop i)).1 = k := ⟨_, rfl⟩
          obtain ⟨q, hq⟩ : ∃ q, i + (first (s.data.toList.drop i)).2 = q := ⟨_, rfl⟩
          rw [hk, hq] at hst RO
          have ST := hidE hst
          have htl := KN.out.2
          have hqs := hst.2.2.1
          have hiq := hst.2.1
          clear hst hk hq hb h35
          by_cases h0 : k = 0
          · have hkb : ((k : Int) == 0) = true := by rw [h0]; rfl
            have H0 := hidE h0
            clear h0
            go_wp2_with (go_at_call 77; refine (RO _).mono ?_; rintro e w' ⟨rfl, m, rfl⟩)
            go_ret3
            exact ⟨below_drewN' HBEL.out _, _, [], i, 10, scan_bad s i hl (known_bad s i i q ts KN.out (H0.out ▸ ST.out) hlt), rfl, World.ownsRow_nil _ _ _ _⟩
          · have hkb : ((k : Int) == 0) = false := by rw [Bool.eq_false_iff]; intro h; simp at h; omega
            have H0 := hidE h0
            clear h0
            go_wp2_with (first
              | (go_at_call 77; refine (RO _).mono ?_; rintro e w' ⟨rfl, m, rfl⟩)
              | (at_builtin; refine wpList_append_own _ rfl (.tmp 59) (.tmp 67) 71 rfl w.heap.size 120 i0 _ 3 32 Tryz.underlying71 hi0 hz0 hz1 hz2 rfl (by decide) u5 ts.length (toksV ts) rfl (ownsRow_drewN (HOWN.out.alloc _) m) ⟨wr.heap.size, 0, none⟩ 1 1 [.int .i64 (k : Nat), .string (s.extract i q), .int .i64 (i : Nat)] rfl rfl (new_cells wr #[.int .i64 (k : Nat), .string (s.extract i q), .int .i64 (i : Nat)] _) (by intro u hu; simp at hu; rcases hu with rfl | rfl | rfl <;> rfl) (by unfold maxLen; omega) (by omega) (by have := HBEL.out.size; simp; omega) ?_; intro v' w2 hown' hgrow _; have HGR := hidE hgrow; have HOW2 := hidE hown'; clear hown' hgrow))
            have hnx := rhead_next s w wr w2 u5 v' i q k ts ST.out KN.out hlt H0.out HBEL.out HOWN.out ⟨HGR.out.os, HGR.out.tape, HGR.out.output, HGR.out.size, HGR.out.block⟩ HOW2.out
            go_roundg (s.size - q)
            case measure => have := hnx.1; omega
            case rel => exact hnx.2
    · go_wp2_with fail
      go_ret3
      have hsz : i = s.size := by omega
      obtain ⟨p', q', k', st⟩ := step_of s i hi
      exact ⟨HBEL.out, _, ts, 0, 0, scan_ok s ts hl (known_done s i p' q' k' ts KN.out st (by have := st.1; omega)), rfl, HOWN.out⟩

theorem ref_any (s : ByteArray) (w : World) (hs : s.size ≤ maxLen) : Calls Tryz.prog 41 #[.string s] w (ScanPost s w) := by
  by_cases h : 4000 < s.size
  · exact ref_long s w hs h
  · exact ref_short s w (by omega)

end Go.Proofs.YthgkpmgcikopnaaGreatDoor

/-
  The walk over Parse of the document's answer for types.
-/
namespace Go.Proofs.YthgkpmgcikopnaaGreatDoor
open Go.RowKit Lx Tx
set_option maxRecDepth 100000

set_option maxHeartbeats 1600000 in
theorem ref2_parse (s : ByteArray) (w : World) (hs : s.size ≤ maxLen) : Calls Tryz.prog 13 #[.string s] w (PPost s.data.toList w) := by
  go_enter Tryz.func13, Tryz.ntmps13
  go_wp2_with fail
  refine (ref_any s _ hs).mono ?_
  rintro e w1 ⟨b1, v, ts, a, er, hsc, rfl, hown⟩
  have hb0 : Blk w1 w.heap.size 31 #[.int .i64 0, .string ⟨#[]⟩, .int .i64 0, .slice none 0 0] := Blk.below (heap_alloc_new _ _) b1 (by simp)
  obtain ⟨a0, a1, a2, a3, r0, r1, r2, r3, hlw⟩ := blk_facts4 hb0
  have HB0 := hidE hb0
  have B1 := hidE b1
  have HSC := hidE hsc
  have HRD := hidE (RdT.of_own hown)
  obtain ⟨P, c, rfl⟩ : ∃ P c, v = .slice P ts.length c := own_shape hown
  clear hb0 b1 hsc hown
  by_cases he : er = 0
  · subst he
    obtain ⟨hG, hL⟩ := scan_good _ _ _ HSC.out
    have HR := hidE (ref2_read ts (.slice P ts.length c) w1 hG (by omega) HRD.out)
    obtain ⟨n, hN⟩ : ∃ n, ts.length = n := ⟨_, rfl⟩
    have HN := hidE hN
    rw [hN] at HR hL ⊢
    clear hN
    go_wp2_with fail
    refine HR.out.mono ?_
    rintro e w2 ⟨b2, K1, X1, Z1, A1, m1, c1, hcases⟩
    have hb0 := HB0.out.below b2 hlw
    obtain ⟨a0, a1, a2, a3, r0, r1, r2, r3, hlw2⟩ := blk_facts4 hb0
    have HC0 := hidE hb0
    have B2 := hidE b2
    have HBEL := hidE (bnext (below_pre B1.out (Nat.le_refl _)) b2 (Nat.le_refl _))
    clear hb0 b2
    rcases hcases with ⟨ho, rfl⟩ | ⟨t, k, hk, hkn, ho, rfl, hr⟩
    · have HP := hidE (parse_bad _ _ _ HSC.out (by rw [ho]; simp))
      have dn : ((-1 : Int) != (n : Int)) = true := neqT _ _ (by omega)
      clear ho
      go_wp2_with fail
      try simp only [Exit.inBlock, Exit.then]
      refine bodyPost_ret (results_ct rfl _ _ w.heap.size 31 _ (0, 0) _ rfl ((blk_set4 _ _ _ _ HC0.out).alloc _) Tryz.underlying31 rfl (by kernel_rfl)) rfl ?_
      exact ppost_err _ _ _ _ 20 20 ((below_set4 HBEL.out _ _ _ _ (Nat.le_refl _)).alloc (by simp; omega) _) (by decide) HP.out rfl rfl
    · by_cases hkk : k = n
      · have dn : ((k : Int) != (n : Int)) = false := neqF _ _ (by rw [hkk])
        have HP := hidE (parse_some _ _ _ t HSC.out (by rw [ho, List.drop_eq_nil_of_le (by rw [HN.out]; omega)]))
        have HT := hidE hr
        have hts : t.size ≤ 4000 := by
          have := ((read_nm _).1 ts t _ hG ho).2.2
          have := HN.out
          omega
        clear ho hr hkk hG
        have HD := hidE (fun w v hv hS => ref2_depth 1000000 t (fun g => w1.heap.size ≤ g ∧ g < w2.heap.size) v w (by omega) (by omega) hv hS)
        obtain ⟨D, hD⟩ : ∃ D, t.depth = D := ⟨_, rfl⟩
        rw [hD] at HP HD
        clear hD
        go_wp2_with fail
        refine (HD.out _ _ (HT.out.keep (fun _ h => h) (fun g hg => Below.heap_alloc _ _ _ hg.2)) (fun g hg => by simp; omega)).mono ?_
        rintro e w3 ⟨rfl, b3⟩
        have hb0 := (HC0.out.alloc (.cells #[.int .i64 K1, .string X1, .int .i64 Z1, .slice A1 m1 c1] 31)).below b3 (by simp; omega)
        have hb7 : Blk w3 w2.heap.size 31 #[.int .i64 K1, .string X1, .int .i64 Z1, .slice A1 m1 c1] := Blk.below (heap_alloc_new _ _) b3 (by simp)
        obtain ⟨a0, a1, a2, a3, r0, r1, r2, r3, hlw3⟩ := blk_facts4 hb0
        obtain ⟨p0, p1, p2, p3, s0, s1, s2, s3, hlx3⟩ := blk_facts4 hb7
        have HE0 := hidE hb0
        have hbel3 := hidE (bnext HBEL.out (below_pre b3 (Nat.le_refl _)) (by have := HBEL.out.size; omega))
        have HT3 := hidE (HT.out.keep (S' := fun g => w1.heap.size ≤ g ∧ g < w2.heap.size) (fun _ h => h) (fun g hg => (below_pre b3 (Nat.le_refl _)).block g hg.2))
        have hsz3 := (below_pre b3 (Nat.le_refl _)).size
        have hsz1 := HBEL.out.size
        have hsz0 := (below_pre B1.out (Nat.le_refl _)).size
        clear hb0 hb7 b3
        by_cases hd : 50 < D
        · have dd : decide ((50 : Int) < (D : Int)) = true := decide_eq_true (by omega)
          have HP := hidE (HP.out.trans (if_pos hd))
          clear hd
          go_wp2_with fail
          try simp only [Exit.inBlock, Exit.then]
          refine bodyPost_ret (results_ct rfl _ _ w.heap.size 31 _ (0, 0) _ rfl (blk_set4 _ _ _ _ HE0.out) Tryz.underlying31 rfl (by kernel_rfl)) rfl ?_
          exact ppost_err _ _ _ _ 3 3 (below_set4 hbel3.out _ _ _ _ (Nat.le_refl _)) (by decide) HP.out rfl rfl
        · have dd : decide ((50 : Int) < (D : Int)) = false := decide_eq_false (by omega)
          have HP := hidE (HP.out.trans (if_neg hd))
          clear hd
          go_wp2_with fail
          try simp only [Exit.inBlock, Exit.then]
          refine bodyPost_ret (results_ct rfl _ _ w.heap.size 31 _ (0, 0) _ rfl (blk_set4 _ _ _ _ HE0.out) Tryz.underlying31 rfl (by kernel_rfl)) rfl ?_
          refine ⟨below_set4 hbel3.out _ _ _ _ (Nat.le_refl _), K1, X1, Z1, A1, m1, c1, .inr ⟨t, HP.out, rfl, ?_⟩⟩
          exact HT3.out.keep (fun g hg => by simp; omega) (fun g hg => heap_set4 _ _ _ _ _ _ _ (by omega))
      · have dn : ((k : Int) != (n : Int)) = true := neqT _ _ (by omega)
        have HP := hidE (parse_bad _ _ _ HSC.out (by
          rw [ho]
          intro t' e
          injection e with e
          injection e with _ e
          have := congrArg List.length e
          rw [List.length_drop, HN.out] at this
          simp at this
          rw [HN.out] at hkn
          omega))
        clear ho hr hkk
        go_wp2_with fail
        try simp only [Exit.inBlock, Exit.then]
        refine bodyPost_ret (results_ct rfl _ _ w.heap.size 31 _ (0, 0) _ rfl ((blk_set4 _ _ _ _ HC0.out).alloc _) Tryz.underlying31 rfl (by kernel_rfl)) rfl ?_
        exact ppost_err _ _ _ _ 20 20 ((below_set4 HBEL.out _ _ _ _ (Nat.le_refl _)).alloc (by simp; omega) _) (by decide) HP.out rfl rfl
  · have de := neqT (er : Int) 0 (by omega)
    have HP := hidE (parse_err _ _ _ _ HSC.out he)
    have HE := hidE he
    clear he
    go_wp2_with fail
    try simp only [Exit.inBlock, Exit.then]
    refine bodyPost_ret (results_ct rfl _ _ w.heap.size 31 _ (0, 0) _ rfl (blk_set4 _ _ _ _ HB0.out) Tryz.underlying31 rfl (by kernel_rfl)) rfl ?_
    exact ppost_err _ _ _ _ er er (below_set4 (below_pre B1.out (Nat.le_refl _)) _ _ _ _ (Nat.le_refl _)) HE.out HP.out rfl rfl

end Go.Proofs.YthgkpmgcikopnaaGreatDoor

/-
  The walk over Poly of the document's answer for types.
-/
namespace Go.Proofs.YthgkpmgcikopnaaGreatDoor
open Go.RowKit Lx Tx
set_option maxRecDepth 100000

set_option maxHeartbeats 800000 in
theorem ref2_poly (n : Nat) : ∀ (t : Ty) (S : Nat → Prop) (v : Value) (w : World), t.size ≤ n → n ≤ 1000000 → RdV S w t v → (∀ g, S g → g < w.heap.size) →
    Calls Tryz.prog 63 #[v] w fun e w' => e = .returned (.bool t.poly) ∧ Below w.heap.size w w' := by
  induction n with
  | zero => intro t S v w h; rw [size_kids] at h; omega
  | succ n ih =>
    intro t S v w hn h5 hv hS
    obtain ⟨K, X, Z, A, m, c, rfl, hK, -, -, hm, ha⟩ := hv.parts
    obtain ⟨R, hR⟩ : ∃ R, t.poly = R := ⟨_, rfl⟩
    rw [hR]
    have hm6 : m ≤ n := by have := kids_len t; omega
    by_cases hk : kd t = 5
    · have hr := hidE (show R = true by rw [← hR, poly_kids, hk]; simp)
      have dk : ((K : Int) == 5) = true := by rw [hK, hk]; rfl
      clear hK hk hR ih ha hm hv
      go_enter Tryz.func63, Tryz.ntmps63
      go_wp2
      go_ret
      exact ⟨ret_bool hr.out.symm, (Below.refl _ w).alloc (Nat.le_refl _) _⟩
    · have dk : ((K : Int) == 5) = false := by rw [hK]; exact kF _ 5 hk
      have hR1 : polyL (kids t) = R := by rw [← hR, poly_kids]; simp [hk]
      have HM := hidE hm
      have HA := hidE ha
      have IH := hidE ih
      have HS := hidE hS
      have HN := hidE hn
      have HR1 := hidE hR1
      clear hm hR ha ih hS hn hR1 hv hK hk
      go_enter Tryz.func63, Tryz.ntmps63
      go_wp2
      go_loopg [3] m (fun gg vi wr => ∃ i : Nat, gg = m - i ∧ vi = .int .i64 i ∧ i ≤ m ∧ Hid (polyL ((kids t).take i) = false) ∧ Below (w.heap.size + 1) (w.alloc (.cells #[.int .i64 K, .string X, .int .i64 Z, .slice A m c] 31)) wr)
      case atStart => exact ⟨0, rfl, rfl, by omega, hidE rfl, Below.refl _ _⟩
      case round =>
        obtain ⟨i, rfl, rfl, hi, hd, hb⟩ := hrel
        have c3 : wr.cell? ⟨w.heap.size, 3, none⟩ = some (.slice A m c) := (hb.cell (p := ⟨w.heap.size, 3, none⟩) (by simp)).trans (cell_of_row _ _ _ _ _ _ (heap_alloc_new _ _))
        have HB := hidE hb
        clear hb
        by_cases hlt : i < m
        · obtain ⟨g, u, K1, X1, Z1, A1, n1, c1, rfl, hg, e0, e1, e2, e3, hu, hrd, hsz⟩ := kid_cells (w' := wr) HA.out HM.out hlt (fun g hg => by rw [HB.out.block g (by have := HS.out g hg; omega), Below.heap_alloc _ _ _ (HS.out g hg)])
          have hcall := IH.out u S _ wr (by have := HN.out; omega) (by omega) hrd (fun g hg => by have := HB.out.size; have := HS.out g hg; simp at *; omega)
          have hnx := hidE (polyL_take _ _ _ hd hu)
          have hat := hidE (polyL_at _ _ _ hu)
          obtain ⟨p, hp⟩ : ∃ p, u.poly = p := ⟨_, rfl⟩
          rw [hp] at hcall hnx hat
          clear hrd hu hp
          cases p
          · go_wp2_with (go_at_call 63; refine hcall.mono ?_; rintro e w1 ⟨rfl, b1⟩)
            have HB2 := hidE (HB.out.trans (b1.mono (by have := HB.out.size; simp at this; omega)))
            go_roundg (m - (i + 1))
            case measure => omega
            case rel => exact ⟨i + 1, rfl, by go_num, by omega, hidE hnx.out, HB2.out⟩
          · have hr := hidE (show R = true from HR1.out.symm.trans (hat.out rfl))
            go_wp2_with (go_at_call 63; refine hcall.mono ?_; rintro e w1 ⟨rfl, b1⟩)
            go_ret
            exact ⟨ret_bool hr.out.symm, ((Below.refl _ w).alloc (Nat.le_refl _) _).trans ((HB.out.trans (b1.mono (by have := HB.out.size; simp at this; omega))).mono (by omega))⟩
        · have hr := hidE (show R = false by rw [List.take_of_length_le (by rw [HM.out]; omega)] at hd; rw [← HR1.out]; exact hd.out)
          go_wp2_with fail
          go_ret
          exact ⟨ret_bool hr.out.symm, ((Below.refl _ w).alloc (Nat.le_refl _) _).trans (HB.out.mono (by omega))⟩

end Go.Proofs.YthgkpmgcikopnaaGreatDoor
