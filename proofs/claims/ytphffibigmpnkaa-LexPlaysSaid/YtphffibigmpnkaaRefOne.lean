/-
  The walk over one of the document's answer for lex: the token that begins at a place.
-/
import Derived.Test.YtphffibigmpnkaaRefNum
import Derived.Test.YtphffibigmpnkaaLexPureB
namespace Go.Proofs.Ytphffibigmpnkaa
open Go.RowKit Lx

theorem first_at (s : ByteArray) (i : Nat) (hi : i < s.size) : first (s.data.toList.drop i) = if isLet s[i] then word (s.data.toList.drop i) else if isDig s[i] then number (s.data.toList.drop i) else if s[i] = 63 then meta_ (s.data.toList.drop i) else sign (s.data.toList.drop i) := by
  rw [drop_at s i hi]; rfl

/-- the word's contract, in the words of what is to come -/
theorem one_long (s : ByteArray) (i k : Nat) (hi : i < s.size) (hl : isLet s[i] = true) (h : Hid (k = i + span inW (s.data.toList.drop i))) (hk : 16 < k - i) : first (s.data.toList.drop i) = (0, 0) := by
  rw [first_at s i hi, if_pos hl, word, show span inW (s.data.toList.drop i) = k - i by have := h.out; omega, if_pos hk]
theorem one_word (s : ByteArray) (i k : Nat) (hi : i < s.size) (hl : isLet s[i] = true) (h : Hid (k = i + span inW (s.data.toList.drop i))) (hk : ¬ 16 < k - i) : first (s.data.toList.drop i) = (wordKind (s.extract i k).data.toList, k - i) := by
  rw [first_at s i hi, if_pos hl, word, show span inW (s.data.toList.drop i) = k - i by have := h.out; omega, if_neg hk, Lib.extract_data]
theorem ext_head (s : ByteArray) (i k : Nat) (hi : i < s.size) (hik : i < k) : (s.extract i k).data.toList.headD 0 = s[i] := by
  rw [Lib.extract_data, drop_at s i hi, show k - i = (k - i - 1) + 1 by omega, List.take_succ_cons]; rfl
theorem wk_key (l : List UInt8) (W : ByteArray) (hW : W.data.toList = l) (h : W.toList ∈ keys) : wordKind l = 3 := by
  rw [Lib.toList_data, hW] at h
  simp [wordKind, h]
theorem wk_up (l : List UInt8) (W : ByteArray) (hW : W.data.toList = l) (h : W.toList ∉ keys) (hu : isUp (l.headD 0) = true) : wordKind l = 2 := by
  rw [Lib.toList_data, hW] at h
  unfold wordKind
  rw [if_neg h, if_pos hu]
theorem wk_low (l : List UInt8) (W : ByteArray) (hW : W.data.toList = l) (h : W.toList ∉ keys) (hu : isUp (l.headD 0) = false) : wordKind l = 1 := by
  rw [Lib.toList_data, hW] at h
  unfold wordKind
  rw [if_neg h, hu]; rfl

set_option maxHeartbeats 1600000 in
set_option maxRecDepth 100000 in
theorem one_letter (s : ByteArray) (i : Nat) (w : World) (hs : s.size ≤ 4000) (hi : i < s.size) (hl : isLet s[i] = true) :
    Calls Try.prog 14 #[.string s, .int .i64 i] w fun e w' => e = .returned (.tuple #[.int .i64 ((first (s.data.toList.drop i)).1 : Nat), .int .i64 ((i + (first (s.data.toList.drop i)).2 : Nat) : Int)]) ∧ w = w' := by
  obtain ⟨N, hN⟩ : ∃ N, N = i + span inW (s.data.toList.drop i) := ⟨_, rfl⟩
  obtain ⟨K, hK⟩ : ∃ K, K = (first (s.data.toList.drop i)).1 := ⟨_, rfl⟩
  obtain ⟨E, hE⟩ : ∃ E, E = i + (first (s.data.toList.drop i)).2 := ⟨_, rfl⟩
  have hNs : N ≤ s.size := by rw [hN]; exact span_at_size _ _ _ (by omega)
  have hiN : i < N := by
    have : 1 ≤ span inW (s.data.toList.drop i) := by rw [drop_at s i hi]; exact isLet_span _ _ hl
    omega
  have hlr := let_range s[i] hl
  have HN := hidE hN
  have HK := hidE hK
  have HE := hidE hE
  rw [← hK, ← hE]
  clear hN hK hE
  go_enter Try.func14, Try.ntmps14
  go_wp2_with (go_at_call 18; refine (ref_letter _ _).mono ?_; rintro e w' ⟨rfl, rfl⟩)
  go_loopg [7] (s.size - i) (fun gg v wr => ∃ k : Nat, gg = s.size - k ∧ v = .int .i64 k ∧ wr = w ∧ i ≤ k ∧ k ≤ s.size ∧ k + span inW (s.data.toList.drop k) = N)
  case atStart => exact ⟨i, rfl, rfl, rfl, by omega, by omega, HN.out.symm⟩
  case round =>
    obtain ⟨k, rfl, rfl, rfl, hik, hk, hn⟩ := hrel
    by_cases hgo : ∃ h : k < s.size, inW s[k] = true
    · obtain ⟨hlt, hp⟩ := hgo
      have HS := hidE (span_step _ s k _ hlt hn hp)
      clear hn
      by_cases hlk : isLet s[k] = true
      · go_wp2_with (first | (go_at_call 18; refine (ref_letter _ _).mono ?_; rintro e w' ⟨rfl, rfl⟩) | (go_at_call 19; refine (ref_digit _ _).mono ?_; rintro e w' ⟨rfl, rfl⟩))
        go_roundg (s.size - (k + 1))
        case measure => omega
        case rel => exact ⟨k + 1, rfl, by go_num, rfl, by omega, by omega, HS.out⟩
      · have hlk : isLet s[k] = false := by simpa using hlk
        by_cases hdk : isDig s[k] = true
        · go_wp2_with (first | (go_at_call 18; refine (ref_letter _ _).mono ?_; rintro e w' ⟨rfl, rfl⟩) | (go_at_call 19; refine (ref_digit _ _).mono ?_; rintro e w' ⟨rfl, rfl⟩))
          go_roundg (s.size - (k + 1))
          case measure => omega
          case rel => exact ⟨k + 1, rfl, by go_num, rfl, by omega, by omega, HS.out⟩
        · have hdk : isDig s[k] = false := by simpa using hdk
          have e95 : s[k] = 95 := by simpa [inW, hlk, hdk] using hp
          have d95 : ((s[k].toNat : Int) == 95) = true := u8t _ 95 e95
          clear e95 hp
          go_wp2_with (first | (go_at_call 18; refine (ref_letter _ _).mono ?_; rintro e w' ⟨rfl, rfl⟩) | (go_at_call 19; refine (ref_digit _ _).mono ?_; rintro e w' ⟨rfl, rfl⟩))
          go_roundg (s.size - (k + 1))
          case measure => omega
          case rel => exact ⟨k + 1, rfl, by go_num, rfl, by omega, by omega, HS.out⟩
    · have hkN : k = N := by
        by_cases hlt : k < s.size
        · exact span_stop _ s k _ hlt hn (by simpa using fun h => hgo ⟨hlt, h⟩)
        · exact span_end _ s k _ (by omega) hn
      obtain rfl := hkN
      clear hn
      have hstop : k < s.size → ∃ h : k < s.size, isLet s[k] = false ∧ isDig s[k] = false ∧ ((s[k].toNat : Int) == 95) = false := fun h => by
        have hp : inW s[k] = false := by simpa using fun e => hgo ⟨h, e⟩
        simp [inW] at hp
        exact ⟨h, hp.1.1, hp.1.2, u8f _ 95 hp.2⟩
      have HST := hidE hstop
      clear hgo hstop
      by_cases h16 : 16 < k - i
      · have d16 : decide ((16 : Int) < (k : Int) - (i : Int)) = true := decide_eq_true (by omega)
        have hf := one_long s i k hi hl HN h16
        have H1 := hidE (show K = 0 ∧ E = i by rw [HK.out, HE.out, hf]; exact ⟨rfl, rfl⟩)
        clear hf
        by_cases hlt : k < s.size
        · obtain ⟨_, f1, f2, f3⟩ := HST.out hlt
          go_wp2_with (first | (go_at_call 18; refine (ref_letter _ _).mono ?_; rintro e w' ⟨rfl, rfl⟩) | (go_at_call 19; refine (ref_digit _ _).mono ?_; rintro e w' ⟨rfl, rfl⟩))
          go_ret2
          exact ⟨ret_2 (by rw [H1.out.1]; rfl) (by rw [H1.out.2]), rfl⟩
        · go_wp2_with (first | (go_at_call 18; refine (ref_letter _ _).mono ?_; rintro e w' ⟨rfl, rfl⟩) | (go_at_call 19; refine (ref_digit _ _).mono ?_; rintro e w' ⟨rfl, rfl⟩))
          go_ret2
          exact ⟨ret_2 (by rw [H1.out.1]; rfl) (by rw [H1.out.2]), rfl⟩
      · have d16 : decide ((16 : Int) < (k : Int) - (i : Int)) = false := decide_eq_false (by omega)
        have hf := one_word s i k hi hl HN h16
        have hhd := ext_head s i k hi hiN
        obtain ⟨W, hW⟩ : ∃ W, s.extract i k = W := ⟨_, rfl⟩
        rw [hW] at hf hhd
        have H1 := hidE (show K = wordKind W.data.toList ∧ E = k by rw [HK.out, HE.out, hf]; exact ⟨rfl, by simp; omega⟩)
        clear hf
        by_cases hm : W.toList ∈ keys
        · have hwk := wk_key _ W rfl hm
          simp only [keys, List.mem_cons, List.not_mem_nil, or_false] at hm
          rcases hm with hm | hm | hm | hm | hm | hm
          · have e0 : (W.toList == [100, 97, 116, 97]) = true := by rw [hm]; rfl
            have H2 := hidE (H1.out.1.trans (hwk))
            clear hm hhd
            by_cases hlt : k < s.size
            · obtain ⟨_, f1, f2, f3⟩ := HST.out hlt
              go_wp2_with (first | (go_at_call 18; refine (ref_letter _ _).mono ?_; rintro e w' ⟨rfl, rfl⟩) | (go_at_call 19; refine (ref_digit _ _).mono ?_; rintro e w' ⟨rfl, rfl⟩))
              go_ret2
              exact ⟨ret_2 (by rw [H2.out]; rfl) (by rw [H1.out.2]), rfl⟩
            · go_wp2_with (first | (go_at_call 18; refine (ref_letter _ _).mono ?_; rintro e w' ⟨rfl, rfl⟩) | (go_at_call 19; refine (ref_digit _ _).mono ?_; rintro e w' ⟨rfl, rfl⟩))
              go_ret2
              exact ⟨ret_2 (by rw [H2.out]; rfl) (by rw [H1.out.2]), rfl⟩
          · have e0 : (W.toList == [100, 97, 116, 97]) = false := by rw [hm]; rfl
            have e1 : (W.toList == [108, 101, 116]) = true := by rw [hm]; rfl
            have H2 := hidE (H1.out.1.trans (hwk))
            clear hm hhd
            by_cases hlt : k < s.size
            · obtain ⟨_, f1, f2, f3⟩ := HST.out hlt
              go_wp2_with (first | (go_at_call 18; refine (ref_letter _ _).mono ?_; rintro e w' ⟨rfl, rfl⟩) | (go_at_call 19; refine (ref_digit _ _).mono ?_; rintro e w' ⟨rfl, rfl⟩))
              go_ret2
              exact ⟨ret_2 (by rw [H2.out]; rfl) (by rw [H1.out.2]), rfl⟩
            · go_wp2_with (first | (go_at_call 18; refine (ref_letter _ _).mono ?_; rintro e w' ⟨rfl, rfl⟩) | (go_at_call 19; refine (ref_digit _ _).mono ?_; rintro e w' ⟨rfl, rfl⟩))
              go_ret2
              exact ⟨ret_2 (by rw [H2.out]; rfl) (by rw [H1.out.2]), rfl⟩
          · have e0 : (W.toList == [100, 97, 116, 97]) = false := by rw [hm]; rfl
            have e1 : (W.toList == [108, 101, 116]) = false := by rw [hm]; rfl
            have e2 : (W.toList == [105, 110]) = true := by rw [hm]; rfl
            have H2 := hidE (H1.out.1.trans (hwk))
            clear hm hhd
            by_cases hlt : k < s.size
            · obtain ⟨_, f1, f2, f3⟩ := HST.out hlt
              go_wp2_with (first | (go_at_call 18; refine (ref_letter _ _).mono ?_; rintro e w' ⟨rfl, rfl⟩) | (go_at_call 19; refine (ref_digit _ _).mono ?_; rintro e w' ⟨rfl, rfl⟩))
              go_ret2
              exact ⟨ret_2 (by rw [H2.out]; rfl) (by rw [H1.out.2]), rfl⟩
            · go_wp2_with (first | (go_at_call 18; refine (ref_letter _ _).mono ?_; rintro e w' ⟨rfl, rfl⟩) | (go_at_call 19; refine (ref_digit _ _).mono ?_; rintro e w' ⟨rfl, rfl⟩))
              go_ret2
              exact ⟨ret_2 (by rw [H2.out]; rfl) (by rw [H1.out.2]), rfl⟩
          · have e0 : (W.toList == [100, 97, 116, 97]) = false := by rw [hm]; rfl
            have e1 : (W.toList == [108, 101, 116]) = false := by rw [hm]; rfl
            have e2 : (W.toList == [105, 110]) = false := by rw [hm]; rfl
            have e3 : (W.toList == [99, 97, 115, 101]) = true := by rw [hm]; rfl
            have H2 := hidE (H1.out.1.trans (hwk))
            clear hm hhd
            by_cases hlt : k < s.size
            · obtain ⟨_, f1, f2, f3⟩ := HST.out hlt
              go_wp2_with (first | (go_at_call 18; refine (ref_letter _ _).mono ?_; rintro e w' ⟨rfl, rfl⟩) | (go_at_call 19; refine (ref_digit _ _).mono ?_; rintro e w' ⟨rfl, rfl⟩))
              go_ret2
              exact ⟨ret_2 (by rw [H2.out]; rfl) (by rw [H1.out.2]), rfl⟩
            · go_wp2_with (first | (go_at_call 18; refine (ref_letter _ _).mono ?_; rintro e w' ⟨rfl, rfl⟩) | (go_at_call 19; refine (ref_digit _ _).mono ?_; rintro e w' ⟨rfl, rfl⟩))
              go_ret2
              exact ⟨ret_2 (by rw [H2.out]; rfl) (by rw [H1.out.2]), rfl⟩
          · have e0 : (W.toList == [100, 97, 116, 97]) = false := by rw [hm]; rfl
            have e1 : (W.toList == [108, 101, 116]) = false := by rw [hm]; rfl
            have e2 : (W.toList == [105, 110]) = false := by rw [hm]; rfl
            have e3 : (W.toList == [99, 97, 115, 101]) = false := by rw [hm]; rfl
            have e4 : (W.toList == [111, 102]) = true := by rw [hm]; rfl
            have H2 := hidE (H1.out.1.trans (hwk))
            clear hm hhd
            by_cases hlt : k < s.size
            · obtain ⟨_, f1, f2, f3⟩ := HST.out hlt
              go_wp2_with (first | (go_at_call 18; refine (ref_letter _ _).mono ?_; rintro e w' ⟨rfl, rfl⟩) | (go_at_call 19; refine (ref_digit _ _).mono ?_; rintro e w' ⟨rfl, rfl⟩))
              go_ret2
              exact ⟨ret_2 (by rw [H2.out]; rfl) (by rw [H1.out.2]), rfl⟩
            · go_wp2_with (first | (go_at_call 18; refine (ref_letter _ _).mono ?_; rintro e w' ⟨rfl, rfl⟩) | (go_at_call 19; refine (ref_digit _ _).mono ?_; rintro e w' ⟨rfl, rfl⟩))
              go_ret2
              exact ⟨ret_2 (by rw [H2.out]; rfl) (by rw [H1.out.2]), rfl⟩
          · have e0 : (W.toList == [100, 97, 116, 97]) = false := by rw [hm]; rfl
            have e1 : (W.toList == [108, 101, 116]) = false := by rw [hm]; rfl
            have e2 : (W.toList == [105, 110]) = false := by rw [hm]; rfl
            have e3 : (W.toList == [99, 97, 115, 101]) = false := by rw [hm]; rfl
            have e4 : (W.toList == [111, 102]) = false := by rw [hm]; rfl
            have e5 : (W.toList == [102, 111, 114, 97, 108, 108]) = true := by rw [hm]; rfl
            have H2 := hidE (H1.out.1.trans (hwk))
            clear hm hhd
            by_cases hlt : k < s.size
            · obtain ⟨_, f1, f2, f3⟩ := HST.out hlt
              go_wp2_with (first | (go_at_call 18; refine (ref_letter _ _).mono ?_; rintro e w' ⟨rfl, rfl⟩) | (go_at_call 19; refine (ref_digit _ _).mono ?_; rintro e w' ⟨rfl, rfl⟩))
              go_ret2
              exact ⟨ret_2 (by rw [H2.out]; rfl) (by rw [H1.out.2]), rfl⟩
            · go_wp2_with (first | (go_at_call 18; refine (ref_letter _ _).mono ?_; rintro e w' ⟨rfl, rfl⟩) | (go_at_call 19; refine (ref_digit _ _).mono ?_; rintro e w' ⟨rfl, rfl⟩))
              go_ret2
              exact ⟨ret_2 (by rw [H2.out]; rfl) (by rw [H1.out.2]), rfl⟩
        · have e0 : (W.toList == [100, 97, 116, 97]) = false := by rw [beq_eq_false_iff_ne]; intro e; exact hm (by rw [e]; decide)
          have e1 : (W.toList == [108, 101, 116]) = false := by rw [beq_eq_false_iff_ne]; intro e; exact hm (by rw [e]; decide)
          have e2 : (W.toList == [105, 110]) = false := by rw [beq_eq_false_iff_ne]; intro e; exact hm (by rw [e]; decide)
          have e3 : (W.toList == [99, 97, 115, 101]) = false := by rw [beq_eq_false_iff_ne]; intro e; exact hm (by rw [e]; decide)
          have e4 : (W.toList == [111, 102]) = false := by rw [beq_eq_false_iff_ne]; intro e; exact hm (by rw [e]; decide)
          have e5 : (W.toList == [102, 111, 114, 97, 108, 108]) = false := by rw [beq_eq_false_iff_ne]; intro e; exact hm (by rw [e]; decide)
          by_cases hup : s[i].toNat ≤ 90
          · have d90 : decide ((s[i].toNat : Int) ≤ 90) = true := decide_eq_true (by omega)
            have hwk := wk_up _ W rfl hm (by rw [hhd]; simp [isUp]; omega)
            have H2 := hidE (H1.out.1.trans (hwk))
            clear hm hhd
            by_cases hlt : k < s.size
            · obtain ⟨_, f1, f2, f3⟩ := HST.out hlt
              go_wp2_with (first | (go_at_call 18; refine (ref_letter _ _).mono ?_; rintro e w' ⟨rfl, rfl⟩) | (go_at_call 19; refine (ref_digit _ _).mono ?_; rintro e w' ⟨rfl, rfl⟩))
              go_ret2
              exact ⟨ret_2 (by rw [H2.out]; rfl) (by rw [H1.out.2]), rfl⟩
            · go_wp2_with (first | (go_at_call 18; refine (ref_letter _ _).mono ?_; rintro e w' ⟨rfl, rfl⟩) | (go_at_call 19; refine (ref_digit _ _).mono ?_; rintro e w' ⟨rfl, rfl⟩))
              go_ret2
              exact ⟨ret_2 (by rw [H2.out]; rfl) (by rw [H1.out.2]), rfl⟩
          · have d90 : decide ((s[i].toNat : Int) ≤ 90) = false := decide_eq_false (by omega)
            have hwk := wk_low _ W rfl hm (by rw [hhd]; simp [isUp]; omega)
            have H2 := hidE (H1.out.1.trans (hwk))
            clear hm hhd
            by_cases hlt : k < s.size
            · obtain ⟨_, f1, f2, f3⟩ := HST.out hlt
              go_wp2_with (first | (go_at_call 18; refine (ref_letter _ _).mono ?_; rintro e w' ⟨rfl, rfl⟩) | (go_at_call 19; refine (ref_digit _ _).mono ?_; rintro e w' ⟨rfl, rfl⟩))
              go_ret2
              exact ⟨ret_2 (by rw [H2.out]; rfl) (by rw [H1.out.2]), rfl⟩
            · go_wp2_with (first | (go_at_call 18; refine (ref_letter _ _).mono ?_; rintro e w' ⟨rfl, rfl⟩) | (go_at_call 19; refine (ref_digit _ _).mono ?_; rintro e w' ⟨rfl, rfl⟩))
              go_ret2
              exact ⟨ret_2 (by rw [H2.out]; rfl) (by rw [H1.out.2]), rfl⟩

end Go.Proofs.Ytphffibigmpnkaa
