/-
  savantlaw01.LexWords, whatever the text: it answers true, and the text is as it was.
-/
import Derived.Test.YtphffibigmpnkaaLexPureB
import Derived.Test.YtphffibigmpnkaaLexAwake
import Derived.Test.YtphffibigmpnkaaRows
import Derived.ProofKit
import Derived.OpenShut
import Derived.ShutString
import Derived.Carry
namespace Go.Proofs.Ytphffibigmpnkaa.lexWords
open Go.ChangeShapes Go.WideShapes Go.ChangeAt Go.RowKit Lx
open Go.ChangeMaps (open_string shut_string)

theorem own : ownKnob Try.prog.godebug = none := by kernel_rfl

/-- up to place k all bytes are of a word, and the first one is a letter -/
def Upto (s : ByteArray) (k : Nat) : Prop := ∀ j (h : j < s.size), j < k → inW s[j] = true ∧ (j = 0 → isLet s[j] = true)
theorem upto_zero (s : ByteArray) : Upto s 0 := fun j _ h => absurd h (by omega)
theorem upto_succ (s : ByteArray) (k : Nat) (hk : k < s.size) (h : Upto s k) (h1 : inW s[k] = true) (h2 : k = 0 → isLet s[k] = true) : Upto s (k + 1) := by
  intro j hj hjk
  by_cases e : j = k
  · subst e; exact ⟨h1, h2⟩
  · exact h j hj (by omega)

theorem let_yes (c : UInt8) (h : (65 ≤ c.toNat ∧ c.toNat ≤ 90) ∨ (97 ≤ c.toNat ∧ c.toNat ≤ 122)) : isLet c = true := by
  simp [isLet, isUp]; omega
theorem inW_let (c : UInt8) (h : isLet c = true) : inW c = true := by simp [inW, h]
theorem inW_dig (c : UInt8) (h : 48 ≤ c.toNat ∧ c.toNat ≤ 57) : inW c = true := by
  have : isDig c = true := by simp [isDig]; omega
  simp [inW, this]
theorem inW_us (c : UInt8) (h : c = 95) : inW c = true := by subst h; decide

/-- what the loop has found when it is through -/
theorem word_text (s : ByteArray) (h0 : 0 < s.size) (h : Upto s s.size) : ∃ c r, s.data.toList = c :: r ∧ s[0] = c ∧ isLet c = true ∧ (∀ d ∈ c :: r, inW d = true) ∧ (c :: r).length = s.size := by
  have hd := drop_at s 0 h0
  simp only [List.drop_zero] at hd
  refine ⟨s[0], s.data.toList.drop 1, hd, rfl, (h 0 h0 h0).2 rfl, ?_, ?_⟩
  · intro d hdm
    rw [← hd] at hdm
    obtain ⟨j, hj, rfl⟩ := List.getElem_of_mem hdm
    exact (h j (by simpa using hj) (by simpa using hj)).1
  · rw [← hd, Lib.size_eq]

theorem scan_word (s : ByteArray) (h0 : 0 < s.size) (h : Upto s s.size) (hl : s.size ≤ 16) : scanS s.data.toList = ([⟨wordKind s.data.toList, s.data.toList, 0⟩], 0, 0) := by
  obtain ⟨c, r, e, _, h1, h2, h3⟩ := word_text s h0 h
  rw [e]; exact word_scan c r h1 h2 (by omega)
theorem scan_word_long (s : ByteArray) (h0 : 0 < s.size) (h : Upto s s.size) (hl : 16 < s.size) (h4 : s.size ≤ 40) : scanS s.data.toList = ([], 0, 10) := by
  obtain ⟨c, r, e, _, h1, h2, h3⟩ := word_text s h0 h
  rw [e]; exact word_scan_long c r h1 h2 (by omega) (by omega)

theorem run_eql_tok (w : World) (k a : Int) (s : ByteArray) :
    (binOp .eql 30 (.agg #[.int .i64 k, .string s, .int .i64 a]) (.agg #[.int .i64 k, .string s, .int .i64 a])).run Try.prog w = .ok (.bool true) w := by
  have e3 : ∀ (w : World) (a : Int), (Op.equalIn 9999 3 (.int .i64 a) (.int .i64 a)).run Try.prog w = .ok true w := fun w a => by rw [run_equalIn_int w 9998 3 .i64 .i64 a a Try.underlying3]; simp
  have e9 : ∀ (w : World) (a : ByteArray), (Op.equalIn 9999 9 (.string a) (.string a)).run Try.prog w = .ok true w := fun w a => by rw [run_equalIn_string w 9998 9 a a Try.underlying9]; simp
  rw [run_eql_struct, show (10000 : Nat) = 9999 + 1 from rfl, run_equalIn_struct _ _ _ _ _ under_tok held_tok]
  simp only [Program.fieldsOf, Try.underlying30, Op.eqFields]
  simp [part, e3, e9]

theorem kind_key (s : ByteArray) (h : s.toList ∈ keys) : wordKind s.data.toList = 3 := by
  rw [Lib.toList_data] at h
  simp [wordKind, h]
theorem kind_up (s : ByteArray) (h0 : 0 < s.size) (h : s.toList ∉ keys) (hu : s[0].toNat ≤ 90) (hl : 65 ≤ s[0].toNat) : wordKind s.data.toList = 2 := by
  rw [Lib.toList_data] at h
  unfold wordKind
  rw [if_neg h, head_data s h0, if_pos (by simp [isUp]; omega)]
theorem kind_low (s : ByteArray) (h0 : 0 < s.size) (h : s.toList ∉ keys) (hu : 90 < s[0].toNat) : wordKind s.data.toList = 1 := by
  rw [Lib.toList_data] at h
  unfold wordKind
  rw [if_neg h, head_data s h0, if_neg (by simp [isUp]; omega)]
theorem key_head (s : ByteArray) (h0 : 0 < s.size) (c : UInt8) (r : List UInt8) (h : s.toList = c :: r) : s[0] = c := by
  rw [← head_data s h0, ← Lib.toList_data, h]; rfl

/-- the one token of a word, as it lies in memory -/
theorem one_tok (w : World) (p : Option Addr) (c : Nat) (s : ByteArray) (k : Nat) (K : Int) (hK : K = k) (h : RdT w (.slice p 1 c) [⟨k, s.data.toList, 0⟩]) :
    ∃ g, p = some ⟨g, 0, none⟩ ∧ w.cell? ⟨g, 0, none⟩ = some (.int .i64 K) ∧ w.cell? ⟨g, 1, none⟩ = some (.string s) ∧ w.cell? ⟨g, 2, none⟩ = some (.int .i64 0) := by
  obtain ⟨g, c', hv, h0, h1, h2⟩ := h.at_ 0 (by simp)
  injection hv with hA _ hC
  subst hK
  refine ⟨g, hA, by simpa using h0, ?_, by simpa using h2⟩
  have e : (⟨s.data.toList.toArray⟩ : ByteArray) = s := Lib.mk_data s
  simpa [e] using h1


set_option maxHeartbeats 1000000 in
set_option maxRecDepth 100000 in
theorem walk (s : ByteArray) (w : World) : Calls Try.prog 8 #[.string s] w fun e w' => e = .returned (.bool true) ∧ Below w.heap.size w w' := by
  by_cases h0 : 0 < s.size
  · have he := empty_no s h0
    by_cases h40 : 40 < s.size
    · go_enter Try.func8, Try.ntmps8
      go_wp2_with (go_at_call 9; refine (awake_any _).mono ?_; rintro e w1 ⟨rfl, b1⟩)
      go_ret
      exact ⟨rfl, b1⟩
    · have d40 : decide ((40 : Int) < s.size) = false := decide_eq_false (by omega)
      go_enter Try.func8, Try.ntmps8
      go_wp2_with (go_at_call 9; refine (awake_any _).mono ?_; rintro e w1 ⟨rfl, b1⟩; have B1 := hidE b1; clear b1)
      go_loopg [4] s.size (fun gg i wr => ∃ k : Nat, gg = s.size - k ∧ k ≤ s.size ∧ i = .int .i64 k ∧ wr = w1 ∧ Upto s k)
      case atStart => exact ⟨0, rfl, Nat.zero_le _, rfl, rfl, upto_zero s⟩
      case round =>
        obtain ⟨k, rfl, hk, rfl, rfl, hu⟩ := hrel
        have HU := hidE hu
        clear hu
        by_cases hlt : k < s.size
        · have hc := s[k].toNat_lt
          rcases (show (s[k].toNat ≤ 47) ∨ (48 ≤ s[k].toNat ∧ s[k].toNat ≤ 57) ∨ (58 ≤ s[k].toNat ∧ s[k].toNat ≤ 64) ∨ (65 ≤ s[k].toNat ∧ s[k].toNat ≤ 90) ∨ (91 ≤ s[k].toNat ∧ s[k].toNat ≤ 94) ∨ (95 ≤ s[k].toNat ∧ s[k].toNat ≤ 95) ∨ (96 ≤ s[k].toNat ∧ s[k].toNat ≤ 96) ∨ (97 ≤ s[k].toNat ∧ s[k].toNat ≤ 122) ∨ (123 ≤ s[k].toNat) by omega) with r0 | r1 | r2 | r3 | r4 | r5 | r6 | r7 | r8
          · have d97 : decide ((97 : Int) ≤ (s[k].toNat : Int)) = false := decide_eq_false (by omega)
            have d122 : decide ((s[k].toNat : Int) ≤ 122) = true := decide_eq_true (by omega)
            have d65 : decide ((65 : Int) ≤ (s[k].toNat : Int)) = false := decide_eq_false (by omega)
            have d90 : decide ((s[k].toNat : Int) ≤ 90) = true := decide_eq_true (by omega)
            have d48 : decide ((s[k].toNat : Int) < 48) = true := decide_eq_true (by omega)
            have d57 : decide ((57 : Int) < (s[k].toNat : Int)) = false := decide_eq_false (by omega)
            by_cases hk0 : k = 0
            · have dk : ((k : Int) == 0) = true := by rw [hk0]; rfl
              clear hk0
              go_wp2_with fail
              go_ret
              exact ⟨rfl, B1.out⟩
            · have dk : ((k : Int) == 0) = false := by rw [Bool.eq_false_iff]; intro h; simp at h; omega
              have d95 : ((s[k].toNat : Int) != 95) = true := by simp; omega
              go_wp2_with fail
              go_ret
              exact ⟨rfl, B1.out⟩
          · have d97 : decide ((97 : Int) ≤ (s[k].toNat : Int)) = false := decide_eq_false (by omega)
            have d122 : decide ((s[k].toNat : Int) ≤ 122) = true := decide_eq_true (by omega)
            have d65 : decide ((65 : Int) ≤ (s[k].toNat : Int)) = false := decide_eq_false (by omega)
            have d90 : decide ((s[k].toNat : Int) ≤ 90) = true := decide_eq_true (by omega)
            have d48 : decide ((s[k].toNat : Int) < 48) = false := decide_eq_false (by omega)
            have d57 : decide ((57 : Int) < (s[k].toNat : Int)) = false := decide_eq_false (by omega)
            by_cases hk0 : k = 0
            · have dk : ((k : Int) == 0) = true := by rw [hk0]; rfl
              clear hk0
              go_wp2_with fail
              go_ret
              exact ⟨rfl, B1.out⟩
            · have dk : ((k : Int) == 0) = false := by rw [Bool.eq_false_iff]; intro h; simp at h; omega
              have d95 : ((s[k].toNat : Int) != 95) = true := by simp; omega
              have HS := hidE (upto_succ s k hlt HU.out (inW_dig _ (by omega)) (fun e => absurd e hk0))
              go_wp2_with fail
              go_roundg (s.size - (k + 1))
              case measure => omega
              case rel => exact ⟨k + 1, rfl, by omega, by go_num, rfl, HS.out⟩
          · have d97 : decide ((97 : Int) ≤ (s[k].toNat : Int)) = false := decide_eq_false (by omega)
            have d122 : decide ((s[k].toNat : Int) ≤ 122) = true := decide_eq_true (by omega)
            have d65 : decide ((65 : Int) ≤ (s[k].toNat : Int)) = false := decide_eq_false (by omega)
            have d90 : decide ((s[k].toNat : Int) ≤ 90) = true := decide_eq_true (by omega)
            have d48 : decide ((s[k].toNat : Int) < 48) = false := decide_eq_false (by omega)
            have d57 : decide ((57 : Int) < (s[k].toNat : Int)) = true := decide_eq_true (by omega)
            by_cases hk0 : k = 0
            · have dk : ((k : Int) == 0) = true := by rw [hk0]; rfl
              clear hk0
              go_wp2_with fail
              go_ret
              exact ⟨rfl, B1.out⟩
            · have dk : ((k : Int) == 0) = false := by rw [Bool.eq_false_iff]; intro h; simp at h; omega
              have d95 : ((s[k].toNat : Int) != 95) = true := by simp; omega
              go_wp2_with fail
              go_ret
              exact ⟨rfl, B1.out⟩
          · have d97 : decide ((97 : Int) ≤ (s[k].toNat : Int)) = false := decide_eq_false (by omega)
            have d122 : decide ((s[k].toNat : Int) ≤ 122) = true := decide_eq_true (by omega)
            have d65 : decide ((65 : Int) ≤ (s[k].toNat : Int)) = true := decide_eq_true (by omega)
            have d90 : decide ((s[k].toNat : Int) ≤ 90) = true := decide_eq_true (by omega)
            have d48 : decide ((s[k].toNat : Int) < 48) = false := decide_eq_false (by omega)
            have d57 : decide ((57 : Int) < (s[k].toNat : Int)) = true := decide_eq_true (by omega)
            have hl := let_yes s[k] (by omega)
            have HS := hidE (upto_succ s k hlt HU.out (inW_let _ hl) (fun _ => hl))
            go_wp2_with fail
            go_roundg (s.size - (k + 1))
            case measure => omega
            case rel => exact ⟨k + 1, rfl, by omega, by go_num, rfl, HS.out⟩
          · have d97 : decide ((97 : Int) ≤ (s[k].toNat : Int)) = false := decide_eq_false (by omega)
            have d122 : decide ((s[k].toNat : Int) ≤ 122) = true := decide_eq_true (by omega)
            have d65 : decide ((65 : Int) ≤ (s[k].toNat : Int)) = true := decide_eq_true (by omega)
            have d90 : decide ((s[k].toNat : Int) ≤ 90) = false := decide_eq_false (by omega)
            have d48 : decide ((s[k].toNat : Int) < 48) = false := decide_eq_false (by omega)
            have d57 : decide ((57 : Int) < (s[k].toNat : Int)) = true := decide_eq_true (by omega)
            by_cases hk0 : k = 0
            · have dk : ((k : Int) == 0) = true := by rw [hk0]; rfl
              clear hk0
              go_wp2_with fail
              go_ret
              exact ⟨rfl, B1.out⟩
            · have dk : ((k : Int) == 0) = false := by rw [Bool.eq_false_iff]; intro h; simp at h; omega
              have d95 : ((s[k].toNat : Int) != 95) = true := by simp; omega
              go_wp2_with fail
              go_ret
              exact ⟨rfl, B1.out⟩
          · have d97 : decide ((97 : Int) ≤ (s[k].toNat : Int)) = false := decide_eq_false (by omega)
            have d122 : decide ((s[k].toNat : Int) ≤ 122) = true := decide_eq_true (by omega)
            have d65 : decide ((65 : Int) ≤ (s[k].toNat : Int)) = true := decide_eq_true (by omega)
            have d90 : decide ((s[k].toNat : Int) ≤ 90) = false := decide_eq_false (by omega)
            have d48 : decide ((s[k].toNat : Int) < 48) = false := decide_eq_false (by omega)
            have d57 : decide ((57 : Int) < (s[k].toNat : Int)) = true := decide_eq_true (by omega)
            by_cases hk0 : k = 0
            · have dk : ((k : Int) == 0) = true := by rw [hk0]; rfl
              clear hk0
              go_wp2_with fail
              go_ret
              exact ⟨rfl, B1.out⟩
            · have dk : ((k : Int) == 0) = false := by rw [Bool.eq_false_iff]; intro h; simp at h; omega
              have e95 : s[k] = 95 := by rw [← UInt8.toNat_inj]; simp; omega
              have hw := hidE (inW_us _ e95)
              have d95 : ((s[k].toNat : Int) != 95) = false := by rw [e95]; rfl
              clear e95
              have HS := hidE (upto_succ s k hlt HU.out hw.out (fun e => absurd e hk0))
              go_wp2_with fail
              go_roundg (s.size - (k + 1))
              case measure => omega
              case rel => exact ⟨k + 1, rfl, by omega, by go_num, rfl, HS.out⟩
          · have d97 : decide ((97 : Int) ≤ (s[k].toNat : Int)) = false := decide_eq_false (by omega)
            have d122 : decide ((s[k].toNat : Int) ≤ 122) = true := decide_eq_true (by omega)
            have d65 : decide ((65 : Int) ≤ (s[k].toNat : Int)) = true := decide_eq_true (by omega)
            have d90 : decide ((s[k].toNat : Int) ≤ 90) = false := decide_eq_false (by omega)
            have d48 : decide ((s[k].toNat : Int) < 48) = false := decide_eq_false (by omega)
            have d57 : decide ((57 : Int) < (s[k].toNat : Int)) = true := decide_eq_true (by omega)
            by_cases hk0 : k = 0
            · have dk : ((k : Int) == 0) = true := by rw [hk0]; rfl
              clear hk0
              go_wp2_with fail
              go_ret
              exact ⟨rfl, B1.out⟩
            · have dk : ((k : Int) == 0) = false := by rw [Bool.eq_false_iff]; intro h; simp at h; omega
              have d95 : ((s[k].toNat : Int) != 95) = true := by simp; omega
              go_wp2_with fail
              go_ret
              exact ⟨rfl, B1.out⟩
          · have d97 : decide ((97 : Int) ≤ (s[k].toNat : Int)) = true := decide_eq_true (by omega)
            have d122 : decide ((s[k].toNat : Int) ≤ 122) = true := decide_eq_true (by omega)
            have d65 : decide ((65 : Int) ≤ (s[k].toNat : Int)) = true := decide_eq_true (by omega)
            have d90 : decide ((s[k].toNat : Int) ≤ 90) = false := decide_eq_false (by omega)
            have d48 : decide ((s[k].toNat : Int) < 48) = false := decide_eq_false (by omega)
            have d57 : decide ((57 : Int) < (s[k].toNat : Int)) = true := decide_eq_true (by omega)
            have hl := let_yes s[k] (by omega)
            have HS := hidE (upto_succ s k hlt HU.out (inW_let _ hl) (fun _ => hl))
            go_wp2_with fail
            go_roundg (s.size - (k + 1))
            case measure => omega
            case rel => exact ⟨k + 1, rfl, by omega, by go_num, rfl, HS.out⟩
          · have d97 : decide ((97 : Int) ≤ (s[k].toNat : Int)) = true := decide_eq_true (by omega)
            have d122 : decide ((s[k].toNat : Int) ≤ 122) = false := decide_eq_false (by omega)
            have d65 : decide ((65 : Int) ≤ (s[k].toNat : Int)) = true := decide_eq_true (by omega)
            have d90 : decide ((s[k].toNat : Int) ≤ 90) = false := decide_eq_false (by omega)
            have d48 : decide ((s[k].toNat : Int) < 48) = false := decide_eq_false (by omega)
            have d57 : decide ((57 : Int) < (s[k].toNat : Int)) = true := decide_eq_true (by omega)
            by_cases hk0 : k = 0
            · have dk : ((k : Int) == 0) = true := by rw [hk0]; rfl
              clear hk0
              go_wp2_with fail
              go_ret
              exact ⟨rfl, B1.out⟩
            · have dk : ((k : Int) == 0) = false := by rw [Bool.eq_false_iff]; intro h; simp at h; omega
              have d95 : ((s[k].toNat : Int) != 95) = true := by simp; omega
              go_wp2_with fail
              go_ret
              exact ⟨rfl, B1.out⟩
        · have hke : k = s.size := by omega
          have HS := hidE (hke ▸ HU.out : Upto s s.size)
          have HK := hidE hke
          clear hke HU
          by_cases h16 : 16 < s.size
          · have SC := fun w => scan_known s w [] 0 10 0 0 10 rfl (scan_word_long s h0 HS.out h16 (by omega)) rfl rfl (by unfold maxLen; omega)
            go_wp2_with (go_at_call 10; refine (SC _).mono ?_; rintro e w2 ⟨p, c, rfl, r2, b2⟩; have B2 := hidE b2; clear r2 b2)
            go_ret
            exact ⟨rfl, bnext B1.out B2.out (Nat.le_refl _)⟩
          · obtain ⟨hd1, hd2⟩ := (HS.out 0 h0 h0)
            have hlr := let_range s[0] (hd2 rfl)
            have heq := run_eql_tok
            clear hd1 hd2
            by_cases hm : s.toList ∈ keys
            · have hwk := kind_key s hm
              simp only [keys, List.mem_cons, List.not_mem_nil, or_false] at hm
              rcases hm with hm | hm | hm | hm | hm | hm
              · have hs0 := key_head s h0 _ _ hm
                have d90 : decide ((s[0].toNat : Int) ≤ 90) = false := by rw [hs0]; rfl
                have e0 : (s.toList == [100, 97, 116, 97]) = true := by rw [hm]; rfl
                clear hs0 hm
                have SC := fun w => scan_known s w [⟨3, s.data.toList, 0⟩] 0 0 1 0 0 rfl (by rw [scan_word s h0 HS.out (by omega), hwk]) rfl rfl (by unfold maxLen; omega)
                go_wp2_with (go_at_call 10; refine (SC _).mono ?_; rintro e w2 ⟨p, c, rfl, r2, b2⟩; obtain ⟨g, rfl, x0, x1, x2⟩ := one_tok w2 p c s 3 3 rfl r2; have B2 := hidE b2; clear r2 b2)
                go_ret
                exact ⟨rfl, bnext B1.out B2.out (Nat.le_refl _)⟩
              · have hs0 := key_head s h0 _ _ hm
                have d90 : decide ((s[0].toNat : Int) ≤ 90) = false := by rw [hs0]; rfl
                have e0 : (s.toList == [100, 97, 116, 97]) = false := by rw [hm]; rfl
                have e1 : (s.toList == [108, 101, 116]) = true := by rw [hm]; rfl
                clear hs0 hm
                have SC := fun w => scan_known s w [⟨3, s.data.toList, 0⟩] 0 0 1 0 0 rfl (by rw [scan_word s h0 HS.out (by omega), hwk]) rfl rfl (by unfold maxLen; omega)
                go_wp2_with (go_at_call 10; refine (SC _).mono ?_; rintro e w2 ⟨p, c, rfl, r2, b2⟩; obtain ⟨g, rfl, x0, x1, x2⟩ := one_tok w2 p c s 3 3 rfl r2; have B2 := hidE b2; clear r2 b2)
                go_ret
                exact ⟨rfl, bnext B1.out B2.out (Nat.le_refl _)⟩
              · have hs0 := key_head s h0 _ _ hm
                have d90 : decide ((s[0].toNat : Int) ≤ 90) = false := by rw [hs0]; rfl
                have e0 : (s.toList == [100, 97, 116, 97]) = false := by rw [hm]; rfl
                have e1 : (s.toList == [108, 101, 116]) = false := by rw [hm]; rfl
                have e2 : (s.toList == [105, 110]) = true := by rw [hm]; rfl
                clear hs0 hm
                have SC := fun w => scan_known s w [⟨3, s.data.toList, 0⟩] 0 0 1 0 0 rfl (by rw [scan_word s h0 HS.out (by omega), hwk]) rfl rfl (by unfold maxLen; omega)
                go_wp2_with (go_at_call 10; refine (SC _).mono ?_; rintro e w2 ⟨p, c, rfl, r2, b2⟩; obtain ⟨g, rfl, x0, x1, x2⟩ := one_tok w2 p c s 3 3 rfl r2; have B2 := hidE b2; clear r2 b2)
                go_ret
                exact ⟨rfl, bnext B1.out B2.out (Nat.le_refl _)⟩
              · have hs0 := key_head s h0 _ _ hm
                have d90 : decide ((s[0].toNat : Int) ≤ 90) = false := by rw [hs0]; rfl
                have e0 : (s.toList == [100, 97, 116, 97]) = false := by rw [hm]; rfl
                have e1 : (s.toList == [108, 101, 116]) = false := by rw [hm]; rfl
                have e2 : (s.toList == [105, 110]) = false := by rw [hm]; rfl
                have e3 : (s.toList == [99, 97, 115, 101]) = true := by rw [hm]; rfl
                clear hs0 hm
                have SC := fun w => scan_known s w [⟨3, s.data.toList, 0⟩] 0 0 1 0 0 rfl (by rw [scan_word s h0 HS.out (by omega), hwk]) rfl rfl (by unfold maxLen; omega)
                go_wp2_with (go_at_call 10; refine (SC _).mono ?_; rintro e w2 ⟨p, c, rfl, r2, b2⟩; obtain ⟨g, rfl, x0, x1, x2⟩ := one_tok w2 p c s 3 3 rfl r2; have B2 := hidE b2; clear r2 b2)
                go_ret
                exact ⟨rfl, bnext B1.out B2.out (Nat.le_refl _)⟩
              · have hs0 := key_head s h0 _ _ hm
                have d90 : decide ((s[0].toNat : Int) ≤ 90) = false := by rw [hs0]; rfl
                have e0 : (s.toList == [100, 97, 116, 97]) = false := by rw [hm]; rfl
                have e1 : (s.toList == [108, 101, 116]) = false := by rw [hm]; rfl
                have e2 : (s.toList == [105, 110]) = false := by rw [hm]; rfl
                have e3 : (s.toList == [99, 97, 115, 101]) = false := by rw [hm]; rfl
                have e4 : (s.toList == [111, 102]) = true := by rw [hm]; rfl
                clear hs0 hm
                have SC := fun w => scan_known s w [⟨3, s.data.toList, 0⟩] 0 0 1 0 0 rfl (by rw [scan_word s h0 HS.out (by omega), hwk]) rfl rfl (by unfold maxLen; omega)
                go_wp2_with (go_at_call 10; refine (SC _).mono ?_; rintro e w2 ⟨p, c, rfl, r2, b2⟩; obtain ⟨g, rfl, x0, x1, x2⟩ := one_tok w2 p c s 3 3 rfl r2; have B2 := hidE b2; clear r2 b2)
                go_ret
                exact ⟨rfl, bnext B1.out B2.out (Nat.le_refl _)⟩
              · have hs0 := key_head s h0 _ _ hm
                have d90 : decide ((s[0].toNat : Int) ≤ 90) = false := by rw [hs0]; rfl
                have e0 : (s.toList == [100, 97, 116, 97]) = false := by rw [hm]; rfl
                have e1 : (s.toList == [108, 101, 116]) = false := by rw [hm]; rfl
                have e2 : (s.toList == [105, 110]) = false := by rw [hm]; rfl
                have e3 : (s.toList == [99, 97, 115, 101]) = false := by rw [hm]; rfl
                have e4 : (s.toList == [111, 102]) = false := by rw [hm]; rfl
                have e5 : (s.toList == [102, 111, 114, 97, 108, 108]) = true := by rw [hm]; rfl
                clear hs0 hm
                have SC := fun w => scan_known s w [⟨3, s.data.toList, 0⟩] 0 0 1 0 0 rfl (by rw [scan_word s h0 HS.out (by omega), hwk]) rfl rfl (by unfold maxLen; omega)
                go_wp2_with (go_at_call 10; refine (SC _).mono ?_; rintro e w2 ⟨p, c, rfl, r2, b2⟩; obtain ⟨g, rfl, x0, x1, x2⟩ := one_tok w2 p c s 3 3 rfl r2; have B2 := hidE b2; clear r2 b2)
                go_ret
                exact ⟨rfl, bnext B1.out B2.out (Nat.le_refl _)⟩
            · have e0 : (s.toList == [100, 97, 116, 97]) = false := by rw [beq_eq_false_iff_ne]; intro e; exact hm (by rw [e]; decide)
              have e1 : (s.toList == [108, 101, 116]) = false := by rw [beq_eq_false_iff_ne]; intro e; exact hm (by rw [e]; decide)
              have e2 : (s.toList == [105, 110]) = false := by rw [beq_eq_false_iff_ne]; intro e; exact hm (by rw [e]; decide)
              have e3 : (s.toList == [99, 97, 115, 101]) = false := by rw [beq_eq_false_iff_ne]; intro e; exact hm (by rw [e]; decide)
              have e4 : (s.toList == [111, 102]) = false := by rw [beq_eq_false_iff_ne]; intro e; exact hm (by rw [e]; decide)
              have e5 : (s.toList == [102, 111, 114, 97, 108, 108]) = false := by rw [beq_eq_false_iff_ne]; intro e; exact hm (by rw [e]; decide)
              by_cases hup : s[0].toNat ≤ 90
              · have hwk := kind_up s h0 hm hup (by omega)
                have d90 : decide ((s[0].toNat : Int) ≤ 90) = true := decide_eq_true (by omega)
                clear hm
                have SC := fun w => scan_known s w [⟨2, s.data.toList, 0⟩] 0 0 1 0 0 rfl (by rw [scan_word s h0 HS.out (by omega), hwk]) rfl rfl (by unfold maxLen; omega)
                go_wp2_with (go_at_call 10; refine (SC _).mono ?_; rintro e w2 ⟨p, c, rfl, r2, b2⟩; obtain ⟨g, rfl, x0, x1, x2⟩ := one_tok w2 p c s 2 2 rfl r2; have B2 := hidE b2; clear r2 b2)
                go_ret
                exact ⟨rfl, bnext B1.out B2.out (Nat.le_refl _)⟩
              · have hwk := kind_low s h0 hm (by omega)
                have d90 : decide ((s[0].toNat : Int) ≤ 90) = false := decide_eq_false (by omega)
                clear hm
                have SC := fun w => scan_known s w [⟨1, s.data.toList, 0⟩] 0 0 1 0 0 rfl (by rw [scan_word s h0 HS.out (by omega), hwk]) rfl rfl (by unfold maxLen; omega)
                go_wp2_with (go_at_call 10; refine (SC _).mono ?_; rintro e w2 ⟨p, c, rfl, r2, b2⟩; obtain ⟨g, rfl, x0, x1, x2⟩ := one_tok w2 p c s 1 1 rfl r2; have B2 := hidE b2; clear r2 b2)
                go_ret
                exact ⟨rfl, bnext B1.out B2.out (Nat.le_refl _)⟩
  · have he := empty_yes s h0
    go_enter Try.func8, Try.ntmps8
    go_wp2_with (go_at_call 9; refine (awake_any _).mono ?_; rintro e w1 ⟨rfl, b1⟩)
    go_ret
    exact ⟨rfl, b1⟩

/-! ### the row's step -/
set_option maxRecDepth 100000 in
theorem lifted (os : Os) (started : os.Started) (H : Type) (enc : TypeId × Value → H) :
    ReturnsInHanded {} Try.checked os 8 .any (Rows.lexWordsSpec.pre6 enc Try.prog Try.f8 Rows.lexWordsRow.domain false) (Rows.lexWordsSpec.post enc Try.prog Try.f8 false true false false) := by
  refine returnsInHanded_of_change (C := Try.checked) own started (by kernel_rfl) Try.func8
    (ChangeSpec.witness6 (enc := enc) (C := Try.checked) false ⟨#[], #[.string ByteArray.empty], []⟩ 8 (by kernel_rfl) (by kernel_rfl) (by kernel_rfl) (by kernel_rfl)) ?_
  intro W base args ds gs before hval0 hW hcnd _
  have hval : ∀ (j : Nat) t v, Try.f8.params[j]? = some t → args[j]? = some v → Value.okWide Try.prog W .any base t v := hval0
  have hW' := hW
  obtain ⟨p, q, hA0, hV, rfl, hfz, hnd⟩ := hW
  have hA : DataW.TrodAll enc Try.prog W 0 (fun _ => true) true Try.f8.params.toList args.toList ds p := hA0
  rw [Try.params8] at hA hval
  obtain ⟨v0, vs0, d0, ds0, p0, q0, hargs, rfl, rfl, h0, r0⟩ := trodAll_cons hA
  obtain ⟨rfl, rfl, rfl⟩ := trodAll_nil r0
  obtain rfl : args = #[v0] := by cases args; simp_all
  obtain ⟨rfl, rfl⟩ := trodVars_none hV
  obtain ⟨a0, rfl, rfl, rfl, w0⟩ := open_string Try.underlying9 (hval 0 9 v0 rfl rfl) h0
  clear hA0 hval0
  simp only [List.append_nil] at hW'
  refine (walk a0 W).mono fun e W' ⟨he, hg⟩ => ?_
  subst he
  exact ⟨_, rfl, _, _, _, [], [], [], hW', trodAll_cons_mk (shut_bool Try.underlying4 _) trodAll_mk0, trodAll_cons_mk (shut_string Try.underlying9 w0) trodAll_mk0, rfl, hg.frame _, fun h => by cases h⟩

theorem over : Rows.lexWordsRow.holds Try.pinned (OpenSpec.ofChange Rows.lexWordsSpec) :=
  OpenClaim.holds_of_wide 8 Try.f8 rfl rfl rfl rfl rfl rfl rfl ⟨rfl, rfl, rfl, rfl, rfl⟩ rfl rfl rfl rfl rfl (by kernel_rfl) Try.func8 (by kernel_rfl)
    (of_decide_eq_true (by kernel_rfl)) (by unfold Func.isWrapper; first | (rw [if_pos (by decide +kernel)]; kernel_rfl) | (rw [if_neg (by decide +kernel)]; exact ⟨rfl, rfl⟩))
    (fun os started H enc _ => lifted os started H enc)

/-- the statement -/
theorem proved : Rows.LexWordsSaid :=
  over
#print axioms proved
end Go.Proofs.Ytphffibigmpnkaa.lexWords
