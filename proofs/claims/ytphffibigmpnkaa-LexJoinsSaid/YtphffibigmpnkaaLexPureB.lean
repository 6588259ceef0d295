/-
  The plain mathematics behind the laws on single words and numbers.
-/
import Derived.Test.YtphffibigmpnkaaLexScanP
namespace Go.Proofs.Ytphffibigmpnkaa
namespace Lx

theorem span_all (p : UInt8 → Bool) (l : List UInt8) (h : ∀ c ∈ l, p c = true) : span p l = l.length := by
  induction l with
  | nil => rfl
  | cons c r ih =>
    rw [span, if_pos (h c List.mem_cons_self), ih (fun d hd => h d (List.mem_cons_of_mem _ hd))]
    rfl

theorem let_range (c : UInt8) (h : isLet c = true) : (65 ≤ c.toNat ∧ c.toNat ≤ 90) ∨ (97 ≤ c.toNat ∧ c.toNat ≤ 122) := by
  simp [isLet, isUp] at h
  omega
theorem dig_range (c : UInt8) (h : isDig c = true) : 48 ≤ c.toNat ∧ c.toNat ≤ 57 := by
  simp [isDig] at h
  omega
theorem u8_ne (c d : UInt8) (h : c.toNat ≠ d.toNat) : c ≠ d := fun e => h (by rw [e])

/-- a byte at which a token may begin, as one that is no blank and no remark -/
theorem btw_no (c : UInt8) (r : List UInt8) (h : 36 ≤ c.toNat) : btw false (c :: r) = 0 := by
  rw [btw, if_neg, if_neg]
  · exact u8_ne _ _ (by simp; omega)
  · rintro (e | e | e) <;> exact absurd e (u8_ne _ _ (by simp; omega))

theorem sc_nil (i : Nat) : sc i [] = .ok [] := rfl

/-- a text that is just one token -/
theorem lex_one (c : UInt8) (r : List UInt8) (k : Nat) (h : 36 ≤ c.toNat) (hf : first (c :: r) = (k, (c :: r).length)) (hk : k ≠ 0) : lex (c :: r) = .ok [⟨k, c :: r, 0⟩] := by
  rw [lex_sc, sc_unfold, btw_no c r h, List.drop_zero, if_neg (by simp), hf, if_neg hk, List.drop_length, List.take_length, sc_nil]
  rfl
/-- a text at whose begin no token begins -/
theorem lex_none (c : UInt8) (r : List UInt8) (n : Nat) (h : 36 ≤ c.toNat) (hf : first (c :: r) = (0, n)) : lex (c :: r) = .error 0 := by
  rw [lex_sc, sc_unfold, btw_no c r h, List.drop_zero, if_neg (by simp), hf, if_pos rfl]

theorem scanS_ok (l : List UInt8) (ts : List Tok) (h : l.length ≤ 4000) (hx : lex l = .ok ts) : scanS l = (ts, 0, 0) := by
  unfold scanS; rw [if_neg (by omega), hx]
theorem scanS_bad (l : List UInt8) (a : Nat) (h : l.length ≤ 4000) (hx : lex l = .error a) : scanS l = ([], a, 10) := by
  unfold scanS; rw [if_neg (by omega), hx]

theorem wordKind_pos (l : List UInt8) : wordKind l ≠ 0 := by
  unfold wordKind
  split
  · omega
  · split <;> omega

theorem word_scan (c : UInt8) (r : List UInt8) (hc : isLet c = true) (hr : ∀ d ∈ c :: r, inW d = true) (hl : (c :: r).length ≤ 16) : scanS (c :: r) = ([⟨wordKind (c :: r), c :: r, 0⟩], 0, 0) := by
  have hsp := span_all inW _ hr
  refine scanS_ok _ _ (by omega) (lex_one c r _ (by have := let_range c hc; omega) ?_ (wordKind_pos _))
  rw [first, if_pos hc, word, hsp, if_neg (by omega), List.take_length]
theorem word_scan_long (c : UInt8) (r : List UInt8) (hc : isLet c = true) (hr : ∀ d ∈ c :: r, inW d = true) (hl : 16 < (c :: r).length) (h4 : (c :: r).length ≤ 4000) : scanS (c :: r) = ([], 0, 10) := by
  have hsp := span_all inW _ hr
  refine scanS_bad _ _ h4 (lex_none c r 0 (by have := let_range c hc; omega) ?_)
  rw [first, if_pos hc, word, hsp, if_pos hl]

theorem dig_not_let (c : UInt8) (h : isDig c = true) : isLet c = false := by
  have := dig_range c h
  simp [isLet, isUp]
  omega

theorem num_scan (c : UInt8) (r : List UInt8) (hr : ∀ d ∈ c :: r, isDig d = true) (hl : (c :: r).length ≤ 6) (h0 : c = 48 → r = []) : scanS (c :: r) = ([⟨4, c :: r, 0⟩], 0, 0) := by
  have hsp := span_all isDig _ hr
  have hc := hr c List.mem_cons_self
  refine scanS_ok _ _ (by omega) (lex_one c r 4 (by have := dig_range c hc; omega) ?_ (by decide))
  rw [first, if_neg (by rw [dig_not_let c hc]; decide), if_pos hc, number, if_neg, hsp]
  simp only [badNum, hsp, decide_eq_true_eq, List.length_cons, List.headD_cons]
  rintro (h | h | ⟨h, e⟩)
  · omega
  · simp at hl; omega
  · rw [h0 e] at h; simp at h

theorem num_scan_long (c : UInt8) (r : List UInt8) (hr : ∀ d ∈ c :: r, isDig d = true) (hl : 6 < (c :: r).length) (h4 : (c :: r).length ≤ 4000) : scanS (c :: r) = ([], 0, 10) := by
  have hsp := span_all isDig _ hr
  have hc := hr c List.mem_cons_self
  refine scanS_bad _ _ h4 (lex_none c r 0 (by have := dig_range c hc; omega) ?_)
  rw [first, if_neg (by rw [dig_not_let c hc]; decide), if_pos hc, number, if_pos]
  simp only [badNum, hsp, decide_eq_true_eq]
  omega

theorem meta_scan (c : UInt8) (r : List UInt8) (hr : ∀ d ∈ c :: r, isDig d = true) (hl : (c :: r).length ≤ 6) (h0 : c = 48 → r = []) : scanS (63 :: c :: r) = ([⟨5, 63 :: c :: r, 0⟩], 0, 0) := by
  have hsp := span_all isDig _ hr
  have hn : number (c :: r) = (4, (c :: r).length) := by
    rw [number, if_neg, hsp]
    simp only [badNum, hsp, decide_eq_true_eq, List.length_cons, List.headD_cons]
    rintro (h | h | ⟨h, e⟩)
    · omega
    · simp at hl; omega
    · rw [h0 e] at h; simp at h
  refine scanS_ok _ _ (by simp at hl ⊢; omega) (lex_one 63 _ 5 (by decide) ?_ (by decide))
  rw [first, if_neg (by decide), if_neg (by decide), if_pos rfl, meta_]
  simp only [List.drop_succ_cons, List.drop_zero, hn, List.length_cons]
  rw [if_neg (by omega)]
  simp
  omega

theorem meta_scan_long (c : UInt8) (r : List UInt8) (hr : ∀ d ∈ c :: r, isDig d = true) (hl : 6 < (c :: r).length) (h4 : (c :: r).length ≤ 3999) : scanS (63 :: c :: r) = ([], 0, 10) := by
  have hsp := span_all isDig _ hr
  have hn : number (c :: r) = (0, 0) := by
    rw [number, if_pos]
    simp only [badNum, hsp, decide_eq_true_eq]
    omega
  refine scanS_bad _ _ (by simp at h4 ⊢; omega) (lex_none 63 _ 0 (by decide) ?_)
  rw [first, if_neg (by decide), if_neg (by decide), if_pos rfl, meta_]
  simp only [List.drop_succ_cons, List.drop_zero, hn]
  rfl

end Lx
end Go.Proofs.Ytphffibigmpnkaa
