/-
  The plain mathematics behind LexJoins: tokens with a blank, or a remark, behind each are the same tokens.
-/
import Derived.Test.YtphffibigmpnkaaLexCov
namespace Go.Proofs.Ytphffibigmpnkaa
namespace Lx

theorem span_appd (p : UInt8 → Bool) (d : UInt8) (h : p d = false) (r t : List UInt8) : span p (r ++ d :: t) = span p r := by
  induction r with
  | nil => simp [span, h]
  | cons c r ih => rw [List.cons_append, span, span, ih]

theorem number_appd (d : UInt8) (h : isDig d = false) (r t : List UInt8) : number (r ++ d :: t) = number r := by
  unfold number badNum
  rw [span_appd isDig d h]
  cases r with
  | nil => rfl
  | cons c r => rfl

/-- a byte that no token goes on with -/
def ends (d : UInt8) : Prop := inW d = false ∧ isDig d = false ∧ d ≠ 62

theorem first_appd (d : UInt8) (hd : ends d) (r t : List UInt8) (hr : r ≠ []) : first (r ++ d :: t) = first r := by
  obtain ⟨d1, d2, d3⟩ := hd
  cases r with
  | nil => exact absurd rfl hr
  | cons c r =>
    rw [List.cons_append, first, first]
    have e : c :: (r ++ d :: t) = (c :: r) ++ d :: t := rfl
    rw [e]
    by_cases h1 : isLet c = true
    · rw [if_pos h1, if_pos h1]
      unfold word
      rw [span_appd inW d d1, List.take_append_of_le_length (span_le _ _)]
    · rw [if_neg h1, if_neg h1, number_appd d d2]
      by_cases h2 : isDig c = true
      · rw [if_pos h2, if_pos h2]
      · rw [if_neg h2, if_neg h2]
        by_cases h3 : c = 63
        · rw [if_pos h3, if_pos h3]
          unfold meta_
          rw [show ((c :: r) ++ d :: t).drop 1 = r ++ d :: t from rfl, number_appd d d2]
          rfl
        · rw [if_neg h3, if_neg h3]
          unfold sign
          have hp : ∀ a : UInt8, pre [a, 62] ((c :: r) ++ d :: t) = pre [a, 62] (c :: r) := by
            intro a
            cases r with
            | nil => simp [pre, List.isPrefixOf]; intro _ e; exact d3 e.symm
            | cons x r => simp [pre, List.isPrefixOf]
          rw [hp, hp]
          rfl

theorem span_take (p : UInt8 → Bool) (l : List UInt8) (n : Nat) (h : span p l = n) : span p (l.take n) = n := by
  induction l generalizing n with
  | nil => simp [span] at h ⊢; omega
  | cons c r ih =>
    rw [span] at h
    by_cases hp : p c = true
    · rw [if_pos hp] at h
      obtain ⟨m, rfl⟩ : ∃ m, n = m + 1 := ⟨n - 1, by omega⟩
      rw [List.take_succ_cons, span, if_pos hp, ih m (by omega)]
    · rw [if_neg hp] at h
      subst h
      rfl

theorem number_take (l : List UInt8) (n : Nat) (h : number l = (4, n)) : number (l.take n) = (4, n) := by
  have hb : badNum l = false := by
    cases hx : badNum l with
    | false => rfl
    | true => unfold number at h; rw [if_pos hx] at h; simp at h
  unfold number at h
  rw [hb, if_neg (by simp)] at h
  have hs : span isDig l = n := by injection h
  have hn : n ≠ 0 := by intro e; subst e; simp [badNum, hs] at hb
  have hh : (l.take n).headD 0 = l.headD 0 := by
    cases l with
    | nil => simp
    | cons c r => obtain ⟨m, rfl⟩ : ∃ m, n = m + 1 := ⟨n - 1, by omega⟩; rfl
  have hb2 : badNum (l.take n) = badNum l := by unfold badNum; rw [span_take _ _ _ hs, hs, hh]
  unfold number
  rw [hb2, hb, if_neg (by simp), span_take _ _ _ hs]

/-- a token alone is that token -/
theorem first_take (r : List UInt8) (k n : Nat) (h : first r = (k, n)) (hk : k ≠ 0) : first (r.take n) = (k, n) := by
  have hp := first_pos r (by rw [h]; exact hk)
  rw [h] at hp
  simp only at hp
  cases r with
  | nil => simp [first] at h; omega
  | cons c r =>
    obtain ⟨m, rfl⟩ : ∃ m, n = m + 1 := ⟨n - 1, by omega⟩
    rw [List.take_succ_cons, first]
    rw [first] at h
    have e : c :: r.take m = (c :: r).take (m + 1) := rfl
    by_cases h1 : isLet c = true
    · rw [if_pos h1] at h ⊢
      unfold word at h ⊢
      by_cases hs : 16 < span inW (c :: r)
      · rw [if_pos hs] at h; injection h with h _; omega
      · rw [if_neg hs] at h
        injection h with ha hb
        have ht := span_take inW (c :: r) (m + 1) hb
        rw [e, ht, if_neg (by omega), List.take_take, Nat.min_self, ← ha, hb]
    · rw [if_neg h1] at h ⊢
      by_cases h2 : isDig c = true
      · rw [if_pos h2] at h ⊢
        have hk4 : number (c :: r) = (4, m + 1) := by
          rcases number_cases (c :: r) with e | ⟨e, _, _⟩
          · rw [e] at h; injection h with h _; omega
          · rw [e] at h ⊢; injection h with _ hb; rw [hb]
        rw [hk4] at h
        rw [e, number_take _ _ hk4]
        exact h
      · rw [if_neg h2] at h ⊢
        by_cases h3 : c = 63
        · rw [if_pos h3] at h ⊢
          unfold meta_ at h ⊢
          rw [show (c :: r).drop 1 = r from rfl] at h
          rw [show (c :: r.take m).drop 1 = r.take m from rfl]
          by_cases h0 : (number r).2 = 0
          · rw [if_pos h0] at h; injection h with h _; omega
          · rw [if_neg h0] at h
            injection h with ha hb
            have hm : (number r).2 = m := by omega
            have hk4 : number r = (4, m) := by
              rcases number_cases r with e | ⟨e, _, _⟩
              · rw [e] at h0; exact absurd rfl h0
              · rw [e] at hm ⊢; rw [← hm]
            rw [number_take _ _ hk4, if_neg (by rw [← hm]; exact h0), ← ha]
            simp
            omega
        · rw [if_neg h3] at h ⊢
          unfold sign at h ⊢
          by_cases hpre : (pre [45, 62] (c :: r) || pre [124, 62] (c :: r)) = true
          · rw [if_pos hpre] at h
            injection h with ha hb
            obtain rfl : m = 1 := by omega
            have hq : (pre [45, 62] (c :: r.take 1) || pre [124, 62] (c :: r.take 1)) = true := by
              cases r with
              | nil => simp [pre, List.isPrefixOf] at hpre
              | cons x r => simpa [pre, List.isPrefixOf] using hpre
            rw [if_pos hq, ← ha]
          · rw [if_neg hpre] at h
            by_cases hs : (c :: r).headD 0 ∈ signs
            · rw [if_pos hs] at h
              injection h with ha hb
              obtain rfl : m = 0 := by omega
              rw [List.take_zero, if_neg (by simp [pre, List.isPrefixOf]), if_pos (by simpa using hs), ← ha]
            · rw [if_neg hs] at h; injection h with h _; omega

/-- a token that stands by itself -/
def Good (t : Tok) : Prop := t.text ≠ [] ∧ first t.text = (t.kind, t.text.length) ∧ t.kind ≠ 0

theorem good_sc (n : Nat) : ∀ (i : Nat) (l : List UInt8) (ts : List Tok), l.length ≤ n → sc i l = .ok ts → ∀ t ∈ ts, Good t := by
  induction n with
  | zero =>
    intro i l ts hn h t ht
    have : l = [] := List.eq_nil_of_length_eq_zero (by omega)
    subst this
    injection h with h
    subst h
    cases ht
  | succ n ih =>
    intro i l ts hn h t ht
    rw [sc_unfold] at h
    split at h
    · injection h with h; subst h; cases ht
    · rename_i h0
      split at h
      · cases h
      · rename_i h1
        have hp := first_pos _ h1
        cases hx : sc (i + btw false l + (first (l.drop (btw false l))).2) ((l.drop (btw false l)).drop (first (l.drop (btw false l))).2) with
        | error e => rw [hx] at h; cases h
        | ok us =>
          rw [hx] at h
          have h : Except.ok (_ :: us) = Except.ok ts := h
          injection h with h
          subst h
          rcases List.mem_cons.1 ht with rfl | ht
          · have hlen : ((l.drop (btw false l)).take (first (l.drop (btw false l))).2).length = (first (l.drop (btw false l))).2 := by
              rw [List.length_take]; omega
            refine ⟨?_, ?_, h1⟩
            · intro e
              have e2 := congrArg List.length e
              rw [hlen] at e2
              simp at e2
              omega
            · simp only [hlen]
              exact first_take _ _ _ rfl h1
          · exact ih _ _ us (by simp only [List.length_drop] at hp ⊢; omega) hx t ht

theorem good_lex (l : List UInt8) (ts : List Tok) (h : lex l = .ok ts) : ∀ t ∈ ts, Good t := good_sc l.length 0 l ts (Nat.le_refl _) (by rw [← lex_sc]; exact h)

/-- where a token begins there is no blank and no remark -/
theorem first_head (c : UInt8) (r : List UInt8) (h : (first (c :: r)).1 ≠ 0) : btw false (c :: r) = 0 := by
  have no : ∀ x : UInt8, (x = 32 ∨ x = 9 ∨ x = 10 ∨ x = 35) → (first (x :: r)).1 = 0 := by
    rintro x (rfl | rfl | rfl | rfl)
    all_goals
      rw [first, if_neg (by decide), if_neg (by decide), if_neg (by decide), sign, if_neg (by simp [pre, List.isPrefixOf]), if_neg (by simp only [List.headD_cons]; decide)]
  rw [btw, if_neg, if_neg]
  · intro e; exact h (no c (.inr (.inr (.inr e))))
  · rintro (e | e | e)
    · exact h (no c (.inl e))
    · exact h (no c (.inr (.inl e)))
    · exact h (no c (.inr (.inr (.inl e))))

def sep (b : Bool) : List UInt8 := if b then [35, 32, 120, 32, 41, 32, 63, 10] else [32]

theorem sc_skip1 (i : Nat) (c : UInt8) (r : List UInt8) (h : btw false (c :: r) = btw false r + 1) : sc i (c :: r) = sc (i + 1) r := by
  rw [sc_unfold i, sc_unfold (i + 1), h, List.drop_succ_cons, show i + (btw false r + 1) = i + 1 + btw false r by omega]

theorem sc_sep (b : Bool) (i : Nat) (r : List UInt8) : sc i (sep b ++ r) = sc (i + (sep b).length) r := by
  have hb : btw false (sep b ++ r) = (sep b).length + btw false r := by
    cases b
    · show btw false (32 :: r) = _
      rw [btw, if_pos (by simp)]; simp [sep]; omega
    · show btw false (35 :: 32 :: 120 :: 32 :: 41 :: 32 :: 63 :: 10 :: r) = _
      simp [btw, sep]
      omega
  have hd : (sep b ++ r).drop (btw false (sep b ++ r)) = r.drop (btw false r) := by
    rw [hb, List.drop_append, List.drop_eq_nil_of_le (by omega), List.nil_append]
    congr 1
    omega
  rw [sc_unfold i, hd, hb, sc_unfold (i + (sep b).length), ← Nat.add_assoc]

theorem sep_ends (b : Bool) (r : List UInt8) : ∃ d t, sep b ++ r = d :: t ∧ ends d := by
  cases b
  · exact ⟨32, r, rfl, by decide, by decide, by decide⟩
  · exact ⟨35, _, rfl, by decide, by decide, by decide⟩

/-- the tokens put together, each with what stands behind it -/
def joinL : List (Tok × Bool) → List UInt8
  | [] => []
  | x :: r => x.1.text ++ (sep x.2 ++ joinL r)
theorem joinL_snoc (xs : List (Tok × Bool)) (t : Tok) (b : Bool) : joinL (xs ++ [(t, b)]) = joinL xs ++ t.text ++ sep b := by
  induction xs with
  | nil => simp [joinL]
  | cons x r ih => rw [List.cons_append, joinL, ih, joinL]; simp

theorem join_sc (xs : List (Tok × Bool)) (h : ∀ x ∈ xs, Good x.1) : ∀ i, ∃ vs : List Tok, sc i (joinL xs) = .ok vs ∧ vs.length = xs.length ∧ ∀ (j : Nat) (h1 : j < vs.length) (h2 : j < xs.length), vs[j].kind = xs[j].1.kind ∧ vs[j].text = xs[j].1.text := by
  induction xs with
  | nil => intro i; exact ⟨[], rfl, rfl, fun j h1 _ => absurd h1 (by simp)⟩
  | cons x r ih =>
    intro i
    obtain ⟨hne, hf, hk⟩ := h x List.mem_cons_self
    obtain ⟨d, t, hdt, hends⟩ := sep_ends x.2 (joinL r)
    have hfirst : first (joinL (x :: r)) = (x.1.kind, x.1.text.length) := by
      rw [joinL, hdt, first_appd d hends _ _ hne, hf]
    obtain ⟨c, r', hc⟩ : ∃ c r', joinL (x :: r) = c :: r' := by
      cases hx : x.1.text with
      | nil => exact absurd hx hne
      | cons c r' => exact ⟨c, r' ++ (sep x.2 ++ joinL r), by rw [joinL, hx]; rfl⟩
    have hb : btw false (joinL (x :: r)) = 0 := by
      rw [hc]; exact first_head c r' (by rw [← hc, hfirst]; exact hk)
    obtain ⟨vs, hv, hl, hj⟩ := ih (fun y hy => h y (List.mem_cons_of_mem _ hy)) (i + x.1.text.length + (sep x.2).length)
    refine ⟨⟨x.1.kind, x.1.text, i⟩ :: vs, ?_, by simp [hl], ?_⟩
    · rw [sc_unfold, hb, List.drop_zero, if_neg (by rw [hc]; simp), hfirst, if_neg hk]
      simp only [Nat.add_zero]
      rw [joinL, List.drop_left, List.take_left, sc_sep, hv]
      rfl
    · intro j h1 h2
      cases j with
      | zero => exact ⟨rfl, rfl⟩
      | succ j => exact hj j (by simpa using h1) (by simpa using h2)

end Lx
end Go.Proofs.Ytphffibigmpnkaa
