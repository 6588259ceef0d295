/-
  The plain mathematics behind LexBehind and LexJoins: two texts with a line's end between.
-/
import Derived.Test.YtphffibigmpnkaaLexCov
namespace Go.Proofs.Ytphffibigmpnkaa
namespace Lx

theorem span_app (p : UInt8 → Bool) (h : p 10 = false) (r t : List UInt8) : span p (r ++ 10 :: t) = span p r := by
  induction r with
  | nil => simp [span, h]
  | cons c r ih =>
    rw [List.cons_append, span, span, ih]

theorem number_app (r t : List UInt8) : number (r ++ 10 :: t) = number r := by
  unfold number badNum
  rw [span_app isDig (by decide)]
  cases r with
  | nil => rfl
  | cons c r => rfl

theorem first_app (r t : List UInt8) (hr : r ≠ []) : first (r ++ 10 :: t) = first r := by
  cases r with
  | nil => exact absurd rfl hr
  | cons c r =>
    rw [List.cons_append, first, first]
    have e : c :: (r ++ 10 :: t) = (c :: r) ++ 10 :: t := rfl
    rw [e]
    by_cases h1 : isLet c = true
    · rw [if_pos h1, if_pos h1]
      unfold word
      rw [span_app inW (by decide), List.take_append_of_le_length (span_le _ _)]
    · rw [if_neg h1, if_neg h1, number_app]
      by_cases h2 : isDig c = true
      · rw [if_pos h2, if_pos h2]
      · rw [if_neg h2, if_neg h2]
        by_cases h3 : c = 63
        · rw [if_pos h3, if_pos h3]
          unfold meta_
          rw [show ((c :: r) ++ 10 :: t).drop 1 = r ++ 10 :: t from rfl, number_app]
          rfl
        · rw [if_neg h3, if_neg h3]
          unfold sign
          have hp : ∀ a : UInt8, pre [a, 62] ((c :: r) ++ 10 :: t) = pre [a, 62] (c :: r) := by
            intro a
            cases r with
            | nil => simp [pre, List.isPrefixOf]
            | cons d r => simp [pre, List.isPrefixOf]
          rw [hp, hp]
          rfl

theorem btw_app (m : Bool) (r t : List UInt8) : btw m (r ++ 10 :: t) = if btw m r = r.length then r.length + 1 + btw false t else btw m r := by
  induction r generalizing m with
  | nil =>
    rw [List.nil_append, if_pos (by rfl)]
    cases m
    · rw [btw, if_pos (by simp)]; simp; omega
    · rw [btw]; simp; omega
  | cons c r ih =>
    rw [List.cons_append]
    cases m with
    | true =>
      rw [btw, btw, ih]
      by_cases h : btw (c != 10) r = r.length
      · rw [if_pos h, if_pos (by simp [h])]; simp; omega
      · rw [if_neg h, if_neg (by simpa using h)]
    | false =>
      by_cases hb : c = 32 ∨ c = 9 ∨ c = 10
      · rw [btw, btw, if_pos hb, if_pos hb, ih]
        by_cases h : btw false r = r.length
        · rw [if_pos h, if_pos (by simp [h])]; simp; omega
        · rw [if_neg h, if_neg (by simpa using h)]
      · by_cases h35 : c = 35
        · rw [btw, btw, if_neg hb, if_neg hb, if_pos h35, if_pos h35, ih]
          by_cases h : btw true r = r.length
          · rw [if_pos h, if_pos (by simp [h])]; simp; omega
          · rw [if_neg h, if_neg (by simpa using h)]
        · rw [btw, btw, if_neg hb, if_neg hb, if_neg h35, if_neg h35, if_neg (by simp)]

/-- the same tokens, d places further on -/
def shift (d : Nat) (t : Tok) : Tok := ⟨t.kind, t.text, t.at_ + d⟩
def shiftE (d : Nat) : Except Nat (List Tok) → Except Nat (List Tok)
  | .ok ts => .ok (ts.map (shift d))
  | .error a => .error (a + d)

theorem sc_shift (d n : Nat) : ∀ (i : Nat) (l : List UInt8), l.length ≤ n → sc (i + d) l = shiftE d (sc i l) := by
  induction n with
  | zero =>
    intro i l hn
    have : l = [] := List.eq_nil_of_length_eq_zero (by omega)
    subst this; rfl
  | succ n ih =>
    intro i l hn
    rw [sc_unfold (i + d) l, sc_unfold i l]
    by_cases h0 : l.drop (btw false l) = []
    · rw [if_pos h0, if_pos h0]; rfl
    · rw [if_neg h0, if_neg h0]
      by_cases h1 : (first (l.drop (btw false l))).1 = 0
      · rw [if_pos h1, if_pos h1]
        show Except.error _ = Except.error _
        congr 1; omega
      · rw [if_neg h1, if_neg h1]
        have hp := first_pos _ h1
        rw [show i + d + btw false l + (first (l.drop (btw false l))).2 = i + btw false l + (first (l.drop (btw false l))).2 + d by omega,
          ih _ _ (by simp only [List.length_drop] at hp ⊢; omega)]
        cases sc (i + btw false l + (first (l.drop (btw false l))).2) ((l.drop (btw false l)).drop (first (l.drop (btw false l))).2) with
        | error e => rfl
        | ok us =>
          show Except.ok _ = Except.ok _
          simp [shift]
          omega

theorem sc_skip (i : Nat) (c : UInt8) (r : List UInt8) (h : btw false (c :: r) = btw false r + 1) : sc i (c :: r) = sc (i + 1) r := by
  rw [sc_unfold i, sc_unfold (i + 1), h, List.drop_succ_cons, show i + (btw false r + 1) = i + 1 + btw false r by omega]
theorem map_nil_app (x : Except Nat (List Tok)) : x.map ([] ++ ·) = x := by cases x <;> rfl

theorem sc_app (t : List UInt8) (n : Nat) : ∀ (i : Nat) (r : List UInt8), r.length ≤ n →
    sc i (r ++ 10 :: t) = match sc i r with
      | .error a => .error a
      | .ok ts => (sc (i + r.length + 1) t).map (ts ++ ·) := by
  induction n with
  | zero =>
    intro i r hn
    have : r = [] := List.eq_nil_of_length_eq_zero (by omega)
    subst this
    rw [List.nil_append, sc_skip i 10 t (by rw [btw, if_pos (by simp)])]
    exact (map_nil_app _).symm
  | succ n ih =>
    intro i r hn
    have hbl := btw_le false r
    by_cases hb : btw false r = r.length
    · have hr : sc i r = .ok [] := by rw [sc_unfold, if_pos (List.drop_eq_nil_of_le (by omega))]
      rw [hr]
      have hd : (r ++ 10 :: t).drop (r.length + 1 + btw false t) = t.drop (btw false t) := by
        rw [show r ++ 10 :: t = (r ++ [10]) ++ t by simp, List.drop_append, List.drop_eq_nil_of_le (by simp), List.nil_append]
        congr 1
        simp
      refine Eq.trans ?_ (map_nil_app _).symm
      rw [sc_unfold i, btw_app, if_pos hb, hd, sc_unfold (i + r.length + 1) t, show i + (r.length + 1 + btw false t) = i + r.length + 1 + btw false t by omega]
    · have hne : r.drop (btw false r) ≠ [] := fun e => hb (by have := List.drop_eq_nil_iff.1 e; omega)
      have hd : (r ++ 10 :: t).drop (btw false r) = r.drop (btw false r) ++ 10 :: t := List.drop_append_of_le_length hbl
      rw [sc_unfold i (r ++ 10 :: t), btw_app, if_neg hb, hd, first_app _ _ hne, if_neg (by simp), sc_unfold i r, if_neg hne]
      by_cases h1 : (first (r.drop (btw false r))).1 = 0
      · rw [if_pos h1, if_pos h1]
      · rw [if_neg h1, if_neg h1]
        have hp := first_pos _ h1
        have hfl := hp.2
        rw [List.drop_append_of_le_length hfl, List.take_append_of_le_length hfl, ih _ _ (by simp only [List.length_drop] at hp ⊢; omega)]
        have hlen : i + btw false r + (first (r.drop (btw false r))).2 + ((r.drop (btw false r)).drop (first (r.drop (btw false r))).2).length + 1 = i + r.length + 1 := by
          simp only [List.length_drop] at hp ⊢
          omega
        rw [hlen]
        cases sc (i + btw false r + (first (r.drop (btw false r))).2) ((r.drop (btw false r)).drop (first (r.drop (btw false r))).2) with
        | error e => rfl
        | ok us =>
          show Except.map _ ((sc (i + r.length + 1) t).map _) = (sc (i + r.length + 1) t).map _
          cases sc (i + r.length + 1) t <;> rfl

theorem lex_app (s t : List UInt8) : lex (s ++ 10 :: t) = match lex s with
    | .error a => .error a
    | .ok ts => (shiftE (s.length + 1) (lex t)).map (ts ++ ·) := by
  rw [lex_sc, lex_sc, lex_sc, sc_app t s.length 0 s (Nat.le_refl _), Nat.zero_add, ← sc_shift (s.length + 1) t.length 0 t (Nat.le_refl _), Nat.zero_add]

end Lx
end Go.Proofs.Ytphffibigmpnkaa
