/-
  The plain mathematics behind LexCovers: tokens stand where they say, and between them stand blanks and remarks alone.
-/
import Derived.Test.YtphffibigmpnkaaLexScanP
namespace Go.Proofs.Ytphffibigmpnkaa
namespace Lx

/-- is what follows a byte within a remark? -/
def stp (m : Bool) (c : UInt8) : Bool := if c = 10 then false else if c = 35 then true else m
def rm : Bool → List UInt8 → Bool
  | m, [] => m
  | m, c :: r => rm (stp m c) r
/-- blanks, line ends and remarks alone -/
def okg : Bool → List UInt8 → Prop
  | _, [] => True
  | m, c :: r => (stp m c = true ∨ c = 32 ∨ c = 9 ∨ c = 10) ∧ okg (stp m c) r

theorem rm_snoc (m : Bool) (l : List UInt8) (c : UInt8) : rm m (l ++ [c]) = stp (rm m l) c := by
  induction l generalizing m with
  | nil => rfl
  | cons d r ih => exact ih _

theorem okg_at (m : Bool) (l : List UInt8) (h : okg m l) (k : Nat) (hk : k < l.length) : stp (rm m (l.take k)) l[k] = true ∨ l[k] = 32 ∨ l[k] = 9 ∨ l[k] = 10 := by
  induction l generalizing m k with
  | nil => simp at hk
  | cons c r ih =>
    cases k with
    | zero => exact h.1
    | succ k => exact ih _ h.2 k (by simpa using hk)

theorem btw_ok (m : Bool) (l : List UInt8) : okg m (l.take (btw m l)) ∧ (btw m l < l.length → rm m (l.take (btw m l)) = false) := by
  induction l generalizing m with
  | nil => simp [btw, okg]
  | cons c r ih =>
    cases m with
    | true =>
      have e : btw true (c :: r) = btw (c != 10) r + 1 := rfl
      have hs : stp true c = (c != 10) := by
        unfold stp
        by_cases h : c = 10
        · simp [h]
        · have h2 : (c != 10) = true := by simpa using h
          rw [if_neg h, h2]; split <;> rfl
      rw [e, List.take_succ_cons]
      obtain ⟨h1, h2⟩ := ih (c != 10)
      refine ⟨⟨?_, by rw [hs]; exact h1⟩, fun hl => ?_⟩
      · by_cases h : c = 10
        · exact .inr (.inr (.inr h))
        · left; rw [hs]; simpa using h
      · show rm (stp true c) _ = false
        rw [hs]
        exact h2 (by simpa using hl)
    | false =>
      by_cases hb : c = 32 ∨ c = 9 ∨ c = 10
      · have e : btw false (c :: r) = btw false r + 1 := by rw [btw, if_pos hb]
        have hs : stp false c = false := by
          unfold stp
          rcases hb with h | h | h <;> rw [h] <;> decide
        rw [e, List.take_succ_cons]
        obtain ⟨h1, h2⟩ := ih false
        refine ⟨⟨.inr hb, by rw [hs]; exact h1⟩, fun hl => ?_⟩
        show rm (stp false c) _ = false
        rw [hs]
        exact h2 (by simpa using hl)
      · by_cases h35 : c = 35
        · have e : btw false (c :: r) = btw true r + 1 := by rw [btw, if_neg hb, if_pos h35]
          have hs : stp false c = true := by rw [h35]; decide
          rw [e, List.take_succ_cons]
          obtain ⟨h1, h2⟩ := ih true
          refine ⟨⟨.inl hs, by rw [hs]; exact h1⟩, fun hl => ?_⟩
          show rm (stp false c) _ = false
          rw [hs]
          exact h2 (by simpa using hl)
        · have e : btw false (c :: r) = 0 := by rw [btw, if_neg hb, if_neg h35]
          rw [e]
          exact ⟨trivial, fun _ => rfl⟩

/-- from place f on the tokens cover l -/
def Cov (l : List UInt8) : Nat → List Tok → Prop
  | f, [] => f ≤ l.length ∧ okg false (l.drop f)
  | f, t :: r => f ≤ t.at_ ∧ t.text ≠ [] ∧ t.at_ + t.text.length ≤ l.length ∧ (l.drop t.at_).take t.text.length = t.text ∧
      okg false ((l.drop f).take (t.at_ - f)) ∧ rm false ((l.drop f).take (t.at_ - f)) = false ∧ Cov l (t.at_ + t.text.length) r

theorem cov_sc (L : List UInt8) (n : Nat) : ∀ (i : Nat) (ts : List Tok), L.length - i ≤ n → i ≤ L.length → sc i (L.drop i) = .ok ts → Cov L i ts := by
  induction n with
  | zero =>
    intro i ts hn hi h
    have hl : L.drop i = [] := List.drop_eq_nil_of_le (by omega)
    rw [hl, sc] at h
    injection h with h
    subst h
    exact ⟨hi, by rw [hl]; trivial⟩
  | succ n ih =>
    intro i ts hn hi h
    obtain ⟨hk1, hk2⟩ := btw_ok false (L.drop i)
    have hbl := btw_le false (L.drop i)
    rw [sc_unfold, List.drop_drop] at h
    split at h
    · rename_i h0
      injection h with h
      subst h
      refine ⟨hi, ?_⟩
      have h1 := List.drop_eq_nil_iff.1 h0
      rw [List.take_of_length_le (by rw [List.length_drop]; omega)] at hk1
      exact hk1
    · rename_i h0
      split at h
      · cases h
      · rename_i h1
        have hp := first_pos _ h1
        rw [List.length_drop] at hp hbl hk2
        have hlt : i + btw false (L.drop i) < L.length := by
          rcases Nat.lt_or_ge (i + btw false (L.drop i)) L.length with h | h
          · exact h
          · exact absurd (List.drop_eq_nil_of_le h) h0
        rw [List.drop_drop] at h
        cases hx : sc (i + btw false (L.drop i) + (first (L.drop (i + btw false (L.drop i)))).2) (L.drop (i + btw false (L.drop i) + (first (L.drop (i + btw false (L.drop i)))).2)) with
        | error e => rw [hx] at h; cases h
        | ok us =>
          rw [hx] at h
          have h : Except.ok (_ :: us) = Except.ok ts := h
          injection h with h
          subst h
          have hlen : ((L.drop (i + btw false (L.drop i))).take (first (L.drop (i + btw false (L.drop i)))).2).length = (first (L.drop (i + btw false (L.drop i)))).2 := by
            rw [List.length_take, List.length_drop]; omega
          refine ⟨by simp, ?_, ?_, ?_, ?_, ?_, ?_⟩
          · intro e
            have e2 := congrArg List.length e
            rw [hlen] at e2
            simp at e2
            omega
          · simp only [hlen]; omega
          · simp only [hlen]
          · simp only [Nat.add_sub_cancel_left]; exact hk1
          · simp only [Nat.add_sub_cancel_left]; exact hk2 (by omega)
          · simp only [hlen]
            exact ih _ us (by omega) (by omega) hx

theorem err_sc (n : Nat) : ∀ (i : Nat) (l : List UInt8) (a : Nat), l.length ≤ n → sc i l = .error a → a < i + l.length := by
  induction n with
  | zero =>
    intro i l a hn h
    have : l = [] := List.eq_nil_of_length_eq_zero (by omega)
    subst this
    cases h
  | succ n ih =>
    intro i l a hn h
    have hbl := btw_le false l
    rw [sc_unfold] at h
    split at h
    · cases h
    · rename_i h0
      have hlt : btw false l < l.length := by
        rcases Nat.lt_or_ge (btw false l) l.length with h | h
        · exact h
        · exact absurd (List.drop_eq_nil_of_le h) h0
      split at h
      · injection h with h; omega
      · rename_i h1
        have hp := first_pos _ h1
        rw [List.length_drop] at hp
        cases hx : sc (i + btw false l + (first (l.drop (btw false l))).2) ((l.drop (btw false l)).drop (first (l.drop (btw false l))).2) with
        | ok us => rw [hx] at h; cases h
        | error e =>
          rw [hx] at h
          have h : (Except.error e : Except Nat (List Tok)) = Except.error a := h
          injection h with h
          subst h
          have := ih _ _ _ (by simp only [List.length_drop]; omega) hx
          simp only [List.length_drop] at this
          omega

theorem lex_cov (l : List UInt8) (ts : List Tok) (h : lex l = .ok ts) : Cov l 0 ts :=
  cov_sc l l.length 0 ts (by omega) (by omega) (by rw [List.drop_zero, ← lex_sc]; exact h)
theorem lex_err (l : List UInt8) (a : Nat) (h : lex l = .error a) : a < l.length := by
  have := err_sc l.length 0 l a (by omega) (by rw [← lex_sc]; exact h)
  omega

theorem scanS_len (l : List UInt8) (ts : List Tok) (a b : Nat) (h : scanS l = (ts, a, b)) : ts.length ≤ 4000 := by
  have key : ∀ (f i : Nat) (l : List UInt8) (us : List Tok), scan f i l = .ok us → us.length ≤ l.length := by
    intro f
    induction f with
    | zero => intro i l us h; simp [scan] at h; subst h; simp
    | succ f ih =>
      intro i l us h
      rw [scan_succ] at h
      split at h
      · injection h with h; subst h; simp
      · split at h
        · cases h
        · rename_i h0 h1
          have hp := first_pos _ h1
          cases hx : scan f (i + btw false l + (first (l.drop (btw false l))).2) ((l.drop (btw false l)).drop (first (l.drop (btw false l))).2) with
          | error e => rw [hx] at h; cases h
          | ok vs =>
            rw [hx] at h
            have h : Except.ok (_ :: vs) = Except.ok us := h
            injection h with h
            subst h
            have := ih _ _ _ hx
            simp only [List.length_drop] at this hp
            simp only [List.length_cons]
            omega
  unfold scanS at h
  split at h
  · injection h with h _; subst h; simp
  · rename_i hl
    have hk := key (l.length + 1) 0 l
    cases hx : lex l with
    | error e => rw [hx] at h; injection h with h _; subst h; simp
    | ok us =>
      rw [hx] at h
      injection h with h _
      subst h
      have := hk us hx
      omega

end Lx
end Go.Proofs.Ytphffibigmpnkaa
