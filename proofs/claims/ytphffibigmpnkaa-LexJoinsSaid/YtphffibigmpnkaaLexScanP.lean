/-
  What lies outside the walk over Scan of package lex: tokens as cells, and what each round keeps.
-/
import Derived.Test.YtphffibigmpnkaaLexNext
namespace Go.Proofs.Ytphffibigmpnkaa
open Go.RowKit Lx

/-! ### tokens as cells -/
def tokV (t : Tok) : List Value := [.int .i64 t.kind, .string ⟨t.text.toArray⟩, .int .i64 t.at_]
def toksV (ts : List Tok) : List Value := ts.flatMap tokV
theorem toksV_length (ts : List Tok) : (toksV ts).length = ts.length * 3 := by
  induction ts with
  | nil => rfl
  | cons t r ih =>
    unfold toksV at *
    rw [List.flatMap_cons, List.length_append, ih, List.length_cons]
    simp [tokV]
    omega
theorem toksV_snoc (ts : List Tok) (t : Tok) : toksV (ts ++ [t]) = toksV ts ++ tokV t := by
  simp [toksV]

/-- what Scan tells of a list of bytes: the tokens, the place, the error -/
def scanS (l : List UInt8) : List Tok × Nat × Nat :=
  if 4000 < l.length then ([], 0, 2) else match lex l with
  | .ok ts => (ts, 0, 0)
  | .error a => ([], a, 10)

/-! ### the round -/
/-- from place i on the next token, of kind k, stands from p to q -/
def Step (s : ByteArray) (i p q k : Nat) : Prop := i ≤ p ∧ p ≤ q ∧ q ≤ s.size ∧ p = i + btw false (s.data.toList.drop i) ∧ first (s.data.toList.drop p) = (k, q - p)

theorem step_of (s : ByteArray) (i : Nat) (hi : i ≤ s.size) : ∃ p q k, Step s i p q k := by
  have h1 := btw_le false (s.data.toList.drop i)
  have h2 := first_le (s.data.toList.drop (i + btw false (s.data.toList.drop i)))
  have hz := Lib.size_eq s
  rw [List.length_drop] at h1 h2
  refine ⟨_, i + btw false (s.data.toList.drop i) + (first (s.data.toList.drop (i + btw false (s.data.toList.drop i)))).2, (first (s.data.toList.drop (i + btw false (s.data.toList.drop i)))).1, by omega, by omega, by omega, rfl, ?_⟩
  rw [Nat.add_sub_cancel_left]

def Known (s : ByteArray) (i : Nat) (ts : List Tok) : Prop := lex s.data.toList = (sc i (s.data.toList.drop i)).map (ts ++ ·) ∧ ts.length ≤ i

theorem known_start (s : ByteArray) : Known s 0 [] := by
  refine ⟨?_, Nat.le_refl _⟩
  rw [lex_sc, List.drop_zero]
  cases sc 0 s.data.toList <;> rfl

theorem known_done (s : ByteArray) (i p q k : Nat) (ts : List Tok) (hk : Known s i ts) (hst : Step s i p q k) (h : ¬ p < s.size) : lex s.data.toList = .ok ts := by
  obtain ⟨_, _, _, h4, _⟩ := hst
  have hz := Lib.size_eq s
  rw [hk.1, sc_unfold, if_pos]
  · show Except.ok (ts ++ []) = _
    rw [List.append_nil]
  · rw [List.drop_drop, ← h4, List.drop_eq_nil_of_le (by omega)]

theorem drop_ne (s : ByteArray) (p : Nat) (h : p < s.size) : s.data.toList.drop p ≠ [] := by
  rw [drop_at s p h]; simp

theorem known_bad (s : ByteArray) (i p q : Nat) (ts : List Tok) (hk : Known s i ts) (hst : Step s i p q 0) (h : p < s.size) : lex s.data.toList = .error p := by
  obtain ⟨_, _, _, h4, h5⟩ := hst
  rw [hk.1, sc_unfold, List.drop_drop, ← h4, if_neg (drop_ne s p h), h5, if_pos rfl]
  rfl

theorem known_next (s : ByteArray) (i p q k : Nat) (ts : List Tok) (hk : Known s i ts) (hst : Step s i p q k) (h : p < s.size) (h0 : k ≠ 0) :
    i < q ∧ Known s q (ts ++ [⟨k, (s.data.toList.drop p).take (q - p), p⟩]) := by
  obtain ⟨h1, h2, h3, h4, h5⟩ := hst
  have hp := first_pos (s.data.toList.drop p) (by rw [h5]; exact h0)
  rw [h5] at hp
  have hq : i < q := by omega
  refine ⟨hq, ?_, by have := hk.2; simp; omega⟩
  rw [hk.1, sc_unfold i, List.drop_drop, ← h4, if_neg (drop_ne s p h), h5, if_neg h0, List.drop_drop, show p + (q - p) = q by omega]
  cases sc q (s.data.toList.drop q) with
  | error a => rfl
  | ok us => show Except.ok _ = Except.ok _; simp

theorem tokV_extract (s : ByteArray) (p q k : Nat) : tokV ⟨k, (s.data.toList.drop p).take (q - p), p⟩ = [.int .i64 k, .string (s.extract p q), .int .i64 p] := by
  unfold tokV
  rw [Lib.extract_eq]

theorem next_step (s : ByteArray) (i p q k ba bs : Nat) (w : World) (hs : s.size ≤ maxLen) (hst : Step s i p q k) (hab : bs < ba)
    (ha : w.heap[ba]? = some (.cells #[.int .i64 i] 3 (0, 0))) (hb : w.heap[bs]? = some (.cells #[.string s] 9 (0, 0))) :
    Calls Try.prog 15 #[.pointer (some ⟨ba, 0, none⟩), .pointer (some ⟨bs, 0, none⟩)] w fun e w' => e = .returned (.agg #[.int .i64 k, .string (s.extract p q), .int .i64 p]) ∧ w.grownBy w' (some ba) ∧ w'.heap[ba]? = some (.cells #[.int .i64 q] 3 (0, 0)) := by
  obtain ⟨h1, h2, h3, h4, h5⟩ := hst
  obtain ⟨b, rfl⟩ : ∃ b, p = i + b := ⟨p - i, by omega⟩
  obtain ⟨n, rfl⟩ : ∃ n, q = i + b + n := ⟨q - (i + b), by omega⟩
  rw [Nat.add_sub_cancel_left] at h5
  refine (next_any s i b n k ba bs w hs (by omega) hab ha hb (by omega) h5 (by omega) h3).mono ?_
  rintro e w' ⟨rfl, hg, hh⟩
  refine ⟨by simp, hg, ?_⟩
  rw [hh]
  simp

/-! ### blocks -/
/-- block g holds just these cells, none of them frozen -/
def Blk (w : World) (g : Nat) (t : TypeId) (cs : Array Value) : Prop := w.heap[g]? = some (.cells cs t (0, 0))
section
variable {w w' : World} {g : Nat} {t : TypeId} {cs : Array Value}
theorem Blk.lt (h : Blk w g t cs) : g < w.heap.size := lt_of_block h
theorem Blk.cell (h : Blk w g t cs) (i : Nat) : w.cell? ⟨g, i, none⟩ = cs[i]? := cell_of_row w g i cs t (0, 0) h
theorem Blk.frozen (h : Blk w g t cs) (i : Nat) : w.frozen? ⟨g, i, none⟩ = false := frozen_of_row w g i cs t h
theorem Blk.alloc (h : Blk w g t cs) (o : Obj) : Blk (w.alloc o) g t cs := (Below.heap_alloc w o g h.lt).trans h
theorem Blk.drew (h : Blk w g t cs) : Blk w.drew g t cs := h
theorem Blk.drewN (h : Blk w g t cs) (n : Nat) : Blk (w.drewN n) g t cs := h
theorem Blk.far (h : Blk w g t cs) {p : Addr} (hp : g ≠ p.block) (u : Value) : Blk (w.setCell p u) g t cs := (Below.heap_setCell w p u g hp).trans h
theorem Blk.grown {row : Option Nat} (h : Blk w g t cs) (hb : w.grownBy w' row) (hg : some g ≠ row) : Blk w' g t cs := (hb.block g h.lt hg).trans h
theorem Blk.below {B : Nat} (h : Blk w g t cs) (hb : Below B w w') (hg : g < B) : Blk w' g t cs := (hb.block g hg).trans h
theorem Blk.ne_ {g' : Nat} {t' : TypeId} {cs' : Array Value} (h : Blk w g t cs) (h' : Blk w g' t' cs') (hne : t ≠ t') : g ≠ g' := by
  rintro rfl
  unfold Blk at h h'
  rw [h] at h'
  injection h' with h'
  injection h' with _ ht
  exact hne ht
theorem own_blk_ne {base : Nat} {e : TypeId} {size n : Nat} {v : Value} {xs : List Value} (h : w.ownsRow base e size v n xs) (hg : Blk w g t cs) (hne : e ≠ t) : some g ≠ v.ownBlock := by
  rcases h.2 with ⟨rfl, _⟩ | ⟨g', cap, cur, rfl, _, hh, _⟩
  · simp [Value.ownBlock]
  · intro he
    have : g = g' := by simpa [Value.ownBlock] using he
    subst this
    exact Blk.ne_ (t := e) hh hg hne rfl
end

end Go.Proofs.Ytphffibigmpnkaa
