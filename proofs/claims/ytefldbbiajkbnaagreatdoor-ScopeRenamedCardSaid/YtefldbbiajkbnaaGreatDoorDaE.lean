/-
  Contracts of the code's functions, part 5.
-/
import Derived.Test.YtefldbbiajkbnaaGreatDoorDaC
import Derived.IntWalk
import Derived.Laws.Rows
/-
  The walks over reader of package lex, and over the closure that it hands back: the next token.
-/
namespace Go.Proofs.YtefldbbiajkbnaaGreatDoor
open Go.RowKit Lx
set_option maxRecDepth 100000

theorem reader_any (s : ByteArray) (w : World) :
    Calls Tryz.prog 132 #[.string s] w fun e w' => e = .returned (.func (.func 163) #[] #[.pointer (some ⟨w.heap.size + 1, 0, none⟩), .pointer (some ⟨w.heap.size, 0, none⟩)]) ∧
      w' = (w.alloc (.cells #[.string s] 9)).alloc (.cells #[.int .i64 0] 3) := by
  have hmf : ∀ (fn : Fn) (first cap : Array Value) (w : World), (Instr.makeFunc fn first cap).run Tryz.prog w = .ok (.func fn first cap) w := fun _ _ _ _ => rfl
  go_enter Tryz.func132, Tryz.ntmps132
  go_wp2
  go_ret
  exact ⟨rfl, rfl⟩

/-- what the closure leaves: the token's own new block, and the place in the block ba -/
theorem next_world (w : World) (ba nq : Nat) (t3 t30 : TypeId) (x u v0 v1 v2 z0 z1 z2 : Value) (ha : w.heap[ba]? = some (.cells #[x] t3 (0, 0))) :
    (((((((w.alloc (.cells #[z0, z1, z2] t30)).drewN nq).setCell ⟨ba, 0, none⟩ u).setCell ⟨w.heap.size, 0, none⟩ v0).setCell ⟨w.heap.size, 1, none⟩ v1).setCell ⟨w.heap.size, 2, none⟩ v2).heap[w.heap.size]? = some (.cells #[v0, v1, v2] t30 (0, 0))) ∧
    (((((((w.alloc (.cells #[z0, z1, z2] t30)).drewN nq).setCell ⟨ba, 0, none⟩ u).setCell ⟨w.heap.size, 0, none⟩ v0).setCell ⟨w.heap.size, 1, none⟩ v1).setCell ⟨w.heap.size, 2, none⟩ v2).heap[ba]? = some (.cells #[u] t3 (0, 0))) ∧
    w.grownBy ((((((w.alloc (.cells #[z0, z1, z2] t30)).drewN nq).setCell ⟨ba, 0, none⟩ u).setCell ⟨w.heap.size, 0, none⟩ v0).setCell ⟨w.heap.size, 1, none⟩ v1).setCell ⟨w.heap.size, 2, none⟩ v2) (some ba) := by
  have hlt := lt_of_block ha
  have n0 : ((w.alloc (.cells #[z0, z1, z2] t30)).drewN nq).heap[w.heap.size]? = some (.cells #[z0, z1, z2] t30 (0, 0)) := heap_alloc_new w _
  have a0 : ((w.alloc (.cells #[z0, z1, z2] t30)).drewN nq).heap[ba]? = some (.cells #[x] t3 (0, 0)) := (Below.heap_alloc w _ ba hlt).trans ha
  have n1 := (heap_setCell_other _ ⟨ba, 0, none⟩ w.heap.size u (by simp; omega)).trans n0
  have a1 := one_setCell (u := u) a0
  have n2 := heap_setCell_same _ w.heap.size 0 _ t30 v0 n1
  have a2 := (heap_setCell_other _ ⟨w.heap.size, 0, none⟩ ba v0 (by simp; omega)).trans a1
  have n3 := heap_setCell_same _ w.heap.size 1 _ t30 v1 n2
  have a3 := (heap_setCell_other _ ⟨w.heap.size, 1, none⟩ ba v1 (by simp; omega)).trans a2
  have n4 := heap_setCell_same _ w.heap.size 2 _ t30 v2 n3
  have a4 := (heap_setCell_other _ ⟨w.heap.size, 2, none⟩ ba v2 (by simp; omega)).trans a3
  refine ⟨n4, a4, ⟨rfl, rfl, rfl, ?_, ?_⟩⟩
  · simp [World.setCell]
  · intro k hk hne
    have hne : k ≠ ba := fun e => hne (by rw [e])
    rw [heap_setCell_other _ _ _ _ (by simp; omega), heap_setCell_other _ _ _ _ (by simp; omega), heap_setCell_other _ _ _ _ (by simp; omega), heap_setCell_other _ _ _ _ (by simpa using hne)]
    exact Below.heap_alloc w _ k hk

set_option maxHeartbeats 400000 in
theorem next_any (s : ByteArray) (i b n k ba bs : Nat) (w : World) (hs : s.size ≤ maxLen) (hi : i ≤ s.size) (hab : bs < ba)
    (ha : w.heap[ba]? = some (.cells #[.int .i64 i] 3 (0, 0))) (hb : w.heap[bs]? = some (.cells #[.string s] 9 (0, 0)))
    (hB : btw false (s.data.toList.drop i) = b) (hN : first (s.data.toList.drop (i + b)) = (k, n)) (hbs : i + b ≤ s.size) (hns : i + b + n ≤ s.size) :
    Calls Tryz.prog 163 #[.pointer (some ⟨ba, 0, none⟩), .pointer (some ⟨bs, 0, none⟩)] w fun e w' => e = .returned (.agg #[.int .i64 k, .string (s.extract (i + b) (i + b + n)), .int .i64 ((i : Int) + b)]) ∧ w.grownBy w' (some ba) ∧ w'.heap[ba]? = some (.cells #[.int .i64 ((i : Int) + b + n)] 3 (0, 0)) := by
  have ca := cell_of_one ha
  have cb := cell_of_one hb
  have hla := lt_of_block ha
  have hlb := lt_of_block hb
  have fa := free_of_one ha
  have hA := hidE ha
  have hBx := hidE hb
  clear ha hb
  have hz := drop_size s i
  have PB : ∀ w : World, Calls Tryz.prog 164 #[.string (s.extract i s.size)] w fun e w' => e = .returned (.int .i64 b) ∧ w' = w := by
    intro w
    have := between_any (s.extract i s.size) w (by omega)
    rw [drop_data, hB] at this
    exact this.mono fun e w' h => ⟨h.1, h.2.symm⟩
  clear hz
  have hz := drop_size s (i + b)
  have PF : ∀ w : World, Calls Tryz.prog 165 #[.string (s.extract (i + b) s.size)] w fun e w' => e = .returned (.tuple #[.int .i64 k, .int .i64 n]) ∧ w = w' := by
    intro w
    have := first_any (s.extract (i + b) s.size) w (by omega)
    rw [drop_data, hN] at this
    exact this
  clear hz hB hN
  unfold maxLen at hs
  go_enter Tryz.func163, Tryz.ntmps163
  go_wp2_with fail
  have sum1 : IntKind.i64.wrap ((i : Int) + (b : Int)) = (i : Int) + b := by exact IntWalk.i64_in _ (by omega)
  go_quiet ((go_at_call 164; exact Calls.quiet_of_same (PB _)))
  clear sum1
  go_wp2_with (go_at_call 165; refine (PF _).mono ?_; rintro e w' ⟨rfl, rfl⟩)
  have HW := next_world w ba nq 3 147 _ (.int .i64 ((i : Int) + b + n)) (.int .i64 k) (.string (s.extract (i + b) (i + b + n))) (.int .i64 ((i : Int) + b)) (.int .i64 0) (.string ⟨#[]⟩) (.int .i64 0) hA.out
  exact bodyPost_ret (results_cell_row rfl _ _ w.heap.size 147 _ (0, 0) _ rfl HW.1 Tryz.underlying147 rfl (by kernel_rfl)) rfl ⟨rfl, HW.2.2, HW.2.1⟩

end Go.Proofs.YtefldbbiajkbnaaGreatDoor

/-
  What lies outside the walk over Scan of package lex: tokens as cells, and what each round keeps.
-/
namespace Go.Proofs.YtefldbbiajkbnaaGreatDoor
open Go.RowKit Lx

/-! ### tokens as cells -/
def tokV (t : Tok) : List Value := [.int .i64 t.kind, .string ⟨t.text.toArray⟩, .int .i64 t.at_]
def toksV (ts : List Tok) : List Value := ts.flatMap tokV
theorem toksV_snoc (ts : List Tok) (t : Tok) : toksV (ts ++ [t]) = toksV ts ++ tokV t := by
  simp [toksV]

/-- what Scan tells of a list of bytes: the tokens, the place, the error -/
def scanS (l : List UInt8) : List Tok × Nat × Nat :=
  if 4000 < l.length then ([], 0, 2) else match lex l with
  | .ok ts => (ts, 0, 0)
  | .error a => ([], a, 10)

/-! ### the round -/
/-- from place i on the next token, of kind k, stands from p to q -/
def Step (s : ByteArray) (i p q k : Nat) : Prop := i ≤ p ∧ p ≤ q ∧ q ≤ s.size ∧ p = i + btw false (s.data.toList.drop i) ∧ first (s.data.toList.drop p) = (k, q - p)

theorem step_of (s : ByteArray) (i : Nat) (hi : i ≤ s.size) : ∃ p q k, Step s i p q k := by
  have h1 := btw_le false (s.data.toList.drop i)
  have h2 := first_le (s.data.toList.drop (i + btw false (s.data.toList.drop i)))
  have hz := Lib.size_eq s
  rw [List.length_drop] at h1 h2
  refine ⟨_, i + btw false (s.data.toList.drop i) + (first (s.data.toList.drop (i + btw false (s.data.toList.drop i)))).2, (first (s.data.toList.drop (i + btw false (s.data.toList.drop i)))).1, by omega, by omega, by omega, rfl, ?_⟩
  rw [Nat.add_sub_cancel_left]

def Known (s : ByteArray) (i : Nat) (ts : List Tok) : Prop := lex s.data.toList = (sc i (s.data.toList.drop i)).map (ts ++ ·) ∧ ts.length ≤ i

theorem known_start (s : ByteArray) : Known s 0 [] := by
  refine ⟨?_, Nat.le_refl _⟩
  rw [lex_sc, List.drop_zero]
  cases sc 0 s.data.toList <;> rfl

theorem known_done (s : ByteArray) (i p q k : Nat) (ts : List Tok) (hk : Known s i ts) (hst : Step s i p q k) (h : ¬ p < s.size) : lex s.data.toList = .ok ts := by
  obtain ⟨_, _, _, h4, _⟩ := hst
  have hz := Lib.size_eq s
  rw [hk.1, sc_unfold, if_pos]
  · show Except.ok (ts ++ []) = _
    rw [List.append_nil]
  · rw [List.drop_drop, ← h4, List.drop_eq_nil_of_le (by omega)]

theorem drop_ne (s : ByteArray) (p : Nat) (h : p < s.size) : s.data.toList.drop p ≠ [] := by
  rw [drop_at s p h]; simp

theorem known_bad (s : ByteArray) (i p q : Nat) (ts : List Tok) (hk : Known s i ts) (hst : Step s i p q 0) (h : p < s.size) : lex s.data.toList = .error p := by
  obtain ⟨_, _, _, h4, h5⟩ := hst
  rw [hk.1, sc_unfold, List.drop_drop, ← h4, if_neg (drop_ne s p h), h5, if_pos rfl]
  rfl

theorem known_next (s : ByteArray) (i p q k : Nat) (ts : List Tok) (hk : Known s i ts) (hst : Step s i p q k) (h : p < s.size) (h0 : k ≠ 0) :
    i < q ∧ Known s q (ts ++ [⟨k, (s.data.toList.drop p).take (q - p), p⟩]) := by
  obtain ⟨h1, h2, h3, h4, h5⟩ := hst
  have hp := first_pos (s.data.toList.drop p) (by rw [h5]; exact h0)
  rw [h5] at hp
  have hq : i < q := by omega
  refine ⟨hq, ?_, by have := hk.2; simp; omega⟩
  rw [hk.1, sc_unfold i, List.drop_drop, ← h4, if_neg (drop_ne s p h), h5, if_neg h0, List.drop_drop, show p + (q - p) = q by omega]
  cases sc q (s.data.toList.drop q) with
  | error a => rfl
  | ok us => show Except.ok _ = Except.ok _; simp

theorem tokV_extract (s : ByteArray) (p q k : Nat) : tokV ⟨k, (s.data.toList.drop p).take (q - p), p⟩ = [.int .i64 k, .string (s.extract p q), .int .i64 p] := by
  unfold tokV
  rw [Lib.extract_eq]

theorem next_step (s : ByteArray) (i p q k ba bs : Nat) (w : World) (hs : s.size ≤ maxLen) (hst : Step s i p q k) (hab : bs < ba)
    (ha : w.heap[ba]? = some (.cells #[.int .i64 i] 3 (0, 0))) (hb : w.heap[bs]? = some (.cells #[.string s] 9 (0, 0))) :
    Calls Tryz.prog 163 #[.pointer (some ⟨ba, 0, none⟩), .pointer (some ⟨bs, 0, none⟩)] w fun e w' => e = .returned (.agg #[.int .i64 k, .string (s.extract p q), .int .i64 p]) ∧ w.grownBy w' (some ba) ∧ w'.heap[ba]? = some (.cells #[.int .i64 q] 3 (0, 0)) := by
  obtain ⟨h1, h2, h3, h4, h5⟩ := hst
  obtain ⟨b, rfl⟩ : ∃ b, p = i + b := ⟨p - i, by omega⟩
  obtain ⟨n, rfl⟩ : ∃ n, q = i + b + n := ⟨q - (i + b), by omega⟩
  rw [Nat.add_sub_cancel_left] at h5
  refine (next_any s i b n k ba bs w hs (by omega) hab ha hb (by omega) h5 (by omega) h3).mono ?_
  rintro e w' ⟨rfl, hg, hh⟩
  refine ⟨by simp, hg, ?_⟩
  rw [hh]
  simp

/-! ### blocks -/
/-- block g holds just these cells, none of them frozen -/
def Blk (w : World) (g : Nat) (t : TypeId) (cs : Array Value) : Prop := w.heap[g]? = some (.cells cs t (0, 0))
section
variable {w w' : World} {g : Nat} {t : TypeId} {cs : Array Value}
theorem Blk.lt (h : Blk w g t cs) : g < w.heap.size := lt_of_block h
theorem Blk.cell (h : Blk w g t cs) (i : Nat) : w.cell? ⟨g, i, none⟩ = cs[i]? := cell_of_row w g i cs t (0, 0) h
theorem Blk.frozen (h : Blk w g t cs) (i : Nat) : w.frozen? ⟨g, i, none⟩ = false := frozen_of_row w g i cs t h
theorem Blk.alloc (h : Blk w g t cs) (o : Obj) : Blk (w.alloc o) g t cs := (Below.heap_alloc w o g h.lt).trans h
theorem Blk.drew (h : Blk w g t cs) : Blk w.drew g t cs := h
theorem Blk.far (h : Blk w g t cs) {p : Addr} (hp : g ≠ p.block) (u : Value) : Blk (w.setCell p u) g t cs := (Below.heap_setCell w p u g hp).trans h
theorem Blk.grown {row : Option Nat} (h : Blk w g t cs) (hb : w.grownBy w' row) (hg : some g ≠ row) : Blk w' g t cs := (hb.block g h.lt hg).trans h
theorem Blk.below {B : Nat} (h : Blk w g t cs) (hb : Below B w w') (hg : g < B) : Blk w' g t cs := (hb.block g hg).trans h
theorem Blk.ne_ {g' : Nat} {t' : TypeId} {cs' : Array Value} (h : Blk w g t cs) (h' : Blk w g' t' cs') (hne : t ≠ t') : g ≠ g' := by
  rintro rfl
  unfold Blk at h h'
  rw [h] at h'
  injection h' with h'
  injection h' with _ ht
  exact hne ht
theorem own_blk_ne {base : Nat} {e : TypeId} {size n : Nat} {v : Value} {xs : List Value} (h : w.ownsRow base e size v n xs) (hg : Blk w g t cs) (hne : e ≠ t) : some g ≠ v.ownBlock := by
  rcases h.2 with ⟨rfl, _⟩ | ⟨g', cap, cur, rfl, _, hh, _⟩
  · simp [Value.ownBlock]
  · intro he
    have : g = g' := by simpa [Value.ownBlock] using he
    subst this
    exact Blk.ne_ (t := e) hh hg hne rfl
end

end Go.Proofs.YtefldbbiajkbnaaGreatDoor

/-
  The plain mathematics behind the laws on single words and numbers.
-/
namespace Go.Proofs.YtefldbbiajkbnaaGreatDoor
namespace Lx

theorem dig_range (c : UInt8) (h : isDig c = true) : 48 ≤ c.toNat ∧ c.toNat ≤ 57 := by
  simp [isDig] at h
  omega
end Lx
end Go.Proofs.YtefldbbiajkbnaaGreatDoor

/-
  The plain mathematics of layer 2 (types): trees, how tokens are read as one, how one is written. It imports nothing of the program but what tokens are.
-/
namespace Go.Proofs.YtefldbbiajkbnaaGreatDoor
namespace Tx
open Lx

inductive Ty where
  | var (x : List UInt8)
  | mt (n : Nat)
  | con (c : List UInt8) (args : List Ty)
  | fn (a b : Ty)
  | all (x : List UInt8) (t : Ty)

/-! ### reading -/
def isKey (t : Tok) (s : List UInt8) : Bool := t.kind == 3 && t.text == s
def isSign (t : Tok) (s : List UInt8) : Bool := t.kind == 6 && t.text == s
def wForall : List UInt8 := [102, 111, 114, 97, 108, 108]
/-- may an atom begin with this token? -/
def atomic (t : Tok) : Bool := t.kind == 1 || t.kind == 5 || t.kind == 2 || t.text == [40]
/-- the names of variables at the begin, and what is behind them -/
def vars : List Tok → List (List UInt8) × List Tok
  | [] => ([], [])
  | t :: r => if t.kind = 1 then (t.text :: (vars r).1, (vars r).2) else ([], t :: r)
def numOf (l : List UInt8) : Nat := l.foldl (fun n c => 10 * n + (c.toNat - 48)) 0
def alls (xs : List (List UInt8)) (t : Ty) : Ty := xs.foldr Ty.all t
/-- what is behind a token that must stand at the begin -/
def eat (p : Tok → Bool) : List Tok → Option (List Tok)
  | [] => none
  | t :: r => if p t then some r else none

mutual
def read : Nat → List Tok → Option (Ty × List Tok)
  | 0, _ => none
  | f + 1, l =>
    match eat (isKey · wForall) l with
    | some r =>
      if (vars r).1 = [] then none
      else match eat (isSign · [46]) (vars r).2 with
        | none => none
        | some r2 => (read f r2).map fun x => (alls (vars r).1 x.1, x.2)
    | none =>
      match app f l with
      | none => none
      | some (a, r) =>
        match eat (isSign · [45, 62]) r with
        | none => some (a, r)
        | some r2 => (read f r2).map fun x => (.fn a x.1, x.2)
def app : Nat → List Tok → Option (Ty × List Tok)
  | 0, _ => none
  | f + 1, l =>
    match l with
    | [] => none
    | t :: r => if t.kind = 2 then (args f r).map fun x => (.con t.text x.1, x.2) else atom f (t :: r)
def args : Nat → List Tok → Option (List Ty × List Tok)
  | 0, _ => none
  | f + 1, l =>
    match l with
    | [] => some ([], [])
    | t :: r =>
      if atomic t then
        match atom f (t :: r) with
        | none => none
        | some (x, r2) => (args f r2).map fun y => (x :: y.1, y.2)
      else some ([], t :: r)
def atom : Nat → List Tok → Option (Ty × List Tok)
  | 0, _ => none
  | f + 1, l =>
    match l with
    | [] => none
    | t :: r =>
      if t.kind = 1 then some (.var t.text, r)
      else if t.kind = 2 then some (.con t.text [], r)
      else if t.kind = 5 then some (.mt (numOf (t.text.drop 1)), r)
      else if t.text = [40] then
        match read f r with
        | none => none
        | some (x, r2) => (eat (isSign · [41]) r2).map fun r3 => (x, r3)
      else none
end

/-- fuel that is enough -/
def enough (l : List Tok) : Nat := 4 * l.length + 4

/-! ### depth -/
mutual
def Ty.depth : Ty → Nat
  | .var _ => 1
  | .mt _ => 1
  | .con _ l => depthL l + 1
  | .fn a b => max a.depth b.depth + 1
  | .all _ t => t.depth + 1
def depthL : List Ty → Nat
  | [] => 0
  | t :: r => max t.depth (depthL r)
end

/-! ### writing -/
def digit (n : Nat) : UInt8 := (48 + n % 10).toUInt8
def decF : Nat → Nat → List UInt8
  | 0, _ => []
  | f + 1, n => if n < 10 then [digit n] else decF f (n / 10) ++ [digit n]
def dec (n : Nat) : List UInt8 := decF 20 n

def Ty.isFA : Ty → Bool
  | .fn _ _ => true
  | .all _ _ => true
  | _ => false
/-- must it stand in parentheses, as an argument? -/
def Ty.big : Ty → Bool
  | .fn _ _ => true
  | .all _ _ => true
  | .con _ (_ :: _) => true
  | _ => false


/-! ### what stands in it -/
def addN {α : Type} [DecidableEq α] (x : α) (l : List α) : List α := if x ∈ l then l else l ++ [x]

end Tx
end Go.Proofs.YtefldbbiajkbnaaGreatDoor

/-
  The plain mathematics of layer 2 (types): what was written is read, as tokens.
-/
namespace Go.Proofs.YtefldbbiajkbnaaGreatDoor
namespace Tx
open Lx

/-! ### reading does not ask where tokens stand -/
/-! ### a type's tokens -/
def K (k : Nat) (s : List UInt8) : Tok := ⟨k, s, 0⟩
def tL : Tok := K 6 [40]
def tR : Tok := K 6 [41]
def tArrow : Tok := K 6 [45, 62]
def tDot : Tok := K 6 [46]
def tAll : Tok := K 3 wForall
mutual
def Ty.toks : Ty → List Tok
  | .var x => [K 1 x]
  | .mt n => [K 5 (63 :: dec n)]
  | .con c l => K 2 c :: toksL l
  | .fn a b => (if a.isFA then tL :: (a.toks ++ [tR]) else a.toks) ++ tArrow :: b.toks
  | .all x t => tAll :: K 1 x :: toksA t
def toksL : List Ty → List Tok
  | [] => []
  | t :: r => (if t.big then tL :: (t.toks ++ [tR]) else t.toks) ++ toksL r
def toksA : Ty → List Tok
  | .all y t => K 1 y :: toksA t
  | .var x => [tDot, K 1 x]
  | .mt n => [tDot, K 5 (63 :: dec n)]
  | .con c l => tDot :: K 2 c :: toksL l
  | .fn a b => tDot :: ((if a.isFA then tL :: (a.toks ++ [tR]) else a.toks) ++ tArrow :: b.toks)
end
theorem toksA_other (t : Ty) (h : ∀ y u, t ≠ .all y u) : toksA t = tDot :: t.toks := by
  cases t with
  | all y u => exact absurd rfl (h y u)
  | var x => rw [toksA, Ty.toks]
  | mt n => rw [toksA, Ty.toks]
  | con c l => rw [toksA, Ty.toks]
  | fn a b => rw [toksA, Ty.toks]

/-- the numbers of its unknowns can be written with six digits -/
inductive Wf : Ty → Prop
  | var (x) : Wf (.var x)
  | mt (n) : n ≤ 999999 → Wf (.mt n)
  | con (c l) : (∀ t ∈ l, Wf t) → Wf (.con c l)
  | fn (a b) : Wf a → Wf b → Wf (.fn a b)
  | all (x t) : Wf t → Wf (.all x t)

/-- the for alls at its begin, and what is behind them -/
def Ty.peel : Ty → List (List UInt8) × Ty
  | .all x t => (x :: t.peel.1, t.peel.2)
  | t => ([], t)
theorem peel_alls (t : Ty) : alls t.peel.1 t.peel.2 = t := by
  induction t using Ty.peel.induct with
  | case1 x t ih => rw [Ty.peel]; show Ty.all x (alls _ _) = _; rw [ih]
  | case2 t h => rw [Ty.peel]; rfl; exact h
theorem peel_toksA (t : Ty) : toksA t = t.peel.1.map (K 1 ·) ++ tDot :: t.peel.2.toks := by
  induction t using Ty.peel.induct with
  | case1 x t ih => rw [Ty.peel, toksA, ih]; rfl
  | case2 t h => rw [Ty.peel, toksA_other t h]; rfl; exact h
theorem peel_wf (t : Ty) (h : Wf t) : Wf t.peel.2 := by
  induction t using Ty.peel.induct with
  | case1 x t ih => rw [Ty.peel]; cases h with | all _ _ h => exact ih h
  | case2 t h2 => rw [Ty.peel]; exact h; exact h2

theorem vars_map (xs : List (List UInt8)) (t : Tok) (r : List Tok) (h : t.kind ≠ 1) : vars (xs.map (K 1 ·) ++ t :: r) = (xs, t :: r) := by
  induction xs with
  | nil => rw [List.map_nil, List.nil_append, vars, if_neg h]
  | cons x xs ih => rw [List.map_cons, List.cons_append, vars, if_pos (show (K 1 x).kind = 1 from rfl), ih]; rfl

/-- decimal digits are read back -/
theorem digit_nat (n : Nat) : (digit n).toNat = 48 + n % 10 := by
  unfold digit
  rw [Nat.toUInt8_eq, UInt8.toNat_ofNat']
  omega
theorem numOf_snoc (l : List UInt8) (c : UInt8) : numOf (l ++ [c]) = 10 * numOf l + (c.toNat - 48) := by
  simp [numOf]
theorem numOf_decF (f n : Nat) (h : n < 10 ^ f) : numOf (decF f n) = n := by
  induction f generalizing n with
  | zero => simp at h; subst h; rfl
  | succ f ih =>
    rw [decF]
    split
    · show 10 * 0 + ((digit n).toNat - 48) = n
      rw [digit_nat]; omega
    · rw [numOf_snoc, ih (n / 10) (by rw [Nat.pow_succ] at h; omega), digit_nat]
      omega
theorem numOf_dec (n : Nat) (h : n ≤ 999999) : numOf (dec n) = n := numOf_decF 20 n (by omega)

/-- what may follow a type -/
def stops (r : List Tok) : Prop := ∀ t, r.head? = some t → atomic t = false
def stopsF (r : List Tok) : Prop := stops r ∧ eat (isSign · [45, 62]) r = none

theorem eat_key (t : Tok) (r : List Tok) (h : t.kind ≠ 3) : eat (isKey · wForall) (t :: r) = none := by
  rw [eat, if_neg]
  simp [isKey, h]

theorem back (n : Nat) :
    (∀ t, Wf t → t.toks.length ≤ n → ∀ r, stopsF r → ∀ f, 4 * (t.toks.length + r.length) + 4 ≤ f → read f (t.toks ++ r) = some (t, r)) ∧
    (∀ l, (∀ t ∈ l, Wf t) → (toksL l).length ≤ n → ∀ r, stops r → ∀ f, 4 * ((toksL l).length + r.length) + 2 ≤ f → args f (toksL l ++ r) = some (l, r)) := by
  induction n using Nat.strongRecOn with
  | ind n ih =>
    -- an atom
    have hatom : ∀ t, Wf t → (if t.big then tL :: (t.toks ++ [tR]) else t.toks).length ≤ n → ∀ r, ∀ f, 4 * ((if t.big then tL :: (t.toks ++ [tR]) else t.toks).length + r.length) + 1 ≤ f →
        atom f ((if t.big then tL :: (t.toks ++ [tR]) else t.toks) ++ r) = some (t, r) := by
      intro t hw hl r f hf
      obtain ⟨f, rfl⟩ : ∃ g, f = g + 1 := ⟨f - 1, by omega⟩
      by_cases hb : t.big = true
      · rw [if_pos hb] at hl hf ⊢
        have hlen : t.toks.length < n := by simp at hl; omega
        have hr := (ih _ hlen).1 t hw (Nat.le_refl _) (tR :: r) ⟨fun x hx => by simp at hx; subst hx; decide, by rw [eat, if_neg (by decide)]⟩ f (by simp at hf ⊢; omega)
        rw [show (tL :: (t.toks ++ [tR])) ++ r = tL :: (t.toks ++ tR :: r) by simp]
        rw [atom, if_neg (by decide), if_neg (by decide), if_neg (by decide), if_pos (by decide), hr]
        simp only [eat]
        rw [if_pos (by decide)]
        rfl
      · rw [if_neg hb] at hl hf ⊢
        cases hw with
        | var x => rw [Ty.toks]; show atom (f + 1) (K 1 x :: r) = _; rw [atom, if_pos (show (K 1 x).kind = 1 from rfl)]; rfl
        | mt m hm =>
          rw [Ty.toks]
          show atom (f + 1) (K 5 (63 :: dec m) :: r) = _
          rw [atom, if_neg (by show ¬ (5 = 1); omega), if_neg (by show ¬ (5 = 2); omega), if_pos (show (K 5 (63 :: dec m)).kind = 5 from rfl)]
          show some (Ty.mt (numOf (dec m)), r) = _
          rw [numOf_dec m hm]
        | con c l h =>
          cases l with
          | nil => rw [Ty.toks, toksL]; show atom (f + 1) (K 2 c :: r) = _; rw [atom, if_neg (by show ¬ (2 = 1); omega), if_pos (show (K 2 c).kind = 2 from rfl)]; rfl
          | cons a l => exact absurd rfl hb
        | fn a b _ _ => exact absurd rfl hb
        | all x t _ => exact absurd rfl hb
    -- arguments
    have hargs : ∀ l, (∀ t ∈ l, Wf t) → (toksL l).length ≤ n → ∀ r, stops r → ∀ f, 4 * ((toksL l).length + r.length) + 2 ≤ f → args f (toksL l ++ r) = some (l, r) := by
      intro l
      induction l with
      | nil =>
        intro _ _ r hr f hf
        obtain ⟨f, rfl⟩ : ∃ g, f = g + 1 := ⟨f - 1, by omega⟩
        rw [toksL, List.nil_append]
        cases r with
        | nil => rw [args]
        | cons t r => rw [args, if_neg (by rw [hr t rfl]; decide)]
      | cons t l ihl =>
        intro hw hl r hr f hf
        obtain ⟨f, rfl⟩ : ∃ g, f = g + 1 := ⟨f - 1, by omega⟩
        rw [toksL] at hl hf ⊢
        rw [List.length_append] at hl hf
        have ha := hatom t (hw t List.mem_cons_self) (by omega) (toksL l ++ r) f (by rw [List.length_append]; omega)
        obtain ⟨x, xs, hx, hxa⟩ : ∃ x xs, (if t.big then tL :: (t.toks ++ [tR]) else t.toks) = x :: xs ∧ atomic x = true := by
          by_cases hb : t.big = true
          · rw [if_pos hb]; exact ⟨_, _, rfl, by decide⟩
          · rw [if_neg hb]
            cases t with
            | var x => exact ⟨_, _, by rw [Ty.toks], rfl⟩
            | mt m => exact ⟨_, _, by rw [Ty.toks], rfl⟩
            | con c l => exact ⟨_, _, by rw [Ty.toks], rfl⟩
            | fn a b => exact absurd rfl hb
            | all y u => exact absurd rfl hb
        rw [List.append_assoc]
        have hx2 : (if t.big then tL :: (t.toks ++ [tR]) else t.toks) ++ (toksL l ++ r) = x :: (xs ++ (toksL l ++ r)) := by rw [hx]; rfl
        have hpos : 1 ≤ (if t.big then tL :: (t.toks ++ [tR]) else t.toks).length := by rw [hx]; simp
        rw [hx2, args, if_pos hxa, ← hx2, ha]
        simp only
        rw [ihl (fun u hu => hw u (List.mem_cons_of_mem _ hu)) (by omega) r hr f (by omega)]
        rfl
    refine ⟨?_, hargs⟩
    -- an app that is no function and no for all
    have happ : ∀ t, Wf t → t.isFA = false → t.toks.length ≤ n → ∀ r, stops r → ∀ f, 4 * (t.toks.length + r.length) + 3 ≤ f → app f (t.toks ++ r) = some (t, r) := by
      intro t hw hfa hl r hr f hf
      obtain ⟨f, rfl⟩ : ∃ g, f = g + 1 := ⟨f - 1, by omega⟩
      cases t with
      | var x =>
        rw [Ty.toks] at hf ⊢
        show app (f + 1) (K 1 x :: r) = _
        rw [app, if_neg (by show ¬ (1 = 2); omega)]
        obtain ⟨f, rfl⟩ : ∃ g, f = g + 1 := ⟨f - 1, by omega⟩
        rw [atom, if_pos (show (K 1 x).kind = 1 from rfl)]; rfl
      | mt m =>
        have hat := hatom (.mt m) hw (by rw [if_neg (by simp [Ty.big])]; exact hl) r f (by rw [if_neg (by simp [Ty.big])]; omega)
        rw [if_neg (by simp [Ty.big])] at hat
        rw [Ty.toks] at hat ⊢
        show app (f + 1) (K 5 (63 :: dec m) :: r) = _
        rw [app, if_neg (by show ¬ (5 = 2); omega)]
        exact hat
      | con c l =>
        rw [Ty.toks] at hl hf ⊢
        rw [List.length_cons] at hl hf
        show app (f + 1) (K 2 c :: (toksL l ++ r)) = _
        cases hw with
        | con _ _ h =>
          rw [app, if_pos (show (K 2 c).kind = 2 from rfl), hargs l h (by omega) r hr f (by omega)]
          rfl
      | fn a b => simp [Ty.isFA] at hfa
      | all x u => simp [Ty.isFA] at hfa
    intro t hw hl r hr f hf
    obtain ⟨f, rfl⟩ : ∃ g, f = g + 1 := ⟨f - 1, by omega⟩
    by_cases hfa : t.isFA = true
    · cases t with
      | var x => simp [Ty.isFA] at hfa
      | mt m => simp [Ty.isFA] at hfa
      | con c l => simp [Ty.isFA] at hfa
      | fn a b =>
        cases hw with
        | fn _ _ ha hb =>
          rw [Ty.toks] at hl hf ⊢
          rw [List.length_append, List.length_cons] at hl hf
          have hb1 : read f (b.toks ++ r) = some (b, r) := (ih b.toks.length (by omega)).1 b hb (Nat.le_refl _) r hr f (by omega)
          have harrow : eat (isSign · [45, 62]) (tArrow :: (b.toks ++ r)) = some (b.toks ++ r) := by rw [eat, if_pos (by decide)]
          have hst : stops (tArrow :: (b.toks ++ r)) := fun x hx => by simp at hx; subst hx; decide
          by_cases hafa : a.isFA = true
          · rw [if_pos hafa] at hl hf ⊢
            have hal : a.toks.length < n := by simp at hl; omega
            obtain ⟨f, rfl⟩ : ∃ g, f = g + 1 := ⟨f - 1, by omega⟩
            obtain ⟨f, rfl⟩ : ∃ g, f = g + 1 := ⟨f - 1, by omega⟩
            have hra := (ih _ hal).1 a ha (Nat.le_refl _) (tR :: tArrow :: (b.toks ++ r)) ⟨fun x hx => by simp at hx; subst hx; decide, by rw [eat, if_neg (by decide)]⟩ f (by simp at hf ⊢; omega)
            rw [show ((tL :: (a.toks ++ [tR])) ++ tArrow :: b.toks) ++ r = tL :: (a.toks ++ tR :: tArrow :: (b.toks ++ r)) by simp]
            have happL : app (f + 1 + 1) (tL :: (a.toks ++ tR :: tArrow :: (b.toks ++ r))) = some (a, tArrow :: (b.toks ++ r)) := by
              rw [app, if_neg (by decide), atom, if_neg (by decide), if_neg (by decide), if_neg (by decide), if_pos (by decide), hra]
              simp only [eat]
              rw [if_pos (by decide)]
              rfl
            rw [read, eat_key _ _ (by decide)]
            simp only [happL, harrow, hb1]
            rfl
          · have hafa : a.isFA = false := by simpa using hafa
            rw [hafa] at hl hf ⊢
            simp only [Bool.false_eq_true, if_false] at hl hf ⊢
            have happA := happ a ha hafa (by omega) (tArrow :: (b.toks ++ r)) hst f (by simp; omega)
            rw [show (a.toks ++ tArrow :: b.toks) ++ r = a.toks ++ tArrow :: (b.toks ++ r) by simp]
            have hkey : eat (isKey · wForall) (a.toks ++ tArrow :: (b.toks ++ r)) = none := by
              cases a with
              | var x => rw [Ty.toks]; exact eat_key _ _ (by show ¬ (1 = 3); omega)
              | mt m => rw [Ty.toks]; exact eat_key _ _ (by show ¬ (5 = 3); omega)
              | con c l => rw [Ty.toks]; exact eat_key _ _ (by show ¬ (2 = 3); omega)
              | fn a b => simp [Ty.isFA] at hafa
              | all x u => simp [Ty.isFA] at hafa
            rw [read, hkey]
            simp only [happA, harrow, hb1]
            rfl
      | all x u =>
        cases hw with
        | all _ _ hu =>
          rw [Ty.toks, peel_toksA] at hl hf ⊢
          have hbl : u.peel.2.toks.length < n := by simp at hl; omega
          have hrb := (ih _ hbl).1 u.peel.2 (peel_wf u hu) (Nat.le_refl _) r hr f (by simp at hf; omega)
          rw [show (tAll :: K 1 x :: (u.peel.1.map (K 1 ·) ++ tDot :: u.peel.2.toks)) ++ r = tAll :: ((x :: u.peel.1).map (K 1 ·) ++ tDot :: (u.peel.2.toks ++ r)) by simp]
          have hkey : eat (isKey · wForall) (tAll :: ((x :: u.peel.1).map (K 1 ·) ++ tDot :: (u.peel.2.toks ++ r))) = some ((x :: u.peel.1).map (K 1 ·) ++ tDot :: (u.peel.2.toks ++ r)) := by
            rw [eat, if_pos (by decide)]
          have hdot : eat (isSign · [46]) (tDot :: (u.peel.2.toks ++ r)) = some (u.peel.2.toks ++ r) := by rw [eat, if_pos (by decide)]
          rw [read, hkey]
          simp only [vars_map _ _ _ (show tDot.kind ≠ 1 by decide), hdot, hrb]
          rw [if_neg (by simp)]
          show some (Ty.all x (alls u.peel.1 u.peel.2), r) = _
          rw [peel_alls]
    · have hfa : t.isFA = false := by simpa using hfa
      have hkey : eat (isKey · wForall) (t.toks ++ r) = none := by
        cases t with
        | var x => rw [Ty.toks]; exact eat_key _ _ (by show ¬ (1 = 3); omega)
        | mt m => rw [Ty.toks]; exact eat_key _ _ (by show ¬ (5 = 3); omega)
        | con c l => rw [Ty.toks]; exact eat_key _ _ (by show ¬ (2 = 3); omega)
        | fn a b => simp [Ty.isFA] at hfa
        | all x u => simp [Ty.isFA] at hfa
      rw [read, hkey]
      simp only [happ t hw hfa hl r hr.1 f (by omega), hr.2]

end Tx
end Go.Proofs.YtefldbbiajkbnaaGreatDoor

/-
  The plain mathematics behind LexCovers: tokens stand where they say, and between them stand blanks and remarks alone.
-/
namespace Go.Proofs.YtefldbbiajkbnaaGreatDoor
namespace Lx

/-- is what follows a byte within a remark? -/
def stp (m : Bool) (c : UInt8) : Bool := if c = 10 then false else if c = 35 then true else m
def rm : Bool → List UInt8 → Bool
  | m, [] => m
  | m, c :: r => rm (stp m c) r
/-- blanks, line ends and remarks alone -/
def okg : Bool → List UInt8 → Prop
  | _, [] => True
  | m, c :: r => (stp m c = true ∨ c = 32 ∨ c = 9 ∨ c = 10) ∧ okg (stp m c) r

theorem btw_ok (m : Bool) (l : List UInt8) : okg m (l.take (btw m l)) ∧ (btw m l < l.length → rm m (l.take (btw m l)) = false) := by
  induction l generalizing m with
  | nil => simp [btw, okg]
  | cons c r ih =>
    cases m with
    | true =>
      have e : btw true (c :: r) = btw (c != 10) r + 1 := rfl
      have hs : stp true c = (c != 10) := by
        unfold stp
        by_cases h : c = 10
        · simp [h]
        · have h2 : (c != 10) = true := by simpa using h
          rw [if_neg h, h2]; split <;> rfl
      rw [e, List.take_succ_cons]
      obtain ⟨h1, h2⟩ := ih (c != 10)
      refine ⟨⟨?_, by rw [hs]; exact h1⟩, fun hl => ?_⟩
      · by_cases h : c = 10
        · exact .inr (.inr (.inr h))
        · left; rw [hs]; simpa using h
      · show rm (stp true c) _ = false
        rw [hs]
        exact h2 (by simpa using hl)
    | false =>
      by_cases hb : c = 32 ∨ c = 9 ∨ c = 10
      · have e : btw false (c :: r) = btw false r + 1 := by rw [btw, if_pos hb]
        have hs : stp false c = false := by
          unfold stp
          rcases hb with h | h | h <;> rw [h] <;> decide
        rw [e, List.take_succ_cons]
        obtain ⟨h1, h2⟩ := ih false
        refine ⟨⟨.inr hb, by rw [hs]; exact h1⟩, fun hl => ?_⟩
        show rm (stp false c) _ = false
        rw [hs]
        exact h2 (by simpa using hl)
      · by_cases h35 : c = 35
        · have e : btw false (c :: r) = btw true r + 1 := by rw [btw, if_neg hb, if_pos h35]
          have hs : stp false c = true := by rw [h35]; decide
          rw [e, List.take_succ_cons]
          obtain ⟨h1, h2⟩ := ih true
          refine ⟨⟨.inl hs, by rw [hs]; exact h1⟩, fun hl => ?_⟩
          show rm (stp false c) _ = false
          rw [hs]
          exact h2 (by simpa using hl)
        · have e : btw false (c :: r) = 0 := by rw [btw, if_neg hb, if_neg h35]
          rw [e]
          exact ⟨trivial, fun _ => rfl⟩

/-- from place f on the tokens cover l -/
def Cov (l : List UInt8) : Nat → List Tok → Prop
  | f, [] => f ≤ l.length ∧ okg false (l.drop f)
  | f, t :: r => f ≤ t.at_ ∧ t.text ≠ [] ∧ t.at_ + t.text.length ≤ l.length ∧ (l.drop t.at_).take t.text.length = t.text ∧
      okg false ((l.drop f).take (t.at_ - f)) ∧ rm false ((l.drop f).take (t.at_ - f)) = false ∧ Cov l (t.at_ + t.text.length) r

theorem cov_sc (L : List UInt8) (n : Nat) : ∀ (i : Nat) (ts : List Tok), L.length - i ≤ n → i ≤ L.length → sc i (L.drop i) = .ok ts → Cov L i ts := by
  induction n with
  | zero =>
    intro i ts hn hi h
    have hl : L.drop i = [] := List.drop_eq_nil_of_le (by omega)
    rw [hl, sc] at h
    injection h with h
    subst h
    exact ⟨hi, by rw [hl]; trivial⟩
  | succ n ih =>
    intro i ts hn hi h
    obtain ⟨hk1, hk2⟩ := btw_ok false (L.drop i)
    have hbl := btw_le false (L.drop i)
    rw [sc_unfold, List.drop_drop] at h
    split at h
    · rename_i h0
      injection h with h
      subst h
      refine ⟨hi, ?_⟩
      have h1 := List.drop_eq_nil_iff.1 h0
      rw [List.take_of_length_le (by rw [List.length_drop]; omega)] at hk1
      exact hk1
    · rename_i h0
      split at h
      · cases h
      · rename_i h1
        have hp := first_pos _ h1
        rw [List.length_drop] at hp hbl hk2
        have hlt : i + btw false (L.drop i) < L.length := by
          rcases Nat.lt_or_ge (i + btw false (L.drop i)) L.length with h | h
          · exact h
          · exact absurd (List.drop_eq_nil_of_le h) h0
        rw [List.drop_drop] at h
        cases hx : sc (i + btw false (L.drop i) + (first (L.drop (i + btw false (L.drop i)))).2) (L.drop (i + btw false (L.drop i) + (first (L.drop (i + btw false (L.drop i)))).2)) with
        | error e => rw [hx] at h; cases h
        | ok us =>
          rw [hx] at h
          have h : Except.ok (_ :: us) = Except.ok ts := h
          injection h with h
          subst h
          have hlen : ((L.drop (i + btw false (L.drop i))).take (first (L.drop (i + btw false (L.drop i)))).2).length = (first (L.drop (i + btw false (L.drop i)))).2 := by
            rw [List.length_take, List.length_drop]; omega
          refine ⟨by simp, ?_, ?_, ?_, ?_, ?_, ?_⟩
          · intro e
            have e2 := congrArg List.length e
            rw [hlen] at e2
            simp at e2
            omega
          · simp only [hlen]; omega
          · simp only [hlen]
          · simp only [Nat.add_sub_cancel_left]; exact hk1
          · simp only [Nat.add_sub_cancel_left]; exact hk2 (by omega)
          · simp only [hlen]
            exact ih _ us (by omega) (by omega) hx

theorem lex_cov (l : List UInt8) (ts : List Tok) (h : lex l = .ok ts) : Cov l 0 ts :=
  cov_sc l l.length 0 ts (by omega) (by omega) (by rw [List.drop_zero, ← lex_sc]; exact h)
end Lx
end Go.Proofs.YtefldbbiajkbnaaGreatDoor

/-
  The plain mathematics behind LexJoins: tokens with a blank, or a remark, behind each are the same tokens.
-/
namespace Go.Proofs.YtefldbbiajkbnaaGreatDoor
namespace Lx

/-- a byte that no token goes on with -/
def ends (d : UInt8) : Prop := inW d = false ∧ isDig d = false ∧ d ≠ 62

theorem span_take (p : UInt8 → Bool) (l : List UInt8) (n : Nat) (h : span p l = n) : span p (l.take n) = n := by
  induction l generalizing n with
  | nil => simp [span] at h ⊢; omega
  | cons c r ih =>
    rw [span] at h
    by_cases hp : p c = true
    · rw [if_pos hp] at h
      obtain ⟨m, rfl⟩ : ∃ m, n = m + 1 := ⟨n - 1, by omega⟩
      rw [List.take_succ_cons, span, if_pos hp, ih m (by omega)]
    · rw [if_neg hp] at h
      subst h
      rfl

theorem number_take (l : List UInt8) (n : Nat) (h : number l = (4, n)) : number (l.take n) = (4, n) := by
  have hb : badNum l = false := by
    cases hx : badNum l with
    | false => rfl
    | true => unfold number at h; rw [if_pos hx] at h; simp at h
  unfold number at h
  rw [hb, if_neg (by simp)] at h
  have hs : span isDig l = n := by injection h
  have hn : n ≠ 0 := by intro e; subst e; simp [badNum, hs] at hb
  have hh : (l.take n).headD 0 = l.headD 0 := by
    cases l with
    | nil => simp
    | cons c r => obtain ⟨m, rfl⟩ : ∃ m, n = m + 1 := ⟨n - 1, by omega⟩; rfl
  have hb2 : badNum (l.take n) = badNum l := by unfold badNum; rw [span_take _ _ _ hs, hs, hh]
  unfold number
  rw [hb2, hb, if_neg (by simp), span_take _ _ _ hs]

/-- a token alone is that token -/
theorem first_take (r : List UInt8) (k n : Nat) (h : first r = (k, n)) (hk : k ≠ 0) : first (r.take n) = (k, n) := by
  have hp := first_pos r (by rw [h]; exact hk)
  rw [h] at hp
  simp only at hp
  cases r with
  | nil => simp [first] at h; omega
  | cons c r =>
    obtain ⟨m, rfl⟩ : ∃ m, n = m + 1 := ⟨n - 1, by omega⟩
    rw [List.take_succ_cons, first]
    rw [first] at h
    have e : c :: r.take m = (c :: r).take (m + 1) := rfl
    by_cases h1 : isLet c = true
    · rw [if_pos h1] at h ⊢
      unfold word at h ⊢
      by_cases hs : 16 < span inW (c :: r)
      · rw [if_pos hs] at h; injection h with h _; omega
      · rw [if_neg hs] at h
        injection h with ha hb
        have ht := span_take inW (c :: r) (m + 1) hb
        rw [e, ht, if_neg (by omega), List.take_take, Nat.min_self, ← ha, hb]
    · rw [if_neg h1] at h ⊢
      by_cases h2 : isDig c = true
      · rw [if_pos h2] at h ⊢
        have hk4 : number (c :: r) = (4, m + 1) := by
          rcases number_cases (c :: r) with e | ⟨e, _, _⟩
          · rw [e] at h; injection h with h _; omega
          · rw [e] at h ⊢; injection h with _ hb; rw [hb]
        rw [hk4] at h
        rw [e, number_take _ _ hk4]
        exact h
      · rw [if_neg h2] at h ⊢
        by_cases h3 : c = 63
        · rw [if_pos h3] at h ⊢
          unfold meta_ at h ⊢
          rw [show (c :: r).drop 1 = r from rfl] at h
          rw [show (c :: r.take m).drop 1 = r.take m from rfl]
          by_cases h0 : (number r).2 = 0
          · rw [if_pos h0] at h; injection h with h _; omega
          · rw [if_neg h0] at h
            injection h with ha hb
            have hm : (number r).2 = m := by omega
            have hk4 : number r = (4, m) := by
              rcases number_cases r with e | ⟨e, _, _⟩
              · rw [e] at h0; exact absurd rfl h0
              · rw [e] at hm ⊢; rw [← hm]
            rw [number_take _ _ hk4, if_neg (by rw [← hm]; exact h0), ← ha]
            simp
            omega
        · rw [if_neg h3] at h ⊢
          unfold sign at h ⊢
          by_cases hpre : (pre [45, 62] (c :: r) || pre [124, 62] (c :: r)) = true
          · rw [if_pos hpre] at h
            injection h with ha hb
            obtain rfl : m = 1 := by omega
            have hq : (pre [45, 62] (c :: r.take 1) || pre [124, 62] (c :: r.take 1)) = true := by
              cases r with
              | nil => simp [pre, List.isPrefixOf] at hpre
              | cons x r => simpa [pre, List.isPrefixOf] using hpre
            rw [if_pos hq, ← ha]
          · rw [if_neg hpre] at h
            by_cases hs : (c :: r).headD 0 ∈ signs
            · rw [if_pos hs] at h
              injection h with ha hb
              obtain rfl : m = 0 := by omega
              rw [List.take_zero, if_neg (by simp [pre, List.isPrefixOf]), if_pos (by simpa using hs), ← ha]
            · rw [if_neg hs] at h; injection h with h _; omega

/-- a token that stands by itself -/
def Good (t : Tok) : Prop := t.text ≠ [] ∧ first t.text = (t.kind, t.text.length) ∧ t.kind ≠ 0

theorem good_sc (n : Nat) : ∀ (i : Nat) (l : List UInt8) (ts : List Tok), l.length ≤ n → sc i l = .ok ts → ∀ t ∈ ts, Good t := by
  induction n with
  | zero =>
    intro i l ts hn h t ht
    have : l = [] := List.eq_nil_of_length_eq_zero (by omega)
    subst this
    injection h with h
    subst h
    cases ht
  | succ n ih =>
    intro i l ts hn h t ht
    rw [sc_unfold] at h
    split at h
    · injection h with h; subst h; cases ht
    · rename_i h0
      split at h
      · cases h
      · rename_i h1
        have hp := first_pos _ h1
        cases hx : sc (i + btw false l + (first (l.drop (btw false l))).2) ((l.drop (btw false l)).drop (first (l.drop (btw false l))).2) with
        | error e => rw [hx] at h; cases h
        | ok us =>
          rw [hx] at h
          have h : Except.ok (_ :: us) = Except.ok ts := h
          injection h with h
          subst h
          rcases List.mem_cons.1 ht with rfl | ht
          · have hlen : ((l.drop (btw false l)).take (first (l.drop (btw false l))).2).length = (first (l.drop (btw false l))).2 := by
              rw [List.length_take]; omega
            refine ⟨?_, ?_, h1⟩
            · intro e
              have e2 := congrArg List.length e
              rw [hlen] at e2
              simp at e2
              omega
            · simp only [hlen]
              exact first_take _ _ _ rfl h1
          · exact ih _ _ us (by simp only [List.length_drop] at hp ⊢; omega) hx t ht

theorem good_lex (l : List UInt8) (ts : List Tok) (h : lex l = .ok ts) : ∀ t ∈ ts, Good t := good_sc l.length 0 l ts (Nat.le_refl _) (by rw [← lex_sc]; exact h)

def sep (b : Bool) : List UInt8 := if b then [35, 32, 120, 32, 41, 32, 63, 10] else [32]

end Lx
end Go.Proofs.YtefldbbiajkbnaaGreatDoor

/-
  The plain mathematics of layer 2 (types): the text of a type is cut into its tokens.
-/
namespace Go.Proofs.YtefldbbiajkbnaaGreatDoor
namespace Tx
open Lx

/-- a text that is one token of kind k -/
def Gd (k : Nat) (s : List UInt8) : Prop := s ≠ [] ∧ first s = (k, s.length) ∧ k ≠ 0
/-- its names are words, its unknowns' numbers have six digits at most -/
inductive Nm : Ty → Prop
  | var (x) : Gd 1 x → Nm (.var x)
  | mt (n) : n ≤ 999999 → Nm (.mt n)
  | con (c l) : Gd 2 c → (∀ t ∈ l, Nm t) → Nm (.con c l)
  | fn (a b) : Nm a → Nm b → Nm (.fn a b)
  | all (x t) : Gd 1 x → Nm t → Nm (.all x t)
theorem decF_len (f g n : Nat) (hg : n < 10 ^ g) (h1 : 1 ≤ g) : (decF f n).length ≤ g := by
  induction f generalizing n g with
  | zero => simp [decF]
  | succ f ih =>
    rw [decF]
    split
    · simpa using h1
    · rename_i hn
      obtain ⟨g, rfl⟩ : ∃ k, g = k + 1 := ⟨g - 1, by omega⟩
      have hg0 : 1 ≤ g := by
        rcases Nat.eq_zero_or_pos g with e | e
        · subst e; simp at hg; omega
        · exact e
      have := ih g (n / 10) (by rw [Nat.pow_succ] at hg; omega) hg0
      simp
      omega

end Tx
end Go.Proofs.YtefldbbiajkbnaaGreatDoor

/-
  The plain mathematics of layer 2 (types): what is read has names that are words, and no more parts than tokens.
-/
namespace Go.Proofs.YtefldbbiajkbnaaGreatDoor
namespace Tx
open Lx

mutual
def Ty.size : Ty → Nat
  | .var _ => 1
  | .mt _ => 1
  | .con _ l => sizeL l + 1
  | .fn a b => a.size + b.size + 1
  | .all _ t => t.size + 1
def sizeL : List Ty → Nat
  | [] => 0
  | t :: r => t.size + sizeL r
end

def AllG (l : List Tok) : Prop := ∀ t ∈ l, Lx.Good t
theorem AllG.tail {t : Tok} {l : List Tok} (h : AllG (t :: l)) : AllG l := fun x hx => h x (List.mem_cons_of_mem _ hx)
theorem AllG.head {t : Tok} {l : List Tok} (h : AllG (t :: l)) : Lx.Good t := h t List.mem_cons_self

theorem eat_some (p : Tok → Bool) (l r : List Tok) (h : eat p l = some r) : ∃ t, l = t :: r ∧ p t = true := by
  cases l with
  | nil => simp [eat] at h
  | cons t l =>
    rw [eat] at h
    split at h
    · rename_i hp
      injection h with h
      exact ⟨t, by rw [h], hp⟩
    · cases h

theorem vars_spec (l : List Tok) (h : AllG l) : (∀ x ∈ (vars l).1, Gd 1 x) ∧ AllG (vars l).2 ∧ (vars l).1.length + (vars l).2.length = l.length := by
  induction l with
  | nil => exact ⟨fun x hx => by simp [vars] at hx, fun x hx => by simp [vars] at hx, rfl⟩
  | cons t r ih =>
    obtain ⟨i1, i2, i3⟩ := ih h.tail
    rw [vars]
    by_cases hk : t.kind = 1
    · rw [if_pos hk]
      refine ⟨fun x hx => ?_, i2, by simp; omega⟩
      rcases List.mem_cons.1 hx with rfl | hx
      · have := h.head
        rw [Lx.Good, hk] at this
        exact ⟨this.1, this.2.1, by omega⟩
      · exact i1 x hx
    · rw [if_neg hk]
      exact ⟨fun x hx => by simp at hx, h, by simp⟩

theorem numOf_lt (l : List UInt8) (h : ∀ d ∈ l, isDig d = true) : numOf l < 10 ^ l.length := by
  have key : ∀ (l : List UInt8) (a : Nat), (∀ d ∈ l, isDig d = true) → l.foldl (fun n c => 10 * n + (c.toNat - 48)) a < (a + 1) * 10 ^ l.length := by
    intro l
    induction l with
    | nil => intro a _; simp
    | cons c r ih =>
      intro a h
      have hc := dig_range c (h c List.mem_cons_self)
      have := ih (10 * a + (c.toNat - 48)) (fun d hd => h d (List.mem_cons_of_mem _ hd))
      rw [List.foldl_cons, List.length_cons, Nat.pow_succ]
      refine Nat.lt_of_lt_of_le this ?_
      rw [Nat.mul_comm (10 ^ r.length) 10, ← Nat.mul_assoc]
      exact Nat.mul_le_mul_right _ (by omega)
  have := key l 0 h
  simpa [numOf] using this

theorem span_full (p : UInt8 → Bool) (l : List UInt8) (h : span p l = l.length) : ∀ d ∈ l, p d = true := by
  induction l with
  | nil => intro d hd; cases hd
  | cons c r ih =>
    rw [span] at h
    by_cases hp : p c = true
    · rw [if_pos hp] at h
      intro d hd
      rcases List.mem_cons.1 hd with rfl | hd
      · exact hp
      · exact ih (by simpa using h) d hd
    · rw [if_neg hp] at h; simp at h

theorem meta_num (t : Tok) (h : Lx.Good t) (hk : t.kind = 5) : numOf (t.text.drop 1) ≤ 999999 := by
  obtain ⟨h1, h2, _⟩ := h
  rw [hk] at h2
  cases hx : t.text with
  | nil => exact absurd hx h1
  | cons c r =>
    rw [hx] at h2
    show numOf r ≤ 999999
    rw [first] at h2
    split at h2
    · exfalso
      unfold word at h2
      split at h2
      · injection h2 with a _; omega
      · injection h2 with a _
        unfold wordKind at a
        split at a
        · omega
        · split at a <;> omega
    · split at h2
      · exfalso
        rcases number_cases (c :: r) with e | ⟨e, _, _⟩ <;> rw [e] at h2 <;> injection h2 with a _ <;> omega
      · split at h2
        · unfold meta_ at h2
          split at h2
          · injection h2 with a _; omega
          · rename_i hn
            injection h2 with _ b
            rw [show (c :: r).drop 1 = r from rfl] at b hn
            rcases number_cases r with e | ⟨e, _, h6⟩
            · rw [e] at hn; exact absurd rfl hn
            · rw [e] at b
              simp at b
              have hs : span isDig r = r.length := by omega
              have := numOf_lt r (span_full isDig r hs)
              have : (10 : Nat) ^ r.length ≤ 10 ^ 6 := Nat.pow_le_pow_right (by omega) (by omega)
              omega
        · exfalso
          unfold sign at h2
          split at h2
          · injection h2 with a _; omega
          · split at h2
            · injection h2 with a _; omega
            · injection h2 with a _; omega

theorem alls_nm (xs : List (List UInt8)) (t : Ty) (hx : ∀ x ∈ xs, Gd 1 x) (ht : Nm t) : Nm (alls xs t) := by
  induction xs with
  | nil => exact ht
  | cons x xs ih => exact .all x _ (hx x List.mem_cons_self) (ih fun y hy => hx y (List.mem_cons_of_mem _ hy))
theorem alls_size (xs : List (List UInt8)) (t : Ty) : (alls xs t).size = xs.length + t.size := by
  induction xs with
  | nil => simp [alls]
  | cons x xs ih =>
    show (Ty.all x (alls xs t)).size = _
    rw [Ty.size, ih, List.length_cons]; omega

theorem read_nm (f : Nat) :
    (∀ l t r, AllG l → read f l = some (t, r) → Nm t ∧ AllG r ∧ t.size + r.length ≤ l.length) ∧
    (∀ l t r, AllG l → app f l = some (t, r) → Nm t ∧ AllG r ∧ t.size + r.length ≤ l.length) ∧
    (∀ l ts r, AllG l → args f l = some (ts, r) → (∀ t ∈ ts, Nm t) ∧ AllG r ∧ sizeL ts + r.length ≤ l.length) ∧
    (∀ l t r, AllG l → atom f l = some (t, r) → Nm t ∧ AllG r ∧ t.size + r.length ≤ l.length) := by
  induction f with
  | zero => exact ⟨(fun _ _ _ _ h => by simp [read] at h), (fun _ _ _ _ h => by simp [app] at h), (fun _ _ _ _ h => by simp [args] at h), (fun _ _ _ _ h => by simp [atom] at h)⟩
  | succ f ih =>
    obtain ⟨i1, i2, i3, i4⟩ := ih
    refine ⟨fun l t r hg h => ?_, fun l t r hg h => ?_, fun l ts r hg h => ?_, fun l t r hg h => ?_⟩
    · rw [read] at h
      cases he : eat (isKey · wForall) l with
      | some r1 =>
        rw [he] at h
        simp only at h
        obtain ⟨t0, rfl, _⟩ := eat_some _ _ _ he
        obtain ⟨v1, v2, v3⟩ := vars_spec r1 hg.tail
        split at h
        · cases h
        · cases he2 : eat (isSign · [46]) (vars r1).2 with
          | none => rw [he2] at h; cases h
          | some r2 =>
            rw [he2] at h
            simp only at h
            obtain ⟨t1, e1, _⟩ := eat_some _ _ _ he2
            rw [e1] at v2 v3
            cases hr : read f r2 with
            | none => rw [hr] at h; cases h
            | some x =>
              obtain ⟨u, r3⟩ := x
              rw [hr] at h
              simp only [Option.map_some, Option.some.injEq, Prod.mk.injEq] at h
              obtain ⟨rfl, rfl⟩ := h
              obtain ⟨a, b, c⟩ := i1 r2 u r3 v2.tail hr
              refine ⟨alls_nm _ _ v1 a, b, ?_⟩
              rw [alls_size]
              simp only [List.length_cons] at v3 ⊢
              omega
      | none =>
        rw [he] at h
        simp only at h
        cases ha : app f l with
        | none => rw [ha] at h; cases h
        | some x =>
          obtain ⟨u, r1⟩ := x
          rw [ha] at h
          simp only at h
          obtain ⟨a, b, c⟩ := i2 l u r1 hg ha
          cases he2 : eat (isSign · [45, 62]) r1 with
          | none =>
            rw [he2] at h
            simp only [Option.some.injEq, Prod.mk.injEq] at h
            obtain ⟨rfl, rfl⟩ := h
            exact ⟨a, b, c⟩
          | some r2 =>
            rw [he2] at h
            simp only at h
            obtain ⟨t1, rfl, _⟩ := eat_some _ _ _ he2
            cases hr : read f r2 with
            | none => rw [hr] at h; cases h
            | some x =>
              obtain ⟨v, r3⟩ := x
              rw [hr] at h
              simp only [Option.map_some, Option.some.injEq, Prod.mk.injEq] at h
              obtain ⟨rfl, rfl⟩ := h
              obtain ⟨a2, b2, c2⟩ := i1 r2 v r3 b.tail hr
              refine ⟨.fn _ _ a a2, b2, ?_⟩
              rw [Ty.size]
              simp only [List.length_cons] at c
              omega
    · cases l with
      | nil => rw [app] at h; cases h
      | cons t0 l =>
        rw [app] at h
        split at h
        · rename_i hk
          cases ha : args f l with
          | none => rw [ha] at h; cases h
          | some x =>
            obtain ⟨us, r1⟩ := x
            rw [ha] at h
            simp only [Option.map_some, Option.some.injEq, Prod.mk.injEq] at h
            obtain ⟨rfl, rfl⟩ := h
            obtain ⟨a, b, c⟩ := i3 l us r1 hg.tail ha
            have hgd := hg.head
            rw [Lx.Good, hk] at hgd
            refine ⟨.con _ _ ⟨hgd.1, hgd.2.1, by omega⟩ a, b, ?_⟩
            rw [Ty.size]
            simp only [List.length_cons]
            omega
        · exact i4 _ _ _ hg h
    · cases l with
      | nil =>
        rw [args] at h
        simp only [Option.some.injEq, Prod.mk.injEq] at h
        obtain ⟨rfl, rfl⟩ := h
        exact ⟨(fun t ht => by cases ht), hg, by simp [sizeL]⟩
      | cons t0 l =>
        rw [args] at h
        split at h
        · cases ha : atom f (t0 :: l) with
          | none => rw [ha] at h; cases h
          | some x =>
            obtain ⟨u, r1⟩ := x
            rw [ha] at h
            simp only at h
            obtain ⟨a, b, c⟩ := i4 _ u r1 hg ha
            cases hb : args f r1 with
            | none => rw [hb] at h; cases h
            | some y =>
              obtain ⟨us, r2⟩ := y
              rw [hb] at h
              simp only [Option.map_some, Option.some.injEq, Prod.mk.injEq] at h
              obtain ⟨rfl, rfl⟩ := h
              obtain ⟨a2, b2, c2⟩ := i3 _ us r2 b hb
              refine ⟨fun t ht => ?_, b2, ?_⟩
              · rcases List.mem_cons.1 ht with rfl | ht
                · exact a
                · exact a2 t ht
              · rw [sizeL]; omega
        · simp only [Option.some.injEq, Prod.mk.injEq] at h
          obtain ⟨rfl, rfl⟩ := h
          exact ⟨(fun t ht => by cases ht), hg, by simp [sizeL]⟩
    · cases l with
      | nil => rw [atom] at h; cases h
      | cons t0 l =>
        rw [atom] at h
        have hgd := hg.head
        split at h
        · rename_i hk
          simp only [Option.some.injEq, Prod.mk.injEq] at h
          obtain ⟨rfl, rfl⟩ := h
          rw [Lx.Good, hk] at hgd
          exact ⟨.var _ ⟨hgd.1, hgd.2.1, by omega⟩, hg.tail, by rw [Ty.size]; simp; omega⟩
        · split at h
          · rename_i hk
            simp only [Option.some.injEq, Prod.mk.injEq] at h
            obtain ⟨rfl, rfl⟩ := h
            rw [Lx.Good, hk] at hgd
            exact ⟨.con _ _ ⟨hgd.1, hgd.2.1, by omega⟩ (fun t ht => by cases ht), hg.tail, by rw [Ty.size, sizeL]; simp; omega⟩
          · split at h
            · rename_i hk
              simp only [Option.some.injEq, Prod.mk.injEq] at h
              obtain ⟨rfl, rfl⟩ := h
              exact ⟨.mt _ (meta_num t0 hgd hk), hg.tail, by rw [Ty.size]; simp; omega⟩
            · split at h
              · cases hr : read f l with
                | none => rw [hr] at h; cases h
                | some x =>
                  obtain ⟨u, r1⟩ := x
                  rw [hr] at h
                  simp only at h
                  obtain ⟨a, b, c⟩ := i1 l u r1 hg.tail hr
                  cases he : eat (isSign · [41]) r1 with
                  | none => rw [he] at h; cases h
                  | some r2 =>
                    rw [he] at h
                    simp only [Option.map_some, Option.some.injEq, Prod.mk.injEq] at h
                    obtain ⟨rfl, rfl⟩ := h
                    obtain ⟨t1, rfl, _⟩ := eat_some _ _ _ he
                    refine ⟨a, b.tail, ?_⟩
                    simp only [List.length_cons] at c ⊢
                    omega
              · cases h

end Tx
end Go.Proofs.YtefldbbiajkbnaaGreatDoor

/-
  The plain mathematics of layer 2 (types): names that are bound are places; canonical names; what is put.
-/
namespace Go.Proofs.YtefldbbiajkbnaaGreatDoor
namespace Tx
open Lx

abbrev Name := List UInt8

/-- a type whose bound variables are told by how many for alls lie between -/
inductive Dt where
  | fv (x : Name)
  | bv (i : Nat)
  | mt (n : Nat)
  | con (c : Name) (l : List Dt)
  | fn (a b : Dt)
  | all (t : Dt)


/-! ### canonical names -/
def nm (letter : UInt8) (k : Nat) : Name := letter :: dec k


/-! ### what stands free -/
mutual
def freeD : Dt → List Name → List Name
  | .fv x, out => addN x out
  | .bv _, out => out
  | .mt _, out => out
  | .con _ l, out => freeDL l out
  | .fn a b, out => freeD b (freeD a out)
  | .all t, out => freeD t out
def freeDL : List Dt → List Name → List Name
  | [], out => out
  | t :: r, out => freeDL r (freeD t out)
end


/-! ### the next name that may be -/
end Tx
end Go.Proofs.YtefldbbiajkbnaaGreatDoor

/-
  The plain mathematics of layer 2 (types): a canonical text tells the type, but for bound names, and nothing more.
-/
namespace Go.Proofs.YtefldbbiajkbnaaGreatDoor
namespace Tx
open Lx

mutual
def allsD : Dt → Nat
  | .fv _ => 0
  | .bv _ => 0
  | .mt _ => 0
  | .con _ l => allsDL l
  | .fn a b => allsD a + allsD b
  | .all t => allsD t + 1
def allsDL : List Dt → Nat
  | [] => 0
  | t :: r => allsD t + allsDL r
end
/-! no place is beyond the n for alls around -/
/-! what is free stands in this list -/


/-! how far the numbers go -/


/-! ### canonical trees -/
/-- small enough that all numbers are told apart -/
def Small (d : Dt) : Prop := (allsD d + 1) * ((freeD d []).length + 1) < 10 ^ 15

/-! ### sizes -/
end Tx
end Go.Proofs.YtefldbbiajkbnaaGreatDoor

/-
  The plain mathematics of layer 2 (types): types in the places of variables and unknowns.
-/
namespace Go.Proofs.YtefldbbiajkbnaaGreatDoor
namespace Tx
open Lx

/-! ### types in the places of all names and unknowns, at once -/



/-! ### the same on trees -/
/-! no for all binds a name of this list -/


/-! ### without a for all -/
end Tx
end Go.Proofs.YtefldbbiajkbnaaGreatDoor
