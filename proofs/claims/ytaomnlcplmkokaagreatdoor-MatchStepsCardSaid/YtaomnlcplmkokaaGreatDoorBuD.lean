/-
  Contracts of the code's functions, part 4.
-/
import Derived.Test.YtaomnlcplmkokaaGreatDoorBuC
import Derived.IntWalk
import Derived.Laws.Rows
/-
  The walks over reader of package lex, and over the closure that it hands back: the next token.
-/
namespace Go.Proofs.YtaomnlcplmkokaaGreatDoor
open Go.RowKit Lx
set_option maxRecDepth 100000

theorem reader_any (s : ByteArray) (w : World) :
    Calls Tryz.prog 101 #[.string s] w fun e w' => e = .returned (.func (.func 117) #[] #[.pointer (some ⟨w.heap.size + 1, 0, none⟩), .pointer (some ⟨w.heap.size, 0, none⟩)]) ∧
      w' = (w.alloc (.cells #[.string s] 9)).alloc (.cells #[.int .i64 0] 3) := by
  have hmf : ∀ (fn : Fn) (first cap : Array Value) (w : World), (Instr.makeFunc fn first cap).run Tryz.prog w = .ok (.func fn first cap) w := fun _ _ _ _ => rfl
  go_enter Tryz.func101, Tryz.ntmps101
  go_wp2
  go_ret
  exact ⟨rfl, rfl⟩

/-- what the closure leaves: the token's own new block, and the place in the block ba -/
theorem next_world (w : World) (ba nq : Nat) (t3 t30 : TypeId) (x u v0 v1 v2 z0 z1 z2 : Value) (ha : w.heap[ba]? = some (.cells #[x] t3 (0, 0))) :
    (((((((w.alloc (.cells #[z0, z1, z2] t30)).drewN nq).setCell ⟨ba, 0, none⟩ u).setCell ⟨w.heap.size, 0, none⟩ v0).setCell ⟨w.heap.size, 1, none⟩ v1).setCell ⟨w.heap.size, 2, none⟩ v2).heap[w.heap.size]? = some (.cells #[v0, v1, v2] t30 (0, 0))) ∧
    (((((((w.alloc (.cells #[z0, z1, z2] t30)).drewN nq).setCell ⟨ba, 0, none⟩ u).setCell ⟨w.heap.size, 0, none⟩ v0).setCell ⟨w.heap.size, 1, none⟩ v1).setCell ⟨w.heap.size, 2, none⟩ v2).heap[ba]? = some (.cells #[u] t3 (0, 0))) ∧
    w.grownBy ((((((w.alloc (.cells #[z0, z1, z2] t30)).drewN nq).setCell ⟨ba, 0, none⟩ u).setCell ⟨w.heap.size, 0, none⟩ v0).setCell ⟨w.heap.size, 1, none⟩ v1).setCell ⟨w.heap.size, 2, none⟩ v2) (some ba) := by
  have hlt := lt_of_block ha
  have n0 : ((w.alloc (.cells #[z0, z1, z2] t30)).drewN nq).heap[w.heap.size]? = some (.cells #[z0, z1, z2] t30 (0, 0)) := heap_alloc_new w _
  have a0 : ((w.alloc (.cells #[z0, z1, z2] t30)).drewN nq).heap[ba]? = some (.cells #[x] t3 (0, 0)) := (Below.heap_alloc w _ ba hlt).trans ha
  have n1 := (heap_setCell_other _ ⟨ba, 0, none⟩ w.heap.size u (by simp; omega)).trans n0
  have a1 := one_setCell (u := u) a0
  have n2 := heap_setCell_same _ w.heap.size 0 _ t30 v0 n1
  have a2 := (heap_setCell_other _ ⟨w.heap.size, 0, none⟩ ba v0 (by simp; omega)).trans a1
  have n3 := heap_setCell_same _ w.heap.size 1 _ t30 v1 n2
  have a3 := (heap_setCell_other _ ⟨w.heap.size, 1, none⟩ ba v1 (by simp; omega)).trans a2
  have n4 := heap_setCell_same _ w.heap.size 2 _ t30 v2 n3
  have a4 := (heap_setCell_other _ ⟨w.heap.size, 2, none⟩ ba v2 (by simp; omega)).trans a3
  refine ⟨n4, a4, ⟨rfl, rfl, rfl, ?_, ?_⟩⟩
  · simp [World.setCell]
  · intro k hk hne
    have hne : k ≠ ba := fun e => hne (by rw [e])
    rw [heap_setCell_other _ _ _ _ (by simp; omega), heap_setCell_other _ _ _ _ (by simp; omega), heap_setCell_other _ _ _ _ (by simp; omega), heap_setCell_other _ _ _ _ (by simpa using hne)]
    exact Below.heap_alloc w _ k hk

set_option maxHeartbeats 400000 in
theorem next_any (s : ByteArray) (i b n k ba bs : Nat) (w : World) (hs : s.size ≤ maxLen) (hi : i ≤ s.size) (hab : bs < ba)
    (ha : w.heap[ba]? = some (.cells #[.int .i64 i] 3 (0, 0))) (hb : w.heap[bs]? = some (.cells #[.string s] 9 (0, 0)))
    (hB : btw false (s.data.toList.drop i) = b) (hN : first (s.data.toList.drop (i + b)) = (k, n)) (hbs : i + b ≤ s.size) (hns : i + b + n ≤ s.size) :
    Calls Tryz.prog 117 #[.pointer (some ⟨ba, 0, none⟩), .pointer (some ⟨bs, 0, none⟩)] w fun e w' => e = .returned (.agg #[.int .i64 k, .string (s.extract (i + b) (i + b + n)), .int .i64 ((i : Int) + b)]) ∧ w.grownBy w' (some ba) ∧ w'.heap[ba]? = some (.cells #[.int .i64 ((i : Int) + b + n)] 3 (0, 0)) := by
  have ca := cell_of_one ha
  have cb := cell_of_one hb
  have hla := lt_of_block ha
  have hlb := lt_of_block hb
  have fa := free_of_one ha
  have hA := hidE ha
  have hBx := hidE hb
  clear ha hb
  have hz := drop_size s i
  have PB : ∀ w : World, Calls Tryz.prog 118 #[.string (s.extract i s.size)] w fun e w' => e = .returned (.int .i64 b) ∧ w' = w := by
    intro w
    have := between_any (s.extract i s.size) w (by omega)
    rw [drop_data, hB] at this
    exact this.mono fun e w' h => ⟨h.1, h.2.symm⟩
  clear hz
  have hz := drop_size s (i + b)
  have PF : ∀ w : World, Calls Tryz.prog 119 #[.string (s.extract (i + b) s.size)] w fun e w' => e = .returned (.tuple #[.int .i64 k, .int .i64 n]) ∧ w = w' := by
    intro w
    have := first_any (s.extract (i + b) s.size) w (by omega)
    rw [drop_data, hN] at this
    exact this
  clear hz hB hN
  unfold maxLen at hs
  go_enter Tryz.func117, Tryz.ntmps117
  go_wp2_with fail
  have sum1 : IntKind.i64.wrap ((i : Int) + (b : Int)) = (i : Int) + b := by exact IntWalk.i64_in _ (by omega)
  go_quiet ((go_at_call 118; exact Calls.quiet_of_same (PB _)))
  clear sum1
  go_wp2_with (go_at_call 119; refine (PF _).mono ?_; rintro e w' ⟨rfl, rfl⟩)
  have HW := next_world w ba nq 3 141 _ (.int .i64 ((i : Int) + b + n)) (.int .i64 k) (.string (s.extract (i + b) (i + b + n))) (.int .i64 ((i : Int) + b)) (.int .i64 0) (.string ⟨#[]⟩) (.int .i64 0) hA.out
  exact bodyPost_ret (results_cell_row rfl _ _ w.heap.size 141 _ (0, 0) _ rfl HW.1 Tryz.underlying141 rfl (by kernel_rfl)) rfl ⟨rfl, HW.2.2, HW.2.1⟩

end Go.Proofs.YtaomnlcplmkokaaGreatDoor

/-
  What lies outside the walk over Scan of package lex: tokens as cells, and what each round keeps.
-/
namespace Go.Proofs.YtaomnlcplmkokaaGreatDoor
open Go.RowKit Lx

/-! ### tokens as cells -/
def tokV (t : Tok) : List Value := [.int .i64 t.kind, .string ⟨t.text.toArray⟩, .int .i64 t.at_]
def toksV (ts : List Tok) : List Value := ts.flatMap tokV
theorem toksV_snoc (ts : List Tok) (t : Tok) : toksV (ts ++ [t]) = toksV ts ++ tokV t := by
  simp [toksV]

/-- what Scan tells of a list of bytes: the tokens, the place, the error -/
def scanS (l : List UInt8) : List Tok × Nat × Nat :=
  if 4000 < l.length then ([], 0, 2) else match lex l with
  | .ok ts => (ts, 0, 0)
  | .error a => ([], a, 10)

/-! ### the round -/
/-- from place i on the next token, of kind k, stands from p to q -/
def Step (s : ByteArray) (i p q k : Nat) : Prop := i ≤ p ∧ p ≤ q ∧ q ≤ s.size ∧ p = i + btw false (s.data.toList.drop i) ∧ first (s.data.toList.drop p) = (k, q - p)

theorem step_of (s : ByteArray) (i : Nat) (hi : i ≤ s.size) : ∃ p q k, Step s i p q k := by
  have h1 := btw_le false (s.data.toList.drop i)
  have h2 := first_le (s.data.toList.drop (i + btw false (s.data.toList.drop i)))
  have hz := Lib.size_eq s
  rw [List.length_drop] at h1 h2
  refine ⟨_, i + btw false (s.data.toList.drop i) + (first (s.data.toList.drop (i + btw false (s.data.toList.drop i)))).2, (first (s.data.toList.drop (i + btw false (s.data.toList.drop i)))).1, by omega, by omega, by omega, rfl, ?_⟩
  rw [Nat.add_sub_cancel_left]

def Known (s : ByteArray) (i : Nat) (ts : List Tok) : Prop := lex s.data.toList = (sc i (s.data.toList.drop i)).map (ts ++ ·) ∧ ts.length ≤ i

theorem known_start (s : ByteArray) : Known s 0 [] := by
  refine ⟨?_, Nat.le_refl _⟩
  rw [lex_sc, List.drop_zero]
  cases sc 0 s.data.toList <;> rfl

theorem known_done (s : ByteArray) (i p q k : Nat) (ts : List Tok) (hk : Known s i ts) (hst : Step s i p q k) (h : ¬ p < s.size) : lex s.data.toList = .ok ts := by
  obtain ⟨_, _, _, h4, _⟩ := hst
  have hz := Lib.size_eq s
  rw [hk.1, sc_unfold, if_pos]
  · show Except.ok (ts ++ []) = _
    rw [List.append_nil]
  · rw [List.drop_drop, ← h4, List.drop_eq_nil_of_le (by omega)]

theorem drop_ne (s : ByteArray) (p : Nat) (h : p < s.size) : s.data.toList.drop p ≠ [] := by
  rw [drop_at s p h]; simp

theorem known_bad (s : ByteArray) (i p q : Nat) (ts : List Tok) (hk : Known s i ts) (hst : Step s i p q 0) (h : p < s.size) : lex s.data.toList = .error p := by
  obtain ⟨_, _, _, h4, h5⟩ := hst
  rw [hk.1, sc_unfold, List.drop_drop, ← h4, if_neg (drop_ne s p h), h5, if_pos rfl]
  rfl

theorem known_next (s : ByteArray) (i p q k : Nat) (ts : List Tok) (hk : Known s i ts) (hst : Step s i p q k) (h : p < s.size) (h0 : k ≠ 0) :
    i < q ∧ Known s q (ts ++ [⟨k, (s.data.toList.drop p).take (q - p), p⟩]) := by
  obtain ⟨h1, h2, h3, h4, h5⟩ := hst
  have hp := first_pos (s.data.toList.drop p) (by rw [h5]; exact h0)
  rw [h5] at hp
  have hq : i < q := by omega
  refine ⟨hq, ?_, by have := hk.2; simp; omega⟩
  rw [hk.1, sc_unfold i, List.drop_drop, ← h4, if_neg (drop_ne s p h), h5, if_neg h0, List.drop_drop, show p + (q - p) = q by omega]
  cases sc q (s.data.toList.drop q) with
  | error a => rfl
  | ok us => show Except.ok _ = Except.ok _; simp

theorem tokV_extract (s : ByteArray) (p q k : Nat) : tokV ⟨k, (s.data.toList.drop p).take (q - p), p⟩ = [.int .i64 k, .string (s.extract p q), .int .i64 p] := by
  unfold tokV
  rw [Lib.extract_eq]

theorem next_step (s : ByteArray) (i p q k ba bs : Nat) (w : World) (hs : s.size ≤ maxLen) (hst : Step s i p q k) (hab : bs < ba)
    (ha : w.heap[ba]? = some (.cells #[.int .i64 i] 3 (0, 0))) (hb : w.heap[bs]? = some (.cells #[.string s] 9 (0, 0))) :
    Calls Tryz.prog 117 #[.pointer (some ⟨ba, 0, none⟩), .pointer (some ⟨bs, 0, none⟩)] w fun e w' => e = .returned (.agg #[.int .i64 k, .string (s.extract p q), .int .i64 p]) ∧ w.grownBy w' (some ba) ∧ w'.heap[ba]? = some (.cells #[.int .i64 q] 3 (0, 0)) := by
  obtain ⟨h1, h2, h3, h4, h5⟩ := hst
  obtain ⟨b, rfl⟩ : ∃ b, p = i + b := ⟨p - i, by omega⟩
  obtain ⟨n, rfl⟩ : ∃ n, q = i + b + n := ⟨q - (i + b), by omega⟩
  rw [Nat.add_sub_cancel_left] at h5
  refine (next_any s i b n k ba bs w hs (by omega) hab ha hb (by omega) h5 (by omega) h3).mono ?_
  rintro e w' ⟨rfl, hg, hh⟩
  refine ⟨by simp, hg, ?_⟩
  rw [hh]
  simp

/-! ### blocks -/
/-- block g holds just these cells, none of them frozen -/
def Blk (w : World) (g : Nat) (t : TypeId) (cs : Array Value) : Prop := w.heap[g]? = some (.cells cs t (0, 0))
section
variable {w w' : World} {g : Nat} {t : TypeId} {cs : Array Value}
theorem Blk.lt (h : Blk w g t cs) : g < w.heap.size := lt_of_block h
theorem Blk.cell (h : Blk w g t cs) (i : Nat) : w.cell? ⟨g, i, none⟩ = cs[i]? := cell_of_row w g i cs t (0, 0) h
theorem Blk.frozen (h : Blk w g t cs) (i : Nat) : w.frozen? ⟨g, i, none⟩ = false := frozen_of_row w g i cs t h
theorem Blk.alloc (h : Blk w g t cs) (o : Obj) : Blk (w.alloc o) g t cs := (Below.heap_alloc w o g h.lt).trans h
theorem Blk.drew (h : Blk w g t cs) : Blk w.drew g t cs := h
theorem Blk.drewN (h : Blk w g t cs) (n : Nat) : Blk (w.drewN n) g t cs := h
theorem Blk.far (h : Blk w g t cs) {p : Addr} (hp : g ≠ p.block) (u : Value) : Blk (w.setCell p u) g t cs := (Below.heap_setCell w p u g hp).trans h
theorem Blk.grown {row : Option Nat} (h : Blk w g t cs) (hb : w.grownBy w' row) (hg : some g ≠ row) : Blk w' g t cs := (hb.block g h.lt hg).trans h
theorem Blk.below {B : Nat} (h : Blk w g t cs) (hb : Below B w w') (hg : g < B) : Blk w' g t cs := (hb.block g hg).trans h
theorem Blk.ne_ {g' : Nat} {t' : TypeId} {cs' : Array Value} (h : Blk w g t cs) (h' : Blk w g' t' cs') (hne : t ≠ t') : g ≠ g' := by
  rintro rfl
  unfold Blk at h h'
  rw [h] at h'
  injection h' with h'
  injection h' with _ ht
  exact hne ht
theorem own_blk_ne {base : Nat} {e : TypeId} {size n : Nat} {v : Value} {xs : List Value} (h : w.ownsRow base e size v n xs) (hg : Blk w g t cs) (hne : e ≠ t) : some g ≠ v.ownBlock := by
  rcases h.2 with ⟨rfl, _⟩ | ⟨g', cap, cur, rfl, _, hh, _⟩
  · simp [Value.ownBlock]
  · intro he
    have : g = g' := by simpa [Value.ownBlock] using he
    subst this
    exact Blk.ne_ (t := e) hh hg hne rfl
end

end Go.Proofs.YtaomnlcplmkokaaGreatDoor

/-
  The plain mathematics behind the laws on single words and numbers.
-/
namespace Go.Proofs.YtaomnlcplmkokaaGreatDoor
namespace Lx

theorem span_all (p : UInt8 → Bool) (l : List UInt8) (h : ∀ c ∈ l, p c = true) : span p l = l.length := by
  induction l with
  | nil => rfl
  | cons c r ih =>
    rw [span, if_pos (h c List.mem_cons_self), ih (fun d hd => h d (List.mem_cons_of_mem _ hd))]
    rfl

theorem let_range (c : UInt8) (h : isLet c = true) : (65 ≤ c.toNat ∧ c.toNat ≤ 90) ∨ (97 ≤ c.toNat ∧ c.toNat ≤ 122) := by
  simp [isLet, isUp] at h
  omega
theorem dig_range (c : UInt8) (h : isDig c = true) : 48 ≤ c.toNat ∧ c.toNat ≤ 57 := by
  simp [isDig] at h
  omega
end Lx
end Go.Proofs.YtaomnlcplmkokaaGreatDoor

/-
  The plain mathematics of layer 2 (types): trees, how tokens are read as one, how one is written. It imports nothing of the program but what tokens are.
-/
namespace Go.Proofs.YtaomnlcplmkokaaGreatDoor
namespace Tx
open Lx

inductive Ty where
  | var (x : List UInt8)
  | mt (n : Nat)
  | con (c : List UInt8) (args : List Ty)
  | fn (a b : Ty)
  | all (x : List UInt8) (t : Ty)

/-! ### reading -/
def isKey (t : Tok) (s : List UInt8) : Bool := t.kind == 3 && t.text == s
def isSign (t : Tok) (s : List UInt8) : Bool := t.kind == 6 && t.text == s
def wForall : List UInt8 := [102, 111, 114, 97, 108, 108]
/-- may an atom begin with this token? -/
def atomic (t : Tok) : Bool := t.kind == 1 || t.kind == 5 || t.kind == 2 || t.text == [40]
/-- the names of variables at the begin, and what is behind them -/
def vars : List Tok → List (List UInt8) × List Tok
  | [] => ([], [])
  | t :: r => if t.kind = 1 then (t.text :: (vars r).1, (vars r).2) else ([], t :: r)
def numOf (l : List UInt8) : Nat := l.foldl (fun n c => 10 * n + (c.toNat - 48)) 0
def alls (xs : List (List UInt8)) (t : Ty) : Ty := xs.foldr Ty.all t
/-- what is behind a token that must stand at the begin -/
def eat (p : Tok → Bool) : List Tok → Option (List Tok)
  | [] => none
  | t :: r => if p t then some r else none

mutual
def read : Nat → List Tok → Option (Ty × List Tok)
  | 0, _ => none
  | f + 1, l =>
    match eat (isKey · wForall) l with
    | some r =>
      if (vars r).1 = [] then none
      else match eat (isSign · [46]) (vars r).2 with
        | none => none
        | some r2 => (read f r2).map fun x => (alls (vars r).1 x.1, x.2)
    | none =>
      match app f l with
      | none => none
      | some (a, r) =>
        match eat (isSign · [45, 62]) r with
        | none => some (a, r)
        | some r2 => (read f r2).map fun x => (.fn a x.1, x.2)
def app : Nat → List Tok → Option (Ty × List Tok)
  | 0, _ => none
  | f + 1, l =>
    match l with
    | [] => none
    | t :: r => if t.kind = 2 then (args f r).map fun x => (.con t.text x.1, x.2) else atom f (t :: r)
def args : Nat → List Tok → Option (List Ty × List Tok)
  | 0, _ => none
  | f + 1, l =>
    match l with
    | [] => some ([], [])
    | t :: r =>
      if atomic t then
        match atom f (t :: r) with
        | none => none
        | some (x, r2) => (args f r2).map fun y => (x :: y.1, y.2)
      else some ([], t :: r)
def atom : Nat → List Tok → Option (Ty × List Tok)
  | 0, _ => none
  | f + 1, l =>
    match l with
    | [] => none
    | t :: r =>
      if t.kind = 1 then some (.var t.text, r)
      else if t.kind = 2 then some (.con t.text [], r)
      else if t.kind = 5 then some (.mt (numOf (t.text.drop 1)), r)
      else if t.text = [40] then
        match read f r with
        | none => none
        | some (x, r2) => (eat (isSign · [41]) r2).map fun r3 => (x, r3)
      else none
end

/-- fuel that is enough -/
def enough (l : List Tok) : Nat := 4 * l.length + 4

/-! ### depth -/
mutual
def Ty.depth : Ty → Nat
  | .var _ => 1
  | .mt _ => 1
  | .con _ l => depthL l + 1
  | .fn a b => max a.depth b.depth + 1
  | .all _ t => t.depth + 1
def depthL : List Ty → Nat
  | [] => 0
  | t :: r => max t.depth (depthL r)
end

/-- B1: what Parse tells of a list of bytes: the type, or the error -/
def parse (s : List UInt8) : Except Nat Ty :=
  match scanS s with
  | (ts, _, 0) =>
    match read (enough ts) ts with
    | some (t, []) => if 50 < t.depth then .error 3 else .ok t
    | _ => .error 20
  | (_, _, e) => .error e

/-! ### writing -/
def digit (n : Nat) : UInt8 := (48 + n % 10).toUInt8
def decF : Nat → Nat → List UInt8
  | 0, _ => []
  | f + 1, n => if n < 10 then [digit n] else decF f (n / 10) ++ [digit n]
def dec (n : Nat) : List UInt8 := decF 20 n

def Ty.isFA : Ty → Bool
  | .fn _ _ => true
  | .all _ _ => true
  | _ => false
/-- must it stand in parentheses, as an argument? -/
def Ty.big : Ty → Bool
  | .fn _ _ => true
  | .all _ _ => true
  | .con _ (_ :: _) => true
  | _ => false

mutual
def Ty.print : Ty → List UInt8
  | .var x => x
  | .mt n => 63 :: dec n
  | .con c l => c ++ printL l
  | .fn a b => (if a.isFA then 40 :: (a.print ++ [41]) else a.print) ++ [32, 45, 62, 32] ++ b.print
  | .all x t => wForall ++ 32 :: x ++ printA t
def printL : List Ty → List UInt8
  | [] => []
  | t :: r => (if t.big then 32 :: 40 :: (t.print ++ [41]) else 32 :: t.print) ++ printL r
def printA : Ty → List UInt8
  | .all y t => 32 :: y ++ printA t
  | .var x => [46, 32] ++ x
  | .mt n => [46, 32] ++ (63 :: dec n)
  | .con c l => [46, 32] ++ (c ++ printL l)
  | .fn a b => [46, 32] ++ ((if a.isFA then 40 :: (a.print ++ [41]) else a.print) ++ [32, 45, 62, 32] ++ b.print)
end

theorem printA_all (y : List UInt8) (t : Ty) : printA (.all y t) = 32 :: y ++ printA t := by rw [printA]
theorem printA_other (t : Ty) (h : ∀ y u, t ≠ .all y u) : printA t = [46, 32] ++ t.print := by
  cases t with
  | all y u => exact absurd rfl (h y u)
  | var x => rw [printA, Ty.print]
  | mt n => rw [printA, Ty.print]
  | con c l => rw [printA, Ty.print]
  | fn a b => rw [printA, Ty.print]

/-! ### what stands in it -/
def addN {α : Type} [DecidableEq α] (x : α) (l : List α) : List α := if x ∈ l then l else l ++ [x]
mutual
def Ty.freeO (bound : List (List UInt8)) : Ty → List (List UInt8) → List (List UInt8)
  | .var x, out => if x ∈ bound then out else addN x out
  | .mt _, out => out
  | .con _ l, out => freeOL bound l out
  | .fn a b, out => b.freeO bound (a.freeO bound out)
  | .all x t, out => t.freeO (bound ++ [x]) out
def freeOL (bound : List (List UInt8)) : List Ty → List (List UInt8) → List (List UInt8)
  | [], out => out
  | t :: r, out => freeOL bound r (t.freeO bound out)
end
def Ty.free (t : Ty) : List (List UInt8) := t.freeO [] []
mutual
def Ty.metasO : Ty → List Nat → List Nat
  | .var _, out => out
  | .mt n, out => addN n out
  | .con _ l, out => metasOL l out
  | .fn a b, out => b.metasO (a.metasO out)
  | .all _ t, out => t.metasO out
def metasOL : List Ty → List Nat → List Nat
  | [], out => out
  | t :: r, out => metasOL r (t.metasO out)
end
def Ty.metas (t : Ty) : List Nat := t.metasO []
mutual
def Ty.poly : Ty → Bool
  | .var _ => false
  | .mt _ => false
  | .con _ l => polyL l
  | .fn a b => a.poly || b.poly
  | .all _ _ => true
def polyL : List Ty → Bool
  | [] => false
  | t :: r => t.poly || polyL r
end

end Tx
end Go.Proofs.YtaomnlcplmkokaaGreatDoor

/-
  The plain mathematics of layer 2 (types): what was written is read, as tokens.
-/
namespace Go.Proofs.YtaomnlcplmkokaaGreatDoor
namespace Tx
open Lx

/-! ### reading does not ask where tokens stand -/
/-! ### a type's tokens -/
def K (k : Nat) (s : List UInt8) : Tok := ⟨k, s, 0⟩
def tL : Tok := K 6 [40]
def tR : Tok := K 6 [41]
def tArrow : Tok := K 6 [45, 62]
def tDot : Tok := K 6 [46]
def tAll : Tok := K 3 wForall
mutual
def Ty.toks : Ty → List Tok
  | .var x => [K 1 x]
  | .mt n => [K 5 (63 :: dec n)]
  | .con c l => K 2 c :: toksL l
  | .fn a b => (if a.isFA then tL :: (a.toks ++ [tR]) else a.toks) ++ tArrow :: b.toks
  | .all x t => tAll :: K 1 x :: toksA t
def toksL : List Ty → List Tok
  | [] => []
  | t :: r => (if t.big then tL :: (t.toks ++ [tR]) else t.toks) ++ toksL r
def toksA : Ty → List Tok
  | .all y t => K 1 y :: toksA t
  | .var x => [tDot, K 1 x]
  | .mt n => [tDot, K 5 (63 :: dec n)]
  | .con c l => tDot :: K 2 c :: toksL l
  | .fn a b => tDot :: ((if a.isFA then tL :: (a.toks ++ [tR]) else a.toks) ++ tArrow :: b.toks)
end
theorem toksA_other (t : Ty) (h : ∀ y u, t ≠ .all y u) : toksA t = tDot :: t.toks := by
  cases t with
  | all y u => exact absurd rfl (h y u)
  | var x => rw [toksA, Ty.toks]
  | mt n => rw [toksA, Ty.toks]
  | con c l => rw [toksA, Ty.toks]
  | fn a b => rw [toksA, Ty.toks]

/-- the numbers of its unknowns can be written with six digits -/
inductive Wf : Ty → Prop
  | var (x) : Wf (.var x)
  | mt (n) : n ≤ 999999 → Wf (.mt n)
  | con (c l) : (∀ t ∈ l, Wf t) → Wf (.con c l)
  | fn (a b) : Wf a → Wf b → Wf (.fn a b)
  | all (x t) : Wf t → Wf (.all x t)

/-- the for alls at its begin, and what is behind them -/
def Ty.peel : Ty → List (List UInt8) × Ty
  | .all x t => (x :: t.peel.1, t.peel.2)
  | t => ([], t)
theorem peel_alls (t : Ty) : alls t.peel.1 t.peel.2 = t := by
  induction t using Ty.peel.induct with
  | case1 x t ih => rw [Ty.peel]; show Ty.all x (alls _ _) = _; rw [ih]
  | case2 t h => rw [Ty.peel]; rfl; exact h
theorem peel_toksA (t : Ty) : toksA t = t.peel.1.map (K 1 ·) ++ tDot :: t.peel.2.toks := by
  induction t using Ty.peel.induct with
  | case1 x t ih => rw [Ty.peel, toksA, ih]; rfl
  | case2 t h => rw [Ty.peel, toksA_other t h]; rfl; exact h
theorem peel_wf (t : Ty) (h : Wf t) : Wf t.peel.2 := by
  induction t using Ty.peel.induct with
  | case1 x t ih => rw [Ty.peel]; cases h with | all _ _ h => exact ih h
  | case2 t h2 => rw [Ty.peel]; exact h; exact h2

theorem vars_map (xs : List (List UInt8)) (t : Tok) (r : List Tok) (h : t.kind ≠ 1) : vars (xs.map (K 1 ·) ++ t :: r) = (xs, t :: r) := by
  induction xs with
  | nil => rw [List.map_nil, List.nil_append, vars, if_neg h]
  | cons x xs ih => rw [List.map_cons, List.cons_append, vars, if_pos (show (K 1 x).kind = 1 from rfl), ih]; rfl

/-- decimal digits are read back -/
theorem digit_nat (n : Nat) : (digit n).toNat = 48 + n % 10 := by
  unfold digit
  rw [Nat.toUInt8_eq, UInt8.toNat_ofNat']
  omega
theorem numOf_snoc (l : List UInt8) (c : UInt8) : numOf (l ++ [c]) = 10 * numOf l + (c.toNat - 48) := by
  simp [numOf]
theorem numOf_decF (f n : Nat) (h : n < 10 ^ f) : numOf (decF f n) = n := by
  induction f generalizing n with
  | zero => simp at h; subst h; rfl
  | succ f ih =>
    rw [decF]
    split
    · show 10 * 0 + ((digit n).toNat - 48) = n
      rw [digit_nat]; omega
    · rw [numOf_snoc, ih (n / 10) (by rw [Nat.pow_succ] at h; omega), digit_nat]
      omega
theorem numOf_dec (n : Nat) (h : n ≤ 999999) : numOf (dec n) = n := numOf_decF 20 n (by omega)

/-- what may follow a type -/
def stops (r : List Tok) : Prop := ∀ t, r.head? = some t → atomic t = false
def stopsF (r : List Tok) : Prop := stops r ∧ eat (isSign · [45, 62]) r = none

theorem eat_key (t : Tok) (r : List Tok) (h : t.kind ≠ 3) : eat (isKey · wForall) (t :: r) = none := by
  rw [eat, if_neg]
  simp [isKey, h]

theorem back (n : Nat) :
    (∀ t, Wf t → t.toks.length ≤ n → ∀ r, stopsF r → ∀ f, 4 * (t.toks.length + r.length) + 4 ≤ f → read f (t.toks ++ r) = some (t, r)) ∧
    (∀ l, (∀ t ∈ l, Wf t) → (toksL l).length ≤ n → ∀ r, stops r → ∀ f, 4 * ((toksL l).length + r.length) + 2 ≤ f → args f (toksL l ++ r) = some (l, r)) := by
  induction n using Nat.strongRecOn with
  | ind n ih =>
    -- an atom
    have hatom : ∀ t, Wf t → (if t.big then tL :: (t.toks ++ [tR]) else t.toks).length ≤ n → ∀ r, ∀ f, 4 * ((if t.big then tL :: (t.toks ++ [tR]) else t.toks).length + r.length) + 1 ≤ f →
        atom f ((if t.big then tL :: (t.toks ++ [tR]) else t.toks) ++ r) = some (t, r) := by
      intro t hw hl r f hf
      obtain ⟨f, rfl⟩ : ∃ g, f = g + 1 := ⟨f - 1, by omega⟩
      by_cases hb : t.big = true
      · rw [if_pos hb] at hl hf ⊢
        have hlen : t.toks.length < n := by simp at hl; omega
        have hr := (ih _ hlen).1 t hw (Nat.le_refl _) (tR :: r) ⟨fun x hx => by simp at hx; subst hx; decide, by rw [eat, if_neg (by decide)]⟩ f (by simp at hf ⊢; omega)
        rw [show (tL :: (t.toks ++ [tR])) ++ r = tL :: (t.toks ++ tR :: r) by simp]
        rw [atom, if_neg (by decide), if_neg (by decide), if_neg (by decide), if_pos (by decide), hr]
        simp only [eat]
        rw [if_pos (by decide)]
        rfl
      · rw [if_neg hb] at hl hf ⊢
        cases hw with
        | var x => rw [Ty.toks]; show atom (f + 1) (K 1 x :: r) = _; rw [atom, if_pos (show (K 1 x).kind = 1 from rfl)]; rfl
        | mt m hm =>
          rw [Ty.toks]
          show atom (f + 1) (K 5 (63 :: dec m) :: r) = _
          rw [atom, if_neg (by show ¬ (5 = 1); omega), if_neg (by show ¬ (5 = 2); omega), if_pos (show (K 5 (63 :: dec m)).kind = 5 from rfl)]
          show some (Ty.mt (numOf (dec m)), r) = _
          rw [numOf_dec m hm]
        | con c l h =>
          cases l with
          | nil => rw [Ty.toks, toksL]; show atom (f + 1) (K 2 c :: r) = _; rw [atom, if_neg (by show ¬ (2 = 1); omega), if_pos (show (K 2 c).kind = 2 from rfl)]; rfl
          | cons a l => exact absurd rfl hb
        | fn a b _ _ => exact absurd rfl hb
        | all x t _ => exact absurd rfl hb
    -- arguments
    have hargs : ∀ l, (∀ t ∈ l, Wf t) → (toksL l).length ≤ n → ∀ r, stops r → ∀ f, 4 * ((toksL l).length + r.length) + 2 ≤ f → args f (toksL l ++ r) = some (l, r) := by
      intro l
      induction l with
      | nil =>
        intro _ _ r hr f hf
        obtain ⟨f, rfl⟩ : ∃ g, f = g + 1 := ⟨f - 1, by omega⟩
        rw [toksL, List.nil_append]
        cases r with
        | nil => rw [args]
        | cons t r => rw [args, if_neg (by rw [hr t rfl]; decide)]
      | cons t l ihl =>
        intro hw hl r hr f hf
        obtain ⟨f, rfl⟩ : ∃ g, f = g + 1 := ⟨f - 1, by omega⟩
        rw [toksL] at hl hf ⊢
        rw [List.length_append] at hl hf
        have ha := hatom t (hw t List.mem_cons_self) (by omega) (toksL l ++ r) f (by rw [List.length_append]; omega)
        obtain ⟨x, xs, hx, hxa⟩ : ∃ x xs, (if t.big then tL :: (t.toks ++ [tR]) else t.toks) = x :: xs ∧ atomic x = true := by
          by_cases hb : t.big = true
          · rw [if_pos hb]; exact ⟨_, _, rfl, by decide⟩
          · rw [if_neg hb]
            cases t with
            | var x => exact ⟨_, _, by rw [Ty.toks], rfl⟩
            | mt m => exact ⟨_, _, by rw [Ty.toks], rfl⟩
            | con c l => exact ⟨_, _, by rw [Ty.toks], rfl⟩
            | fn a b => exact absurd rfl hb
            | all y u => exact absurd rfl hb
        rw [List.append_assoc]
        have hx2 : (if t.big then tL :: (t.toks ++ [tR]) else t.toks) ++ (toksL l ++ r) = x :: (xs ++ (toksL l ++ r)) := by rw [hx]; rfl
        have hpos : 1 ≤ (if t.big then tL :: (t.toks ++ [tR]) else t.toks).length := by rw [hx]; simp
        rw [hx2, args, if_pos hxa, ← hx2, ha]
        simp only
        rw [ihl (fun u hu => hw u (List.mem_cons_of_mem _ hu)) (by omega) r hr f (by omega)]
        rfl
    refine ⟨?_, hargs⟩
    -- an app that is no function and no for all
    have happ : ∀ t, Wf t → t.isFA = false → t.toks.length ≤ n → ∀ r, stops r → ∀ f, 4 * (t.toks.length + r.length) + 3 ≤ f → app f (t.toks ++ r) = some (t, r) := by
      intro t hw hfa hl r hr f hf
      obtain ⟨f, rfl⟩ : ∃ g, f = g + 1 := ⟨f - 1, by omega⟩
      cases t with
      | var x =>
        rw [Ty.toks] at hf ⊢
        show app (f + 1) (K 1 x :: r) = _
        rw [app, if_neg (by show ¬ (1 = 2); omega)]
        obtain ⟨f, rfl⟩ : ∃ g, f = g + 1 := ⟨f - 1, by omega⟩
        rw [atom, if_pos (show (K 1 x).kind = 1 from rfl)]; rfl
      | mt m =>
        have hat := hatom (.mt m) hw (by rw [if_neg (by simp [Ty.big])]; exact hl) r f (by rw [if_neg (by simp [Ty.big])]; omega)
        rw [if_neg (by simp [Ty.big])] at hat
        rw [Ty.toks] at hat ⊢
        show app (f + 1) (K 5 (63 :: dec m) :: r) = _
        rw [app, if_neg (by show ¬ (5 = 2); omega)]
        exact hat
      | con c l =>
        rw [Ty.toks] at hl hf ⊢
        rw [List.length_cons] at hl hf
        show app (f + 1) (K 2 c :: (toksL l ++ r)) = _
        cases hw with
        | con _ _ h =>
          rw [app, if_pos (show (K 2 c).kind = 2 from rfl), hargs l h (by omega) r hr f (by omega)]
          rfl
      | fn a b => simp [Ty.isFA] at hfa
      | all x u => simp [Ty.isFA] at hfa
    intro t hw hl r hr f hf
    obtain ⟨f, rfl⟩ : ∃ g, f = g + 1 := ⟨f - 1, by omega⟩
    by_cases hfa : t.isFA = true
    · cases t with
      | var x => simp [Ty.isFA] at hfa
      | mt m => simp [Ty.isFA] at hfa
      | con c l => simp [Ty.isFA] at hfa
      | fn a b =>
        cases hw with
        | fn _ _ ha hb =>
          rw [Ty.toks] at hl hf ⊢
          rw [List.length_append, List.length_cons] at hl hf
          have hb1 : read f (b.toks ++ r) = some (b, r) := (ih b.toks.length (by omega)).1 b hb (Nat.le_refl _) r hr f (by omega)
          have harrow : eat (isSign · [45, 62]) (tArrow :: (b.toks ++ r)) = some (b.toks ++ r) := by rw [eat, if_pos (by decide)]
          have hst : stops (tArrow :: (b.toks ++ r)) := fun x hx => by simp at hx; subst hx; decide
          by_cases hafa : a.isFA = true
          · rw [if_pos hafa] at hl hf ⊢
            have hal : a.toks.length < n := by simp at hl; omega
            obtain ⟨f, rfl⟩ : ∃ g, f = g + 1 := ⟨f - 1, by omega⟩
            obtain ⟨f, rfl⟩ : ∃ g, f = g + 1 := ⟨f - 1, by omega⟩
            have hra := (ih _ hal).1 a ha (Nat.le_refl _) (tR :: tArrow :: (b.toks ++ r)) ⟨fun x hx => by simp at hx; subst hx; decide, by rw [eat, if_neg (by decide)]⟩ f (by simp at hf ⊢; omega)
            rw [show ((tL :: (a.toks ++ [tR])) ++ tArrow :: b.toks) ++ r = tL :: (a.toks ++ tR :: tArrow :: (b.toks ++ r)) by simp]
            have happL : app (f + 1 + 1) (tL :: (a.toks ++ tR :: tArrow :: (b.toks ++ r))) = some (a, tArrow :: (b.toks ++ r)) := by
              rw [app, if_neg (by decide), atom, if_neg (by decide), if_neg (by decide), if_neg (by decide), if_pos (by decide), hra]
              simp only [eat]
              rw [if_pos (by decide)]
              rfl
            rw [read, eat_key _ _ (by decide)]
            simp only [happL, harrow, hb1]
            rfl
          · have hafa : a.isFA = false := by simpa using hafa
            rw [hafa] at hl hf ⊢
            simp only [Bool.false_eq_true, if_false] at hl hf ⊢
            have happA := happ a ha hafa (by omega) (tArrow :: (b.toks ++ r)) hst f (by simp; omega)
            rw [show (a.toks ++ tArrow :: b.toks) ++ r = a.toks ++ tArrow :: (b.toks ++ r) by simp]
            have hkey : eat (isKey · wForall) (a.toks ++ tArrow :: (b.toks ++ r)) = none := by
              cases a with
              | var x => rw [Ty.toks]; exact eat_key _ _ (by show ¬ (1 = 3); omega)
              | mt m => rw [Ty.toks]; exact eat_key _ _ (by show ¬ (5 = 3); omega)
              | con c l => rw [Ty.toks]; exact eat_key _ _ (by show ¬ (2 = 3); omega)
              | fn a b => simp [Ty.isFA] at hafa
              | all x u => simp [Ty.isFA] at hafa
            rw [read, hkey]
            simp only [happA, harrow, hb1]
            rfl
      | all x u =>
        cases hw with
        | all _ _ hu =>
          rw [Ty.toks, peel_toksA] at hl hf ⊢
          have hbl : u.peel.2.toks.length < n := by simp at hl; omega
          have hrb := (ih _ hbl).1 u.peel.2 (peel_wf u hu) (Nat.le_refl _) r hr f (by simp at hf; omega)
          rw [show (tAll :: K 1 x :: (u.peel.1.map (K 1 ·) ++ tDot :: u.peel.2.toks)) ++ r = tAll :: ((x :: u.peel.1).map (K 1 ·) ++ tDot :: (u.peel.2.toks ++ r)) by simp]
          have hkey : eat (isKey · wForall) (tAll :: ((x :: u.peel.1).map (K 1 ·) ++ tDot :: (u.peel.2.toks ++ r))) = some ((x :: u.peel.1).map (K 1 ·) ++ tDot :: (u.peel.2.toks ++ r)) := by
            rw [eat, if_pos (by decide)]
          have hdot : eat (isSign · [46]) (tDot :: (u.peel.2.toks ++ r)) = some (u.peel.2.toks ++ r) := by rw [eat, if_pos (by decide)]
          rw [read, hkey]
          simp only [vars_map _ _ _ (show tDot.kind ≠ 1 by decide), hdot, hrb]
          rw [if_neg (by simp)]
          show some (Ty.all x (alls u.peel.1 u.peel.2), r) = _
          rw [peel_alls]
    · have hfa : t.isFA = false := by simpa using hfa
      have hkey : eat (isKey · wForall) (t.toks ++ r) = none := by
        cases t with
        | var x => rw [Ty.toks]; exact eat_key _ _ (by show ¬ (1 = 3); omega)
        | mt m => rw [Ty.toks]; exact eat_key _ _ (by show ¬ (5 = 3); omega)
        | con c l => rw [Ty.toks]; exact eat_key _ _ (by show ¬ (2 = 3); omega)
        | fn a b => simp [Ty.isFA] at hfa
        | all x u => simp [Ty.isFA] at hfa
      rw [read, hkey]
      simp only [happ t hw hfa hl r hr.1 f (by omega), hr.2]

end Tx
end Go.Proofs.YtaomnlcplmkokaaGreatDoor

/-
  The plain mathematics behind LexCovers: tokens stand where they say, and between them stand blanks and remarks alone.
-/
namespace Go.Proofs.YtaomnlcplmkokaaGreatDoor
namespace Lx

/-- is what follows a byte within a remark? -/
def stp (m : Bool) (c : UInt8) : Bool := if c = 10 then false else if c = 35 then true else m
def rm : Bool → List UInt8 → Bool
  | m, [] => m
  | m, c :: r => rm (stp m c) r
/-- blanks, line ends and remarks alone -/
def okg : Bool → List UInt8 → Prop
  | _, [] => True
  | m, c :: r => (stp m c = true ∨ c = 32 ∨ c = 9 ∨ c = 10) ∧ okg (stp m c) r

theorem btw_ok (m : Bool) (l : List UInt8) : okg m (l.take (btw m l)) ∧ (btw m l < l.length → rm m (l.take (btw m l)) = false) := by
  induction l generalizing m with
  | nil => simp [btw, okg]
  | cons c r ih =>
    cases m with
    | true =>
      have e : btw true (c :: r) = btw (c != 10) r + 1 := rfl
      have hs : stp true c = (c != 10) := by
        unfold stp
        by_cases h : c = 10
        · simp [h]
        · have h2 : (c != 10) = true := by simpa using h
          rw [if_neg h, h2]; split <;> rfl
      rw [e, List.take_succ_cons]
      obtain ⟨h1, h2⟩ := ih (c != 10)
      refine ⟨⟨?_, by rw [hs]; exact h1⟩, fun hl => ?_⟩
      · by_cases h : c = 10
        · exact .inr (.inr (.inr h))
        · left; rw [hs]; simpa using h
      · show rm (stp true c) _ = false
        rw [hs]
        exact h2 (by simpa using hl)
    | false =>
      by_cases hb : c = 32 ∨ c = 9 ∨ c = 10
      · have e : btw false (c :: r) = btw false r + 1 := by rw [btw, if_pos hb]
        have hs : stp false c = false := by
          unfold stp
          rcases hb with h | h | h <;> rw [h] <;> decide
        rw [e, List.take_succ_cons]
        obtain ⟨h1, h2⟩ := ih false
        refine ⟨⟨.inr hb, by rw [hs]; exact h1⟩, fun hl => ?_⟩
        show rm (stp false c) _ = false
        rw [hs]
        exact h2 (by simpa using hl)
      · by_cases h35 : c = 35
        · have e : btw false (c :: r) = btw true r + 1 := by rw [btw, if_neg hb, if_pos h35]
          have hs : stp false c = true := by rw [h35]; decide
          rw [e, List.take_succ_cons]
          obtain ⟨h1, h2⟩ := ih true
          refine ⟨⟨.inl hs, by rw [hs]; exact h1⟩, fun hl => ?_⟩
          show rm (stp false c) _ = false
          rw [hs]
          exact h2 (by simpa using hl)
        · have e : btw false (c :: r) = 0 := by rw [btw, if_neg hb, if_neg h35]
          rw [e]
          exact ⟨trivial, fun _ => rfl⟩

/-- from place f on the tokens cover l -/
def Cov (l : List UInt8) : Nat → List Tok → Prop
  | f, [] => f ≤ l.length ∧ okg false (l.drop f)
  | f, t :: r => f ≤ t.at_ ∧ t.text ≠ [] ∧ t.at_ + t.text.length ≤ l.length ∧ (l.drop t.at_).take t.text.length = t.text ∧
      okg false ((l.drop f).take (t.at_ - f)) ∧ rm false ((l.drop f).take (t.at_ - f)) = false ∧ Cov l (t.at_ + t.text.length) r

theorem cov_sc (L : List UInt8) (n : Nat) : ∀ (i : Nat) (ts : List Tok), L.length - i ≤ n → i ≤ L.length → sc i (L.drop i) = .ok ts → Cov L i ts := by
  induction n with
  | zero =>
    intro i ts hn hi h
    have hl : L.drop i = [] := List.drop_eq_nil_of_le (by omega)
    rw [hl, sc] at h
    injection h with h
    subst h
    exact ⟨hi, by rw [hl]; trivial⟩
  | succ n ih =>
    intro i ts hn hi h
    obtain ⟨hk1, hk2⟩ := btw_ok false (L.drop i)
    have hbl := btw_le false (L.drop i)
    rw [sc_unfold, List.drop_drop] at h
    split at h
    · rename_i h0
      injection h with h
      subst h
      refine ⟨hi, ?_⟩
      have h1 := List.drop_eq_nil_iff.1 h0
      rw [List.take_of_length_le (by rw [List.length_drop]; omega)] at hk1
      exact hk1
    · rename_i h0
      split at h
      · cases h
      · rename_i h1
        have hp := first_pos _ h1
        rw [List.length_drop] at hp hbl hk2
        have hlt : i + btw false (L.drop i) < L.length := by
          rcases Nat.lt_or_ge (i + btw false (L.drop i)) L.length with h | h
          · exact h
          · exact absurd (List.drop_eq_nil_of_le h) h0
        rw [List.drop_drop] at h
        cases hx : sc (i + btw false (L.drop i) + (first (L.drop (i + btw false (L.drop i)))).2) (L.drop (i + btw false (L.drop i) + (first (L.drop (i + btw false (L.drop i)))).2)) with
        | error e => rw [hx] at h; cases h
        | ok us =>
          rw [hx] at h
          have h : Except.ok (_ :: us) = Except.ok ts := h
          injection h with h
          subst h
          have hlen : ((L.drop (i + btw false (L.drop i))).take (first (L.drop (i + btw false (L.drop i)))).2).length = (first (L.drop (i + btw false (L.drop i)))).2 := by
            rw [List.length_take, List.length_drop]; omega
          refine ⟨by simp, ?_, ?_, ?_, ?_, ?_, ?_⟩
          · intro e
            have e2 := congrArg List.length e
            rw [hlen] at e2
            simp at e2
            omega
          · simp only [hlen]; omega
          · simp only [hlen]
          · simp only [Nat.add_sub_cancel_left]; exact hk1
          · simp only [Nat.add_sub_cancel_left]; exact hk2 (by omega)
          · simp only [hlen]
            exact ih _ us (by omega) (by omega) hx

theorem lex_cov (l : List UInt8) (ts : List Tok) (h : lex l = .ok ts) : Cov l 0 ts :=
  cov_sc l l.length 0 ts (by omega) (by omega) (by rw [List.drop_zero, ← lex_sc]; exact h)
end Lx
end Go.Proofs.YtaomnlcplmkokaaGreatDoor

/-
  The plain mathematics behind LexJoins: tokens with a blank, or a remark, behind each are the same tokens.
-/
namespace Go.Proofs.YtaomnlcplmkokaaGreatDoor
namespace Lx

/-- a byte that no token goes on with -/
def ends (d : UInt8) : Prop := inW d = false ∧ isDig d = false ∧ d ≠ 62

theorem span_take (p : UInt8 → Bool) (l : List UInt8) (n : Nat) (h : span p l = n) : span p (l.take n) = n := by
  induction l generalizing n with
  | nil => simp [span] at h ⊢; omega
  | cons c r ih =>
    rw [span] at h
    by_cases hp : p c = true
    · rw [if_pos hp] at h
      obtain ⟨m, rfl⟩ : ∃ m, n = m + 1 := ⟨n - 1, by omega⟩
      rw [List.take_succ_cons, span, if_pos hp, ih m (by omega)]
    · rw [if_neg hp] at h
      subst h
      rfl

theorem number_take (l : List UInt8) (n : Nat) (h : number l = (4, n)) : number (l.take n) = (4, n) := by
  have hb : badNum l = false := by
    cases hx : badNum l with
    | false => rfl
    | true => unfold number at h; rw [if_pos hx] at h; simp at h
  unfold number at h
  rw [hb, if_neg (by simp)] at h
  have hs : span isDig l = n := by injection h
  have hn : n ≠ 0 := by intro e; subst e; simp [badNum, hs] at hb
  have hh : (l.take n).headD 0 = l.headD 0 := by
    cases l with
    | nil => simp
    | cons c r => obtain ⟨m, rfl⟩ : ∃ m, n = m + 1 := ⟨n - 1, by omega⟩; rfl
  have hb2 : badNum (l.take n) = badNum l := by unfold badNum; rw [span_take _ _ _ hs, hs, hh]
  unfold number
  rw [hb2, hb, if_neg (by simp), span_take _ _ _ hs]

/-- a token alone is that token -/
theorem first_take (r : List UInt8) (k n : Nat) (h : first r = (k, n)) (hk : k ≠ 0) : first (r.take n) = (k, n) := by
  have hp := first_pos r (by rw [h]; exact hk)
  rw [h] at hp
  simp only at hp
  cases r with
  | nil => simp [first] at h; omega
  | cons c r =>
    obtain ⟨m, rfl⟩ : ∃ m, n = m + 1 := ⟨n - 1, by omega⟩
    rw [List.take_succ_cons, first]
    rw [first] at h
    have e : c :: r.take m = (c :: r).take (m + 1) := rfl
    by_cases h1 : isLet c = true
    · rw [if_pos h1] at h ⊢
      unfold word at h ⊢
      by_cases hs : 16 < span inW (c :: r)
      · rw [if_pos hs] at h; injection h with h _; omega
      · rw [if_neg hs] at h
        injection h with ha hb
        have ht := span_take inW (c :: r) (m + 1) hb
        rw [e, ht, if_neg (by omega), List.take_take, Nat.min_self, ← ha, hb]
    · rw [if_neg h1] at h ⊢
      by_cases h2 : isDig c = true
      · rw [if_pos h2] at h ⊢
        have hk4 : number (c :: r) = (4, m + 1) := by
          rcases number_cases (c :: r) with e | ⟨e, _, _⟩
          · rw [e] at h; injection h with h _; omega
          · rw [e] at h ⊢; injection h with _ hb; rw [hb]
        rw [hk4] at h
        rw [e, number_take _ _ hk4]
        exact h
      · rw [if_neg h2] at h ⊢
        by_cases h3 : c = 63
        · rw [if_pos h3] at h ⊢
          unfold meta_ at h ⊢
          rw [show (c :: r).drop 1 = r from rfl] at h
          rw [show (c :: r.take m).drop 1 = r.take m from rfl]
          by_cases h0 : (number r).2 = 0
          · rw [if_pos h0] at h; injection h with h _; omega
          · rw [if_neg h0] at h
            injection h with ha hb
            have hm : (number r).2 = m := by omega
            have hk4 : number r = (4, m) := by
              rcases number_cases r with e | ⟨e, _, _⟩
              · rw [e] at h0; exact absurd rfl h0
              · rw [e] at hm ⊢; rw [← hm]
            rw [number_take _ _ hk4, if_neg (by rw [← hm]; exact h0), ← ha]
            simp
            omega
        · rw [if_neg h3] at h ⊢
          unfold sign at h ⊢
          by_cases hpre : (pre [45, 62] (c :: r) || pre [124, 62] (c :: r)) = true
          · rw [if_pos hpre] at h
            injection h with ha hb
            obtain rfl : m = 1 := by omega
            have hq : (pre [45, 62] (c :: r.take 1) || pre [124, 62] (c :: r.take 1)) = true := by
              cases r with
              | nil => simp [pre, List.isPrefixOf] at hpre
              | cons x r => simpa [pre, List.isPrefixOf] using hpre
            rw [if_pos hq, ← ha]
          · rw [if_neg hpre] at h
            by_cases hs : (c :: r).headD 0 ∈ signs
            · rw [if_pos hs] at h
              injection h with ha hb
              obtain rfl : m = 0 := by omega
              rw [List.take_zero, if_neg (by simp [pre, List.isPrefixOf]), if_pos (by simpa using hs), ← ha]
            · rw [if_neg hs] at h; injection h with h _; omega

/-- a token that stands by itself -/
def Good (t : Tok) : Prop := t.text ≠ [] ∧ first t.text = (t.kind, t.text.length) ∧ t.kind ≠ 0

theorem good_sc (n : Nat) : ∀ (i : Nat) (l : List UInt8) (ts : List Tok), l.length ≤ n → sc i l = .ok ts → ∀ t ∈ ts, Good t := by
  induction n with
  | zero =>
    intro i l ts hn h t ht
    have : l = [] := List.eq_nil_of_length_eq_zero (by omega)
    subst this
    injection h with h
    subst h
    cases ht
  | succ n ih =>
    intro i l ts hn h t ht
    rw [sc_unfold] at h
    split at h
    · injection h with h; subst h; cases ht
    · rename_i h0
      split at h
      · cases h
      · rename_i h1
        have hp := first_pos _ h1
        cases hx : sc (i + btw false l + (first (l.drop (btw false l))).2) ((l.drop (btw false l)).drop (first (l.drop (btw false l))).2) with
        | error e => rw [hx] at h; cases h
        | ok us =>
          rw [hx] at h
          have h : Except.ok (_ :: us) = Except.ok ts := h
          injection h with h
          subst h
          rcases List.mem_cons.1 ht with rfl | ht
          · have hlen : ((l.drop (btw false l)).take (first (l.drop (btw false l))).2).length = (first (l.drop (btw false l))).2 := by
              rw [List.length_take]; omega
            refine ⟨?_, ?_, h1⟩
            · intro e
              have e2 := congrArg List.length e
              rw [hlen] at e2
              simp at e2
              omega
            · simp only [hlen]
              exact first_take _ _ _ rfl h1
          · exact ih _ _ us (by simp only [List.length_drop] at hp ⊢; omega) hx t ht

theorem good_lex (l : List UInt8) (ts : List Tok) (h : lex l = .ok ts) : ∀ t ∈ ts, Good t := good_sc l.length 0 l ts (Nat.le_refl _) (by rw [← lex_sc]; exact h)

end Lx
end Go.Proofs.YtaomnlcplmkokaaGreatDoor

/-
  The plain mathematics of layer 2 (types): the text of a type is cut into its tokens.
-/
namespace Go.Proofs.YtaomnlcplmkokaaGreatDoor
namespace Tx
open Lx

/-- a text that is one token of kind k -/
def Gd (k : Nat) (s : List UInt8) : Prop := s ≠ [] ∧ first s = (k, s.length) ∧ k ≠ 0
/-- its names are words, its unknowns' numbers have six digits at most -/
inductive Nm : Ty → Prop
  | var (x) : Gd 1 x → Nm (.var x)
  | mt (n) : n ≤ 999999 → Nm (.mt n)
  | con (c l) : Gd 2 c → (∀ t ∈ l, Nm t) → Nm (.con c l)
  | fn (a b) : Nm a → Nm b → Nm (.fn a b)
  | all (x t) : Gd 1 x → Nm t → Nm (.all x t)
theorem Nm.wf {t : Ty} (h : Nm t) : Wf t := by
  induction h with
  | var x _ => exact .var x
  | mt n h => exact .mt n h
  | con c l _ _ ih => exact .con c l ih
  | fn a b _ _ iha ihb => exact .fn a b iha ihb
  | all x t _ _ ih => exact .all x t ih

theorem digit_isDig (n : Nat) : isDig (digit n) = true := by
  have := digit_nat n
  simp [isDig]
  omega
theorem decF_dig (f n : Nat) : ∀ d ∈ decF f n, isDig d = true := by
  induction f generalizing n with
  | zero => intro d h; simp [decF] at h
  | succ f ih =>
    intro d h
    rw [decF] at h
    split at h
    · simp at h; subst h; exact digit_isDig n
    · rw [List.mem_append] at h
      rcases h with h | h
      · exact ih _ d h
      · simp at h; subst h; exact digit_isDig n
theorem decF_len (f g n : Nat) (hg : n < 10 ^ g) (h1 : 1 ≤ g) : (decF f n).length ≤ g := by
  induction f generalizing n g with
  | zero => simp [decF]
  | succ f ih =>
    rw [decF]
    split
    · simpa using h1
    · rename_i hn
      obtain ⟨g, rfl⟩ : ∃ k, g = k + 1 := ⟨g - 1, by omega⟩
      have hg0 : 1 ≤ g := by
        rcases Nat.eq_zero_or_pos g with e | e
        · subst e; simp at hg; omega
        · exact e
      have := ih g (n / 10) (by rw [Nat.pow_succ] at hg; omega) hg0
      simp
      omega

end Tx
end Go.Proofs.YtaomnlcplmkokaaGreatDoor

/-
  The plain mathematics of layer 2 (types): what is read has names that are words, and no more parts than tokens.
-/
namespace Go.Proofs.YtaomnlcplmkokaaGreatDoor
namespace Tx
open Lx

mutual
def Ty.size : Ty → Nat
  | .var _ => 1
  | .mt _ => 1
  | .con _ l => sizeL l + 1
  | .fn a b => a.size + b.size + 1
  | .all _ t => t.size + 1
def sizeL : List Ty → Nat
  | [] => 0
  | t :: r => t.size + sizeL r
end

def AllG (l : List Tok) : Prop := ∀ t ∈ l, Lx.Good t
theorem AllG.tail {t : Tok} {l : List Tok} (h : AllG (t :: l)) : AllG l := fun x hx => h x (List.mem_cons_of_mem _ hx)
theorem AllG.head {t : Tok} {l : List Tok} (h : AllG (t :: l)) : Lx.Good t := h t List.mem_cons_self

theorem eat_some (p : Tok → Bool) (l r : List Tok) (h : eat p l = some r) : ∃ t, l = t :: r ∧ p t = true := by
  cases l with
  | nil => simp [eat] at h
  | cons t l =>
    rw [eat] at h
    split at h
    · rename_i hp
      injection h with h
      exact ⟨t, by rw [h], hp⟩
    · cases h

theorem vars_spec (l : List Tok) (h : AllG l) : (∀ x ∈ (vars l).1, Gd 1 x) ∧ AllG (vars l).2 ∧ (vars l).1.length + (vars l).2.length = l.length := by
  induction l with
  | nil => exact ⟨fun x hx => by simp [vars] at hx, fun x hx => by simp [vars] at hx, rfl⟩
  | cons t r ih =>
    obtain ⟨i1, i2, i3⟩ := ih h.tail
    rw [vars]
    by_cases hk : t.kind = 1
    · rw [if_pos hk]
      refine ⟨fun x hx => ?_, i2, by simp; omega⟩
      rcases List.mem_cons.1 hx with rfl | hx
      · have := h.head
        rw [Lx.Good, hk] at this
        exact ⟨this.1, this.2.1, by omega⟩
      · exact i1 x hx
    · rw [if_neg hk]
      exact ⟨fun x hx => by simp at hx, h, by simp⟩

theorem numOf_lt (l : List UInt8) (h : ∀ d ∈ l, isDig d = true) : numOf l < 10 ^ l.length := by
  have key : ∀ (l : List UInt8) (a : Nat), (∀ d ∈ l, isDig d = true) → l.foldl (fun n c => 10 * n + (c.toNat - 48)) a < (a + 1) * 10 ^ l.length := by
    intro l
    induction l with
    | nil => intro a _; simp
    | cons c r ih =>
      intro a h
      have hc := dig_range c (h c List.mem_cons_self)
      have := ih (10 * a + (c.toNat - 48)) (fun d hd => h d (List.mem_cons_of_mem _ hd))
      rw [List.foldl_cons, List.length_cons, Nat.pow_succ]
      refine Nat.lt_of_lt_of_le this ?_
      rw [Nat.mul_comm (10 ^ r.length) 10, ← Nat.mul_assoc]
      exact Nat.mul_le_mul_right _ (by omega)
  have := key l 0 h
  simpa [numOf] using this

theorem span_full (p : UInt8 → Bool) (l : List UInt8) (h : span p l = l.length) : ∀ d ∈ l, p d = true := by
  induction l with
  | nil => intro d hd; cases hd
  | cons c r ih =>
    rw [span] at h
    by_cases hp : p c = true
    · rw [if_pos hp] at h
      intro d hd
      rcases List.mem_cons.1 hd with rfl | hd
      · exact hp
      · exact ih (by simpa using h) d hd
    · rw [if_neg hp] at h; simp at h

theorem meta_num (t : Tok) (h : Lx.Good t) (hk : t.kind = 5) : numOf (t.text.drop 1) ≤ 999999 := by
  obtain ⟨h1, h2, _⟩ := h
  rw [hk] at h2
  cases hx : t.text with
  | nil => exact absurd hx h1
  | cons c r =>
    rw [hx] at h2
    show numOf r ≤ 999999
    rw [first] at h2
    split at h2
    · exfalso
      unfold word at h2
      split at h2
      · injection h2 with a _; omega
      · injection h2 with a _
        unfold wordKind at a
        split at a
        · omega
        · split at a <;> omega
    · split at h2
      · exfalso
        rcases number_cases (c :: r) with e | ⟨e, _, _⟩ <;> rw [e] at h2 <;> injection h2 with a _ <;> omega
      · split at h2
        · unfold meta_ at h2
          split at h2
          · injection h2 with a _; omega
          · rename_i hn
            injection h2 with _ b
            rw [show (c :: r).drop 1 = r from rfl] at b hn
            rcases number_cases r with e | ⟨e, _, h6⟩
            · rw [e] at hn; exact absurd rfl hn
            · rw [e] at b
              simp at b
              have hs : span isDig r = r.length := by omega
              have := numOf_lt r (span_full isDig r hs)
              have : (10 : Nat) ^ r.length ≤ 10 ^ 6 := Nat.pow_le_pow_right (by omega) (by omega)
              omega
        · exfalso
          unfold sign at h2
          split at h2
          · injection h2 with a _; omega
          · split at h2
            · injection h2 with a _; omega
            · injection h2 with a _; omega

theorem alls_nm (xs : List (List UInt8)) (t : Ty) (hx : ∀ x ∈ xs, Gd 1 x) (ht : Nm t) : Nm (alls xs t) := by
  induction xs with
  | nil => exact ht
  | cons x xs ih => exact .all x _ (hx x List.mem_cons_self) (ih fun y hy => hx y (List.mem_cons_of_mem _ hy))
theorem alls_size (xs : List (List UInt8)) (t : Ty) : (alls xs t).size = xs.length + t.size := by
  induction xs with
  | nil => simp [alls]
  | cons x xs ih =>
    show (Ty.all x (alls xs t)).size = _
    rw [Ty.size, ih, List.length_cons]; omega

theorem read_nm (f : Nat) :
    (∀ l t r, AllG l → read f l = some (t, r) → Nm t ∧ AllG r ∧ t.size + r.length ≤ l.length) ∧
    (∀ l t r, AllG l → app f l = some (t, r) → Nm t ∧ AllG r ∧ t.size + r.length ≤ l.length) ∧
    (∀ l ts r, AllG l → args f l = some (ts, r) → (∀ t ∈ ts, Nm t) ∧ AllG r ∧ sizeL ts + r.length ≤ l.length) ∧
    (∀ l t r, AllG l → atom f l = some (t, r) → Nm t ∧ AllG r ∧ t.size + r.length ≤ l.length) := by
  induction f with
  | zero => exact ⟨(fun _ _ _ _ h => by simp [read] at h), (fun _ _ _ _ h => by simp [app] at h), (fun _ _ _ _ h => by simp [args] at h), (fun _ _ _ _ h => by simp [atom] at h)⟩
  | succ f ih =>
    obtain ⟨i1, i2, i3, i4⟩ := ih
    refine ⟨fun l t r hg h => ?_, fun l t r hg h => ?_, fun l ts r hg h => ?_, fun l t r hg h => ?_⟩
    · rw [read] at h
      cases he : eat (isKey · wForall) l with
      | some r1 =>
        rw [he] at h
        simp only at h
        obtain ⟨t0, rfl, _⟩ := eat_some _ _ _ he
        obtain ⟨v1, v2, v3⟩ := vars_spec r1 hg.tail
        split at h
        · cases h
        · cases he2 : eat (isSign · [46]) (vars r1).2 with
          | none => rw [he2] at h; cases h
          | some r2 =>
            rw [he2] at h
            simp only at h
            obtain ⟨t1, e1, _⟩ := eat_some _ _ _ he2
            rw [e1] at v2 v3
            cases hr : read f r2 with
            | none => rw [hr] at h; cases h
            | some x =>
              obtain ⟨u, r3⟩ := x
              rw [hr] at h
              simp only [Option.map_some, Option.some.injEq, Prod.mk.injEq] at h
              obtain ⟨rfl, rfl⟩ := h
              obtain ⟨a, b, c⟩ := i1 r2 u r3 v2.tail hr
              refine ⟨alls_nm _ _ v1 a, b, ?_⟩
              rw [alls_size]
              simp only [List.length_cons] at v3 ⊢
              omega
      | none =>
        rw [he] at h
        simp only at h
        cases ha : app f l with
        | none => rw [ha] at h; cases h
        | some x =>
          obtain ⟨u, r1⟩ := x
          rw [ha] at h
          simp only at h
          obtain ⟨a, b, c⟩ := i2 l u r1 hg ha
          cases he2 : eat (isSign · [45, 62]) r1 with
          | none =>
            rw [he2] at h
            simp only [Option.some.injEq, Prod.mk.injEq] at h
            obtain ⟨rfl, rfl⟩ := h
            exact ⟨a, b, c⟩
          | some r2 =>
            rw [he2] at h
            simp only at h
            obtain ⟨t1, rfl, _⟩ := eat_some _ _ _ he2
            cases hr : read f r2 with
            | none => rw [hr] at h; cases h
            | some x =>
              obtain ⟨v, r3⟩ := x
              rw [hr] at h
              simp only [Option.map_some, Option.some.injEq, Prod.mk.injEq] at h
              obtain ⟨rfl, rfl⟩ := h
              obtain ⟨a2, b2, c2⟩ := i1 r2 v r3 b.tail hr
              refine ⟨.fn _ _ a a2, b2, ?_⟩
              rw [Ty.size]
              simp only [List.length_cons] at c
              omega
    · cases l with
      | nil => rw [app] at h; cases h
      | cons t0 l =>
        rw [app] at h
        split at h
        · rename_i hk
          cases ha : args f l with
          | none => rw [ha] at h; cases h
          | some x =>
            obtain ⟨us, r1⟩ := x
            rw [ha] at h
            simp only [Option.map_some, Option.some.injEq, Prod.mk.injEq] at h
            obtain ⟨rfl, rfl⟩ := h
            obtain ⟨a, b, c⟩ := i3 l us r1 hg.tail ha
            have hgd := hg.head
            rw [Lx.Good, hk] at hgd
            refine ⟨.con _ _ ⟨hgd.1, hgd.2.1, by omega⟩ a, b, ?_⟩
            rw [Ty.size]
            simp only [List.length_cons]
            omega
        · exact i4 _ _ _ hg h
    · cases l with
      | nil =>
        rw [args] at h
        simp only [Option.some.injEq, Prod.mk.injEq] at h
        obtain ⟨rfl, rfl⟩ := h
        exact ⟨(fun t ht => by cases ht), hg, by simp [sizeL]⟩
      | cons t0 l =>
        rw [args] at h
        split at h
        · cases ha : atom f (t0 :: l) with
          | none => rw [ha] at h; cases h
          | some x =>
            obtain ⟨u, r1⟩ := x
            rw [ha] at h
            simp only at h
            obtain ⟨a, b, c⟩ := i4 _ u r1 hg ha
            cases hb : args f r1 with
            | none => rw [hb] at h; cases h
            | some y =>
              obtain ⟨us, r2⟩ := y
              rw [hb] at h
              simp only [Option.map_some, Option.some.injEq, Prod.mk.injEq] at h
              obtain ⟨rfl, rfl⟩ := h
              obtain ⟨a2, b2, c2⟩ := i3 _ us r2 b hb
              refine ⟨fun t ht => ?_, b2, ?_⟩
              · rcases List.mem_cons.1 ht with rfl | ht
                · exact a
                · exact a2 t ht
              · rw [sizeL]; omega
        · simp only [Option.some.injEq, Prod.mk.injEq] at h
          obtain ⟨rfl, rfl⟩ := h
          exact ⟨(fun t ht => by cases ht), hg, by simp [sizeL]⟩
    · cases l with
      | nil => rw [atom] at h; cases h
      | cons t0 l =>
        rw [atom] at h
        have hgd := hg.head
        split at h
        · rename_i hk
          simp only [Option.some.injEq, Prod.mk.injEq] at h
          obtain ⟨rfl, rfl⟩ := h
          rw [Lx.Good, hk] at hgd
          exact ⟨.var _ ⟨hgd.1, hgd.2.1, by omega⟩, hg.tail, by rw [Ty.size]; simp; omega⟩
        · split at h
          · rename_i hk
            simp only [Option.some.injEq, Prod.mk.injEq] at h
            obtain ⟨rfl, rfl⟩ := h
            rw [Lx.Good, hk] at hgd
            exact ⟨.con _ _ ⟨hgd.1, hgd.2.1, by omega⟩ (fun t ht => by cases ht), hg.tail, by rw [Ty.size, sizeL]; simp; omega⟩
          · split at h
            · rename_i hk
              simp only [Option.some.injEq, Prod.mk.injEq] at h
              obtain ⟨rfl, rfl⟩ := h
              exact ⟨.mt _ (meta_num t0 hgd hk), hg.tail, by rw [Ty.size]; simp; omega⟩
            · split at h
              · cases hr : read f l with
                | none => rw [hr] at h; cases h
                | some x =>
                  obtain ⟨u, r1⟩ := x
                  rw [hr] at h
                  simp only at h
                  obtain ⟨a, b, c⟩ := i1 l u r1 hg.tail hr
                  cases he : eat (isSign · [41]) r1 with
                  | none => rw [he] at h; cases h
                  | some r2 =>
                    rw [he] at h
                    simp only [Option.map_some, Option.some.injEq, Prod.mk.injEq] at h
                    obtain ⟨rfl, rfl⟩ := h
                    obtain ⟨t1, rfl, _⟩ := eat_some _ _ _ he
                    refine ⟨a, b.tail, ?_⟩
                    simp only [List.length_cons] at c ⊢
                    omega
              · cases h

theorem parse_nm (s : List UInt8) (t : Ty) (h : parse s = .ok t) : Nm t ∧ t.depth ≤ 50 ∧ t.size ≤ s.length ∧ s.length ≤ 4000 := by
  unfold parse at h
  split at h
  · rename_i ts _ hs
    split at h
    · rename_i u hr
      split at h
      · cases h
      · rename_i hd
        injection h with h
        subst h
        have hl : s.length ≤ 4000 := by
          rcases Nat.lt_or_ge 4000 s.length with h4 | h4
          · unfold scanS at hs; rw [if_pos h4] at hs; injection hs with _ hs; injection hs with _ hs; omega
          · exact h4
        have hx : lex s = .ok ts := by
          unfold scanS at hs
          rw [if_neg (by omega)] at hs
          cases hl : lex s with
          | error a => rw [hl] at hs; injection hs with _ hs; injection hs with _ hs; omega
          | ok us => rw [hl] at hs; injection hs with hs _; rw [hs]
        obtain ⟨a, _, c⟩ := (read_nm _).1 ts _ [] (fun t ht => good_lex s ts hx t ht) hr
        have hlen : ts.length ≤ s.length := by
          have hc := lex_cov s ts hx
          have key : ∀ (ts : List Tok) (f : Nat), Cov s f ts → f + ts.length ≤ s.length := by
            intro ts
            induction ts with
            | nil => intro f h; exact h.1
            | cons x r ih =>
              intro f h
              obtain ⟨h1, h2, _, _, _, _, h7⟩ := h
              have := ih _ h7
              have : 0 < x.text.length := List.length_pos_iff.2 h2
              simp only [List.length_cons]
              omega
          have := key ts 0 hc
          omega
        simp only [List.length_nil, Nat.add_zero] at c
        exact ⟨a, by omega, by omega, hl⟩
    · cases h
  · cases h

end Tx
end Go.Proofs.YtaomnlcplmkokaaGreatDoor

/-
  The plain mathematics of layer 2 (types): names that are bound are places; canonical names; what is put.
-/
namespace Go.Proofs.YtaomnlcplmkokaaGreatDoor
namespace Tx
open Lx

abbrev Name := List UInt8

/-- a type whose bound variables are told by how many for alls lie between -/
inductive Dt where
  | fv (x : Name)
  | bv (i : Nat)
  | mt (n : Nat)
  | con (c : Name) (l : List Dt)
  | fn (a b : Dt)
  | all (t : Dt)

def idx (x : Name) : List Name → Option Nat
  | [] => none
  | y :: r => if x = y then some 0 else (idx x r).map (· + 1)

mutual
def db (env : List Name) : Ty → Dt
  | .var x => match idx x env with | some i => .bv i | none => .fv x
  | .mt n => .mt n
  | .con c l => .con c (dbL env l)
  | .fn a b => .fn (db env a) (db env b)
  | .all x t => .all (db (x :: env) t)
def dbL (env : List Name) : List Ty → List Dt
  | [] => []
  | t :: r => db env t :: dbL env r
end

/-! ### canonical names -/
def nm (letter : UInt8) (k : Nat) : Name := letter :: dec k
def nextF (letter : UInt8) (but : List Name) : Nat → Nat → Nat
  | 0, k => k
  | f + 1, k => if nm letter k ∈ but then nextF letter but f (k + 1) else k
def nextK (letter : UInt8) (but : List Name) (k : Nat) : Nat := nextF letter but (but.length + 1) k

mutual
def numb (c : UInt8) (but : List Name) (xs ys : List Name) : Ty → Nat → Ty × Nat
  | .var x, k => (match idx x xs with | some i => .var (ys.getD i []) | none => .var x, k)
  | .mt n, k => (.mt n, k)
  | .con d l, k => (.con d (numbL c but xs ys l k).1, (numbL c but xs ys l k).2)
  | .fn a b, k => (.fn (numb c but xs ys a k).1 (numb c but xs ys b (numb c but xs ys a k).2).1, (numb c but xs ys b (numb c but xs ys a k).2).2)
  | .all x t, k => (.all (nm c (nextK c but k)) (numb c but (x :: xs) (nm c (nextK c but k) :: ys) t (nextK c but k + 1)).1, (numb c but (x :: xs) (nm c (nextK c but k) :: ys) t (nextK c but k + 1)).2)
def numbL (c : UInt8) (but : List Name) (xs ys : List Name) : List Ty → Nat → List Ty × Nat
  | [], k => ([], k)
  | t :: r, k => ((numb c but xs ys t k).1 :: (numbL c but xs ys r (numb c but xs ys t k).2).1, (numbL c but xs ys r (numb c but xs ys t k).2).2)
end
mutual
def numbD (c : UInt8) (but : List Name) (ys : List Name) : Dt → Nat → Ty × Nat
  | .fv x, k => (.var x, k)
  | .bv i, k => (.var (ys.getD i []), k)
  | .mt n, k => (.mt n, k)
  | .con d l, k => (.con d (numbDL c but ys l k).1, (numbDL c but ys l k).2)
  | .fn a b, k => (.fn (numbD c but ys a k).1 (numbD c but ys b (numbD c but ys a k).2).1, (numbD c but ys b (numbD c but ys a k).2).2)
  | .all t, k => (.all (nm c (nextK c but k)) (numbD c but (nm c (nextK c but k) :: ys) t (nextK c but k + 1)).1, (numbD c but (nm c (nextK c but k) :: ys) t (nextK c but k + 1)).2)
def numbDL (c : UInt8) (but : List Name) (ys : List Name) : List Dt → Nat → List Ty × Nat
  | [], k => ([], k)
  | t :: r, k => ((numbD c but ys t k).1 :: (numbDL c but ys r (numbD c but ys t k).2).1, (numbDL c but ys r (numbD c but ys t k).2).2)
end

mutual
theorem numb_db (c : UInt8) (but xs ys : List Name) : (t : Ty) → ∀ k, numb c but xs ys t k = numbD c but ys (db xs t) k
  | .var x, k => by
    rw [numb, db]
    cases idx x xs with
    | none => rw [numbD]
    | some i => rw [numbD]
  | .mt n, k => by rw [numb, db, numbD]
  | .con d l, k => by rw [numb, db, numbD, numb_dbL c but xs ys l k]
  | .fn a b, k => by rw [numb, db, numbD, numb_db c but xs ys a k, numb_db c but xs ys b]
  | .all x t, k => by rw [numb, db, numbD, numb_db c but (x :: xs) _ t]
theorem numb_dbL (c : UInt8) (but xs ys : List Name) : (l : List Ty) → ∀ k, numbL c but xs ys l k = numbDL c but ys (dbL xs l) k
  | [], k => by rw [numbL, dbL, numbDL]
  | t :: r, k => by rw [numbL, dbL, numbDL, numb_db c but xs ys t k, numb_dbL c but xs ys r]
end

/-! ### what stands free -/
mutual
def freeD : Dt → List Name → List Name
  | .fv x, out => addN x out
  | .bv _, out => out
  | .mt _, out => out
  | .con _ l, out => freeDL l out
  | .fn a b, out => freeD b (freeD a out)
  | .all t, out => freeD t out
def freeDL : List Dt → List Name → List Name
  | [], out => out
  | t :: r, out => freeDL r (freeD t out)
end
mutual
def metasD : Dt → List Nat → List Nat
  | .fv _, out => out
  | .bv _, out => out
  | .mt n, out => addN n out
  | .con _ l, out => metasDL l out
  | .fn a b, out => metasD b (metasD a out)
  | .all t, out => metasD t out
def metasDL : List Dt → List Nat → List Nat
  | [], out => out
  | t :: r, out => metasDL r (metasD t out)
end
mutual
def depthD : Dt → Nat
  | .fv _ => 1
  | .bv _ => 1
  | .mt _ => 1
  | .con _ l => depthDL l + 1
  | .fn a b => max (depthD a) (depthD b) + 1
  | .all t => depthD t + 1
def depthDL : List Dt → Nat
  | [] => 0
  | t :: r => max (depthD t) (depthDL r)
end

theorem idx_none (x : Name) (l : List Name) : idx x l = none ↔ x ∉ l := by
  induction l with
  | nil => simp [idx]
  | cons y r ih =>
    rw [idx]
    by_cases h : x = y
    · simp [h]
    · rw [if_neg h, Option.map_eq_none_iff, ih]
      simp [h]

mutual
theorem free_db (env bound : List Name) (hm : ∀ x, x ∈ bound ↔ x ∈ env) : (t : Ty) → ∀ out, t.freeO bound out = freeD (db env t) out
  | .var x, out => by
    rw [Ty.freeO, db]
    cases h : idx x env with
    | none => rw [if_neg (fun e => (idx_none x env).1 h ((hm x).1 e)), freeD]
    | some i =>
      rw [if_pos, freeD]
      exact (hm x).2 (Decidable.byContradiction fun hn => by rw [(idx_none x env).2 hn] at h; cases h)
  | .mt n, out => by rw [Ty.freeO, db, freeD]
  | .con d l, out => by rw [Ty.freeO, db, freeD, free_dbL env bound hm l]
  | .fn a b, out => by rw [Ty.freeO, db, freeD, free_db env bound hm a, free_db env bound hm b]
  | .all x t, out => by
    rw [Ty.freeO, db, freeD, free_db (x :: env) (bound ++ [x]) (fun y => by simp [hm y]; exact Or.comm) t]
theorem free_dbL (env bound : List Name) (hm : ∀ x, x ∈ bound ↔ x ∈ env) : (l : List Ty) → ∀ out, freeOL bound l out = freeDL (dbL env l) out
  | [], out => by rw [freeOL, dbL, freeDL]
  | t :: r, out => by rw [freeOL, dbL, freeDL, free_db env bound hm t, free_dbL env bound hm r]
end
mutual
theorem metas_db (env : List Name) : (t : Ty) → ∀ out, t.metasO out = metasD (db env t) out
  | .var x, out => by
    rw [Ty.metasO, db]
    cases idx x env <;> rw [metasD]
  | .mt n, out => by rw [Ty.metasO, db, metasD]
  | .con d l, out => by rw [Ty.metasO, db, metasD, metas_dbL env l]
  | .fn a b, out => by rw [Ty.metasO, db, metasD, metas_db env a, metas_db env b]
  | .all x t, out => by rw [Ty.metasO, db, metasD, metas_db (x :: env) t]
theorem metas_dbL (env : List Name) : (l : List Ty) → ∀ out, metasOL l out = metasDL (dbL env l) out
  | [], out => by rw [metasOL, dbL, metasDL]
  | t :: r, out => by rw [metasOL, dbL, metasDL, metas_db env t, metas_dbL env r]
end
mutual
theorem depth_db (env : List Name) : (t : Ty) → t.depth = depthD (db env t)
  | .var x => by rw [Ty.depth, db]; cases idx x env <;> rw [depthD]
  | .mt n => by rw [Ty.depth, db, depthD]
  | .con d l => by rw [Ty.depth, db, depthD, depth_dbL env l]
  | .fn a b => by rw [Ty.depth, db, depthD, depth_db env a, depth_db env b]
  | .all x t => by rw [Ty.depth, db, depthD, depth_db (x :: env) t]
theorem depth_dbL (env : List Name) : (l : List Ty) → depthL l = depthDL (dbL env l)
  | [] => by rw [depthL, dbL, depthDL]
  | t :: r => by rw [depthL, dbL, depthDL, depth_db env t, depth_dbL env r]
end

/-! ### the next name that may be -/
theorem dec_inj (j k : Nat) (hj : j < 10 ^ 20) (hk : k < 10 ^ 20) (h : dec j = dec k) : j = k := by
  have a := numOf_decF 20 j hj
  have b := numOf_decF 20 k hk
  unfold dec at h
  rw [h] at a
  omega
theorem nm_inj (c : UInt8) (j k : Nat) (hj : j < 10 ^ 20) (hk : k < 10 ^ 20) (h : nm c j = nm c k) : j = k := by
  unfold nm at h
  injection h with _ h
  exact dec_inj j k hj hk h

theorem nodup_sub {α : Type} [DecidableEq α] (l m : List α) (hn : l.Nodup) (hs : ∀ x ∈ l, x ∈ m) : l.length ≤ m.length := by
  induction l generalizing m with
  | nil => simp
  | cons x r ih =>
    have hx := hs x List.mem_cons_self
    have hlen := List.length_erase_of_mem hx
    have hpos : 0 < m.length := List.length_pos_of_mem hx
    rw [List.nodup_cons] at hn
    have := ih (m.erase x) hn.2 (fun y hy => by
      refine (List.mem_erase_of_ne ?_).2 (hs y (List.mem_cons_of_mem _ hy))
      intro e; subst e; exact hn.1 hy)
    simp only [List.length_cons]
    omega

theorem nextF_ge (c : UInt8) (but : List Name) (f k : Nat) : k ≤ nextF c but f k ∧ nextF c but f k ≤ k + f := by
  induction f generalizing k with
  | zero => simp [nextF]
  | succ f ih =>
    rw [nextF]
    split
    · have := ih (k + 1); omega
    · omega
theorem nextF_not (c : UInt8) (but : List Name) (f k : Nat) (hb : k + f < 10 ^ 20) (h : nm c (nextF c but f k) ∈ but) : ∀ j, k ≤ j → j < k + f → nm c j ∈ but := by
  induction f generalizing k with
  | zero => intro j h1 h2; omega
  | succ f ih =>
    rw [nextF] at h
    split at h
    · rename_i hm
      intro j h1 h2
      by_cases e : j = k
      · subst e; exact hm
      · exact ih (k + 1) (by omega) h j (by omega) (by omega)
    · rename_i hm; exact absurd h hm
theorem nextK_spec (c : UInt8) (but : List Name) (k : Nat) (hb : k + but.length + 1 < 10 ^ 20) : nm c (nextK c but k) ∉ but ∧ k ≤ nextK c but k ∧ nextK c but k ≤ k + but.length := by
  have hge := nextF_ge c but (but.length + 1) k
  have key : ∀ (f : Nat), k + f < 10 ^ 20 → (∀ j, k ≤ j → j < k + f → nm c j ∈ but) → f ≤ but.length := by
    intro f hf hall
    have hn : ((List.range f).map fun j => nm c (k + j)).Nodup := by
      rw [List.nodup_iff_pairwise_ne, List.pairwise_map]
      refine List.Pairwise.imp_of_mem ?_ List.pairwise_lt_range
      intro a b ha hb hab e
      have ha := List.mem_range.1 ha
      have hb := List.mem_range.1 hb
      have := nm_inj c _ _ (by omega) (by omega) e
      omega
    have := nodup_sub _ but hn (fun x hx => by
      obtain ⟨j, hj, rfl⟩ := List.mem_map.1 hx
      have hj := List.mem_range.1 hj
      exact hall _ (by omega) (by omega))
    simpa using this
  have hnot : nm c (nextK c but k) ∉ but := by
    intro h
    have := key (but.length + 1) (by omega) (nextF_not c but _ k (by omega) h)
    omega
  refine ⟨hnot, hge.1, ?_⟩
  rcases Nat.lt_or_ge (k + but.length) (nextK c but k) with h | h
  · exfalso
    have hk : nextK c but k = k + but.length + 1 := by unfold nextK at h ⊢; omega
    have hall : ∀ j, k ≤ j → j < k + (but.length + 1) → nm c j ∈ but := by
      have step : ∀ (f k : Nat), nextF c but f k = k + f → ∀ j, k ≤ j → j < k + f → nm c j ∈ but := by
        intro f
        induction f with
        | zero => intro k _ j h1 h2; omega
        | succ f ih =>
          intro k h j h1 h2
          rw [nextF] at h
          split at h
          · rename_i hm
            by_cases e : j = k
            · subst e; exact hm
            · exact ih (k + 1) (by omega) j (by omega) (by omega)
          · omega
      exact step _ k (by unfold nextK at hk; omega)
    have := key (but.length + 1) (by omega) hall
    omega
  · exact h

end Tx
end Go.Proofs.YtaomnlcplmkokaaGreatDoor

/-
  The plain mathematics of layer 2 (types): a canonical text tells the type, but for bound names, and nothing more.
-/
namespace Go.Proofs.YtaomnlcplmkokaaGreatDoor
namespace Tx
open Lx

mutual
def allsD : Dt → Nat
  | .fv _ => 0
  | .bv _ => 0
  | .mt _ => 0
  | .con _ l => allsDL l
  | .fn a b => allsD a + allsD b
  | .all t => allsD t + 1
def allsDL : List Dt → Nat
  | [] => 0
  | t :: r => allsD t + allsDL r
end
/-! no place is beyond the n for alls around -/
mutual
def Clo : Nat → Dt → Prop
  | _, .fv _ => True
  | n, .bv i => i < n
  | _, .mt _ => True
  | n, .con _ l => CloL n l
  | n, .fn a b => Clo n a ∧ Clo n b
  | n, .all t => Clo (n + 1) t
def CloL : Nat → List Dt → Prop
  | _, [] => True
  | n, t :: r => Clo n t ∧ CloL n r
end
/-! what is free stands in this list -/

theorem idx_lt (x : Name) (l : List Name) (i : Nat) (h : idx x l = some i) : i < l.length := by
  induction l generalizing i with
  | nil => simp [idx] at h
  | cons y r ih =>
    rw [idx] at h
    by_cases e : x = y
    · rw [if_pos e] at h; injection h with h; simp; omega
    · rw [if_neg e] at h
      cases hr : idx x r with
      | none => rw [hr] at h; cases h
      | some j => rw [hr] at h; simp at h; have := ih j hr; simp; omega
theorem getD_mem (l : List Name) (i : Nat) (h : i < l.length) : l.getD i [] ∈ l := by
  rw [List.getD, List.getElem?_eq_getElem h]
  exact List.getElem_mem h
theorem idx_getD (l : List Name) (hn : l.Nodup) (i : Nat) (h : i < l.length) : idx (l.getD i []) l = some i := by
  induction l generalizing i with
  | nil => simp at h
  | cons y r ih =>
    rw [List.nodup_cons] at hn
    cases i with
    | zero => rw [List.getD_cons_zero, idx, if_pos rfl]
    | succ i =>
      rw [List.getD_cons_succ, idx, if_neg, ih hn.2 i (by simpa using h)]
      · rfl
      · intro e
        have hi : i < r.length := by simpa using h
        exact hn.1 (by rw [← e]; exact getD_mem r i hi)

mutual
theorem clo_db (env : List Name) : (t : Ty) → Clo env.length (db env t)
  | .var x => by
    rw [db]
    cases h : idx x env with
    | none => rw [Clo]; trivial
    | some i => rw [Clo]; exact idx_lt x env i h
  | .mt n => by rw [db, Clo]; trivial
  | .con d l => by rw [db, Clo]; exact clo_dbL env l
  | .fn a b => by rw [db, Clo]; exact ⟨clo_db env a, clo_db env b⟩
  | .all x t => by rw [db, Clo]; exact clo_db (x :: env) t
theorem clo_dbL (env : List Name) : (l : List Ty) → CloL env.length (dbL env l)
  | [] => by rw [dbL, CloL]; trivial
  | t :: r => by rw [dbL, CloL]; exact ⟨clo_db env t, clo_dbL env r⟩
end

theorem addN_mem (x y : Name) (l : List Name) : y ∈ addN x l ↔ y = x ∨ y ∈ l := by
  unfold addN
  split
  · rename_i h
    constructor
    · exact .inr
    · rintro (rfl | h2)
      · exact h
      · exact h2
  · simp; exact Or.comm

/-! how far the numbers go -/
mutual
theorem numbD_le (c : UInt8) (but : List Name) : (d : Dt) → ∀ ys k, k + (allsD d + 1) * (but.length + 1) < 10 ^ 20 → k ≤ (numbD c but ys d k).2 ∧ (numbD c but ys d k).2 ≤ k + allsD d * (but.length + 1)
  | .fv _, ys, k, _ => by rw [numbD]; simp [allsD]
  | .bv _, ys, k, _ => by rw [numbD]; simp [allsD]
  | .mt _, ys, k, _ => by rw [numbD]; simp [allsD]
  | .con _ l, ys, k, h => by rw [numbD, allsD]; rw [allsD] at h; exact numbDL_le c but l ys k h
  | .fn a b, ys, k, h => by
    rw [numbD, allsD]
    rw [allsD] at h
    have e : (allsD a + allsD b + 1) * (but.length + 1) = allsD a * (but.length + 1) + (allsD b + 1) * (but.length + 1) := by rw [← Nat.add_mul, Nat.add_assoc]
    have e2 : (allsD a + allsD b) * (but.length + 1) = allsD a * (but.length + 1) + allsD b * (but.length + 1) := Nat.add_mul ..
    have e3 : (allsD b + 1) * (but.length + 1) = allsD b * (but.length + 1) + (but.length + 1) := by rw [Nat.add_mul, Nat.one_mul]
    have e4 : (allsD a + 1) * (but.length + 1) = allsD a * (but.length + 1) + (but.length + 1) := by rw [Nat.add_mul, Nat.one_mul]
    obtain ⟨a1, a2⟩ := numbD_le c but a ys k (by omega)
    obtain ⟨b1, b2⟩ := numbD_le c but b ys (numbD c but ys a k).2 (by omega)
    simp only
    omega
  | .all t, ys, k, h => by
    rw [numbD, allsD]
    rw [allsD] at h
    have e4 : (allsD t + 1 + 1) * (but.length + 1) = allsD t * (but.length + 1) + (but.length + 1) + (but.length + 1) := by rw [Nat.add_mul, Nat.add_mul, Nat.one_mul]
    have e5 : (allsD t + 1) * (but.length + 1) = allsD t * (but.length + 1) + (but.length + 1) := by rw [Nat.add_mul, Nat.one_mul]
    obtain ⟨_, n1, n2⟩ := nextK_spec c but k (by omega)
    obtain ⟨a1, a2⟩ := numbD_le c but t (nm c (nextK c but k) :: ys) (nextK c but k + 1) (by omega)
    simp only
    omega
theorem numbDL_le (c : UInt8) (but : List Name) : (l : List Dt) → ∀ ys k, k + (allsDL l + 1) * (but.length + 1) < 10 ^ 20 → k ≤ (numbDL c but ys l k).2 ∧ (numbDL c but ys l k).2 ≤ k + allsDL l * (but.length + 1)
  | [], ys, k, _ => by rw [numbDL]; simp [allsDL]
  | t :: r, ys, k, h => by
    rw [numbDL, allsDL]
    rw [allsDL] at h
    have e : (allsD t + allsDL r + 1) * (but.length + 1) = allsD t * (but.length + 1) + (allsDL r + 1) * (but.length + 1) := by rw [← Nat.add_mul, Nat.add_assoc]
    have e2 : (allsD t + allsDL r) * (but.length + 1) = allsD t * (but.length + 1) + allsDL r * (but.length + 1) := Nat.add_mul ..
    have e3 : (allsDL r + 1) * (but.length + 1) = allsDL r * (but.length + 1) + (but.length + 1) := by rw [Nat.add_mul, Nat.one_mul]
    have e4 : (allsD t + 1) * (but.length + 1) = allsD t * (but.length + 1) + (but.length + 1) := by rw [Nat.add_mul, Nat.one_mul]
    obtain ⟨a1, a2⟩ := numbD_le c but t ys k (by omega)
    obtain ⟨b1, b2⟩ := numbDL_le c but r ys (numbD c but ys t k).2 (by omega)
    simp only
    omega
end

/-- names that were given: what they are, that no two are one -/
structure Given (c : UInt8) (but ys : List Name) (k : Nat) : Prop where
  nodup : ys.Nodup
  made : ∀ y ∈ ys, ∃ j, j < k ∧ y = nm c j
  apart : ∀ y ∈ ys, y ∉ but
theorem Given.nil (c : UInt8) (but : List Name) : Given c but [] 0 := ⟨List.nodup_nil, fun _ h => (List.not_mem_nil h).elim, fun _ h => (List.not_mem_nil h).elim⟩
theorem Given.more {c : UInt8} {but ys : List Name} {k k' : Nat} (h : Given c but ys k) (hk : k ≤ k') : Given c but ys k' :=
  ⟨h.nodup, fun y hy => by obtain ⟨j, hj, e⟩ := h.made y hy; exact ⟨j, by omega, e⟩, h.apart⟩
theorem Given.next {c : UInt8} {but ys : List Name} {k : Nat} (h : Given c but ys k) (hb : k + but.length + 1 < 10 ^ 20) : Given c but (nm c (nextK c but k) :: ys) (nextK c but k + 1) := by
  obtain ⟨n0, n1, n2⟩ := nextK_spec c but k hb
  refine ⟨?_, ?_, ?_⟩
  · rw [List.nodup_cons]
    refine ⟨fun hm => ?_, h.nodup⟩
    obtain ⟨j, hj, e⟩ := h.made _ hm
    have := nm_inj c _ _ (by omega) (by omega) e
    omega
  · intro y hy
    rcases List.mem_cons.1 hy with rfl | hy
    · exact ⟨_, by omega, rfl⟩
    · obtain ⟨j, hj, e⟩ := h.made y hy; exact ⟨j, by omega, e⟩
  · intro y hy
    rcases List.mem_cons.1 hy with rfl | hy
    · exact n0
    · exact h.apart y hy


/-! ### canonical trees -/
def canonD (d : Dt) : Ty := (numbD 120 (freeD d []) [] d 0).1
def Ty.canonT (t : Ty) : Ty := (numb 120 t.free [] [] t 0).1
theorem canon_db (t : Ty) : t.canonT = canonD (db [] t) := by
  unfold Ty.canonT canonD Ty.free
  rw [numb_db, free_db [] [] (fun _ => Iff.rfl)]
/-- small enough that all numbers are told apart -/
def Small (d : Dt) : Prop := (allsD d + 1) * ((freeD d []).length + 1) < 10 ^ 15
mutual
def NmD : Dt → Prop
  | .fv x => Gd 1 x
  | .bv _ => True
  | .mt n => n ≤ 999999
  | .con c l => Gd 2 c ∧ NmDL l
  | .fn a b => NmD a ∧ NmD b
  | .all t => NmD t
def NmDL : List Dt → Prop
  | [] => True
  | t :: r => NmD t ∧ NmDL r
end
mutual
theorem nm_db (env : List Name) : (t : Ty) → Nm t → NmD (db env t)
  | .var x, h => by
    cases h with
    | var _ hx =>
      rw [db]
      cases idx x env with
      | none => rw [NmD]; exact hx
      | some i => rw [NmD]; trivial
  | .mt n, h => by cases h with | mt _ hn => rw [db, NmD]; exact hn
  | .con c l, h => by cases h with | con _ _ hc hl => rw [db, NmD]; exact ⟨hc, nm_dbL env l hl⟩
  | .fn a b, h => by cases h with | fn _ _ ha hb => rw [db, NmD]; exact ⟨nm_db env a ha, nm_db env b hb⟩
  | .all x t, h => by cases h with | all _ _ hx ht => rw [db, NmD]; exact nm_db (x :: env) t ht
theorem nm_dbL (env : List Name) : (l : List Ty) → (∀ t ∈ l, Nm t) → NmDL (dbL env l)
  | [], _ => by rw [dbL, NmDL]; trivial
  | t :: r, h => by rw [dbL, NmDL]; exact ⟨nm_db env t (h t List.mem_cons_self), nm_dbL env r (fun u hu => h u (List.mem_cons_of_mem _ hu))⟩
end

theorem gd_nm (k : Nat) (h : k < 10 ^ 15) : Gd 1 (nm 120 k) := by
  have hl : (dec k).length ≤ 15 := decF_len 20 15 k h (by omega)
  have hd : ∀ d ∈ (120 : UInt8) :: dec k, inW d = true := by
    intro d hd
    rcases List.mem_cons.1 hd with rfl | hd
    · decide
    · simp [inW, decF_dig 20 k d hd]
  have hsp := span_all inW _ hd
  refine ⟨by simp [nm], ?_, by omega⟩
  unfold nm
  rw [first, if_pos (by decide), word, hsp, if_neg (by simp; omega), List.take_length]
  have hk : wordKind (120 :: dec k) = 1 := by
    unfold wordKind
    rw [if_neg (by simp [keys]), if_neg (by simp only [List.headD_cons]; decide)]
  rw [hk]

mutual
theorem nm_numbD (but : List Name) : (d : Dt) → ∀ ys k, NmD d → Clo ys.length d → (∀ y ∈ ys, Gd 1 y) → k + (allsD d + 1) * (but.length + 1) < 10 ^ 15 → Nm (numbD 120 but ys d k).1
  | .fv x, ys, k, h, _, _, _ => by rw [numbD]; rw [NmD] at h; exact .var x h
  | .bv i, ys, k, _, hc, hy, _ => by
    rw [numbD]
    rw [Clo] at hc
    exact .var _ (hy _ (getD_mem ys i hc))
  | .mt n, ys, k, h, _, _, _ => by rw [numbD]; rw [NmD] at h; exact .mt n h
  | .con c l, ys, k, h, hc, hy, hb => by
    rw [numbD]
    rw [NmD] at h
    rw [Clo] at hc
    rw [allsD] at hb
    exact .con c _ h.1 (nm_numbDL but l ys k h.2 hc hy hb)
  | .fn a b, ys, k, h, hc, hy, hb => by
    rw [numbD]
    rw [NmD] at h
    rw [Clo] at hc
    rw [allsD] at hb
    have e : (allsD a + allsD b + 1) * (but.length + 1) = allsD a * (but.length + 1) + (allsD b + 1) * (but.length + 1) := by rw [← Nat.add_mul, Nat.add_assoc]
    have e3 : (allsD b + 1) * (but.length + 1) = allsD b * (but.length + 1) + (but.length + 1) := by rw [Nat.add_mul, Nat.one_mul]
    have e4 : (allsD a + 1) * (but.length + 1) = allsD a * (but.length + 1) + (but.length + 1) := by rw [Nat.add_mul, Nat.one_mul]
    obtain ⟨a1, a2⟩ := numbD_le 120 but a ys k (by omega)
    exact .fn _ _ (nm_numbD but a ys k h.1 hc.1 hy (by omega)) (nm_numbD but b ys _ h.2 hc.2 hy (by omega))
  | .all t, ys, k, h, hc, hy, hb => by
    rw [numbD]
    rw [NmD] at h
    rw [Clo] at hc
    rw [allsD] at hb
    have e4 : (allsD t + 1 + 1) * (but.length + 1) = allsD t * (but.length + 1) + (but.length + 1) + (but.length + 1) := by rw [Nat.add_mul, Nat.add_mul, Nat.one_mul]
    have e5 : (allsD t + 1) * (but.length + 1) = allsD t * (but.length + 1) + (but.length + 1) := by rw [Nat.add_mul, Nat.one_mul]
    obtain ⟨_, n1, n2⟩ := nextK_spec 120 but k (by omega)
    have hg := gd_nm (nextK 120 but k) (by omega)
    refine .all _ _ hg (nm_numbD but t _ _ h hc (fun y hy2 => ?_) (by omega))
    rcases List.mem_cons.1 hy2 with rfl | hy2
    · exact hg
    · exact hy y hy2
theorem nm_numbDL (but : List Name) : (l : List Dt) → ∀ ys k, NmDL l → CloL ys.length l → (∀ y ∈ ys, Gd 1 y) → k + (allsDL l + 1) * (but.length + 1) < 10 ^ 15 → ∀ t ∈ (numbDL 120 but ys l k).1, Nm t
  | [], ys, k, _, _, _, _ => by rw [numbDL]; intro t ht; cases ht
  | t :: r, ys, k, h, hc, hy, hb => by
    rw [numbDL]
    rw [NmDL] at h
    rw [CloL] at hc
    rw [allsDL] at hb
    have e : (allsD t + allsDL r + 1) * (but.length + 1) = allsD t * (but.length + 1) + (allsDL r + 1) * (but.length + 1) := by rw [← Nat.add_mul, Nat.add_assoc]
    have e3 : (allsDL r + 1) * (but.length + 1) = allsDL r * (but.length + 1) + (but.length + 1) := by rw [Nat.add_mul, Nat.one_mul]
    have e4 : (allsD t + 1) * (but.length + 1) = allsD t * (but.length + 1) + (but.length + 1) := by rw [Nat.add_mul, Nat.one_mul]
    obtain ⟨a1, a2⟩ := numbD_le 120 but t ys k (by omega)
    intro u hu
    rcases List.mem_cons.1 hu with rfl | hu
    · exact nm_numbD but t ys k h.1 hc.1 hy (by omega)
    · exact nm_numbDL but r ys _ h.2 hc.2 hy (by omega) u hu
end
theorem nm_canonD (d : Dt) (hn : NmD d) (hc : Clo 0 d) (hs : Small d) : Nm (canonD d) :=
  nm_numbD _ d [] 0 hn hc (fun _ h => (List.not_mem_nil h).elim) (by unfold Small at hs; omega)

/-! ### sizes -/
mutual
theorem alls_size_db (env : List Name) : (t : Ty) → allsD (db env t) ≤ t.size
  | .var x => by rw [db]; cases idx x env <;> simp [allsD, Ty.size]
  | .mt n => by rw [db]; simp [allsD, Ty.size]
  | .con c l => by rw [db, allsD, Ty.size]; have := alls_size_dbL env l; omega
  | .fn a b => by rw [db, allsD, Ty.size]; have := alls_size_db env a; have := alls_size_db env b; omega
  | .all x t => by rw [db, allsD, Ty.size]; have := alls_size_db (x :: env) t; omega
theorem alls_size_dbL (env : List Name) : (l : List Ty) → allsDL (dbL env l) ≤ sizeL l
  | [] => by rw [dbL]; simp [allsDL, sizeL]
  | t :: r => by rw [dbL, allsDL, sizeL]; have := alls_size_db env t; have := alls_size_dbL env r; omega
end
theorem addN_len (x : Name) (l : List Name) : (addN x l).length ≤ l.length + 1 := by
  unfold addN; split <;> simp
mutual
theorem free_size_db (env : List Name) : (t : Ty) → ∀ out, (freeD (db env t) out).length ≤ out.length + t.size
  | .var x, out => by
    rw [db]
    cases idx x env with
    | none => rw [freeD, Ty.size]; exact addN_len x out
    | some i => rw [freeD, Ty.size]; omega
  | .mt n, out => by rw [db, freeD]; omega
  | .con c l, out => by rw [db, freeD, Ty.size]; have := free_size_dbL env l out; omega
  | .fn a b, out => by rw [db, freeD, Ty.size]; have := free_size_db env a out; have := free_size_db env b (freeD (db env a) out); omega
  | .all x t, out => by rw [db, freeD, Ty.size]; have := free_size_db (x :: env) t out; omega
theorem free_size_dbL (env : List Name) : (l : List Ty) → ∀ out, (freeDL (dbL env l) out).length ≤ out.length + sizeL l
  | [], out => by rw [dbL, freeDL, sizeL]; omega
  | t :: r, out => by rw [dbL, freeDL, sizeL]; have := free_size_db env t out; have := free_size_dbL env r (freeD (db env t) out); omega
end
theorem small_db (t : Ty) (h : t.size ≤ 1000000) : Small (db [] t) := by
  unfold Small
  have h1 := alls_size_db [] t
  have h2 := free_size_db [] t []
  simp only [List.length_nil, Nat.zero_add] at h2
  have : (allsD (db [] t) + 1) * ((freeD (db [] t) []).length + 1) ≤ 1000001 * 1000001 := Nat.mul_le_mul (by omega) (by omega)
  omega

end Tx
end Go.Proofs.YtaomnlcplmkokaaGreatDoor

/-
  The plain mathematics of layer 2 (types): types in the places of variables and unknowns.
-/
namespace Go.Proofs.YtaomnlcplmkokaaGreatDoor
namespace Tx
open Lx

/-! ### types in the places of all names and unknowns, at once -/
mutual
def repD (f : Name → Dt) (g : Nat → Dt) : Dt → Dt
  | .fv x => f x
  | .bv i => .bv i
  | .mt n => g n
  | .con c l => .con c (repDL f g l)
  | .fn a b => .fn (repD f g a) (repD f g b)
  | .all t => .all (repD f g t)
def repDL (f : Name → Dt) (g : Nat → Dt) : List Dt → List Dt
  | [] => []
  | t :: r => repD f g t :: repDL f g r
end
mutual
def FvOcc (x : Name) : Dt → Prop
  | .fv y => x = y
  | .bv _ => False
  | .mt _ => False
  | .con _ l => FvOccL x l
  | .fn a b => FvOcc x a ∨ FvOcc x b
  | .all t => FvOcc x t
def FvOccL (x : Name) : List Dt → Prop
  | [] => False
  | t :: r => FvOcc x t ∨ FvOccL x r
end
mutual
def MtOcc (n : Nat) : Dt → Prop
  | .fv _ => False
  | .bv _ => False
  | .mt m => n = m
  | .con _ l => MtOccL n l
  | .fn a b => MtOcc n a ∨ MtOcc n b
  | .all t => MtOcc n t
def MtOccL (n : Nat) : List Dt → Prop
  | [] => False
  | t :: r => MtOcc n t ∨ MtOccL n r
end

mutual
theorem mem_freeD (x : Name) : (d : Dt) → ∀ out, x ∈ freeD d out ↔ x ∈ out ∨ FvOcc x d
  | .fv y, out => by rw [freeD, addN_mem, FvOcc]; exact Or.comm
  | .bv _, out => by rw [freeD, FvOcc]; simp
  | .mt _, out => by rw [freeD, FvOcc]; simp
  | .con _ l, out => by rw [freeD, FvOcc]; exact mem_freeDL x l out
  | .fn a b, out => by rw [freeD, FvOcc, mem_freeD x b, mem_freeD x a, or_assoc]
  | .all t, out => by rw [freeD, FvOcc]; exact mem_freeD x t out
theorem mem_freeDL (x : Name) : (l : List Dt) → ∀ out, x ∈ freeDL l out ↔ x ∈ out ∨ FvOccL x l
  | [], out => by rw [freeDL, FvOccL]; simp
  | t :: r, out => by rw [freeDL, FvOccL, mem_freeDL x r, mem_freeD x t, or_assoc]
end
theorem addM_mem (x y : Nat) (l : List Nat) : y ∈ addN x l ↔ y = x ∨ y ∈ l := by
  unfold addN
  split
  · rename_i h
    constructor
    · exact .inr
    · rintro (rfl | h2)
      · exact h
      · exact h2
  · simp; exact Or.comm
mutual
theorem mem_metasD (n : Nat) : (d : Dt) → ∀ out, n ∈ metasD d out ↔ n ∈ out ∨ MtOcc n d
  | .fv y, out => by rw [metasD, MtOcc]; simp
  | .bv _, out => by rw [metasD, MtOcc]; simp
  | .mt m, out => by rw [metasD, addM_mem, MtOcc]; exact Or.comm
  | .con _ l, out => by rw [metasD, MtOcc]; exact mem_metasDL n l out
  | .fn a b, out => by rw [metasD, MtOcc, mem_metasD n b, mem_metasD n a, or_assoc]
  | .all t, out => by rw [metasD, MtOcc]; exact mem_metasD n t out
theorem mem_metasDL (n : Nat) : (l : List Dt) → ∀ out, n ∈ metasDL l out ↔ n ∈ out ∨ MtOccL n l
  | [], out => by rw [metasDL, MtOccL]; simp
  | t :: r, out => by rw [metasDL, MtOccL, mem_metasDL n r, mem_metasD n t, or_assoc]
end

mutual
theorem repD_id (f : Name → Dt) (g : Nat → Dt) : (d : Dt) → (∀ x, FvOcc x d → f x = .fv x) → (∀ n, MtOcc n d → g n = .mt n) → repD f g d = d
  | .fv x, hf, _ => by rw [repD]; exact hf x (by rw [FvOcc])
  | .bv _, _, _ => by rw [repD]
  | .mt n, _, hg => by rw [repD]; exact hg n (by rw [MtOcc])
  | .con c l, hf, hg => by rw [repD, repDL_id f g l (fun x h => hf x (by rw [FvOcc]; exact h)) (fun n h => hg n (by rw [MtOcc]; exact h))]
  | .fn a b, hf, hg => by
    rw [repD, repD_id f g a (fun x h => hf x (by rw [FvOcc]; exact .inl h)) (fun n h => hg n (by rw [MtOcc]; exact .inl h)),
      repD_id f g b (fun x h => hf x (by rw [FvOcc]; exact .inr h)) (fun n h => hg n (by rw [MtOcc]; exact .inr h))]
  | .all t, hf, hg => by rw [repD, repD_id f g t (fun x h => hf x (by rw [FvOcc]; exact h)) (fun n h => hg n (by rw [MtOcc]; exact h))]
theorem repDL_id (f : Name → Dt) (g : Nat → Dt) : (l : List Dt) → (∀ x, FvOccL x l → f x = .fv x) → (∀ n, MtOccL n l → g n = .mt n) → repDL f g l = l
  | [], _, _ => by rw [repDL]
  | t :: r, hf, hg => by
    rw [repDL, repD_id f g t (fun x h => hf x (by rw [FvOccL]; exact .inl h)) (fun n h => hg n (by rw [MtOccL]; exact .inl h)),
      repDL_id f g r (fun x h => hf x (by rw [FvOccL]; exact .inr h)) (fun n h => hg n (by rw [MtOccL]; exact .inr h))]
end
theorem depthD_pos (d : Dt) : 1 ≤ depthD d := by cases d <;> rw [depthD] <;> omega


/-! ### the same on trees -/
/-! no for all binds a name of this list -/
theorem idx_app (x : Name) (l m : List Name) (h : x ∉ m) : idx x (l ++ m) = idx x l := by
  induction l with
  | nil => exact (idx_none x m).2 h
  | cons y r ih => rw [List.cons_append, idx, idx, ih]
mutual
theorem db_env (env : List Name) : (u : Ty) → ∀ loc, (∀ x, FvOcc x (db loc u) → x ∉ env) → db (loc ++ env) u = db loc u
  | .var x, loc, h => by
    rw [db, db]
    cases hi : idx x loc with
    | none =>
      have hx : x ∉ env := h x (by rw [db, hi, FvOcc])
      rw [idx_app x loc env hx, hi]
    | some i =>
      have key : ∀ (l : List Name) (i : Nat), idx x l = some i → idx x (l ++ env) = some i := by
        intro l
        induction l with
        | nil => intro i h; simp [idx] at h
        | cons y r ih =>
          intro i h
          rw [List.cons_append, idx]
          rw [idx] at h
          by_cases e : x = y
          · rw [if_pos e] at h ⊢; exact h
          · rw [if_neg e] at h ⊢
            cases hr : idx x r with
            | none => rw [hr] at h; cases h
            | some j => rw [hr] at h; rw [ih j hr]; exact h
      rw [key loc i hi]
  | .mt n, loc, _ => by rw [db, db]
  | .con c l, loc, h => by rw [db, db, dbL_env env l loc (fun x hx => h x (by rw [db, FvOcc]; exact hx))]
  | .fn a b, loc, h => by
    rw [db, db, db_env env a loc (fun x hx => h x (by rw [db, FvOcc]; exact .inl hx)), db_env env b loc (fun x hx => h x (by rw [db, FvOcc]; exact .inr hx))]
  | .all x t, loc, h => by
    rw [db, db]
    have := db_env env t (x :: loc) (fun y hy => h y (by rw [db, FvOcc]; exact hy))
    rw [List.cons_append] at this
    rw [this]
theorem dbL_env (env : List Name) : (l : List Ty) → ∀ loc, (∀ x, FvOccL x (dbL loc l) → x ∉ env) → dbL (loc ++ env) l = dbL loc l
  | [], loc, _ => by rw [dbL, dbL]
  | t :: r, loc, h => by
    rw [dbL, dbL, db_env env t loc (fun x hx => h x (by rw [dbL, FvOccL]; exact .inl hx)), dbL_env env r loc (fun x hx => h x (by rw [dbL, FvOccL]; exact .inr hx))]
end
theorem db_apart (env : List Name) (u : Ty) (h : ∀ x, FvOcc x (db [] u) → x ∉ env) : db env u = db [] u := db_env env u [] h

/-- what may be put: names of S alone get another type, and what is put has names of S alone -/
structure Put (S : List Name) (f : Name → Ty) (g : Nat → Ty) : Prop where
  same : ∀ x, x ∉ S → f x = .var x
  here : ∀ x, x ∈ S → ∀ y, FvOcc y (db [] (f x)) → y ∈ S
  meta_ : ∀ n y, FvOcc y (db [] (g n)) → y ∈ S


/-! ### without a for all -/
end Tx
end Go.Proofs.YtaomnlcplmkokaaGreatDoor

/-
  How a type lies in memory: its four cells, and behind the slice of its arguments the arguments' cells, all of them in blocks of a set S.
-/
namespace Go.Proofs.YtaomnlcplmkokaaGreatDoor
open Go.RowKit Lx Tx

def kd : Ty → Nat
  | .var _ => 1
  | .mt _ => 2
  | .con _ _ => 3
  | .fn _ _ => 4
  | .all _ _ => 5
def nmB : Ty → ByteArray
  | .var x => ⟨x.toArray⟩
  | .mt _ => ⟨#[]⟩
  | .con c _ => ⟨c.toArray⟩
  | .fn _ _ => ⟨#[]⟩
  | .all x _ => ⟨x.toArray⟩
def nn : Ty → Nat
  | .mt n => n
  | _ => 0
def kids : Ty → List Ty
  | .var _ => []
  | .mt _ => []
  | .con _ l => l
  | .fn a b => [a, b]
  | .all _ t => [t]

/-- the four cells at a place -/
def Cell4 (w : World) (t : Ty) (A : Option Addr) (cap : Nat) (g o : Nat) : Prop :=
  w.cell? ⟨g, o, none⟩ = some (.int .i64 (kd t : Nat)) ∧ w.cell? ⟨g, o + 1, none⟩ = some (.string (nmB t)) ∧ w.cell? ⟨g, o + 2, none⟩ = some (.int .i64 (nn t : Nat)) ∧
    w.cell? ⟨g, o + 3, none⟩ = some (.slice A (kids t).length cap)

mutual
/-- behind A lie the arguments of t -/
def Args (S : Nat → Prop) (w : World) : Ty → Option Addr → Prop
  | .var _, _ => True
  | .mt _, _ => True
  | .con _ l, A => l ≠ [] → ∃ g, A = some ⟨g, 0, none⟩ ∧ S g ∧ RowT S w l g 0
  | .fn a b, A => ∃ g, A = some ⟨g, 0, none⟩ ∧ S g ∧ (∃ A1 c1, Cell4 w a A1 c1 g 0 ∧ Args S w a A1) ∧ (∃ A2 c2, Cell4 w b A2 c2 g 4 ∧ Args S w b A2)
  | .all _ t, A => ∃ g, A = some ⟨g, 0, none⟩ ∧ S g ∧ ∃ A1 c1, Cell4 w t A1 c1 g 0 ∧ Args S w t A1
/-- from place o of block g on lie these types, one behind the other -/
def RowT (S : Nat → Prop) (w : World) : List Ty → Nat → Nat → Prop
  | [], _, _ => True
  | t :: r, g, o => (∃ A c, Cell4 w t A c g o ∧ Args S w t A) ∧ RowT S w r g (o + 4)
end

/-- v is this type's value -/
def RdV (S : Nat → Prop) (w : World) (t : Ty) (v : Value) : Prop :=
  ∃ A c, v = .agg #[.int .i64 (kd t : Nat), .string (nmB t), .int .i64 (nn t : Nat), .slice A (kids t).length c] ∧ Args S w t A

theorem kids_row (S : Nat → Prop) (w : World) (t : Ty) (A : Option Addr) : Args S w t A ↔ (kids t ≠ [] → ∃ g, A = some ⟨g, 0, none⟩ ∧ S g ∧ RowT S w (kids t) g 0) := by
  cases t with
  | var x => rw [Args, kids]; simp
  | mt n => rw [Args, kids]; simp
  | con c l => rw [Args, kids]
  | fn a b =>
    rw [Args, kids]
    constructor
    · rintro ⟨g, h1, h2, h3, h4⟩ _
      exact ⟨g, h1, h2, by rw [RowT, RowT, RowT]; exact ⟨h3, h4, trivial⟩⟩
    · intro h
      obtain ⟨g, h1, h2, h3⟩ := h (by simp)
      rw [RowT, RowT, RowT] at h3
      exact ⟨g, h1, h2, h3.1, h3.2.1⟩
  | all x t =>
    rw [Args, kids]
    constructor
    · rintro ⟨g, h1, h2, h3⟩ _
      exact ⟨g, h1, h2, by rw [RowT, RowT]; exact ⟨h3, trivial⟩⟩
    · intro h
      obtain ⟨g, h1, h2, h3⟩ := h (by simp)
      rw [RowT, RowT] at h3
      exact ⟨g, h1, h2, h3.1⟩

theorem Cell4.keep {w w' : World} {t : Ty} {A : Option Addr} {c g o : Nat} (h : Cell4 w t A c g o) (hk : w'.heap[g]? = w.heap[g]?) : Cell4 w' t A c g o := by
  have e : ∀ i, w'.cell? ⟨g, i, none⟩ = w.cell? ⟨g, i, none⟩ := fun i => World.cell?_of_block (w := w) (a := ⟨g, i, none⟩) hk
  exact ⟨(e _).trans h.1, (e _).trans h.2.1, (e _).trans h.2.2.1, (e _).trans h.2.2.2⟩

mutual
theorem Args.keep {S S' : Nat → Prop} {w w' : World} (hS : ∀ g, S g → S' g) (hk : ∀ g, S g → w'.heap[g]? = w.heap[g]?) : (t : Ty) → ∀ A, Args S w t A → Args S' w' t A
  | .var x, A, _ => by rw [Args]; trivial
  | .mt n, A, _ => by rw [Args]; trivial
  | .con c l, A, h => by
    rw [Args] at h ⊢
    intro hl
    obtain ⟨g, h1, h2, h3⟩ := h hl
    exact ⟨g, h1, hS g h2, RowT.keep hS hk l g 0 (hk g h2) h3⟩
  | .fn a b, A, h => by
    rw [Args] at h ⊢
    obtain ⟨g, h1, h2, ⟨A1, c1, h3, h4⟩, ⟨A2, c2, h5, h6⟩⟩ := h
    exact ⟨g, h1, hS g h2, ⟨A1, c1, h3.keep (hk g h2), Args.keep hS hk a A1 h4⟩, ⟨A2, c2, h5.keep (hk g h2), Args.keep hS hk b A2 h6⟩⟩
  | .all x t, A, h => by
    rw [Args] at h ⊢
    obtain ⟨g, h1, h2, A1, c1, h3, h4⟩ := h
    exact ⟨g, h1, hS g h2, A1, c1, h3.keep (hk g h2), Args.keep hS hk t A1 h4⟩
theorem RowT.keep {S S' : Nat → Prop} {w w' : World} (hS : ∀ g, S g → S' g) (hk : ∀ g, S g → w'.heap[g]? = w.heap[g]?) : (l : List Ty) → ∀ g o, w'.heap[g]? = w.heap[g]? → RowT S w l g o → RowT S' w' l g o
  | [], _, _, _, _ => by rw [RowT]; trivial
  | t :: r, g, o, hg, h => by
    rw [RowT] at h ⊢
    obtain ⟨⟨A, c, h1, h2⟩, h3⟩ := h
    exact ⟨⟨A, c, h1.keep hg, Args.keep hS hk t A h2⟩, RowT.keep hS hk r g (o + 4) hg h3⟩
end
theorem RdV.keep {S S' : Nat → Prop} {w w' : World} {t : Ty} {v : Value} (h : RdV S w t v) (hS : ∀ g, S g → S' g) (hk : ∀ g, S g → w'.heap[g]? = w.heap[g]?) : RdV S' w' t v := by
  obtain ⟨A, c, rfl, ha⟩ := h
  exact ⟨A, c, rfl, Args.keep hS hk t A ha⟩

/-- the i-th of a row of types -/
theorem RowT.at_ {S : Nat → Prop} {w : World} : (l : List Ty) → ∀ g o i (hi : i < l.length), RowT S w l g o → ∃ A c, Cell4 w l[i] A c g (o + i * 4) ∧ Args S w l[i] A
  | [], _, _, i, hi, _ => absurd hi (by simp)
  | t :: r, g, o, 0, _, h => by rw [RowT] at h; simpa using h.1
  | t :: r, g, o, i + 1, hi, h => by
    rw [RowT] at h
    have := RowT.at_ r g (o + 4) i (by simpa using hi) h.2
    rw [show o + 4 + i * 4 = o + (i + 1) * 4 by omega] at this
    simpa using this
theorem Args.kid {S : Nat → Prop} {w : World} {t : Ty} {A : Option Addr} (h : Args S w t A) (i : Nat) (hi : i < (kids t).length) :
    ∃ g, A = some ⟨g, 0, none⟩ ∧ S g ∧ ∃ A1 c1, Cell4 w (kids t)[i] A1 c1 g (i * 4) ∧ Args S w (kids t)[i] A1 := by
  obtain ⟨g, h1, h2, h3⟩ := (kids_row S w t A).1 h (by intro e; rw [e] at hi; simp at hi)
  have := RowT.at_ _ g 0 i hi h3
  rw [Nat.zero_add] at this
  exact ⟨g, h1, h2, this⟩

/-- the cells of a type's value, as a list -/
def tyV (t : Ty) (A : Option Addr) (c : Nat) : List Value := [.int .i64 (kd t : Nat), .string (nmB t), .int .i64 (nn t : Nat), .slice A (kids t).length c]
theorem RowT.snoc {S : Nat → Prop} {w : World} : (l : List Ty) → ∀ g o t A c, RowT S w l g o → Cell4 w t A c g (o + l.length * 4) → Args S w t A → RowT S w (l ++ [t]) g o
  | [], g, o, t, A, c, _, h2, h3 => by rw [List.nil_append, RowT, RowT]; exact ⟨⟨A, c, by simpa using h2, h3⟩, trivial⟩
  | u :: r, g, o, t, A, c, h1, h2, h3 => by
    rw [RowT] at h1
    rw [List.cons_append, RowT]
    refine ⟨h1.1, RowT.snoc r g (o + 4) t A c h1.2 ?_ h3⟩
    rw [show o + 4 + r.length * 4 = o + (u :: r).length * 4 by simp; omega]
    exact h2

/-! ### rows that a function builds itself -/
/-- the cells of these types, one behind the other; what lies behind their arguments lies in S -/
def TyRow (S : Nat → Prop) (w : World) : List Ty → List Value → Prop
  | [], vs => vs = []
  | t :: r, vs => ∃ A c rest, vs = tyV t A c ++ rest ∧ Args S w t A ∧ TyRow S w r rest
theorem TyRow.len {S : Nat → Prop} {w : World} : (l : List Ty) → ∀ vs, TyRow S w l vs → vs.length = l.length * 4
  | [], vs, h => by rw [TyRow] at h; simp [h]
  | t :: r, vs, h => by
    rw [TyRow] at h
    obtain ⟨A, c, rest, rfl, _, h⟩ := h
    have := TyRow.len r rest h
    simp [tyV, this]; omega
theorem TyRow.snoc {S : Nat → Prop} {w : World} {t : Ty} {A : Option Addr} (c : Nat) (ha : Args S w t A) : (l : List Ty) → ∀ vs, TyRow S w l vs → TyRow S w (l ++ [t]) (vs ++ tyV t A c)
  | [], vs, h => by
    rw [TyRow] at h
    rw [List.nil_append, TyRow]
    exact ⟨A, c, [], by simp [h], ha, by rw [TyRow]⟩
  | u :: r, vs, h => by
    rw [TyRow] at h
    obtain ⟨A', c', rest, rfl, h1, h2⟩ := h
    rw [List.cons_append, TyRow]
    exact ⟨A', c', rest ++ tyV t A c, by simp, h1, TyRow.snoc c ha r rest h2⟩
theorem TyRow.keep {S S' : Nat → Prop} {w w' : World} (hS : ∀ g, S g → S' g) (hk : ∀ g, S g → w'.heap[g]? = w.heap[g]?) : (l : List Ty) → ∀ vs, TyRow S w l vs → TyRow S' w' l vs
  | [], vs, h => by rw [TyRow] at h ⊢; exact h
  | t :: r, vs, h => by
    rw [TyRow] at h ⊢
    obtain ⟨A, c, rest, e, h1, h2⟩ := h
    exact ⟨A, c, rest, e, Args.keep hS hk t A h1, TyRow.keep hS hk r rest h2⟩
theorem TyRow.row {S : Nat → Prop} {w : World} {g : Nat} : (l : List Ty) → ∀ vs o, TyRow S w l vs → (∀ j u, vs[j]? = some u → w.cell? ⟨g, o + j, none⟩ = some u) → RowT S w l g o
  | [], _, _, _, _ => by rw [RowT]; trivial
  | t :: r, vs, o, h, hc => by
    rw [TyRow] at h
    obtain ⟨A, c, rest, rfl, h1, h2⟩ := h
    rw [RowT]
    refine ⟨⟨A, c, ⟨hc 0 _ rfl, hc 1 _ rfl, hc 2 _ rfl, hc 3 _ rfl⟩, h1⟩, TyRow.row r rest (o + 4) h2 fun j u hu => ?_⟩
    rw [show o + 4 + j = o + (4 + j) by omega]
    exact hc (4 + j) u (by rw [List.getElem?_append_right (by simp [tyV])]; simpa [tyV] using hu)

/-- a row is kept by what leaves all blocks below the heap's size -/
theorem own_below {w w' : World} {B e size n : Nat} {v : Value} {xs : List Value} (h : w.ownsRow B e size v n xs) (hb : Below w.heap.size w w') : w'.ownsRow B e size v n xs := by
  refine ⟨h.1, ?_⟩
  rcases h.2 with hn | ⟨g, cap, cur, rfl, hg, hgg, rest⟩
  · exact .inl hn
  · exact .inr ⟨g, cap, cur, rfl, hg, by rw [hb.block g (Array.getElem?_eq_some_iff.1 hgg).1]; exact hgg, rest⟩

/-- v is a row of the call's own (of blocks from B on), with these types; what lies behind their arguments is in T, or made since B, and not in v's block -/
def Built (T : Nat → Prop) (B : Nat) (e : TypeId) (w : World) (l : List Ty) (v : Value) : Prop :=
  ∃ vs, w.ownsRow B e 4 v l.length vs ∧ TyRow (fun g => (T g ∨ B ≤ g ∧ g < w.heap.size) ∧ some g ≠ v.ownBlock) w l vs

theorem Built.nil (T : Nat → Prop) (B : Nat) (e : TypeId) (w : World) : Built T B e w [] (.slice none 0 0) := ⟨[], World.ownsRow_nil _ _ _ _, by rw [TyRow]⟩
theorem Built.below {T : Nat → Prop} {B : Nat} {e : TypeId} {w w' : World} {l : List Ty} {v : Value} (h : Built T B e w l v) (hT : ∀ g, T g → g < w.heap.size) (hb : Below w.heap.size w w') : Built T B e w' l v := by
  obtain ⟨vs, h1, h2⟩ := h
  refine ⟨vs, own_below h1 hb, TyRow.keep ?_ ?_ l vs h2⟩
  · rintro g ⟨h | h, h3⟩
    · exact ⟨.inl h, h3⟩
    · exact ⟨.inr ⟨h.1, Nat.lt_of_lt_of_le h.2 hb.size⟩, h3⟩
  · rintro g ⟨h | h, h3⟩
    · exact hb.block g (hT g h)
    · exact hb.block g h.2

/-- one more, by append: w is the world ahead of it, in which the new one's cells have just been laid -/
theorem Built.snoc {T : Nat → Prop} {B : Nat} {e : TypeId} {w w' : World} {l : List Ty} {t : Ty} {v v' : Value} {A : Option Addr} {c : Nat} {vs : List Value}
    (hT : ∀ g, T g → g < B) (hB : B ≤ w.heap.size) (hrow : TyRow (fun g => (T g ∨ B ≤ g ∧ g < w.heap.size) ∧ some g ≠ v.ownBlock) w l vs)
    (ha : Args (fun g => (T g ∨ B ≤ g ∧ g < w.heap.size) ∧ some g ≠ v.ownBlock) w t A)
    (hown : w'.ownsRow B e 4 v' (l.length + 1) (vs ++ tyV t A c)) (hg : w.grownBy w' v.ownBlock) (hat : v'.ownBlock = v.ownBlock ∨ v'.ownBlock = some w.heap.size) :
    Built T B e w' (l ++ [t]) v' := by
  have hsz : w.heap.size ≤ w'.heap.size := hg.size
  have hk : ∀ g, ((T g ∨ B ≤ g ∧ g < w.heap.size) ∧ some g ≠ v.ownBlock) → w'.heap[g]? = w.heap[g]? := fun g h => hg.block g (by rcases h.1 with h1 | h1; have := hT g h1; omega; exact h1.2) h.2
  have hS : ∀ g, ((T g ∨ B ≤ g ∧ g < w.heap.size) ∧ some g ≠ v.ownBlock) → ((T g ∨ B ≤ g ∧ g < w'.heap.size) ∧ some g ≠ v'.ownBlock) := by
    rintro g ⟨h1, h2⟩
    have hlt : g < w.heap.size := by rcases h1 with h1 | h1; have := hT g h1; omega; exact h1.2
    refine ⟨?_, ?_⟩
    · rcases h1 with h1 | h1
      · exact .inl h1
      · exact .inr ⟨h1.1, by omega⟩
    · rcases hat with h | h
      · rw [h]; exact h2
      · rw [h]; intro e; injection e with e; omega
  refine ⟨vs ++ tyV t A c, by rw [List.length_append]; exact hown, TyRow.snoc c (Args.keep hS hk t A ha) l vs (TyRow.keep hS hk l vs hrow)⟩

/-- one more, as a call left it: w -(call)-> w1 -(new blocks)-> w2 -(append)-> w3 -/
theorem Built.next {T : Nat → Prop} {B : Nat} {e : TypeId} {w w1 w2 w3 : World} {l : List Ty} {x : Ty} {v v' : Value} {vs : List Value} {k z : Int} {s : ByteArray} {A : Option Addr} {m c : Nat}
    (hT : ∀ g, T g → g < B) (hB : B ≤ w.heap.size) (hown : w.ownsRow B e 4 v l.length vs) (hrow : TyRow (fun g => (T g ∨ B ≤ g ∧ g < w.heap.size) ∧ some g ≠ v.ownBlock) w l vs)
    (b1 : Below w.heap.size w w1) (hr : RdV (fun g => T g ∨ w.heap.size ≤ g ∧ g < w1.heap.size) w1 x (.agg #[.int .i64 k, .string s, .int .i64 z, .slice A m c])) (b2 : Below w1.heap.size w1 w2)
    (ho : w3.ownsRow B e 4 v' (l.length + 1) (vs ++ [.int .i64 k, .string s, .int .i64 z, .slice A m c])) (hg : w2.grownBy w3 v.ownBlock) (hat : v'.ownBlock = v.ownBlock ∨ v'.ownBlock = some w2.heap.size) :
    Built T B e w3 (l ++ [x]) v' := by
  obtain ⟨A', c', hv, ha⟩ := hr
  injection hv with hv
  have hv := congrArg Array.toList hv
  simp only [List.cons.injEq, Value.int.injEq, Value.string.injEq, Value.slice.injEq, and_true, true_and] at hv
  obtain ⟨rfl, rfl, rfl, rfl, rfl, rfl⟩ := hv
  have hlt := hown.lt
  have s1 := b1.size
  have s2 := b2.size
  have b12 : Below w.heap.size w w2 := b1.trans (b2.mono s1)
  refine Built.snoc (w := w2) (c := c) hT (by omega) (TyRow.keep (fun g h => ?_) (fun g h => ?_) l vs hrow) (Args.keep (fun g h => ?_) (fun g h => ?_) x A ha) ho hg hat
  · refine ⟨?_, h.2⟩
    rcases h.1 with h1 | h1
    · exact .inl h1
    · exact .inr ⟨h1.1, by omega⟩
  · exact b12.block g (by rcases h.1 with h1 | h1; have := hT g h1; omega; exact h1.2)
  · rcases h with h1 | h1
    · refine ⟨.inl h1, fun e => ?_⟩
      have := hlt _ e.symm
      have := hT g h1
      omega
    · refine ⟨.inr ⟨by omega, by omega⟩, fun e => ?_⟩
      have := hlt _ e.symm
      omega
  · exact b2.block g (by rcases h with h1 | h1; have := hT g h1; omega; exact h1.2)

theorem Built.setCell {T : Nat → Prop} {B : Nat} {e : TypeId} {w : World} {l : List Ty} {v : Value} (h : Built T B e w l v) {p : Addr} (u : Value) (hp : p.block < B) (hT : ¬ T p.block) : Built T B e (w.setCell p u) l v := by
  obtain ⟨vs, h1, h2⟩ := h
  have hlt := h1.lt
  have k1 : ∀ g, (T g ∨ B ≤ g ∧ g < w.heap.size) ∧ some g ≠ v.ownBlock → (T g ∨ B ≤ g ∧ g < (w.setCell p u).heap.size) ∧ some g ≠ v.ownBlock := by
    rintro g ⟨h3 | h3, h4⟩
    · exact ⟨.inl h3, h4⟩
    · exact ⟨.inr ⟨h3.1, by simpa using h3.2⟩, h4⟩
  have k2 : ∀ g, (T g ∨ B ≤ g ∧ g < w.heap.size) ∧ some g ≠ v.ownBlock → (w.setCell p u).heap[g]? = w.heap[g]? := by
    rintro g ⟨h3, _⟩
    refine Below.heap_setCell w p u g fun e => ?_
    rcases h3 with h3 | h3
    · exact hT (e ▸ h3)
    · omega
  exact ⟨vs, ownsRow_setCell_other h1 (fun e => by have := hlt _ e; omega) u, TyRow.keep k1 k2 l vs h2⟩

/-- a built row holds the arguments of a type that has these -/
theorem Built.args {T : Nat → Prop} {B : Nat} {e : TypeId} {w : World} {t : Ty} {A : Option Addr} {n c : Nat} (h : Built T B e w (kids t) (.slice A n c)) :
    n = (kids t).length ∧ Args (fun g => T g ∨ B ≤ g ∧ g < w.heap.size) w t A := by
  obtain ⟨vs, h1, h2⟩ := h
  have hc := fun g hg => h1.cells (g := g) hg
  have hlt := h1.lt
  have hlen := h2.len
  rcases h1.2 with ⟨h3, h0⟩ | ⟨g, cap, cur, h3, _⟩
  · injection h3 with e1 e2 e3
    subst e1 e2 e3
    have hk : kids t = [] := by cases hk : kids t with | nil => rfl | cons a b => rw [hk] at h0; simp at h0
    exact ⟨by rw [hk]; rfl, (kids_row _ _ _ _).2 fun h => absurd hk h⟩
  · injection h3 with e1 e2 e3
    subst e1 e2 e3
    refine ⟨rfl, (kids_row _ _ _ _).2 fun h => ⟨g, rfl, .inr ⟨(hlt g rfl).1, (hlt g rfl).2⟩, RowT.keep (fun _ h => h) (fun _ _ => rfl) _ _ _ rfl (TyRow.row (kids t) vs 0 (TyRow.keep (fun _ h => h.1) (fun _ _ => rfl) _ _ h2) fun j u hu => ?_)⟩⟩
    have hadd : (⟨g, 0, none⟩ : Addr).add j = ⟨g, j, none⟩ := by unfold Addr.add; split <;> simp_all
    have := hc g rfl j u hu
    rw [hadd] at this
    rw [Nat.zero_add]; exact this

/-! ### rows of names, of numbers -/
def RowV (w : World) (v : Value) (l : List Value) : Prop :=
  ∃ A c, v = .slice A l.length c ∧ (0 < l.length → ∃ g, A = some ⟨g, 0, none⟩ ∧ g < w.heap.size ∧ ∀ j u, l[j]? = some u → w.cell? ⟨g, j, none⟩ = some u)
theorem RowV.of_own {w : World} {base n : Nat} {v : Value} {l : List Value} {e : TypeId} (h : w.ownsRow base e 1 v n l) : RowV w v l := by
  have hc := fun g hg => h.cells (g := g) hg
  have hlt := h.lt
  have hl := h.1
  rcases h.2 with ⟨rfl, h0⟩ | ⟨g, cap, cur, rfl, _⟩
  · exact ⟨none, 0, by rw [hl, h0], fun hp => by omega⟩
  · refine ⟨_, _, by rw [hl, Nat.mul_one], fun _ => ⟨g, rfl, (hlt g rfl).2, fun j u hu => ?_⟩⟩
    have hadd : (⟨g, 0, none⟩ : Addr).add j = ⟨g, j, none⟩ := by unfold Addr.add; split <;> simp_all
    have := hc g rfl j u hu
    rwa [hadd] at this
theorem RowV.keep {w w' : World} {v : Value} {l : List Value} (h : RowV w v l) (hs : w.heap.size ≤ w'.heap.size) (hk : ∀ k, k < w.heap.size → w'.heap[k]? = w.heap[k]?) : RowV w' v l := by
  obtain ⟨A, c, hv, hp⟩ := h
  refine ⟨A, c, hv, fun h0 => ?_⟩
  obtain ⟨g, hA, hg, hc⟩ := hp h0
  exact ⟨g, hA, by omega, fun j u hu => by rw [World.cell?_of_block (w := w) (hk g hg)]; exact hc j u hu⟩
theorem RowV.below {w w' : World} {v : Value} {l : List Value} (h : RowV w v l) (hb : Below w.heap.size w w') : RowV w' v l := h.keep hb.size hb.block
theorem RowV.at_ {w : World} {v : Value} {l : List Value} (h : RowV w v l) (k : Nat) (hk : k < l.length) : ∃ g c, v = .slice (some ⟨g, 0, none⟩) l.length c ∧ w.cell? ⟨g, k, none⟩ = some l[k] := by
  obtain ⟨A, c, hv, hp⟩ := h
  obtain ⟨g, rfl, _, hc⟩ := hp (by omega)
  exact ⟨g, c, hv, hc k _ (List.getElem?_eq_getElem hk)⟩

def strV (l : List (List UInt8)) : List Value := l.map fun x => .string ⟨x.toArray⟩
def intV (l : List Nat) : List Value := l.map fun n => .int .i64 (n : Nat)

end Go.Proofs.YtaomnlcplmkokaaGreatDoor
