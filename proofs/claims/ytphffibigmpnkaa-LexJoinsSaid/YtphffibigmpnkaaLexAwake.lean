/-
  The walk over awake of the laws of lex: the chapter's examples.
-/
import Derived.Test.YtphffibigmpnkaaLexSame
namespace Go.Proofs.Ytphffibigmpnkaa
open Go.RowKit Lx

theorem bnext {B : Nat} {w w1 w2 : World} (h : Below B w w1) (k : Below w1.heap.size w1 w2) (hB : B ≤ w.heap.size) : Below B w w2 := h.trans (k.mono (Nat.le_trans hB h.size))

/-- Scan, where what comes out is known -/
theorem scan_known (s : ByteArray) (w : World) (ts : List Tok) (a b n : Nat) (A B : Int) (hn : n = ts.length) (h : scanS s.data.toList = (ts, a, b)) (hA : A = a) (hB : B = b) (hs : s.size ≤ maxLen) :
    Calls Try.prog 10 #[.string s] w fun e w' => ∃ p c, e = .returned (.tuple #[.slice p n c, .int .i64 A, .int .i64 B]) ∧ RdT w' (.slice p n c) ts ∧ Below w.heap.size w w' := by
  refine (scan_any s w hs).mono ?_
  rintro e w' ⟨hb, v, us, i, j, hsc, rfl, hown⟩
  rw [h] at hsc
  injection hsc with h1 h2
  injection h2 with h3 h4
  subst h1 h3 h4 hA hB hn
  have hr := RdT.of_own hown
  obtain ⟨p, c, rfl, _⟩ := id hr
  exact ⟨p, c, rfl, hr, hb⟩

theorem same_true (v u : Value) (ts : List Tok) (w : World) (hv : RdT w v ts) (hu : RdT w u ts) (hl : ts.length ≤ 4000) :
    Calls Try.prog 12 #[v, u] w fun e w' => e = .returned (.bool true) ∧ ∃ n, w' = w.drewN n :=
  (same_any v u ts ts w hv hu hl hl).mono fun e w' h => ⟨by rw [h.1]; simp, h.2⟩

theorem RdT.built (w : World) (ts : List Tok) (cs : Array Value) (n g : Nat) (t : TypeId) (h : cs.toList = toksV ts) (hn : n = ts.length) (hg : g = w.heap.size) : RdT (w.alloc (.cells cs t)) (.slice (some ⟨g, 0, none⟩) n n) ts := by
  subst hn hg
  refine ⟨_, _, rfl, fun _ => ⟨_, rfl, by simp, fun j u hu => ?_⟩⟩
  rw [cell_of_row _ _ _ cs t (0, 0) (heap_alloc_new _ _)]
  rw [← h] at hu
  simpa using hu

def T1 : List Tok := [⟨1, [102], 0⟩, ⟨6, [61], 2⟩, ⟨6, [92], 4⟩, ⟨1, [120], 5⟩, ⟨6, [45, 62], 6⟩, ⟨1, [120], 8⟩]
def T2 : List Tok := [⟨3, [102, 111, 114, 97, 108, 108], 0⟩, ⟨1, [97, 95, 49], 7⟩, ⟨6, [46], 10⟩, ⟨5, [63, 49, 50], 11⟩]
def T3 : List Tok := [⟨1, [97, 98], 0⟩]

theorem ex1 : scanS (⟨#[102, 32, 61, 32, 92, 120, 45, 62, 120]⟩ : ByteArray).data.toList = (T1, 0, 0) := by decide +kernel
theorem ex2 : scanS (⟨#[102, 111, 114, 97, 108, 108, 32, 97, 95, 49, 46, 63, 49, 50]⟩ : ByteArray).data.toList = (T2, 0, 0) := by decide +kernel
theorem ex3 : scanS (⟨#[97, 98, 32, 35, 32, 99]⟩ : ByteArray).data.toList = (T3, 0, 0) := by decide +kernel
theorem ex4 : scanS (⟨#[97, 32, 45, 32, 98]⟩ : ByteArray).data.toList = ([], 2, 10) := by decide +kernel
theorem ex5 : scanS (⟨#[97, 98, 99, 100, 101, 102, 103, 104, 105, 106, 107, 108, 109, 110, 111, 112, 113]⟩ : ByteArray).data.toList = ([], 0, 10) := by decide +kernel

set_option maxHeartbeats 1000000 in
set_option maxRecDepth 100000 in
theorem awake_any (w : World) : Calls Try.prog 9 #[] w fun e w' => e = .returned (.bool true) ∧ Below w.heap.size w w' := by
  have S1 := fun w => scan_known ⟨#[102, 32, 61, 32, 92, 120, 45, 62, 120]⟩ w T1 0 0 6 0 0 rfl ex1 rfl rfl (by decide)
  have S2 := fun w => scan_known ⟨#[102, 111, 114, 97, 108, 108, 32, 97, 95, 49, 46, 63, 49, 50]⟩ w T2 0 0 4 0 0 rfl ex2 rfl rfl (by decide)
  have S3 := fun w => scan_known ⟨#[97, 98, 32, 35, 32, 99]⟩ w T3 0 0 1 0 0 rfl ex3 rfl rfl (by decide)
  have S4 := fun w => scan_known ⟨#[97, 32, 45, 32, 98]⟩ w [] 2 10 0 2 10 rfl ex4 rfl rfl (by decide)
  have S5 := fun w => scan_known ⟨#[97, 98, 99, 100, 101, 102, 103, 104, 105, 106, 107, 108, 109, 110, 111, 112, 113]⟩ w [] 0 10 0 0 10 rfl ex5 rfl rfl (by decide)
  go_enter Try.func9, Try.ntmps9
  go_wp2_with (first
    | (go_at_call 10; (with_reducible refine (S1 _).mono ?_); rintro e w1 ⟨p1, c1, rfl, r1, b1⟩; have R1 := hidE r1; have B1 := hidE b1; clear r1 b1 S1)
    | (go_at_call 10; (with_reducible refine (S2 _).mono ?_); rintro e w2 ⟨p2, c2, rfl, r2, b2⟩; have R2 := hidE r2; have B2 := hidE b2; clear r2 b2 S2)
    | (go_at_call 10; (with_reducible refine (S3 _).mono ?_); rintro e w3 ⟨p3, c3, rfl, r3, b3⟩; have R3 := hidE r3; have B3 := hidE b3; clear r3 b3 S3)
    | (go_at_call 10; (with_reducible refine (S4 _).mono ?_); rintro e w4 ⟨p4, c4, rfl, r4, b4⟩; have B4 := hidE b4; clear r4 b4 S4)
    | (go_at_call 10; (with_reducible refine (S5 _).mono ?_); rintro e w5 ⟨p5, c5, rfl, r5, b5⟩; have B5 := hidE b5; clear r5 b5 S5; have tok1 : True := trivial)
    | (go_at_call 12; have t1 := tok1; refine (same_true _ _ T1 _ (((((R1.out.below B2.out).below B3.out).below B4.out).below B5.out).alloc _) (RdT.built _ T1 _ 6 _ _ rfl rfl rfl) (by decide)).mono ?_; rintro e w6 ⟨rfl, m6, rfl⟩; clear t1 tok1)
    | (go_at_call 12; refine (same_true _ _ T2 _ (RdT.drewN (((((R2.out.below B3.out).below B4.out).below B5.out).alloc _).alloc _) _) (RdT.drewN (RdT.built _ T2 _ 4 _ _ rfl rfl (by simp)) _) (by decide)).mono ?_; rintro e w7 ⟨rfl, m7, rfl⟩))
  go_ret
  exact ⟨rfl, below_drewN' (((bnext (bnext (bnext (bnext (bnext (Below.refl _ _) B1.out (Nat.le_refl _)) B2.out (Nat.le_refl _)) B3.out (Nat.le_refl _)) B4.out (Nat.le_refl _)) B5.out (Nat.le_refl _)).alloc (by have := B1.out.size; have := B2.out.size; have := B3.out.size; have := B4.out.size; have := B5.out.size; omega) _).alloc (by have := B1.out.size; have := B2.out.size; have := B3.out.size; have := B4.out.size; have := B5.out.size; simp; omega) _) _⟩

end Go.Proofs.Ytphffibigmpnkaa
