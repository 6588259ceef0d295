/-
  Package types and what it stands on: contracts of the code's functions, part 6.
-/
import Derived.Test.YthgkpmgcikopnaaGreatDoorBuE
import Derived.Test.YthgkpmgcikopnaaGreatDoorBuD
import Derived.Laws.StructEq
/-
  Tokens in memory, and what Scan of package lex leaves, for seats that hold no law of lex.
-/
namespace Go.Proofs.YthgkpmgcikopnaaGreatDoor
open Go.RowKit Lx

/-- v is a slice that reads as these tokens -/
def RdT (w : World) (v : Value) (ts : List Tok) : Prop :=
  ∃ A c, v = .slice A ts.length c ∧ (0 < ts.length → ∃ g, A = some ⟨g, 0, none⟩ ∧ g < w.heap.size ∧ ∀ j u, (toksV ts)[j]? = some u → w.cell? ⟨g, j, none⟩ = some u)

theorem RdT.of_own {w : World} {base : Nat} {v : Value} {ts : List Tok} {e : TypeId} (h : w.ownsRow base e 3 v ts.length (toksV ts)) : RdT w v ts := by
  have hc := fun g hg => h.cells (g := g) hg
  have hlt := h.lt
  rcases h.2 with ⟨rfl, h0⟩ | ⟨g, cap, cur, rfl, _⟩
  · exact ⟨none, 0, by rw [h0], fun hp => by omega⟩
  · refine ⟨_, _, rfl, fun _ => ⟨g, rfl, (hlt g rfl).2, fun j u hu => ?_⟩⟩
    have hadd : (⟨g, 0, none⟩ : Addr).add j = ⟨g, j, none⟩ := by unfold Addr.add; split <;> simp_all
    have := hc g rfl j u hu
    rwa [hadd] at this

theorem RdT.keep {w w' : World} {v : Value} {ts : List Tok} (h : RdT w v ts) (hs : w.heap.size ≤ w'.heap.size) (hk : ∀ k, k < w.heap.size → w'.heap[k]? = w.heap[k]?) : RdT w' v ts := by
  obtain ⟨A, c, hv, hp⟩ := h
  refine ⟨A, c, hv, fun h0 => ?_⟩
  obtain ⟨g, hA, hg, hc⟩ := hp h0
  exact ⟨g, hA, by omega, fun j u hu => by rw [World.cell?_of_block (w := w) (hk g hg)]; exact hc j u hu⟩
theorem RdT.below {w w' : World} {v : Value} {ts : List Tok} (h : RdT w v ts) (hb : Below w.heap.size w w') : RdT w' v ts := h.keep hb.size hb.block
theorem RdT.alloc {w : World} {v : Value} {ts : List Tok} (h : RdT w v ts) (o : Obj) : RdT (w.alloc o) v ts := h.keep (by simp) (fun k hk => Below.heap_alloc w o k hk)
theorem RdT.drewN {w : World} {v : Value} {ts : List Tok} (h : RdT w v ts) (n : Nat) : RdT (w.drewN n) v ts := h

/-- the three cells of token k -/
theorem RdT.at_ {w : World} {v : Value} {ts : List Tok} (h : RdT w v ts) (k : Nat) (hk : k < ts.length) :
    ∃ g c, v = .slice (some ⟨g, 0, none⟩) ts.length c ∧ w.cell? ⟨g, k * 3, none⟩ = some (.int .i64 (ts[k].kind : Nat)) ∧ w.cell? ⟨g, k * 3 + 1, none⟩ = some (.string ⟨ts[k].text.toArray⟩) ∧ w.cell? ⟨g, k * 3 + 2, none⟩ = some (.int .i64 (ts[k].at_ : Nat)) := by
  obtain ⟨A, c, hv, hp⟩ := h
  obtain ⟨g, rfl, _, hc⟩ := hp (by omega)
  have key : ∀ (ts : List Tok) (k : Nat) (hk : k < ts.length) (j : Nat), j < 3 → (toksV ts)[k * 3 + j]? = (tokV ts[k])[j]? := by
    intro ts
    induction ts with
    | nil => intro k hk; simp at hk
    | cons t r ih =>
      intro k hk j hj
      have hl : (tokV t).length = 3 := rfl
      show (tokV t ++ toksV r)[k * 3 + j]? = _
      cases k with
      | zero => rw [Nat.zero_mul, Nat.zero_add, List.getElem?_append_left (by omega)]; rfl
      | succ k =>
        rw [List.getElem?_append_right (by omega), hl, show (k + 1) * 3 + j - 3 = k * 3 + j by omega, ih k (by simpa using hk) j hj]
        rfl
  exact ⟨g, c, hv, hc _ _ ((key ts k hk 0 (by omega)).trans rfl), hc _ _ ((key ts k hk 1 (by omega)).trans rfl), hc _ _ ((key ts k hk 2 (by omega)).trans rfl)⟩

theorem held_tok : Tryz.prog.stoodInHeld 120 = false := by kernel_rfl
theorem guard_tok : Tryz.prog.eqGuardType Tryz.prog.depth 120 = false := by kernel_rfl
theorem under_tok : Tryz.prog.underlying 120 = some (.struct (Tryz.prog.fieldsOf 120)) := by kernel_rfl

theorem run_neq_tok (w : World) (k1 k2 a1 a2 : Int) (s1 s2 : ByteArray) :
    (binOp .neq 120 (.agg #[.int .i64 k1, .string s1, .int .i64 a1]) (.agg #[.int .i64 k2, .string s2, .int .i64 a2])).run Tryz.prog w =
      .ok (.bool (!(k1 == k2 && (s1.toList == s2.toList && a1 == a2)))) w := by
  rw [run_neq_struct, show (10000 : Nat) = 9999 + 1 from rfl, run_equalIn_struct _ _ _ _ _ under_tok held_tok]
  have e3 : ∀ (w : World) (a b : Int), (Op.equalIn 9999 3 (.int .i64 a) (.int .i64 b)).run Tryz.prog w = .ok (a == b) w := fun w a b => run_equalIn_int w 9998 3 .i64 .i64 a b Tryz.underlying3
  have e9 : ∀ (w : World) (a b : ByteArray), (Op.equalIn 9999 9 (.string a) (.string b)).run Tryz.prog w = .ok (a.toList == b.toList) w := fun w a b => run_equalIn_string w 9998 9 a b Tryz.underlying9
  obtain ⟨x, hx⟩ : ∃ x, (k1 == k2) = x := ⟨_, rfl⟩
  obtain ⟨y, hy⟩ : ∃ y, (s1.toList == s2.toList) = y := ⟨_, rfl⟩
  obtain ⟨z, hz⟩ : ∃ z, (a1 == a2) = z := ⟨_, rfl⟩
  have e1 := fun w => e3 w k1 k2
  have e2 := fun w => e9 w s1 s2
  have e4 := fun w => e3 w a1 a2
  rw [hx] at e1
  rw [hy] at e2
  rw [hz] at e4
  rw [hx, hy, hz]
  clear e3 e9 hx hy hz
  simp only [Program.fieldsOf, Tryz.underlying120, Op.eqFields]
  simp [part, e1, e2, e4]
  cases x <;> cases y <;> cases z <;> simp

theorem tok_neq (t u : Tok) (w : World) :
    (binOp .neq 120 (.agg #[.int .i64 (t.kind : Nat), .string ⟨t.text.toArray⟩, .int .i64 (t.at_ : Nat)]) (.agg #[.int .i64 (u.kind : Nat), .string ⟨u.text.toArray⟩, .int .i64 (u.at_ : Nat)])).run Tryz.prog w =
      .ok (.bool (decide (t ≠ u))) w := by
  rw [run_neq_tok]
  congr 2
  rw [Lib.toList_data, Lib.toList_data]
  obtain ⟨a, b, c⟩ := t
  obtain ⟨d, e, f⟩ := u
  rw [Bool.eq_iff_iff]
  simp only [Bool.not_eq_true', Bool.and_eq_false_iff, decide_eq_true_eq, ne_eq, Tok.mk.injEq, beq_eq_false_iff_ne, Int.ofNat_inj]
  by_cases h1 : a = d <;> by_cases h2 : b = e <;> by_cases h3 : c = f <;> simp [h1, h2, h3]

theorem bnext {B : Nat} {w w1 w2 : World} (h : Below B w w1) (k : Below w1.heap.size w1 w2) (hB : B ≤ w.heap.size) : Below B w w2 := h.trans (k.mono (Nat.le_trans hB h.size))

/-- Scan, where what comes out is known -/
theorem scan_known (s : ByteArray) (w : World) (ts : List Tok) (a b n : Nat) (A B : Int) (hn : n = ts.length) (h : scanS s.data.toList = (ts, a, b)) (hA : A = a) (hB : B = b) (hs : s.size ≤ maxLen) :
    Calls Tryz.prog 39 #[.string s] w fun e w' => ∃ p c, e = .returned (.tuple #[.slice p n c, .int .i64 A, .int .i64 B]) ∧ RdT w' (.slice p n c) ts ∧ Below w.heap.size w w' := by
  refine (scan_any s w hs).mono ?_
  rintro e w' ⟨hb, v, us, i, j, hsc, rfl, hown⟩
  rw [h] at hsc
  injection hsc with h1 h2
  injection h2 with h3 h4
  subst h1 h3 h4 hA hB hn
  have hr := RdT.of_own hown
  obtain ⟨p, c, rfl, _⟩ := id hr
  exact ⟨p, c, rfl, hr, hb⟩

theorem RdT.built (w : World) (ts : List Tok) (cs : Array Value) (n g : Nat) (t : TypeId) (h : cs.toList = toksV ts) (hn : n = ts.length) (hg : g = w.heap.size) : RdT (w.alloc (.cells cs t)) (.slice (some ⟨g, 0, none⟩) n n) ts := by
  subst hn hg
  refine ⟨_, _, rfl, fun _ => ⟨_, rfl, by simp, fun j u hu => ?_⟩⟩
  rw [cell_of_row _ _ _ cs t (0, 0) (heap_alloc_new _ _)]
  rw [← h] at hu
  simpa using hu

theorem run_eql_tok (w : World) (k a : Int) (s : ByteArray) :
    (binOp .eql 120 (.agg #[.int .i64 k, .string s, .int .i64 a]) (.agg #[.int .i64 k, .string s, .int .i64 a])).run Tryz.prog w = .ok (.bool true) w := by
  have e3 : ∀ (w : World) (a : Int), (Op.equalIn 9999 3 (.int .i64 a) (.int .i64 a)).run Tryz.prog w = .ok true w := fun w a => by rw [run_equalIn_int w 9998 3 .i64 .i64 a a Tryz.underlying3]; simp
  have e9 : ∀ (w : World) (a : ByteArray), (Op.equalIn 9999 9 (.string a) (.string a)).run Tryz.prog w = .ok true w := fun w a => by rw [run_equalIn_string w 9998 9 a a Tryz.underlying9]; simp
  rw [run_eql_struct, show (10000 : Nat) = 9999 + 1 from rfl, run_equalIn_struct _ _ _ _ _ under_tok held_tok]
  simp only [Program.fieldsOf, Tryz.underlying120, Op.eqFields]
  simp [part, e3, e9]

/-- the one token of a text that is one, as it lies in memory -/
theorem one_tok (w : World) (p : Option Addr) (c : Nat) (s : ByteArray) (k : Nat) (K : Int) (hK : K = k) (h : RdT w (.slice p 1 c) [⟨k, s.data.toList, 0⟩]) :
    ∃ g, p = some ⟨g, 0, none⟩ ∧ w.cell? ⟨g, 0, none⟩ = some (.int .i64 K) ∧ w.cell? ⟨g, 1, none⟩ = some (.string s) ∧ w.cell? ⟨g, 2, none⟩ = some (.int .i64 0) := by
  obtain ⟨g, c', hv, h0, h1, h2⟩ := h.at_ 0 (by simp)
  injection hv with hA _ hC
  subst hK
  refine ⟨g, hA, by simpa using h0, ?_, by simpa using h2⟩
  have e : (⟨s.data.toList.toArray⟩ : ByteArray) = s := Lib.mk_data s
  simpa [e] using h1

theorem append_data (a b : ByteArray) : (a ++ b).data.toList = a.data.toList ++ b.data.toList := by simp

end Go.Proofs.YthgkpmgcikopnaaGreatDoor
