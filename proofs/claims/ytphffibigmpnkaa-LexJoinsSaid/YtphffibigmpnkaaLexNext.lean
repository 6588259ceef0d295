/-
  The walks over reader of package lex, and over the closure that it hands back: the next token.
-/
import Derived.Test.YtphffibigmpnkaaLexFnsE
import Derived.IntWalk
import Derived.Laws.Rows
namespace Go.Proofs.Ytphffibigmpnkaa
open Go.RowKit Lx

theorem reader_any (s : ByteArray) (w : World) :
    Calls Try.prog 13 #[.string s] w fun e w' => e = .returned (.func (.func 15) #[] #[.pointer (some ⟨w.heap.size + 1, 0, none⟩), .pointer (some ⟨w.heap.size, 0, none⟩)]) ∧
      w' = (w.alloc (.cells #[.string s] 9)).alloc (.cells #[.int .i64 0] 3) := by
  have hmf : ∀ (fn : Fn) (first cap : Array Value) (w : World), (Instr.makeFunc fn first cap).run Try.prog w = .ok (.func fn first cap) w := fun _ _ _ _ => rfl
  go_enter Try.func13, Try.ntmps13
  go_wp2
  go_ret
  exact ⟨rfl, rfl⟩

/-- what the closure leaves: the token's own new block, and the place in the block ba -/
theorem next_world (w : World) (ba nq : Nat) (t3 t30 : TypeId) (x u v0 v1 v2 z0 z1 z2 : Value) (ha : w.heap[ba]? = some (.cells #[x] t3 (0, 0))) :
    (((((((w.alloc (.cells #[z0, z1, z2] t30)).drewN nq).setCell ⟨ba, 0, none⟩ u).setCell ⟨w.heap.size, 0, none⟩ v0).setCell ⟨w.heap.size, 1, none⟩ v1).setCell ⟨w.heap.size, 2, none⟩ v2).heap[w.heap.size]? = some (.cells #[v0, v1, v2] t30 (0, 0))) ∧
    (((((((w.alloc (.cells #[z0, z1, z2] t30)).drewN nq).setCell ⟨ba, 0, none⟩ u).setCell ⟨w.heap.size, 0, none⟩ v0).setCell ⟨w.heap.size, 1, none⟩ v1).setCell ⟨w.heap.size, 2, none⟩ v2).heap[ba]? = some (.cells #[u] t3 (0, 0))) ∧
    w.grownBy ((((((w.alloc (.cells #[z0, z1, z2] t30)).drewN nq).setCell ⟨ba, 0, none⟩ u).setCell ⟨w.heap.size, 0, none⟩ v0).setCell ⟨w.heap.size, 1, none⟩ v1).setCell ⟨w.heap.size, 2, none⟩ v2) (some ba) := by
  have hlt := lt_of_block ha
  have n0 : ((w.alloc (.cells #[z0, z1, z2] t30)).drewN nq).heap[w.heap.size]? = some (.cells #[z0, z1, z2] t30 (0, 0)) := heap_alloc_new w _
  have a0 : ((w.alloc (.cells #[z0, z1, z2] t30)).drewN nq).heap[ba]? = some (.cells #[x] t3 (0, 0)) := (Below.heap_alloc w _ ba hlt).trans ha
  have n1 := (heap_setCell_other _ ⟨ba, 0, none⟩ w.heap.size u (by simp; omega)).trans n0
  have a1 := one_setCell (u := u) a0
  have n2 := heap_setCell_same _ w.heap.size 0 _ t30 v0 n1
  have a2 := (heap_setCell_other _ ⟨w.heap.size, 0, none⟩ ba v0 (by simp; omega)).trans a1
  have n3 := heap_setCell_same _ w.heap.size 1 _ t30 v1 n2
  have a3 := (heap_setCell_other _ ⟨w.heap.size, 1, none⟩ ba v1 (by simp; omega)).trans a2
  have n4 := heap_setCell_same _ w.heap.size 2 _ t30 v2 n3
  have a4 := (heap_setCell_other _ ⟨w.heap.size, 2, none⟩ ba v2 (by simp; omega)).trans a3
  refine ⟨n4, a4, ⟨rfl, rfl, rfl, ?_, ?_⟩⟩
  · simp [World.setCell]
  · intro k hk hne
    have hne : k ≠ ba := fun e => hne (by rw [e])
    rw [heap_setCell_other _ _ _ _ (by simp; omega), heap_setCell_other _ _ _ _ (by simp; omega), heap_setCell_other _ _ _ _ (by simp; omega), heap_setCell_other _ _ _ _ (by simpa using hne)]
    exact Below.heap_alloc w _ k hk

set_option maxHeartbeats 400000 in
theorem next_any (s : ByteArray) (i b n k ba bs : Nat) (w : World) (hs : s.size ≤ maxLen) (hi : i ≤ s.size) (hab : bs < ba)
    (ha : w.heap[ba]? = some (.cells #[.int .i64 i] 3 (0, 0))) (hb : w.heap[bs]? = some (.cells #[.string s] 9 (0, 0)))
    (hB : btw false (s.data.toList.drop i) = b) (hN : first (s.data.toList.drop (i + b)) = (k, n)) (hbs : i + b ≤ s.size) (hns : i + b + n ≤ s.size) :
    Calls Try.prog 15 #[.pointer (some ⟨ba, 0, none⟩), .pointer (some ⟨bs, 0, none⟩)] w fun e w' => e = .returned (.agg #[.int .i64 k, .string (s.extract (i + b) (i + b + n)), .int .i64 ((i : Int) + b)]) ∧ w.grownBy w' (some ba) ∧ w'.heap[ba]? = some (.cells #[.int .i64 ((i : Int) + b + n)] 3 (0, 0)) := by
  have ca := cell_of_one ha
  have cb := cell_of_one hb
  have hla := lt_of_block ha
  have hlb := lt_of_block hb
  have fa := free_of_one ha
  have hA := hidE ha
  have hBx := hidE hb
  clear ha hb
  have hz := drop_size s i
  have PB : ∀ w : World, Calls Try.prog 16 #[.string (s.extract i s.size)] w fun e w' => e = .returned (.int .i64 b) ∧ w' = w := by
    intro w
    have := between_any (s.extract i s.size) w (by omega)
    rw [drop_data, hB] at this
    exact this.mono fun e w' h => ⟨h.1, h.2.symm⟩
  clear hz
  have hz := drop_size s (i + b)
  have PF : ∀ w : World, Calls Try.prog 17 #[.string (s.extract (i + b) s.size)] w fun e w' => e = .returned (.tuple #[.int .i64 k, .int .i64 n]) ∧ w = w' := by
    intro w
    have := first_any (s.extract (i + b) s.size) w (by omega)
    rw [drop_data, hN] at this
    exact this
  clear hz hB hN
  unfold maxLen at hs
  go_enter Try.func15, Try.ntmps15
  go_wp2_with fail
  have sum1 : IntKind.i64.wrap ((i : Int) + (b : Int)) = (i : Int) + b := by exact IntWalk.i64_in _ (by omega)
  go_quiet ((go_at_call 16; exact Calls.quiet_of_same (PB _)))
  clear sum1
  go_wp2_with (go_at_call 17; refine (PF _).mono ?_; rintro e w' ⟨rfl, rfl⟩)
  have HW := next_world w ba nq 3 30 _ (.int .i64 ((i : Int) + b + n)) (.int .i64 k) (.string (s.extract (i + b) (i + b + n))) (.int .i64 ((i : Int) + b)) (.int .i64 0) (.string ⟨#[]⟩) (.int .i64 0) hA.out
  exact bodyPost_ret (results_cell_row rfl _ _ w.heap.size 30 _ (0, 0) _ rfl HW.1 Try.underlying30 rfl (by kernel_rfl)) rfl ⟨rfl, HW.2.2, HW.2.1⟩

end Go.Proofs.Ytphffibigmpnkaa
