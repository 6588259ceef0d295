/-
  Contracts of the code's functions, part 9.
-/
import Derived.Test.YtefldbbiajkbnaaGreatDoorDaH
import Derived.Test.YtefldbbiajkbnaaGreatDoorDaE
import Derived.Laws.StructEq
/-
  Tokens in memory, and what Scan of package lex leaves, for seats that hold no law of lex.
-/
namespace Go.Proofs.YtefldbbiajkbnaaGreatDoor
open Go.RowKit Lx

/-- v is a slice that reads as these tokens -/
def RdT (w : World) (v : Value) (ts : List Tok) : Prop :=
  ∃ A c, v = .slice A ts.length c ∧ (0 < ts.length → ∃ g, A = some ⟨g, 0, none⟩ ∧ g < w.heap.size ∧ ∀ j u, (toksV ts)[j]? = some u → w.cell? ⟨g, j, none⟩ = some u)

theorem RdT.of_own {w : World} {base : Nat} {v : Value} {ts : List Tok} {e : TypeId} (h : w.ownsRow base e 3 v ts.length (toksV ts)) : RdT w v ts := by
  have hc := fun g hg => h.cells (g := g) hg
  have hlt := h.lt
  rcases h.2 with ⟨rfl, h0⟩ | ⟨g, cap, cur, rfl, _⟩
  · exact ⟨none, 0, by rw [h0], fun hp => by omega⟩
  · refine ⟨_, _, rfl, fun _ => ⟨g, rfl, (hlt g rfl).2, fun j u hu => ?_⟩⟩
    have hadd : (⟨g, 0, none⟩ : Addr).add j = ⟨g, j, none⟩ := by unfold Addr.add; split <;> simp_all
    have := hc g rfl j u hu
    rwa [hadd] at this

theorem append_data (a b : ByteArray) : (a ++ b).data.toList = a.data.toList ++ b.data.toList := by simp

end Go.Proofs.YtefldbbiajkbnaaGreatDoor
