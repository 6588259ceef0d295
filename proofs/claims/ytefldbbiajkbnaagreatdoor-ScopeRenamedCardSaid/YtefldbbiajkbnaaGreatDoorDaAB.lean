/-
  Contracts of the code's functions, part 28.
-/
import Derived.Test.YtefldbbiajkbnaaGreatDoorDaU
import Derived.Test.YtefldbbiajkbnaaGreatDoorDaL
import Derived.Test.YtefldbbiajkbnaaGreatDoorDaJ
import Derived.Shelf.Abstract
import Derived.Deep.Cut
/-
  Package types: the walk over Parse.
-/
namespace Go.Proofs.YtefldbbiajkbnaaGreatDoor
open Go.RowKit Lx Tx Go.Shelf
set_option maxRecDepth 100000

theorem toks_of_own {w : World} {base n : Nat} {v : Value} {ts : List Tok} {e : TypeId} (hn : n = ts.length) (h : w.ownsRow base e 3 v n (toksV ts)) : Toks (fun g => g < w.heap.size) w v ts := by
  subst hn
  refine (RdT.of_own h).toks ?_
  rcases h.2 with ⟨rfl, h0⟩ | ⟨g, cap, cur, rfl, hr⟩
  · exact ⟨none, 0, by rw [h0], by omega⟩
  · exact ⟨_, cap, rfl, by have := hr.2.2.1; omega⟩

end Go.Proofs.YtefldbbiajkbnaaGreatDoor
