/-
  Contracts of the code's functions, part 17.
-/
import Derived.Test.YtefldbbiajkbnaaGreatDoorDaP
import Derived.Test.YtefldbbiajkbnaaGreatDoorDaM
import Derived.Deep.LoopGhost
/-
  Package types: going through a type, with what is handed each part as a closure.
-/
namespace Go.Proofs.YtefldbbiajkbnaaGreatDoor
open Go.RowKit Lx Tx Go.Maps Go.WideMaps
set_option maxRecDepth 100000

section
variable {σ : Type}

end

end Go.Proofs.YtefldbbiajkbnaaGreatDoor

/-
  Package types: going through what stands within a type.
-/
namespace Go.Proofs.YtefldbbiajkbnaaGreatDoor
open Go.RowKit Lx Tx Go.Maps Go.WideMaps
set_option maxRecDepth 100000

section
variable {σ : Type}
end

end Go.Proofs.YtefldbbiajkbnaaGreatDoor

/-
  Package types: going through whatever type; its leaves.
-/
namespace Go.Proofs.YtefldbbiajkbnaaGreatDoor
open Go.RowKit Lx Tx Go.Maps Go.WideMaps
set_option maxRecDepth 100000

/-! ### leaves -/
section
variable {σ : Type}
end

end Go.Proofs.YtefldbbiajkbnaaGreatDoor
