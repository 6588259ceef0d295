/-
  Contracts of the code's functions, part 31.
-/
import Derived.Test.YtefldbbiajkbnaaGreatDoorDaN
import Derived.Test.YtefldbbiajkbnaaGreatDoorDaM
import Derived.Test.YtefldbbiajkbnaaGreatDoorDaS
import Derived.Deep.LoopGhost
/-
  Package types: what must stand in parentheses; numbers in digits; the small parts of Print.
-/
namespace Go.Proofs.YtefldbbiajkbnaaGreatDoor
open Go.RowKit Lx Tx
set_option maxRecDepth 100000

/-! ### the library's table of tens -/
/-! ### the ways in which a type is asked -/
end Go.Proofs.YtefldbbiajkbnaaGreatDoor
