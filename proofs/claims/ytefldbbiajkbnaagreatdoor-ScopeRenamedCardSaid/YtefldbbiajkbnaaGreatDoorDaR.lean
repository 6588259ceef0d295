/-
  Contracts of the code's functions, part 18.
-/
import Derived.Test.YtefldbbiajkbnaaGreatDoorDaQ
import Derived.Shelf.Abstract
/-
  Package types: the leaves of a type, one after another.
-/
namespace Go.Proofs.YtefldbbiajkbnaaGreatDoor
open Go.RowKit Lx Tx Go.Maps Go.WideMaps Go.Shelf
set_option maxRecDepth 100000

end Go.Proofs.YtefldbbiajkbnaaGreatDoor
