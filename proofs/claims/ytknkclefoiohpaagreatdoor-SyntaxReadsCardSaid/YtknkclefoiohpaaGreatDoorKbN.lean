/-
  Contracts of the code's functions, part 14.
-/
import Derived.Test.YtknkclefoiohpaaGreatDoorKbM
import Derived.Defers
import Derived.Recover
namespace Go.Proofs.YtknkclefoiohpaaGreatDoor
open Go.RowKit Lx Tx Go.Maps Go.WideMaps
set_option maxRecDepth 100000
end Go.Proofs.YtknkclefoiohpaaGreatDoor
