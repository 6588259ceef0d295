/-
  Contracts of the code's functions, part 29.
-/
import Derived.Test.YtknkclefoiohpaaGreatDoorKbP
import Derived.Test.YtknkclefoiohpaaGreatDoorKbR
import Derived.Deep.AppendLies
import Derived.Deep.RegionLaw
namespace Go.Proofs.YtknkclefoiohpaaGreatDoor
open Go.RowKit Lx Tx Go.Maps Go.WideMaps Go.Shelf
set_option maxRecDepth 100000
end Go.Proofs.YtknkclefoiohpaaGreatDoor
