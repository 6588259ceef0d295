/-
  Contracts of the code's functions, part 19.
-/
import Derived.Test.YtmbmjneibkihkaaGreatDoorDaR
import Derived.Shelf.Abstract
namespace Go.Proofs.YtmbmjneibkihkaaGreatDoor
open Go.RowKit Lx Tx Go.Maps Go.WideMaps Go.Shelf
set_option maxRecDepth 100000
end Go.Proofs.YtmbmjneibkihkaaGreatDoor
