/-
  Contracts of the code's functions, part 14.
-/
import Derived.Test.YtmbmjneibkihkaaGreatDoorDaJ
import Derived.Shelf.Strings.BuilderK
import Derived.Lib.FrozenHead2
import Derived.Lib.OthersKept
namespace Go.Proofs.YtmbmjneibkihkaaGreatDoor
open Go.RowKit Lx Tx
set_option maxRecDepth 100000
end Go.Proofs.YtmbmjneibkihkaaGreatDoor
