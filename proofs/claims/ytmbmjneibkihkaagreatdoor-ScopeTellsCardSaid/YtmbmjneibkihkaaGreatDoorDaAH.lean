/-
  Contracts of the code's functions, part 34.
-/
import Derived.Test.YtmbmjneibkihkaaGreatDoorDaN
import Derived.Test.YtmbmjneibkihkaaGreatDoorDaL
import Derived.Test.YtmbmjneibkihkaaGreatDoorDaT
import Derived.Deep.LoopGhost
namespace Go.Proofs.YtmbmjneibkihkaaGreatDoor
open Go.RowKit Lx Tx
set_option maxRecDepth 100000
end Go.Proofs.YtmbmjneibkihkaaGreatDoor
