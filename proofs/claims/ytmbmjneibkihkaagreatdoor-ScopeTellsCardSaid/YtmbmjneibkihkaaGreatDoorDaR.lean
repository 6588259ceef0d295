/-
  Contracts of the code's functions, part 18.
-/
import Derived.Test.YtmbmjneibkihkaaGreatDoorDaQ
import Derived.Test.YtmbmjneibkihkaaGreatDoorDaL
import Derived.Deep.LoopGhost
namespace Go.Proofs.YtmbmjneibkihkaaGreatDoor
open Go.RowKit Lx Tx Go.Maps Go.WideMaps
set_option maxRecDepth 100000
section
variable {σ:Type}
end
end Go.Proofs.YtmbmjneibkihkaaGreatDoor

namespace Go.Proofs.YtmbmjneibkihkaaGreatDoor
open Go.RowKit Lx Tx Go.Maps Go.WideMaps
set_option maxRecDepth 100000
section
variable {σ:Type}
end
end Go.Proofs.YtmbmjneibkihkaaGreatDoor

namespace Go.Proofs.YtmbmjneibkihkaaGreatDoor
open Go.RowKit Lx Tx Go.Maps Go.WideMaps
set_option maxRecDepth 100000
section
variable {σ:Type}
end
end Go.Proofs.YtmbmjneibkihkaaGreatDoor
