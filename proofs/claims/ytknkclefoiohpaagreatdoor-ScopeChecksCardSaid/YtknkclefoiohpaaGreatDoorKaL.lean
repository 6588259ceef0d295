import Derived.Test.YtknkclefoiohpaaGreatDoorKaH
import Derived.Shelf.Strings.BuilderK
import Derived.Lib.FrozenHead2
import Derived.Lib.OthersKept
set_option maxHeartbeats 12800000
namespace Go.Proofs.YtknkclefoiohpaaGreatDoor
open Go.RowKit Lx Tx
set_option maxRecDepth 100000
end Go.Proofs.YtknkclefoiohpaaGreatDoor
