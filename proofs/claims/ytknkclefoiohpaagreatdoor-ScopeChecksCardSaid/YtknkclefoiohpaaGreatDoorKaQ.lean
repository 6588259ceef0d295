import Derived.Test.YtknkclefoiohpaaGreatDoorKaP
import Derived.Shelf.Abstract
set_option maxHeartbeats 12800000
namespace Go.Proofs.YtknkclefoiohpaaGreatDoor
open Go.RowKit Lx Tx Go.Maps Go.WideMaps Go.Shelf
set_option maxRecDepth 100000
end Go.Proofs.YtknkclefoiohpaaGreatDoor
