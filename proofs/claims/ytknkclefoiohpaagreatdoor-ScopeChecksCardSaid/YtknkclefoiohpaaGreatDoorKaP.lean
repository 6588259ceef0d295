import Derived.Test.YtknkclefoiohpaaGreatDoorKaO
import Derived.Test.YtknkclefoiohpaaGreatDoorKaJ
set_option maxHeartbeats 12800000
namespace Go.Proofs.YtknkclefoiohpaaGreatDoor
open Go.RowKit Lx Tx Go.Maps Go.WideMaps
set_option maxRecDepth 100000
section
variable {σ:Type}
end
section
variable {σ:Type}
end
section
variable {σ:Type}
end
end Go.Proofs.YtknkclefoiohpaaGreatDoor
