import Derived.Test.YtknkclefoiohpaaGreatDoorKaM
import Derived.Defers
import Derived.Recover
set_option maxHeartbeats 12800000
namespace Go.Proofs.YtknkclefoiohpaaGreatDoor
open Go.RowKit Lx Tx Go.Maps Go.WideMaps
set_option maxRecDepth 100000
theorem zbh {w:World} {g:Nat} {t:TypeId} {a0:Value}(h:Blk w g t #[a0]):w.cell? ⟨g,0,none⟩=some a0/\w.frozen? ⟨g,0,none⟩=false/\g<w.heap.size:=⟨h.cell 0,h.frozen 0,h.lt⟩
end Go.Proofs.YtknkclefoiohpaaGreatDoor
