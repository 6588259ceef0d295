import Derived.Test.YtknkclefoiohpaaGreatDoorKaS
import Derived.Test.YtknkclefoiohpaaGreatDoorKaI
import Derived.Shelf.Abstract
set_option maxHeartbeats 12800000
namespace Go.Proofs.YtknkclefoiohpaaGreatDoor
open Go.RowKit Lx Tx Go.Shelf
set_option maxRecDepth 100000
theorem zeT {w:World} {base n:Nat} {v:Value} {ts:List Tok} {e:TypeId}(hn:n=ts.length)(h:w.ownsRow base e 3 v n (zbc ts)):Toks (λg=>g<w.heap.size) w v ts:=by
 subst hn;refine(RdT.of_own h).toks ?_;rcases h.2 with⟨rfl,h0⟩|⟨g,cap,cur,rfl,hr⟩
 ·exact⟨none,0,by rw[h0],by omega⟩
 ·exact⟨_,cap,rfl,by have:=hr.2.2.1;omega⟩
end Go.Proofs.YtknkclefoiohpaaGreatDoor
