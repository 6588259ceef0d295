/-
  Contracts of the code's functions, part 21.
-/
import Derived.Test.YtknkclefoiohpaaGreatDoorKbR
import Derived.Test.YtknkclefoiohpaaGreatDoorKbI
import Derived.Test.YtknkclefoiohpaaGreatDoorKbG
import Derived.Shelf.Abstract
import Derived.Deep.Cut
namespace Go.Proofs.YtknkclefoiohpaaGreatDoor
open Go.RowKit Lx Tx Go.Shelf
set_option maxRecDepth 100000
theorem toks_of_own {w:World} {base n:Nat} {v:Value} {ts:List Tok} {e:TypeId}(hn:n=ts.length)(h:w.ownsRow base e 3 v n (toksV ts)):Toks (λg=>g<w.heap.size) w v ts:=by
 subst hn
 refine(RdT.of_own h).toks ?_
 rcases h.2 with⟨rfl,h0⟩|⟨g,cap,cur,rfl,hr⟩
 ·exact⟨none,0,by rw[h0],by omega⟩
 ·exact⟨_,cap,rfl,by have:=hr.2.2.1;omega⟩
end Go.Proofs.YtknkclefoiohpaaGreatDoor
