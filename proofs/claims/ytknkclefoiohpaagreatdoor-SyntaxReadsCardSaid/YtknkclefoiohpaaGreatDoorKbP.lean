/-
  Contracts of the code's functions, part 16.
-/
import Derived.Test.YtknkclefoiohpaaGreatDoorKbO
import Derived.Shelf.Abstract
namespace Go.Proofs.YtknkclefoiohpaaGreatDoor
open Go.RowKit Lx Tx Go.Maps Go.WideMaps Go.Shelf
set_option maxRecDepth 100000
theorem size_alloc(w:World)(o:Obj):(w.alloc o).heap.size=w.heap.size+1:=by simp
end Go.Proofs.YtknkclefoiohpaaGreatDoor
