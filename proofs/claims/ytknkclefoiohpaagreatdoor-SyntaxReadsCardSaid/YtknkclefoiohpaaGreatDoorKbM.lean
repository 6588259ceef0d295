/-
  Contracts of the code's functions, part 13.
-/
import Derived.Test.YtknkclefoiohpaaGreatDoorKbH
import Derived.Maps.OwnSet
import Derived.Maps.OwnOps
import Derived.Maps.Ext
namespace Go.Proofs.YtknkclefoiohpaaGreatDoor
open Go.RowKit Lx Tx Go.Maps Go.WideMaps
set_option maxRecDepth 100000
section
variable {V:Type}
def look(x:Name):List (Name × V)->Option V
 | []=>none
 | p::r=>if p.1=x then some p.2 else look x r
end
end Go.Proofs.YtknkclefoiohpaaGreatDoor
