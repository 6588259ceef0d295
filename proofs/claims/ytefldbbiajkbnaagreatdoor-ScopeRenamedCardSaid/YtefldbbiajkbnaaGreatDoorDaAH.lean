/-
  Contracts of the code's functions, part 34.
-/
import Derived.Test.YtefldbbiajkbnaaGreatDoorDaAG
import Derived.Test.YtefldbbiajkbnaaGreatDoorDaAE
import Derived.Test.YtefldbbiajkbnaaGreatDoorDaP
import Derived.Deep.RegionHeld3
import Derived.Laws.EntriesVeiled
/-
  Package types: names that are new.
-/
namespace Go.Proofs.YtefldbbiajkbnaaGreatDoor
open Go.RowKit Lx Tx Go.Maps Go.WideMaps Go.Shelf
set_option maxRecDepth 100000

end Go.Proofs.YtefldbbiajkbnaaGreatDoor

/-
  Package types: the closure that makes new names.
-/
namespace Go.Proofs.YtefldbbiajkbnaaGreatDoor
open Go.RowKit Lx Tx Go.Maps Go.WideMaps Go.Shelf
set_option maxRecDepth 100000

end Go.Proofs.YtefldbbiajkbnaaGreatDoor

/-
  Package types: a name is covered, and uncovered again (variables).
-/
namespace Go.Proofs.YtefldbbiajkbnaaGreatDoor
open Go.RowKit Lx Tx Go.Maps Go.WideMaps Go.Shelf
set_option maxRecDepth 100000

end Go.Proofs.YtefldbbiajkbnaaGreatDoor

/-
  Package types: a name is uncovered again (variables); a list is cloned.
-/
namespace Go.Proofs.YtefldbbiajkbnaaGreatDoor
open Go.RowKit Lx Tx Go.Maps Go.WideMaps Go.Shelf
set_option maxRecDepth 100000

end Go.Proofs.YtefldbbiajkbnaaGreatDoor
