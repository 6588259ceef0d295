/-
  Contracts of the code's functions, part 14.
-/
import Derived.Test.YtefldbbiajkbnaaGreatDoorDaK
import Derived.Shelf.Strings.BuilderK
import Derived.Lib.FrozenHead2
import Derived.Lib.OthersKept
/-
  strings.Builder at this program: copyCheck, WriteByte, WriteString, by contracts with the frame that reaches above the builder.
-/
namespace Go.Proofs.YtefldbbiajkbnaaGreatDoor
open Go.RowKit Lx Tx
set_option maxRecDepth 100000

/-! ### as lists of bytes -/
end Go.Proofs.YtefldbbiajkbnaaGreatDoor
