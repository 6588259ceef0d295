/-
  Contracts of the code's functions, part 4.
-/
import Derived.Test.YtmbmjneibkihkaaGreatDoorRows
import Derived.ProofKit
import Derived.OpenShut
import Derived.ShutString
import Derived.LaidMore
import Derived.Lay
import Derived.Lib.LaidTab
import Derived.Stop.Joined
import Derived.Carry
namespace Go.Proofs.YtmbmjneibkihkaaGreatDoor
open Go.RowKit Go.ChangeShapes Go.WideShapes Go.ChangeAt
set_option maxRecDepth 100000
theorem ownK:ownKnob Tryz.prog.godebug=none:=by kernel_rfl
def theLaid:List (String × DataW Unit):=Rows.scopeTellsRow.laid
theorem laid_plain(W:World):laidMetH Tryz.prog theLaid W=laidMet Tryz.prog theLaid W:=MakeChecks.laidMetH_plain _ _ _ (by kernel_rfl)
theorem start_met(os:Os)(args:Array Value):laidMetH Tryz.prog theLaid ((World.laidAll Tryz.prog os theLaid).forCall (λ_ _=>0) ⟨#[],args,[]⟩).memory:=by
 rw[laid_plain]
 exact laidMet_laidAll _ (by kernel_rfl) (by kernel_rfl)
theorem start_shaped(os:Os):(World.laidAll Tryz.prog os theLaid).Shaped Tryz.prog:=World.shaped_of_ZipB (by kernel_rfl) (by kernel_rfl)
end Go.Proofs.YtmbmjneibkihkaaGreatDoor
