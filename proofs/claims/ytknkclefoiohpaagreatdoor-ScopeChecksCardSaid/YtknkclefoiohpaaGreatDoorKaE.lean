import Derived.Test.YtknkclefoiohpaaGreatDoorKaA
import Derived.Test.YtknkclefoiohpaaGreatDoorRows
import Derived.ProofKit
import Derived.OpenShut
import Derived.ShutString
import Derived.LaidMore
import Derived.Lay
import Derived.Lib.LaidTab
import Derived.Stop.Joined
import Derived.Carry
set_option maxHeartbeats 12800000
namespace Go.Proofs.YtknkclefoiohpaaGreatDoor
open Go.RowKit Go.ChangeShapes Go.WideShapes Go.ChangeAt
set_option maxRecDepth 100000
theorem ownK:ownKnob Tryz.prog.godebug=none:=by kernel_rfl
def theLaid:List (String × DataW Unit):=Rows.scopeChecksRow.laid
theorem zjw(W:World):laidMetH Tryz.prog theLaid W=laidMet Tryz.prog theLaid W:=MakeChecks.laidMetH_plain _ _ _ (by kernel_rfl)
theorem zk5(os:Os)(args:Array Value):laidMetH Tryz.prog theLaid ((World.laidAll Tryz.prog os theLaid).forCall (λ_ _=>0) ⟨#[],args,[]⟩).memory:=by
 rw[zjw]
 exact laidMet_laidAll _ (by kernel_rfl) (by kernel_rfl)
theorem zhk(os:Os):(World.laidAll Tryz.prog os theLaid).Shaped Tryz.prog:=World.shaped_of_ZipB (by kernel_rfl) (by kernel_rfl)
end Go.Proofs.YtknkclefoiohpaaGreatDoor
