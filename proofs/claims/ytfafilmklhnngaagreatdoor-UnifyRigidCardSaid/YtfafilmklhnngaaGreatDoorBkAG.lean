import Derived.Test.YtfafilmklhnngaaGreatDoorBkAF
import Derived.Test.YtfafilmklhnngaaGreatDoorRows
import Derived.ProofKit
import Derived.OpenShut
import Derived.ShutString
import Derived.LaidMore
import Derived.Lay
import Derived.Lib.LaidTab
import Derived.Stop.Joined
import Derived.Carry
set_option maxHeartbeats 12800000
namespace Go.Proofs.YtfafilmklhnngaaGreatDoor
open Go.RowKit Go.ChangeShapes Go.WideShapes Go.ChangeAt
set_option maxRecDepth 100000
theorem ownK:ownKnob Tryz.prog.godebug=none:=by kernel_rfl
def theLaid:List (String × DataW Unit):=Rows.unifyRigidRow.laid
theorem zgo(W:World):laidMetH Tryz.prog theLaid W=laidMet Tryz.prog theLaid W:=MakeChecks.laidMetH_plain _ _ _ (by kernel_rfl)
theorem gPow:Tryz.prog.globalNamed "internal/strconv.uint64pow10" = some 0:=by kernel_rfl
theorem tPow:(Tryz.prog.globals[0]?).map (·.type)=some 269:=by kernel_rfl
theorem cPow:Tryz.prog.cellsOf 269=20:=by kernel_rfl
theorem cU64:Tryz.prog.cellsOf 242=1:=by kernel_rfl
theorem dPow:(Rows.laid_internal_strconv_uint64pow10:DataW Unit)=Lib.tabData .u64 Lib.pow10Tab:=by kernel_rfl
theorem zjE {W:World}(h:laidMetH Tryz.prog theLaid W):Tab W:=by
 rw[zgo]at h
 obtain⟨ps,⟨g0,t0,cs0,f0,p0,q0,uY,ht0,ph,hd0,⟨g1,t1,cs1,f1,p1,q1,aY,iG,dm,vb,⟨g2,t2,cs2,f2,p2,q2,iK,si,dK,oJ,_,_⟩,_⟩,_⟩,_,_⟩:=h;obtain rfl:=CG (gPow.symm.trans iK);obtain rfl:=CG (tPow.symm.trans si);unfold Tab Lib.TabIs;rw[dPow]at oJ
 rw[dK,<-Lib.cells_of_tab Tryz.underlying269 Tryz.underlying242 cU64 cPow oJ]
theorem zmD(os:Os)(args:Array Value):laidMetH Tryz.prog theLaid ((World.laidAll Tryz.prog os theLaid).forCall (λ_ _=>0) ⟨#[],args,[]⟩).memory:=by
 rw[zgo]
 exact laidMet_laidAll _ (by kernel_rfl) (by kernel_rfl)
theorem ziV(os:Os):(World.laidAll Tryz.prog os theLaid).Shaped Tryz.prog:=World.shaped_of_ZipB (by kernel_rfl) (by kernel_rfl)
end Go.Proofs.YtfafilmklhnngaaGreatDoor
