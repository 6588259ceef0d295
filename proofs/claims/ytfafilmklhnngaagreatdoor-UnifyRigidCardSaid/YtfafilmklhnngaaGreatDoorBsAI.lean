import Derived.Test.YtfafilmklhnngaaGreatDoorBsAE
import Derived.Test.YtfafilmklhnngaaGreatDoorRows
import Derived.ProofKit
import Derived.OpenShut
import Derived.ShutString
import Derived.LaidMore
import Derived.Lay
import Derived.Lib.LaidTab
import Derived.Stop.Joined
import Derived.Carry
set_option maxHeartbeats 12800000
set_option maxRecDepth 100000
namespace Go.Proofs.YtfafilmklhnngaaGreatDoor
open Go.Proofs.Tryz
section
open Go.RowKit Go.ChangeShapes Go.WideShapes Go.ChangeAt
set_option maxRecDepth 100000
theorem OQ:ownKnob prog.godebug=none:=by kernel_rfl
def E6:List (String × DataW Unit):=Rows.unifyRigidRow.laid
theorem zha(W:World):laidMetH prog E6 W=laidMet prog E6 W:=MakeChecks.laidMetH_plain _ _ _ (by kernel_rfl)
theorem ZE:prog.globalNamed "internal/strconv.uint64pow10" = some 0:=by kernel_rfl
theorem YV:(prog.globals[0]?).map (·.type)=some 269:=by kernel_rfl
theorem ZJ:prog.cellsOf 269=20:=by kernel_rfl
theorem ZI:prog.cellsOf 242=1:=by kernel_rfl
theorem ZF:(Rows.laid_internal_strconv_uint64pow10:DataW Unit)=Lib.tabData .u64 Lib.pow10Tab:=by kernel_rfl
theorem Wk {W:World}(h:laidMetH prog E6 W):FO W:=by
 rw[zha]at h;obtain⟨ps,⟨g0,t0,cs0,f0,p0,q0,oW,ht0,jY,Xm,⟨g1,t1,cs1,f1,p1,q1,aS,mz,di,wP,⟨g2,t2,cs2,f2,p2,q2,gM,tK,fg,qo,_,_⟩,_⟩,_⟩,_,_⟩:=h;obtain rfl:=Dz (ZE.symm.trans gM);obtain rfl:=Dz (YV.symm.trans tK);unfold FO Lib.TabIs;rw[ZF]at qo;rw[fg,<-Lib.cells_of_tab underlying269 underlying242 ZI ZJ qo]
theorem VQ(os:Os)(args:Array Value):laidMetH prog E6 ((World.laidAll prog os E6).forCall (λ_ _=>0) ⟨#[],args,[]⟩).memory:=by
 rw[zha];exact laidMet_laidAll _ (by kernel_rfl) (by kernel_rfl)
theorem Wg(os:Os):(World.laidAll prog os E6).Shaped prog:=World.shaped_of_ZipB (by kernel_rfl) (by kernel_rfl)
end
end Go.Proofs.YtfafilmklhnngaaGreatDoor
