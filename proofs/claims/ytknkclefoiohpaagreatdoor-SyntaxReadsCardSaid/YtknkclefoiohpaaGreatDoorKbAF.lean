/-
  Contracts of the code's functions, part 32.
-/
import Derived.Test.YtknkclefoiohpaaGreatDoorKbAA
import Derived.Test.YtknkclefoiohpaaGreatDoorRows
import Derived.ProofKit
import Derived.OpenShut
import Derived.ShutString
import Derived.LaidMore
import Derived.Lay
import Derived.Lib.LaidTab
import Derived.Stop.Joined
import Derived.Carry
namespace Go.Proofs.YtknkclefoiohpaaGreatDoor
open Go.RowKit Go.ChangeShapes Go.WideShapes Go.ChangeAt
set_option maxRecDepth 100000
theorem ownK:ownKnob Tryz.prog.godebug=none:=by kernel_rfl
def theLaid:List (String × DataW Unit):=Rows.syntaxExprsRow.laid
theorem laid_plain(W:World):laidMetH Tryz.prog theLaid W=laidMet Tryz.prog theLaid W:=MakeChecks.laidMetH_plain _ _ _ (by kernel_rfl)
theorem gPow:Tryz.prog.globalNamed "internal/strconv.uint64pow10" = some 0:=by kernel_rfl
theorem tPow:(Tryz.prog.globals[0]?).map (·.type)=some 253:=by kernel_rfl
theorem cPow:Tryz.prog.cellsOf 253=20:=by kernel_rfl
theorem cU64:Tryz.prog.cellsOf 240=1:=by kernel_rfl
theorem dPow:(Rows.laid_internal_strconv_uint64pow10:DataW Unit)=Lib.tabData .u64 Lib.pow10Tab:=by kernel_rfl
theorem tab_of_laid {W:World}(h:laidMetH Tryz.prog theLaid W):Tab W:=by
 rw[laid_plain]at h
 obtain⟨ps,⟨g0,t0,cs0,f0,p0,q0,hg0,ht0,hv0,hd0,⟨g1,t1,cs1,f1,p1,q1,hg1,ht1,hv1,hd1,⟨g2,t2,cs2,f2,p2,q2,hg2,ht2,hv2,hd2,_,_⟩,_⟩,_⟩,_,_⟩:=h
 obtain rfl:=Option.some.inj (gPow.symm.trans hg2)
 obtain rfl:=Option.some.inj (tPow.symm.trans ht2)
 unfold Tab Lib.TabIs
 rw[dPow]at hd2
 rw[hv2,<-Lib.cells_of_tab Tryz.underlying253 Tryz.underlying240 cU64 cPow hd2]
theorem start_met(os:Os)(args:Array Value):laidMetH Tryz.prog theLaid ((World.laidAll Tryz.prog os theLaid).forCall (λ_ _=>0) ⟨#[],args,[]⟩).memory:=by
 rw[laid_plain]
 exact laidMet_laidAll _ (by kernel_rfl) (by kernel_rfl)
theorem start_shaped(os:Os):(World.laidAll Tryz.prog os theLaid).Shaped Tryz.prog:=World.shaped_of_ZipB (by kernel_rfl) (by kernel_rfl)
end Go.Proofs.YtknkclefoiohpaaGreatDoor
