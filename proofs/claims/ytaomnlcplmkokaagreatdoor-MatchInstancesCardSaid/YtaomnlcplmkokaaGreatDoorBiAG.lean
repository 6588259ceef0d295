import Derived.Test.YtaomnlcplmkokaaGreatDoorBiX
import Derived.Test.YtaomnlcplmkokaaGreatDoorRows
import Derived.ProofKit
import Derived.OpenShut
import Derived.ShutString
import Derived.LaidMore
import Derived.Lay
import Derived.Lib.LaidTab
import Derived.Stop.Joined
import Derived.Carry
set_option maxHeartbeats 12800000
namespace Go.Proofs.YtaomnlcplmkokaaGreatDoor
open Go.RowKit Go.ChangeShapes Go.WideShapes Go.ChangeAt
set_option maxRecDepth 100000
theorem ownK:ownKnob Tryz.prog.godebug=none:=by kernel_rfl
def theLaid:List (String × DataW Unit):=Rows.matchSelfRow.laid
theorem zhz(W:World):laidMetH Tryz.prog theLaid W=laidMet Tryz.prog theLaid W:=MakeChecks.laidMetH_plain _ _ _ (by kernel_rfl)
theorem gPow:Tryz.prog.globalNamed "internal/strconv.uint64pow10" = some 0:=by kernel_rfl
theorem tPow:(Tryz.prog.globals[0]?).map (·.type)=some 186:=by kernel_rfl
theorem cPow:Tryz.prog.cellsOf 186=20:=by kernel_rfl
theorem cU64:Tryz.prog.cellsOf 176=1:=by kernel_rfl
theorem dPow:(Rows.laid_internal_strconv_uint64pow10:DataW Unit)=Lib.tabData .u64 Lib.pow10Tab:=by kernel_rfl
theorem zgE {W:World}(h:laidMetH Tryz.prog theLaid W):Tab W:=by
 rw[zhz]at h
 obtain⟨ps,⟨g0,t0,cs0,f0,p0,q0,hg0,ht0,hv0,hd0,⟨g1,t1,cs1,f1,p1,q1,hg1,ht1,hv1,hd1,⟨g2,t2,cs2,f2,p2,q2,hg2,ht2,hv2,hd2,_,_⟩,_⟩,_⟩,_,_⟩:=h;obtain rfl:=Option.some.inj (gPow.symm.trans hg2);obtain rfl:=Option.some.inj (tPow.symm.trans ht2);unfold Tab Lib.TabIs;rw[dPow]at hd2
 rw[hv2,<-Lib.cells_of_tab Tryz.underlying186 Tryz.underlying176 cU64 cPow hd2]
theorem ziP(os:Os)(args:Array Value):laidMetH Tryz.prog theLaid ((World.laidAll Tryz.prog os theLaid).forCall (λ_ _=>0) ⟨#[],args,[]⟩).memory:=by
 rw[zhz]
 exact laidMet_laidAll _ (by kernel_rfl) (by kernel_rfl)
theorem zf0(os:Os):(World.laidAll Tryz.prog os theLaid).Shaped Tryz.prog:=World.shaped_of_ZipB (by kernel_rfl) (by kernel_rfl)
end Go.Proofs.YtaomnlcplmkokaaGreatDoor
namespace Go.Proofs.YtaomnlcplmkokaaGreatDoor
open Go.RowKit Lx Tx Go.Maps Go.WideMaps Go.Shelf
set_option maxRecDepth 100000
def RdN(w:World)(t:Ty)(v:Value):Prop:=RdV (λg=>g<w.heap.size) w t v
theorem RdN.below {w w':World} {t:Ty} {v:Value}(h:RdN w t v)(hb:Below w.heap.size w w'):RdN w' t v:=RdV.keep h (λ_ hg=>Nat.lt_of_lt_of_le hg hb.size) (λg hg=>hb.block g hg)
theorem Bx.rn {N:Nat} {w:World} {g:Nat} {t:Ty} {K:Int} {X:ByteArray} {Z:Int} {A:Option Addr} {m c:Nat}(h:Bx N w g t K X Z A m c):RdN w t (.agg #[.int .i64 K,.string X,.int .i64 Z,.slice A m c]) :=
 RdV.keep h.rd (λ_ hg=>Nat.lt_of_lt_of_le hg h.lt) (λ_ _=>rfl)
theorem zp1 {w:World} {t:Ty} {v:Value}(hv:RdN w t v)(hn:Nm t)(hs:t.size<=1000000)(ht:Tab w):Calls Tryz.prog 19 #[v] w λe w'=>e=.returned (.string ⟨t.canonT.print.toArray⟩)/\Below w.heap.size w w':=zkY t _ _ w hv (λ_ h=>h) hn hs ht
end Go.Proofs.YtaomnlcplmkokaaGreatDoor
