import Derived.Test.YtfafilmklhnngaaGreatDoorBsAN
import Derived.Deep.SlicePairs
import Derived.SliceStrings
import Derived.Carry
set_option maxHeartbeats 12800000
set_option maxRecDepth 100000
namespace Go.Proofs.YtfafilmklhnngaaGreatDoor
open Tryz
section
open Go.RowKit Lx Tx Go.ChangeShapes Go.WideShapes
set_option maxRecDepth 100000
theorem RL:laidOutB prog=true:=by kernel_rfl
theorem QZ:prog.underlying 22=some (.slice 70):=by kernel_rfl
theorem zl5:prog.cellsOf 70=2:=by kernel_rfl
theorem zit:prog.cellsOf 9=1:=by kernel_rfl
def N7:Value->ByteArray
 |.string s=>s
 |_=>⟨#[]⟩
theorem zpL:∃f0 f1:Field,prog.underlying 70=some (.struct #[f0,f1])/\f0.offset=0/\f1.offset=1/\f0.type=9/\f1.type=9:=⟨_,_,underlying70,rfl,rfl,rfl,rfl⟩
theorem SD {H:Type} {enc:TypeId × Value->H} {w:World} {A:Option Addr} {n c:Nat} {d:DataW H} {p:List MemPlace}(h:DataW.Trod enc prog w 0 (λ_=>true) true 22 (.slice A n c) d p):∃ls:List (ByteArray × ByteArray),ls.length=n/\Gb w ls A/\(∀p∈ls,p.1.size<=maxLen/\p.2.size<=maxLen)/\n<=maxLen:=by
 obtain⟨fuel,hf⟩:=h;obtain⟨f0,f1,hu,o0,o1,t0,t1⟩:=zpL;rcases Go.Deep.open_slice_pairs QZ hu zl5 o0 o1 (by rw[t0];exact zit) (by rw[t1];exact zit) hf with⟨gP,-⟩|⟨a,len,cap,m,n',V0,V1,D0,D1,P0,P1,gP,-,hl,hm,dU,-,hx⟩
 ·simp[Value.cells]at gP
  obtain⟨rfl,rfl,rfl⟩:=gP;exact⟨[],rfl,(λi p h=>by simp at h),(λp h=>by cases h),Cw _⟩
 ·simp[Value.cells]at gP
  obtain⟨rfl,rfl,rfl⟩:=gP;have hmc:m=c:=by rw[dU];rfl
  have key:∀i,i<n->w.cell? (a.add (i*2))=some (.string (N7 (V0 i)))/\w.cell? (a.add (i*2+1))=some (.string (N7 (V1 i)))/\(N7 (V0 i)).size<=maxLen/\(N7 (V1 i)).size<=maxLen:=λi hi=>by
   obtain⟨c0,c1,d0,d1⟩:=hx i (by omega);rw[t0]at d0;rw[t1]at d1;obtain⟨s0,e0,-,z0⟩:=DataW.trod_string underlying9 d0;obtain⟨s1,e1,-,z1⟩:=DataW.trod_string underlying9 d1;injection e0 with e0;injection e1 with e1;rw[e0]at c0 ⊢
   rw[e1]at c1 ⊢;exact⟨c0,c1,z0,z1⟩
  refine⟨(List.range n).map λi=>(N7 (V0 i),N7 (V1 i)),by simp,λi p hi=>?_,λp hp=>?_,by omega⟩
  ·rw[CT]at hi
   have Fw:i<n:=by
    have:=(Cj.1 (show((List.range n).map λi=>(N7 (V0 i),N7 (V1 i)))[i]?=some p by rw[CT];exact hi)).1;simpa using this
   rw[List.getElem?_range Fw]at hi;injection hi with hi;subst hi;obtain⟨c0,c1,-,-⟩:=key i Fw;refine⟨a,rfl,?_,c0,c1⟩;have:=World.block_lt_of_cell? _ _ c0;have e:(a.add (i*2)).block=a.block:=by unfold Addr.add;split <;> rfl
   rw[e]at this;exact this
  ·obtain⟨i,hi,rfl⟩:=Ct.1 hp
   obtain⟨-,-,z0,z1⟩:=key i (Ew.1 hi);exact⟨z0,z1⟩
end
end Go.Proofs.YtfafilmklhnngaaGreatDoor
