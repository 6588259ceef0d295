import Derived.Test.YtfafilmklhnngaaGreatDoorBkAL
import Derived.Deep.SlicePairs
import Derived.SliceStrings
import Derived.Carry
set_option maxHeartbeats 12800000
namespace Go.Proofs.YtfafilmklhnngaaGreatDoor
open Go.RowKit Lx Tx Go.ChangeShapes Go.WideShapes
set_option maxRecDepth 100000
theorem zqn:laidOutB Tryz.prog=true:=by kernel_rfl
theorem zhJ:Tryz.prog.underlying 22=some (.slice 70):=by kernel_rfl
theorem zk8:Tryz.prog.cellsOf 70=2:=by kernel_rfl
theorem zhK:Tryz.prog.cellsOf 9=1:=by kernel_rfl
def txt:Value->ByteArray
 |.string s=>s
 |_=>⟨#[]⟩
theorem zot:∃f0 f1:Field,Tryz.prog.underlying 70=some (.struct #[f0,f1])/\f0.offset=0/\f1.offset=1/\f0.type=9/\f1.type=9:=⟨_,_,Tryz.underlying70,rfl,rfl,rfl,rfl⟩
theorem zk9 {H:Type} {enc:TypeId × Value->H} {w:World} {A:Option Addr} {n c:Nat} {d:DataW H} {p:List MemPlace}(h:DataW.Trod enc Tryz.prog w 0 (λ_=>true) true 22 (.slice A n c) d p):∃ls:List (ByteArray × ByteArray),ls.length=n/\LinesAt w ls A/\(∀p∈ls,p.1.size<=maxLen/\p.2.size<=maxLen)/\n<=maxLen:=by
 obtain⟨fuel,hf⟩:=h;obtain⟨f0,f1,hu,o0,o1,t0,t1⟩:=zot;rcases Go.Deep.open_slice_pairs zhJ hu zk8 o0 o1 (by rw[t0];exact zhK) (by rw[t1];exact zhK) hf with⟨gA,-⟩|⟨a,len,cap,m,n',V0,V1,D0,D1,P0,P1,gA,-,hl,hm,dY,-,hx⟩
 ·simp[Value.cells]at gA
  obtain⟨rfl,rfl,rfl⟩:=gA;exact⟨[],rfl,(λi p h=>by simp at h),(λp h=>by cases h),AV _⟩
 ·simp[Value.cells]at gA
  obtain⟨rfl,rfl,rfl⟩:=gA;have hmc:m=c:=by rw[dY];rfl
  have key:∀i,i<n->w.cell? (a.add (i*2))=some (.string (txt (V0 i)))/\w.cell? (a.add (i*2+1))=some (.string (txt (V1 i)))/\(txt (V0 i)).size<=maxLen/\(txt (V1 i)).size<=maxLen:=λi hi=>by
   obtain⟨c0,c1,d0,d1⟩:=hx i (by omega);rw[t0]at d0
   rw[t1]at d1
   obtain⟨s0,e0,-,z0⟩:=DataW.trod_string Tryz.underlying9 d0;obtain⟨s1,e1,-,z1⟩:=DataW.trod_string Tryz.underlying9 d1;injection e0 with e0;injection e1 with e1;rw[e0]at c0 ⊢
   rw[e1]at c1 ⊢
   exact⟨c0,c1,z0,z1⟩
  refine⟨(List.range n).map λi=>(txt (V0 i),txt (V1 i)),by simp,λi p hi=>?_,λp hp=>?_,by omega⟩
  ·rw[AY]at hi
   have hin:i<n:=by
    have:=(Aw.1 (show((List.range n).map λi=>(txt (V0 i),txt (V1 i)))[i]?=some p by rw[AY];exact hi)).1;simpa using this
   rw[List.getElem?_range hin]at hi
   injection hi with hi;subst hi;obtain⟨c0,c1,-,-⟩:=key i hin;refine⟨a,rfl,?_,c0,c1⟩;have:=World.block_lt_of_cell? _ _ c0;have e:(a.add (i*2)).block=a.block:=by unfold Addr.add;split <;> rfl
   rw[e]at this
   exact this
  ·obtain⟨i,hi,rfl⟩:=AM.1 hp
   obtain⟨-,-,z0,z1⟩:=key i (List.mem_range.1 hi);exact⟨z0,z1⟩
end Go.Proofs.YtfafilmklhnngaaGreatDoor
