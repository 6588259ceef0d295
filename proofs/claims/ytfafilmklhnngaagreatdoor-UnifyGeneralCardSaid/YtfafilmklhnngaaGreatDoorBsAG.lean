import Derived.Test.YtfafilmklhnngaaGreatDoorBsAC
import Derived.Lib.SlMapMerge
import Derived.Maps.RangeWalk
import Derived.Laws.IdiomRangeMap
import Derived.Shelf.SlMaps.Clone
set_option maxHeartbeats 12800000
set_option maxRecDepth 100000
namespace Go.Proofs.YtfafilmklhnngaaGreatDoor
open Tryz
section
open Go.RowKit Lx Tx Go.Maps Go.WideMaps Go.Shelf
set_option maxRecDepth 100000
theorem zf0 {V:Type}(enc:V->DataW Unit):∀r:List (Name × V),(∀p∈r,p.1.length<=maxLen)->CanonK (KeysOf prog 9) (Fi enc r)
 |[],_=>⟨[],rfl,List.Pairwise.nil,λp h=>by cases h⟩
 |p::r,h=>canonK_put EZ.one ⟨.string ⟨p.1.toArray⟩,IP ⟨p.1.toArray⟩ (by have:=h p Cs;simpa[ByteArray.size] using this)⟩ _ (zf0 enc r (λq hq=>h q (Cf _ hq)))
theorem zj3(L:List Name)(h:∀x∈L,x.length<=24):Canon (Fi mkSet.enc (kj L)) :=
 (zf0 mkSet.enc (kj L) (λp hp=>by
  unfold kj at hp;rw[Ct]at hp;obtain⟨x,hx,rfl⟩:=hp;have:=h x (DT.1 hx);unfold maxLen;show x.length<=_;omega)).canon EZ.one
theorem PR {V:Type}(enc:V->DataW Unit)(k:Lit)(hk:∀x,k≠.string x):∀r:List (Name × V),has (Fi enc r) k=false
 |[]=>rfl
 |p::r=>by rw[Fi,has_put_other (hk p.1),PR enc k hk r]
theorem PQ(L:List Name)(x:Name):has (Fi mkSet.enc (kj L)) (.string x)=decide (x∈L):=by
 rw[QA,QV];by_cases h:x∈L
 ·rw[Ch h,CD h];rfl
 ·rw[Cg h,CF h];rfl
theorem Vv(L:List Name)(x:Name)(z:DataW Unit):(Fi mkSet.enc (kj L)).atKey (.string x) z=if x∈L then .nil else z:=by
 rw[Qt,QV];by_cases h:x∈L
 ·rw[Ch h,Ch h];rfl
 ·rw[Cg h,Cg h];rfl
theorem ziS(A B:List Name)(iS:DataW Unit)(left:Lit->Bool)(hM:Merged iS (Fi mkSet.enc (kj A)) (Fi mkSet.enc (kj B)) left)(hl:∀k,left k=false)(hc:Canon iS)(hA:∀x∈A,x.length<=24)(hB:∀x∈B,x.length<=24):iS=Fi mkSet.enc (kj (A++B)):=by
 refine Maps.ext hc (zj3 (A++B) (λx hx=>(Cr.1 hx).elim (hA x) (hB x))) (λk=>?_) (λk z hk=>?_)
 ·rw[hM.1 k,hl k]
  by_cases h:∃x,k=.string x
  ·obtain⟨x,rfl⟩:=h
   rw[PQ,PQ,PQ];simp
  ·have h':∀x,k≠.string x:=λx e=>h ⟨x,e⟩
   rw[PR _ k h',PR _ k h',PR _ k h'];rfl
 ·rw[hM.1 k,hl k]at hk
  by_cases h:∃x,k=.string x
  ·obtain⟨x,rfl⟩:=h
   rw[PQ,PQ]at hk;rw[hM.2,hl,PQ,Vv,Vv,Vv];by_cases hb:x∈B
   ·simp[hb]
   ·have ha:x∈A:=by simpa[hb] using hk
    simp[ha,hb]
  ·have h':∀x,k≠.string x:=λx e=>h ⟨x,e⟩
   rw[PR _ k h',PR _ k h']at hk;simp at hk
theorem zfk {x:Value} {y:DataW Unit × List MemPlace}(h:unitElem x=some y):x=.agg #[]/\y=(.nil,[]):=by
 cases x with
 |agg cs =>
  by_cases h0:cs.size=0
  ·rw[unitElem,Ch h0]at h
   injection h with h;rw[Array.eq_empty_of_size_eq_zero h0]
   exact⟨rfl,h.symm⟩
  ·rw[unitElem,Cg h0]at h
   cases h
 |_=>cases h
theorem zj4(A B:List Name)(bd bs:Nat)(w:World)(hd:iT mkSet w bd (kj A))(hs:iT mkSet w bs (kj B))(ai:bd≠bs)(hA:∀x∈A,x.length<=24)(hB:∀x∈B,x.length<=24)(hlen:A.length+B.length<=50000000000000):Calls prog 148 #[.map (some bd),.map (some bs)] w λe w'=>e=.returned (.tuple #[])/\iT mkSet w' bd (kj (A++B))/\b_ (only bd) w w':=by
 obtain⟨nd,eJ,hd⟩:=hd;obtain⟨ns,iX,hs⟩:=hs;have gQ:=hd.lt;have rr:=hs.lt;have aA:=VD mkSet.enc (kj B);have qf:(kj A).length=A.length/\(kj B).length=B.length:=by unfold kj;simp
 obtain⟨Dd,hDd⟩:∃D,Fi mkSet.enc (kj A)=D:=⟨_,rfl⟩;obtain⟨Ds,XC⟩:∃D,Fi mkSet.enc (kj B)=D:=⟨_,rfl⟩;rw[hDd]at hd;rw[XC]at hs aA;have br:nd+Maps.size Ds<=maxLen:=by unfold maxLen;omega
 go_in;go_wp2_with (first
  |(at_range;refine wpList_range_own _ rfl _ 93 rfl 9 153 EZ mkSet.hT mkSet.R bs ns _ rfl hs ?_;intro w0 qR oW gI)
  |go_in)
 go_frame
 go_loopw [8] (λ_ wr=>∃(left:Lit->Bool) (Mh:Nat) (iS:DataW Unit),wr.ranges prog 9 mkSet.R bs w.heap.size ns Ds left Mh/\Mh<=Maps.size Ds /\
   wr.ownsMap prog 9 mkSet.R bd (nd+(Maps.size Ds-Mh)) iS/\Merged iS Dd Ds left/\w.grownBy wr (some bd))
  (λ_ wr=>wr.rangeLeft bs w.heap.size)
 case atStart =>
  exact⟨_,_,Dd,qR,BU _,(hd.kept oW (by simp)).mono (by omega),merged_start Dd Ds,oW.but _⟩
 case round =>
  obtain⟨left,Mh,iS,nH,gP,j8,hM,qm⟩:=hrel;go_wp2_with (first
   |(at_next;refine wpList_next_ranges _ rfl _ rfl 9 EZ mkSet.R id (λ_:Unit=>(.agg #[]:Value)) (λkey _ _=>⟨key,rfl⟩) (λv y hv=>⟨(),(zfk hv).1⟩) bs w.heap.size ns _ _ _ rfl nH ?_ ?_)
   |go_in)
  ·intro eL q8
   go_wp2
   first|go_end0|refine Ce (CQ rfl _ _ _) rfl ?_
   have e:iS=Fi mkSet.enc (kj (A++B)):=ziS A B iS left (by rw[hDd,XC];exact hM) q8 (j8.canon EZ) hA hB;subst e;exact⟨rfl,iT.of j8,(b_.refl (only bd) w).grown qm (λk hk=>.inr (by injection hk with hk;exact hk.symm))⟩
  ·intro x kl yd yp w1 ZH zc dp hv bz qQ af aS aH zI
   obtain⟨rfl,rfl⟩:yd=.nil/\yp=[]:=by have h:=(zfk (x:=.agg #[]) (y:=(yd,yp)) hv).2;injection h with h1 h2;exact⟨h1,h2⟩
   have yH:=(j8.kept aS (λe=>by have:=Dz e;omega)).alloc (.cells #[] 153);have yq:=qQ.alloc (.cells #[] 153);have hga:=World.grownBy_alloc w1 (.cells #[] 153) none;go_wp2_with (first
    |(at_mapUpdate;refine wpList_mapUpdate_own _ rfl _ _ _ 93 rfl 9 153 EZ mkSet.hT mkSet.R bd _ _ rfl yH (by omega) _ _ _ rfl rfl zc .nil [] hv ?_;intro w2 yG gM;go_frame)
    |go_in)
   have ox:=yq.kept gM (λe=>ai (Dz e).symm) (λe=>by have:=Dz e;omega);go_roundw;case rel =>
    exact⟨_,ZH,_,ox,by omega,yG.mono (by omega),merged_step hM j8.isMap (EZ.key zc) bz,((qm.andThen aS (λj hj=>.inl (by cases hj;exact BU _))).andThen hga (λj hj=>by cases hj)).andThen gM (λj hj=>.inr hj)⟩
   case measure=>rw[ox.left_eq,nH.left_eq];exact af
set_option maxRecDepth 100000
theorem ziT(L:List Name)(b:Nat)(w:World)(h:iT mkSet w b (kj L)):Calls prog 101 #[.map (some b)] w λe w'=>e=.returned (.map (some w.heap.size))/\iT mkSet w' w.heap.size (kj L)/\Below w.heap.size w w':=by
 obtain⟨n,hn,es,clock,hb,F,hs,hD⟩:=h;have hq:=λw=>run_eql_map_nil_sl (P:=prog) w 93 _ _ (some b) mkSet.hT;have HR:Hid (n<=(kj L).length/\(w.alloc (.map es clock)).ownsMap prog 9 mkSet.R w.heap.size n (Fi mkSet.enc (kj L))):=EP ⟨hn,es,clock,BZ _ _,F,hs,hD⟩;clear F hs hD hn;go_in
 go_wp2
 rw[run_callFunc_extern func149 (by kernel_rfl) (by kernel_rfl) (by kernel_rfl) (e:=Extern.MapsClone.clone) (by kernel_rfl),run_maps_clone_sl w 93 hb];simp only[Result.andThen];rw[Oper.upon_value];go_wp2
 rw[run_typeAssert_map_sl _ 93 20 _ _ _ mkSet.hT];simp only[Result.andThen];rw[Oper.upon_value];go_wp2
 go_ret
 exact⟨rfl,⟨n,HR.o.1,HR.o.2⟩,(Cc _ w).alloc (BU _) _⟩
end
end Go.Proofs.YtfafilmklhnngaaGreatDoor
