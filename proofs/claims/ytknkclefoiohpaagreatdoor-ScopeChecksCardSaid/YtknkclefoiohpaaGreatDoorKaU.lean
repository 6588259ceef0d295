import Derived.Test.YtknkclefoiohpaaGreatDoorKaT
set_option maxHeartbeats 12800000
namespace Go.Proofs.YtknkclefoiohpaaGreatDoor
open Go.RowKit Lx Tx Sx
set_option maxRecDepth 100000
theorem zlx(f:Nat)(S:Nat->Prop)(b:Nat)(l:List Tok)(w:World)(h:RdrS S w b l)(hS:∀g,S g->g≠b/\g<w.heap.size)(hG:AllG l)(hl:l.length<=100000)(hf:3*l.length<=f)
  (IH:GReads pcE shE S b 42 3 rdE f):Calls Tryz.prog 94 #[.pointer (some ⟨b,0,none⟩)] w (GPost pcE shE S b w (lamF f l)):=by
 have aC:=h.lt;have hV:=zcl S b l (w.alloc (.cells exZ 39)) (h.alloc _ (λg hg=>(hS g hg).2)) (λg hg=>⟨(hS g hg).1,by have:=(hS g hg).2;simp;omega⟩) hl;unfold exZ at hV;obtain⟨M,hM⟩:∃M,lamF f l=M:=⟨_,rfl⟩;rw[hM]
 rw[zi3]at hM
 obtain⟨q,hq⟩:∃q,((hd l).kind==1)=q:=⟨_,rfl⟩;rw[hq]at hV
 have HV:=wJ hV;have HS:=wJ hS;clear h hS hV;cases q with
 |false =>
  have hk:¬(hd l).kind=1:=by simpa using hq
  rw[ue hk]at hM
  have HM:=wJ hM;clear hk hq hf IH hG hl hM;go_enter Tryz.func94,Tryz.ntmps94
  go_wp2_with fail
  refine HV.out.mono ?_;rintro e w1 ⟨rfl,r1,c1⟩;have aa:Blk w1 w.heap.size 39 exZ:=Blk.chgR (tW _ _) c1 (by unfold only;omega);have ax:=aa.lt;obtain⟨⟨g0,g1,g2,g3,g4,g5,g6,g7,g8⟩,z0,z1,z2,z3,z4,z5,z6,z7,z8⟩:=z9 aa;have aE:=wJ aa;have HC:=wJ c1.pre;clear aa c1 r1 HV;go_wp2_with fail
  try simp only[Exit.inBlock,Exit.then]
  refine ub (zaa rfl _ _ w.heap.size 39 _ (0,0) _ rfl (zah _ _ _ _ _ _ _ _ _ aE.out) Tryz.underlying39 rfl (by kernel_rfl)) rfl ?_;exact⟨HC.out.set9 _ _ _ _ _ _ _ _ _ (tV _),_,⟨_,_,_,_,_,_,_,_,_,_,_,_,_,_,_,rfl⟩,.inl ⟨HM.out.symm,rfl⟩⟩
 |true =>
  have hk:(hd l).kind=1:=by simpa using hq
  rw[ud hk]at hM
  obtain⟨X,hX⟩:∃X,anyT l 1=X:=⟨_,rfl⟩;obtain⟨r2,aw⟩:∃x,anyR l 1=x:=⟨_,rfl⟩;rw[hX,aw]at HV
  have dQ:(hd l).text=X.data.toList:=by rw[<-hX,anyT,ud hk]
  have aD:l.tail=r2:=by rw[<-aw,anyR,ud hk]
  obtain⟨l',e1,e2⟩:=zbr (l:=l) (by rw[hk];decide);rw[aD]at e2
  have br:r2.length+1=l.length:=by rw[e1,e2];rfl
  have fw:AllG r2:=by rw[<-aD];exact AllG.tail' hG
  rw[dQ,aD]at hM
  obtain⟨q2,cf⟩:∃q,isHd r2 6 [45,62]=q:=⟨_,rfl⟩;rw[cf]at hM
  have fp:=λ(W:World) (hr:RdrS S W b r2) (hw:w.heap.size<=W.heap.size)=>zaE S b r2 ⟨#[45,62]⟩ W hr (λg hg=>⟨(HS.out g hg).1,by have:=(HS.out g hg).2;omega⟩) (by omega);have eb:(⟨#[45,62]⟩:ByteArray).data.toList=[45,62]:=rfl;rw[eb,cf]at fp
  unfold took at fp;rw[cf]at fp
  have gw:=wJ fp;have bq:=wJ IH;have fT:Hid (r2.length<=100000/\3*r2.length+3<=f):=wJ (by omega);have dC:=wJ fw;have dM:=wJ cf;have HM:=wJ hM;clear hk hq IH hG hl hf hX aw dQ aD e1 e2 br fw cf fp eb hM;go_enter Tryz.func94,Tryz.ntmps94
  go_wp2_with fail
  refine HV.out.mono ?_;rintro e w1 ⟨rfl,r1,c1⟩;have aa:Blk w1 w.heap.size 39 exZ:=Blk.chgR (tW _ _) c1 (by unfold only;omega);have aE:=wJ aa;have HC:=wJ c1.pre;have bj:=c1.size;simp at bj;have ez:=wJ (gw.out w1 r1 (by omega));clear aa c1 r1 HV gw;go_wp2_with fail
  refine ez.out.mono ?_;rintro e w2 ⟨rfl,r3,c2⟩;have bo:=c2.size;have aa:Blk w2 w.heap.size 39 exZ:=aE.out.chgR c2 (by unfold only;omega);have fh:=wJ aa;have cH:=wJ (HC.out.trans c2);have ax:=aa.lt;obtain⟨⟨g0,g1,g2,g3,g4,g5,g6,g7,g8⟩,z0,z1,z2,z3,z4,z5,z6,z7,z8⟩:=z9 aa;clear aa c2 ez;cases q2 with
  |false =>
   have bN:Hid (M=none):=wJ (by rw[<-HM.out,ue (by decide)]);clear r3;go_wp2_with fail
   try simp only[Exit.inBlock,Exit.then]
   refine ub (zaa rfl _ _ w.heap.size 39 _ (0,0) _ rfl (zah _ _ _ _ _ _ _ _ _ fh.out) Tryz.underlying39 rfl (by kernel_rfl)) rfl ?_;exact⟨cH.out.set9 _ _ _ _ _ _ _ _ _ (tV _),_,⟨_,_,_,_,_,_,_,_,_,_,_,_,_,_,_,rfl⟩,.inl ⟨bN.out,rfl⟩⟩
  |true =>
   have bN:Hid (M=(rdE f r2.tail).map λy=>(Ex.lam X.data.toList y.1,y.2)):=wJ (by rw[<-HM.out,ud rfl]);rw[ud rfl]at r3
   clear g0 g1 g2 g3 g4 g5 g6 g7 g8 z0 z1 z2 z3 z4 z5 z6 z7 z8;obtain⟨t0,r4,e4,-,-⟩:=zaB r2 6 [45,62] (by decide) dM.out;have nu:r2.length=r4.length+1:=by rw[e4];rfl
   have HE:=wJ (bq.out w2 r2.tail r3 (λg hg=>⟨(HS.out g hg).1,by have:=(HS.out g hg).2;omega⟩) (AllG.tail' dC.out) (by have:=fT.out.1;rw[e4,vR];omega) (by have:=fT.out.2;rw[e4,vR];omega));obtain⟨O,hO⟩:∃O,rdE f r2.tail=O:=⟨_,rfl⟩;rw[hO]at HE bN
   clear r3 e4 nu hO;go_wp2_with fail
   refine HE.out.mono ?_;rintro e w3 ⟨c3,cs,bA,au⟩;obtain⟨ck,cx,ct,cK,cX,cZ,cB,cm,cq,aU,aR,aS,aT,aP,aQ,rfl⟩:=bA;have eA:=c3.size;have aa:Blk w3 w.heap.size 39 exZ:=fh.out.chgR c3 (by unfold only;omega);have bR:=wJ aa;have dF:=wJ (cH.out.trans c3);have fL:=aa.lt;obtain⟨⟨g0,g1,g2,g3,g4,g5,g6,g7,g8⟩,z0,z1,z2,z3,z4,z5,z6,z7,z8⟩:=z9 aa;clear aa c3 HE;rcases au with⟨ho,rfl⟩|⟨y,r5,ho,rfl,aq,bV⟩
   ·have cS:Hid (M=none):=wJ (by rw[bN.out,ho];rfl)
    clear ho;go_wp2_with fail
    try simp only[Exit.inBlock,Exit.then]
    refine ub (zaa rfl _ _ w.heap.size 39 _ (0,0) _ rfl (((zah _ _ _ _ _ _ _ _ _ bR.out).alloc _).alloc _) Tryz.underlying39 rfl (by kernel_rfl)) rfl ?_;exact⟨((dF.out.set9 _ _ _ _ _ _ _ _ _ (tV _)).alloc _).alloc _,_,⟨_,_,_,_,_,_,_,_,_,_,_,_,_,_,_,rfl⟩,.inl ⟨cS.out,rfl⟩⟩
   ·have cS:Hid (M=some (.lam X.data.toList y,r5)):=wJ (by rw[bN.out,ho];rfl)
    have bD:=wJ aq;have ef:=wJ bV;clear ho aq bV;go_wp2_with fail
    try simp only[Exit.inBlock,Exit.then]
    refine ub (zaa rfl _ _ w.heap.size 39 _ (0,0) _ rfl (((zah _ _ _ _ _ _ _ _ _ bR.out).alloc _).alloc _) Tryz.underlying39 rfl (by kernel_rfl)) rfl ?_;refine⟨((dF.out.set9 _ _ _ _ _ _ _ _ _ (tV _)).alloc _).alloc _,_,⟨_,_,_,_,_,_,_,_,_,_,_,_,_,_,_,rfl⟩,.inr ⟨_,r5,cS.out,rfl,?_,?_⟩⟩
    ·refine⟨⟨none,0,some ⟨w3.heap.size+1,0,none⟩,0,none,0⟩,by simp[exC,kdE,nmE,toE,tyE,tyC,zac,zad,Sx.strV],trivial,?_⟩
     rw[ExIn]
     refine⟨_,rfl,⟨by omega,by simp⟩,zcf bD.out (λk hk=>⟨by omega,by simp;omega⟩) (λk hk=>?_) (zaA _ _ _ _ (zak _ _ _ _ _ _ _ _ _ _ _))⟩;exact(zbN _ _ _ k (by rw[zak];exact hk.2)).trans (zaf _ _ _ _ _ _ _ _ _ _ _ _ (by omega))
    ·refine ef.out.keep ?_ (λk hk=>?_)
     ·exact(zbN _ _ _ b (by rw[zak];omega)).trans (zaf _ _ _ _ _ _ _ _ _ _ _ _ (by omega))
     ·have:=(HS.out k hk).2
      exact(zbN _ _ _ k (by rw[zak];omega)).trans (zaf _ _ _ _ _ _ _ _ _ _ _ _ (by omega))
set_option maxRecDepth 100000
theorem zio(f:Nat)(S:Nat->Prop)(b:Nat)(l:List Tok)(w:World)(h:RdrS S w b l)(hS:∀g,S g->g≠b/\g<w.heap.size)(hG:AllG l)(hl:l.length<=100000)(hf:3*l.length+3<=f+1)
  (IH:∀f1,f1<=f->GReads pcE shE S b 42 3 rdE f1):Calls Tryz.prog 42 #[.pointer (some ⟨b,0,none⟩)] w (GPost pcE shE S b w (rdE (f+1) l)):=by
 have aC:=h.lt;obtain⟨M,hM⟩:∃M,rdE (f+1) l=M:=⟨_,rfl⟩;rw[hM]
 have HM:=wJ hM;have HS:=wJ hS;have HG:=wJ hG;have bq:=wJ IH;have HL:Hid (l.length<=100000/\3*l.length+3<=f+1):=wJ ⟨hl,hf⟩;obtain⟨w0,dH⟩:∃W,w.alloc (.cells exZ 39)=W:=⟨_,rfl⟩;have eI:w0.heap.size=w.heap.size+1:=by rw[<-dH];simp
 have aE:Hid (Blk w0 w.heap.size 39 exZ):=wJ (dH▸tW _ _);have HC:Hid (ChR b w w0):=wJ (dH▸(ChR.refl _ _).alloc _);have HR:Hid (RdrS S w0 b l):=wJ (dH▸h.alloc _ (λg hg=>(hS g hg).2));unfold exZ at dH;clear h hS hM hG IH hl hf;go_enter Tryz.func42,Tryz.ntmps42
 go_upto_region 1 with fail
 try rw[dH]
 clear dH;have ht:=zaE S b l ⟨#[92]⟩ w0 HR.out (λg hg=>⟨(HS.out g hg).1,by have:=(HS.out g hg).2;omega⟩) HL.out.1;rw[show(⟨#[92]⟩:ByteArray).data.toList=[92] from rfl,took]at ht
 obtain⟨q1,hq⟩:∃q,isHd l 6 [92]=q:=⟨_,rfl⟩;rw[hq]at ht
 have nM:=wJ ht;have oV:=wJ hq;clear ht hq;go_wp2_with fail
 refine nM.out.mono ?_;rintro e w1 ⟨rfl,cF,c1⟩;have bj:=c1.size;try simp at bj
 have aE:=wJ (aE.out.chgR c1 (by unfold only;omega));have HC:=wJ (HC.out.trans c1);clear c1 nM;cases q1 with
 |true =>
  rw[ud rfl]at cF
  obtain⟨t0,r0,e0,-,-⟩:=zaB l 6 [92] (by decide) oV.out;have dE:AllG l.tail:=AllG.tail' HG.out;have jI:l.tail.length<=100000/\3*l.tail.length+5<=f:=by have:=HL.out;rw[e0]at this ⊢;simp at this ⊢;omega
  have jH:∀g,S g->g≠b/\g<w1.heap.size:=λg hg=>⟨(HS.out g hg).1,by have:=(HS.out g hg).2;omega⟩;clear e0;have jT:Hid (M=lamF f l.tail):=wJ (by rw[<-HM.out,zcE,oV.out,ud rfl]);have hP:=zlx f S b l.tail w1 cF jH dE jI.1 (by omega) (bq.out f (tV _));obtain⟨O,hO⟩:∃O,lamF f l.tail=O:=⟨_,rfl⟩;rw[hO]at hP jT
  have HP:=wJ hP;clear hP hO cF dE jH;go_wp2_with fail
  refine HP.out.mono ?_;rintro e w9 ⟨c9,cs,bA,au⟩;obtain⟨ck,cx,ct,cK,cX,cZ,cB,cm,cq,aU,aR,aS,aT,aP,aQ,rfl⟩:=bA;have hs9:=c9.size;have aa:=aE.out.chgR c9 (by unfold only;omega);have ax:=aa.lt;obtain⟨⟨g0,g1,g2,g3,g4,g5,g6,g7,g8⟩,z0,z1,z2,z3,z4,z5,z6,z7,z8⟩:=z9 aa;have bR:=wJ aa;have dF:=wJ (HC.out.trans c9);clear aa c9 HP;rcases au with⟨ho,rfl⟩|⟨y,r5,ho,rfl,aq,bV⟩
  ·have cS:=wJ (jT.out.trans ho)
   clear ho;go_wp2_with fail
   try simp only[Exit.inBlock,Exit.then]
   refine ub (zaa rfl _ _ w.heap.size 39 _ (0,0) _ rfl (zah _ _ _ _ _ _ _ _ _ bR.out) Tryz.underlying39 rfl (by kernel_rfl)) rfl ?_;exact⟨dF.out.set9 _ _ _ _ _ _ _ _ _ (tV _),_,⟨_,_,_,_,_,_,_,_,_,_,_,_,_,_,_,rfl⟩,.inl ⟨cS.out,rfl⟩⟩
  ·have cS:=wJ (jT.out.trans ho)
   have bD:=wJ aq;have ef:=wJ bV;clear ho aq bV;go_wp2_with fail
   try simp only[Exit.inBlock,Exit.then]
   refine ub (zaa rfl _ _ w.heap.size 39 _ (0,0) _ rfl (zah _ _ _ _ _ _ _ _ _ bR.out) Tryz.underlying39 rfl (by kernel_rfl)) rfl ?_;exact⟨dF.out.set9 _ _ _ _ _ _ _ _ _ (tV _),_,⟨_,_,_,_,_,_,_,_,_,_,_,_,_,_,_,rfl⟩,.inr ⟨y,r5,cS.out,rfl,
    pcE.keep (λg hg=>⟨by omega,by rw[zak];exact hg.2⟩) (λg hg=>zaf _ _ _ _ _ _ _ _ _ _ _ _ (by omega)) bD.out,ef.out.keep (zaf _ _ _ _ _ _ _ _ _ _ _ _ (by omega)) (λk hk=>zaf _ _ _ _ _ _ _ _ _ _ _ _ (by have:=(HS.out k hk).2;omega))⟩⟩
 |false =>
  rw[ue (by decide)]at cF
  have HR:=wJ cF;clear cF;have ht:=zcs S b l ⟨#[108,101,116]⟩ w1 HR.out (λg hg=>⟨(HS.out g hg).1,by have:=(HS.out g hg).2;omega⟩) HL.out.1;rw[show(⟨#[108,101,116]⟩:ByteArray).data.toList=wLet from rfl,took]at ht
  obtain⟨q2,hq⟩:∃q,isHd l 3 wLet=q:=⟨_,rfl⟩;rw[hq]at ht
  have kL:=wJ ht;have dM:=wJ hq;clear ht hq;go_wp2_with fail
  refine kL.out.mono ?_;rintro e w2 ⟨rfl,aw,c2⟩;have bo:=c2.size;try simp at bo
  have aE:=wJ (aE.out.chgR c2 (by unfold only;omega));have HC:=wJ (HC.out.trans c2);clear c2 kL;cases q2 with
  |true =>
   rw[ud rfl]at aw
   obtain⟨t0,r0,e0,-,-⟩:=zaB l 3 wLet (by decide) dM.out;have dE:AllG l.tail:=AllG.tail' HG.out;have jI:l.tail.length<=100000/\3*l.tail.length+5<=f:=by have:=HL.out;rw[e0]at this ⊢;simp at this ⊢;omega
   have jH:∀g,S g->g≠b/\g<w2.heap.size:=λg hg=>⟨(HS.out g hg).1,by have:=(HS.out g hg).2;omega⟩;clear e0;obtain⟨g,hg⟩:∃g,f=g+1:=⟨f-1,by omega⟩;have jT:Hid (M=letF g l.tail):=wJ (by rw[<-HM.out,zcE,oV.out,ue (by decide),dM.out,ud rfl,hg,zhD]);have hP:=zpD g S b l.tail w2 aw jH dE jI.1 (by omega) (bq.out g (by omega));obtain⟨O,hO⟩:∃O,letF g l.tail=O:=⟨_,rfl⟩;rw[hO]at hP jT
   have HP:=wJ hP;clear hP hO aw dE jH hg;go_wp2_with fail
   refine HP.out.mono ?_;rintro e w9 ⟨c9,cs,bA,au⟩;obtain⟨ck,cx,ct,cK,cX,cZ,cB,cm,cq,aU,aR,aS,aT,aP,aQ,rfl⟩:=bA;have hs9:=c9.size;have aa:=aE.out.chgR c9 (by unfold only;omega);have ax:=aa.lt;obtain⟨⟨g0,g1,g2,g3,g4,g5,g6,g7,g8⟩,z0,z1,z2,z3,z4,z5,z6,z7,z8⟩:=z9 aa;have bR:=wJ aa;have dF:=wJ (HC.out.trans c9);clear aa c9 HP;rcases au with⟨ho,rfl⟩|⟨y,r5,ho,rfl,aq,bV⟩
   ·have cS:=wJ (jT.out.trans ho)
    clear ho;go_wp2_with fail
    try simp only[Exit.inBlock,Exit.then]
    refine ub (zaa rfl _ _ w.heap.size 39 _ (0,0) _ rfl (zah _ _ _ _ _ _ _ _ _ bR.out) Tryz.underlying39 rfl (by kernel_rfl)) rfl ?_;exact⟨dF.out.set9 _ _ _ _ _ _ _ _ _ (tV _),_,⟨_,_,_,_,_,_,_,_,_,_,_,_,_,_,_,rfl⟩,.inl ⟨cS.out,rfl⟩⟩
   ·have cS:=wJ (jT.out.trans ho)
    have bD:=wJ aq;have ef:=wJ bV;clear ho aq bV;go_wp2_with fail
    try simp only[Exit.inBlock,Exit.then]
    refine ub (zaa rfl _ _ w.heap.size 39 _ (0,0) _ rfl (zah _ _ _ _ _ _ _ _ _ bR.out) Tryz.underlying39 rfl (by kernel_rfl)) rfl ?_;exact⟨dF.out.set9 _ _ _ _ _ _ _ _ _ (tV _),_,⟨_,_,_,_,_,_,_,_,_,_,_,_,_,_,_,rfl⟩,.inr ⟨y,r5,cS.out,rfl,
     pcE.keep (λg hg=>⟨by omega,by rw[zak];exact hg.2⟩) (λg hg=>zaf _ _ _ _ _ _ _ _ _ _ _ _ (by omega)) bD.out,ef.out.keep (zaf _ _ _ _ _ _ _ _ _ _ _ _ (by omega)) (λk hk=>zaf _ _ _ _ _ _ _ _ _ _ _ _ (by have:=(HS.out k hk).2;omega))⟩⟩
  |false =>
   rw[ue (by decide)]at aw
   have HR:=wJ aw;clear aw;have ht:=zcs S b l ⟨#[99,97,115,101]⟩ w2 HR.out (λg hg=>⟨(HS.out g hg).1,by have:=(HS.out g hg).2;omega⟩) HL.out.1;rw[show(⟨#[99,97,115,101]⟩:ByteArray).data.toList=wCase from rfl,took]at ht
   obtain⟨q3,hq⟩:∃q,isHd l 3 wCase=q:=⟨_,rfl⟩;rw[hq]at ht
   have jr:=wJ ht;have km:=wJ hq;clear ht hq;go_wp2_with fail
   refine jr.out.mono ?_;rintro e w3 ⟨rfl,aD,c3⟩;have eA:=c3.size;try simp at eA
   have aE:=wJ (aE.out.chgR c3 (by unfold only;omega));have HC:=wJ (HC.out.trans c3);clear c3 jr;cases q3 with
   |true =>
    rw[ud rfl]at aD
    obtain⟨t0,r0,e0,-,-⟩:=zaB l 3 wCase (by decide) km.out;have dE:AllG l.tail:=AllG.tail' HG.out;have jI:l.tail.length<=100000/\3*l.tail.length+5<=f:=by have:=HL.out;rw[e0]at this ⊢;simp at this ⊢;omega
    have jH:∀g,S g->g≠b/\g<w3.heap.size:=λg hg=>⟨(HS.out g hg).1,by have:=(HS.out g hg).2;omega⟩;clear e0;obtain⟨g,hg⟩:∃g,f=g+2:=⟨f-2,by omega⟩;have jT:Hid (M=choF g l.tail):=wJ (by rw[<-HM.out,zcE,oV.out,ue (by decide),dM.out,ue (by decide),km.out,ud rfl,hg,zgd]);have hP:=zly g S b l.tail w3 aD jH dE jI.1 (by omega) (bq.out (g+1) (by omega)) (λf1 iS W l1 hr hs hG hl hf=>zfS f1 S b l1 W hr hs hG hl (by omega) (bq.out f1 (by omega)));obtain⟨O,hO⟩:∃O,choF g l.tail=O:=⟨_,rfl⟩;rw[hO]at hP jT
    have HP:=wJ hP;clear hP hO aD dE jH hg;go_wp2_with fail
    refine HP.out.mono ?_;rintro e w9 ⟨c9,cs,bA,au⟩;obtain⟨ck,cx,ct,cK,cX,cZ,cB,cm,cq,aU,aR,aS,aT,aP,aQ,rfl⟩:=bA;have hs9:=c9.size;have aa:=aE.out.chgR c9 (by unfold only;omega);have ax:=aa.lt;obtain⟨⟨g0,g1,g2,g3,g4,g5,g6,g7,g8⟩,z0,z1,z2,z3,z4,z5,z6,z7,z8⟩:=z9 aa;have bR:=wJ aa;have dF:=wJ (HC.out.trans c9);clear aa c9 HP;rcases au with⟨ho,rfl⟩|⟨y,r5,ho,rfl,aq,bV⟩
    ·have cS:=wJ (jT.out.trans ho)
     clear ho;go_wp2_with fail
     try simp only[Exit.inBlock,Exit.then]
     refine ub (zaa rfl _ _ w.heap.size 39 _ (0,0) _ rfl (zah _ _ _ _ _ _ _ _ _ bR.out) Tryz.underlying39 rfl (by kernel_rfl)) rfl ?_;exact⟨dF.out.set9 _ _ _ _ _ _ _ _ _ (tV _),_,⟨_,_,_,_,_,_,_,_,_,_,_,_,_,_,_,rfl⟩,.inl ⟨cS.out,rfl⟩⟩
    ·have cS:=wJ (jT.out.trans ho)
     have bD:=wJ aq;have ef:=wJ bV;clear ho aq bV;go_wp2_with fail
     try simp only[Exit.inBlock,Exit.then]
     refine ub (zaa rfl _ _ w.heap.size 39 _ (0,0) _ rfl (zah _ _ _ _ _ _ _ _ _ bR.out) Tryz.underlying39 rfl (by kernel_rfl)) rfl ?_;exact⟨dF.out.set9 _ _ _ _ _ _ _ _ _ (tV _),_,⟨_,_,_,_,_,_,_,_,_,_,_,_,_,_,_,rfl⟩,.inr ⟨y,r5,cS.out,rfl,
      pcE.keep (λg hg=>⟨by omega,by rw[zak];exact hg.2⟩) (λg hg=>zaf _ _ _ _ _ _ _ _ _ _ _ _ (by omega)) bD.out,ef.out.keep (zaf _ _ _ _ _ _ _ _ _ _ _ _ (by omega)) (λk hk=>zaf _ _ _ _ _ _ _ _ _ _ _ _ (by have:=(HS.out k hk).2;omega))⟩⟩
   |false =>
    rw[ue (by decide)]at aD
    have HR:=wJ aD;clear aD;obtain⟨g,hg⟩:∃g,f=g+1:=⟨f-1,by have:=HL.out;omega⟩;have jT:Hid (M=rdApp (g+1) l):=wJ (by rw[<-HM.out,zcE,oV.out,ue (by decide),dM.out,ue (by decide),km.out,ue (by decide),hg]);have hP:=zfR g S b l w3 HR.out (λg hg=>⟨(HS.out g hg).1,by have:=(HS.out g hg).2;omega⟩) HG.out HL.out.1 (by have:=HL.out;omega) (λf1 iS W l1 hr hs hG hl hf=>by
     obtain⟨k,rfl⟩:∃k,f1=k+1:=⟨f1-1,by omega⟩;exact zoT k S b l1 W hr hs hG hl (by omega) (bq.out k (by omega)))
    obtain⟨O,hO⟩:∃O,rdApp (g+1) l=O:=⟨_,rfl⟩;rw[hO]at hP jT
    have HP:=wJ hP;clear hP hO hg;go_wp2_with fail
    refine HP.out.mono ?_;rintro e w9 ⟨c9,cs,bA,au⟩;obtain⟨ck,cx,ct,cK,cX,cZ,cB,cm,cq,aU,aR,aS,aT,aP,aQ,rfl⟩:=bA;have hs9:=c9.size;have aa:=aE.out.chgR c9 (by unfold only;omega);have ax:=aa.lt;obtain⟨⟨g0,g1,g2,g3,g4,g5,g6,g7,g8⟩,z0,z1,z2,z3,z4,z5,z6,z7,z8⟩:=z9 aa;have bR:=wJ aa;have dF:=wJ (HC.out.trans c9);clear aa c9 HP;rcases au with⟨ho,rfl⟩|⟨y,r5,ho,rfl,aq,bV⟩
    ·have cS:=wJ (jT.out.trans ho)
     clear ho;go_wp2_with fail
     try simp only[Exit.inBlock,Exit.then]
     refine ub (zaa rfl _ _ w.heap.size 39 _ (0,0) _ rfl (zah _ _ _ _ _ _ _ _ _ bR.out) Tryz.underlying39 rfl (by kernel_rfl)) rfl ?_;exact⟨dF.out.set9 _ _ _ _ _ _ _ _ _ (tV _),_,⟨_,_,_,_,_,_,_,_,_,_,_,_,_,_,_,rfl⟩,.inl ⟨cS.out,rfl⟩⟩
    ·have cS:=wJ (jT.out.trans ho)
     have bD:=wJ aq;have ef:=wJ bV;clear ho aq bV;go_wp2_with fail
     try simp only[Exit.inBlock,Exit.then]
     refine ub (zaa rfl _ _ w.heap.size 39 _ (0,0) _ rfl (zah _ _ _ _ _ _ _ _ _ bR.out) Tryz.underlying39 rfl (by kernel_rfl)) rfl ?_;exact⟨dF.out.set9 _ _ _ _ _ _ _ _ _ (tV _),_,⟨_,_,_,_,_,_,_,_,_,_,_,_,_,_,_,rfl⟩,.inr ⟨y,r5,cS.out,rfl,
      pcE.keep (λg hg=>⟨by omega,by rw[zak];exact hg.2⟩) (λg hg=>zaf _ _ _ _ _ _ _ _ _ _ _ _ (by omega)) bD.out,ef.out.keep (zaf _ _ _ _ _ _ _ _ _ _ _ _ (by omega)) (λk hk=>zaf _ _ _ _ _ _ _ _ _ _ _ _ (by have:=(HS.out k hk).2;omega))⟩⟩
theorem zi6(S:Nat->Prop)(b:Nat)(f:Nat):GReads pcE shE S b 42 3 rdE f:=by
 induction f using Nat.strongRecOn with
 |_ f ih =>
  intro w l hr hS hG hl hf;obtain⟨k,rfl⟩:∃k,f=k+1:=⟨f-1,by omega⟩;exact zio k S b l w hr hS hG hl hf (λf1 iS=>ih f1 (by omega))
end Go.Proofs.YtknkclefoiohpaaGreatDoor
namespace Go.Proofs.YtknkclefoiohpaaGreatDoor
open Go.RowKit Lx Tx Sx
set_option maxRecDepth 100000
def conG(x:Nm)(r:List Tok):Option ((Nm × Ty) × List Tok):=if isHd r 6 [58]=true then(typ r.tail).map λy=>((x,y.1),y.2) else none
theorem zi7(l:List Tok):rdCon l=if(hd l).kind=2 then conG (hd l).text l.tail else none:=zhH l
theorem zcF(l:List Tok)(x:Nm × Ty)(r:List Tok)(hG:AllG l)(h:rdCon l=some (x,r)):AllG r/\r.length<l.length:=by
 rw[zi7]at h
 by_cases hk:(hd l).kind=2
 ·rw[ud hk,conG]at h
  obtain⟨l',e1,e2⟩:=zbr (l:=l) (by rw[hk];decide);have fw:AllG l.tail:=AllG.tail' hG;have br:l.tail.length+1=l.length:=by rw[e1];rfl
  by_cases h1:isHd l.tail 6 [58]=true
  ·rw[ud h1]at h
   cases ho:typ l.tail.tail with
   |none=>rw[ho]at h;cases h
   |some y =>
    obtain⟨t,r1⟩:=y;rw[ho]at h
    simp only[uq,um,uw]at h;obtain⟨rfl,rfl⟩:=h;obtain⟨-,g1,l1⟩:=zbC (AllG.tail' fw) ho;have:l.tail.tail.length<=l.tail.length:=by simp
    exact⟨g1,by omega⟩
  ·rw[ue h1]at h;cases h
 ·rw[ue hk]at h;cases h
theorem zpE(S:Nat->Prop)(b:Nat)(l:List Tok)(w:World)(h:RdrS S w b l)(hS:∀g,S g->g≠b/\g<w.heap.size)(hG:AllG l)(hl:l.length<=100000):Calls Tryz.prog 165 #[.pointer (some ⟨b,0,none⟩)] w (GPost pcC shC S b w (rdCon l)):=by
 have aC:=h.lt;have hV:=zcy S b l 2 2 rfl (w.alloc (.cells #[.string ⟨#[]⟩,.int .i64 0,.string ⟨#[]⟩,.int .i64 0,.slice none 0 0] 61)) (h.alloc _ (λg hg=>(hS g hg).2)) (λg hg=>⟨(hS g hg).1,by have:=(hS g hg).2;simp;omega⟩) hl (by decide);obtain⟨M,hM⟩:∃M,rdCon l=M:=⟨_,rfl⟩;rw[hM]
 rw[zi7]at hM
 obtain⟨q,hq⟩:∃q,((hd l).kind==2)=q:=⟨_,rfl⟩;rw[hq]at hV
 obtain⟨X,hX⟩:∃X,anyT l 2=X:=⟨_,rfl⟩;obtain⟨r2,aw⟩:∃x,anyR l 2=x:=⟨_,rfl⟩;rw[hX,aw]at hV
 have HV:=wJ hV;have HS:=wJ hS;have ja:Hid (q=false/\M=none\/q=true/\M=conG X.data.toList r2/\AllG r2/\r2.length<=100000):=wJ (by
  cases q with
  |false =>
   have hk:¬(hd l).kind=2:=by simpa using hq
   rw[ue hk]at hM
   exact .inl ⟨rfl,hM.symm⟩
  |true =>
   have hk:(hd l).kind=2:=by simpa using hq
   have dQ:(hd l).text=X.data.toList:=by rw[<-hX,anyT,ud hk]
   have aD:l.tail=r2:=by rw[<-aw,anyR,ud hk]
   rw[ud hk,dQ,aD]at hM
   have:r2.length<=l.length:=by rw[<-aD];simp
   exact .inr ⟨rfl,hM.symm,by rw[<-aD];exact AllG.tail' hG,by omega⟩)
 clear h hS hV hM hq hG hl hX aw;go_enter Tryz.func165,Tryz.ntmps165
 go_wp2_with fail
 refine HV.out.mono ?_;rintro e w1 ⟨rfl,r1,c1⟩;have bj:=c1.size;simp at bj;have aa:Blk w1 w.heap.size 61 #[.string ⟨#[]⟩,.int .i64 0,.string ⟨#[]⟩,.int .i64 0,.slice none 0 0]:=Blk.chgR (tW _ _) c1 (by unfold only;omega);obtain⟨⟨g0,g1,g2,g3,g4⟩,⟨z0,z1,z2,z3,z4⟩,bB⟩:=zbH aa;obtain⟨W1,aL⟩:∃W,w1.setCell ⟨w.heap.size,0,none⟩ (.string X)=W:=⟨_,rfl⟩;have kq:W1.heap.size=w1.heap.size:=by rw[<-aL];simp
 have aJ:Hid (Blk W1 w.heap.size 61 #[.string X,.int .i64 0,.string ⟨#[]⟩,.int .i64 0,.slice none 0 0]):=wJ (aL▸uk _ _ 0 _ _ _ aa);have gO:Hid (ChR b w W1):=wJ (aL▸c1.pre.setCell (.inl (tV _)) _);have dA:=wJ (show RdrS S W1 b r2 from aL▸r1.keep (tY _ ⟨w.heap.size,0,none⟩ _ b (by intro e;simp at e;omega)) (λg hg=>tY _ ⟨w.heap.size,0,none⟩ _ g (by intro e;simp at e;have:=(HS.out g hg).2;omega)));clear aa c1 r1 HV;go_upto_region 2 with fail
 try rw[aL]
 clear aL g0 g1 g2 g3 g4 z0 z1 z2 z3 z4;obtain⟨⟨g0,g1,g2,g3,g4⟩,⟨z0,z1,z2,z3,z4⟩,bB⟩:=zbH aJ.out;rcases ja.out with⟨rfl,hM⟩|⟨rfl,hM,fw,fS⟩
 ·have HM:=wJ hM
  clear hM;go_wp2_with fail
  try simp only[Exit.inBlock,Exit.then]
  refine ub (zaa rfl _ _ w.heap.size 61 _ (0,0) _ rfl (ze7 _ _ _ _ _ aJ.out) Tryz.underlying61 rfl (by kernel_rfl)) rfl ?_;exact⟨gO.out.set5 _ _ _ _ _ (tV _),_,⟨_,_,_,_,_,_,_,rfl⟩,.inl ⟨HM.out,rfl⟩⟩
 ·have fE:=wJ hM
  have h2:=zaE S b r2 ⟨#[58]⟩ W1 dA.out (λg hg=>⟨(HS.out g hg).1,by have:=(HS.out g hg).2;omega⟩) fS;rw[show(⟨#[58]⟩:ByteArray).data.toList=[58] from rfl,took]at h2
  obtain⟨q2,cf⟩:∃q,isHd r2 6 [58]=q:=⟨_,rfl⟩;rw[cf]at h2
  have H2:=wJ h2;have dM:=wJ cf;have dC:=wJ fw;have qQ:=wJ fS;clear h2 cf hM fw fS dA g0 g1 g2 g3 g4 z0 z1 z2 z3 z4;go_wp2_with fail
  refine H2.out.mono ?_;rintro e w2 ⟨rfl,aw,c2⟩;have bo:=c2.size;have ar:=wJ (aJ.out.chgR c2 (by unfold only;omega));have cH:=wJ (gO.out.trans c2);clear c2 H2;cases q2 with
  |false =>
   have HM:Hid (M=none):=wJ (by rw[fE.out,conG,dM.out,ue (by decide)]);obtain⟨⟨g0,g1,g2,g3,g4⟩,⟨z0,z1,z2,z3,z4⟩,bB⟩:=zbH ar.out;clear aw;go_wp2_with fail
   try simp only[Exit.inBlock,Exit.then]
   refine ub (zaa rfl _ _ w.heap.size 61 _ (0,0) _ rfl (ze7 _ _ _ _ _ ar.out) Tryz.underlying61 rfl (by kernel_rfl)) rfl ?_;exact⟨cH.out.set5 _ _ _ _ _ (tV _),_,⟨_,_,_,_,_,_,_,rfl⟩,.inl ⟨HM.out,rfl⟩⟩
  |true =>
   rw[ud rfl]at aw
   have ah:r2.tail.length<=r2.length:=by simp
   have hT:=zdV S b r2.tail w2 aw (λg hg=>⟨(HS.out g hg).1,by have:=(HS.out g hg).2;omega⟩) (AllG.tail' dC.out) (by have:=qQ.out;omega);obtain⟨O9,jn⟩:∃O,typ r2.tail=O:=⟨_,rfl⟩;have mg:Hid (M=O9.map λy=>((X.data.toList,y.1),y.2)):=wJ (by rw[fE.out,conG,dM.out,ud rfl,jn]);rw[jn]at hT
   have HT:=wJ hT;clear aw hT jn ah;go_wp2_with fail
   refine HT.out.mono ?_;rintro e w3 ⟨c3,tK,tX,tZ,tA,tm,tc,au⟩;have eA:=c3.size;have aa:=ar.out.chgR c3 (by unfold only;omega);obtain⟨⟨g0,g1,g2,g3,g4⟩,⟨z0,z1,z2,z3,z4⟩,bB⟩:=zbH aa;obtain⟨W3,cO⟩:∃W,(((w3.setCell ⟨w.heap.size,1,none⟩ (.int .i64 tK)).setCell ⟨w.heap.size,2,none⟩ (.string tX)).setCell ⟨w.heap.size,3,none⟩ (.int .i64 tZ)).setCell ⟨w.heap.size,4,none⟩ (.slice tA tm tc)=W:=⟨_,rfl⟩;have pg:W3.heap.size=w3.heap.size:=cO▸zfw w3 w.heap.size _ _ _ _;have cL:Hid (∀k,k≠w.heap.size->W3.heap[k]?=w3.heap[k]?):=wJ λk hk=>cO▸zgh w3 w.heap.size k _ _ _ _ hk;have bU:Hid (Blk W3 w.heap.size 61 #[.string X,.int .i64 tK,.string tX,.int .i64 tZ,.slice tA tm tc]):=wJ (cO▸zgg _ _ _ _ aa);have dF:Hid (ChR b w W3):=wJ (cO▸(cH.out.trans c3).so5_1 _ _ _ _ (tV _));have hU:∃ok,e=.returned (.tuple #[.agg #[.int .i64 tK,.string tX,.int .i64 tZ,.slice tA tm tc],.bool ok])/\((ok=false/\M=none)\/(ok=true/\∃t r,M=some ((X.data.toList,t),r)/\tyV t tA tc=[.int .i64 tK,.string tX,.int .i64 tZ,.slice tA tm tc]/\Args (λg=>w2.heap.size<=g/\g<w3.heap.size) w3 t tA/\RdrS S w3 b r)):=by
    rcases au with⟨ho,he⟩|⟨t,r,ho,he,aq,hr⟩
    ·exact⟨false,he,.inl ⟨rfl,by rw[mg.out,ho];rfl⟩⟩
    ·obtain⟨A',a',cd,jK⟩:=aq
     injection cd with cd;have cd:=uC Array.toList cd;simp only[vH,Value.int.injEq,Value.string.injEq,Value.slice.injEq,wz,wj]at cd;obtain⟨rfl,rfl,rfl,rfl,rfl,rfl⟩:=cd;exact⟨true,he,.inr ⟨rfl,t,r,by rw[mg.out,ho];rfl,rfl,jK,hr⟩⟩
   obtain⟨ok,rfl,hU⟩:=hU;have HU:=wJ hU;clear aa c3 HT au hU;go_upto_region 5 with fail
   try rw[cO]
   clear cO g0 g1 g2 g3 g4 z0 z1 z2 z3 z4;obtain⟨⟨g0,g1,g2,g3,g4⟩,⟨z0,z1,z2,z3,z4⟩,bB⟩:=zbH bU.out;go_wp2_with fail
   try simp only[Exit.inBlock,Exit.then]
   refine ub (zaa rfl _ _ w.heap.size 61 _ (0,0) _ rfl (ze7 _ _ _ _ _ bU.out) Tryz.underlying61 rfl (by kernel_rfl)) rfl ?_;refine⟨dF.out.set5 _ _ _ _ _ (tV _),[.string X,.int .i64 tK,.string tX,.int .i64 tZ,.slice tA tm tc],⟨_,_,_,_,_,_,_,rfl⟩,?_⟩;rcases HU.out with⟨rfl,hM⟩|⟨rfl,t,r,hM,ht,hx,hr⟩
   ·exact .inl ⟨hM,rfl⟩
   ·refine .inr ⟨_,r,hM,rfl,⟨tA,tc,by rw[<-ht];simp[Sx.strV],Args.keep (λg hg=>⟨by omega,by rw[zlo];omega⟩) (λg hg=>(ze8 _ _ _ _ _ _ _ _ (by omega)).trans (cL.out g (by omega))) _ _ hx⟩,?_⟩
    exact hr.keep ((ze8 _ _ _ _ _ _ _ _ (by omega)).trans (cL.out _ (by omega))) (λk hk=>(ze8 _ _ _ _ _ _ _ _ (by have:=(HS.out k hk).2;omega)).trans (cL.out _ (by have:=(HS.out k hk).2;omega)))
end Go.Proofs.YtknkclefoiohpaaGreatDoor
namespace Go.Proofs.YtknkclefoiohpaaGreatDoor
open Go.RowKit Lx Tx Sx
set_option maxRecDepth 100000
theorem zoR(S:Nat->Prop)(b bx:Nat)(l:List Tok)(w:World)(h:RdrS S w b l)(az:w.cell? ⟨bx,0,none⟩=some (.pointer (some ⟨b,0,none⟩)))(hS:∀g,S g->g≠b/\g<w.heap.size)(hl:l.length<=100000):Calls Tryz.prog 202 #[.pointer (some ⟨bx,0,none⟩)] w λe w'=>e=.returned (.bool (semB l))/\RdrS S w' b (if semB l=true then l.tail else l)/\ChR b w w':=by
 have HT:=wJ (zaE S b l ⟨#[59]⟩ w h hS hl);rw[show(⟨#[59]⟩:ByteArray).data.toList=[59] from rfl,took]at HT
 unfold semB;obtain⟨q,hq⟩:∃q,isHd l 6 [59]=q:=⟨_,rfl⟩;rw[hq]at HT ⊢
 obtain⟨L2,fS⟩:∃x,(if q=true then l.tail else l)=x:=⟨_,rfl⟩;rw[fS]at HT ⊢
 have aC:=zaj az;have hb:=h.lt;clear h hS hl hq fS;go_enter Tryz.func202,Tryz.ntmps202
 go_wp2_with fail
 refine HT.out.mono ?_;rintro e w1 ⟨rfl,r1,b1⟩;have R1:=wJ r1;have B1:=wJ b1;clear r1 b1 HT;go_wp2_with fail
 go_ret
 exact⟨rfl,R1.out,B1.out⟩
theorem zpY:(Tryz.prog.info? 61).map (λi=>(i.zero,i.size,i.bytes))=some (some (.agg #[.string ⟨#[]⟩,.int .i64 0,.string ⟨#[]⟩,.int .i64 0,.slice none 0 0]),5,72):=by kernel_rfl
theorem zjQ(f:Nat)(S:Nat->Prop)(b:Nat)(l:List Tok)(w0 w:World)(x0:(Nm × Ty))(g0 bx:Nat)(az:w0.cell? ⟨bx,0,none⟩=some (.pointer (some ⟨b,0,none⟩)))(dY:bx≠b)(h0:BuiltG pcC w0.heap.size 61 w [x0] (.slice (some ⟨g0,0,none⟩) 1 1))(h:RdrS S w b l)(hS:∀g,S g->g≠b/\g<w0.heap.size)(hb:b<w0.heap.size)(eL:ChR b w0 w)(hG:AllG l)(hl:l.length<=100000)(hf:3*l.length+1<=f)
  (IH:∀f1,f1<=f->GReads pcC shC S b 165 0 (λ(_:Nat)=>rdCon) f1)(aq:∀(f1:Nat)(l:List Tok)(x:(Nm × Ty))(r:List Tok),AllG l->(λ(_:Nat)=>rdCon) f1 l=some (x,r)->AllG r/\r.length<l.length):Calls Tryz.prog 201 #[.slice (some ⟨g0,0,none⟩) 1 1,.func (.func 202) #[] #[.pointer (some ⟨bx,0,none⟩)],.func (.func 165) #[.pointer (some ⟨b,0,none⟩)] #[]] w
   (LPost pcC S b w0 ((zaC semB List.tail (λ(_:Nat)=>rdCon) f l).map λy=>([x0]++y.1,y.2))):=by
 obtain⟨i0,bJ,bO,bz,bE⟩:=vz zpY;have aC:=zaj az;have aZ:∀wr,ChR b w0 wr->wr.cell? ⟨bx,0,none⟩=some (.pointer (some ⟨b,0,none⟩)):=λwr h=>(uV (a:=⟨bx,0,none⟩) (h.block bx aC (by unfold only;omega))).trans az;have cT:=wJ aZ;obtain⟨L,hL⟩:∃L,l.length=L:=⟨_,rfl⟩;have HL:=wJ hL;have HS:=wJ hS;have bq:=wJ IH;have bD:=wJ aq;have HH:Hid (zdk pcC semB List.tail (λ(_:Nat)=>rdCon) S b w0.heap.size 1 f 61 [x0] l w0 L (.slice (some ⟨g0,0,none⟩) 1 1) w):=wJ ⟨l,f,[],some ⟨g0,0,none⟩,1,hL.symm,rfl,hG,by simp,hf,tV _,wJ h,wJ (by simp),wJ (by rw[uW];exact h0),wJ eL⟩;rw[hL]at hl hf
 clear h hS hL IH aq eL h0 az aZ;go_enter Tryz.func201,Tryz.ntmps201
 go_wp2_with fail
 go_loopg [0] L (λgg v wr=>zdk pcC semB List.tail (λ(_:Nat)=>rdCon) S b w0.heap.size 1 f 61 [x0] l w0 gg v wr)
 case atStart=>exact HH.out
 case round =>
  obtain⟨r,f',done,A,c,rfl,rfl,iz,hle,iS,pD,hr,hv,jF,hc⟩:=hrel;rw[HL.out]at hle
  have aG:=hc.out.size;obtain⟨f1,rfl⟩:∃f1,f'=f1+1:=⟨f'-1,by omega⟩;obtain⟨n,hn⟩:∃n,([x0]++done).length=n:=⟨_,rfl⟩;have ib:n<=1+done.length:=by rw[<-hn];simp <;> omega
  rw[hn]at jF ⊢
  have HN:=wJ hn;obtain⟨rn,ep⟩:∃n,r.length=n:=⟨_,rfl⟩;have ir:=wJ ep;rw[ep]at hle iS
  have hA:=wJ (zoR S b bx r wr hr.out (cT.out wr hc.out) (λg hg=>⟨(HS.out g hg).1,by have:=(HS.out g hg).2;omega⟩) (by rw[ep];omega));have kQ:=wJ iz;clear hn ep HH iz;obtain⟨q,hq⟩:∃q,semB r=q:=⟨_,rfl⟩;rw[hq]at hA
  have HQ:=wJ hq;clear hq;go_wp2_with fail
  refine hA.out.mono ?_;rintro e w2 ⟨rfl,aw,c2⟩;have bo:=c2.size;have cH:=wJ (hc.out.trans c2);have gP:=wJ (jF.out.chgR c2 hb);clear c2 hA jF;cases q with
  |false =>
   rw[ue (by decide)]at aw
   have dD:=wJ aw;have HV:=wJ (hv.out.trans (uC (Option.map λy:List (Nm × Ty) × List Tok=>(done++y.1,y.2)) (zaZ f1 r HQ.out)));clear aw hv;go_wp2_with fail
   go_ret2
   refine⟨cH.out,A,n,c,.inr ⟨[x0]++done,r,by rw[HV.out];simp,rfl,HN.out.symm,gP.out.lst.2,dD.out⟩⟩
  |true =>
   rw[ud rfl]at aw
   obtain⟨bH,eY,lK⟩:=zep r kQ.out HQ.out;rw[ir.out]at eY lK
   have HP:=wJ (bq.out f1 (by omega) w2 _ aw (λg hg=>⟨(HS.out g hg).1,by have:=(HS.out g hg).2;omega⟩) bH (by omega) (by omega));obtain⟨O,hO⟩:∃O,(λ(_:Nat)=>rdCon) f1 (List.tail r)=O:=⟨_,rfl⟩;have HO:=wJ hO;have dC:=wJ bH;rw[hO]at HP
   clear aw bH hO;go_wp2_with fail
   refine HP.out.mono ?_;rintro e w3 ⟨c3,cs,bA,au⟩;obtain⟨s,tk,tx,tz,tA,tm,tq,rfl⟩:=bA;have eA:=c3.size;rcases au with⟨ho,rfl⟩|⟨px,r2,ho,rfl,hx,aD⟩
   ·have HV:=wJ (hv.out.trans (uC (Option.map λy:List (Nm × Ty) × List Tok=>(done++y.1,y.2)) (zbj f1 r HQ.out (HO.out.trans ho))))
    have dF:=wJ (cH.out.trans c3);clear hv ho c3 HP;go_wp2_with fail
    go_ret2
    exact⟨dF.out.alloc _,none,0,0,.inl ⟨by rw[HV.out];rfl,rfl⟩⟩
   ·have HV:=wJ (hv.out.trans (uC (Option.map λy:List (Nm × Ty) × List Tok=>(done++y.1,y.2)) (za6 f1 r HQ.out px r2 (HO.out.trans ho))))
    have eP:=bD.out f1 _ px r2 dC.out (HO.out.trans ho);have je:=eP.2;have bw:=wJ eP.1;have HX:=wJ hx;have gz:=wJ aD;have C3:=wJ c3;obtain⟨vs,ae,ao⟩:=gP.out;rw[HN.out]at ae
    have aM:=wJ ae;have av:=wJ ao;have aj:=zc1 ae c3 hb;have bY:=aj.lt;have dN:=wJ ((aj.alloc (.cells #[.string s,.int .i64 tk,.string tx,.int .i64 tz,.slice tA tm tq] 61)).alloc (.cells #[.string s,.int .i64 tk,.string tx,.int .i64 tz,.slice tA tm tq] 61));clear hv ho c3 HP eP hx aD ae ao aj gP;go_wp2_with (at_builtin;refine uP _ rfl (.tmp 25) (.tmp 27) 57 rfl w0.heap.size 61 i0 _ 5 72 Tryz.underlying57 bJ bO bz bE rfl (by decide) _ n vs rfl dN.out ⟨w3.heap.size+1,0,none⟩ 1 1 [.string s,.int .i64 tk,.string tx,.int .i64 tz,.slice tA tm tq] rfl rfl (zao _ _ _ _ (by simp)) (by intro u hu;simp at hu;rcases hu with rfl|rfl|rfl|rfl|rfl <;> rfl) (by unfold maxLen;omega) (by omega) (by simp;omega) ?_;intro v2 w5 aI ab _ cv;obtain⟨A2,c2,rfl⟩:=zat aI;have eU:=wJ aI;have cQ:=wJ ab;have fZ:=wJ cv;clear aI ab cv)
    have ee:=cQ.out.size;simp at ee;have jB:∀k,k<w0.heap.size->w5.heap[k]?=w3.heap[k]?:=λk hk=>(cQ.out.block k (by simp;omega) (λe=>by have:=bY _ e.symm;omega)).trans ((uc _ _ _ (by simp;omega)).trans (uc _ _ _ (by omega)));go_roundg r2.length
    case measure=>rw[ir.out];omega
    case rel =>
     refine⟨r2,f1,done++[px],A2,c2,rfl,?_,bw.out,?_,by omega,by omega,wJ (gz.out.keep (jB b hb) (λg hg=>jB g (HS.out g hg).2)),wJ ?_,wJ ?_,wJ ((((cH.out.trans C3.out).alloc _).alloc _).grown cQ.out (λj hj=>.inl (by have:=bY _ hj;omega)))⟩
     ·rw[<-uy,uf,HN.out];rfl
     ·rw[uf,HL.out];simp;omega
     ·rw[HV.out];simp[Function.comp_def]
     ·rw[<-uy,show([x0]++done++[px]).length=n+1 by rw[uf,HN.out];rfl]
      exact BuiltG.next (w:=w2) (w1:=w3) hb (by omega) (by rw[HN.out];exact aM.out) av.out C3.out HX.out (((ua _ w3).alloc (tV _) _).alloc (by simp) _) (by rw[HN.out];exact eU.out) cQ.out fZ.out
set_option maxRecDepth 100000
theorem zgK(f:Nat)(S:Nat->Prop)(b:Nat)(l:List Tok)(w:World)(h:RdrS S w b l)(hS:∀g,S g->g≠b/\g<w.heap.size)(hG:AllG l)(hl:l.length<=100000)(hf:3*l.length<=f)
  (IH:∀f1,f1<=f->GReads pcC shC S b 165 0 (λ(_:Nat)=>rdCon) f1)(aq:∀(f1:Nat)(l:List Tok)(x:(Nm × Ty))(r:List Tok),AllG l->(λ(_:Nat)=>rdCon) f1 l=some (x,r)->AllG r/\r.length<l.length):Calls Tryz.prog 186 #[.pointer (some ⟨b,0,none⟩),.func (.func 165) #[.pointer (some ⟨b,0,none⟩)] #[]] w (LPost pcC S b w (sepM (λ(_:Nat)=>rdCon) f l)):=by
 have aC:=h.lt;obtain⟨w0,dH⟩:∃x,w.alloc (.cells #[.pointer (some ⟨b,0,none⟩)] 144)=x:=⟨_,rfl⟩;have z0:w0.heap.size=w.heap.size+1:=by rw[<-dH];simp
 have aK:w0.cell? ⟨w.heap.size,0,none⟩=some (.pointer (some ⟨b,0,none⟩)):=by
  have hB:Blk w0 w.heap.size 144 #[.pointer (some ⟨b,0,none⟩)]:=dH▸tW w _;exact hB.cell 0
 have c0:ChR b w w0:=dH▸(ChR.refl b w).alloc _;have h0:RdrS S w0 b l:=dH▸h.alloc _ (λg hg=>(hS g hg).2);have lR:∀g,S g->g≠b/\g<w0.heap.size:=λg hg=>⟨(hS g hg).1,by have:=(hS g hg).2;omega⟩;have fg:=wJ c0;have bT:=wJ aK;have HP:=wJ (IH f (tV _) w0 l h0 lR hG hl (by omega));obtain⟨O,hO⟩:∃O,(λ(_:Nat)=>rdCon) f l=O:=⟨_,rfl⟩;rw[hO]at HP
 have HO:=wJ hO;obtain⟨M,hM⟩:∃M,sepM (λ(_:Nat)=>rdCon) f l=M:=⟨_,rfl⟩;rw[hM]
 have HM:=wJ hM;clear hM;have HS:=wJ lR;have bq:=wJ IH;have bD:=wJ aq;have HG:=wJ hG;clear h h0 hO hS lR IH aq hG c0;go_enter Tryz.func186,Tryz.ntmps186
 go_wp2_with fail
 try rw[dH]
 refine HP.out.mono ?_;clear dH aK;rintro e w2 ⟨c2,cs,bA,au⟩;obtain⟨s,tk,tx,tz,tA,tm,tq,rfl⟩:=bA;have bo:=c2.size;clear HP;rcases au with⟨ho,rfl⟩|⟨px,r2,ho,rfl,hx,aw⟩
 ·have cj:Hid (M=none):=wJ (by rw[<-HM.out,sepM,HO.out,ho])
  have C2:=wJ c2;clear ho c2;go_wp2_with fail
  go_ret2
  exact LPost.pre fg.out ⟨C2.out.alloc _,none,0,0,.inl ⟨cj.out,rfl⟩⟩
 ·subst ho
  have bH:=bD.out f l px r2 HG.out HO.out;have je:=bH.2;have HQ:=wJ (zjQ f S b r2 w0 ((w2.alloc (.cells #[.string s,.int .i64 tk,.string tx,.int .i64 tz,.slice tA tm tq] 61)).alloc (.cells #[.string s,.int .i64 tk,.string tx,.int .i64 tz,.slice tA tm tq] 61)) px (w2.heap.size+1) w.heap.size bT.out (by omega) (BuiltG.one (S:=λg=>w0.heap.size<=g/\g<w2.heap.size) hx (λg hg=>hg) bo _)
   ((aw.alloc _ (λg hg=>by have:=(HS.out g hg).2;omega)).alloc _ (λg hg=>by have:=(HS.out g hg).2;simp;omega)) HS.out (by omega) ((c2.alloc _).alloc _) bH.1 (by omega) (by omega) bq.out bD.out)
  clear bH je hx aw c2;obtain⟨O2,eg⟩:∃O2,zaC semB List.tail (λ(_:Nat)=>rdCon) f r2=O2:=⟨_,rfl⟩;have cj:Hid (M=O2.map λz=>(px::z.1,z.2)):=wJ (by rw[<-HM.out,sepM,HO.out,<-eg]);rw[eg]at HQ
  clear eg;go_wp2_with fail
  refine HQ.out.mono ?_;rintro e w3 ⟨c3,A,m,c,au⟩;have C3:=wJ c3;clear c3 HQ;rcases au with⟨ho,rfl⟩|⟨xs,r3,ho,rfl,hm,hx,aD⟩
  ·have HO:=wJ (cj.out.trans ho)
   clear ho;go_wp2_with fail
   go_ret2
   exact LPost.pre fg.out ⟨C3.out,A,m,c,.inl ⟨HO.out,rfl⟩⟩
  ·have HO:=wJ (cj.out.trans ho)
   have HM:=wJ hm;have HX:=wJ hx;have HR:=wJ aD;clear ho hm hx aD;go_wp2_with fail
   go_ret2
   exact LPost.pre fg.out ⟨C3.out,A,m,c,.inr ⟨xs,r3,HO.out,rfl,HM.out,HX.out,HR.out⟩⟩
set_option maxRecDepth 100000
theorem zhO(f:Nat)(S:Nat->Prop)(b:Nat)(l:List Tok)(w:World)(h:RdrS S w b l)(hS:∀g,S g->g≠b/\g<w.heap.size)(hG:AllG l)(hl:l.length<=100000)(hf:3*l.length<=f+3)
  (IH:∀f1,f1<=f->GReads pcC shC S b 165 0 (λ(_:Nat)=>rdCon) f1)(aq:∀(f1:Nat)(l:List Tok)(x:(Nm × Ty))(r:List Tok),AllG l->(λ(_:Nat)=>rdCon) f1 l=some (x,r)->AllG r/\r.length<l.length)
  (hle:∀(l:List Tok)(x:List (Nm × Ty))(r:List Tok),AllG l->sepM (λ(_:Nat)=>rdCon) f l=some (x,r)->r.length<=l.length):Calls Tryz.prog 164 #[.pointer (some ⟨b,0,none⟩),.func (.func 165) #[.pointer (some ⟨b,0,none⟩)] #[]] w (LPost pcC S b w (brF (λ(_:Nat)=>rdCon) f l)):=by
 have aC:=h.lt;have H1:=zaE S b l ⟨#[123]⟩ w h hS hl;rw[show(⟨#[123]⟩:ByteArray).data.toList=[123] from rfl,took]at H1
 obtain⟨M,hM⟩:∃M,brF (λ(_:Nat)=>rdCon) f l=M:=⟨_,rfl⟩;rw[hM]
 have iH:=wJ hM;have HS:=wJ hS;have bq:=wJ IH;have bD:=wJ aq;have nR:=wJ hle;have HG:=wJ hG;have HL:Hid (l.length<=100000/\3*l.length<=f+3):=wJ ⟨hl,hf⟩;obtain⟨q,hq⟩:∃q,isHd l 6 [123]=q:=⟨_,rfl⟩;rw[hq]at H1
 have HQ:=wJ hq;have H1:=wJ H1;clear h hS IH aq hG hl hf hq hle hM;go_enter Tryz.func164,Tryz.ntmps164
 go_wp2_with fail
 refine H1.out.mono ?_;rintro e w2 ⟨rfl,aw,c2⟩;have bo:=c2.size;cases q with
 |false =>
  have HM:Hid (M=none):=wJ (by rw[<-iH.out,zc0,HQ.out,ue (by decide)]);have C2:=wJ c2;clear c2 aw H1;go_wp2_with fail
  go_ret2
  exact⟨C2.out,none,0,0,.inl ⟨HM.out,rfl⟩⟩
 |true =>
  rw[ud rfl]at aw
  obtain⟨t0,l1,e1,-,-⟩:=zaB l 6 [123] (by decide) HQ.out;have dE:AllG l.tail:=AllG.tail' HG.out;have ft:l.tail.length+1=l.length:=by rw[e1];rfl
  obtain⟨r1,cF⟩:∃r1,l.tail=r1:=⟨_,rfl⟩;have iH:Hid (M=brG (λ(_:Nat)=>rdCon) f r1):=wJ (by rw[<-iH.out,zc0,HQ.out,ud rfl,cF]);rw[cF]at aw dE ft
  have hL:=HL.out;rw[<-ft]at hL
  have H2:=zaE S b r1 ⟨#[125]⟩ w2 aw (λg hg=>⟨(HS.out g hg).1,by have:=(HS.out g hg).2;omega⟩) (by omega);rw[show(⟨#[125]⟩:ByteArray).data.toList=[125] from rfl,took]at H2
  obtain⟨q2,cf⟩:∃q,isHd r1 6 [125]=q:=⟨_,rfl⟩;rw[cf]at H2
  have dM:=wJ cf;have H2:=wJ H2;have C2:=wJ c2;have mi:=wJ dE;clear e1 cF aw cf c2 HL HG HQ ft H1 dE;go_wp2_with fail
  refine H2.out.mono ?_;rintro e w3 ⟨rfl,aD,c3⟩;have eA:=c3.size;have C3:=wJ (C2.out.trans c3);clear c3 H2;cases q2 with
  |true =>
   rw[ud rfl]at aD
   have HM:Hid (M=some ([],r1.tail)):=wJ (by rw[iH.out,brG,dM.out,ud rfl]);have gz:=wJ aD;clear aD;go_wp2_with fail
   go_ret2
   exact⟨C3.out,none,0,0,.inr ⟨[],r1.tail,HM.out,rfl,rfl,(λh=>absurd rfl h),gz.out⟩⟩
  |false =>
   rw[ue (by decide)]at aD
   have H3:=wJ (zgK f S b r1 w3 aD (λg hg=>⟨(HS.out g hg).1,by have:=(HS.out g hg).2;omega⟩) mi.out (by omega) (by omega) bq.out bD.out);obtain⟨O,hO⟩:∃O,sepM (λ(_:Nat)=>rdCon) f r1=O:=⟨_,rfl⟩;rw[hO]at H3
   have HO:=wJ hO;clear aD hO;go_wp2_with fail
   refine H3.out.mono ?_;rintro e w4 ⟨c4,A,m,c,au⟩;have kp:=c4.size;have C4:=wJ (C3.out.trans c4);have C4':=wJ c4;clear c4 H3;rcases au with⟨ho,rfl⟩|⟨xs,r3,ho,rfl,hm,hx,iM⟩
   ·have HM:Hid (M=none):=wJ (by rw[iH.out,brG,dM.out,ue (by decide),HO.out,ho])
    clear ho;go_wp2_with fail
    go_ret2
    exact⟨C4.out,A,m,c,.inl ⟨HM.out,rfl⟩⟩
   ·subst ho
    have cS:Hid (M=if isHd r3 6 [125]=true then some (xs,r3.tail) else none):=wJ (by rw[iH.out,brG,dM.out,ue (by decide),HO.out]);have hle:=nR.out r1 xs r3 mi.out HO.out;have H4:=zaE S b r3 ⟨#[125]⟩ w4 iM (λg hg=>⟨(HS.out g hg).1,by have:=(HS.out g hg).2;omega⟩) (by omega);rw[show(⟨#[125]⟩:ByteArray).data.toList=[125] from rfl,took]at H4
    obtain⟨q4,jy⟩:∃q,isHd r3 6 [125]=q:=⟨_,rfl⟩;rw[jy]at H4
    have jO:=wJ jy;have H4:=wJ H4;have HM:=wJ hm;have HX:=wJ hx;clear hm hx iM jy hle HO;go_wp2_with fail
    refine H4.out.mono ?_;rintro e w5 ⟨rfl,iK,c5⟩;have ee:=c5.size;have C5:=wJ (C4.out.trans c5);have C5':=wJ c5;clear c5 H4;cases q4 with
    |false =>
     have lq:Hid (M=none):=wJ (by rw[cS.out,jO.out,ue (by decide)]);clear iK;go_wp2_with fail
     go_ret2
     exact⟨C5.out,A,m,c,.inl ⟨lq.out,rfl⟩⟩
    |true =>
     rw[ud rfl]at iK
     have qN:=wJ iK;have lq:Hid (M=some (xs,r3.tail)):=wJ (by rw[cS.out,jO.out,ud rfl]);clear iK;go_wp2_with fail
     go_ret2
     exact⟨C5.out,A,m,c,.inr ⟨xs,r3.tail,lq.out,rfl,HM.out,HX.out.keep (λg hg=>⟨by omega,by omega⟩) (λg hg=>C5'.out.block g hg.2 (by unfold only;omega)),qN.out⟩⟩
set_option maxRecDepth 100000
theorem zoS(S:Nat->Prop)(b bx:Nat)(l:List Tok)(w:World)(h:RdrS S w b l)(az:w.cell? ⟨bx,0,none⟩=some (.pointer (some ⟨b,0,none⟩)))(hS:∀g,S g->g≠b/\g<w.heap.size)(hl:l.length<=100000):Calls Tryz.prog 161 #[.pointer (some ⟨bx,0,none⟩)] w λe w'=>e=.returned (.bool (semB l))/\RdrS S w' b (if semB l=true then l.tail else l)/\ChR b w w':=by
 have HT:=wJ (zaE S b l ⟨#[59]⟩ w h hS hl);rw[show(⟨#[59]⟩:ByteArray).data.toList=[59] from rfl,took]at HT
 unfold semB;obtain⟨q,hq⟩:∃q,isHd l 6 [59]=q:=⟨_,rfl⟩;rw[hq]at HT ⊢
 obtain⟨L2,fS⟩:∃x,(if q=true then l.tail else l)=x:=⟨_,rfl⟩;rw[fS]at HT ⊢
 have aC:=zaj az;have hb:=h.lt;clear h hS hl hq fS;go_enter Tryz.func161,Tryz.ntmps161
 go_wp2_with fail
 refine HT.out.mono ?_;rintro e w1 ⟨rfl,r1,b1⟩;have R1:=wJ r1;have B1:=wJ b1;clear r1 b1 HT;go_wp2_with fail
 go_ret
 exact⟨rfl,R1.out,B1.out⟩
theorem zpZ:(Tryz.prog.info? 59).map (λi=>(i.zero,i.size,i.bytes))=some (some (.agg #[.int .i64 0,.string ⟨#[]⟩,.slice none 0 0,.slice none 0 0,.int .i64 0,.string ⟨#[]⟩,.int .i64 0,.slice none 0 0,.int .i64 0,.string ⟨#[]⟩,.bool false,.int .i64 0,.string ⟨#[]⟩,.int .i64 0,.slice none 0 0,.slice none 0 0,.slice none 0 0]),17,264):=by kernel_rfl
theorem zjR(f:Nat)(S:Nat->Prop)(b:Nat)(l:List Tok)(w0 w:World)(x0:De)(g0 bx:Nat)(az:w0.cell? ⟨bx,0,none⟩=some (.pointer (some ⟨b,0,none⟩)))(dY:bx≠b)(h0:BuiltG pcD w0.heap.size 59 w [x0] (.slice (some ⟨g0,0,none⟩) 1 1))(h:RdrS S w b l)(hS:∀g,S g->g≠b/\g<w0.heap.size)(hb:b<w0.heap.size)(eL:ChR b w0 w)(hG:AllG l)(hl:l.length<=100000)(hf:3*l.length+1<=f)
  (IH:∀f1,f1<=f->GReads pcD shD S b 75 0 (λ(_:Nat)=>rdDecl) f1)(aq:∀(f1:Nat)(l:List Tok)(x:De)(r:List Tok),AllG l->(λ(_:Nat)=>rdDecl) f1 l=some (x,r)->AllG r/\r.length<l.length):Calls Tryz.prog 160 #[.slice (some ⟨g0,0,none⟩) 1 1,.func (.func 161) #[] #[.pointer (some ⟨bx,0,none⟩)],.func (.func 75) #[.pointer (some ⟨b,0,none⟩)] #[]] w
   (LPost pcD S b w0 ((zaC semB List.tail (λ(_:Nat)=>rdDecl) f l).map λy=>([x0]++y.1,y.2))):=by
 obtain⟨i0,bJ,bO,bz,bE⟩:=vz zpZ;have aC:=zaj az;have aZ:∀wr,ChR b w0 wr->wr.cell? ⟨bx,0,none⟩=some (.pointer (some ⟨b,0,none⟩)):=λwr h=>(uV (a:=⟨bx,0,none⟩) (h.block bx aC (by unfold only;omega))).trans az;have cT:=wJ aZ;obtain⟨L,hL⟩:∃L,l.length=L:=⟨_,rfl⟩;have HL:=wJ hL;have HS:=wJ hS;have bq:=wJ IH;have bD:=wJ aq;have HH:Hid (zdk pcD semB List.tail (λ(_:Nat)=>rdDecl) S b w0.heap.size 1 f 59 [x0] l w0 L (.slice (some ⟨g0,0,none⟩) 1 1) w):=wJ ⟨l,f,[],some ⟨g0,0,none⟩,1,hL.symm,rfl,hG,by simp,hf,tV _,wJ h,wJ (by simp),wJ (by rw[uW];exact h0),wJ eL⟩;rw[hL]at hl hf
 clear h hS hL IH aq eL h0 az aZ;go_enter Tryz.func160,Tryz.ntmps160
 go_wp2_with fail
 go_loopg [0] L (λgg v wr=>zdk pcD semB List.tail (λ(_:Nat)=>rdDecl) S b w0.heap.size 1 f 59 [x0] l w0 gg v wr)
 case atStart=>exact HH.out
 case round =>
  obtain⟨r,f',done,A,c,rfl,rfl,iz,hle,iS,pD,hr,hv,jF,hc⟩:=hrel;rw[HL.out]at hle
  have aG:=hc.out.size;obtain⟨f1,rfl⟩:∃f1,f'=f1+1:=⟨f'-1,by omega⟩;obtain⟨n,hn⟩:∃n,([x0]++done).length=n:=⟨_,rfl⟩;have ib:n<=1+done.length:=by rw[<-hn];simp <;> omega
  rw[hn]at jF ⊢
  have HN:=wJ hn;obtain⟨rn,ep⟩:∃n,r.length=n:=⟨_,rfl⟩;have ir:=wJ ep;rw[ep]at hle iS
  have hA:=wJ (zoS S b bx r wr hr.out (cT.out wr hc.out) (λg hg=>⟨(HS.out g hg).1,by have:=(HS.out g hg).2;omega⟩) (by rw[ep];omega));have kQ:=wJ iz;clear hn ep HH iz;obtain⟨q,hq⟩:∃q,semB r=q:=⟨_,rfl⟩;rw[hq]at hA
  have HQ:=wJ hq;clear hq;go_wp2_with fail
  refine hA.out.mono ?_;rintro e w2 ⟨rfl,aw,c2⟩;have bo:=c2.size;have cH:=wJ (hc.out.trans c2);have gP:=wJ (jF.out.chgR c2 hb);clear c2 hA jF;cases q with
  |false =>
   rw[ue (by decide)]at aw
   have dD:=wJ aw;have HV:=wJ (hv.out.trans (uC (Option.map λy:List De × List Tok=>(done++y.1,y.2)) (zaZ f1 r HQ.out)));clear aw hv;go_wp2_with fail
   go_ret2
   refine⟨cH.out,A,n,c,.inr ⟨[x0]++done,r,by rw[HV.out];simp,rfl,HN.out.symm,gP.out.lst.2,dD.out⟩⟩
  |true =>
   rw[ud rfl]at aw
   obtain⟨bH,eY,lK⟩:=zep r kQ.out HQ.out;rw[ir.out]at eY lK
   have HP:=wJ (bq.out f1 (by omega) w2 _ aw (λg hg=>⟨(HS.out g hg).1,by have:=(HS.out g hg).2;omega⟩) bH (by omega) (by omega));obtain⟨O,hO⟩:∃O,(λ(_:Nat)=>rdDecl) f1 (List.tail r)=O:=⟨_,rfl⟩;have HO:=wJ hO;have dC:=wJ bH;rw[hO]at HP
   clear aw bH hO;go_wp2_with fail
   refine HP.out.mono ?_;rintro e w3 ⟨c3,cs,bA,au⟩;obtain⟨k0,s,V,vm,vq,G,gm,gq,K0,X0,Z0,B0,m0,q0,ek,ex,et,tk,tx,tz,tA,tm,tq,KA,kn,kc,LA,ln,lc,rfl⟩:=bA;have eA:=c3.size;rcases au with⟨ho,rfl⟩|⟨px,r2,ho,rfl,hx,aD⟩
   ·have HV:=wJ (hv.out.trans (uC (Option.map λy:List De × List Tok=>(done++y.1,y.2)) (zbj f1 r HQ.out (HO.out.trans ho))))
    have dF:=wJ (cH.out.trans c3);clear hv ho c3 HP;go_wp2_with fail
    go_ret2
    exact⟨dF.out.alloc _,none,0,0,.inl ⟨by rw[HV.out];rfl,rfl⟩⟩
   ·have HV:=wJ (hv.out.trans (uC (Option.map λy:List De × List Tok=>(done++y.1,y.2)) (za6 f1 r HQ.out px r2 (HO.out.trans ho))))
    have eP:=bD.out f1 _ px r2 dC.out (HO.out.trans ho);have je:=eP.2;have bw:=wJ eP.1;have HX:=wJ hx;have gz:=wJ aD;have C3:=wJ c3;obtain⟨vs,ae,ao⟩:=gP.out;rw[HN.out]at ae
    have aM:=wJ ae;have av:=wJ ao;have aj:=zc1 ae c3 hb;have bY:=aj.lt;have dN:=wJ ((aj.alloc (.cells #[.int .i64 k0,.string s,.slice V vm vq,.slice G gm gq,.int .i64 K0,.string X0,.int .i64 Z0,.slice B0 m0 q0,.int .i64 ek,.string ex,.bool et,.int .i64 tk,.string tx,.int .i64 tz,.slice tA tm tq,.slice KA kn kc,.slice LA ln lc] 59)).alloc (.cells #[.int .i64 k0,.string s,.slice V vm vq,.slice G gm gq,.int .i64 K0,.string X0,.int .i64 Z0,.slice B0 m0 q0,.int .i64 ek,.string ex,.bool et,.int .i64 tk,.string tx,.int .i64 tz,.slice tA tm tq,.slice KA kn kc,.slice LA ln lc] 59));clear hv ho c3 HP eP hx aD ae ao aj gP;go_wp2_with (at_builtin;refine uP _ rfl (.tmp 25) (.tmp 27) 23 rfl w0.heap.size 59 i0 _ 17 264 Tryz.underlying23 bJ bO bz bE rfl (by decide) _ n vs rfl dN.out ⟨w3.heap.size+1,0,none⟩ 1 1 [.int .i64 k0,.string s,.slice V vm vq,.slice G gm gq,.int .i64 K0,.string X0,.int .i64 Z0,.slice B0 m0 q0,.int .i64 ek,.string ex,.bool et,.int .i64 tk,.string tx,.int .i64 tz,.slice tA tm tq,.slice KA kn kc,.slice LA ln lc] rfl rfl (zao _ _ _ _ (by simp)) (by intro u hu;simp at hu;rcases hu with rfl|rfl|rfl|rfl|rfl|rfl|rfl|rfl|rfl|rfl|rfl|rfl|rfl|rfl|rfl|rfl|rfl <;> rfl) (by unfold maxLen;omega) (by omega) (by simp;omega) ?_;intro v2 w5 aI ab _ cv;obtain⟨A2,c2,rfl⟩:=zat aI;have eU:=wJ aI;have cQ:=wJ ab;have fZ:=wJ cv;clear aI ab cv)
    have ee:=cQ.out.size;simp at ee;have jB:∀k,k<w0.heap.size->w5.heap[k]?=w3.heap[k]?:=λk hk=>(cQ.out.block k (by simp;omega) (λe=>by have:=bY _ e.symm;omega)).trans ((uc _ _ _ (by simp;omega)).trans (uc _ _ _ (by omega)));go_roundg r2.length
    case measure=>rw[ir.out];omega
    case rel =>
     refine⟨r2,f1,done++[px],A2,c2,rfl,?_,bw.out,?_,by omega,by omega,wJ (gz.out.keep (jB b hb) (λg hg=>jB g (HS.out g hg).2)),wJ ?_,wJ ?_,wJ ((((cH.out.trans C3.out).alloc _).alloc _).grown cQ.out (λj hj=>.inl (by have:=bY _ hj;omega)))⟩
     ·rw[<-uy,uf,HN.out];rfl
     ·rw[uf,HL.out];simp;omega
     ·rw[HV.out];simp[Function.comp_def]
     ·rw[<-uy,show([x0]++done++[px]).length=n+1 by rw[uf,HN.out];rfl]
      exact BuiltG.next (w:=w2) (w1:=w3) hb (by omega) (by rw[HN.out];exact aM.out) av.out C3.out HX.out (((ua _ w3).alloc (tV _) _).alloc (by simp) _) (by rw[HN.out];exact eU.out) cQ.out fZ.out
set_option maxRecDepth 100000
theorem zgL(f:Nat)(S:Nat->Prop)(b:Nat)(l:List Tok)(w:World)(h:RdrS S w b l)(hS:∀g,S g->g≠b/\g<w.heap.size)(hG:AllG l)(hl:l.length<=100000)(hf:3*l.length<=f)
  (IH:∀f1,f1<=f->GReads pcD shD S b 75 0 (λ(_:Nat)=>rdDecl) f1)(aq:∀(f1:Nat)(l:List Tok)(x:De)(r:List Tok),AllG l->(λ(_:Nat)=>rdDecl) f1 l=some (x,r)->AllG r/\r.length<l.length):Calls Tryz.prog 125 #[.pointer (some ⟨b,0,none⟩),.func (.func 75) #[.pointer (some ⟨b,0,none⟩)] #[]] w (LPost pcD S b w (sepM (λ(_:Nat)=>rdDecl) f l)):=by
 have aC:=h.lt;obtain⟨w0,dH⟩:∃x,w.alloc (.cells #[.pointer (some ⟨b,0,none⟩)] 144)=x:=⟨_,rfl⟩;have z0:w0.heap.size=w.heap.size+1:=by rw[<-dH];simp
 have aK:w0.cell? ⟨w.heap.size,0,none⟩=some (.pointer (some ⟨b,0,none⟩)):=by
  have hB:Blk w0 w.heap.size 144 #[.pointer (some ⟨b,0,none⟩)]:=dH▸tW w _;exact hB.cell 0
 have c0:ChR b w w0:=dH▸(ChR.refl b w).alloc _;have h0:RdrS S w0 b l:=dH▸h.alloc _ (λg hg=>(hS g hg).2);have lR:∀g,S g->g≠b/\g<w0.heap.size:=λg hg=>⟨(hS g hg).1,by have:=(hS g hg).2;omega⟩;have fg:=wJ c0;have bT:=wJ aK;have HP:=wJ (IH f (tV _) w0 l h0 lR hG hl (by omega));obtain⟨O,hO⟩:∃O,(λ(_:Nat)=>rdDecl) f l=O:=⟨_,rfl⟩;rw[hO]at HP
 have HO:=wJ hO;obtain⟨M,hM⟩:∃M,sepM (λ(_:Nat)=>rdDecl) f l=M:=⟨_,rfl⟩;rw[hM]
 have HM:=wJ hM;clear hM;have HS:=wJ lR;have bq:=wJ IH;have bD:=wJ aq;have HG:=wJ hG;clear h h0 hO hS lR IH aq hG c0;go_enter Tryz.func125,Tryz.ntmps125
 go_wp2_with fail
 try rw[dH]
 refine HP.out.mono ?_;clear dH aK;rintro e w2 ⟨c2,cs,bA,au⟩;obtain⟨k0,s,V,vm,vq,G,gm,gq,K0,X0,Z0,B0,m0,q0,ek,ex,et,tk,tx,tz,tA,tm,tq,KA,kn,kc,LA,ln,lc,rfl⟩:=bA;have bo:=c2.size;clear HP;rcases au with⟨ho,rfl⟩|⟨px,r2,ho,rfl,hx,aw⟩
 ·have cj:Hid (M=none):=wJ (by rw[<-HM.out,sepM,HO.out,ho])
  have C2:=wJ c2;clear ho c2;go_wp2_with fail
  go_ret2
  exact LPost.pre fg.out ⟨C2.out.alloc _,none,0,0,.inl ⟨cj.out,rfl⟩⟩
 ·subst ho
  have bH:=bD.out f l px r2 HG.out HO.out;have je:=bH.2;have HQ:=wJ (zjR f S b r2 w0 ((w2.alloc (.cells #[.int .i64 k0,.string s,.slice V vm vq,.slice G gm gq,.int .i64 K0,.string X0,.int .i64 Z0,.slice B0 m0 q0,.int .i64 ek,.string ex,.bool et,.int .i64 tk,.string tx,.int .i64 tz,.slice tA tm tq,.slice KA kn kc,.slice LA ln lc] 59)).alloc (.cells #[.int .i64 k0,.string s,.slice V vm vq,.slice G gm gq,.int .i64 K0,.string X0,.int .i64 Z0,.slice B0 m0 q0,.int .i64 ek,.string ex,.bool et,.int .i64 tk,.string tx,.int .i64 tz,.slice tA tm tq,.slice KA kn kc,.slice LA ln lc] 59)) px (w2.heap.size+1) w.heap.size bT.out (by omega) (BuiltG.one (S:=λg=>w0.heap.size<=g/\g<w2.heap.size) hx (λg hg=>hg) bo _)
   ((aw.alloc _ (λg hg=>by have:=(HS.out g hg).2;omega)).alloc _ (λg hg=>by have:=(HS.out g hg).2;simp;omega)) HS.out (by omega) ((c2.alloc _).alloc _) bH.1 (by omega) (by omega) bq.out bD.out)
  clear bH je hx aw c2;obtain⟨O2,eg⟩:∃O2,zaC semB List.tail (λ(_:Nat)=>rdDecl) f r2=O2:=⟨_,rfl⟩;have cj:Hid (M=O2.map λz=>(px::z.1,z.2)):=wJ (by rw[<-HM.out,sepM,HO.out,<-eg]);rw[eg]at HQ
  clear eg;go_wp2_with fail
  refine HQ.out.mono ?_;rintro e w3 ⟨c3,A,m,c,au⟩;have C3:=wJ c3;clear c3 HQ;rcases au with⟨ho,rfl⟩|⟨xs,r3,ho,rfl,hm,hx,aD⟩
  ·have HO:=wJ (cj.out.trans ho)
   clear ho;go_wp2_with fail
   go_ret2
   exact LPost.pre fg.out ⟨C3.out,A,m,c,.inl ⟨HO.out,rfl⟩⟩
  ·have HO:=wJ (cj.out.trans ho)
   have HM:=wJ hm;have HX:=wJ hx;have HR:=wJ aD;clear ho hm hx aD;go_wp2_with fail
   go_ret2
   exact LPost.pre fg.out ⟨C3.out,A,m,c,.inr ⟨xs,r3,HO.out,rfl,HM.out,HX.out,HR.out⟩⟩
end Go.Proofs.YtknkclefoiohpaaGreatDoor
