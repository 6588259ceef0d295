import Derived.Test.YtknkclefoiohpaaGreatDoorKaX
import Derived.Shelf.Abstract
set_option maxHeartbeats 12800000
namespace Go.Proofs.YtknkclefoiohpaaGreatDoor
open Go.RowKit Lx Tx Sx Go.Shelf
set_option maxRecDepth 100000
theorem zdY(l:List Tok)(x:De)(r:List Tok)(hG:AllG l)(h:rdDecl l=some (x,r)):AllG r/\r.length<l.length:=by
 have lL:∀(r0:List Tok) (y:De) (r1:List Tok),AllG r0->rdData r0=some (y,r1)->AllG r1/\r1.length<r0.length:=by
  intro r0 y r1 hG h;rw[zhQ r0 hG]at h
  by_cases hk:(hd r0).kind=2
  ·rw[ud hk,datG]at h
   obtain⟨l',e1,-⟩:=zbr (l:=r0) (by rw[hk];decide);have br:r0.tail.length+1=r0.length:=by rw[e1];rfl
   obtain⟨-,v2,v3⟩:=zbD r0.tail (AllG.tail' hG);cases ho:brF (λ_=>rdCon) (3*(vars r0.tail).2.length) (vars r0.tail).2 with
   |none=>rw[ho]at h;cases h
   |some z =>
    obtain⟨cs,r2⟩:=z;rw[ho]at h
    simp only[uq,um,uw]at h;obtain⟨-,rfl⟩:=h;obtain⟨g1,l1⟩:=zpz (rd:=λ_=>rdCon) (λ_=>zcF) _ _ cs r2 v2 ho;exact⟨g1,by omega⟩
  ·rw[ue hk]at h;cases h
 rw[zdX]at h
 by_cases h1:isHd l 3 wData=true
 ·rw[ud h1]at h
  obtain⟨t0,r0,e0,-,-⟩:=zaB l 3 wData (by decide) h1;obtain⟨g1,l1⟩:=lL l.tail x r (AllG.tail' hG) h;rw[e0]at l1 ⊢
  simp at l1 ⊢;exact⟨g1,by omega⟩
 ·rw[ue h1,decN]at h
  by_cases hk:(hd l).kind=1
  ·rw[ud hk,decG]at h
   obtain⟨l',e1,-⟩:=zbr (l:=l) (by rw[hk];decide);have br:l.tail.length+1=l.length:=by rw[e1];rfl
   have dE:AllG l.tail:=AllG.tail' hG;have htt:l.tail.tail.length<=l.tail.length:=by simp
   by_cases h2:isHd l.tail 6 [58]=true
   ·rw[ud h2]at h
    cases ho:typ l.tail.tail with
    |none=>rw[ho]at h;cases h
    |some z =>
     obtain⟨t,r2⟩:=z;rw[ho]at h
     simp only[uq,um,uw]at h;obtain⟨-,rfl⟩:=h;obtain⟨-,g1,l1⟩:=zbC (AllG.tail' dE) ho;exact⟨g1,by omega⟩
   ·rw[ue h2,decH]at h
    by_cases h3:isHd l.tail 6 [61]=true
    ·rw[ud h3]at h
     cases ho:rdE (zaJ l.tail.tail) l.tail.tail with
     |none=>rw[ho]at h;cases h
     |some z =>
      obtain⟨t,r2⟩:=z;rw[ho]at h
      simp only[uq,um,uw]at h;obtain⟨-,rfl⟩:=h;obtain⟨g1,l1⟩:=zbZ _ _ t r2 (AllG.tail' dE) ho;exact⟨g1,by omega⟩
    ·rw[ue h3]at h;cases h
  ·rw[ue hk]at h;cases h
theorem zgp(l:List Tok)(hG:AllG l):rdProg l=if l.length=0 then some ([],[]) else sepM (λ_=>rdDecl) (3*l.length) l:=by
 rw[rdProg]
 by_cases h:l=[]
 ·subst h;rfl
 ·rw[ue h,ue (by intro e;exact h (vw.1 e)),Sx.sep,zi2]
  exact zgo zdY _ _ l hG (by omega) (by omega)
theorem zjU(S:Nat->Prop)(b:Nat)(l:List Tok)(w:World)(h:RdrS S w b l)(hS:∀g,S g->g≠b/\g<w.heap.size)(hG:AllG l)(hl:l.length<=100000):Calls Tryz.prog 74 #[.pointer (some ⟨b,0,none⟩),.func (.func 75) #[.pointer (some ⟨b,0,none⟩)] #[]] w (LPost pcD S b w (rdProg l)):=by
 have aC:=h.lt;have hP:=zgL (3*l.length) S b l w h hS hG hl (tV _) (λ_ _ W l1 hr hs hG hl _=>zoW S b l1 W hr hs hG hl) (λ_=>zdY);obtain⟨M,hM⟩:∃M,rdProg l=M:=⟨_,rfl⟩;rw[hM]
 rw[zgp l hG]at hM
 have HR:=wJ h;obtain⟨v,hb,hv⟩:=h;obtain⟨A,c,rfl,j9,-⟩:=hv;have f0:=hb.cell 0;obtain⟨n,hn⟩:∃n,l.length=n:=⟨_,rfl⟩;rw[hn]at f0 hM
 replace f0:w.cell? ⟨b,0,none⟩=some (.slice A n c):=f0;have HP:=wJ hP;by_cases eW:n=0
 ·subst eW
  have mz:l=[]:=vw.1 hn;subst mz;have HM:=wJ hM;clear hM hP HP hb j9 hn hG hS;go_enter Tryz.func74,Tryz.ntmps74
  go_wp2_with fail
  go_ret2
  exact⟨ChR.refl _ _,none,0,0,.inr ⟨[],[],by rw[<-HM.out];rfl,rfl,rfl,(λh=>absurd rfl h),HR.out⟩⟩
 ·have dn:((n:Int)==0)=false:=zbO n 0 0 rfl eW
  rw[ue eW,<-hn]at hM
  obtain⟨O,hO⟩:∃O,sepM (λ_=>rdDecl) (3*l.length) l=O:=⟨_,rfl⟩;rw[hO]at HP hM
  have HM:=wJ hM;clear hM hP hb j9 hn hG hS hO eW;go_enter Tryz.func74,Tryz.ntmps74
  go_wp2_with fail
  refine HP.out.mono ?_;rintro e w1 ⟨c1,A1,m1,q1,au⟩;have C1:=wJ c1;clear c1 HP;rcases au with⟨ho,rfl⟩|⟨xs,r3,ho,rfl,hm,hx,aD⟩
  ·have HO:=wJ ho
   clear ho;go_wp2_with fail
   go_ret2
   exact⟨C1.out,A1,m1,q1,.inl ⟨HM.out.symm.trans HO.out,rfl⟩⟩
  ·have HO:=wJ ho
   have iH:=wJ hm;have HX:=wJ hx;have gz:=wJ aD;clear ho hm hx aD;go_wp2_with fail
   go_ret2
   exact⟨C1.out,A1,m1,q1,.inr ⟨xs,r3,HM.out.symm.trans HO.out,rfl,iH.out,HX.out,gz.out⟩⟩
theorem zjV(S:Nat->Prop)(b:Nat)(l:List Tok)(w:World)(h:RdrS S w b l)(hS:∀g,S g->g≠b/\g<w.heap.size)(hG:AllG l)(hl:l.length<=100000):Calls Tryz.prog 29 #[.pointer (some ⟨b,0,none⟩)] w (LPost pcD S b w (rdProg l)):=by
 have HC:=wJ (zjU S b l w h hS hG hl);have aC:=h.lt;obtain⟨M,hM⟩:∃M,rdProg l=M:=⟨_,rfl⟩;rw[hM]at HC ⊢
 clear h hS hG hl hM;go_enter Tryz.func29,Tryz.ntmps29
 go_wp2_with fail
 refine HC.out.mono ?_;rintro e w1 h1;obtain⟨c1,A1,m1,q1,au⟩:=id h1;have H1:=wJ h1;clear h1 c1 HC;rcases au with⟨-,rfl⟩|⟨xs,r3,-,rfl,-⟩;all_goals
  go_wp2_with fail
  go_ret2
  exact H1.out
def AhE(w:World)(o:Option (Ex × List Tok))(e:Ending)(w':World):Prop :=
 Below w.heap.size w w'/\∃cs A n c q,shE cs/\e=.returned (.tuple #[.agg cs.toArray,.slice A n c,.bool q])/\(q=false->o=none) /\
  (q=true->∃x r,o=some (x,r)/\n=r.length/\pcE.Cs (λg=>w.heap.size<=g/\g<w'.heap.size) w' x cs)
def AhP(w:World)(o:Option (List De × List Tok))(e:Ending)(w':World):Prop :=
 Below w.heap.size w w'/\∃L m d A n c q,e=.returned (.tuple #[.slice L m d,.slice A n c,.bool q])/\(q=false->o=none) /\
  (q=true->∃x r,o=some (x,r)/\n=r.length/\m=x.length/\LstG pcD (λg=>w.heap.size<=g/\g<w'.heap.size) w' x L)
theorem zlA(S:Nat->Prop)(g:Nat)(l:List Tok)(v:Value)(w:World)(h:Toks S w v l)(hS:∀g,S g->g<w.heap.size)(hG:AllG l)(hl:l.length<=100000)(hc:w.cell? ⟨g,0,none⟩=some (.func (.func 42) #[] #[])):Calls Tryz.prog 92 #[v,.pointer (some ⟨g,0,none⟩)] w (AhE w (rdE (zaJ l) l)):=by
 have ek:∀args w,(callFunc 42 args).run Tryz.prog w=.ok (.enter 42 args) w:=enters_of Tryz.func42 (by kernel_rfl) rfl;have aV:=zaj hc;obtain⟨M,hM⟩:∃M,rdE (zaJ l) l=M:=⟨_,rfl⟩;obtain⟨A,c,rfl,j9,-⟩:=id h;obtain⟨n,hn⟩:∃n,l.length=n:=⟨_,rfl⟩;rw[hn]at h ⊢
 have HR:RdrS S ((w.alloc (.cells exZ 39)).alloc (.cells #[.slice A n c] 141)) (w.heap.size+1) l:=by
  refine⟨_,?_,h.keep (λg hg=>?_)⟩
  ·have:=tW (w.alloc (.cells exZ 39)) (.cells #[.slice A n c] 141)
   rw[show(w.alloc (.cells exZ 39)).heap.size=w.heap.size+1 by simp]at this
   exact this
  ·have kZ:=hS g hg
   exact(uc _ _ _ (by simp;omega)).trans (uc _ _ _ kZ)
 have hE:=zi6 S (w.heap.size+1) (zaJ l) _ l HR (λg hg=>by have:=hS g hg;simp;omega) hG hl (by unfold zaJ;omega);rw[hM]at hE ⊢
 have lj:=wJ HR.rdB;unfold exZ at hE lj;have HE:=wJ hE;have HS:=wJ hS;clear h hE j9 hM hn HR hG hl hS;go_enter Tryz.func92,Tryz.ntmps92
 go_wp2_with fail
 refine HE.out.mono ?_;rintro e w2 ⟨c2,cs,bA,au⟩;obtain⟨ck,cx,ct,cK,cX,cZ,cB,cm,cq,aU,aR,aS,aT,aP,aQ,rfl⟩:=bA;have bo:=c2.size;simp at bo;have hU:∃q A2 n2 d2,e=.returned (.tuple #[.agg #[.int .i64 ck,.string cx,.bool ct,.int .i64 cK,.string cX,.int .i64 cZ,.slice cB cm cq,.slice aU aR aS,.slice aT aP aQ],.bool q])/\Blk w2 (w.heap.size+1) 141 #[.slice A2 n2 d2] /\
   (q=false->M=none)/\(q=true->∃x r,M=some (x,r)/\n2=r.length/\pcE.Cs (λg=>w.heap.size<g/\g<w2.heap.size) w2 x [.int .i64 ck,.string cx,.bool ct,.int .i64 cK,.string cX,.int .i64 cZ,.slice cB cm cq,.slice aU aR aS,.slice aT aP aQ]):=by
  rcases au with⟨ho,he⟩|⟨x,r,ho,he,hx,hr⟩
  ·obtain⟨A2,n2,d2,hb⟩:=c2.r lj.out
   exact⟨false,A2,n2,d2,he,hb,(λ_=>ho),(λh=>by cases h)⟩
  ·obtain⟨v2,hb,A2,d2,rfl,-⟩:=hr
   exact⟨true,A2,_,d2,he,hb,(λh=>by cases h),λ_=>⟨x,r,ho,rfl,pcE.keep (λg hg=>⟨by have:=hg.1;simp at this;omega,hg.2⟩) (λ_ _=>rfl) hx⟩⟩
 obtain⟨q,A2,n2,d2,rfl,aA,bk,bG⟩:=hU;have aK:Blk w2 w.heap.size 39 exZ:=Blk.chgR (Blk.alloc (tW w (.cells exZ 39)) (.cells #[.slice A n c] 141)) c2 (by unfold only;omega);have sL:Below w.heap.size w w2:=(((ua w.heap.size w).alloc (tV _) (.cells exZ 39)).alloc (by simp) (.cells #[.slice A n c] 141)).trans (c2.c.toBelow (by simp;omega) (λk hk=>by unfold only;omega));obtain⟨W,hW⟩:∃V,w2.alloc (.cells #[.int .i64 ck,.string cx,.bool ct,.int .i64 cK,.string cX,.int .i64 cZ,.slice cB cm cq,.slice aU aR aS,.slice aT aP aQ] 39)=V:=⟨_,rfl⟩;have aX:Below w2.heap.size w2 W:=hW▸(ua _ w2).alloc (tV _) _;have hsW:W.heap.size=w2.heap.size+1:=by rw[<-hW];simp
 have mE:Blk W w2.heap.size 39 #[.int .i64 ck,.string cx,.bool ct,.int .i64 cK,.string cX,.int .i64 cZ,.slice cB cm cq,.slice aU aR aS,.slice aT aP aQ]:=hW▸tW _ _;have bT:=wJ (show Blk W w.heap.size 39 exZ from(aX.block _ aK.lt).trans aK);have mF:Blk W (w.heap.size+1) 141 #[.slice A2 n2 d2]:=(aX.block _ aA.lt).trans aA;have eF:=wJ (sL.trans (aX.mono (by omega)));have bP:=wJ bk;have aO:Hid (q=true->∃x r,M=some (x,r)/\n2=r.length/\pcE.Cs (λg=>w.heap.size<g/\g<w2.heap.size) W x [.int .i64 ck,.string cx,.bool ct,.int .i64 cK,.string cX,.int .i64 cZ,.slice cB cm cq,.slice aU aR aS,.slice aT aP aQ]):=wJ λh=>by
  obtain⟨x,r,h1,h2,h3⟩:=bG h;exact⟨x,r,h1,h2,pcE.keep (λ_ h=>h) (λg hg=>aX.block g hg.2) h3⟩
 obtain⟨⟨f0,f1,f2,f3,f4,f5,f6,f7,f8⟩,-,hl7⟩:=zab mE;obtain⟨⟨g0,g1,g2,g3,g4,g5,g6,g7,g8⟩,⟨z0,z1,z2,z3,z4,z5,z6,z7,z8⟩,mz⟩:=zab bT.out;have r0:=mF.cell 0;replace r0:W.cell? ⟨w.heap.size+1,0,none⟩=some (.slice A2 n2 d2):=r0;clear au c2 aA bk bG aK sL aX mE mF HE lj;go_upto_region 3 with fail
 try rw[hW]
 clear hW;go_region
 all_goals
  go_wp2_with fail
  try simp only[Exit.inBlock,Exit.then]
  refine ub (zdu rfl _ _ w.heap.size 39 _ (0,0) _ rfl (zah _ _ _ _ _ _ _ _ _ bT.out).drew Tryz.underlying39 rfl (by kernel_rfl)) rfl ?_;refine⟨(((((((((eF.out.setCell (p:=⟨w.heap.size,0,none⟩) (tV _) _).setCell (p:=⟨w.heap.size,1,none⟩) (tV _) _).setCell (p:=⟨w.heap.size,2,none⟩) (tV _) _).setCell (p:=⟨w.heap.size,3,none⟩) (tV _) _).setCell (p:=⟨w.heap.size,4,none⟩) (tV _) _).setCell (p:=⟨w.heap.size,5,none⟩) (tV _) _).setCell (p:=⟨w.heap.size,6,none⟩) (tV _) _).setCell (p:=⟨w.heap.size,7,none⟩) (tV _) _).setCell (p:=⟨w.heap.size,8,none⟩) (tV _) _).drew,[.int .i64 ck,.string cx,.bool ct,.int .i64 cK,.string cX,.int .i64 cZ,.slice cB cm cq,.slice aU aR aS,.slice aT aP aQ],A2,n2,d2,q,⟨_,_,_,_,_,_,_,_,_,_,_,_,_,_,_,rfl⟩,rfl,bP.out,λhq=>?_⟩;obtain⟨x,r,h1,h2,h3⟩:=aO.out hq;exact⟨x,r,h1,h2,pcE.keep (λg hg=>⟨by omega,by rw[heap_drew,zak];omega⟩) (λg hg=>by rw[heap_drew];exact zaf _ _ _ _ _ _ _ _ _ _ _ _ (by omega)) h3⟩
theorem zlB(S:Nat->Prop)(g:Nat)(l:List Tok)(v:Value)(w:World)(h:Toks S w v l)(hS:∀g,S g->g<w.heap.size)(hG:AllG l)(hl:l.length<=100000)(hc:w.cell? ⟨g,0,none⟩=some (.func (.func 29) #[] #[])):Calls Tryz.prog 73 #[v,.pointer (some ⟨g,0,none⟩)] w (AhP w (rdProg l)):=by
 have ek:∀args w,(callFunc 29 args).run Tryz.prog w=.ok (.enter 29 args) w:=enters_of Tryz.func29 (by kernel_rfl) rfl;have aV:=zaj hc;obtain⟨M,hM⟩:∃M,rdProg l=M:=⟨_,rfl⟩;obtain⟨A,c,rfl,j9,-⟩:=id h;obtain⟨n,hn⟩:∃n,l.length=n:=⟨_,rfl⟩;rw[hn]at h ⊢
 have HR:RdrS S (w.alloc (.cells #[.slice A n c] 141)) w.heap.size l:=⟨_,tW _ _,h.keep (λg hg=>uc _ _ _ (hS g hg))⟩;have hE:=zjV S w.heap.size l _ HR (λg hg=>by have:=hS g hg;simp;omega) hG hl;rw[hM]at hE ⊢
 have lj:=wJ HR.rdB;have HE:=wJ hE;clear h hE j9 hM hn HR hG hl hS;go_enter Tryz.func73,Tryz.ntmps73
 go_wp2_with fail
 refine HE.out.mono ?_;rintro e w2 ⟨c2,L,m,d,au⟩;have bo:=c2.size;simp at bo;have hU:∃q A2 n2 d2,e=.returned (.tuple #[.slice L m d,.bool q])/\Blk w2 w.heap.size 141 #[.slice A2 n2 d2] /\
   (q=false->M=none)/\(q=true->∃x r,M=some (x,r)/\n2=r.length/\m=x.length/\LstG pcD (λg=>w.heap.size<=g/\g<w2.heap.size) w2 x L):=by
  rcases au with⟨ho,he⟩|⟨x,r,ho,he,hm,hx,hr⟩
  ·obtain⟨A2,n2,d2,hb⟩:=c2.r lj.out
   exact⟨false,A2,n2,d2,he,hb,(λ_=>ho),(λh=>by cases h)⟩
  ·obtain⟨v2,hb,A2,d2,rfl,-⟩:=hr
   exact⟨true,A2,_,d2,he,hb,(λh=>by cases h),λ_=>⟨x,r,ho,rfl,hm,hx.keep (λg hg=>⟨by have:=hg.1;simp at this;omega,hg.2⟩) (λ_ _=>rfl)⟩⟩
 obtain⟨q,A2,n2,d2,rfl,aA,bk,bG⟩:=hU;have sL:Below w.heap.size w w2:=((ua w.heap.size w).alloc (tV _) (.cells #[.slice A n c] 141)).trans (c2.c.toBelow (by simp) (λk hk=>by unfold only;omega));have eF:=wJ sL;have bP:=wJ bk;have aO:=wJ bG;have mz:=aA.lt;have r0:=aA.cell 0;replace r0:w2.cell? ⟨w.heap.size,0,none⟩=some (.slice A2 n2 d2):=r0;clear au c2 aA bk bG sL HE lj;go_upto_region 3 with fail
 go_region
 all_goals
  go_wp2_with fail
  try simp only[Exit.inBlock,Exit.then]
  go_ret3
  exact⟨eF.out.drew,L,m,d,A2,n2,d2,q,rfl,bP.out,λhq=>by
   obtain⟨x,r,h1,h2,h3,h4⟩:=aO.out hq;exact⟨x,r,h1,h2,h3,h4.keep (λ_ h=>h) (λ_ _=>rfl)⟩⟩
end Go.Proofs.YtknkclefoiohpaaGreatDoor
namespace Go.Proofs.YtknkclefoiohpaaGreatDoor
open Go.RowKit Lx Tx Sx
set_option maxRecDepth 100000
theorem zeq(k:Nat)(al:Array Value)(w:World):Calls Tryz.prog 47 #[.agg #[.int .i64 0,.string ⟨#[]⟩,.bool false,.int .i64 0,.string ⟨#[]⟩,.int .i64 0,.slice none 0 0,.slice none 0 0,.slice none 0 0],.func (.func k) #[] al] w λe' w'=>e'=.returned (.tuple #[])/\Below w.heap.size w w':=by
 go_enter Tryz.func47,Tryz.ntmps47
 go_wp2_with fail
 obtain⟨W0,ai⟩:∃W,w.alloc (.cells #[.int .i64 0,.string ⟨#[]⟩,.bool false,.int .i64 0,.string ⟨#[]⟩,.int .i64 0,.slice none 0 0,.slice none 0 0,.slice none 0 0] 39)=W:=⟨_,rfl⟩;have lM:Blk W0 w.heap.size 39 exZ:=ai▸tW _ _;have aK:Below w.heap.size w W0:=ai▸(ua _ w).alloc (tV _) _;have nX:=wJ lM;have bT:=wJ aK;rw[ai]
 clear ai lM aK;go_loopg [11] 0 (λgg vi wr=>gg=0/\vi=.int .i64 0/\Hid (wr=W0))
 case atStart=>exact⟨rfl,rfl,wJ rfl⟩
 case round =>
  obtain⟨rfl,rfl,hw⟩:=hrel;have hw:=hw.out;subst hw;have f8:=nX.out.cell 8;replace f8:wr.cell? ⟨w.heap.size,8,none⟩=some (.slice none 0 0):=f8;have aC:=nX.out.lt;obtain⟨W1,rfl⟩:∃X,X=wr:=⟨_,rfl⟩;go_wp2_with fail
  go_loopg [22] 0 (λgg vi wx=>gg=0/\vi=.int .i64 0/\Hid (wx=W1))
  case atStart=>exact⟨rfl,rfl,wJ rfl⟩
  case round =>
   obtain⟨rfl,rfl,hw⟩:=hrel;have hw:=hw.out;subst hw;go_wp2_with fail
   first|go_end0|refine ub (vE rfl _ _ _) rfl ?_
   exact⟨rfl,bT.out⟩
theorem zlC(w:World):Calls Tryz.prog 16 #[.agg #[.int .i64 0,.string ⟨#[]⟩,.bool false,.int .i64 0,.string ⟨#[]⟩,.int .i64 0,.slice none 0 0,.slice none 0 0,.slice none 0 0]] w λe' w'=>e'=.returned (.int .i64 1)/\Below w.heap.size w w':=by
 obtain⟨W2,bL⟩:∃W,(w.alloc (.cells #[.int .i64 0,.string ⟨#[]⟩,.bool false,.int .i64 0,.string ⟨#[]⟩,.int .i64 0,.slice none 0 0,.slice none 0 0,.slice none 0 0] 39)).alloc (.cells #[.int .i64 0] 3)=W:=⟨_,rfl⟩;have bo:W2.heap.size=w.heap.size+2:=by rw[<-bL];simp
 have aZ:Blk W2 (w.heap.size+1) 3 #[.int .i64 0]:=bL▸zaA _ _ _ _ rfl;have aA:Below w.heap.size w W2:=bL▸((ua _ w).alloc (tV _) _).alloc (by simp) _;have HE:=wJ (zeq 49 #[.pointer (some ⟨w.heap.size+1,0,none⟩)] W2);have cT:=wJ aZ;have ar:=wJ aA;subst bL;clear aZ aA;go_enter Tryz.func16,Tryz.ntmps16
 go_wp2_with fail
 refine HE.out.mono ?_;rintro e' w3 ⟨rfl,b3⟩;have f0:=(cT.out.below b3 cT.out.lt).cell 0;have B3:=wJ (ar.out.trans (b3.mono (by omega)));clear b3 HE;go_wp2_with fail
 go_ret
 exact⟨rfl,B3.out⟩
theorem ziq(w:World):Calls Tryz.prog 99 #[.agg #[.int .i64 0,.string ⟨#[]⟩,.bool false,.int .i64 0,.string ⟨#[]⟩,.int .i64 0,.slice none 0 0,.slice none 0 0,.slice none 0 0]] w λe' w'=>e'=.returned (.bool false)/\Below w.heap.size w w':=by
 obtain⟨W1,aL⟩:∃W,w.alloc (.cells #[.int .i64 0,.string ⟨#[]⟩,.bool false,.int .i64 0,.string ⟨#[]⟩,.int .i64 0,.slice none 0 0,.slice none 0 0,.slice none 0 0] 39)=W:=⟨_,rfl⟩;have aN:Below w.heap.size w W1:=aL▸(ua _ w).alloc (tV _) _;have az:Blk W1 w.heap.size 39 exZ:=aL▸tW _ _;have bj:W1.heap.size=w.heap.size+1:=by rw[<-aL];simp
 have HT:=wJ (zb3 none (λ_=>False) 0 ⟨#[]⟩ 0 none 0 0 W1 (by simp[tyW]) rfl (λ_ h=>h.elim));have bc:=wJ az;have aJ:=wJ aN;obtain⟨⟨g0,g1,g2,g3,g4,g5,g6,g7,g8⟩,-⟩:=z9 az;clear az aN;go_enter Tryz.func99,Tryz.ntmps99
 go_wp2_with fail
 try rw[aL]
 clear aL;refine HT.out.mono ?_;rintro e' w2 ⟨rfl,b2⟩;have bo:=b2.size;clear g0 g1 g2 g3 g4 g5 g6 g7 g8;obtain⟨⟨g0,g1,g2,g3,g4,g5,g6,g7,g8⟩,-⟩:=z9 (bc.out.below b2 bc.out.lt);have ax:w.heap.size<w2.heap.size:=by omega
 have ar:=wJ (aJ.out.trans (b2.mono (by omega)));have HE:=wJ (zeq 142 #[.pointer (some ⟨w2.heap.size,0,none⟩)] (w2.alloc (.cells #[.bool false] 4)));clear b2 HT;rw[show zbo none=false from rfl]
 go_wp2_with fail
 refine HE.out.mono ?_;rintro e' w3 ⟨rfl,b3⟩;have f0:=(Blk.below (tW w2 (.cells #[.bool false] 4)) b3 (by simp)).cell 0;replace f0:w3.cell? ⟨w2.heap.size,0,none⟩=some (.bool false):=f0;have B3:=wJ ((ar.out.alloc (by omega) (.cells #[.bool false] 4)).trans (b3.mono (by simp;omega)));clear b3 HE;go_wp2_with fail
 go_ret
 exact⟨rfl,B3.out⟩
theorem zdt(w:World):Calls Tryz.prog 43 #[.agg #[.int .i64 0,.string ⟨#[]⟩,.bool false,.int .i64 0,.string ⟨#[]⟩,.int .i64 0,.slice none 0 0,.slice none 0 0,.slice none 0 0]] w λe' w'=>e'=.returned (.bool false)/\Below w.heap.size w w':=by
 obtain⟨W1,aL⟩:∃W,w.alloc (.cells #[.int .i64 0,.string ⟨#[]⟩,.bool false,.int .i64 0,.string ⟨#[]⟩,.int .i64 0,.slice none 0 0,.slice none 0 0,.slice none 0 0] 39)=W:=⟨_,rfl⟩;have aN:Below w.heap.size w W1:=aL▸(ua _ w).alloc (tV _) _;have az:Blk W1 w.heap.size 39 exZ:=aL▸tW _ _;have bj:W1.heap.size=w.heap.size+1:=by rw[<-aL];simp
 have HD:=wJ (zlC W1);have bc:=wJ az;have aJ:=wJ aN;subst aL;clear az aN;go_enter Tryz.func43,Tryz.ntmps43
 go_wp2_with fail
 refine HD.out.mono ?_;rintro e' w2 ⟨rfl,b2⟩;have bo:=b2.size;obtain⟨⟨g0,g1,g2,g3,g4,g5,g6,g7,g8⟩,-⟩:=z9 (bc.out.below b2 bc.out.lt);have ax:w.heap.size<w2.heap.size:=by omega
 have ar:=wJ (aJ.out.trans (b2.mono (by omega)));have HH:=wJ (ziq w2);clear b2 HD;go_wp2_with fail
 refine HH.out.mono ?_;rintro e' w3 ⟨rfl,b3⟩;have B3:=wJ (ar.out.trans (b3.mono (by omega)));clear b3 HH;go_wp2_with fail
 go_ret
 exact⟨rfl,B3.out⟩
end Go.Proofs.YtknkclefoiohpaaGreatDoor
