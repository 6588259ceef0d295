import Derived.Test.YtfafilmklhnngaaGreatDoorBsAO
import Derived.Test.YtfafilmklhnngaaGreatDoorBsC
set_option maxHeartbeats 12800000
set_option maxRecDepth 100000
namespace Go.Proofs.YtfafilmklhnngaaGreatDoor
open Tryz
section
open Go.RowKit Go.Shelf Lx Tx Go.Maps Go.WideMaps
set_option maxRecDepth 100000
theorem zq7 {w:World} {q u:Nat}(hq:e_ w q)(hu:e_ w u):(binOp BinOp.neq 75 (.pointer (some ⟨q,0,none⟩)) (.pointer (some ⟨u,0,none⟩))).run prog w=.ok (.bool (!decide (u=q))) w:=by
 obtain⟨j,hj,hs⟩:∃j,prog.info? 132=some j/\j.size≠0:=by
  cases h:prog.info? 132 with
  |none=>have:=GQ;rw[h]at this;cases this
  |some j=>have:=GQ;rw[h]at this;exact⟨j,rfl,by simp at this;omega⟩
 obtain⟨cq,hq⟩:=hq;obtain⟨cu,hu⟩:=hu;have h:=zii (P:=prog) (w:=w) underlying75 hj hs q u ⟨cq,_,hq⟩ ⟨cu,_,hu⟩;unfold PK at h;simp only[binOp];simp[h,Result.andThen]
theorem Pe:(prog.info? 39).map (λi=>(i.zero,i.size,i.bytes))=some (some (.agg #[.int .i64 0,.int .i64 0,.string ⟨#[]⟩,.int .i64 0,.slice none 0 0]),5,64):=by kernel_rfl
section
variable {G:Nat->Option Nd} {L:List Nat} {hd:Nat->Nat} {k:Sb} {O:List Nat} {U:Nat->Option Nat}
noncomputable def JQ (U:Nat->Option Nat)(G:Nat->Option Nd)(k:Sb)(hd:Nat->Nat)(done:List Nat):List (Nat × Ty) :=
 (done.filter λn=>decide (hd ((U n).getD 0)≠(U n).getD 0)).map λn=>(n,pw (tv G k (hd ((U n).getD 0))))
theorem znB {done:List Nat} {n p:Nat}(hn:U n=some p)(hp:hd p≠p):JQ U G k hd (done++[n])=JQ U G k hd done++[(n,pw (tv G k (hd p)))]:=by
 unfold JQ;rw[Eg,Dn];simp[hn,hp]
theorem zg9 {done:List Nat} {n p:Nat}(hn:U n=some p)(hp:hd p=p):JQ U G k hd (done++[n])=JQ U G k hd done:=by
 unfold JQ;rw[Eg];simp[hn,hp]
theorem znC(hg:Gr G hd L)(rB:∀n p,U n=some p->G p=some ⟨2,⟨#[]⟩,n,[],none,false⟩\/(hd p=p/\k n=.mt n))(hw:1+wg G [] L<=2000000000000) {done:List Nat}(hn:done.Nodup)(qo:∀n∈done,∃p,U n=some p):(JQ U G k hd done).length+1<=2000000000000:=by
 obtain⟨F,hF⟩:∃F,done.filter (λn=>decide (hd ((U n).getD 0)≠(U n).getD 0))=F:=⟨_,rfl⟩;have hm:∀n∈F,∃p,U n=some p/\G p=some ⟨2,⟨#[]⟩,n,[],none,false⟩:=λn uf=>by
  rw[<-hF,Dp]at uf;obtain⟨p,hp⟩:=qo n uf.1;have h2:=DB uf.2;rw[hp]at h2;rcases rB n p hp with h|h
  ·exact⟨p,hp,h⟩
  ·exact absurd h.1 h2
 have hFn:F.Nodup:=by rw[<-hF];exact hn.filter _
 have hM:(F.map λn=>(U n).getD 0).Nodup:=by
  show List.Pairwise _ _;rw[List.pairwise_map];refine List.Pairwise.imp_of_mem (fun {a c} ha hc ai e=>ai ?_) hFn;obtain⟨p,h1,h2⟩:=hm a ha;obtain⟨q,h3,h4⟩:=hm c hc;rw[h1,h3]at e;have e:p=q:=e;rw[e,h4]at h2;injection h2 with h2;injection h2 with _ _ h2;exact h2.symm
 have mB:=RM (G:=G) (L:=L) (F.map λn=>(U n).getD 0) [] hM (λq hq=>by
  obtain⟨n,uf,rfl⟩:=Ct.1 hq;obtain⟨p,h1,h2⟩:=hm n uf;rw[h1];exact⟨hg.all p _ h2,_,h2⟩) (λq _=>by simp)
 have Y4:∀l:List Nat,(∀q∈l,∃x,G q=some x)->l.length<=(l.map (L6 G)).sum:=λl=>by
  induction l with
  |nil=>intro _;exact BU _
  |cons q l ih =>
   intro h;obtain⟨x,hx⟩:=h q (by simp);have:=ih λz hz=>h z (by simp[hz]);have hq:L6 G q=x.kids.length+1:=by unfold L6;rw[hx]
   rw[CA,DW,Ca];omega
 have h1:=Y4 (F.map λn=>(U n).getD 0) (λq hq=>by
  obtain⟨n,uf,rfl⟩:=Ct.1 hq;obtain⟨p,h1,h2⟩:=hm n uf;rw[h1];exact⟨_,h2⟩)
 have h2:(JQ U G k hd done).length=F.length:=by unfold JQ;rw[hF,CE]
 rw[CE]at h1;omega
theorem F0.Nu(S:F0 G L hd k [] O)(gs:L7 G) {p n:Nat}(hp:G p=some ⟨2,⟨#[]⟩,n,[],none,false⟩)(hk:k n=.mt n):hd p=p:=by
 have hF:FV G p:=⟨.mt n,.mt [] p n hp,Jk n⟩;obtain⟨⟨d,h1,h2⟩,h3⟩:=S.GA hF;rw[MG k (Tr.mt [] p n hp) (Jk n),Ge,hk,MG k h1 h2]at h3;cases d with
 |fv x=>rw[JK]at h3;cases h3
 |bv i=>exact absurd h2 (LG i)
 |h_ c l=>rw[Jj]at h3;cases h3
 |fn a b=>rw[JJ]at h3;cases h3
 |all t=>rw[Iw]at h3;cases h3
 |mt m =>
  rw[Ge]at h3;have hG:G (hd p)=some ⟨2,⟨#[]⟩,m,[],none,false⟩:=by
   generalize iX:([]:List Nat)=ns at h1;cases h1 with
   |mt _ _ _ h=>exact h
   |app _ _ _ _ _ ha=>simp[App,u_]at ha
  have hm:=S.un _ m hG (S.gr.IX p);rw[hm]at h3;injection h3 with h3;rw[h3]at hG
  exact gs.uu _ _ n hG hp
theorem znD(S:F0 G L hd k [] O)(gs:L7 G)(rB:∀n p,U n=some p->G p=some ⟨2,⟨#[]⟩,n,[],none,false⟩\/(hd p=p/\k n=.mt n))(hU:∀n,k n≠.mt n->∃p,U n=some p) {done:List Nat}(qo:∀n∈done,∃p,U n=some p)(aK:∀n p,U n=some p->n∈done)(n:Nat)(t:Ty):(n,t)∈JQ U G k hd done↔k n≠.mt n/\t=pw (k n):=by
 have fq:∀p,G p=some ⟨2,⟨#[]⟩,n,[],none,false⟩->tv G k (hd p)=k n:=λp hp=>by
  rw[(S.GA ⟨.mt n,.mt [] p n hp,Jk n⟩).2,MG k (Tr.mt [] p n hp) (Jk n),Ge]
 unfold JQ;rw[Ct];constructor
 ·rintro⟨m,hm,e⟩
  injection e with e1 e2;subst e1;rw[Dp]at hm
  obtain⟨p,hp⟩:=qo m hm.1;have h2:=DB hm.2;rw[hp]at h2 e2;have h2:hd p≠p:=h2;have e2:pw (tv G k (hd p))=t:=e2;rcases rB m p hp with h|h
  ·exact⟨λhk=>h2 (S.Nu gs h hk),by rw[<-e2,fq p h]⟩
  ·exact absurd h.1 h2
 ·rintro⟨hk,rfl⟩
  obtain⟨p,hp⟩:=hU n hk;have hG:G p=some ⟨2,⟨#[]⟩,n,[],none,false⟩:=by
   rcases rB n p hp with h|h
   ·exact h
   ·exact absurd h.2 hk
  refine⟨n,Dp.2 ⟨aK n p hp,?_⟩,?_⟩
  ·rw[hp]
   exact CD λ(e:hd p=p)=>hk (S.un p n hG e)
  ·rw[hp]
   show(n,pw (tv G k (hd p)))=_;rw[fq p hG]
theorem zl2(S:F0 G L hd k [] O)(gs:L7 G)(rB:∀n p,U n=some p->G p=some ⟨2,⟨#[]⟩,n,[],none,false⟩\/(hd p=p/\k n=.mt n))(hU:∀n,k n≠.mt n->∃p,U n=some p) {done:List Nat}(hn:done.Nodup)(qo:∀n∈done,∃p,U n=some p)(aK:∀n p,U n=some p->n∈done) {l:List (Nat × Ty)}(hp:l.Perm (JQ U G k hd done))(hs:(l.map (·.1)).Pairwise (·<=·)):Told k l where
 up:=by
  have eJ:(l.map (·.1)).Nodup:=by
   refine(hp.map (·.1)).nodup_iff.2 ?_;unfold JQ;rw[DS];have:((λx:Nat × Ty=>x.1) ∘ λn=>(n,pw (tv G k (hd ((U n).getD 0)))))=id:=rfl;rw[this,List.map_id];exact hn.filter _
  exact(List.pairwise_and_iff.2 ⟨hs,eJ⟩).imp λh=>Nat.lt_of_le_of_ne h.1 h.2
 mem n t:=by rw[hp.mem_iff];exact znD S gs rB hU qo aK n t
end
theorem GM.IF {b mu mk B:Nat} {G:Nat->Option Nd} {U:Nat->Option Nat} {hd:Nat->Nat} {s:Int} {D:Nat->Dy} {mv v:Value} {k:Sb} {W:World}(h:GM b mu mk B G U hd s D mv v [] W):GN b mk W.heap.size v mv (.map (some mu)) (.int .i64 s) G k hd (λ_=>False) D W where
 sb:=h.sb
 kn:=h.kn
 pd:=h.pd
 fd q x hx hf:=by rw[h.fl q x hx]at hf;cases hf
 da:=h.da
 tt g hg:=hg.elim
 lb:=⟨h.sb.lt,by obtain⟨K,hK⟩:=h.kn;exact hK.mp.lt,λq x hx=>by obtain⟨_,_,hb,_⟩:=h.pd q x hx;exact hb.lt,λq x hx hn=>by
  obtain⟨_,_,_,hr⟩:=h.pd q x hx;obtain⟨_,cur,aa,_⟩:=hr hn;exact(BV.1 aa).1⟩
 ls:=BU _
def Rw(b mu mk r:Nat)(c0 c1 c4:Value)(G:Nat->Option Nd)(k:Sb)(hd:Nat->Nat)(U:Nat->Option Nat)(l:List (Nat × Nat))(W:World)(v3:Value)(wr:World):Prop :=
 ∃done T D vs,H_ IK wr mu r l done/\done.Nodup/\(∀n∈done,∃p,U n=some p)/\GN b mk W.heap.size c0 c1 (.map (some mu)) c4 G k hd T D wr/\wr.ownsRow W.heap.size 39 5 v3 (JQ U G k hd done).length vs/\m_ T wr (JQ U G k hd done) vs /\
  b_ (λg=>g=mk\/∃x,G g=some x) W wr
set_option maxRecDepth 100000
theorem zil:zql:=by
 intro b mu mk B G L U hd s D mv v k O W hw S gs rB hU mw;have q2:W.cell? ⟨b,2,none⟩=some (.map (some mu)):=hw.sb.cell 2;have a8:=hw.sb.lt;have HMI:Hid (d_ IK Lq W mu U):=EP hw.mi;have Bz:=EP (hw.IF (k:=k));have Bl:=EP hw.lq;have jg:=EP hw.mm;have HS:=EP S;have Uu:=EP gs;have Yf:=EP rB;have HU:=EP hU;have nj:=EP mw;have nU:Hid (mu<W.heap.size/\mk<W.heap.size):=EP ⟨(show d_ IK Lq W mu U from hw.mi).lt,by obtain⟨K,hK⟩:=hw.kn;exact hK.mp.lt⟩;obtain⟨i0,bK,cj,bS,bC⟩:=Dx Pe;clear hw S gs rB hU mw;go_in;go_wp2_with (first
  |(at_range;refine ziH _ rfl _ 82 rfl 3 75 underlying82 mu U rfl HMI.o ?_;intro w0 l qR oO qf oW gI)
  |go_in)
 have ZU:=EP qR;have qz:=EP oO;have xh:=EP qf;have pX:=EP oW;have HS0:=EP gI;clear qR oO qf oW gI q2;go_frame;go_loopw [3] (λv3 wr=>Rw b mu mk W.heap.size v mv (.int .i64 s) G k hd U l W v3 wr) (λ_ wr=>wr.rangeLeft mu W.heap.size)
 case atStart =>
  have mQ:∀g,g<W.heap.size->w0.heap[g]?=W.heap[g]?:=λg hg=>pX.o.block g hg (λe=>by cases e);refine⟨[],λ_=>False,D,[],ZU.o,Dr,(λ_ h=>by cases h),Bz.o.al mQ (λg hg=>hg.elim) (λx ⟨cs,hx⟩=>⟨cs,(mQ x (BV.1 hx).1).trans hx⟩) pX.o.size,CM _ _ _ _,?_,⟨pX.o.os,pX.o.tape,pX.o.output,pX.o.size,λg hg _=>mQ g hg⟩⟩;show m_ _ _ [] [];rw[m_]
 case round =>
  obtain⟨done,T,D1,vs,nH,wN,Xi,Xg,aj,cA,lT⟩:=hrel;have hlen:=znC HS.o.gr Yf.o nj.o wN Xi;have gU:=EP hlen;have HTT:Hid (∀g,T g->u3.ownBlock≠some g/\g<wr.heap.size):=EP (λg hg=>by
   obtain⟨_,cur,aa⟩:=Xg.tt g hg;refine⟨λe=>?_,(BV.1 aa).1⟩;obtain⟨_,_,ZG,eQ⟩:=s_ aj g e;rw[aa]at eQ;injection eQ with eQ;injection eQ with _ ht _;exact absurd ht (by decide))
  have Yj:=EP nH;have HDN:=EP wN;have HDU:=EP Xi;have xC:=EP Xg;have az:=EP aj;have rY:=EP cA;have p8:=EP lT;clear nH wN Xi Xg aj cA lT hlen;go_wp2_with (first
   |(at_next;refine zjy _ rfl _ rfl mu W.heap.size l done rfl Yj.o qz.o ?_ ?_)
   |go_in)
  ·intro aK
   have sj:=zq6 T W.heap.size (JQ U G k hd done) vs u3 wr az.o rY.o HTT.o (by have:=gU.o;omega);have AZ:=EP sj;have gy:=EP aK;clear sj aK;go_wp2_with fail;refine AZ.o.mono ?_;rintro e w2 ⟨rfl,l',Te,hp,hs,eW,fj,sT⟩;have HP:=EP hp;have HSO:=EP hs;have HO:=EP eW;have HK:=EP fj;have HC:=EP sT;clear hp hs eW fj sT;go_wp2_with fail;go_ret
   refine⟨_,l',T,rfl,⟨Te,HO.o,HK.o⟩,zl2 HS.o Uu.o Yf.o HU.o HDN.o HDU.o (λn p hn=>gy.o n p (zjw (by rw[<-xh.o];exact hn))) HP.o HSO.o,λg hg=>⟨(xC.o.tt g hg).1,Ci (HTT.o g hg).2 HC.o.size⟩,p8.o.trans' HC.o (λg hg e=>?_)⟩;have:=(s_ az.o g e).1;omega
  ·intro n p w1 qF eJ qQ ey aS aH zI
   unfold PK IK at zI ⊢;have Xu:U n=some p:=by rw[xh.o];exact zjx qz.o qF
   have bm:∀g,g<wr.heap.size->g≠W.heap.size->w1.heap[g]?=wr.heap[g]?:=λg hg hn=>aS.block g hg (λe=>hn (Dz e));have bj:∀(g:Nat) (cs:Array Value) (t:TypeId),wr.heap[g]?=some (.cells cs t (0,0))->w1.heap[g]?=wr.heap[g]?:=λg cs t hg=>bm g (BV.1 hg).1 (Yj.o.Kg hg).2;have oX:GN b mk W.heap.size v mv (.map (some mu)) (.int .i64 s) G k hd T D1 w1:=xC.o.al (λg hg=>bm g (Ci hg xC.o.ls) (by omega)) (λg hg=>by obtain⟨_,cur,aa⟩:=xC.o.tt g hg;exact bj g cur _ aa) (λx ⟨cs,hx⟩=>⟨cs,(bj x cs _ hx).trans hx⟩) (by omega);have mT:b_ (λg=>g=mk\/∃x,G g=some x) W w1:=p8.o.trans' ⟨aS.os,aS.tape,aS.output,aS.size,λg hg hn=>bm g hg hn⟩ (λg hg e=>by have e:g=W.heap.size:=e;omega);have jt:=GF az.o (λg hg=>by obtain⟨_,_,cur,aa⟩:=s_ az.o g hg;exact bj g cur _ aa);have za:m_ T w1 (JQ U G k hd done) vs:=rY.o.al (λ_ h=>h) (λg hg=>by obtain⟨_,cur,aa⟩:=xC.o.tt g hg;exact bj g cur _ aa) _ _;have uy:e_ w1 p:=by
    by_cases hG:∃x,G p=some x
    ·obtain⟨x,hx⟩:=hG
     exact(oX.pd p x hx).laid
    ·obtain⟨cs,hx⟩:=Bl.o n p Xu
     refine⟨cs,(mT.block p (BV.1 hx).1 (λe=>?_)).trans hx⟩;rcases e with e|e
     ·rw[e]at hx
      obtain⟨K,hK⟩:=Bz.o.kn;exact d_.no hK.mp hx
     ·exact hG e
   obtain⟨K1,fM⟩:=oX.kn;have jx:=R9 b mk K1 hd p w1 _ _ _ _ oX.sb fM uy;have ir:=EP jx;have kZ:=EP Xu;have Ys:=EP eJ;have rN:=EP qQ;have lA:=EP ey;have vQ:=EP oX;have pZ:=EP mT;have cP:=EP jt;have Bp:=EP za;have Bk:=EP uy;have me:=EP fM;clear Xu bm bj oX mT jt za uy fM jx qF eJ qQ ey aS aH Yj xC az rY p8;go_wp2_with fail;refine ir.o.mono ?_;rintro e w2 ⟨rfl,K2,bZ,cH,aZ,yU⟩;have yT:=Bk.o.iF me.o.mp cH;have hq:=zq7 yU yT;have rq:∀(g:Nat) (x:Obj),w1.heap[g]?=some x->g≠mk->w2.heap[g]?=w1.heap[g]?:=λg x hx hn=>cH.block g (BV.1 hx).1 (λe=>hn e);have qp:∀(g:Nat) (cs:Array Value) (t:TypeId),w1.heap[g]?=some (.cells cs t (0,0))->w2.heap[g]?=w1.heap[g]?:=λg cs t hg=>rq g _ hg (λe=>by rw[e]at hg;exact d_.no me.o.mp hg);have bL:w2.heap[mu]?=w1.heap[mu]?:=by
    obtain⟨es,_,_,_,_,h1,_⟩:=rN.o;exact rq mu _ h1 jg.o
   have cD:w2.heap[W.heap.size]?=w1.heap[W.heap.size]?:=by
    obtain⟨es,_,_,_,_,_,_,_,h1,_⟩:=rN.o;exact rq _ _ h1 (by have:=nU.o.2;omega)
   have ox:=rN.o.al bL cD;have ow:=Ws bL cD;have zD:=vQ.o.head cH ⟨K2,bZ⟩;have aL:=GF cP.o (λg hg=>by obtain⟨_,_,cur,aa⟩:=s_ cP.o g hg;exact qp g cur _ aa);have mP:m_ T w2 (JQ U G k hd done) vs:=Bp.o.al (λ_ h=>h) (λg hg=>by obtain⟨_,cur,aa⟩:=vQ.o.tt g hg;exact qp g cur _ aa) _ _;have pg:=pZ.o.trans' cH (λg _ e=>.inl e);have rT:Hid ((done++[n]).Nodup/\∀m∈done++[n],∃q,U m=some q):=EP (by
    refine⟨?_,λm hm=>?_⟩
    ·rw[DP]
     exact⟨HDN.o,by simp,λa ha c hc e=>Ys.o (by rw[Cx]at hc;rw[<-hc,<-e];exact ha)⟩
    ·rcases Cr.1 hm with hm|hm
     ·exact HDU.o m hm
     ·rw[Cx]at hm;rw[hm];exact⟨p,kZ.o⟩)
   have pM:=EP ox;have vA:=EP ow;have lB:=EP zD;have bB:=EP aL;have vM:=EP mP;have pY:=EP pg;clear bZ cH aZ yU yT rq qp bL cD ox ow zD aL mP pg ir rN vQ pZ cP Bp Bk me;by_cases ia:hd p=p
   ·rw[ia]at hq ⊢
    rw[CD rfl]at hq;have nT:=EP ia;clear ia;go_wp2_with fail;go_roundw
    case rel =>
     refine⟨done++[n],T,D1,vs,pM.o,rT.o.1,rT.o.2,lB.o,?_,?_,pY.o⟩
     ·rw[zg9 kZ.o nT.o];exact bB.o
     ·rw[zg9 kZ.o nT.o];exact vM.o
    case measure=>rw[vA.o];exact lA.o
   ·have hG:G p=some ⟨2,⟨#[]⟩,n,[],none,false⟩:=by
     rcases Yf.o n p kZ.o with h|h
     ·exact h
     ·exact absurd h.1 ia
    obtain⟨y,hy⟩:=HS.o.gr.Fw p _ hG;have hfv:=(HS.o.GA ⟨.mt n,.mt [] p n hG,Jk n⟩).1;have uH:=zny b mk W.heap.size (hd p) _ _ _ _ G L k hd T D1 O w2 lB.o HS.o hfv (HS.o.gr.IX p) y hy nj.o;rw[CF (λe=>ia e.symm)]at hq;have xj:=EP (znB (U:=U) (G:=G) (k:=k) (done:=done) kZ.o ia);obtain⟨t,ht⟩:∃t,pw (tv G k (hd p))=t:=⟨_,rfl⟩;obtain⟨h,hh⟩:∃h,hd p=h:=⟨_,rfl⟩;obtain⟨m,hm⟩:∃m,(JQ U G k hd done).length=m:=⟨_,rfl⟩;have dI:m+1<=2000000000000:=by rw[<-hm];exact gU.o
    have HM:=EP hm;have aL:=bB.o;rw[hm]at aL;rw[hh]at hq uH ⊢;rw[ht]at xj;have HT:=EP (show pw (tv G k h)=t by rw[<-hh];exact ht);obtain⟨A3,a3,rfl⟩:=GS aL;have cS:=EP aL;have mj:=EP uH;clear hG hy hfv uH ia ht hh hm aL bB;go_wp2_with fail;refine mj.o.mono ?_;rintro e w3 ⟨v7,T',D',rfl,⟨A7,c7,rfl,Xs⟩,OS,mX,kQ⟩;rw[HT.o]at Xs ⊢;have uM:∀(g:Nat) (cs:Array Value) (ty:TypeId),w2.heap[g]?=some (.cells cs ty (0,0))->ty≠132->w3.heap[g]?=w2.heap[g]?:=λg cs ty hg hn=>kQ.block g (BV.1 hg).1 (λe=>by
     rcases e with e|⟨x,hx⟩
     ·obtain⟨K,hK⟩:=lB.o.kn
      rw[e]at hg;exact d_.no hK.mp hg
     ·obtain⟨_,_,hb,_⟩:=lB.o.pd g x hx
      have hb:w2.heap[g]?=some _:=hb;rw[hg]at hb;injection hb with hb;injection hb with _ hb _;exact hn hb)
    have oI:∀(g:Nat),g=mu\/g=W.heap.size->w3.heap[g]?=w2.heap[g]?:=λg hg=>by
     have hl:=pM.o.lt;refine kQ.block g (by rcases hg with e|e <;> omega) (λe=>?_);rcases e with e|⟨x,hx⟩
     ·rcases hg with e'|e'
      ·exact jg.o (e'.symm.trans e)
      ·have:=nU.o.2;omega
     ·obtain⟨_,_,hb,_⟩:=lB.o.pd g x hx
      have:=pM.o.Kg hb;rcases hg with e'|e'
      ·exact this.1 e'
      ·exact this.2 e'
    have yo:=pM.o.al (oI mu (.inl rfl)) (oI _ (.inr rfl));have yn:=(Ws (oI mu (.inl rfl)) (oI _ (.inr rfl))).trans vA.o;have an:=GF cS.o (λg hg=>by obtain⟨_,_,cur,aa⟩:=s_ cS.o g hg;exact uM g cur _ aa (by decide));have y9:m_ T' w3 (JQ U G k hd done) vs:=vM.o.al mX (λg hg=>by obtain⟨_,cur,aa⟩:=lB.o.tt g hg;exact uM g cur _ aa (by decide)) _ _;have pc:=pY.o.trans' kQ (λg _ e=>e);obtain⟨k7,qi⟩:∃x:Int,((kd t:Nat):Int)=x:=⟨_,rfl⟩;obtain⟨x7,WD⟩:∃x,ER t=x:=⟨_,rfl⟩;obtain⟨z7,WA⟩:∃x:Int,((nn t:Nat):Int)=x:=⟨_,rfl⟩;obtain⟨n7,wD⟩:∃x,(kids t).length=x:=⟨_,rfl⟩;have HTV:Hid (KW n t A7 c7=[.int .i64 (n:Nat),.int .i64 k7,.string x7,.int .i64 z7,.slice A7 n7 c7]):=EP (by unfold KW Hx;rw[qi,WD,WA,wD]);rw[qi,WD,WA,wD];have YO:=EP Xs;have r7:=EP OS;have gu:=EP mX;have vB:=EP yo;have ZS:=EP yn;have dZ:=EP an;have xu:=EP (an.alloc (.cells #[.int .i64 (n:Nat),.int .i64 k7,.string x7,.int .i64 z7,.slice A7 n7 c7] 39));have aaa:=EP y9;have vS:=EP pc;have xx:Hid (W.heap.size<=w3.heap.size):=EP OS.ls;clear Xs OS mX kQ uM oI yo yn an y9 pc qi WD WA wD HT mj pM vA lB vM pY cS;go_wp2_with (at_builtin;refine C7 _ rfl (.tmp 23) (.tmp 29) 28 rfl W.heap.size 39 i0 _ 5 64 underlying28 bK cj bS bC rfl (by decide) _ m vs rfl xu.o ⟨w3.heap.size,0,none⟩ 1 1 [.int .i64 (n:Nat),.int .i64 k7,.string x7,.int .i64 z7,.slice A7 n7 c7] rfl rfl (Iz _ _ _ _ (by simp)) (by intro u hu;simp at hu;rcases hu with rfl|rfl|rfl|rfl|rfl <;> rfl) (by unfold maxLen;omega) (by omega) (by have:=xx.o;simp;omega) ?_;intro v5 w5 eO ae _ Zv;obtain⟨A5,a5,rfl⟩:=GS eO;have pR:=EP eO;have xA:=EP ae;clear eO ae Zv);have HR:Hid (Rw b mu mk W.heap.size v mv (.int .i64 s) G k hd U l W (.slice A5 (m+1) a5) w5/\w5.rangeLeft mu W.heap.size=w1.rangeLeft mu W.heap.size):=EP (by
     have aM:∀g,g<w3.heap.size->some g≠(Value.slice A3 m a3).ownBlock->w5.heap[g]?=w3.heap[g]?:=λg hg hn=>(xA.o.block g (by simp;omega) hn).trans (BX _ _ _ hg);have bE:∀(g:Nat) (cs:Array Value) (ty:TypeId),w3.heap[g]?=some (.cells cs ty (0,0))->ty≠39->w5.heap[g]?=w3.heap[g]?:=λg cs ty hg hn=>aM g (BV.1 hg).1 (λe=>by
      obtain⟨_,_,cur,aa⟩:=s_ dZ.o g e.symm;rw[hg]at aa;injection aa with aa;injection aa with _ aa _;exact hn aa)
     have qW:∀(g:Nat),g=mu\/g=W.heap.size->w5.heap[g]?=w3.heap[g]?:=λg hg=>by
      have hl:=vB.o.lt;refine aM g (by rcases hg with e|e <;> omega) (λe=>?_);obtain⟨_,_,cur,aa⟩:=s_ dZ.o g e.symm;have:=vB.o.Kg aa;rcases hg with e'|e'
      ·exact this.1 e'
      ·exact this.2 e'
     have eI:w3.heap.size<=w5.heap.size:=by have:=xA.o.size;simp at this;omega
     have Zo:GN b mk W.heap.size v mv (.map (some mu)) (.int .i64 s) G k hd T' D' w5:=r7.o.al (λg hg=>aM g (by have:=xx.o;omega) (λe=>by have:=(s_ dZ.o g e.symm).1;omega)) (λg hg=>by obtain⟨_,cur,aa⟩:=r7.o.tt g hg;exact bE g cur _ aa (by decide)) (λx ⟨cs,hx⟩=>⟨cs,(bE x cs _ hx (by decide)).trans hx⟩) eI;refine⟨⟨done++[n],T',D',vs++KW n t A7 c7,vB.o.al (qW mu (.inl rfl)) (qW _ (.inr rfl)),rT.o.1,rT.o.2,Zo,?_,?_,?_⟩,(Ws (qW mu (.inl rfl)) (qW _ (.inr rfl))).trans ZS.o⟩
     ·rw[xj.o,Cb,HM.o,HTV.o];exact pR.o
     ·rw[xj.o]
      refine m_.snoc (aaa.o.al (λ_ h=>h) (λg hg=>by obtain⟨_,cur,aa⟩:=r7.o.tt g hg;exact bE g cur _ aa (by decide)) _ _) (YO.o.al (λ_ h=>h) (λg hg=>by obtain⟨_,cur,aa⟩:=r7.o.tt g hg;exact bE g cur _ aa (by decide)))
     ·refine vS.o.trans' (M1:=λg=>(Value.slice A3 m a3).ownBlock=some g) ⟨xA.o.os,xA.o.tape,xA.o.output,eI,λg hg hn=>aM g hg (λe=>hn e.symm)⟩ (λg hg e=>?_)
      have:=(s_ dZ.o g e).1;omega)
    clear xu pR xA dZ;go_roundw;case rel=>exact HR.o.1
    case measure=>rw[HR.o.2];exact lA.o
end
end Go.Proofs.YtfafilmklhnngaaGreatDoor
