import Derived.Test.YtfafilmklhnngaaGreatDoorBkAM
import Derived.Test.YtfafilmklhnngaaGreatDoorBkC
set_option maxHeartbeats 12800000
namespace Go.Proofs.YtfafilmklhnngaaGreatDoor
open Go.RowKit Go.Shelf Lx Tx Go.Maps Go.WideMaps
set_option maxRecDepth 100000
theorem zpz {w:World} {q u:Nat}(hq:LaidQ w q)(hu:LaidQ w u):(binOp BinOp.neq 75 (.pointer (some ⟨q,0,none⟩)) (.pointer (some ⟨u,0,none⟩))).run Tryz.prog w=.ok (.bool (!decide (u=q))) w:=by
 obtain⟨j,hj,hs⟩:∃j,Tryz.prog.info? 132=some j/\j.size≠0:=by
  cases h:Tryz.prog.info? 132 with
  |none=>have:=infoPart;rw[h]at this;cases this
  |some j=>have:=infoPart;rw[h]at this;exact⟨j,rfl,by simp at this;omega⟩
 obtain⟨cq,hq⟩:=hq;obtain⟨cu,hu⟩:=hu;have h:=zhA (P:=Tryz.prog) (w:=w) Tryz.underlying75 hj hs q u ⟨cq,_,hq⟩ ⟨cu,_,hu⟩;unfold PK at h;simp only[binOp];simp[h,Result.andThen]
theorem infoKn:(Tryz.prog.info? 39).map (λi=>(i.zero,i.size,i.bytes))=some (some (.agg #[.int .i64 0,.int .i64 0,.string ⟨#[]⟩,.int .i64 0,.slice none 0 0]),5,64):=by kernel_rfl
section
variable {G:Nat->Option Nd} {L:List Nat} {hd:Nat->Nat} {k:Sb} {O:List Nat} {U:Nat->Option Nat}
noncomputable def zbg (U:Nat->Option Nat)(G:Nat->Option Nd)(k:Sb)(hd:Nat->Nat)(done:List Nat):List (Nat × Ty) :=
 (done.filter λn=>decide (hd ((U n).getD 0)≠(U n).getD 0)).map λn=>(n,toTy (tv G k (hd ((U n).getD 0))))
theorem zmA {done:List Nat} {n p:Nat}(hn:U n=some p)(hp:hd p≠p):zbg U G k hd (done++[n])=zbg U G k hd done++[(n,toTy (tv G k (hd p)))]:=by
 unfold zbg;rw[Ct,Bl]
 simp[hn,hp]
theorem zgn {done:List Nat} {n p:Nat}(hn:U n=some p)(hp:hd p=p):zbg U G k hd (done++[n])=zbg U G k hd done:=by
 unfold zbg;rw[Ct]
 simp[hn,hp]
theorem zmB(hg:Gr G hd L)(qb:∀n p,U n=some p->G p=some ⟨2,⟨#[]⟩,n,[],none,false⟩\/(hd p=p/\k n=.mt n))(hw:1+wg G [] L<=1000000) {done:List Nat}(hn:done.Nodup)(oJ:∀n∈done,∃p,U n=some p):(zbg U G k hd done).length+1<=1000000:=by
 obtain⟨F,hF⟩:∃F,done.filter (λn=>decide (hd ((U n).getD 0)≠(U n).getD 0))=F:=⟨_,rfl⟩;have hm:∀n∈F,∃p,U n=some p/\G p=some ⟨2,⟨#[]⟩,n,[],none,false⟩:=λn sE=>by
  rw[<-hF,Ca]at sE
  obtain⟨p,hp⟩:=oJ n sE.1;have h2:=Cj sE.2;rw[hp]at h2
  rcases qb n p hp with h|h
  ·exact⟨p,hp,h⟩
  ·exact absurd h.1 h2
 have hFn:F.Nodup:=by rw[<-hF];exact hn.filter _
 have hM:(F.map λn=>(U n).getD 0).Nodup:=by
  show List.Pairwise _ _;rw[List.pairwise_map]
  refine List.Pairwise.imp_of_mem (fun {a c} ha hc af e=>af ?_) hFn;obtain⟨p,h1,h2⟩:=hm a ha;obtain⟨q,h3,h4⟩:=hm c hc;rw[h1,h3]at e
  have e:p=q:=e;rw[e,h4]at h2
  injection h2 with h2;injection h2 with _ _ h2;exact h2.symm
 have kE:=zgz (G:=G) (L:=L) (F.map λn=>(U n).getD 0) [] hM (λq hq=>by
  obtain⟨n,sE,rfl⟩:=AM.1 hq;obtain⟨p,h1,h2⟩:=hm n sE;rw[h1]
  exact⟨hg.all p _ h2,_,h2⟩) (λq _=>by simp)
 have hsum:∀l:List Nat,(∀q∈l,∃x,G q=some x)->l.length<=(l.map (ndW G)).sum:=λl=>by
  induction l with
  |nil=>intro _;exact Ai _
  |cons q l ih =>
   intro h;obtain⟨x,hx⟩:=h q (by simp);have:=ih λz hz=>h z (by simp[hz]);have hq:ndW G q=x.kids.length+1:=by unfold ndW;rw[hx]
   rw[AH,BY,Ao]
   omega
 have h1:=hsum (F.map λn=>(U n).getD 0) (λq hq=>by
  obtain⟨n,sE,rfl⟩:=AM.1 hq;obtain⟨p,h1,h2⟩:=hm n sE;rw[h1]
  exact⟨_,h2⟩)
 have h2:(zbg U G k hd done).length=F.length:=by unfold zbg;rw[hF,AR]
 rw[AR]at h1
 omega
theorem HdS.mt_root(S:HdS G L hd k [] O)(gs:GrS G) {p n:Nat}(hp:G p=some ⟨2,⟨#[]⟩,n,[],none,false⟩)(hk:k n=.mt n):hd p=p:=by
 have hF:FV G p:=⟨.mt n,.mt [] p n hp,za5 n⟩;obtain⟨⟨d,h1,h2⟩,h3⟩:=S.fv_head hF;rw[zcD k (Tr.mt [] p n hp) (za5 n),zaz,hk,zcD k h1 h2]at h3
 cases d with
 |fv x=>rw[zbt]at h3;cases h3
 |bv i=>exact absurd h2 (zaL i)
 |con c l=>rw[za9]at h3;cases h3
 |fn a b=>rw[zbp]at h3;cases h3
 |all t=>rw[zaJ]at h3;cases h3
 |mt m =>
  rw[zaz]at h3
  have hG:G (hd p)=some ⟨2,⟨#[]⟩,m,[],none,false⟩:=by
   generalize kN:([]:List Nat)=ns at h1;cases h1 with
   |mt _ _ _ h=>exact h
   |app _ _ _ _ _ ha=>simp[App,kdD]at ha
  have hm:=S.un _ m hG (S.gr.idm p);rw[hm]at h3
  injection h3 with h3;rw[h3]at hG
  exact gs.uu _ _ n hG hp
theorem zmC(S:HdS G L hd k [] O)(gs:GrS G)(qb:∀n p,U n=some p->G p=some ⟨2,⟨#[]⟩,n,[],none,false⟩\/(hd p=p/\k n=.mt n))(hU:∀n,k n≠.mt n->∃p,U n=some p) {done:List Nat}(oJ:∀n∈done,∃p,U n=some p)(aL:∀n p,U n=some p->n∈done)(n:Nat)(t:Ty):(n,t)∈zbg U G k hd done↔k n≠.mt n/\t=toTy (k n):=by
 have mw:∀p,G p=some ⟨2,⟨#[]⟩,n,[],none,false⟩->tv G k (hd p)=k n:=λp hp=>by
  rw[(S.fv_head ⟨.mt n,.mt [] p n hp,za5 n⟩).2,zcD k (Tr.mt [] p n hp) (za5 n),zaz]
 unfold zbg;rw[AM]
 constructor
 ·rintro⟨m,hm,e⟩
  injection e with e1 e2;subst e1;rw[Ca]at hm
  obtain⟨p,hp⟩:=oJ m hm.1;have h2:=Cj hm.2;rw[hp]at h2 e2
  have h2:hd p≠p:=h2;have e2:toTy (tv G k (hd p))=t:=e2;rcases qb m p hp with h|h
  ·exact⟨λhk=>h2 (S.mt_root gs h hk),by rw[<-e2,mw p h]⟩
  ·exact absurd h.1 h2
 ·rintro⟨hk,rfl⟩
  obtain⟨p,hp⟩:=hU n hk;have hG:G p=some ⟨2,⟨#[]⟩,n,[],none,false⟩:=by
   rcases qb n p hp with h|h
   ·exact h
   ·exact absurd h.2 hk
  refine⟨n,Ca.2 ⟨aL n p hp,?_⟩,?_⟩
  ·rw[hp]
   exact AN λ(e:hd p=p)=>hk (S.un p n hG e)
  ·rw[hp]
   show(n,toTy (tv G k (hd p)))=_;rw[mw p hG]
theorem zk5(S:HdS G L hd k [] O)(gs:GrS G)(qb:∀n p,U n=some p->G p=some ⟨2,⟨#[]⟩,n,[],none,false⟩\/(hd p=p/\k n=.mt n))(hU:∀n,k n≠.mt n->∃p,U n=some p) {done:List Nat}(hn:done.Nodup)(oJ:∀n∈done,∃p,U n=some p)(aL:∀n p,U n=some p->n∈done) {l:List (Nat × Ty)}(hp:l.Perm (zbg U G k hd done))(hs:(l.map (·.1)).Pairwise (·<=·)):Told k l where
 up:=by
  have dQ:(l.map (·.1)).Nodup:=by
   refine(hp.map (·.1)).nodup_iff.2 ?_;unfold zbg;rw[Cc]
   have:((λx:Nat × Ty=>x.1) ∘ λn=>(n,toTy (tv G k (hd ((U n).getD 0)))))=id:=rfl;rw[this,List.map_id]
   exact hn.filter _
  exact(List.pairwise_and_iff.2 ⟨hs,dQ⟩).imp λh=>Nat.lt_of_le_of_ne h.1 h.2
 mem n t:=by rw[hp.mem_iff];exact zmC S gs qb hU oJ aL n t
end
theorem SolW.fil {b mu mk B:Nat} {G:Nat->Option Nd} {U:Nat->Option Nat} {hd:Nat->Nat} {s:Int} {D:Nat->Dy} {mv v:Value} {k:Sb} {W:World}(h:SolW b mu mk B G U hd s D mv v [] W):FilM b mk W.heap.size v mv (.map (some mu)) (.int .i64 s) G k hd (λ_=>False) D W where
 sb:=h.sb
 kn:=h.kn
 pd:=h.pd
 fd q x hx hf:=by rw[h.fl q x hx]at hf;cases hf
 da:=h.da
 tt g hg:=hg.elim
 lb:=⟨h.sb.lt,by obtain⟨K,hK⟩:=h.kn;exact hK.mp.lt,λq x hx=>by obtain⟨_,_,hb,_⟩:=h.pd q x hx;exact hb.lt,λq x hx hn=>by
  obtain⟨_,_,_,hr⟩:=h.pd q x hx;obtain⟨_,cur,aa,_⟩:=hr hn;exact(Aj.1 aa).1⟩
 ls:=Ai _
def AnsR(b mu mk r:Nat)(c0 c1 c4:Value)(G:Nat->Option Nd)(k:Sb)(hd:Nat->Nat)(U:Nat->Option Nat)(l:List (Nat × Nat))(W:World)(v3:Value)(wr:World):Prop :=
 ∃done T D vs,RngK IK wr mu r l done/\done.Nodup/\(∀n∈done,∃p,U n=some p)/\FilM b mk W.heap.size c0 c1 (.map (some mu)) c4 G k hd T D wr/\wr.ownsRow W.heap.size 39 5 v3 (zbg U G k hd done).length vs/\KnRow T wr (zbg U G k hd done) vs /\
  Chg (λg=>g=mk\/∃x,G g=some x) W wr
set_option maxRecDepth 100000
theorem zhD:zoN:=by
 intro b mu mk B G L U hd s D mv v k O W hw S gs qb hU kz;have q2:W.cell? ⟨b,2,none⟩=some (.map (some mu)):=hw.sb.cell 2;have bJ:=hw.sb.lt;have HMI:Hid (MapK IK okT W mu U):=CS hw.mi;have zP:=CS (hw.fil (k:=k));have zF:=CS hw.lq;have jE:=CS hw.mm;have HS:=CS S;have HGS:=CS gs;have HUG:=CS qb;have HU:=CS hU;have lH:=CS kz;have HML:Hid (mu<W.heap.size/\mk<W.heap.size):=CS ⟨(show MapK IK okT W mu U from hw.mi).lt,by obtain⟨K,hK⟩:=hw.kn;exact hK.mp.lt⟩;obtain⟨i0,bm,bO,bD,bj⟩:=info_parts infoKn;clear hw S gs qb hU kz;go_enter Tryz.func37,Tryz.ntmps37
 go_wp2_with (first
  |(at_range;refine zhV _ rfl _ 82 rfl 3 75 Tryz.underlying82 mu U rfl HMI.out ?_;intro w0 l wO kS hul uY fP)
  |go_in)
 have HRG0:=CS wO;have lK:=CS kS;have HUL:=CS hul;have oo:=CS uY;have HS0:=CS fP;clear wO kS hul uY fP q2;go_frame
 go_loopw [3] (λv3 wr=>AnsR b mu mk W.heap.size v mv (.int .i64 s) G k hd U l W v3 wr) (λ_ wr=>wr.rangeLeft mu W.heap.size)
 case atStart =>
  have kX:∀g,g<W.heap.size->w0.heap[g]?=W.heap[g]?:=λg hg=>oo.out.block g hg (λe=>by cases e);refine⟨[],λ_=>False,D,[],HRG0.out,Bw,(λ_ h=>by cases h),zP.out.keep kX (λg hg=>hg.elim) (λx ⟨cs,hx⟩=>⟨cs,(kX x (Aj.1 hx).1).trans hx⟩) oo.out.size,World.ownsRow_nil _ _ _ _,?_,⟨oo.out.os,oo.out.tape,oo.out.output,oo.out.size,λg hg _=>kX g hg⟩⟩;show KnRow _ _ [] [];rw[KnRow]
 case round =>
  obtain⟨done,T,D1,vs,pC,uZ,hdu,hfm,ai,bW,nE⟩:=hrel;have hlen:=zmB HS.out.gr HUG.out lH.out uZ hdu;have dU:=CS hlen;have HTT:Hid (∀g,T g->u3.ownBlock≠some g/\g<wr.heap.size):=CS (λg hg=>by
   obtain⟨_,cur,aa⟩:=hfm.tt g hg;refine⟨λe=>?_,(Aj.1 aa).1⟩;obtain⟨_,_,cur2,dR⟩:=zab ai g e;rw[aa]at dR
   injection dR with dR;injection dR with _ ht _;exact absurd ht (by decide))
  have HRG:=CS pC;have HDN:=CS uZ;have HDU:=CS hdu;have vJ:=CS hfm;have ay:=CS ai;have qx:=CS bW;have ov:=CS nE;clear pC uZ hdu hfm ai bW nE hlen;go_wp2_with (first
   |(at_next;refine ziP _ rfl _ rfl mu W.heap.size l done rfl HRG.out lK.out ?_ ?_)
   |go_in)
  ·intro aL
   have qL:=zpy T W.heap.size (zbg U G k hd done) vs u3 wr ay.out qx.out HTT.out (by have:=dU.out;omega);have zi:=CS qL;have eG:=CS aL;clear qL aL;go_wp2_with fail
   refine zi.out.mono ?_;rintro e w2 ⟨rfl,l',vs',hp,hs,et,fV,rB⟩;have HP:=CS hp;have HSO:=CS hs;have HO:=CS et;have HK:=CS fV;have HC:=CS rB;clear hp hs et fV rB;go_wp2_with fail
   go_ret
   refine⟨_,l',T,rfl,⟨vs',HO.out,HK.out⟩,zk5 HS.out HGS.out HUG.out HU.out HDN.out HDU.out (λn p hn=>eG.out n p (ziN (by rw[<-HUL.out];exact hn))) HP.out HSO.out,λg hg=>⟨(vJ.out.tt g hg).1,As (HTT.out g hg).2 HC.out.size⟩,ov.out.trans' HC.out (λg hg e=>?_)⟩;have:=(zab ay.out g e).1;omega
  ·intro n p w1 oZ dQ kI eK aY aF hen
   unfold PK IK at hen ⊢;have hUn:U n=some p:=by rw[HUL.out];exact ziO lK.out oZ
   have bE:∀g,g<wr.heap.size->g≠W.heap.size->w1.heap[g]?=wr.heap[g]?:=λg hg hn=>aY.block g hg (λe=>hn (CG e));have bc:∀(g:Nat) (cs:Array Value) (t:TypeId),wr.heap[g]?=some (.cells cs t (0,0))->w1.heap[g]?=wr.heap[g]?:=λg cs t hg=>bE g (Aj.1 hg).1 (HRG.out.noCells hg).2;have nk:FilM b mk W.heap.size v mv (.map (some mu)) (.int .i64 s) G k hd T D1 w1:=vJ.out.keep (λg hg=>bE g (As hg vJ.out.ls) (by omega)) (λg hg=>by obtain⟨_,cur,aa⟩:=vJ.out.tt g hg;exact bc g cur _ aa) (λx ⟨cs,hx⟩=>⟨cs,(bc x cs _ hx).trans hx⟩) (by omega);have lg:Chg (λg=>g=mk\/∃x,G g=some x) W w1:=ov.out.trans' ⟨aY.os,aY.tape,aY.output,aY.size,λg hg hn=>bE g hg hn⟩ (λg hg e=>by have e:g=W.heap.size:=e;omega);have gV:=zan ay.out (λg hg=>by obtain⟨_,_,cur,aa⟩:=zab ay.out g hg;exact bc g cur _ aa);have xy:KnRow T w1 (zbg U G k hd done) vs:=qx.out.keep (λ_ h=>h) (λg hg=>by obtain⟨_,cur,aa⟩:=vJ.out.tt g hg;exact bc g cur _ aa) _ _;have sT:LaidQ w1 p:=by
    by_cases hG:∃x,G p=some x
    ·obtain⟨x,hx⟩:=hG
     exact(nk.pd p x hx).laid
    ·obtain⟨cs,hx⟩:=zF.out n p hUn
     refine⟨cs,(lg.block p (Aj.1 hx).1 (λe=>?_)).trans hx⟩;rcases e with e|e
     ·rw[e]at hx
      obtain⟨K,hK⟩:=zP.out.kn;exact MapK.no hK.mp hx
     ·exact hG e
   obtain⟨K1,gO⟩:=nk.kn;have ij:=zfe b mk K1 hd p w1 _ _ _ _ nk.sb gO sT;have fZ:=CS ij;have tJ:=CS hUn;have HND:=CS dQ;have nX:=CS kI;have zD:=CS eK;have uq:=CS nk;have ou:=CS lg;have cE:=CS gV;have zL:=CS xy;have zE:=CS sT;have oj:=CS gO;clear hUn bE bc nk lg gV xy sT gO ij oZ dQ kI eK aY aF HRG vJ ay qx ov;go_wp2_with fail
   refine fZ.out.mono ?_;rintro e w2 ⟨rfl,K2,cC,cw,bk,xr⟩;have xq:=zE.out.chg oj.out.mp cw;have hq:=zpz xr xq;have pW:∀(g:Nat) (x:Obj),w1.heap[g]?=some x->g≠mk->w2.heap[g]?=w1.heap[g]?:=λg x hx hn=>cw.block g (Aj.1 hx).1 (λe=>hn e);have oK:∀(g:Nat) (cs:Array Value) (t:TypeId),w1.heap[g]?=some (.cells cs t (0,0))->w2.heap[g]?=w1.heap[g]?:=λg cs t hg=>pW g _ hg (λe=>by rw[e]at hg;exact MapK.no oj.out.mp hg);have cB:w2.heap[mu]?=w1.heap[mu]?:=by
    obtain⟨es,_,_,_,_,h1,_⟩:=nX.out;exact pW mu _ h1 jE.out
   have cR:w2.heap[W.heap.size]?=w1.heap[W.heap.size]?:=by
    obtain⟨es,_,_,_,_,_,_,_,h1,_⟩:=nX.out;exact pW _ _ h1 (by have:=HML.out.2;omega)
   have pB:=nX.out.keep cB cR;have mE:=zcs cB cR;have xN:=uq.out.head cw ⟨K2,cC⟩;have aM:=zan cE.out (λg hg=>by obtain⟨_,_,cur,aa⟩:=zab cE.out g hg;exact oK g cur _ aa);have kW:KnRow T w2 (zbg U G k hd done) vs:=zL.out.keep (λ_ h=>h) (λg hg=>by obtain⟨_,cur,aa⟩:=uq.out.tt g hg;exact oK g cur _ aa) _ _;have nD:=ou.out.trans' cw (λg _ e=>.inl e);have qu:Hid ((done++[n]).Nodup/\∀m∈done++[n],∃q,U m=some q):=CS (by
    refine⟨?_,λm hm=>?_⟩
    ·rw[BL]
     exact⟨HDN.out,by simp,λa ha c hc e=>HND.out (by rw[AJ]at hc;rw[<-hc,<-e];exact ha)⟩
    ·rcases AA.1 hm with hm|hm
     ·exact HDU.out m hm
     ·rw[AJ]at hm;rw[hm];exact⟨p,tJ.out⟩)
   have nW:=CS pB;have tS:=CS mE;have jF:=CS xN;have bp:=CS aM;have uj:=CS kW;have ot:=CS nD;clear cC cw bk xr xq pW oK cB cR pB mE xN aM kW nD fZ nX uq ou cE zL zE oj;by_cases fR:hd p=p
   ·rw[fR]at hq ⊢
    rw[AN rfl]at hq
    have j9:=CS fR;clear fR;go_wp2_with fail
    go_roundw
    case rel =>
     refine⟨done++[n],T,D1,vs,nW.out,qu.out.1,qu.out.2,jF.out,?_,?_,ot.out⟩
     ·rw[zgn tJ.out j9.out];exact bp.out
     ·rw[zgn tJ.out j9.out];exact uj.out
    case measure=>rw[tS.out];exact zD.out
   ·have hG:G p=some ⟨2,⟨#[]⟩,n,[],none,false⟩:=by
     rcases HUG.out n p tJ.out with h|h
     ·exact h
     ·exact absurd h.1 fR
    obtain⟨y,hy⟩:=HS.out.gr.hin p _ hG;have hfv:=(HS.out.fv_head ⟨.mt n,.mt [] p n hG,za5 n⟩).1;have lf:=zmx b mk W.heap.size (hd p) _ _ _ _ G L k hd T D1 O w2 jF.out HS.out hfv (HS.out.gr.idm p) y hy lH.out;rw[AQ (λe=>fR e.symm)]at hq
    have vA:=CS (zmA (U:=U) (G:=G) (k:=k) (done:=done) tJ.out fR);obtain⟨t,ht⟩:∃t,toTy (tv G k (hd p))=t:=⟨_,rfl⟩;obtain⟨h,hh⟩:∃h,hd p=h:=⟨_,rfl⟩;obtain⟨m,hm⟩:∃m,(zbg U G k hd done).length=m:=⟨_,rfl⟩;have dZ:m+1<=1000000:=by rw[<-hm];exact dU.out
    have HM:=CS hm;have aM:=bp.out;rw[hm]at aM
    rw[hh]at hq lf ⊢
    rw[ht]at vA
    have HT:=CS (show toTy (tv G k h)=t by rw[<-hh];exact ht);obtain⟨A3,a3,rfl⟩:=zam aM;have cG:=CS aM;have km:=CS lf;clear hG hy hfv lf fR ht hh hm aM bp;go_wp2_with fail
    refine km.out.mono ?_;rintro e w3 ⟨v7,T',D',rfl,⟨A7,c7,rfl,ha7⟩,hfm3,lC,jX⟩;rw[HT.out]at ha7 ⊢
    have tb:∀(g:Nat) (cs:Array Value) (ty:TypeId),w2.heap[g]?=some (.cells cs ty (0,0))->ty≠132->w3.heap[g]?=w2.heap[g]?:=λg cs ty hg hn=>jX.block g (Aj.1 hg).1 (λe=>by
     rcases e with e|⟨x,hx⟩
     ·obtain⟨K,hK⟩:=jF.out.kn
      rw[e]at hg
      exact MapK.no hK.mp hg
     ·obtain⟨_,_,hb,_⟩:=jF.out.pd g x hx
      have hb:w2.heap[g]?=some _:=hb;rw[hg]at hb
      injection hb with hb;injection hb with _ hb _;exact hn hb)
    have mQ:∀(g:Nat),g=mu\/g=W.heap.size->w3.heap[g]?=w2.heap[g]?:=λg hg=>by
     have hl:=nW.out.lt;refine jX.block g (by rcases hg with e|e <;> omega) (λe=>?_);rcases e with e|⟨x,hx⟩
     ·rcases hg with e'|e'
      ·exact jE.out (e'.symm.trans e)
      ·have:=HML.out.2;omega
     ·obtain⟨_,_,hb,_⟩:=jF.out.pd g x hx
      have:=nW.out.noCells hb;rcases hg with e'|e'
      ·exact this.1 e'
      ·exact this.2 e'
    have mF:=nW.out.keep (mQ mu (.inl rfl)) (mQ _ (.inr rfl));have wM:=(zcs (mQ mu (.inl rfl)) (mQ _ (.inr rfl))).trans tS.out;have aj:=zan cG.out (λg hg=>by obtain⟨_,_,cur,aa⟩:=zab cG.out g hg;exact tb g cur _ aa (by decide));have xx:KnRow T' w3 (zbg U G k hd done) vs:=uj.out.keep lC (λg hg=>by obtain⟨_,cur,aa⟩:=jF.out.tt g hg;exact tb g cur _ aa (by decide)) _ _;have nC:=ot.out.trans' jX (λg _ e=>e);obtain⟨k7,oF⟩:∃x:Int,((kd t:Nat):Int)=x:=⟨_,rfl⟩;obtain⟨x7,hx7⟩:∃x,nmB t=x:=⟨_,rfl⟩;obtain⟨z7,hz7⟩:∃x:Int,((nn t:Nat):Int)=x:=⟨_,rfl⟩;obtain⟨n7,xg⟩:∃x,(kids t).length=x:=⟨_,rfl⟩;have HTV:Hid (knV n t A7 c7=[.int .i64 (n:Nat),.int .i64 k7,.string x7,.int .i64 z7,.slice A7 n7 c7]):=CS (by unfold knV tyV;rw[oF,hx7,hz7,xg]);rw[oF,hx7,hz7,xg]
    have HA7:=CS ha7;have qz:=CS hfm3;have eR:=CS lC;have tT:=CS mF;have HRL3:=CS wM;have cV:=CS aj;have vD:=CS (aj.alloc (.cells #[.int .i64 (n:Nat),.int .i64 k7,.string x7,.int .i64 z7,.slice A7 n7 c7] 39));have HKN3:=CS xx;have uw:=CS nC;have vG:Hid (W.heap.size<=w3.heap.size):=CS hfm3.ls;clear ha7 hfm3 lC jX tb mQ mF wM aj xx nC oF hx7 hz7 xg HT km nW tS jF uj ot cG;go_wp2_with (at_builtin;refine wpList_append_own_at _ rfl (.tmp 23) (.tmp 29) 28 rfl W.heap.size 39 i0 _ 5 64 Tryz.underlying28 bm bO bD bj rfl (by decide) _ m vs rfl vD.out ⟨w3.heap.size,0,none⟩ 1 1 [.int .i64 (n:Nat),.int .i64 k7,.string x7,.int .i64 z7,.slice A7 n7 c7] rfl rfl (zas _ _ _ _ (by simp)) (by intro u hu;simp at hu;rcases hu with rfl|rfl|rfl|rfl|rfl <;> rfl) (by unfold maxLen;omega) (by omega) (by have:=vG.out;simp;omega) ?_;intro v5 w5 cz ae _ pX;obtain⟨A5,a5,rfl⟩:=zam cz;have ke:=CS cz;have om:=CS ae;clear cz ae pX)
    have HR:Hid (AnsR b mu mk W.heap.size v mv (.int .i64 s) G k hd U l W (.slice A5 (m+1) a5) w5/\w5.rangeLeft mu W.heap.size=w1.rangeLeft mu W.heap.size):=CS (by
     have aO:∀g,g<w3.heap.size->some g≠(Value.slice A3 m a3).ownBlock->w5.heap[g]?=w3.heap[g]?:=λg hg hn=>(om.out.block g (by simp;omega) hn).trans (Below.heap_alloc _ _ _ hg);have br:∀(g:Nat) (cs:Array Value) (ty:TypeId),w3.heap[g]?=some (.cells cs ty (0,0))->ty≠39->w5.heap[g]?=w3.heap[g]?:=λg cs ty hg hn=>aO g (Aj.1 hg).1 (λe=>by
      obtain⟨_,_,cur,aa⟩:=zab cV.out g e.symm;rw[hg]at aa
      injection aa with aa;injection aa with _ aa _;exact hn aa)
     have pH:∀(g:Nat),g=mu\/g=W.heap.size->w5.heap[g]?=w3.heap[g]?:=λg hg=>by
      have hl:=tT.out.lt;refine aO g (by rcases hg with e|e <;> omega) (λe=>?_);obtain⟨_,_,cur,aa⟩:=zab cV.out g e.symm;have:=tT.out.noCells aa;rcases hg with e'|e'
      ·exact this.1 e'
      ·exact this.2 e'
     have ej:w3.heap.size<=w5.heap.size:=by have:=om.out.size;simp at this;omega
     have hfm5:FilM b mk W.heap.size v mv (.map (some mu)) (.int .i64 s) G k hd T' D' w5:=qz.out.keep (λg hg=>aO g (by have:=vG.out;omega) (λe=>by have:=(zab cV.out g e.symm).1;omega)) (λg hg=>by obtain⟨_,cur,aa⟩:=qz.out.tt g hg;exact br g cur _ aa (by decide)) (λx ⟨cs,hx⟩=>⟨cs,(br x cs _ hx (by decide)).trans hx⟩) ej;refine⟨⟨done++[n],T',D',vs++knV n t A7 c7,tT.out.keep (pH mu (.inl rfl)) (pH _ (.inr rfl)),qu.out.1,qu.out.2,hfm5,?_,?_,?_⟩,(zcs (pH mu (.inl rfl)) (pH _ (.inr rfl))).trans HRL3.out⟩
     ·rw[vA.out,Ap,HM.out,HTV.out];exact ke.out
     ·rw[vA.out]
      refine KnRow.snoc (HKN3.out.keep (λ_ h=>h) (λg hg=>by obtain⟨_,cur,aa⟩:=qz.out.tt g hg;exact br g cur _ aa (by decide)) _ _) (HA7.out.keep (λ_ h=>h) (λg hg=>by obtain⟨_,cur,aa⟩:=qz.out.tt g hg;exact br g cur _ aa (by decide)))
     ·refine uw.out.trans' (M1:=λg=>(Value.slice A3 m a3).ownBlock=some g) ⟨om.out.os,om.out.tape,om.out.output,ej,λg hg hn=>aO g hg (λe=>hn e.symm)⟩ (λg hg e=>?_)
      have:=(zab cV.out g e).1;omega)
    clear vD ke om cV;go_roundw
    case rel=>exact HR.out.1
    case measure=>rw[HR.out.2];exact zD.out
end Go.Proofs.YtfafilmklhnngaaGreatDoor
