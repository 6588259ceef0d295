import Derived.Test.YtfafilmklhnngaaGreatDoorBsAK
set_option maxHeartbeats 12800000
set_option maxRecDepth 100000
namespace Go.Proofs.YtfafilmklhnngaaGreatDoor
open Tryz
section
open Lx Tx
mutual
def pw:Dt->Ty
 |.fv x=>.var x
 |.bv _=>.var []
 |.mt n=>.mt n
 |.h_ c l=>.h_ c (NM l)
 |.fn a b=>.fn (pw a) (pw b)
 |.all _=>.var []
def NM:List Dt->List Ty
 |[]=>[]
 |t::r=>pw t::NM r
end
theorem QY:(l:List Dt)->NM l=l.map pw
 |[]=>by rw[NM];rfl
 |t::r=>by rw[NM,QY r];rfl
theorem RW(d:Dt):Plain d->db [] (pw d)=d:=by
 induction d using Dt.ind with
 |hf x=>intro _;rw[pw,db];rfl
 |hb i=>intro h;exact absurd h (LG i)
 |hm n=>intro _;rw[pw,db]
 |hc c l ih =>
  intro h;rw[PJ]at h;rw[pw,db,RX,QY,DS];congr 1
  conv=>rhs;rw[<-List.map_id l]
  exact Ed λd hd=>ih d hd (h d hd)
 |hn a b dC dR =>
  intro h;rw[plain_fn]at h;rw[pw,db,dC h.1,dR h.2]
 |ha t _=>intro h;exact absurd h (LY t)
theorem VN {d:Dt}(h:Plain d):kids (pw d)=(EY d).map pw/\kd (pw d)=u_ d/\(App d->ER (pw d)=IE d):=by
 cases d with
 |fv x=>rw[pw];exact⟨rfl,rfl,λh=>by simp[App,u_]at h⟩
 |bv i=>exact absurd h (LG i)
 |mt n=>rw[pw];exact⟨rfl,rfl,λh=>by simp[App,u_]at h⟩
 |h_ c l=>rw[pw,QY];exact⟨rfl,rfl,λ_=>rfl⟩
 |fn a b=>rw[pw];exact⟨rfl,rfl,λ_=>rfl⟩
 |all t=>exact absurd h (LY t)
def FV(G:Nat->Option Nd)(q:Nat):Prop:=∃d,Tr G [] q d []/\Plain d
noncomputable def tv (G:Nat->Option Nd)(k:Sb)(q:Nat):Dt:=by classical exact if h:FV G q then ap k (Classical.choose h) else .bv 0
theorem MG {G:Nat->Option Nd}(k:Sb) {q:Nat} {d:Dt} {env ns:List Nat}(h:Tr G env q d ns)(hp:Plain d):tv G k q=ap k d:=by
 have hF:FV G q:=⟨d,(h.plain hp).2 [],hp⟩;unfold tv;rw[dif_pos hF];obtain⟨h1,h2⟩:=Classical.choose_spec hF;rw[h.M9 hp h1]
section
variable {G:Nat->Option Nd} {L:List Nat} {hd:Nat->Nat} {k:Sb} {Ns O:List Nat}
theorem F0.GA(S:F0 G L hd k Ns O) {q:Nat}(h:FV G q):FV G (hd q)/\tv G k (hd q)=tv G k q:=by
 obtain⟨d,h1,h2⟩:=h;obtain⟨d',h3,h4,h5⟩:=S.pl q d h1 h2;exact⟨⟨d',h3,h4⟩,by rw[MG k h3 h4,MG k h1 h2,h5]⟩
theorem F0.Mw(S:F0 G L hd k Ns O) {q:Nat}(h:FV G q):Plain (tv G k q):=by
 obtain⟨d,h1,h2⟩:=h;rw[MG k h1 h2,Ou];exact⟨h2,λm _=>S.kp m⟩
theorem F0.Iq(S:F0 G L hd k Ns O) {q:Nat}(h:FV G q)(hq:hd q=q) {x:Nd}(hx:G q=some x):x.kd=kd (pw (tv G k q))/\x.nm=ER (pw (tv G k q))/\x.n=nn (pw (tv G k q))/\kids (pw (tv G k q))=x.kids.map (λc=>pw (tv G k (hd c)))/\EY (tv G k q)=x.kids.map (λc=>tv G k (hd c))/\(∀c∈x.kids,FV G (hd c)):=by
 have cL:=S.Mw h;obtain⟨d,h1,h2⟩:=h;have ht:=MG k h1 h2;rw[(VN cL).1];generalize iX:([]:List Nat)=ns at h1;cases h1 with
 |fv _ _ y hy =>
  rw[hy]at hx;injection hx with hx;subst hx
  rw[ht,JK,pw];exact⟨rfl,rfl,rfl,rfl,rfl,(λc hc=>by cases hc)⟩
 |bv _ _ _ i _ _=>exact absurd h2 (LG i)
 |mt _ _ n hy =>
  rw[hy]at hx;injection hx with hx;subst hx
  rw[ht,Ge,S.un q n hy hq,pw];exact⟨rfl,rfl,rfl,rfl,rfl,(λc hc=>by cases hc)⟩
 |all=>exact absurd h2 (LY _)
 |app _ _ _ ps aP ha hy l1 l2 h3 =>
  rw[hy]at hx;injection hx with hx;subst hx
  obtain⟨a1,a2,a3,a4⟩:=ha.ap k;have hk:=(SB ha).1 h2;have key:∀i (i1:i<ps.length) (i2:i<(EY d).length),FV G (hd ps[i])/\tv G k (hd ps[i])=ap k (EY d)[i]:=λi i1 i2=>by
   have ht:=h3 i _ _ _ (BY i1) (BY i2) (BY (show i<aP.length by omega));have hp:=hk _ (CS i2);obtain⟨c1,c2⟩:=S.GA ⟨_,(ht.plain hp).2 [],hp⟩;exact⟨c1,c2.trans (MG k ht hp)⟩
  have ig:EY (tv G k q)=ps.map (λc=>tv G k (hd c)):=by
   rw[ht,a4];refine List.ext_getElem (by simp[l1]) λi i1 i2=>?_;simp only[CE]at i1 i2;rw[D6,D6,(key i i2 i1).2]
  refine⟨?_,?_,?_,?_,ig,λc hc=>?_⟩
  ·rw[(VN cL).2.1,ht,a2]
  ·rw[(VN cL).2.2 (by rw[ht];exact a1),ht,a3]
  ·rw[ht]
   have:=a1;generalize ap k d=e at this;cases e <;> simp[App,u_]at this <;> rw[pw] <;> rfl
  ·rw[ig,DS];rfl
  ·obtain⟨i,hi,rfl⟩:=CN.1 (show c∈ps from hc)
   exact(key i hi (by omega)).1
theorem UT {d u:Dt}(h:u∈EY d):sz u<sz d:=by
 cases d with
 |h_ c l=>have:=Ve l u h;rw[sz];omega
 |fn a b =>
  simp[EY]at h;rw[sz];rcases h with rfl|rfl
  ·have:=MF b;omega
  ·have:=MF a;omega
 |all t=>simp[EY]at h;subst h;rw[sz];omega
 |_=>cases h
theorem zpU(d:Dt):Ic (EY d)+1<=sz d:=by
 cases d <;> simp only[EY,Ic] <;> rw[sz] <;> omega
def Fb(G:Nat->Option Nd)(hd:Nat->Nat)(k:Sb)(fl:Nat->Bool):List Nat->List (Nat × Bool)->Prop
 |_,[]=>True
 |ab,(q,e)::r=>FV G q/\hd q=q/\(e=true->(∀x,G q=some x->∀c∈x.kids,fl (hd c)=true\/hd c∈ab)/\∀a∈ab,sz (tv G k a)<sz (tv G k q))/\Fb G hd k fl (q::ab) r
def Fq(G:Nat->Option Nd):Nat->List (Nat × Bool)->Prop
 |c,[]=>c<=1
 |c,(_,false)::r=>Fq G (c+1) r
 |c,(q,true)::r=>(∃x,G q=some x/\c<=x.kids.length)/\Fq G 0 r
noncomputable def Gg (G:Nat->Option Nd)(k:Sb):List (Nat × Bool)->Nat
 |[]=>0
 |(q,e)::r=>(if e then 1 else 2*sz (tv G k q))+Gg G k r
theorem Fb.mono {fl vd:Nat->Bool}(hf:∀q,fl q=true->vd q=true):(l:List (Nat × Bool))->∀ {ab nP:List Nat},Fb G hd k fl ab l->(∀a∈ab,a∈nP\/vd a=true)->(∀a∈nP,∃b∈ab,sz (tv G k a)<=sz (tv G k b))->Fb G hd k vd nP l
 |[],_,_,_,_,_=>by rw[Fb];trivial
 |(q,e)::r,ab,nP,h,h1,h2=>by
  rw[Fb]at h ⊢;obtain⟨a1,a2,a3,a4⟩:=h;refine⟨a1,a2,λhe=>⟨λx hx c hc=>?_,λa ha=>?_⟩,Fb.mono hf r a4 (λa ha=>?_) (λa ha=>?_)⟩
  ·rcases(a3 he).1 x hx c hc with h|h
   ·exact .inl (hf _ h)
   ·rcases h1 _ h with h|h
    ·exact .inr h
    ·exact .inl h
  ·obtain⟨b,hb,hle⟩:=h2 a ha
   have:=(a3 he).2 b hb;omega
  ·rcases Cd.1 ha with e|ha
   ·exact .inl (by rw[e];simp)
   ·rcases h1 a ha with h|h
    ·exact .inl (Cf _ h)
    ·exact .inr h
  ·rcases Cd.1 ha with e|ha
   ·exact⟨q,by simp,by rw[e];exact BU _⟩
   ·obtain⟨b,hb,hle⟩:=h2 a ha
    exact⟨b,Cf _ hb,hle⟩
theorem Fb.pop {fl vd:Nat->Bool} {q:Nat} {e:Bool} {r:List (Nat × Bool)}(h:Fb G hd k fl [] ((q,e)::r))(hf:∀q,fl q=true->vd q=true)(hq:vd q=true):Fb G hd k vd [] r:=by
 rw[Fb]at h;exact h.2.2.2.mono hf r (λa ha=>by rw[Cx.1 ha];exact .inr hq) (λa ha=>by cases ha)
theorem Fq.le:(l:List (Nat × Bool))->∀ {c d:Nat},Fq G c l->d<=c->Fq G d l
 |[],c,d,h,hd=>by rw[Fq]at h ⊢;omega
 |(q,false)::r,c,d,h,hd=>by rw[Fq]at h ⊢;exact Fq.le r h (by omega)
 |(q,true)::r,c,d,h,hd=>by
  rw[Fq]at h ⊢;obtain⟨⟨x,h1,h2⟩,h3⟩:=h;exact⟨⟨x,h1,by omega⟩,h3⟩
theorem Fq.tail {p:Nat × Bool} {r:List (Nat × Bool)}(h:Fq G 0 (p::r)):Fq G 0 r:=by
 obtain⟨q,e⟩:=p;cases e with
 |false=>rw[Fq]at h;exact h.le r (by omega)
 |true=>rw[Fq]at h;exact h.2
theorem Fq.put:(l:List Nat)->∀ {c:Nat} {r:List (Nat × Bool)},Fq G (c+l.length) r->Fq G c (l.map (·,false)++r)
 |[],c,r,h=>h
 |a::l,c,r,h=>by
  rw[CA,Co,Fq];exact Fq.put l (by rw[Ca]at h;rw[show c+1+l.length=c+(l.length+1) by omega];exact h)
def J9(l:List (Nat × Bool)):List Nat:=(l.filter (·.2)).map (·.1)
theorem VM(q:Nat)(e:Bool)(r:List (Nat × Bool)):J9 ((q,e)::r)=if e then q::J9 r else J9 r:=by
 unfold J9;cases e <;> simp
theorem Fb.met {fl:Nat->Bool} :(l:List (Nat × Bool))->∀ {ab:List Nat},Fb G hd k fl ab l->(J9 l).Nodup/\∀q∈J9 l,FV G q/\∀a∈ab,sz (tv G k a)<sz (tv G k q)
 |[],_,_=>⟨Dr,λq hq=>by cases hq⟩
 |(q,e)::r,ab,h=>by
  rw[Fb]at h;obtain⟨a1,a2,a3,a4⟩:=h;obtain⟨b1,b2⟩:=Fb.met r a4;rw[VM];cases e with
  |false=>exact⟨b1,λz hz=>⟨(b2 z hz).1,λa ha=>(b2 z hz).2 a (Cf _ ha)⟩⟩
  |true =>
   refine⟨CO.2 ⟨λhm=>?_,b1⟩,λz hz=>?_⟩
   ·have:=(b2 q hm).2 q (by simp)
    omega
   ·rcases Cd.1 hz with e|hz
    ·rw[e];exact⟨a1,(a3 rfl).2⟩
    ·exact⟨(b2 z hz).1,λa ha=>(b2 z hz).2 a (Cf _ ha)⟩
def L6(G:Nat->Option Nd)(q:Nat):Nat:=match G q with|some x=>x.kids.length+1|none=>0
theorem RM {G:Nat->Option Nd} {L:List Nat} :(M:List Nat)->∀(Vs:List Nat),M.Nodup->(∀q∈M,q∈L/\∃x,G q=some x)->(∀q∈M,q∉Vs)->(M.map (L6 G)).sum+wg G (M++Vs) L<=wg G Vs L
 |[],Vs,_,_,_=>by simp
 |q::M,Vs,hn,hm,hv=>by
  rw[CO]at hn;have h1:=RM M Vs hn.2 (λz hz=>hm z (Cf _ hz)) (λz hz=>hv z (Cf _ hz));obtain⟨hL,x,hx⟩:=hm q (by simp);have h2:=Sk G q (M++Vs) x hx (λh=>by
   rcases Cr.1 h with h|h
   ·exact hn.1 h
   ·exact hv q (by simp) h) L hL
  rw[CA,DW,Co];have:L6 G q=x.kids.length+1:=by unfold L6;rw[hx]
  omega
theorem Fq.len:(l:List (Nat × Bool))->∀ {c:Nat},Fq G c l->c+l.length<=1+((J9 l).map (L6 G)).sum
 |[],c,h=>by rw[Fq]at h;simp[J9];omega
 |(q,false)::r,c,h=>by
  rw[Fq]at h;have:=Fq.len r h;rw[VM];simp only[Dg,D3,Ca];omega
 |(q,true)::r,c,h=>by
  rw[Fq]at h;obtain⟨⟨x,hx,hc⟩,h2⟩:=h;have:=Fq.len r h2;rw[VM];simp only[Ez,Ca,CA,DW];have:L6 G q=x.kids.length+1:=by unfold L6;rw[hx]
  omega
theorem Fb.len {fl:Nat->Bool} {l:List (Nat × Bool)}(h:Fb G hd k fl [] l)(hn:Fq G 0 l)(hL:∀q x,G q=some x->q∈L):l.length<=1+wg G [] L:=by
 have h1:=hn.len;obtain⟨h2,h3⟩:=h.met;have h4:=RM (L:=L) (J9 l) [] h2 (λq hq=>by
  obtain⟨⟨d,hd,_⟩,_⟩:=h3 q hq;obtain⟨x,hx,_⟩:=hd.node;exact⟨hL q x hx,x,hx⟩) (λq _ h=>by cases h)
 omega
theorem zjS:(l r:List (Nat × Bool))->Gg G k (l++r)=Gg G k l+Gg G k r
 |[],r=>by rw[Cu,Gg,Dm]
 |(q,e)::l,r=>by rw[Co,Gg,Gg,zjS l r];omega
theorem zjT:(l:List Nat)->Gg G k (l.map (·,false))=2*Ic (l.map (tv G k))
 |[]=>by simp[Gg,Ic]
 |a::l=>by rw[CA,Gg,zjT l,CA,Ic];simp;omega
theorem zhi(p:Nat->Bool):(l:List Nat)->Ic ((l.filter p).map (tv G k))<=Ic (l.map (tv G k))
 |[]=>by simp
 |a::l=>by
  have:=zhi p l;by_cases h:p a=true
  ·rw[Dw h,CA,CA,Ic,Ic];omega
  ·rw[Di h,CA,Ic];omega
theorem Fb.open_(S:F0 G L hd k Ns O) {fl:Nat->Bool} {q:Nat} {r:List (Nat × Bool)}(h:Fb G hd k fl [] ((q,false)::r))(hn:Fq G 0 ((q,false)::r)) {x:Nd}(hx:G q=some x)(ahead:List Nat)(ha:ahead=(x.kids.map hd).filter (λc=>!fl c)):Fb G hd k fl [] (ahead.map (·,false)++(q,true)::r)/\Fq G 0 (ahead.map (·,false)++(q,true)::r)/\Gg G k (ahead.map (·,false)++(q,true)::r)<Gg G k ((q,false)::r):=by
 rw[Fb]at h;obtain⟨a1,a2,-,a4⟩:=h;obtain⟨-,-,-,-,t1,t2⟩:=S.Iq a1 a2 hx;have dH:∀c∈ahead,FV G c/\hd c=c/\sz (tv G k c)<sz (tv G k q):=λc hc=>by
  rw[ha]at hc;obtain⟨z,hz,rfl⟩:=Ct.1 (Dp.1 hc).1;exact⟨t2 z hz,S.gr.IX z,UT (by rw[t1];exact Ct.2 ⟨z,hz,rfl⟩)⟩
 have cN:∀(l:List Nat) (ab:List Nat),(∀c∈l,c∈ahead)->(∀c∈ab,c∈ahead)->(∀c∈ahead,c∈ab\/c∈l)->Fb G hd k fl ab (l.map (·,false)++(q,true)::r):=by
  intro l;induction l with
  |nil =>
   intro ab _ h2 h3;rw[List.map_nil,Cu,Fb];refine⟨a1,a2,λ_=>⟨λy hy c hc=>?_,λa cB=>(dH a (h2 a cB)).2.2⟩,?_⟩
   ·rw[hx]at hy;injection hy with hy;subst hy
    by_cases hf:fl (hd c)=true
    ·exact .inl hf
    ·refine .inr ((h3 (hd c) ?_).resolve_right (λh=>by cases h))
     rw[ha];exact Dp.2 ⟨Ct.2 ⟨c,hc,rfl⟩,by simp[hf]⟩
   ·refine a4.mono (λ_ h=>h) r (λa cB=>by rw[Cx.1 cB];exact .inl (by simp)) (λa cB=>?_)
    rcases Cd.1 cB with e|cB
    ·exact⟨q,by simp,by rw[e];exact BU _⟩
    ·exact⟨q,by simp,Nat.le_of_lt (dH a (h2 a cB)).2.2⟩
  |cons c l ih =>
   intro ab h1 h2 h3;rw[CA,Co,Fb];obtain⟨m1,m2,_⟩:=dH c (h1 c (by simp));refine⟨m1,m2,(λh=>by cases h),ih (c::ab) (λz hz=>h1 z (by simp[hz])) (λz hz=>?_) (λz hz=>?_)⟩
   ·rcases Cd.1 hz with e|hz
    ·rw[e];exact h1 c (by simp)
    ·exact h2 z hz
   ·rcases h3 z hz with h|h
    ·exact .inl (by simp[h])
    ·rcases Cd.1 h with e|h
     ·exact .inl (by simp[e])
     ·exact .inr h
 refine⟨cN ahead [] (λ_ h=>h) (λc h=>by cases h) (λc h=>.inr h),?_,?_⟩
 ·refine Fq.put ahead ?_
  rw[Fq]at hn;rw[Fq];refine⟨⟨x,hx,?_⟩,hn.le r (by omega)⟩;rw[Dm,ha];exact Cm (D7 _ _) (by simp)
 ·rw[zjS,zjT,Gg,Gg]
  simp only[Ez,Dg,D3];have h1:=zpU (tv G k q);have h2:Ic (ahead.map (tv G k))<=Ic (EY (tv G k q)):=by
   rw[t1,ha];have:=zhi (G:=G) (k:=k) (λc=>!fl c) (x.kids.map hd);rw[DS]at this;exact this
  omega
end
def Wq(E:List (Dt × Dt))(d:Dt):Prop:=∃p∈E,Wi p.1 d\/Wi p.2 d
theorem Wq.Hm {E:List (Dt × Dt)} {d u:Dt}(h:Wq E d)(hu:u∈EY d):Wq E u:=by
 obtain⟨p,hp,h⟩:=h;exact⟨p,hp,h.imp (λh=>h.tail hu) (λh=>h.tail hu)⟩
def Nb(E:List (Dt × Dt))(k:Sb):Prop:=∀n,(∃j,k n=.mt j)\/∃d,Wq E d/\u_ d≠2/\k n=ap k d
def Ru(E:List (Dt × Dt))(k:Sb)(l:List (Dt × Dt)):Prop:=∀p∈l,(∃d,Wq E d/\ap k p.1=ap k d)/\∃d,Wq E d/\ap k p.2=ap k d
theorem Nb.root {E:List (Dt × Dt)} {k:Sb}(h:Nb E k) {d:Dt}(hd:Wq E d):(∃j,ap k d=.mt j)\/∃e,Wq E e/\u_ e≠2/\ap k d=ap k e:=by
 by_cases h2:u_ d=2
 ·obtain⟨n,rfl⟩:=Ps h2
  rw[Ge];exact h n
 ·exact .inr ⟨d,hd,h2,rfl⟩
theorem Nb.GI {E:List (Dt × Dt)} {k:Sb}(h:Nb E k) {m:Nat} {d:Dt}(hd:Wq E d)(ho:¬a_ m (ap k d)):Nb E (Tx.GI m (ap k d) k):=by
 have key:∀e,ap (IF m (ap k d)) (ap k e)=ap (Tx.GI m (ap k d) k) e:=λe=>(KE m (ap k d) k e).symm;have oq:ap (IF m (ap k d)) (ap k d)=ap k d:=VB _ _ _ ho;have Y3:(∃j,ap k d=.mt j)\/∃e,Wq E e/\u_ e≠2/\ap k d=ap (Tx.GI m (ap k d) k) e:=by
  rcases h.root hd with h|⟨e,h1,h2,h3⟩
  ·exact .inl h
  ·exact .inr ⟨e,h1,h2,by rw[<-key,<-h3,oq]⟩
 intro n;rcases h n with⟨j,hj⟩|⟨e,h1,h2,h3⟩
 ·have:Tx.GI m (ap k d) k n=IF m (ap k d) j:=by unfold Tx.GI;rw[hj,Ge]
  rw[this];by_cases e:j=m
  ·rw[e,KG];exact Y3
  ·rw[KH _ _ _ e];exact .inl ⟨j,rfl⟩
 ·refine .inr ⟨e,h1,h2,?_⟩
  unfold Tx.GI;rw[h3,key];rfl
theorem zpV(E0:List (Dt × Dt))(f:Nat):∀(E:List (Dt × Dt))(k k':Sb),Fc f E k=some (.inr k')->GX k->Nb E0 k->Ru E0 k E->Nb E0 k':=by
 induction f with
 |zero=>intro E k k' h;rw[Fc]at h;cases h
 |succ f ih =>
  intro E k k' h hk hK hE;cases E with
  |nil=>rw[Fc]at h;injection h with h;injection h with h;rw[<-h];exact hK
  |cons p r =>
   obtain⟨a,b⟩:=p;obtain⟨⟨da,wa,ea⟩,⟨AA,wb,eb⟩⟩:=hE (a,b) Cs;simp only at ea eb;have hr:Ru E0 k r:=λp hp=>hE p (Cf _ hp);rw[Fc]at h
   cases hq:act (ap k a) (ap k b) with
   |skip=>rw[hq]at h;exact ih r k k' h hk hK hr
   |FA=>rw[hq]at h;injection h with h;cases h
   |push l =>
    rw[hq]at h;refine ih (l++r) k k' h hk hK λp hp=>?_;rcases Cr.1 hp with hp|hp
    ·have ga:∀(z:Dt) (d:Dt),Wq E0 d->z=ap k d->(∀j,z≠.mt j)->∀u∈EY z,∃e,Wq E0 e/\ap k u=ap k e:=by
      intro z d wd hz aw u hu;rcases hK.root wd with⟨j,hj⟩|⟨e,h1,h2,h3⟩
      ·exact absurd (hz.trans hj) (aw j)
      ·rw[hz,h3,(KI k h2).1]at hu
       obtain⟨v,hv,rfl⟩:=Ct.1 hu;exact⟨v,h1.Hm hv,KQ hk v⟩
     rcases N4 hq with⟨c,u,v,e1,e2,_,rfl⟩|⟨c,d,c',d',e1,e2,rfl⟩|⟨c,d,e1,e2,rfl⟩
     ·exact⟨ga _ da wa ea (by rw[e1];simp) p.1 (by rw[e1];exact(DA hp).1),ga _ AA wb eb (by rw[e2];simp) p.2 (by rw[e2];exact(DA hp).2)⟩
     ·simp at hp
      rcases hp with rfl|rfl
      ·exact⟨ga _ da wa ea (by rw[e1];simp) _ (by rw[e1];simp[EY]),ga _ AA wb eb (by rw[e2];simp) _ (by rw[e2];simp[EY])⟩
      ·exact⟨ga _ da wa ea (by rw[e1];simp) _ (by rw[e1];simp[EY]),ga _ AA wb eb (by rw[e2];simp) _ (by rw[e2];simp[EY])⟩
     ·simp at hp
      subst hp;exact⟨ga _ da wa ea (by rw[e1];simp) _ (by rw[e1];simp[EY]),ga _ AA wb eb (by rw[e2];simp) _ (by rw[e2];simp[EY])⟩
    ·exact hr p hp
   |Fs m t =>
    rw[hq]at h;simp only at h;by_cases hb:bad m t=0
    ·rw[Ch hb]at h
     obtain⟨e1,e2,_,_⟩:=OF hk hq;obtain⟨ho,cL⟩:=(Ot m t).1 hb;obtain⟨d,wd,rfl⟩:∃d,Wq E0 d/\t=ap k d:=by
      obtain⟨(⟨_,g⟩|⟨_,g⟩),_⟩:=OH hq
      ·exact⟨AA,wb,by rw[g,eb]⟩
      ·exact⟨da,wa,by rw[g,ea]⟩
     refine ih r _ k' h (PV hk e2 ho) (hK.GI wd ho) λp hp=>?_;obtain⟨⟨d1,w1,h1⟩,⟨d2,w2,h2⟩⟩:=hr p hp;exact⟨⟨d1,w1,by show ap (GI m (ap k d) k) _=ap (GI m (ap k d) k) _;rw[KE,KE,h1]⟩,⟨d2,w2,by show ap (GI m (ap k d) k) _=ap (GI m (ap k d) k) _;rw[KE,KE,h2]⟩⟩
    ·rw[Cg hb]at h;injection h with h;cases h
mutual
def x_:Dt->List Nat
 |.mt n=>[n]
 |.h_ _ l=>MR l
 |.fn a b=>x_ a++x_ b
 |.all t=>x_ t
 |_=>[]
def MR:List Dt->List Nat
 |[]=>[]
 |t::r=>x_ t++MR r
end
theorem SA:(l:List Dt)->MR l=l.flatMap x_
 |[]=>rfl
 |t::r=>by rw[MR,SA r];rfl
theorem zpW {d u:Dt}(h:u∈EY d):(x_ u).Sublist (x_ d):=by
 cases d with
 |h_ c l =>
  rw[x_,SA,List.flatMap_def];exact EE (Ct.2 ⟨u,h,rfl⟩)
 |fn a b =>
  simp[EY]at h;rw[x_];rcases h with rfl|rfl
  ·exact List.sublist_append_left _ _
  ·exact List.sublist_append_right _ _
 |all t=>simp[EY]at h;subst h;rw[x_];exact Ej _
 |_=>cases h
theorem U_ {d u:Dt}(h:Wi d u):(x_ u).Sublist (x_ d)/\sz u<=sz d:=by
 induction h with
 |refl d=>exact⟨Ej _,BU _⟩
 |Hm d u e hu _ ih=>exact⟨ih.1.trans (zpW hu),Cm ih.2 (Nat.le_of_lt (UT hu))⟩
theorem zpX(n:Nat)(d:Dt):n∈x_ d->a_ n d:=by
 induction d using Dt.ind with
 |hf x=>intro h;rw[x_]at h <;> simp at *
 |hb i=>intro h;rw[x_]at h <;> simp at *
 |hm m=>intro h;rw[x_]at h;rw[a_];exact Cx.1 h
 |hc c l ih =>
  intro h;rw[x_,SA,D5]at h;obtain⟨u,hu,h⟩:=h;rw[a_,J2];exact⟨u,hu,ih u hu h⟩
 |hn a b dC dR =>
  intro h;rw[x_,Cr]at h;rw[a_];exact h.imp dC dR
 |ha t ih=>intro h;rw[x_]at h;rw[a_];exact ih h
theorem znV(k:Sb)(d:Dt):sz (ap k d)<=sz d+((x_ d).map λn=>sz (k n)).sum:=by
 induction d using Dt.ind with
 |hf x=>rw[JK];omega
 |hb i=>rw[JX];omega
 |hm m=>rw[Ge,x_];simp
 |hc c l ih =>
  rw[Jj,sz,sz,x_,KL];have:Ic (l.map (ap k))<=Ic l+((MR l).map λn=>sz (k n)).sum:=by
   induction l with
   |nil=>simp[Ic]
   |cons a l ihl =>
    have h1:=ih a (by simp);have h2:=ihl λd hd=>ih d (by simp[hd]);rw[CA,Ic,Ic,MR,Dn,List.sum_append]
    omega
  omega
 |hn a b dC dR =>
  rw[JJ,sz,sz,x_,Dn,List.sum_append];omega
 |ha t ih=>rw[Iw,sz,sz,x_];omega
def F9(E:List (Dt × Dt)):List Nat:=E.flatMap λp=>x_ p.1++x_ p.2
def L5:List (Dt × Dt)->Nat
 |[]=>1
 |p::r=>max (sz p.1) (sz p.2)+L5 r
theorem Wq.le {E:List (Dt × Dt)} {d:Dt}(h:Wq E d):(x_ d).Sublist (F9 E)/\sz d<=L5 E:=by
 obtain⟨p,hp,h⟩:=h;have h1:(x_ d).Sublist (x_ p.1++x_ p.2)/\sz d<=max (sz p.1) (sz p.2):=by
  rcases h with h|h
  ·obtain⟨a,b⟩:=U_ h;exact⟨a.trans (List.sublist_append_left _ _),by omega⟩
  ·obtain⟨a,b⟩:=U_ h;exact⟨a.trans (List.sublist_append_right _ _),by omega⟩
 refine⟨h1.1.trans ?_,?_⟩
 ·unfold F9
  rw[List.flatMap_def];exact EE (Ct.2 ⟨p,hp,rfl⟩)
 ·refine Cm h1.2 ?_
  clear h1 h;induction E with
  |nil=>cases hp
  |cons q E ih =>
   rw[L5];rcases Cd.1 hp with e|hp
   ·rw[e];omega
   ·have:=ih hp;omega
theorem zkY:(E:List (Dt × Dt))->1<=L5 E
 |[]=>BU _
 |p::r=>by rw[L5];have:=zkY r;omega
def below(v:Nat->Nat)(M:List Nat)(x:Nat):List Nat:=M.filter λm=>decide (v m<x)
theorem ziw(v:Nat->Nat)(x:Nat):(M:List Nat)->((below v M (x+1)).map v).sum<=((below v M x).map v).sum+(M.filter λm=>decide (v m=x)).length*x/\(below v M (x+1)).length=(below v M x).length+(M.filter λm=>decide (v m=x)).length
 |[]=>by simp[below]
 |m::M=>by
  obtain⟨h1,h2⟩:=ziw v x M;unfold below at h1 h2 ⊢;by_cases a:v m<x
  ·rw[Dw (by simp;omega),Dw (by simpa using a),Di (by simp;omega)]
   simp only[CA,DW,Ca];omega
  ·by_cases b:v m=x
   ·rw[Dw (by simp;omega),Di (by simpa using a),Dw (by simpa using b)]
    simp only[CA,DW,Ca,Cy,Da];omega
   ·rw[Di (by simp;omega),Di (by simpa using a),Di (by simpa using b)]
    exact⟨h1,h2⟩
theorem zl8(c:Nat):c+1<=2 ^ c:=by
 induction c with
 |zero=>simp
 |succ c ih=>rw[EN];omega
theorem zkp(v:Nat->Nat)(M:List Nat)(S:Nat)(h:∀m∈M,v m<=S+((below v M (v m)).map v).sum)(x:Nat):S+((below v M x).map v).sum<=S*2 ^(below v M x).length:=by
 induction x with
 |zero =>
  have:below v M 0=[]:=by unfold below;rw[List.filter_eq_nil_iff];intro m _;simp
  rw[this];simp
 |succ x ih =>
  obtain⟨h1,h2⟩:=ziw v x M;obtain⟨c,hc⟩:∃c,(M.filter λm=>decide (v m=x)).length=c:=⟨_,rfl⟩;rw[hc]at h1 h2;rw[h2,Nat.pow_add,<-Nat.mul_assoc];have hx:c=0\/x<=S+((below v M x).map v).sum:=by
   by_cases h0:c=0
   ·exact .inl h0
   ·right
    obtain⟨m,hm⟩:=List.exists_mem_of_length_pos (l:=M.filter λm=>decide (v m=x)) (by omega);obtain⟨m1,m2⟩:=Dp.1 hm;have m2:v m=x:=by simpa using m2
    have:=h m m1;rw[m2]at this;exact this
  have h3:S+((below v M (x+1)).map v).sum<=(S+((below v M x).map v).sum)*(c+1):=by
   rcases hx with h0|h0
   ·subst h0;simp at h1 ⊢;exact h1
   ·have:=Nat.mul_le_mul_left c h0
    rw[Nat.mul_add,Nat.mul_one,Nat.mul_comm];omega
  exact Cm h3 (Ek ih (zl8 c))
theorem Nb.size {E:List (Dt × Dt)} {k:Sb}(h:Nb E k)(n:Nat):sz (k n)<=L5 E*2 ^(F9 E).length:=by
 have key:∀n,sz (k n)<=L5 E+((below (λn=>sz (k n)) (F9 E) (sz (k n))).map λn=>sz (k n)).sum:=by
  intro n;rcases h n with⟨j,hj⟩|⟨d,h1,h2,h3⟩
  ·have:=zkY E
   rw[hj];simp only[sz];omega
  ·obtain⟨a,b⟩:=h1.le
   have hs:=znV k d;rw[<-h3]at hs;have mB:(x_ d).Sublist (below (λn=>sz (k n)) (F9 E) (sz (k n))):=by
    have:=a.filter λm=>decide (sz (k m)<sz (k n));rw[List.filter_eq_self.2]at this
    ·exact this
    ·intro m hm
     have:=(znN k m d (zpX m d hm)).2 (λe=>by rw[e]at h2;exact h2 rfl);rw[<-h3]at this;simpa using this
   have:((x_ d).map λn=>sz (k n)).sum<=((below (λn=>sz (k n)) (F9 E) (sz (k n))).map λn=>sz (k n)).sum:=by
    generalize below (λn=>sz (k n)) (F9 E) (sz (k n))=M at mB;generalize x_ d=M' at mB;clear hs a b h3;induction mB with
    |slnil=>simp
    |cons a _ ih=>simp only[CA,DW];omega
    |cons_cons a _ ih=>simp only[CA,DW];omega
   omega
 have hb:=zkp (λn=>sz (k n)) (F9 E) (L5 E) (λm _=>key m) (sz (k n));refine Cm (key n) (Cm hb ?_);exact Nat.mul_le_mul_left _ (EC (by omega) (D7 _ _))
def PS(u d:Dt):Prop:=∃v∈EY d,Wi v u
theorem Wi.trans {d u e:Dt}(h:Wi d u)(k:Wi u e):Wi d e:=by
 induction h with
 |refl d=>exact k
 |Hm d v _ hv _ ih=>exact .Hm d v e hv (ih k)
theorem PS.sz {u d:Dt}(h:PS u d):sz u<sz d:=by
 obtain⟨v,hv,h⟩:=h;exact Nat.lt_of_le_of_lt (U_ h).2 (UT hv)
theorem PS.Pb {u d:Dt}(h:u∈EY d):PS u d:=⟨u,h,.refl u⟩
theorem PS.trans {u v d:Dt}(h:PS u v)(k:PS v d):PS u d:=by
 obtain⟨a,ha,h⟩:=h;obtain⟨b,hb,k⟩:=k;exact⟨b,hb,k.trans (.Hm _ a _ ha h)⟩
theorem zjU(s:Sb) {d u:Dt}(h:u∈EY d):ap s u∈EY (ap s d):=by
 rw[(KI s (λe=>by obtain⟨n,rfl⟩:=Ps e;cases h)).1];exact Ct.2 ⟨u,h,rfl⟩
theorem Wi.ap(s:Sb) {d u:Dt}(h:Wi d u):Wi (Tx.ap s d) (Tx.ap s u):=by
 induction h with
 |refl d=>exact .refl _
 |Hm d v e hv _ ih=>exact .Hm _ _ _ (zjU s hv) ih
theorem PS.ap(s:Sb) {u d:Dt}(h:PS u d):PS (Tx.ap s u) (Tx.ap s d):=by
 obtain⟨v,hv,h⟩:=h;exact⟨_,zjU s hv,h.ap s⟩
def y_(G:Nat->Option Nd)(k:Sb):List Nat->List tL->Prop
 |_,[]=>True
 |ab,q::r=>(q.d=true->(FV G q.l->∀a∈ab,FV G a/\PS (tv G k a) (tv G k q.l))/\(∀e∈r,e.d=true->e.l≠q.l))/\y_ G k (if q.d then ab else q.l::ab) r
def Fg(G:Nat->Option Nd)(C:Nat):Nat->List tL->Prop
 |c,[]=>c<=C
 |c,q::r=>(q.d=true->∃x,G q.l=some x/\c<=x.kids.length)/\Fg G C (if q.d then 0 else c+1) r
section
variable {G:Nat->Option Nd} {L:List Nat} {hd:Nat->Nat} {k:Sb} {Ns O:List Nat} {C:Nat}
theorem y_.sub:(l:List tL)->∀ {ab nP:List Nat},y_ G k ab l->(∀a∈nP,a∈ab)->y_ G k nP l
 |[],_,_,_,_=>by rw[y_];trivial
 |q::r,ab,nP,h,hs=>by
  rw[y_]at h ⊢;refine⟨λhq=>⟨λhf a ha=>(h.1 hq).1 hf a (hs a ha),(h.1 hq).2⟩,?_⟩;cases hq:q.d with
  |true=>rw[hq]at h;exact y_.sub r h.2 hs
  |false =>
   rw[hq]at h;refine y_.sub r h.2 λa ha=>?_;rcases Cd.1 ha with e|ha
   ·rw[e];simp
   ·exact Cf _ (hs a ha)
theorem y_.pop {q:tL} {r:List tL}(h:y_ G k [] (q::r)):y_ G k [] r:=by
 rw[y_]at h;exact h.2.sub r λa ha=>by cases ha
theorem znW {m:Nat} {t:Dt} {q:Nat}(h:FV G q):tv G (GI m t k) q=ap (IF m t) (tv G k q):=by
 obtain⟨d,h1,h2⟩:=h;rw[MG _ h1 h2,MG _ h1 h2,KE]
theorem y_.GI(m:Nat)(t:Dt):(l:List tL)->∀ {ab:List Nat},y_ G k ab l->y_ G (Tx.GI m t k) ab l
 |[],_,_=>by rw[y_];trivial
 |q::r,ab,h=>by
  rw[y_]at h ⊢;refine⟨λhq=>⟨λhf a ha=>?_,(h.1 hq).2⟩,y_.GI m t r h.2⟩;obtain⟨h1,h2⟩:=(h.1 hq).1 hf a ha;exact⟨h1,by rw[znW h1,znW hf];exact h2.ap _⟩
theorem y_.above:(l:List tL)->∀ {ab nP:List Nat},y_ G k ab l->(∀a∈nP,∃b∈ab,FV G b->FV G a/\(tv G k a=tv G k b\/PS (tv G k a) (tv G k b)))->y_ G k nP l
 |[],_,_,_,_=>by rw[y_];trivial
 |q::r,ab,nP,h,hs=>by
  rw[y_]at h ⊢;refine⟨λhq=>⟨λhf a ha=>?_,(h.1 hq).2⟩,?_⟩
  ·obtain⟨b,hb,bp⟩:=hs a ha
   obtain⟨h1,h2⟩:=(h.1 hq).1 hf b hb;obtain⟨h3,h4|h4⟩:=bp h1
   ·exact⟨h3,by rw[h4];exact h2⟩
   ·exact⟨h3,h4.trans h2⟩
  ·cases hq:q.d with
   |true=>rw[hq]at h;exact y_.above r h.2 hs
   |false =>
    rw[hq]at h;refine y_.above r h.2 λa ha=>?_;rcases Cd.1 ha with e|ha
    ·rw[e];exact⟨q.l,by simp,λh=>⟨h,.inl rfl⟩⟩
    ·obtain⟨b,hb,h⟩:=hs a ha
     exact⟨b,Cf _ hb,h⟩
theorem pf.JD:(l:List tL)->∀ {A:Sb->Prop} {E:List (Dt × Dt)} {N:List Nat},pf G hd O A l E N->∀e∈l,e.d=true->FV G e.l\/e.l∈N
 |[],_,_,_,_,e,he,_=>by cases he
 |q::r,A,E,N,h,e,he,hd=>by
  rw[pf]at h;obtain⟨el,er,dl,dr,nl,nr,h1,h2,h3,⟨a,E',N',b,rfl,c⟩|⟨a,b,N',rfl,c⟩⟩:=h
  ·rcases Cd.1 he with e1|he
   ·rw[e1,a]at hd;cases hd
   ·rcases pf.JD r c e he hd with h|h
    ·exact .inl h
    ·exact .inr (by simp[h])
  ·rcases Cd.1 he with e1|he
   ·by_cases hp:Plain dl
    ·exact .inl ⟨dl,by rw[e1];exact(h2.plain hp).2 [],hp⟩
    ·exact .inr (by rw[e1,NT hp];simp)
   ·rcases pf.JD r c e he hd with h|h
    ·exact .inl h
    ·exact .inr (by simp[h])
theorem y_.put(l:List tL):(ps qs:List Nat)->∀ {ab:List Nat},ps.length=qs.length->y_ G k (ps.reverse++ab) l->y_ G k ab (GU ps qs++l)
 |[],[],_,_,h=>h
 |[],_::_,_,h,_=>by simp at h
 |_::_,[],_,h,_=>by simp at h
 |p::ps,q::qs,ab,hl,h=>by
  rw[GU,Co,y_];refine⟨(λhq=>by cases hq),?_⟩;refine y_.put l ps qs (by simpa using hl) ?_;simpa using h
theorem Fg.put(l:List tL):(ps qs:List Nat)->∀ {c:Nat},ps.length=qs.length->Fg G C (c+ps.length) l->Fg G C c (GU ps qs++l)
 |[],[],_,_,h=>h
 |[],_::_,_,h,_=>by simp at h
 |_::_,[],_,h,_=>by simp at h
 |p::ps,q::qs,c,hl,h=>by
  rw[GU,Co,Fg];refine⟨(λhq=>by cases hq),?_⟩;refine Fg.put l ps qs (by simpa using hl) ?_;show Fg G C (c+1+ps.length) l;rw[Ca]at h;rw[show c+1+ps.length=c+(ps.length+1) by omega];exact h
theorem Fg.le:(l:List tL)->∀ {c d:Nat},Fg G C c l->d<=c->Fg G C d l
 |[],c,d,h,hd=>by rw[Fg]at h ⊢;omega
 |q::r,c,d,h,hd=>by
  rw[Fg]at h ⊢;refine⟨λhq=>by obtain⟨x,h1,h2⟩:=h.1 hq;exact⟨x,h1,by omega⟩,Fg.le r h.2 ?_⟩;cases q.d <;> simp <;> omega
theorem Fg.pop {q:tL} {r:List tL}(h:Fg G C 0 (q::r)):Fg G C 0 r:=by
 rw[Fg]at h;exact h.2.le r (Cw _)
theorem Ha.EX {q:tL} {r:List tL} {f:Nat} {o:Nat ⊕ Sb}(h:Ha G L hd k (q::r) f o)(hq:q.d=false) {x y:Nd}(hx:G (hd q.l)=some x)(hl:x.kids.length=y.kids.length)(hs:y_ G k [] (q::r))(hn:Fg G C 0 (q::r)):y_ G k [] (GU x.kids y.kids++⟨hd q.l,hd q.r,true⟩::r)/\Fg G C 0 (GU x.kids y.kids++⟨hd q.l,hd q.r,true⟩::r):=by
 obtain⟨el,er,dl,dr,nl,nr,E',N',O,a,b,iR,f',S,h1,h2,h3,h4,-,-,-,-,-⟩:=h.IN hq;obtain⟨d',v1,e1,p1,n1⟩:=S.head h1.left h2 (λx hx=>by simp[hx]);have hFV:FV G (hd q.l)->FV G q.l/\tv G k (hd q.l)=tv G k q.l:=λhf=>by
  by_cases hp:Plain dl
  ·exact⟨⟨dl,(h2.plain hp).2 [],hp⟩,(S.GA ⟨dl,(h2.plain hp).2 [],hp⟩).2⟩
  ·exfalso
   obtain⟨e,g1,g2⟩:=hf;obtain⟨wO,n2⟩:=n1 hp;rcases v1 with⟨t,hb⟩|⟨-,i,nm,_,_,hG⟩
   ·exact(t.Ml (by rw[wO];exact hp)) _ _ _ g1 g2
   ·exact Sy hG _ _ _ g1 g2
 rw[y_]at hs;rw[Fg]at hn;have aZ:=hs.2;have lM:=hn.2;rw[hq]at aZ lM;constructor
 ·refine y_.put _ _ _ hl ?_
  rw[y_,CJ];have ga:∀c∈x.kids.reverse,FV G (hd q.l)->FV G c/\PS (tv G k c) (tv G k (hd q.l)):=λc hc hf=>by
   have hc:=DT.1 hc;obtain⟨-,-,-,-,t1,t2⟩:=S.Iq hf (S.gr.IX _) hx;have hfc:FV G c:=by
    obtain⟨d,g1,g2⟩:=hf;have g0:=g1;generalize iX:([]:List Nat)=ns at g1;cases g1 with
    |fv _ _ y hy=>rw[hy]at hx;injection hx with hx;subst hx;cases hc
    |bv _ _ _ i _ _=>exact absurd g2 (LG i)
    |mt _ _ n hy=>rw[hy]at hx;injection hx with hx;subst hx;cases hc
    |all=>exact absurd g2 (LY _)
    |app _ _ _ ps aP ha hy l1 l2 hk =>
     rw[hy]at hx;injection hx with hx;subst hx
     obtain⟨i,hi,rfl⟩:=CN.1 (show c∈ps from hc);have ht:=hk i _ _ _ (BY hi) (BY (show i<(EY d).length by omega)) (BY (show i<aP.length by omega));have hp:=(SB ha).1 g2 _ (CS (show i<(EY d).length by omega));exact⟨_,(ht.plain hp).2 [],hp⟩
   refine⟨hfc,PS.Pb ?_⟩;rw[t1,<-(S.GA hfc).2];exact Ct.2 ⟨c,hc,rfl⟩
  refine⟨λ_=>⟨λhf c hc=>ga c hc hf,λe he hed=>?_⟩,?_⟩
  ·intro rp
   rcases h4.JD r e he hed with hf|hm
   ·rw[rp]at hf
    obtain⟨f1,f2⟩:=hFV hf;have key:∀(l:List tL) (ab:List Nat),y_ G k ab l->q.l∈ab->e∈l->PS (tv G k q.l) (tv G k e.l):=by
     intro l;induction l with
     |nil=>intro ab _ _ h;cases h
     |cons z l ih =>
      intro ab hz bp hm;rw[y_]at hz;rcases Cd.1 hm with e1|hm
      ·subst e1
       exact((hz.1 hed).1 (by rw[rp];exact hf) q.l bp).2
      ·refine ih _ hz.2 ?_ hm
       cases z.d
       ·simp[bp]
       ·exact bp
    have:=(key r _ aZ (by simp) he).sz;rw[rp,f2]at this;omega
   ·rw[rp]at hm
    have hnf:¬FV G (hd q.l):=λ⟨d,g1,g2⟩=>S.np _ (by simp[hm]) _ _ _ g1 g2;have ua:¬Plain dl:=λhp=>hnf (S.GA ⟨dl,(h2.plain hp).2 [],hp⟩).1;obtain⟨rfl,n2⟩:=n1 ua;rcases v1 with⟨t,hb⟩|⟨-,i,nm,_,g,hG⟩
    ·have:hd q.l∈nl:=t.Hj ua hb
     exact(QN S.nd).2.2 _ (by simp[this]) hm
    ·have hO:hd q.l∈O:=h1.ro _ (CG g)
     exact(S.oc _ hO).2 (by simp[hm])
  ·refine y_.above r aZ λc hc=>⟨q.l,by simp,λhf=>?_⟩
   have hc:c∈x.kids.reverse:=by simpa using hc
   obtain⟨f1,f2⟩:=S.GA hf;obtain⟨c1,c2⟩:=ga c hc f1;exact⟨c1,.inr (by rw[<-f2];exact c2)⟩
 ·refine Fg.put _ _ _ hl ?_
  rw[Fg];refine⟨λ_=>⟨x,hx,by omega⟩,?_⟩;exact lM.le r (Cw _)
def J_(l:List tL):List Nat:=(l.filter (·.d)).map (·.l)
theorem zix(q:tL)(r:List tL):J_ (q::r)=if q.d then q.l::J_ r else J_ r:=by
 unfold J_;cases h:q.d <;> simp[h]
theorem y_.nodup:(l:List tL)->∀ {ab:List Nat},y_ G k ab l->(J_ l).Nodup
 |[],_,_=>Dr
 |q::r,ab,h=>by
  rw[y_]at h;have ih:=y_.nodup r h.2;rw[zix];cases hq:q.d with
  |false=>exact ih
  |true =>
   refine CO.2 ⟨λhm=>?_,ih⟩;obtain⟨e,he,rp⟩:=Ct.1 hm;obtain⟨h1,h2⟩:=Dp.1 he;exact(h.1 hq).2 e h1 h2 rp
theorem Fg.len:(l:List tL)->∀ {c:Nat},Fg G C c l->c+l.length<=C+((J_ l).map (L6 G)).sum/\∀q∈J_ l,∃x,G q=some x
 |[],c,h=>by rw[Fg]at h;exact⟨by simp[J_];exact h,λq hq=>by cases hq⟩
 |q::r,c,h=>by
  rw[Fg]at h;rw[zix];cases hq:q.d with
  |false =>
   rw[hq]at h;obtain⟨h1,h2⟩:=Fg.len r h.2;simp only[Dg,D3,Ca]at h1 ⊢;exact⟨by omega,h2⟩
  |true =>
   have hc:=h.1 hq;rw[hq]at h;obtain⟨x,hx,hc⟩:=hc;obtain⟨h1,h2⟩:=Fg.len r h.2;simp only[Ez,Ca,CA,DW]at h1 ⊢;have:L6 G q.l=x.kids.length+1:=by unfold L6;rw[hx]
   refine⟨by omega,λz hz=>?_⟩;rcases Cd.1 hz with e|hz
   ·rw[e];exact⟨x,hx⟩
   ·exact h2 z hz
theorem y_.len {l:List tL}(h:y_ G k [] l)(hn:Fg G C 0 l)(hL:∀q x,G q=some x->q∈L):l.length<=C+wg G [] L:=by
 obtain⟨h1,h2⟩:=hn.len l;have h4:=RM (L:=L) (J_ l) [] (h.nodup l) (λq hq=>by obtain⟨x,hx⟩:=h2 q hq;exact⟨hL q x hx,x,hx⟩) (λq _ h=>by cases h);omega
theorem y_.start:(l:List tL)->∀ {ab:List Nat},(∀q∈l,q.d=false)->y_ G k ab l
 |[],_,_=>by rw[y_];trivial
 |q::r,ab,h=>by
  rw[y_];exact⟨(λhq=>by rw[h q (by simp)]at hq;cases hq),y_.start r λe he=>h e (by simp[he])⟩
theorem Fg.start:(l:List tL)->∀ {c:Nat},(∀q∈l,q.d=false)->c+l.length<=C->Fg G C c l
 |[],_,_,h=>by rw[Fg];simpa using h
 |q::r,c,h,hc=>by
  rw[Fg];refine⟨(λhq=>by rw[h q (by simp)]at hq;cases hq),?_⟩;rw[h q (by simp)];exact Fg.start r (λe he=>h e (by simp[he])) (by simp at hc ⊢;omega)
end
end
section
open Lx Tx
set_option maxRecDepth 100000
theorem Sx(P:Nat->Prop)(f:Nat):∀(E:List (Dt × Dt))(k k':Sb),Fc f E k=some (.inr k')->GX k->(∀p∈E,∀n,a_ n (ap k p.1)\/a_ n (ap k p.2)->P n)->∀n,¬P n->k n=.mt n->k' n=.mt n:=by
 induction f with
 |zero=>intro E k k' h;rw[Fc]at h;cases h
 |succ f ih =>
  intro E k k' h hk hP n hn cA;cases E with
  |nil=>rw[Fc]at h;injection h with h;injection h with h;rw[<-h];exact cA
  |cons p r =>
   obtain⟨a,b⟩:=p;have bp:=hP (a,b) Cs;have hr:∀p∈r,∀n,a_ n (ap k p.1)\/a_ n (ap k p.2)->P n:=λp hp=>hP p (Cf _ hp);rw[Fc]at h
   cases hq:act (ap k a) (ap k b) with
   |skip=>rw[hq]at h;exact ih r k k' h hk hr n hn cA
   |FA=>rw[hq]at h;injection h with h;cases h
   |push q =>
    rw[hq]at h;obtain⟨h1,h2⟩:=Sg (KQ hk a) (KQ hk b) hq;refine ih (q++r) k k' h hk (λp hp m hm=>?_) n hn cA;rcases Cr.1 hp with hp|hp
    ·rw[(h2 p hp).1,(h2 p hp).2]at hm
     refine bp m ?_;rcases N4 hq with⟨c,u,v,e1,e2,_,rfl⟩|⟨c,d,c',d',e1,e2,rfl⟩|⟨c,d,e1,e2,rfl⟩
     ·simp only[e1,e2,a_,J2]
      rcases hm with hm|hm
      ·exact .inl ⟨_,(DA hp).1,hm⟩
      ·exact .inr ⟨_,(DA hp).2,hm⟩
     ·simp only[e1,e2,a_]
      simp at hp;rcases hp with rfl|rfl
      ·rcases hm with hm|hm
       ·exact .inl (.inl hm)
       ·exact .inr (.inl hm)
      ·rcases hm with hm|hm
       ·exact .inl (.inr hm)
       ·exact .inr (.inr hm)
     ·simp only[e1,e2,a_]
      simp at hp;rw[hp]at hm;exact hm
    ·exact hr p hp m hm
   |Fs m t =>
    rw[hq]at h;simp only at h;by_cases hb:bad m t=0
    ·rw[Ch hb]at h
     obtain⟨e1,e2,e3,e4⟩:=OF hk hq;have ho:=((Ot m t).1 hb).1;have aw:n≠m:=λe=>hn (e▸bp m e3);refine ih r (GI m t k) k' h (PV hk e2 ho) (λp hp j hj=>?_) n hn ?_
     ·rw[KE,KE,Pu,Pu]at hj
      rcases hj with⟨i,hi,hj⟩|⟨i,hi,hj⟩
      ·by_cases eB:i=m
       ·rw[eB,KG]at hj;exact bp j (e4 j hj)
       ·rw[KH m t i eB,a_]at hj;rw[hj];exact hr p hp i (.inl hi)
      ·by_cases eB:i=m
       ·rw[eB,KG]at hj;exact bp j (e4 j hj)
       ·rw[KH m t i eB,a_]at hj;rw[hj];exact hr p hp i (.inr hi)
     ·show ap (IF m t) (k n)=.mt n
      rw[cA,Ge,KH m t n aw]
    ·rw[Cg hb]at h;injection h with h;cases h
structure Told (k:Sb) (l:List (Nat × Ty)):Prop where
 up:(l.map (·.1)).Pairwise (· < ·)
 mem:∀n t,(n,t)∈l↔k n≠.mt n/\t=pw (k n)
set_option maxRecDepth 100000
theorem zir:(l l':List (Nat × Ty))->(l.map (·.1)).Pairwise (· < ·)->(l'.map (·.1)).Pairwise (· < ·)->(∀e,e∈l↔e∈l')->l=l'
 |[],[],_,_,_=>rfl
 |[],e::r,_,_,h=>by have:=(h e).2 (by simp);cases this
 |e::r,[],_,_,h=>by have:=(h e).1 (by simp);cases this
 |(n,t)::r,(m,u)::s,h1,h2,h=>by
  rw[CA,List.pairwise_cons]at h1 h2;obtain⟨a1,a2⟩:=h1;obtain⟨b1,b2⟩:=h2;have aT:∀e∈r,n<e.1:=λe he=>a1 e.1 (Ct.2 ⟨e,he,rfl⟩);have bL:∀e∈s,m<e.1:=λe he=>b1 e.1 (Ct.2 ⟨e,he,rfl⟩);have e1:(n,t)=(m,u):=by
   rcases Cd.1 ((h (n,t)).1 (by simp)) with e|e
   ·exact e
   ·rcases Cd.1 ((h (m,u)).2 (by simp)) with e'|e'
    ·exact e'.symm
    ·have:=bL _ e
     have:=aT _ e';simp only at *;omega
  rw[e1];injection e1 with e1 e2;subst e1 e2;rw[zir r s a2 b2 λe=>?_]
  have h3:=h e;rw[Cd,Cd]at h3;constructor
  ·intro he
   rcases h3.1 (.inr he) with e'|e'
   ·have:=aT e he
    rw[e']at this;simp only at this;omega
   ·exact e'
  ·intro he
   rcases h3.2 (.inr he) with e'|e'
   ·have:=bL e he
    rw[e']at this;simp only at this;omega
   ·exact e'
theorem Told.uniq {k:Sb} {l l':List (Nat × Ty)}(h:Told k l)(h':Told k l'):l=l' :=
 zir _ _ h.up h'.up λe=>by
  obtain⟨n,t⟩:=e;rw[h.mem,h'.mem]
def Jb(n:Nat):Dt->Bool
 |.mt m=>m==n
 |_=>false
theorem N5(n:Nat)(d:Dt):Jb n d=true↔d=.mt n:=by
 cases d <;> simp[Jb]
def Ja(k:Sb):List Nat->List (Nat × Ty)
 |[]=>[]
 |n::r=>if Jb n (k n) then Ja k r else(n,pw (k n))::Ja k r
theorem zjK(k:Sb)(m:Nat)(t:Ty):(ns:List Nat)->((m,t)∈Ja k ns↔m∈ns/\k m≠.mt m/\t=pw (k m))
 |[]=>by simp[Ja]
 |n::r=>by
  rw[Ja];have ih:=zjK k m t r;by_cases hq:Jb n (k n)=true
  ·rw[Ch hq,ih]
   rw[N5]at hq;constructor
   ·rintro⟨a,b⟩;exact⟨by simp[a],b⟩
   ·rintro⟨a,b,c⟩
    rcases Cd.1 a with e|e
    ·rw[e]at b;exact absurd hq b
    ·exact⟨e,b,c⟩
  ·rw[Cg hq,Cd,ih]
   rw[N5]at hq;constructor
   ·rintro(e|⟨a,b⟩)
    ·injection e with e1 e2
     subst e1;exact⟨by simp,hq,e2⟩
    ·exact⟨by simp[a],b⟩
   ·rintro⟨a,b,c⟩
    rcases Cd.1 a with e|e
    ·left;rw[c,e]
    ·exact .inr ⟨e,b,c⟩
theorem Vg(k:Sb):(ns:List Nat)->((Ja k ns).map (·.1)).Sublist ns
 |[]=>by rw[Ja];exact .slnil
 |n::r=>by
  rw[Ja];split
  ·exact(Vg k r).cons n
  ·exact(Vg k r).cons_cons n
def Nh(E:List (Dt × Dt)):List Nat:=E.flatMap λp=>Jg p.1 []++Jg p.2 []
theorem znH {f:Nat} {E:List (Dt × Dt)} {k:Sb}(h:Fc f E .mt=some (.inr k))(ns:List Nat)(hp:ns.Pairwise (· < ·))(hm:(Nh E).all (λn=>ns.contains n)=true):Told k (Ja k ns):=by
 refine⟨List.Pairwise.sublist (Vg k ns) hp,λn t=>?_⟩;rw[zjK];constructor
 ·exact λh=>h.2
 ·rintro⟨h1,h2⟩
  refine⟨?_,h1,h2⟩;refine Decidable.by_contra λhn=>h1 (Sx (λn=>n∈ns) f E .mt k h J0 (λp hp n hq=>?_) n hn rfl);rw[ML,ML]at hq
  have:n∈Nh E:=by
   unfold Nh;refine D5.2 ⟨p,hp,Cr.2 ?_⟩;rw[MI,MI];simpa using hq
  simpa using Eo.1 hm n this
def JE:List (Nat × Ty)->List UInt8
 |[]=>[]
 |(n,t)::l=>59::(dec n++61::(t.Fa.print++JE l))
theorem zhe(n:Nat)(t:Ty):(l:List (Nat × Ty))->JE (l++[(n,t)])=JE l++(59::(dec n++61::t.Fa.print))
 |[]=>by simp[JE]
 |(m,u)::l=>by rw[Co,JE,JE,zhe n t l];simp
end
section
open Lx Tx
mutual
theorem Oq(k:Sb)(hk:∀n,n<=999999->FD (k n)):(d:Dt)->FD d->FD (ap k d)
 |.fv x,h=>by rw[JK];exact h
 |.bv i,h=>by rw[JX];exact h
 |.mt n,h=>by rw[Ge];rw[FD]at h;exact hk n h
 |.h_ c l,h=>by rw[FD]at h;rw[Jj,FD];exact⟨h.1,zkO k hk l h.2⟩
 |.fn a b,h=>by rw[FD]at h;rw[JJ,FD];exact⟨Oq k hk a h.1,Oq k hk b h.2⟩
 |.all t,h=>by rw[FD]at h;rw[Iw,FD];exact Oq k hk t h
theorem zkO(k:Sb)(hk:∀n,n<=999999->FD (k n)):(l:List Dt)->H' l->H' (N_ k l)
 |[],h=>by unfold N_;rw[JF,H'];trivial
 |t::r,h=>by
  rw[H']at h;have h1:=Oq k hk t h.1;have h2:=zkO k hk r h.2;unfold ap at h1;unfold N_ at h2 ⊢;rw[JF,H'];exact⟨h1,h2⟩
end
theorem QF:(l:List Dt)->(H' l↔∀d∈l,FD d)
 |[]=>by rw[H'];simp
 |t::r=>by rw[H',QF r];simp
theorem zpH {x y:Dt} {q:List (Dt × Dt)}(h:act x y=.push q)(hx:FD x)(hy:FD y):∀p∈q,FD p.1/\FD p.2:=by
 intro p hp;rcases N4 h with⟨c,u,v,rfl,rfl,_,rfl⟩|⟨a,b,c,d,rfl,rfl,rfl⟩|⟨a,b,rfl,rfl,rfl⟩
 ·rw[FD]at hx hy
  have h1:=(QF _).1 hx.2;have h2:=(QF _).1 hy.2;obtain⟨a,b⟩:=p;exact⟨h1 _ (DA hp).1,h2 _ (DA hp).2⟩
 ·rw[FD]at hx hy
  simp at hp;rcases hp with rfl|rfl
  ·exact⟨hx.1,hy.1⟩
  ·exact⟨hx.2,hy.2⟩
 ·rw[FD]at hx hy
  simp at hp;rw[hp];exact⟨hx,hy⟩
theorem zrC(f:Nat):∀(E:List (Dt × Dt))(k k':Sb),Fc f E k=some (.inr k')->(∀p∈E,FD p.1/\FD p.2)->(∀n,n<=999999->FD (k n))->∀n,n<=999999->FD (k' n):=by
 induction f with
 |zero=>intro E k k' h;rw[Fc]at h;cases h
 |succ f ih =>
  intro E k k' h hE hk;cases E with
  |nil=>rw[Fc]at h;injection h with h;injection h with h;rw[<-h];exact hk
  |cons p r =>
   obtain⟨a,b⟩:=p;obtain⟨ha,hb⟩:=hE (a,b) Cs;have ha:=Oq k hk a ha;have hb:=Oq k hk b hb;have hr:∀p∈r,FD p.1/\FD p.2:=λp hp=>hE p (Cf _ hp);rw[Fc]at h
   cases hq:act (ap k a) (ap k b) with
   |skip=>rw[hq]at h;exact ih r k k' h hr hk
   |FA=>rw[hq]at h;injection h with h;cases h
   |push q =>
    rw[hq]at h;have h2:=zpH hq ha hb;refine ih (q++r) k k' h (λp hp=>?_) hk;rcases Cr.1 hp with hp|hp
    ·exact h2 p hp
    ·exact hr p hp
   |Fs m t =>
    rw[hq]at h;simp only at h;by_cases gQ:bad m t=0
    ·rw[Ch gQ]at h
     have ht:FD t:=by
      rcases(OH hq).1 with⟨_,e⟩|⟨_,e⟩
      ·rw[e];exact hb
      ·rw[e];exact ha
     refine ih r _ k' h hr λn hn=>Oq _ (λj hj=>?_) _ (hk n hn);unfold IF;split
     ·exact ht
     ·rw[FD];exact hj
    ·rw[Cg gQ]at h;injection h with h;cases h
theorem zkP(n:Nat)(d:Dt):FD d->a_ n d->n<=999999:=by
 induction d using Dt.ind with
 |hf x=>intro _ h;rw[a_]at h;exact h.elim
 |hb i=>intro _ h;rw[a_]at h;exact h.elim
 |hm j=>intro h1 h2;rw[a_]at h2;rw[FD]at h1;rw[h2];exact h1
 |hc c l ih =>
  intro h1 h2;rw[FD]at h1;rw[a_,J2]at h2;obtain⟨d,hd,h2⟩:=h2;exact ih d hd ((QF l).1 h1.2 d hd) h2
 |hn a b dC dR =>
  intro h1 h2;rw[FD]at h1;rw[a_]at h2;rcases h2 with h2|h2
  ·exact dC h1.1 h2
  ·exact dR h1.2 h2
 |ha t ih=>intro h1 h2;rw[FD]at h1;rw[a_]at h2;exact ih h1 h2
theorem zq8(d:Dt):Plain d->FD d->Nm (pw d):=by
 induction d using Dt.ind with
 |hf x=>intro _ h;rw[FD]at h;rw[pw];exact .var x h
 |hb i=>intro h;exact absurd h (LG i)
 |hm n=>intro _ h;rw[FD]at h;rw[pw];exact .mt n h
 |hc c l ih =>
  intro h1 h2;rw[FD]at h2;rw[pw,QY];refine .h_ c _ h2.1 λt ht=>?_;obtain⟨d,hd,rfl⟩:=Ct.1 ht;exact ih d hd ((PJ c l).1 h1 d hd) ((QF l).1 h2.2 d hd)
 |hn a b dC dR =>
  intro h1 h2;rw[FD]at h2;have h1:=(plain_fn a b).1 h1;rw[pw];exact .fn _ _ (dC h1.1 h2.1) (dR h1.2 h2.2)
 |ha t ih=>intro h;exact absurd h (LY t)
theorem znI(d:Dt):(pw d).size<=sz d:=by
 induction d using Dt.ind with
 |hf x=>rw[pw,Ty.size,sz];omega
 |hb i=>rw[pw,Ty.size,sz];omega
 |hm n=>rw[pw,Ty.size,sz];omega
 |hc c l ih =>
  rw[pw,Ty.size,sz,QY];have:∀r:List Dt,(∀d∈r,(pw d).size<=sz d)->q_ (r.map pw)<=Ic r:=by
   intro r;induction r with
   |nil=>intro _;exact BU _
   |cons x r Wz =>
    intro h;rw[CA,q_,Ic];have:=h x (by simp);have:=Wz λd hd=>h d (by simp[hd]);omega
  have:=this l ih;omega
 |hn a b dC dR=>rw[pw,Ty.size,sz];omega
 |ha t ih=>rw[pw,Ty.size,sz];omega
theorem zhf {f:Nat} {ts:List (Ty × Ty)} {k:Sb} {l:List (Nat × Ty)}(h:Fc f (Fy ts) .mt=some (.inr k))(hT:Told k l)(aw:∀t u,(t,u)∈ts->Nm t/\Nm u)(n:Nat)(t:Ty)(he:(n,t)∈l):n<=999999/\Nm t/\Plain (k n)/\FD (k n)/\t.size<=sz (k n)/\sz (k n)<=L5 (Fy ts)*2 ^(F9 (Fy ts)).length:=by
 obtain⟨h1,h2⟩:=(hT.mem n t).1 he;have hE:∀p∈Fy ts,FD p.1/\FD p.2:=λp hp=>by
  unfold Fy at hp;obtain⟨⟨a,b⟩,hq,rfl⟩:=Ct.1 hp;obtain⟨x,y⟩:=aw a b hq;exact⟨Om [] a x,Om [] b y⟩
 have hn:n<=999999:=by
  refine Decidable.by_contra λhn=>h1 (Sx (λn=>n<=999999) f (Fy ts) .mt k h J0 (λp hp n hq=>?_) n hn rfl);rw[ML,ML]at hq
  rcases hq with hq|hq
  ·exact zkP n _ (hE p hp).1 hq
  ·exact zkP n _ (hE p hp).2 hq
 have hp:=(NX f _ _ _ h J0 Jk).2.1 n;have hd:=zrC f _ _ _ h hE (λn hn=>by rw[FD];exact hn) n hn;have hs:=(zpV (Fy ts) f (Fy ts) .mt k h J0 (λn=>.inl ⟨n,rfl⟩) λp hp=>⟨⟨p.1,⟨p,hp,.inl (.refl _)⟩,rfl⟩,⟨p.2,⟨p,hp,.inr (.refl _)⟩,rfl⟩⟩).size n;rw[h2];exact⟨hn,zq8 _ hp hd,hp,hd,znI _,hs⟩
def Lh(t u:Ty)(o:List UInt8):Prop :=
 (∃f m,Fc f (Fy [(t,u)]) .mt=some (.inl m)/\o=dec m)\/∃f k l,Fc f (Fy [(t,u)]) .mt=some (.inr k)/\Told k l/\l.length<=100/\(∀e∈l,e.2.size<=1000)/\o=48::JE l
def OR(f:Nat)(ns:List Nat)(l r:List UInt8):Option (List UInt8) :=
 match parse l,parse r with
 |.ok t,.ok u=>if(Nh (Fy [(t,u)])).all (λn=>ns.contains n) then
   match Fc f (Fy [(t,u)]) .mt with
   |some (.inl m)=>some (dec m)
   |some (.inr k)=>if(Ja k ns).length<=100/\(Ja k ns).all (λe=>decide (e.2.size<=1000)) then some (48::JE (Ja k ns)) else none
   |none=>none
  else none
 |_,_=>none
theorem zpI {f:Nat} {ns:List Nat} {l r o:List UInt8}(h:OR f ns l r=some o)(hn:ns.Pairwise (· < ·)):∃t u,parse l=.ok t/\parse r=.ok u/\Lh t u o:=by
 unfold OR at h;split at h
 ·rename_i t u ht hu
  refine⟨t,u,ht,hu,?_⟩;split at h
  ·rename_i hm
   split at h
   ·rename_i m hf
    injection h with h;exact .inl ⟨f,m,hf,h.symm⟩
   ·rename_i k hf
    split at h
    ·rename_i hs
     injection h with h;refine .inr ⟨f,k,_,hf,znH hf ns hn hm,hs.1,λe he=>?_,h.symm⟩;simpa using Eo.1 hs.2 e he
    ·cases h
   ·cases h
  ·cases h
 ·cases h
end
section
open Go.RowKit Lx Tx Go.Maps Go.WideMaps
set_option maxRecDepth 100000
theorem zpC(b mk ql qr:Nat)(c4:Value)(c0 c1 c2:Value)(K:Nat->Option Nat)(hd:Nat->Nat)(w:World)
  (hb:ar w b 85 #[c0,c1,c2,.map (some mk),c4])(hk:Gl w mk K hd)(hl:e_ w ql)(hr:e_ w qr)(jw:e_ w (hd ql))(jv:e_ w (hd qr))(G:Nat->Option Nd)(D:Nat->Dy)(bH:l_ w G D)(x y:Nd)(hx:G (hd ql)=some x)(hy:G (hd qr)=some y)(ai:hd ql≠hd qr)(hm:x.kd=5)(ij:F_ x y=true)(lc rc:Nat)(xl yr:Nd)(dN:x.h_=some lc/\G lc=some xl/\hd lc=lc)(hcr:y.h_=some rc/\G rc=some yr/\hd rc=rc)(gz:lc≠rc)(B:Nat)(EX:List tL)(hB:B<=w.heap.size)(ho:w.ownsRow B 78 3 c0 EX.length (g_ EX))(hn:EX.length+x.kids.length+1<=2000000000000):Calls prog 36 #[.pointer (some ⟨b,0,none⟩),.agg #[.pointer (some ⟨ql,0,none⟩),.pointer (some ⟨qr,0,none⟩),.bool false]] w λr w'=>r=.returned (.int .i64 0)/\Ud b mk B c0 c1 c2 c4 G D (Hq hd lc rc) (EX++(GU x.kids y.kids++[(⟨hd ql,hd qr,true⟩:tL)]).reverse) w w':=by
 have eH:=EP ai;have tj:Hid (hd (hd ql)=hd ql/\hd (hd qr)=hd qr):=EP ⟨hk.idem _,hk.idem _⟩;have vD:=EP bH;have bQ:Hid (∀(g:Nat) (cs:Array Value) (t:TypeId),w.heap[g]?=some (.cells cs t (0,0))->¬only mk g):=EP λg cs t hg e=>by
  have e:g=mk:=e;rw[e]at hg;exact d_.no hk.mp hg
 have HX:=EP hx;have HY:=EP hy;have HM:=EP hm;have tm:=EP ij;have HO:=EP ho;have sd:=EP hB;have HN:=EP hn;have jh:=EP dN;have BG:=EP hcr;have HLR:=EP gz;clear hm ij ho hB hn dN hcr gz;clear ai bH hx hy;have eK:mk<w.heap.size:=d_.lt hk.mp;have h1:JM b w.heap.size mk ql qr false c0 c1 c2 c4 hd w (w.alloc (.cells #[.pointer (some ⟨ql,0,none⟩),.pointer (some ⟨qr,0,none⟩),.bool false] 78)):=by
  have cJ:∀g,g<w.heap.size->(w.alloc (.cells #[.pointer (some ⟨ql,0,none⟩),.pointer (some ⟨qr,0,none⟩),.bool false] 78)).heap[g]?=w.heap[g]?:=λg hg=>BX _ _ _ hg;have bD:∀x,e_ w x->e_ (w.alloc (.cells #[.pointer (some ⟨ql,0,none⟩),.pointer (some ⟨qr,0,none⟩),.bool false] 78)) x:=λx ⟨cs,hx⟩=>⟨cs,(cJ x (BV.1 hx).1).trans hx⟩;exact⟨hb.alloc _,BZ _ _,⟨K,hk.al (cJ _ eK) bD⟩,bD _ hl,bD _ hr,bD _ jw,bD _ jv,(b_.refl _ _).alloc _⟩
 obtain⟨w1,bX⟩:∃W,w.alloc (.cells #[.pointer (some ⟨ql,0,none⟩),.pointer (some ⟨qr,0,none⟩),.bool false] 78)=W:=⟨_,rfl⟩;rw[bX]at h1;obtain⟨z0,z1,z2,zl⟩:=h1.drew.facts;have fQ:=EP (h1.drew.head ql h1.ll);have gS:=EP (h1.drew.head qr h1.lr);have fm:=EP bX;clear hb hk hl hr jw jv eK h1 bX;go_in;go_upto_region 1 with fail;rw[fm.o];go_cut [5,6] from 7 to 14 (λv5 v6 wx=>v5=.pointer (some ⟨hd ql,0,none⟩)/\v6=.pointer (some ⟨hd qr,0,none⟩)/\Hid (JM b w.heap.size mk ql qr false c0 c1 c2 c4 hd w wx))
 case first =>
  go_region_law (first
   |(go_simp;(with_reducible refine fQ.o.mono ?_);rintro r w5 ⟨rfl,be⟩;obtain⟨y0,y1,y2,yl⟩:=be.facts;have ei:=EP (be.head qr be.lr);clear be)
   |(go_simp;(with_reducible refine gS.o.mono ?_);rintro r w5 ⟨rfl,be⟩;obtain⟨y0,y1,y2,yl⟩:=be.facts;have pW:=EP (be.head ql be.ll);clear be)
   |(go_simp;(with_reducible refine ei.o.mono ?_);rintro r w6 ⟨rfl,cz⟩;obtain⟨x0,x1,x2,xl⟩:=cz.facts;have jE:=EP cz;clear cz)
   |(go_simp;(with_reducible refine pW.o.mono ?_);rintro r w6 ⟨rfl,cz⟩;obtain⟨x0,x1,x2,xl⟩:=cz.facts;have jE:=EP cz;clear cz))
  all_goals
   go_wp2_with fail;go_meet
   case rel=>exact⟨rfl,rfl,jE⟩
 case rest =>
  rename World=>V0;obtain⟨rfl,rfl,hw⟩:=hcut;have bR:=hw.o;have heq:=Ow bR.hl bR.hr;rw[CF eH.o]at heq;obtain⟨K5,aM⟩:=bR.kn;obtain⟨z0,z1,z2,zl⟩:=bR.facts;have aX:l_ V0 G D:=vD.o.same λk hk ⟨cs,t,hx⟩=>bR.ch.block k hk (bQ.o k cs t hx);obtain⟨A1,Ub,p0,-,-,-,-,-,-⟩:=(aX _ x HX.o).facts;obtain⟨A2,XI,q0,-,-,-,-,-,-⟩:=(aX _ y HY.o).facts;have lp:=(aX _ x HX.o).lt;have lq:=(aX _ y HY.o).lt;obtain⟨kx,dL⟩:∃k,x.kd=k:=⟨_,rfl⟩;obtain⟨ky,kC⟩:∃k,y.kd=k:=⟨_,rfl⟩;rw[dL]at p0
  rw[kC]at q0;have ij:=U3 (hd ql) (hd qr) x y _ _ V0 (aX _ x HX.o) (aX _ y HY.o);rw[tm.o]at ij;have nV:=EP ij;have jS:=EP bR;have Be:=EP aX;have jU:=EP aM;have hm:kx=5:=by rw[<-dL];exact HM.o
  have bL:ky=5:=by
   have h:=tm.o;unfold F_ at h;simp only[EB,ED]at h;rw[<-kC,<-h.1.1.1,dL,hm]
  have e2:((kx:Int)==2)=false:=by rw[hm];rfl
  have e3:((ky:Int)==2)=false:=by rw[bL];rfl
  have e5:((kx:Int)==5)=true:=by rw[hm];rfl
  have YA:=EP dL;clear ij bR aM aX hw fQ gS dL kC hm bL;go_wp2_with fail;refine nV.o.mono ?_;rintro e wf ⟨rfl,fE,WL⟩;have cX:l_ wf G D:=Be.o.same λk hk _=>fE.block k hk;obtain⟨A3,Ua,r0,-,-,-,r5,-,-⟩:=(cX _ x HX.o).facts;obtain⟨A4,cc4,-,-,-,-,t5,-,-⟩:=(cX _ y HY.o).facts;rw[YA.o]at r0
  rw[jh.o.1]at r5;rw[BG.o.1]at t5;replace r5:wf.cell? ⟨hd ql,5,none⟩=some (.pointer (some ⟨lc,0,none⟩)):=r5;replace t5:wf.cell? ⟨hd qr,5,none⟩=some (.pointer (some ⟨rc,0,none⟩)):=t5;have lp3:=(cX _ x HX.o).lt;have lq3:=(cX _ y HY.o).lt;have ug:Ms wf.drew mk K5:=d_.al jU.o.mp (fE.block mk (d_.lt jU.o.mp)) (λz ⟨cs,hz⟩=>⟨cs,(fE.block z (BV.1 hz).1).trans hz⟩);have hkf:Gl wf.drew mk K5 hd:=jU.o.al (fE.block mk (d_.lt jU.o.mp)) (λz ⟨cs,hz⟩=>⟨cs,(fE.block z (BV.1 hz).1).trans hz⟩);obtain⟨w6,aC,dI,dM,dS⟩:=d_.store ug JN underlying83 lc rc (cX lc xl jh.o.2.1).laid;have fe:(Instr.mapUpdate 83 (.map (some mk)) (.pointer (some ⟨lc,0,none⟩)) (.pointer (some ⟨rc,0,none⟩))).run prog wf.drew=.ok () w6:=aC;have qa:ar wf b 85 #[c0,c1,c2,.map (some mk),c4]:=jS.o.sb.below fE jS.o.sb.lt;have k3:wf.cell? ⟨b,3,none⟩=some (.map (some mk)):=qa.cell 3;have Wx:=qa.lt;have qt:∀(k:Nat) (cs:Array Value) (t:TypeId),wf.heap[k]?=some (.cells cs t (0,0))->w6.heap[k]?=wf.heap[k]?:=λk cs t hk=>dM.block k (BV.1 hk).1 (λe=>by injection e with e;rw[e]at hk;exact d_.no ug hk);have kG:Gl w6 mk (Gn K5 lc (some rc)) (Hq hd lc rc):=hkf.link jh.o.2.2 BG.o.2.2 HLR.o (cX lc xl jh.o.2.1).laid (cX rc yr BG.o.2.1).laid dI (λz ⟨cs,hz⟩=>⟨cs,(qt z cs _ hz).trans hz⟩);have mG:l_ w6 G D:=cX.same λk _ ⟨cs,t,hk⟩=>qt k cs t hk;have xH:=qa.same (qt _ _ _ qa);have ik:=Vl tm.o;have fU:=zjC (hd ql) (hd qr) x y (D _) (D _) w6.drew (tR.al (mG _ x HX.o) rfl (λ_=>rfl)) (tR.al (mG _ y HY.o) rfl (λ_=>rfl)) ik (by have:=HN.o;omega);have Yp:=EP fU;have lb6:=xH.lt;have oE:w6.ownsRow B 78 3 c0 EX.length (g_ EX):=GF HO.o (λg hg=>by
   obtain⟨_,hl,cur,aa⟩:=s_ HO.o g hg;have h0:=jS.o.ch.block g hl (bQ.o g cur _ aa);have h1:=(fE.block g (Ci hl jS.o.ch.size)).trans h0;exact(qt g cur _ (h1.trans aa)).trans h1)
  have uK:b_ (only mk) w w6:=((jS.o.ch.below fE).drew).grown dM (λk hk=>.inr (by injection hk with hk;exact hk.symm));have ed:Hid (∀(g c:Nat) (w5:World),Below w6.drew.heap.size w6.drew w5->w5.ownsRow w6.drew.heap.size 78 3 (.slice (some ⟨g,0,none⟩) (x.kids.length+1) c) (x.kids.length+1) (g_ (GU x.kids y.kids++[(⟨hd ql,hd qr,true⟩:tL)])) ->
    Calls prog 34 #[.pointer (some ⟨b,0,none⟩),.slice (some ⟨g,0,none⟩) (x.kids.length+1) c] w5 λe w'=>(∃z,e=.returned z)/\Ud b mk B c0 c1 c2 c4 G D (Hq hd lc rc) (EX++(GU x.kids y.kids++[(⟨hd ql,hd qr,true⟩:tL)]).reverse) w w'):=EP (by
   intro g c w5 aQ ic;obtain⟨aS,gM,dN⟩:=RV ic;have df:Below w6.heap.size w6 w5:=⟨aQ.os,aQ.tape,aQ.output,aQ.size,aQ.block⟩;have Zn:w6.heap.size<=g:=aS;have hlen:(GU x.kids y.kids++[(⟨hd ql,hd qr,true⟩:tL)]).length=x.kids.length+1:=by rw[Cb,Q0 _ _ ik];rfl
   have ke:w5.ownsRow B 78 3 c0 EX.length (g_ EX):=GF oE (λk hk=>df.block k (s_ oE k hk).2.1);have qJ:c0.ownBlock≠some b:=λe=>by
    obtain⟨_,_,cur,aa⟩:=s_ oE b e;exact ar.Gw (show ar w6 b _ cur from aa) xH (by decide) rfl
   have xI:=xH.below df lb6;have bV:=U4 b B 85 #[c0,c1,c2,.map (some mk),c4] (by simp) EX (GU x.kids y.kids++[(⟨hd ql,hd qr,true⟩:tL)]) c0 (some ⟨g,0,none⟩) c w5 xI ke (by have:=sd.o;have:=df.size;have:=uK.size;omega) qJ (by rw[hlen];have:=HN.o;omega) (λj q hq=>⟨g,rfl,gM,by omega,λe=>by have:=(s_ oE g e).2.1;omega,dN j q hq⟩);rw[hlen]at bV;refine bV.mono ?_;rintro e w' ⟨hz,v',d1,d2,-,-,-,d6⟩;have uI:b_ (λk=>k=mk\/k=b\/c0.ownBlock=some k) w w':=((uK.mono (λ_ _ h=>.inl h)).below df).trans' d6 (λk _ h=>.inr h);have km:∀(k:Nat) (cs:Array Value) (t:TypeId),w5.heap[k]?=some (.cells cs t (0,0))->t≠85->t≠78->w'.heap[k]?=w5.heap[k]?:=λk cs t hk mz tK=>d6.block k (BV.1 hk).1 (λh=>by
    rcases h with h|h
    ·exact ar.Gw (show ar w5 k t cs from hk) xI mz h
    ·obtain⟨_,_,cur,aa⟩:=s_ ke k h
     exact ar.Gw (show ar w5 k t cs from hk) (show ar w5 k _ cur from aa) tK rfl)
   have fY:mk<w6.heap.size:=d_.lt kG.mp;have oK:w5.heap[mk]?=w6.heap[mk]?:=df.block mk fY;have uh:w'.heap[mk]?=w5.heap[mk]?:=d6.block mk (Ci fY df.size) (λh=>by
    rcases h with h|h
    ·have h1:=xH
     rw[<-h]at h1;exact d_.no kG.mp h1
    ·obtain⟨_,_,cur,aa⟩:=s_ ke mk h
     rw[oK]at aa;exact d_.no kG.mp aa)
   refine⟨hz,v',d1,d2,⟨_,kG.al (uh.trans oK) (λz ⟨cs,sf⟩=>?_)⟩,?_,uI⟩
   ·have h5:w5.heap[z]?=some (.cells cs 132 (0,0)):=(df.block z (BV.1 sf).1).trans sf
    exact⟨cs,(km z cs _ h5 (by decide) (by decide)).trans h5⟩
   ·intro z nd bC
    have h5:tR w5 z nd (D z):=(mG z nd bC).al (df.block z (mG z nd bC).lt) (λhk=>df.block _ ((mG z nd bC).Jw hk));obtain⟨A7,c7,fk,yz⟩:=h5;refine tR.al ⟨A7,c7,fk,yz⟩ (km z _ _ fk (by decide) (by decide)) (λhk=>?_);obtain⟨_,cur,aa,_⟩:=yz hk;exact km _ cur _ aa (by decide) (by decide))
  clear ik fE WL cX fU qa oE nV p0 q0 lp lq z0 z1 z2 zl jS Be jU ug hkf aC dI dM dS qt kG mG xH uK;go_upto_region 12 with fail
  go_region
  all_goals
   clear fe r5 t5 r0 lp3 lq3 k3 Wx;go_upto_region 13 with fail
   go_region_law (first
    |(go_simp;(with_reducible refine Yp.o.mono ?_);rintro e w5 ⟨g,c,rfl,h5,ic⟩;have Yz:=EP (ed.o g c w5 h5 ic);clear h5 ic)
    |(go_simp;(with_reducible refine Yz.o.mono ?_);rintro e w6 ⟨⟨zz,rfl⟩,Mg⟩;have vK:=EP Mg;clear Mg))
   all_goals
    go_wp2_with fail;go_ret
    exact⟨rfl,vK.o⟩
end
section
open Go.RowKit Lx Tx Go.Maps Go.WideMaps
structure GM (b mu mk B:Nat) (G:Nat->Option Nd) (U:Nat->Option Nat) (hd:Nat->Nat) (s:Int) (D:Nat->Dy) (mv:Value) (v:Value) (EX:List tL) (W:World):Prop where
 sb:ar W b 85 #[v,mv,.map (some mu),.map (some mk),.int .i64 s]
 own:W.ownsRow B 78 3 v EX.length (g_ EX)
 kn:∃K',Gl W mk K' hd
 pd:l_ W G D
 mi:Ku W mu U
 lq:∀n p,U n=some p->e_ W p
 sr:∀q x,G q=some x->(D q).sr<=s
 fl:∀q x,G q=some x->(D q).fl=false
 da:∀q x,G q=some x->∃a m c,(D q).A=.slice a m c
 mm:mu≠mk
 hB:B<=W.heap.size
def IY(hd:Nat->Nat)(L:List Nat):Nat:=(L.filter λq=>decide (hd q=q)).length
theorem SE {hd:Nat->Nat} {m t:Nat} {L:List Nat}(hm:hd m=m)(ht:hd t=t)(ie:m≠t)(hL:m∈L):IY (Hq hd m t) L<IY hd L:=by
 refine Wj _ _ m L (λn hn=>?_) hL (by simpa using hm) ?_
 ·have hn:Hq hd m t n=n:=by simpa using hn
  simpa using Vb ht hn
 ·have:Hq hd m t m≠m:=by rw[PD hm];exact Et ie
  simpa using this
theorem Vk {G:Nat->Option Nd} {hd:Nat->Nat} {m t:Nat}(h:∀p,hd p≠p->∃x,G p=some x)(hm:∃x,G m=some x):∀p,Hq hd m t p≠p->∃x,G p=some x:=λp hp=>by
 by_cases e:hd p=m
 ·by_cases e2:hd p=p
  ·rw[<-e2,e];exact hm
  ·exact h p e2
 ·rw[MZ e]at hp;exact h p hp
theorem Ha.nodes {G:Nat->Option Nd} {L:List Nat} {hd:Nat->Nat} {k:Sb} {q:tL} {r:List tL} {f:Nat} {o:Nat ⊕ Sb}(h:Ha G L hd k (q::r) f o):Gr G hd L/\(∃x,G q.l=some x)/\(∃x,G q.r=some x)/\(∃x,G (hd q.l)=some x)/\∃x,G (hd q.r)=some x:=by
 obtain⟨E,Eu,Ns,O,S,he,hu,hm⟩:=h;rw[pf]at he;obtain⟨el,er,dl,dr,nl,nr,h1,h2,h3,-⟩:=he;obtain⟨x,hx,-⟩:=h2.node;obtain⟨y,hy,-⟩:=h3.node;exact⟨S.gr,⟨x,hx⟩,⟨y,hy⟩,S.gr.Fw _ x hx,S.gr.Fw _ y hy⟩
section
variable {b mu mk B:Nat} {G:Nat->Option Nd} {L:List Nat} {U:Nat->Option Nat} {hd jO:Nat->Nat} {s s':Int} {D D':Nat->Dy} {mv v v':Value} {EX tA:List tL} {W W':World}
theorem GM.no(h:GM b mu mk B G U hd s D mv v EX W) {g:Nat} {cs:Array Value} {t:TypeId}(hg:W.heap[g]?=some (.cells cs t (0,0))):g≠mk:=λe=>by
 obtain⟨K,hK⟩:=h.kn;rw[e]at hg;exact d_.no hK.mp hg
theorem GM.step(h:GM b mu mk B G U hd s D mv v EX W)(sb:ar W' b 85 #[v',mv,.map (some mu),.map (some mk),.int .i64 s'])(own:W'.ownsRow B 78 3 v' tA.length (g_ tA))(kn:∃K',Gl W' mk K' jO)
  (pd:l_ W' G D')(hc:b_ (λg=>g=mk\/g=b\/(∃x,G g=some x)\/v.ownBlock=some g) W W')(sr:∀q x,G q=some x->(D' q).sr<=s')(fl:∀q x,G q=some x->(D' q).fl=false)(da:∀q x,G q=some x->∃a m c,(D' q).A=.slice a m c):GM b mu mk B G U jO s' D' mv v' tA W' where
 sb:=sb
 own:=own
 kn:=kn
 pd:=pd
 mi:=d_.al h.mi (hc.block _ (d_.lt h.mi) (by
  rintro(e|e|⟨x,e⟩|e)
  ·exact h.mm e
  ·have:=h.sb;rw[<-e]at this;exact d_.no h.mi this
  ·obtain⟨A,c,hb,_⟩:=h.pd _ x e;exact d_.no h.mi hb
  ·obtain⟨_,_,cur,aa⟩:=s_ h.own _ e;exact d_.no h.mi aa)) (λ_ h=>h)
 lq n p hn:=by
  cases hG:G p with
  |some x=>exact(pd p x hG).laid
  |none =>
   obtain⟨cs,hx⟩:=h.lq n p hn;refine⟨cs,(hc.block p (BV.1 hx).1 ?_).trans hx⟩;rintro(e|e|⟨x,e⟩|e)
   ·exact h.no hx e
   ·exact ar.Gw (show ar W p _ cs from hx) h.sb (by decide) e
   ·rw[hG]at e;cases e
   ·obtain⟨_,_,cur,aa⟩:=s_ h.own _ e
    exact ar.Gw (show ar W p _ cs from hx) (show ar W p _ cur from aa) (by decide) rfl
 sr:=sr
 fl:=fl
 da:=da
 mm:=h.mm
 hB:=Cm h.hB hc.size
theorem GM.row(h:GM b mu mk B G U hd s D mv v EX W)(hc:b_ (λg=>g=mk\/g=b\/∃x,G g=some x) W W'):W'.ownsRow B 78 3 v EX.length (g_ EX):=GF h.own λg hg=>by
 obtain⟨_,hl,cur,aa⟩:=s_ h.own g hg;refine hc.block g hl ?_;rintro(e|e|⟨x,e⟩)
 ·exact h.no aa e
 ·exact ar.Gw (show ar W g _ cur from aa) h.sb (by decide) e
 ·obtain⟨A,c,hb,_⟩:=h.pd _ x e
  exact ar.Gw (show ar W g _ cur from aa) hb (by decide) rfl
end
def ZK(b mu mk B:Nat)(G:Nat->Option Nd)(L:List Nat)(U:Nat->Option Nat)(mv:Value)(C N0 M:Nat)(o:Nat ⊕ Sb)(r:Int)(W':World):Prop :=
 (r=0/\∃hd k f EX s D v,Jh f EX.reverse<M/\Ha G L hd k EX.reverse f o/\y_ G k [] EX.reverse/\Fg G C 0 EX.reverse/\GM b mu mk B G U hd s D mv v EX W'/\0<=s/\s+(IY hd L:Nat)<=N0/\(∀p,hd p≠p->∃x,G p=some x))\/(0<r/\o=.inl r.toNat)
theorem zpD(b mu mk B:Nat)(G:Nat->Option Nd)(L:List Nat)(U:Nat->Option Nat)(hd:Nat->Nat)(k:Sb)(s:Int)(D:Nat->Dy)(mv v:Value)(EX:List tL)(q:tL)(f C N0:Nat)(o:Nat ⊕ Sb)(W:World)
  (gs:L7 G)(hS:Ha G L hd k (q::EX.reverse) f o)(h1:y_ G k [] (q::EX.reverse))(h2:Fg G C 0 (q::EX.reverse))(hw:GM b mu mk B G U hd s D mv v EX W)(gI:0<=s)(hs:s+(IY hd L:Nat)<=N0)(Xz:N0<=2000000000000)(mw:1+C+wg G [] L<=2000000000000)(oh:∀p,hd p≠p->∃x,G p=some x):Calls prog 36 #[.pointer (some ⟨b,0,none⟩),.agg #[.pointer (some ⟨q.l,0,none⟩),.pointer (some ⟨q.r,0,none⟩),.bool q.d]] W λe W'=>∃r,e=.returned (.int .i64 r)/\ZK b mu mk B G L U mv C N0 (Jh f (q::EX.reverse)) o r W'/\b_ (λg=>g=mk\/g=b\/(∃x,G g=some x)\/v.ownBlock=some g) W W':=by
 obtain⟨hg,⟨nl,WX⟩,⟨nr,fh⟩,⟨x,hx⟩,⟨y,hy⟩⟩:=hS.nodes;obtain⟨K,hK⟩:=hw.kn;have we:=(hw.pd _ _ WX).laid;have vZ:=(hw.pd _ _ fh).laid;have wj:=(hw.pd _ _ hx).laid;have wh:=(hw.pd _ _ hy).laid;have eK:∀ {W':World},b_ (only mk) W W'->b_ (λg=>g=mk\/g=b\/∃x,G g=some x) W W':=λh=>h.mono λ_ _ e=>.inl e;have oi:∀ {W':World},b_ (λg=>g=mk\/g=b\/∃x,G g=some x) W W'->b_ (λg=>g=mk\/g=b\/(∃x,G g=some x)\/v.ownBlock=some g) W W':=λh=>h.mono λ_ _ e=>by
  rcases e with e|e|e
  ·exact .inl e
  ·exact .inr (.inl e)
  ·exact .inr (.inr (.inl e))
 have yD:∀ {W':World},b_ (only mk) W W'->l_ W' G D:=λh=>hw.pd.same λg hl ⟨cs,t,hc⟩=>h.block g hl (hw.no hc);have arz:∀ {W':World},b_ (only mk) W W'->ar W' b 85 #[v,mv,.map (some mu),.map (some mk),.int .i64 s]:=λh=>hw.sb.same (h.block _ hw.sb.lt (hw.no hw.sb));by_cases heq:hd q.l=hd q.r
 ·
  refine(zpx b mk q.l q.r q.d (.int .i64 s) v mv (.map (some mu)) K hd W hw.sb hK we vZ wj wh heq).mono ?_;rintro e W' ⟨rfl,ee,hk⟩;obtain⟨f',hm,gJ⟩:=hS.same heq;refine⟨0,rfl,.inl ⟨rfl,hd,k,f',EX,s,D,v,hm,gJ,h1.pop,h2.pop,hw.step hk.sb (hw.row (eK hk.ch)) hk.kn (yD hk.ch) (oi (eK hk.ch)) hw.sr hw.fl hw.da,gI,hs,oh⟩,oi (eK hk.ch)⟩
 ·cases hq:q.d with
  |true =>
   refine(zpy b mk q.l q.r (.int .i64 s) v mv (.map (some mu)) K hd W hw.sb hK we vZ wj wh heq).mono ?_;rintro e W' ⟨rfl,jm,cA,hc⟩;obtain⟨hm,gJ⟩:=hS.done hq heq;have af:=SE (hg.IX q.l) (hg.IX q.r) heq (hg.all _ x hx);exact⟨0,rfl,.inl ⟨rfl,_,k,f,EX,s,D,v,hm,gJ,h1.pop,h2.pop,hw.step jm (hw.row (eK hc)) cA (yD hc) (oi (eK hc)) hw.sr hw.fl hw.da,gI,by omega,Vk oh ⟨x,hx⟩⟩,oi (eK hc)⟩
  |false =>
   by_cases hu:x.kd=2\/y.kd=2
   ·
    have Xy:s<5000000000000:=by omega
    refine(zpz b mk q.l q.r s v mv (.map (some mu)) K hd W hw.sb hK we vZ wj wh G D L hw.pd hg hw.sr x y hx hy heq hu (by omega) gI Xy).mono ?_;rintro e W' ⟨r,Vs,rfl,eE,jm,cA,bH,hc⟩;obtain⟨c1,c2⟩:=hS.Fs gs hq heq hx hy hu eE;refine⟨r,rfl,?_,oi hc⟩;by_cases hr:r=0
    ·subst hr
     obtain⟨f',k',hm,⟨j,u,rfl⟩,gJ⟩:=c1 rfl;rw[Ch rfl]at cA;have af:IY (Hq hd (Hy (hd q.l) (hd q.r) x y).1 (Hy (hd q.l) (hd q.r) x y).2) L<IY hd L:=by
      unfold Hy;split
      ·exact SE (hg.IX q.r) (hg.IX q.l) (Et heq) (hg.all _ y hy)
      ·exact SE (hg.IX q.l) (hg.IX q.r) heq (hg.all _ x hx)
     refine .inl ⟨rfl,_,_,f',EX,s+1,dV D (s+1) Vs,v,hm,gJ,h1.pop.GI j u,h2.pop,hw.step jm (hw.row hc) cA bH (oi hc) (λz xz hz=>?_) (λz xz hz=>?_) (λz xz hz=>?_),by omega,by omega,Vk oh ?_⟩
     ·have:=hw.sr z xz hz
      unfold dV;split
      ·exact Int.le_refl _
      ·omega
     ·unfold dV
      split
      ·exact hw.fl z xz hz
      ·exact hw.fl z xz hz
     ·unfold dV
      split
      ·exact hw.da z xz hz
      ·exact hw.da z xz hz
     ·unfold Hy
      split
      ·exact⟨y,hy⟩
      ·exact⟨x,hx⟩
    ·refine .inr ⟨?_,c2 hr⟩
     rcases eE with⟨h,_⟩|⟨_,⟨h,_⟩|⟨_,⟨h,_⟩|⟨h,_⟩⟩⟩ <;> omega
   ·have tG:x.kd≠2:=λe=>hu (.inl e)
    have tF:y.kd≠2:=λe=>hu (.inr e);cases hf:F_ x y with
    |false =>
     refine(zpA b mk q.l q.r (.int .i64 s) v mv (.map (some mu)) K hd W hw.sb hK we vZ wj wh G D hw.pd x y hx hy heq ⟨tG,tF⟩ hf).mono ?_;rintro e W' ⟨rfl,jm,cA,bH,hc⟩;exact⟨40,rfl,.inr ⟨by decide,hS.FA gs hq heq hx hy ⟨tG,tF⟩ hf⟩,oi (eK hc)⟩
    |true =>
     have hlen:=Vl hf;obtain⟨s1,n1⟩:=hS.EX hq hx hlen h1 h2;have hsl:=s1.len n1 hg.all;have hle:EX.length+x.kids.length+1<=2000000000000:=by
      rw[Cb,Q0 _ _ hlen,Ca,DO]at hsl;omega
     have yt:(EX++(GU x.kids y.kids++[(⟨hd q.l,hd q.r,true⟩:tL)]).reverse).reverse=GU x.kids y.kids++⟨hd q.l,hd q.r,true⟩::EX.reverse:=by
      rw[Ec,DU,DC];rfl
     have qK:∀ {W':World},b_ (λg=>g=mk\/g=b\/v.ownBlock=some g) W W'->b_ (λg=>g=mk\/g=b\/(∃x,G g=some x)\/v.ownBlock=some g) W W':=λh=>h.mono λ_ _ e=>by
      rcases e with e|e|e
      ·exact .inl e
      ·exact .inr (.inl e)
      ·exact .inr (.inr (.inr e))
     by_cases h5:x.kd=5
     ·obtain⟨lc,rc,xl,yr,a1,a2,a3,a4,a5,a6,a7,f',hm,gJ⟩:=hS.open_ hq hx hy h5 hf
      refine(zpC b mk q.l q.r (.int .i64 s) v mv (.map (some mu)) K hd W hw.sb hK we vZ wj wh G D hw.pd x y hx hy heq h5 hf lc rc xl yr ⟨a1,a2,a3⟩ ⟨a4,a5,a6⟩ a7 B EX hw.hB hw.own hle).mono ?_;rintro e W' ⟨rfl,v',jm,aj,cA,bH,hc⟩;have af:=SE a3 a6 a7 (hg.all _ xl a2);rw[<-yt]at s1 n1 gJ hm;exact⟨0,rfl,.inl ⟨rfl,_,k,f',_,s,D,v',hm,gJ,s1,n1,hw.step jm aj cA bH (qK hc) hw.sr hw.fl hw.da,gI,by omega,Vk oh ⟨xl,a2⟩⟩,qK hc⟩
     ·obtain⟨f',hm,gJ⟩:=hS.push hq hx hy ⟨tG,tF,h5⟩ hf
      refine(zpB b mk q.l q.r (.int .i64 s) v mv (.map (some mu)) K hd W hw.sb hK we vZ wj wh G D hw.pd x y hx hy heq ⟨tG,tF,h5⟩ hf B EX hw.hB hw.own hle).mono ?_;rintro e W' ⟨rfl,v',jm,aj,cA,bH,hc⟩;rw[<-yt]at s1 n1 gJ hm;exact⟨0,rfl,.inl ⟨rfl,_,k,f',_,s,D,v',hm,gJ,s1,n1,hw.step jm aj cA bH (qK hc) hw.sr hw.fl hw.da,gI,hs,oh⟩,qK hc⟩
def KZ(G:Nat->Option Nd)(h:Nat):Nd:=(G h).getD ⟨0,⟨#[]⟩,0,[],none,false⟩
def E5(G:Nat->Option Nd)(D:Nat->Dy):List Nat->List Value
 |[]=>[]
 |h::r=>.int .i64 ((KZ G h).kd:Nat)::.string (KZ G h).nm::.int .i64 ((KZ G h).n:Nat)::(D h).A::E5 G D r
theorem Wm(G:Nat->Option Nd)(D:Nat->Dy):(l r:List Nat)->E5 G D (l++r)=E5 G D l++E5 G D r
 |[],r=>rfl
 |h::l,r=>by rw[Co,E5,E5,Wm G D l r];rfl
def Jf(D:Nat->Dy)(l:List Nat):List Nat:=l.filter λh=>!(D h).fl
theorem Pd:(prog.info? 37).map (λi=>(i.zero,i.size,i.bytes))=some (some (.agg #[.int .i64 0,.string ⟨#[]⟩,.int .i64 0,.slice none 0 0]),4,56):=by kernel_rfl
structure MN (b mk:Nat) (c0 c1 c2 c4:Value) (G:Nat->Option Nd) (D:Nat->Dy) (hd:Nat->Nat) (w wr:World):Prop where
 sb:ar wr b 85 #[c0,c1,c2,.map (some mk),c4]
 kn:∃K',Gl wr mk K' hd
 pd:l_ wr G D
 ch:b_ (only mk) w wr
theorem MN.below {b mk:Nat} {c0 c1 c2 c4:Value} {G:Nat->Option Nd} {D:Nat->Dy} {hd:Nat->Nat} {w wr w':World}(h:MN b mk c0 c1 c2 c4 G D hd w wr)(hk:∀(g:Nat),g<w.heap.size->w'.heap[g]?=wr.heap[g]?)(hl:∀g,G g≠none->g<w.heap.size)(hr:∀q x,G q=some x->x.kids≠[]->(D q).row<w.heap.size)(hb:b<w.heap.size)(hm:mk<w.heap.size)(bD:∀x,e_ wr x->e_ w' x)(hc:b_ (only mk) w w'):MN b mk c0 c1 c2 c4 G D hd w w' :=
 ⟨h.sb.same (hk _ hb),by obtain⟨K,hK⟩:=h.kn;exact⟨K,hK.al (hk _ hm) bD⟩,h.pd.but (λq x hx=>hk _ (hl q (by rw[hx];simp))) (λq x hx hn=>hk _ (hr q x hx hn)),hc⟩
def Li(b mk:Nat)(c0 c1 c2 c4:Value)(G:Nat->Option Nd)(D:Nat->Dy)(hd:Nat->Nat)(kids:List Nat)(w:World)(n gg:Nat)(v4 v5 vi:Value)(wr:World):Prop :=
 ∃i:Nat,gg=n-i/\vi=.int .i64 i/\i<=n/\wr.ownsRow w.heap.size 37 4 v4 i (E5 G D ((kids.take i).map hd))/\wr.ownsRow w.heap.size 75 1 v5 (Jf D ((kids.take i).map hd)).length ((Jf D ((kids.take i).map hd)).map PK) /\
  MN b mk c0 c1 c2 c4 G D hd w wr
structure GN (b mk lo:Nat) (c0 c1 c2 c4:Value) (G:Nat->Option Nd) (k:Sb) (hd:Nat->Nat) (T:Nat->Prop) (D:Nat->Dy) (W:World):Prop where
 sb:ar W b 85 #[c0,c1,c2,.map (some mk),c4]
 kn:∃K',Gl W mk K' hd
 pd:l_ W G D
 fd:∀q x,G q=some x->(D q).fl=true->FV G q/\hd q=q/\∃A c,(D q).A=.slice A x.kids.length c/\j_ T W (pw (tv G k q)) A
 da:∀q x,G q=some x->∃a m c,(D q).A=.slice a m c
 tt:∀g,T g->lo<=g/\∃cur,W.heap[g]?=some (.cells cur 37 (0,0))
 lb:b<lo/\mk<lo/\(∀q x,G q=some x->q<lo)/\(∀q x,G q=some x->x.kids≠[]->(D q).row<lo)
 ls:lo<=W.heap.size
section
variable {b mk lo:Nat} {c0 c1 c2 c4:Value} {G:Nat->Option Nd} {L:List Nat} {k:Sb} {hd:Nat->Nat} {T T':Nat->Prop} {D:Nat->Dy} {W W':World} {Ns O:List Nat}
theorem GN.al(h:GN b mk lo c0 c1 c2 c4 G k hd T D W)(hb:∀g,g<lo->W'.heap[g]?=W.heap[g]?)(hT:∀g,T g->W'.heap[g]?=W.heap[g]?)(hl:∀x,e_ W x->e_ W' x)(hs:W.heap.size<=W'.heap.size):GN b mk lo c0 c1 c2 c4 G k hd T D W' where
 sb:=h.sb.same (hb _ h.lb.1)
 kn:=by obtain⟨K,hK⟩:=h.kn;exact⟨K,hK.al (hb _ h.lb.2.1) hl⟩
 pd:=h.pd.but (λq x hx=>hb _ (h.lb.2.2.1 q x hx)) (λq x hx hn=>hb _ (h.lb.2.2.2 q x hx hn))
 fd q x hx hf:=by
  obtain⟨h1,h2,A,c,h3,h4⟩:=h.fd q x hx hf;exact⟨h1,h2,A,c,h3,h4.al (λ_ h=>h) hT⟩
 da:=h.da
 tt g hg:=by
  obtain⟨h1,cur,h2⟩:=h.tt g hg;exact⟨h1,cur,(hT g hg).trans h2⟩
 lb:=h.lb
 ls:=Cm h.ls hs
theorem GN.head(h:GN b mk lo c0 c1 c2 c4 G k hd T D W)(hc:b_ (only mk) W W')(hk:∃K',Gl W' mk K' hd):GN b mk lo c0 c1 c2 c4 G k hd T D W':=by
 obtain⟨K,hK⟩:=h.kn;have ai:∀(g:Nat) (cs:Array Value) (t:TypeId),W.heap[g]?=some (.cells cs t (0,0))->W'.heap[g]?=W.heap[g]?:=λg cs t hg=>hc.block g (BV.1 hg).1 (λe=>by
  have e:g=mk:=e;rw[e]at hg;exact d_.no hK.mp hg)
 have hT:∀g,T g->W'.heap[g]?=W.heap[g]?:=λg hg=>by obtain⟨_,cur,aa⟩:=h.tt g hg;exact ai g cur _ aa
 exact⟨h.sb.same (ai _ _ _ h.sb),hk,h.pd.same λg _ ⟨cs,t,hg⟩=>ai g cs t hg,λq x hx hf=>by
  obtain⟨h1,h2,A,c,h3,h4⟩:=h.fd q x hx hf;exact⟨h1,h2,A,c,h3,h4.al (λ_ h=>h) hT⟩,h.da,λg hg=>by
  obtain⟨h1,cur,h2⟩:=h.tt g hg;exact⟨h1,cur,(hT g hg).trans h2⟩,h.lb,Cm h.ls hc.size⟩
theorem GN.rows(h:GN b mk lo c0 c1 c2 c4 G k hd T D W)(S:F0 G L hd k Ns O):(l:List Nat)->(∀q∈l,(∃x,G q=some x)/\(D q).fl=true)->fs T W (l.map λq=>pw (tv G k q)) (E5 G D l)
 |[],_=>by rw[List.map_nil,fs,E5]
 |q::l,hl=>by
  obtain⟨⟨x,hx⟩,hf⟩:=hl q (by simp);obtain⟨h1,h2,A,c,h3,h4⟩:=h.fd q x hx hf;obtain⟨t1,t2,t3,t4,-,-⟩:=S.Iq h1 h2 hx;rw[CA,fs];refine⟨A,c,E5 G D l,?_,h4,GN.rows h S l λz hz=>hl z (by simp[hz])⟩;have eJ:KZ G q=x:=by unfold KZ;rw[hx];rfl
  rw[E5,eJ,h3,t1,t2,t3];unfold Hx;rw[t4,CE];rfl
theorem GN.fill(h:GN b mk lo c0 c1 c2 c4 G k hd T D W)(S:F0 G L hd k Ns O) {q:Nat} {x:Nd}(hx:G q=some x)(hf:FV G q)(hq:hd q=q)(aK:∀c∈x.kids,(D (hd c)).fl=true) {B:Nat} {A:Option Addr} {c:Nat}(hB:lo<=B)
  (ho:W.ownsRow B 37 4 (.slice A x.kids.length c) x.kids.length (E5 G D (x.kids.map hd))):GN b mk lo c0 c1 c2 c4 G k hd (λg=>T g\/(Value.slice A x.kids.length c).ownBlock=some g) (Gn D q { D q with A:=.slice A x.kids.length c,fl:=true }) ((W.setCell ⟨q,3,none⟩ (.slice A x.kids.length c)).setCell ⟨q,7,none⟩ (.bool true)):=by
 obtain⟨W2,iL⟩:∃X,(W.setCell ⟨q,3,none⟩ (.slice A x.kids.length c)).setCell ⟨q,7,none⟩ (.bool true)=X:=⟨_,rfl⟩;rw[iL];have ai:∀g,g≠q->W2.heap[g]?=W.heap[g]?:=λg hg=>by
  rw[<-iL];exact(B8 _ _ _ _ hg).trans (B8 _ _ _ _ hg)
 have arG:=h.lb.2.2.1 q x hx;have Xv:∀g,T g->g≠q:=λg hg e=>by have:=(h.tt g hg).1;omega
 have aj:∀g,(Value.slice A x.kids.length c).ownBlock=some g->lo<=g/\∃cur,W.heap[g]?=some (.cells cur 37 (0,0)):=λg hg=>by
  obtain⟨h1,_,cur,aa⟩:=s_ ho g hg;exact⟨by omega,cur,aa⟩
 have aZ:W2.heap.size=W.heap.size:=by rw[<-iL];simp
 obtain⟨A0,c9,aB,qg⟩:=h.pd q x hx;have ja:ar W2 q 132 #[.int .i64 (x.kd:Nat),.string x.nm,.int .i64 (x.n:Nat),.slice A x.kids.length c,.slice A0 x.kids.length c9,Hc x.h_,.bool x.new,.bool true,.int .i64 (D q).sr]:=by
  rw[<-iL];exact Cl _ q 7 _ _ (.bool true) (Cl W q 3 _ _ (.slice A x.kids.length c) aB)
 obtain⟨K,hK⟩:=h.kn;have hmq:mk≠q:=λe=>by rw[<-e]at aB;exact d_.no hK.mp aB
 have cJ:b≠q:=ar.Gw h.sb aB (by decide);have Zp:j_ (λg=>T g\/(Value.slice A x.kids.length c).ownBlock=some g) W2 (pw (tv G k q)) A:=by
  obtain⟨-,-,-,t4,-,-⟩:=S.Iq hf hq hx;refine(M5 _ _ _ _).2 λhk=>?_;have cA:x.kids.length≠0:=λe=>hk (by rw[t4,Cn e];rfl);have yj:=h.rows S (x.kids.map hd) (λz hz=>by
   obtain⟨cc,qp,rfl⟩:=Ct.1 hz;obtain⟨y,hy⟩:=S.gr.KX q x hx cc qp;exact⟨S.gr.Fw cc y hy,aK cc qp⟩)
  rcases ho.2 with⟨h1,h0⟩|⟨g,cap,cur,h1,h2⟩
  ·exact absurd h0 cA
  ·injection h1 with e1 e2 e3
   subst e1;refine⟨g,rfl,.inr rfl,?_⟩;have af:=ho.lt g rfl;rw[t4,show(x.kids.map λc=>pw (tv G k (hd c)))=(x.kids.map hd).map λq=>pw (tv G k q) by rw[DS];rfl];refine fs.row (S:=λg'=>T g'\/(Value.slice (some ⟨g,0,none⟩) x.kids.length c).ownBlock=some g') _ _ 0 (fs.al (λ_ h=>.inl h) (λz hz=>ai z (Xv z hz)) _ _ yj) λj u hu=>?_;have ay:=ho.cells (g:=g) rfl j u hu;have aN:(⟨g,0,none⟩:Addr).add j=⟨g,j,none⟩:=by unfold Addr.add;split <;> simp_all
   rw[aN]at ay;rw[Dm];exact(Ck (w:=W) (a:=⟨g,j,none⟩) (ai g (by omega))).trans ay
 refine⟨h.sb.same (ai _ cJ),⟨K,hK.al (ai _ hmq) (λz hz=>by rw[<-iL];exact(hz.setCell _ _ _).setCell _ _ _)⟩,?_,?_,?_,?_,⟨h.lb.1,h.lb.2.1,h.lb.2.2.1,λz y hy hn=>?_⟩,by rw[aZ];exact h.ls⟩
 ·intro z y hy
  by_cases e:z=q
  ·subst e
   rw[hx]at hy;injection hy with hy;subst hy;rw[Gm]
   refine⟨A0,c9,ja,λhk=>?_⟩;obtain⟨e1,cur,hc,fx⟩:=qg hk;exact⟨e1,cur,(ai _ (ar.Gw (show ar W (D z).row _ cur from hc) aB (by decide))).trans hc,fx⟩
  ·rw[Fk _ _ _ _ e]
   have hz:=h.pd z y hy;exact hz.al (ai _ e) (λhk=>ai _ (hz.ne ⟨A0,c9,aB,qg⟩ hk))
 ·intro z y hy Xf
  by_cases e:z=q
  ·subst e
   rw[hx]at hy;injection hy with hy;subst hy;rw[Gm]
   exact⟨hf,hq,A,c,rfl,Zp⟩
  ·rw[Fk _ _ _ _ e]at Xf ⊢
   obtain⟨h1,h2,A',c',h3,h4⟩:=h.fd z y hy Xf;exact⟨h1,h2,A',c',h3,h4.al (λ_ h=>.inl h) (λg hg=>ai g (Xv g hg))⟩
 ·intro z y hy
  by_cases e:z=q
  ·rw[e,Gm];exact⟨A,_,c,rfl⟩
  ·rw[Fk _ _ _ _ e];exact h.da z y hy
 ·intro g hg
  rcases hg with hg|hg
  ·obtain⟨h1,cur,h2⟩:=h.tt g hg
   exact⟨h1,cur,(ai g (Xv g hg)).trans h2⟩
  ·obtain⟨h1,cur,h2⟩:=aj g hg
   exact⟨h1,cur,(ai g (by omega)).trans h2⟩
 ·by_cases e:z=q
  ·subst e;rw[Gm];exact h.lb.2.2.2 z y hy hn
  ·rw[Fk _ _ _ _ e];exact h.lb.2.2.2 z y hy hn
end
def Mv(b mk:Nat)(c0 c1 c2 c4:Value)(G:Nat->Option Nd)(D:Nat->Dy)(hd:Nat->Nat)(kids:List Nat)(w:World)(e:Ending)(w':World):Prop :=
 ∃v4 v5,e=.returned (.tuple #[v4,v5])/\w'.ownsRow w.heap.size 37 4 v4 kids.length (E5 G D (kids.map hd))/\w'.ownsRow w.heap.size 75 1 v5 (Jf D (kids.map hd)).length ((Jf D (kids.map hd)).map PK)/\MN b mk c0 c1 c2 c4 G D hd w w'
theorem Le {w:World} {B B':Nat} {t t':TypeId} {s s' n n':Nat} {v v':Value} {xs xs':List Value}(h:w.ownsRow B t s v n xs)(k:w.ownsRow B' t' s' v' n' xs')(ht:t≠t')(g:Nat)(hg:v.ownBlock=some g):v'.ownBlock≠some g:=λe=>by
 obtain⟨_,_,cur,hc⟩:=s_ h g hg;obtain⟨_,_,AB,sT⟩:=s_ k g e;exact ar.Gw (show ar w g t cur from hc) (show ar w g t' AB from sT) ht rfl
theorem MN.app {b mk:Nat} {c0 c1 c2 c4:Value} {G:Nat->Option Nd} {D:Nat->Dy} {hd:Nat->Nat} {w wr w':World}(h:MN b mk c0 c1 c2 c4 G D hd w wr)(lt:b<w.heap.size/\mk<w.heap.size/\(∀g,G g≠none->g<w.heap.size)/\(∀q x,G q=some x->x.kids≠[]->(D q).row<w.heap.size))
  {o:Obj} {v:Value} {t:TypeId} (ht:132≠t) (hv:∀k,v.ownBlock=some k->w.heap.size<=k/\k<wr.heap.size/\∃cur,wr.heap[k]?=some (.cells cur t (0,0))) (hg:(wr.alloc o).grownBy w' v.ownBlock):MN b mk c0 c1 c2 c4 G D hd w w':=by
 have hs:=h.ch.size;refine h.below (λg jN=>(hg.block g (by simp;omega) (λe=>by have:=(hv g e.symm).1;omega)).trans (BX _ _ _ (by omega))) lt.2.2.1 lt.2.2.2 lt.1 lt.2.1 (λx ⟨cs,hx⟩=>?_) ((h.ch.alloc o).grown hg (λk hk=>.inl (hv k hk).1));have hl:=(BV.1 hx).1;exact⟨cs,((hg.block x (by simp;omega) (λe=>by
  obtain⟨_,_,cur,aa⟩:=hv x e.symm;exact ar.Gw (show ar wr x _ cs from hx) (show ar wr x _ cur from aa) ht rfl)).trans (BX _ _ _ hl)).trans hx⟩
theorem zkm(D:Nat->Dy)(l:List Nat)(h:Nat):Jf D (l++[h])=Jf D l++(if(D h).fl=true then[] else[h]):=by
 unfold Jf;rw[Eg];congr 1
 by_cases e:(D h).fl=true
 ·rw[Ch e];simp[e]
 ·rw[Cg e];simp[e]
theorem ziI(b mk q:Nat)(x:Nd)(c0 c1 c2 c4:Value)(G:Nat->Option Nd)(D:Nat->Dy)(K:Nat->Option Nat)(hd:Nat->Nat)(L:List Nat)(w:World)
  (hb:ar w b 85 #[c0,c1,c2,.map (some mk),c4])(hk:Gl w mk K hd)(bH:l_ w G D)(hg:Gr G hd L)(hx:G q=some x)(hA:∀h y,G h=some y->∃a m c,(D h).A=.slice a m c)(hn:x.kids.length<=2000000000000):Calls prog 121 #[.pointer (some ⟨b,0,none⟩),.pointer (some ⟨q,0,none⟩)] w (Mv b mk c0 c1 c2 c4 G D hd x.kids w):=by
 obtain⟨i0,bK,cj,bS,bC⟩:=Dx Pd;obtain⟨j0,kH,wm,lE,mq⟩:=Dx Ir;obtain⟨A,c,-,-,-,p4,-,-,hr⟩:=(bH q x hx).facts;have iU:=(bH q x hx).lt;have hI0:MN b mk c0 c1 c2 c4 G D hd w w:=⟨hb,⟨K,hk⟩,bH,b_.refl _ _⟩;have bQ:Hid (∀(g:Nat) (cs:Array Value) (t:TypeId),w.heap[g]?=some (.cells cs t (0,0))->g≠mk):=EP λg cs t hg e=>by
  rw[e]at hg;exact d_.no hk.mp hg
 have au:Hid (b<w.heap.size/\mk<w.heap.size/\(∀g,G g≠none->g<w.heap.size)/\(∀q x,G q=some x->x.kids≠[]->(D q).row<w.heap.size)):=EP ⟨hb.lt,d_.lt hk.mp,λg hg=>by
  cases h:G g with
  |none=>exact(hg h).elim
  |some y=>exact(bH g y h).lt,λq x hx hn=>(bH q x hx).Jw hn⟩
 obtain⟨n,qh⟩:∃n,x.kids.length=n:=⟨_,rfl⟩;rw[qh]at p4 hn;have HX:Hid (∀i a,x.kids[i]?=some a->A=some ⟨(D q).row,0,none⟩/\(D q).row<w.heap.size/\(D q).row≠mk/\w.cell? ⟨(D q).row,i,none⟩=some (PK a)):=EP λi a ha=>by
  obtain⟨h1,cur,h2,h3⟩:=hr (λh=>by rw[h]at ha;simp at ha);exact⟨h1,(BV.1 h2).1,bQ.o _ _ _ h2,(cell_of_row w _ i cur _ (0,0) h2).trans (h3 i a ha)⟩
 have rY:=EP (hg.KX q x hx);have HG:=EP hg;have HA:=EP hA;have HN:=EP qh;have HI0:=EP hI0;clear hb hk bH hg hx hA hI0 hr qh;go_in;go_wp2_with fail;go_loopg [4,5,13] n (λgg v4 v5 vi wr=>Li b mk c0 c1 c2 c4 G D hd x.kids w n gg v4 v5 vi wr)
 case atStart=>exact⟨0,rfl,rfl,Cw _,CM _ _ _ _,CM _ _ _ _,HI0.o⟩
 case round =>
  obtain⟨i,rfl,rfl,hi,h4,h5,hI⟩:=hrel;obtain⟨A4,a4,rfl⟩:=GS h4;obtain⟨A5,a5,rfl⟩:=GS h5;obtain⟨m5,fA⟩:∃m,(Jf D ((x.kids.take i).map hd)).length=m:=⟨_,rfl⟩;have arP:m5<=i:=by rw[<-fA];exact Cm (D7 _ _) (by simp;omega)
  rw[fA]at h5 ⊢;have H4:=EP h4;have H5:=EP h5;have HI:=EP hI;have qy:=EP fA;by_cases af:i<n
  ·obtain⟨a,ha⟩:∃a,x.kids[i]?=some a:=⟨_,BY (by rw[HN.o];exact af)⟩
   obtain⟨rfl,wq,qG,xP⟩:=HX.o i a ha;have e0:wr.cell? ⟨(D q).row,i,none⟩=some (.pointer (some ⟨a,0,none⟩)):=(Ck (w:=w) (a:=⟨(D q).row,i,none⟩) (hI.ch.block _ wq qG)).trans xP;obtain⟨ya,WC⟩:=rY.o a (CG ha);obtain⟨y,hy⟩:=HG.o.Fw a ya WC;obtain⟨K1,fM⟩:=hI.kn;have ir:=EP (R9 b mk K1 hd a wr c0 c1 c2 c4 hI.sb fM (hI.pd a ya WC).laid);have eF:Hid ((x.kids.take (i+1)).map hd=(x.kids.take i).map hd++[hd a]):=EP (by rw[D9,ha,Dn];rfl);have me:=EP fM;have HY:=EP hy;clear ha wq qG xP WC fM h4 h5 hI fA hy p4;go_wp2_with fail;refine ir.o.mono ?_;rintro e w1 ⟨rfl,K2,bZ,cH,aZ,-⟩;obtain⟨h,hh⟩:∃h,hd a=h:=⟨_,rfl⟩;rw[hh]at eF HY ⊢;have ai:∀(g:Nat) (cs:Array Value) (t:TypeId),wr.heap[g]?=some (.cells cs t (0,0))->w1.heap[g]?=wr.heap[g]?:=λg cs t hg=>cH.block g (BV.1 hg).1 (λe=>by
    have e:g=mk:=e;rw[e]at hg;exact d_.no me.o.mp hg)
   have T7:=GF H4.o (λg hg=>by obtain⟨_,_,cur,aa⟩:=s_ H4.o g hg;exact ai g cur _ aa);have T6:=GF H5.o (λg hg=>by obtain⟨_,_,cur,aa⟩:=s_ H5.o g hg;exact ai g cur _ aa);have An:MN b mk c0 c1 c2 c4 G D hd w w1:=⟨HI.o.sb.same (ai _ _ _ HI.o.sb),⟨K2,bZ⟩,HI.o.pd.same λk _ ⟨cs,t,hx⟩=>ai k cs t hx,HI.o.ch.trans cH⟩;obtain⟨am,mm,cm,T5⟩:=HA.o h y HY.o;obtain⟨A9,c9,cM,-⟩:=An.pd h y HY.o;have f0:w1.cell? ⟨h,0,none⟩=some (.int .i64 (y.kd:Nat)):=cM.cell 0;have f1:w1.cell? ⟨h,1,none⟩=some (.string y.nm):=cM.cell 1;have f2:w1.cell? ⟨h,2,none⟩=some (.int .i64 (y.n:Nat)):=cM.cell 2;have f3:w1.cell? ⟨h,3,none⟩=some (.slice am mm cm):=by rw[<-T5];exact cM.cell 3
   have f7:w1.cell? ⟨h,7,none⟩=some (.bool (D h).fl):=cM.cell 7;have lh:=cM.lt;have HTY:Hid (E5 G D [h]=[.int .i64 (y.kd:Nat),.string y.nm,.int .i64 (y.n:Nat),.slice am mm cm]):=EP (by
    have eJ:KZ G h=y:=by unfold KZ;rw[HY.o];rfl
    rw[E5,E5,eJ,T5])
   have HAH:=EP (zkm D ((x.kids.take i).map hd) h);have fH:=EP An;have xE:=EP T7;have vV:=EP T6;have arV:=An.ch.size;cases hf:(D h).fl with
   |true =>
    rw[hf]at f7;have HF:=EP hf;have xu:=EP (T7.alloc (.cells #[.int .i64 (y.kd:Nat),.string y.nm,.int .i64 (y.n:Nat),.slice am mm cm] 37));clear ai T7 T6 An T5 cM hf e0 hh bZ cH aZ;go_wp2_with (at_builtin;refine C7 _ rfl (.tmp 29) (.tmp 34) 35 rfl w.heap.size 37 i0 _ 4 56 underlying35 bK cj bS bC rfl (by decide) _ i (E5 G D ((x.kids.take i).map hd)) rfl xu.o ⟨w1.heap.size,0,none⟩ 1 1 [.int .i64 (y.kd:Nat),.string y.nm,.int .i64 (y.n:Nat),.slice am mm cm] rfl rfl (Iz _ _ _ _ (by simp)) (by intro u hu;simp at hu;rcases hu with rfl|rfl|rfl|rfl <;> rfl) (by unfold maxLen;omega) (by omega) (by simp;omega) ?_;intro v3 w3 an ae _ bF;obtain⟨YT,XJ,rfl⟩:=GS an;have dZ:=EP an;have bk:=EP ae;clear an ae bF);have HR:Hid (Li b mk c0 c1 c2 c4 G D hd x.kids w n (n-(i+1)) (.slice YT (i+1) XJ) (.slice A5 m5 a5) (.int .i64 ((i+1:Nat):Int)) w3):=EP (by
     refine⟨i+1,rfl,rfl,by omega,?_,?_,fH.o.app au.o (by decide) (s_ xE.o) bk.o⟩
     ·rw[eF.o,Wm,HTY.o];exact dZ.o
     ·rw[eF.o,HAH.o,Ch HF.o,CJ,qy.o]
      exact GF vV.o (λk hk=>(bk.o.block k (by have:=(s_ vV.o k hk).2.1;simp;omega) (λe=>Le xE.o vV.o (by decide) k e.symm hk)).trans (BX _ _ _ (s_ vV.o k hk).2.1)))
    clear f0 f1 f2 f3 f7 lh;go_roundg (n-(i+1));case measure=>omega
    case rel=>exact HR.o
   |false =>
    rw[hf]at f7;have HF:Hid (¬(D h).fl=true):=EP (by rw[hf];simp);have pR:=EP (T6.alloc (.cells #[.pointer (some ⟨h,0,none⟩)] 75));have se:=EP cM;clear ai T7 T6 An T5 cM hf e0 hh bZ cH aZ;go_wp2_with (first
     |(at_builtin;refine C7 _ rfl (.tmp 25) (.tmp 27) 130 rfl w.heap.size 75 j0 _ 1 8 underlying130 kH wm lE mq rfl (by decide) _ m5 ((Jf D ((x.kids.take i).map hd)).map PK) rfl pR.o ⟨w1.heap.size,0,none⟩ 1 1 [.pointer (some ⟨h,0,none⟩)] rfl rfl (Iz _ _ _ _ (by simp)) (by intro u hu;simp at hu;subst hu <;> rfl) (by unfold maxLen;omega) (by omega) (by simp <;> omega) ?_;intro v2 w2 aL ae _ uQ;obtain⟨A2',c2',rfl⟩:=GS aL;have aV:w2.heap[h]?=w1.heap[h]?:=(ae.block h (by simp <;> omega) (λe=>by obtain⟨_,_,cur,aa⟩:=s_ vV.o h e.symm;exact ar.Gw se.o (show ar w1 h _ cur from aa) (by decide) rfl)).trans (BX _ _ _ lh);have g0:w2.cell? ⟨h,0,none⟩=some (.int .i64 (y.kd:Nat)):=(Ck (w:=w1) (a:=⟨h,0,none⟩) aV).trans f0;have g1:w2.cell? ⟨h,1,none⟩=some (.string y.nm):=(Ck (w:=w1) (a:=⟨h,1,none⟩) aV).trans f1;have g2:w2.cell? ⟨h,2,none⟩=some (.int .i64 (y.n:Nat)):=(Ck (w:=w1) (a:=⟨h,2,none⟩) aV).trans f2;have g3:w2.cell? ⟨h,3,none⟩=some (.slice am mm cm):=(Ck (w:=w1) (a:=⟨h,3,none⟩) aV).trans f3;have qM:=ae.size;simp only[World.size_alloc]at qM;have lh2:h<w2.heap.size:=(by omega);have XF:=GF xE.o (w':=w2) (λk hk=>(ae.block k (by have:=(s_ xE.o k hk).2.1;simp <;> omega) (λe=>Le vV.o xE.o (by decide) k e.symm hk)).trans (BX _ _ _ (s_ xE.o k hk).2.1));have H42:=EP XF;have xu:=EP (XF.alloc (.cells #[.int .i64 (y.kd:Nat),.string y.nm,.int .i64 (y.n:Nat),.slice am mm cm] 37));have Ut:=EP (fH.o.app au.o (by decide) (s_ vV.o) ae);have arU:=Ut.o.ch.size;have cS:=EP aL;clear aL ae uQ XF aV)
     |(at_builtin;refine C7 _ rfl (.tmp 29) (.tmp 34) 35 rfl w.heap.size 37 i0 _ 4 56 underlying35 bK cj bS bC rfl (by decide) _ i (E5 G D ((x.kids.take i).map hd)) rfl xu.o ⟨w2.heap.size,0,none⟩ 1 1 [.int .i64 (y.kd:Nat),.string y.nm,.int .i64 (y.n:Nat),.slice am mm cm] rfl rfl (Iz _ _ _ _ (by simp)) (by intro u hu;simp at hu;rcases hu with rfl|rfl|rfl|rfl <;> rfl) (by unfold maxLen;omega) (by omega) (by simp <;> omega) ?_;intro v3 w3 an ae _ bF;obtain⟨YT,XJ,rfl⟩:=GS an;have dZ:=EP an;have bk:=EP ae;clear an ae bF))
    have HR:Hid (Li b mk c0 c1 c2 c4 G D hd x.kids w n (n-(i+1)) (.slice YT (i+1) XJ) (.slice A2' (m5+1) c2') (.int .i64 ((i+1:Nat):Int)) w3):=EP (by
     refine⟨i+1,rfl,rfl,by omega,?_,?_,Ut.o.app au.o (by decide) (s_ H42.o) bk.o⟩
     ·rw[eF.o,Wm,HTY.o];exact dZ.o
     ·rw[eF.o,HAH.o,Cg HF.o,Cb,qy.o,Dn]
      exact GF cS.o (λk hk=>(bk.o.block k (by have:=(s_ cS.o k hk).2.1;simp;omega) (λe=>Le H42.o cS.o (by decide) k e.symm hk)).trans (BX _ _ _ (s_ cS.o k hk).2.1)))
    clear f0 f1 f2 f3 f7 lh;go_roundg (n-(i+1));case measure=>omega
    case rel=>exact HR.o
  ·have eB:i=n:=by omega
   subst eB;have aJ:x.kids.take i=x.kids:=Cq (by rw[HN.o];omega);rw[aJ]at h4 h5;have HF:Hid (Mv b mk c0 c1 c2 c4 G D hd x.kids w (.returned (.tuple #[.slice A4 i a4,.slice A5 m5 a5])) wr):=EP ⟨_,_,rfl,by rw[HN.o];exact h4,by rw[aJ]at fA;rw[fA];exact h5,hI⟩;clear aJ h4 h5 hI fA;go_wp2_with fail;go_ret2
   exact HF.o
end
section
open Lx Tx
def kf(l:List (Nat × Ty))(n:Nat):Dt:=match l.find? (λe=>e.1==n) with
 |some e=>db [] e.2
 |none=>.mt n
theorem Told.kf {k:Sb} {l:List (Nat × Ty)}(h:Told k l)(hp:∀n,Plain (k n)):kf l=k:=by
 funext n
 unfold Go.Proofs.YtfafilmklhnngaaGreatDoor.kf;cases hf:l.find? (λe=>e.1==n) with
 |some e =>
  obtain⟨m,t⟩:=e;have h1:m=n:=by have:=List.find?_some hf;simpa using this
  subst h1;obtain⟨_,h2⟩:=(h.mem m t).1 (List.mem_of_find?_eq_some hf);show db [] t=k m;rw[h2];exact RW _ (hp m)
 |none =>
  show Dt.mt n=k n;refine Classical.byContradiction λai=>?_;have hm:=(h.mem n (pw (k n))).2 ⟨λe=>ai e.symm,rfl⟩;have:=List.find?_eq_none.1 hf _ hm;simp at this
theorem Told.nodup {k:Sb} {l:List (Nat × Ty)}(h:Told k l):(l.map (·.1)).Nodup:=h.up.imp λh=>Nat.ne_of_lt h
end
section
open Lx Tx
set_option maxRecDepth 100000
theorem zrb(m:Nat)(t:Dt):bad m t=0\/bad m t=41\/bad m t=42\/bad m t=43:=by
 unfold bad;split
 ·simp
 ·split
  ·simp
  ·split <;> simp
theorem zkR(f:Nat):∀(E:List (Dt × Dt))(k:Sb)(m:Nat),Fc f E k=some (.inl m)->m=40\/m=41\/m=42\/m=43:=by
 induction f with
 |zero=>intro E k m h;rw[Fc]at h;cases h
 |succ f ih =>
  intro E k m h;cases E with
  |nil=>rw[Fc]at h;injection h with h;cases h
  |cons p r =>
   obtain⟨a,b⟩:=p;rw[Fc]at h;cases hq:act (ap k a) (ap k b) with
   |skip=>rw[hq]at h;exact ih _ _ _ h
   |push l=>rw[hq]at h;exact ih _ _ _ h
   |FA=>rw[hq]at h;injection h with h;injection h with h;exact .inl h.symm
   |Fs i t =>
    rw[hq]at h;simp only at h;by_cases hb:bad i t=0
    ·rw[Ch hb]at h;exact ih _ _ _ h
    ·rw[Cg hb]at h
     injection h with h;injection h with h;rcases zrb i t with h1|h1|h1|h1
     ·exact absurd h1 hb
     ·exact .inr (.inl (h▸h1))
     ·exact .inr (.inr (.inl (h▸h1)))
     ·exact .inr (.inr (.inr (h▸h1)))
end
section
open Lx Tx
mutual
theorem NP:(t:Ty)->∀env,t.size=sz (db env t)
 |.var x,env=>by rw[db,Ty.size];cases idx x env <;> simp only[sz]
 |.mt n,env=>by rw[db,Ty.size,sz]
 |.h_ c l,env=>by rw[db,Ty.size,sz,zjM l env]
 |.fn a b,env=>by rw[db,Ty.size,sz,NP a env,NP b env]
 |.all x t,env=>by rw[db,Ty.size,sz,NP t (x::env)]
theorem zjM:(l:List Ty)->∀env,q_ l=Ic (Fz env l)
 |[],env=>by rw[Fz,q_,Ic]
 |t::r,env=>by rw[Fz,q_,Ic,NP t env,zjM r env]
end
end
end Go.Proofs.YtfafilmklhnngaaGreatDoor
