import Derived.Test.YtfafilmklhnngaaGreatDoorBkAI
set_option maxHeartbeats 12800000
namespace Go.Proofs.YtfafilmklhnngaaGreatDoor
open Lx Tx
set_option maxRecDepth 100000
mutual
def toTy:Dt->Ty
 |.fv x=>.var x
 |.bv _=>.var []
 |.mt n=>.mt n
 |.con c l=>.con c (zgy l)
 |.fn a b=>.fn (toTy a) (toTy b)
 |.all _=>.var []
def zgy:List Dt->List Ty
 |[]=>[]
 |t::r=>toTy t::zgy r
end
theorem zdF:(l:List Dt)->zgy l=l.map toTy
 |[]=>by rw[zgy];rfl
 |t::r=>by rw[zgy,zdF r];rfl
theorem ze5 {d:Dt}(h:Plain d):kids (toTy d)=(zai d).map toTy/\kd (toTy d)=kdD d/\(App d->nmB (toTy d)=nmD d):=by
 cases d with
 |fv x=>rw[toTy];exact⟨rfl,rfl,λh=>by simp[App,kdD]at h⟩
 |bv i=>exact absurd h (zaL i)
 |mt n=>rw[toTy];exact⟨rfl,rfl,λh=>by simp[App,kdD]at h⟩
 |con c l=>rw[toTy,zdF];exact⟨rfl,rfl,λ_=>rfl⟩
 |fn a b=>rw[toTy];exact⟨rfl,rfl,λ_=>rfl⟩
 |all t=>exact absurd h (zaK t)
def FV(G:Nat->Option Nd)(q:Nat):Prop:=∃d,Tr G [] q d []/\Plain d
noncomputable def tv (G:Nat->Option Nd)(k:Sb)(q:Nat):Dt:=by classical exact if h:FV G q then ap k (Classical.choose h) else .bv 0
theorem zcD {G:Nat->Option Nd}(k:Sb) {q:Nat} {d:Dt} {env ns:List Nat}(h:Tr G env q d ns)(hp:Plain d):tv G k q=ap k d:=by
 have hF:FV G q:=⟨d,(h.plain hp).2 [],hp⟩;unfold tv;rw[dif_pos hF]
 obtain⟨h1,h2⟩:=Classical.choose_spec hF;rw[h.det hp h1]
section
variable {G:Nat->Option Nd} {L:List Nat} {hd:Nat->Nat} {k:Sb} {Ns O:List Nat}
theorem HdS.fv_head(S:HdS G L hd k Ns O) {q:Nat}(h:FV G q):FV G (hd q)/\tv G k (hd q)=tv G k q:=by
 obtain⟨d,h1,h2⟩:=h;obtain⟨d',h3,h4,h5⟩:=S.pl q d h1 h2;exact⟨⟨d',h3,h4⟩,by rw[zcD k h3 h4,zcD k h1 h2,h5]⟩
theorem HdS.tv_plain(S:HdS G L hd k Ns O) {q:Nat}(h:FV G q):Plain (tv G k q):=by
 obtain⟨d,h1,h2⟩:=h;rw[zcD k h1 h2,zcu]
 exact⟨h2,λm _=>S.kp m⟩
theorem HdS.tv_node(S:HdS G L hd k Ns O) {q:Nat}(h:FV G q)(hq:hd q=q) {x:Nd}(hx:G q=some x):x.kd=kd (toTy (tv G k q))/\x.nm=nmB (toTy (tv G k q))/\x.n=nn (toTy (tv G k q))/\kids (toTy (tv G k q))=x.kids.map (λc=>toTy (tv G k (hd c)))/\zai (tv G k q)=x.kids.map (λc=>tv G k (hd c))/\(∀c∈x.kids,FV G (hd c)):=by
 have cS:=S.tv_plain h;obtain⟨d,h1,h2⟩:=h;have ht:=zcD k h1 h2;rw[(ze5 cS).1]
 generalize kN:([]:List Nat)=ns at h1;cases h1 with
 |fv _ _ y hy =>
  rw[hy]at hx;injection hx with hx;subst hx
  rw[ht,zbt,toTy]
  exact⟨rfl,rfl,rfl,rfl,rfl,(λc hc=>by cases hc)⟩
 |bv _ _ _ i _ _=>exact absurd h2 (zaL i)
 |mt _ _ n hy =>
  rw[hy]at hx;injection hx with hx;subst hx
  rw[ht,zaz,S.un q n hy hq,toTy]
  exact⟨rfl,rfl,rfl,rfl,rfl,(λc hc=>by cases hc)⟩
 |all=>exact absurd h2 (zaK _)
 |app _ _ _ ps aN ha hy l1 l2 h3 =>
  rw[hy]at hx;injection hx with hx;subst hx
  obtain⟨a1,a2,a3,a4⟩:=ha.ap k;have hk:=(zc0 ha).1 h2;have key:∀i (i1:i<ps.length) (i2:i<(zai d).length),FV G (hd ps[i])/\tv G k (hd ps[i])=ap k (zai d)[i]:=λi i1 i2=>by
   have ht:=h3 i _ _ _ (Ak i1) (Ak i2) (Ak (show i<aN.length by omega));have hp:=hk _ (Bd i2);obtain⟨c1,c2⟩:=S.fv_head ⟨_,(ht.plain hp).2 [],hp⟩;exact⟨c1,c2.trans (zcD k ht hp)⟩
  have ic:zai (tv G k q)=ps.map (λc=>tv G k (hd c)):=by
   rw[ht,a4]
   refine CC (by simp[l1]) λi i1 i2=>?_;simp only[AR]at i1 i2;rw[Cn,Cn,(key i i2 i1).2]
  refine⟨?_,?_,?_,?_,ic,λc hc=>?_⟩
  ·rw[(ze5 cS).2.1,ht,a2]
  ·rw[(ze5 cS).2.2 (by rw[ht];exact a1),ht,a3]
  ·rw[ht]
   have:=a1;generalize ap k d=e at this;cases e <;> simp[App,kdD]at this <;> rw[toTy] <;> rfl
  ·rw[ic,Cc];rfl
  ·obtain⟨i,hi,rfl⟩:=AS.1 (show c∈ps from hc)
   exact(key i hi (by omega)).1
theorem zjc {d u:Dt}(h:u∈zai d):sz u<sz d:=by
 cases d with
 |con c l=>have:=zgT l u h;rw[sz];omega
 |fn a b =>
  simp[zai]at h
  rw[sz]
  rcases h with rfl|rfl
  ·have:=zb0 b;omega
  ·have:=zb0 a;omega
 |all t=>simp[zai]at h;subst h;rw[sz];omega
 |_=>cases h
theorem zoC(d:Dt):szL (zai d)+1<=sz d:=by
 cases d <;> simp only[zai,szL] <;> rw[sz] <;> omega
def FilOK(G:Nat->Option Nd)(hd:Nat->Nat)(k:Sb)(fl:Nat->Bool):List Nat->List (Nat × Bool)->Prop
 |_,[]=>True
 |ab,(q,e)::r=>FV G q/\hd q=q/\(e=true->(∀x,G q=some x->∀c∈x.kids,fl (hd c)=true\/hd c∈ab)/\∀a∈ab,sz (tv G k a)<sz (tv G k q))/\FilOK G hd k fl (q::ab) r
def FilN(G:Nat->Option Nd):Nat->List (Nat × Bool)->Prop
 |c,[]=>c<=1
 |c,(_,false)::r=>FilN G (c+1) r
 |c,(q,true)::r=>(∃x,G q=some x/\c<=x.kids.length)/\FilN G 0 r
noncomputable def filW (G:Nat->Option Nd)(k:Sb):List (Nat × Bool)->Nat
 |[]=>0
 |(q,e)::r=>(if e then 1 else 2*sz (tv G k q))+filW G k r
theorem FilOK.mono {fl tA:Nat->Bool}(hf:∀q,fl q=true->tA q=true):(l:List (Nat × Bool))->∀ {ab lY:List Nat},FilOK G hd k fl ab l->(∀a∈ab,a∈lY\/tA a=true)->(∀a∈lY,∃b∈ab,sz (tv G k a)<=sz (tv G k b))->FilOK G hd k tA lY l
 |[],_,_,_,_,_=>by rw[FilOK];trivial
 |(q,e)::r,ab,lY,h,h1,h2=>by
  rw[FilOK]at h ⊢
  obtain⟨a1,a2,a3,a4⟩:=h;refine⟨a1,a2,λhe=>⟨λx hx c hc=>?_,λa ha=>?_⟩,FilOK.mono hf r a4 (λa ha=>?_) (λa ha=>?_)⟩
  ·rcases(a3 he).1 x hx c hc with h|h
   ·exact .inl (hf _ h)
   ·rcases h1 _ h with h|h
    ·exact .inr h
    ·exact .inl h
  ·obtain⟨b,hb,hle⟩:=h2 a ha
   have:=(a3 he).2 b hb;omega
  ·rcases An.1 ha with e|ha
   ·exact .inl (by rw[e];simp)
   ·rcases h1 a ha with h|h
    ·exact .inl (Ar _ h)
    ·exact .inr h
  ·rcases An.1 ha with e|ha
   ·exact⟨q,by simp,by rw[e];exact Ai _⟩
   ·obtain⟨b,hb,hle⟩:=h2 a ha
    exact⟨b,Ar _ hb,hle⟩
theorem FilOK.pop {fl tA:Nat->Bool} {q:Nat} {e:Bool} {r:List (Nat × Bool)}(h:FilOK G hd k fl [] ((q,e)::r))(hf:∀q,fl q=true->tA q=true)(hq:tA q=true):FilOK G hd k tA [] r:=by
 rw[FilOK]at h
 exact h.2.2.2.mono hf r (λa ha=>by rw[AJ.1 ha];exact .inr hq) (λa ha=>by cases ha)
theorem FilN.le:(l:List (Nat × Bool))->∀ {c d:Nat},FilN G c l->d<=c->FilN G d l
 |[],c,d,h,hd=>by rw[FilN]at h ⊢;omega
 |(q,false)::r,c,d,h,hd=>by rw[FilN]at h ⊢;exact FilN.le r h (by omega)
 |(q,true)::r,c,d,h,hd=>by
  rw[FilN]at h ⊢
  obtain⟨⟨x,h1,h2⟩,h3⟩:=h;exact⟨⟨x,h1,by omega⟩,h3⟩
theorem FilN.tail {p:Nat × Bool} {r:List (Nat × Bool)}(h:FilN G 0 (p::r)):FilN G 0 r:=by
 obtain⟨q,e⟩:=p;cases e with
 |false=>rw[FilN]at h;exact h.le r (by omega)
 |true=>rw[FilN]at h;exact h.2
theorem FilN.put:(l:List Nat)->∀ {c:Nat} {r:List (Nat × Bool)},FilN G (c+l.length) r->FilN G c (l.map (·,false)++r)
 |[],c,r,h=>h
 |a::l,c,r,h=>by
  rw[AH,AE,FilN]
  exact FilN.put l (by rw[Ao]at h;rw[show c+1+l.length=c+(l.length+1) by omega];exact h)
def metF(l:List (Nat × Bool)):List Nat:=(l.filter (·.2)).map (·.1)
theorem ze6(q:Nat)(e:Bool)(r:List (Nat × Bool)):metF ((q,e)::r)=if e then q::metF r else metF r:=by
 unfold metF;cases e <;> simp
theorem FilOK.met {fl:Nat->Bool} :(l:List (Nat × Bool))->∀ {ab:List Nat},FilOK G hd k fl ab l->(metF l).Nodup/\∀q∈metF l,FV G q/\∀a∈ab,sz (tv G k a)<sz (tv G k q)
 |[],_,_=>⟨Bw,λq hq=>by cases hq⟩
 |(q,e)::r,ab,h=>by
  rw[FilOK]at h
  obtain⟨a1,a2,a3,a4⟩:=h;obtain⟨b1,b2⟩:=FilOK.met r a4;rw[ze6]
  cases e with
  |false=>exact⟨b1,λz hz=>⟨(b2 z hz).1,λa ha=>(b2 z hz).2 a (Ar _ ha)⟩⟩
  |true =>
   refine⟨A6.2 ⟨λhm=>?_,b1⟩,λz hz=>?_⟩
   ·have:=(b2 q hm).2 q (by simp)
    omega
   ·rcases An.1 hz with e|hz
    ·rw[e];exact⟨a1,(a3 rfl).2⟩
    ·exact⟨(b2 z hz).1,λa ha=>(b2 z hz).2 a (Ar _ ha)⟩
def ndW(G:Nat->Option Nd)(q:Nat):Nat:=match G q with|some x=>x.kids.length+1|none=>0
theorem zgz {G:Nat->Option Nd} {L:List Nat} :(M:List Nat)->∀(Vs:List Nat),M.Nodup->(∀q∈M,q∈L/\∃x,G q=some x)->(∀q∈M,q∉Vs)->(M.map (ndW G)).sum+wg G (M++Vs) L<=wg G Vs L
 |[],Vs,_,_,_=>by simp
 |q::M,Vs,hn,hm,hv=>by
  rw[A6]at hn
  have h1:=zgz M Vs hn.2 (λz hz=>hm z (Ar _ hz)) (λz hz=>hv z (Ar _ hz));obtain⟨hL,x,hx⟩:=hm q (by simp);have h2:=zer G q (M++Vs) x hx (λh=>by
   rcases AA.1 h with h|h
   ·exact hn.1 h
   ·exact hv q (by simp) h) L hL
  rw[AH,BY,AE]
  have:ndW G q=x.kids.length+1:=by unfold ndW;rw[hx]
  omega
theorem FilN.len:(l:List (Nat × Bool))->∀ {c:Nat},FilN G c l->c+l.length<=1+((metF l).map (ndW G)).sum
 |[],c,h=>by rw[FilN]at h;simp[metF];omega
 |(q,false)::r,c,h=>by
  rw[FilN]at h
  have:=FilN.len r h;rw[ze6]
  simp only[Bg,BX,Ao];omega
 |(q,true)::r,c,h=>by
  rw[FilN]at h
  obtain⟨⟨x,hx,hc⟩,h2⟩:=h;have:=FilN.len r h2;rw[ze6]
  simp only[CA,Ao,AH,BY];have:ndW G q=x.kids.length+1:=by unfold ndW;rw[hx]
  omega
theorem FilOK.len {fl:Nat->Bool} {l:List (Nat × Bool)}(h:FilOK G hd k fl [] l)(hn:FilN G 0 l)(hL:∀q x,G q=some x->q∈L):l.length<=1+wg G [] L:=by
 have h1:=hn.len;obtain⟨h2,h3⟩:=h.met;have h4:=zgz (L:=L) (metF l) [] h2 (λq hq=>by
  obtain⟨⟨d,hd,_⟩,_⟩:=h3 q hq;obtain⟨x,hx,_⟩:=hd.node;exact⟨hL q x hx,x,hx⟩) (λq _ h=>by cases h)
 omega
theorem zjd:(l r:List (Nat × Bool))->filW G k (l++r)=filW G k l+filW G k r
 |[],r=>by rw[AL,filW,Bo]
 |(q,e)::l,r=>by rw[AE,filW,filW,zjd l r];omega
theorem zje:(l:List Nat)->filW G k (l.map (·,false))=2*szL (l.map (tv G k))
 |[]=>by simp[filW,szL]
 |a::l=>by rw[AH,filW,zje l,AH,szL];simp;omega
theorem zgA(p:Nat->Bool):(l:List Nat)->szL ((l.filter p).map (tv G k))<=szL (l.map (tv G k))
 |[]=>by simp
 |a::l=>by
  have:=zgA p l;by_cases h:p a=true
  ·rw[BJ h,AH,AH,szL,szL];omega
  ·rw[Bs h,AH,szL];omega
theorem FilOK.open_(S:HdS G L hd k Ns O) {fl:Nat->Bool} {q:Nat} {r:List (Nat × Bool)}(h:FilOK G hd k fl [] ((q,false)::r))(hn:FilN G 0 ((q,false)::r)) {x:Nd}(hx:G q=some x)(ahead:List Nat)(ha:ahead=(x.kids.map hd).filter (λc=>!fl c)):FilOK G hd k fl [] (ahead.map (·,false)++(q,true)::r)/\FilN G 0 (ahead.map (·,false)++(q,true)::r)/\filW G k (ahead.map (·,false)++(q,true)::r)<filW G k ((q,false)::r):=by
 rw[FilOK]at h
 obtain⟨a1,a2,-,a4⟩:=h;obtain⟨-,-,-,-,t1,t2⟩:=S.tv_node a1 a2 hx;have gZ:∀c∈ahead,FV G c/\hd c=c/\sz (tv G k c)<sz (tv G k q):=λc hc=>by
  rw[ha]at hc
  obtain⟨z,hz,rfl⟩:=AM.1 (Ca.1 hc).1;exact⟨t2 z hz,S.gr.idm z,zjc (by rw[t1];exact AM.2 ⟨z,hz,rfl⟩)⟩
 have fF:∀(l:List Nat) (ab:List Nat),(∀c∈l,c∈ahead)->(∀c∈ab,c∈ahead)->(∀c∈ahead,c∈ab\/c∈l)->FilOK G hd k fl ab (l.map (·,false)++(q,true)::r):=by
  intro l;induction l with
  |nil =>
   intro ab _ h2 h3;rw[CR,AL,FilOK]
   refine⟨a1,a2,λ_=>⟨λy hy c hc=>?_,λa bP=>(gZ a (h2 a bP)).2.2⟩,?_⟩
   ·rw[hx]at hy;injection hy with hy;subst hy
    by_cases hf:fl (hd c)=true
    ·exact .inl hf
    ·refine .inr ((h3 (hd c) ?_).resolve_right (λh=>by cases h))
     rw[ha]
     exact Ca.2 ⟨AM.2 ⟨c,hc,rfl⟩,by simp[hf]⟩
   ·refine a4.mono (λ_ h=>h) r (λa bP=>by rw[AJ.1 bP];exact .inl (by simp)) (λa bP=>?_)
    rcases An.1 bP with e|bP
    ·exact⟨q,by simp,by rw[e];exact Ai _⟩
    ·exact⟨q,by simp,Nat.le_of_lt (gZ a (h2 a bP)).2.2⟩
  |cons c l ih =>
   intro ab h1 h2 h3;rw[AH,AE,FilOK]
   obtain⟨m1,m2,_⟩:=gZ c (h1 c (by simp));refine⟨m1,m2,(λh=>by cases h),ih (c::ab) (λz hz=>h1 z (by simp[hz])) (λz hz=>?_) (λz hz=>?_)⟩
   ·rcases An.1 hz with e|hz
    ·rw[e];exact h1 c (by simp)
    ·exact h2 z hz
   ·rcases h3 z hz with h|h
    ·exact .inl (by simp[h])
    ·rcases An.1 h with e|h
     ·exact .inl (by simp[e])
     ·exact .inr h
 refine⟨fF ahead [] (λ_ h=>h) (λc h=>by cases h) (λc h=>.inr h),?_,?_⟩
 ·refine FilN.put ahead ?_
  rw[FilN]at hn
  rw[FilN]
  refine⟨⟨x,hx,?_⟩,hn.le r (by omega)⟩;rw[Bo,ha]
  exact AB (Ci _ _) (by simp)
 ·rw[zjd,zje,filW,filW]
  simp only[CA,Bg,BX];have h1:=zoC (tv G k q);have h2:szL (ahead.map (tv G k))<=szL (zai (tv G k q)):=by
   rw[t1,ha]
   have:=zgA (G:=G) (k:=k) (λc=>!fl c) (x.kids.map hd);rw[Cc]at this
   exact this
  omega
end
def Wq(E:List (Dt × Dt))(d:Dt):Prop:=∃p∈E,Wi p.1 d\/Wi p.2 d
theorem Wq.kid {E:List (Dt × Dt)} {d u:Dt}(h:Wq E d)(hu:u∈zai d):Wq E u:=by
 obtain⟨p,hp,h⟩:=h;exact⟨p,hp,h.imp (λh=>h.tail hu) (λh=>h.tail hu)⟩
def Knm(E:List (Dt × Dt))(k:Sb):Prop:=∀n,(∃j,k n=.mt j)\/∃d,Wq E d/\kdD d≠2/\k n=ap k d
def Ent2(E:List (Dt × Dt))(k:Sb)(l:List (Dt × Dt)):Prop:=∀p∈l,(∃d,Wq E d/\ap k p.1=ap k d)/\∃d,Wq E d/\ap k p.2=ap k d
theorem Knm.root {E:List (Dt × Dt)} {k:Sb}(h:Knm E k) {d:Dt}(hd:Wq E d):(∃j,ap k d=.mt j)\/∃e,Wq E e/\kdD e≠2/\ap k d=ap k e:=by
 by_cases h2:kdD d=2
 ·obtain⟨n,rfl⟩:=zd2 h2
  rw[zaz]
  exact h n
 ·exact .inr ⟨d,hd,h2,rfl⟩
theorem Knm.upd {E:List (Dt × Dt)} {k:Sb}(h:Knm E k) {m:Nat} {d:Dt}(hd:Wq E d)(ho:¬MtOcc m (ap k d)):Knm E (Tx.upd m (ap k d) k):=by
 have key:∀e,ap (fil m (ap k d)) (ap k e)=ap (Tx.upd m (ap k d) k) e:=λe=>(zbi m (ap k d) k e).symm;have mA:ap (fil m (ap k d)) (ap k d)=ap k d:=zfP _ _ _ ho;have htop:(∃j,ap k d=.mt j)\/∃e,Wq E e/\kdD e≠2/\ap k d=ap (Tx.upd m (ap k d) k) e:=by
  rcases h.root hd with h|⟨e,h1,h2,h3⟩
  ·exact .inl h
  ·exact .inr ⟨e,h1,h2,by rw[<-key,<-h3,mA]⟩
 intro n;rcases h n with⟨j,hj⟩|⟨e,h1,h2,h3⟩
 ·have:Tx.upd m (ap k d) k n=fil m (ap k d) j:=by unfold Tx.upd;rw[hj,zaz]
  rw[this]
  by_cases e:j=m
  ·rw[e,zaX];exact htop
  ·rw[zaN _ _ _ e];exact .inl ⟨j,rfl⟩
 ·refine .inr ⟨e,h1,h2,?_⟩
  unfold Tx.upd;rw[h3,key]
  rfl
theorem zoD(E0:List (Dt × Dt))(f:Nat):∀(E:List (Dt × Dt))(k k':Sb),unF f E k=some (.inr k')->Idem k->Knm E0 k->Ent2 E0 k E->Knm E0 k':=by
 induction f with
 |zero=>intro E k k' h;rw[unF]at h;cases h
 |succ f ih =>
  intro E k k' h hk hK hE;cases E with
  |nil=>rw[unF]at h;injection h with h;injection h with h;rw[<-h];exact hK
  |cons p r =>
   obtain⟨a,b⟩:=p;obtain⟨⟨da,wa,ea⟩,⟨yH,wb,eb⟩⟩:=hE (a,b) Ay;simp only at ea eb;have hr:Ent2 E0 k r:=λp hp=>hE p (Ar _ hp);rw[unF]at h
   cases hq:act (ap k a) (ap k b) with
   |skip=>rw[hq]at h;exact ih r k k' h hk hK hr
   |clash=>rw[hq]at h;injection h with h;cases h
   |push l =>
    rw[hq]at h
    refine ih (l++r) k k' h hk hK λp hp=>?_;rcases AA.1 hp with hp|hp
    ·have ew:∀(z:Dt) (d:Dt),Wq E0 d->z=ap k d->(∀j,z≠.mt j)->∀u∈zai z,∃e,Wq E0 e/\ap k u=ap k e:=by
      intro z d wd hz az u hu;rcases hK.root wd with⟨j,hj⟩|⟨e,h1,h2,h3⟩
      ·exact absurd (hz.trans hj) (az j)
      ·rw[hz,h3,(za6 k h2).1]at hu
       obtain⟨v,hv,rfl⟩:=AM.1 hu;exact⟨v,h1.kid hv,zba hk v⟩
     rcases zbU hq with⟨c,u,v,e1,e2,_,rfl⟩|⟨c,d,c',d',e1,e2,rfl⟩|⟨c,d,e1,e2,rfl⟩
     ·exact⟨ew _ da wa ea (by rw[e1];simp) p.1 (by rw[e1];exact(Bv hp).1),ew _ yH wb eb (by rw[e2];simp) p.2 (by rw[e2];exact(Bv hp).2)⟩
     ·simp at hp
      rcases hp with rfl|rfl
      ·exact⟨ew _ da wa ea (by rw[e1];simp) _ (by rw[e1];simp[zai]),ew _ yH wb eb (by rw[e2];simp) _ (by rw[e2];simp[zai])⟩
      ·exact⟨ew _ da wa ea (by rw[e1];simp) _ (by rw[e1];simp[zai]),ew _ yH wb eb (by rw[e2];simp) _ (by rw[e2];simp[zai])⟩
     ·simp at hp
      subst hp;exact⟨ew _ da wa ea (by rw[e1];simp) _ (by rw[e1];simp[zai]),ew _ yH wb eb (by rw[e2];simp) _ (by rw[e2];simp[zai])⟩
    ·exact hr p hp
   |learn m t =>
    rw[hq]at h
    simp only at h;by_cases hb:bad m t=0
    ·rw[Aq hb]at h
     obtain⟨e1,e2,_,_⟩:=zbI hk hq;obtain⟨ho,cS⟩:=(zdn m t).1 hb;obtain⟨d,wd,rfl⟩:∃d,Wq E0 d/\t=ap k d:=by
      obtain⟨(⟨_,g⟩|⟨_,g⟩),_⟩:=zcc hq
      ·exact⟨yH,wb,by rw[g,eb]⟩
      ·exact⟨da,wa,by rw[g,ea]⟩
     refine ih r _ k' h (zdo hk e2 ho) (hK.upd wd ho) λp hp=>?_;obtain⟨⟨d1,w1,h1⟩,⟨d2,w2,h2⟩⟩:=hr p hp;exact⟨⟨d1,w1,by show ap (upd m (ap k d) k) _=ap (upd m (ap k d) k) _;rw[zbi,zbi,h1]⟩,⟨d2,w2,by show ap (upd m (ap k d) k) _=ap (upd m (ap k d) k) _;rw[zbi,zbi,h2]⟩⟩
    ·rw[Am hb]at h;injection h with h;cases h
mutual
def occM:Dt->List Nat
 |.mt n=>[n]
 |.con _ l=>zfl l
 |.fn a b=>occM a++occM b
 |.all t=>occM t
 |_=>[]
def zfl:List Dt->List Nat
 |[]=>[]
 |t::r=>occM t++zfl r
end
theorem zey:(l:List Dt)->zfl l=l.flatMap occM
 |[]=>rfl
 |t::r=>by rw[zfl,zey r];rfl
theorem zoE {d u:Dt}(h:u∈zai d):(occM u).Sublist (occM d):=by
 cases d with
 |con c l =>
  rw[occM,zey,List.flatMap_def]
  exact CI (AM.2 ⟨u,h,rfl⟩)
 |fn a b =>
  simp[zai]at h
  rw[occM]
  rcases h with rfl|rfl
  ·exact List.sublist_append_left _ _
  ·exact List.sublist_append_right _ _
 |all t=>simp[zai]at h;subst h;rw[occM];exact Cl _
 |_=>cases h
theorem zgZ {d u:Dt}(h:Wi d u):(occM u).Sublist (occM d)/\sz u<=sz d:=by
 induction h with
 |refl d=>exact⟨Cl _,Ai _⟩
 |kid d u e hu _ ih=>exact⟨ih.1.trans (zoE hu),AB ih.2 (Nat.le_of_lt (zjc hu))⟩
theorem zoF(n:Nat)(d:Dt):n∈occM d->MtOcc n d:=by
 induction d using Dt.ind with
 |hf x=>intro h;rw[occM]at h <;> simp at *
 |hb i=>intro h;rw[occM]at h <;> simp at *
 |hm m=>intro h;rw[occM]at h;rw[MtOcc];exact AJ.1 h
 |hc c l ih =>
  intro h;rw[occM,zey,List.mem_flatMap]at h
  obtain⟨u,hu,h⟩:=h;rw[MtOcc,zaA]
  exact⟨u,hu,ih u hu h⟩
 |hn a b iha ihb =>
  intro h;rw[occM,AA]at h
  rw[MtOcc]
  exact h.imp iha ihb
 |ha t ih=>intro h;rw[occM]at h;rw[MtOcc];exact ih h
theorem zmV(k:Sb)(d:Dt):sz (ap k d)<=sz d+((occM d).map λn=>sz (k n)).sum:=by
 induction d using Dt.ind with
 |hf x=>rw[zbt];omega
 |hb i=>rw[zbL];omega
 |hm m=>rw[zaz,occM];simp
 |hc c l ih =>
  rw[za9,sz,sz,occM,zbm]
  have:szL (l.map (ap k))<=szL l+((zfl l).map λn=>sz (k n)).sum:=by
   induction l with
   |nil=>simp[szL]
   |cons a l ihl =>
    have h1:=ih a (by simp);have h2:=ihl λd hd=>ih d (by simp[hd]);rw[AH,szL,szL,zfl,Bl,List.sum_append]
    omega
  omega
 |hn a b iha ihb =>
  rw[zbp,sz,sz,occM,Bl,List.sum_append]
  omega
 |ha t ih=>rw[zaJ,sz,sz,occM];omega
def occE(E:List (Dt × Dt)):List Nat:=E.flatMap λp=>occM p.1++occM p.2
def szM:List (Dt × Dt)->Nat
 |[]=>1
 |p::r=>max (sz p.1) (sz p.2)+szM r
theorem Wq.le {E:List (Dt × Dt)} {d:Dt}(h:Wq E d):(occM d).Sublist (occE E)/\sz d<=szM E:=by
 obtain⟨p,hp,h⟩:=h;have h1:(occM d).Sublist (occM p.1++occM p.2)/\sz d<=max (sz p.1) (sz p.2):=by
  rcases h with h|h
  ·obtain⟨a,b⟩:=zgZ h;exact⟨a.trans (List.sublist_append_left _ _),by omega⟩
  ·obtain⟨a,b⟩:=zgZ h;exact⟨a.trans (List.sublist_append_right _ _),by omega⟩
 refine⟨h1.1.trans ?_,?_⟩
 ·unfold occE
  rw[List.flatMap_def]
  exact CI (AM.2 ⟨p,hp,rfl⟩)
 ·refine AB h1.2 ?_
  clear h1 h;induction E with
  |nil=>cases hp
  |cons q E ih =>
   rw[szM]
   rcases An.1 hp with e|hp
   ·rw[e];omega
   ·have:=ih hp;omega
theorem zkc:(E:List (Dt × Dt))->1<=szM E
 |[]=>Ai _
 |p::r=>by rw[szM];have:=zkc r;omega
def below(v:Nat->Nat)(M:List Nat)(x:Nat):List Nat:=M.filter λm=>decide (v m<x)
theorem zhN(v:Nat->Nat)(x:Nat):(M:List Nat)->((below v M (x+1)).map v).sum<=((below v M x).map v).sum+(M.filter λm=>decide (v m=x)).length*x/\(below v M (x+1)).length=(below v M x).length+(M.filter λm=>decide (v m=x)).length
 |[]=>by simp[below]
 |m::M=>by
  obtain⟨h1,h2⟩:=zhN v x M;unfold below at h1 h2 ⊢;by_cases a:v m<x
  ·rw[BJ (by simp;omega),BJ (by simpa using a),Bs (by simp;omega)]
   simp only[AH,BY,Ao];omega
  ·by_cases b:v m=x
   ·rw[BJ (by simp;omega),Bs (by simpa using a),BJ (by simpa using b)]
    simp only[AH,BY,Ao,AI,Bb];omega
   ·rw[Bs (by simp;omega),Bs (by simpa using a),Bs (by simpa using b)]
    exact⟨h1,h2⟩
theorem zlb(c:Nat):c+1<=2 ^ c:=by
 induction c with
 |zero=>simp
 |succ c ih=>rw[CQ];omega
theorem zjG(v:Nat->Nat)(M:List Nat)(S:Nat)(h:∀m∈M,v m<=S+((below v M (v m)).map v).sum)(x:Nat):S+((below v M x).map v).sum<=S*2 ^(below v M x).length:=by
 induction x with
 |zero =>
  have:below v M 0=[]:=by unfold below;rw[List.filter_eq_nil_iff];intro m _;simp
  rw[this];simp
 |succ x ih =>
  obtain⟨h1,h2⟩:=zhN v x M;obtain⟨c,hc⟩:∃c,(M.filter λm=>decide (v m=x)).length=c:=⟨_,rfl⟩;rw[hc]at h1 h2
  rw[h2,Nat.pow_add,<-Nat.mul_assoc]
  have hx:c=0\/x<=S+((below v M x).map v).sum:=by
   by_cases h0:c=0
   ·exact .inl h0
   ·right
    obtain⟨m,hm⟩:=List.exists_mem_of_length_pos (l:=M.filter λm=>decide (v m=x)) (by omega);obtain⟨m1,m2⟩:=Ca.1 hm;have m2:v m=x:=by simpa using m2
    have:=h m m1;rw[m2]at this
    exact this
  have h3:S+((below v M (x+1)).map v).sum<=(S+((below v M x).map v).sum)*(c+1):=by
   rcases hx with h0|h0
   ·subst h0;simp at h1 ⊢;exact h1
   ·have:=Nat.mul_le_mul_left c h0
    rw[Nat.mul_add,CH,Nat.mul_comm]
    omega
  exact AB h3 (Cx ih (zlb c))
theorem Knm.size {E:List (Dt × Dt)} {k:Sb}(h:Knm E k)(n:Nat):sz (k n)<=szM E*2 ^(occE E).length:=by
 have key:∀n,sz (k n)<=szM E+((below (λn=>sz (k n)) (occE E) (sz (k n))).map λn=>sz (k n)).sum:=by
  intro n;rcases h n with⟨j,hj⟩|⟨d,h1,h2,h3⟩
  ·have:=zkc E
   rw[hj]
   simp only[sz];omega
  ·obtain⟨a,b⟩:=h1.le
   have hs:=zmV k d;rw[<-h3]at hs
   have kE:(occM d).Sublist (below (λn=>sz (k n)) (occE E) (sz (k n))):=by
    have:=a.filter λm=>decide (sz (k m)<sz (k n));rw[List.filter_eq_self.2]at this
    ·exact this
    ·intro m hm
     have:=(zp7 k m d (zoF m d hm)).2 (λe=>by rw[e]at h2;exact h2 rfl);rw[<-h3]at this
     simpa using this
   have:((occM d).map λn=>sz (k n)).sum<=((below (λn=>sz (k n)) (occE E) (sz (k n))).map λn=>sz (k n)).sum:=by
    generalize below (λn=>sz (k n)) (occE E) (sz (k n))=M at kE;generalize occM d=M' at kE;clear hs a b h3;induction kE with
    |slnil=>simp
    |cons a _ ih=>simp only[AH,BY];omega
    |cons_cons a _ ih=>simp only[AH,BY];omega
   omega
 have hb:=zjG (λn=>sz (k n)) (occE E) (szM E) (λm _=>key m) (sz (k n));refine AB (key n) (AB hb ?_);exact Nat.mul_le_mul_left _ (Nat.pow_le_pow_right (by omega) (Ci _ _))
def PS(u d:Dt):Prop:=∃v∈zai d,Wi v u
theorem Wi.trans {d u e:Dt}(h:Wi d u)(k:Wi u e):Wi d e:=by
 induction h with
 |refl d=>exact k
 |kid d v _ hv _ ih=>exact .kid d v e hv (ih k)
theorem PS.sz {u d:Dt}(h:PS u d):sz u<sz d:=by
 obtain⟨v,hv,h⟩:=h;exact Nat.lt_of_le_of_lt (zgZ h).2 (zjc hv)
theorem PS.of_kid {u d:Dt}(h:u∈zai d):PS u d:=⟨u,h,.refl u⟩
theorem PS.trans {u v d:Dt}(h:PS u v)(k:PS v d):PS u d:=by
 obtain⟨a,ha,h⟩:=h;obtain⟨b,hb,k⟩:=k;exact⟨b,hb,k.trans (.kid _ a _ ha h)⟩
theorem zjf(s:Sb) {d u:Dt}(h:u∈zai d):ap s u∈zai (ap s d):=by
 rw[(za6 s (λe=>by obtain⟨n,rfl⟩:=zd2 e;cases h)).1]
 exact AM.2 ⟨u,h,rfl⟩
theorem Wi.ap(s:Sb) {d u:Dt}(h:Wi d u):Wi (Tx.ap s d) (Tx.ap s u):=by
 induction h with
 |refl d=>exact .refl _
 |kid d v e hv _ ih=>exact .kid _ _ _ (zjf s hv) ih
theorem PS.ap(s:Sb) {u d:Dt}(h:PS u d):PS (Tx.ap s u) (Tx.ap s d):=by
 obtain⟨v,hv,h⟩:=h;exact⟨_,zjf s hv,h.ap s⟩
def StkS(G:Nat->Option Nd)(k:Sb):List Nat->List Eqn->Prop
 |_,[]=>True
 |ab,q::r=>(q.d=true->(FV G q.l->∀a∈ab,FV G a/\PS (tv G k a) (tv G k q.l))/\(∀e∈r,e.d=true->e.l≠q.l))/\StkS G k (if q.d then ab else q.l::ab) r
def StkN(G:Nat->Option Nd)(C:Nat):Nat->List Eqn->Prop
 |c,[]=>c<=C
 |c,q::r=>(q.d=true->∃x,G q.l=some x/\c<=x.kids.length)/\StkN G C (if q.d then 0 else c+1) r
section
variable {G:Nat->Option Nd} {L:List Nat} {hd:Nat->Nat} {k:Sb} {Ns O:List Nat} {C:Nat}
theorem StkS.sub:(l:List Eqn)->∀ {ab lY:List Nat},StkS G k ab l->(∀a∈lY,a∈ab)->StkS G k lY l
 |[],_,_,_,_=>by rw[StkS];trivial
 |q::r,ab,lY,h,hs=>by
  rw[StkS]at h ⊢
  refine⟨λhq=>⟨λhf a ha=>(h.1 hq).1 hf a (hs a ha),(h.1 hq).2⟩,?_⟩;cases hq:q.d with
  |true=>rw[hq]at h;exact StkS.sub r h.2 hs
  |false =>
   rw[hq]at h
   refine StkS.sub r h.2 λa ha=>?_;rcases An.1 ha with e|ha
   ·rw[e];simp
   ·exact Ar _ (hs a ha)
theorem StkS.pop {q:Eqn} {r:List Eqn}(h:StkS G k [] (q::r)):StkS G k [] r:=by
 rw[StkS]at h
 exact h.2.sub r λa ha=>by cases ha
theorem zmW {m:Nat} {t:Dt} {q:Nat}(h:FV G q):tv G (upd m t k) q=ap (fil m t) (tv G k q):=by
 obtain⟨d,h1,h2⟩:=h;rw[zcD _ h1 h2,zcD _ h1 h2,zbi]
theorem StkS.upd(m:Nat)(t:Dt):(l:List Eqn)->∀ {ab:List Nat},StkS G k ab l->StkS G (Tx.upd m t k) ab l
 |[],_,_=>by rw[StkS];trivial
 |q::r,ab,h=>by
  rw[StkS]at h ⊢
  refine⟨λhq=>⟨λhf a ha=>?_,(h.1 hq).2⟩,StkS.upd m t r h.2⟩;obtain⟨h1,h2⟩:=(h.1 hq).1 hf a ha;exact⟨h1,by rw[zmW h1,zmW hf];exact h2.ap _⟩
theorem StkS.above:(l:List Eqn)->∀ {ab lY:List Nat},StkS G k ab l->(∀a∈lY,∃b∈ab,FV G b->FV G a/\(tv G k a=tv G k b\/PS (tv G k a) (tv G k b)))->StkS G k lY l
 |[],_,_,_,_=>by rw[StkS];trivial
 |q::r,ab,lY,h,hs=>by
  rw[StkS]at h ⊢
  refine⟨λhq=>⟨λhf a ha=>?_,(h.1 hq).2⟩,?_⟩
  ·obtain⟨b,hb,du⟩:=hs a ha
   obtain⟨h1,h2⟩:=(h.1 hq).1 hf b hb;obtain⟨h3,h4|h4⟩:=du h1
   ·exact⟨h3,by rw[h4];exact h2⟩
   ·exact⟨h3,h4.trans h2⟩
  ·cases hq:q.d with
   |true=>rw[hq]at h;exact StkS.above r h.2 hs
   |false =>
    rw[hq]at h
    refine StkS.above r h.2 λa ha=>?_;rcases An.1 ha with e|ha
    ·rw[e];exact⟨q.l,by simp,λh=>⟨h,.inl rfl⟩⟩
    ·obtain⟨b,hb,h⟩:=hs a ha
     exact⟨b,Ar _ hb,h⟩
theorem EntOK.done_mem:(l:List Eqn)->∀ {A:Sb->Prop} {E:List (Dt × Dt)} {N:List Nat},EntOK G hd O A l E N->∀e∈l,e.d=true->FV G e.l\/e.l∈N
 |[],_,_,_,_,e,he,_=>by cases he
 |q::r,A,E,N,h,e,he,hd=>by
  rw[EntOK]at h
  obtain⟨el,er,dl,dr,nl,nr,h1,h2,h3,⟨a,E',N',b,rfl,c⟩|⟨a,b,N',rfl,c⟩⟩:=h
  ·rcases An.1 he with e1|he
   ·rw[e1,a]at hd;cases hd
   ·rcases EntOK.done_mem r c e he hd with h|h
    ·exact .inl h
    ·exact .inr (by simp[h])
  ·rcases An.1 he with e1|he
   ·by_cases hp:Plain dl
    ·exact .inl ⟨dl,by rw[e1];exact(h2.plain hp).2 [],hp⟩
    ·exact .inr (by rw[e1,zcQ hp];simp)
   ·rcases EntOK.done_mem r c e he hd with h|h
    ·exact .inl h
    ·exact .inr (by simp[h])
theorem StkS.put(l:List Eqn):(ps qs:List Nat)->∀ {ab:List Nat},ps.length=qs.length->StkS G k (ps.reverse++ab) l->StkS G k ab (zay ps qs++l)
 |[],[],_,_,h=>h
 |[],_::_,_,h,_=>by simp at h
 |_::_,[],_,h,_=>by simp at h
 |p::ps,q::qs,ab,hl,h=>by
  rw[zay,AE,StkS]
  refine⟨(λhq=>by cases hq),?_⟩;refine StkS.put l ps qs (by simpa using hl) ?_;simpa using h
theorem StkN.put(l:List Eqn):(ps qs:List Nat)->∀ {c:Nat},ps.length=qs.length->StkN G C (c+ps.length) l->StkN G C c (zay ps qs++l)
 |[],[],_,_,h=>h
 |[],_::_,_,h,_=>by simp at h
 |_::_,[],_,h,_=>by simp at h
 |p::ps,q::qs,c,hl,h=>by
  rw[zay,AE,StkN]
  refine⟨(λhq=>by cases hq),?_⟩;refine StkN.put l ps qs (by simpa using hl) ?_;show StkN G C (c+1+ps.length) l;rw[Ao]at h
  rw[show c+1+ps.length=c+(ps.length+1) by omega]
  exact h
theorem StkN.le:(l:List Eqn)->∀ {c d:Nat},StkN G C c l->d<=c->StkN G C d l
 |[],c,d,h,hd=>by rw[StkN]at h ⊢;omega
 |q::r,c,d,h,hd=>by
  rw[StkN]at h ⊢
  refine⟨λhq=>by obtain⟨x,h1,h2⟩:=h.1 hq;exact⟨x,h1,by omega⟩,StkN.le r h.2 ?_⟩;cases q.d <;> simp <;> omega
theorem StkN.pop {q:Eqn} {r:List Eqn}(h:StkN G C 0 (q::r)):StkN G C 0 r:=by
 rw[StkN]at h
 exact h.2.le r (AV _)
theorem Sim.stk {q:Eqn} {r:List Eqn} {f:Nat} {o:Nat ⊕ Sb}(h:Sim G L hd k (q::r) f o)(hq:q.d=false) {x y:Nd}(hx:G (hd q.l)=some x)(hl:x.kids.length=y.kids.length)(hs:StkS G k [] (q::r))(hn:StkN G C 0 (q::r)):StkS G k [] (zay x.kids y.kids++⟨hd q.l,hd q.r,true⟩::r)/\StkN G C 0 (zay x.kids y.kids++⟨hd q.l,hd q.r,true⟩::r):=by
 obtain⟨el,er,dl,dr,nl,nr,E',N',O,a,b,gF,f',S,h1,h2,h3,h4,-,-,-,-,-⟩:=h.uncons hq;obtain⟨d',v1,e1,p1,n1⟩:=S.head h1.left h2 (λx hx=>by simp[hx]);have hFV:FV G (hd q.l)->FV G q.l/\tv G k (hd q.l)=tv G k q.l:=λhf=>by
  by_cases hp:Plain dl
  ·exact⟨⟨dl,(h2.plain hp).2 [],hp⟩,(S.fv_head ⟨dl,(h2.plain hp).2 [],hp⟩).2⟩
  ·exfalso
   obtain⟨e,g1,g2⟩:=hf;obtain⟨u9,n2⟩:=n1 hp;rcases v1 with⟨t,hb⟩|⟨-,i,nm,_,_,hG⟩
   ·exact(t.nonP (by rw[u9];exact hp)) _ _ _ g1 g2
   ·exact zex hG _ _ _ g1 g2
 rw[StkS]at hs
 rw[StkN]at hn
 have bk:=hs.2;have fw:=hn.2;rw[hq]at bk fw
 constructor
 ·refine StkS.put _ _ _ hl ?_
  rw[StkS,AU]
  have ew:∀c∈x.kids.reverse,FV G (hd q.l)->FV G c/\PS (tv G k c) (tv G k (hd q.l)):=λc hc hf=>by
   have hc:=CB.1 hc;obtain⟨-,-,-,-,t1,t2⟩:=S.tv_node hf (S.gr.idm _) hx;have hfc:FV G c:=by
    obtain⟨d,g1,g2⟩:=hf;have g0:=g1;generalize kN:([]:List Nat)=ns at g1;cases g1 with
    |fv _ _ y hy=>rw[hy]at hx;injection hx with hx;subst hx;cases hc
    |bv _ _ _ i _ _=>exact absurd g2 (zaL i)
    |mt _ _ n hy=>rw[hy]at hx;injection hx with hx;subst hx;cases hc
    |all=>exact absurd g2 (zaK _)
    |app _ _ _ ps aN ha hy l1 l2 hk =>
     rw[hy]at hx;injection hx with hx;subst hx
     obtain⟨i,hi,rfl⟩:=AS.1 (show c∈ps from hc);have ht:=hk i _ _ _ (Ak hi) (Ak (show i<(zai d).length by omega)) (Ak (show i<aN.length by omega));have hp:=(zc0 ha).1 g2 _ (Bd (show i<(zai d).length by omega));exact⟨_,(ht.plain hp).2 [],hp⟩
   refine⟨hfc,PS.of_kid ?_⟩;rw[t1,<-(S.fv_head hfc).2]
   exact AM.2 ⟨c,hc,rfl⟩
  refine⟨λ_=>⟨λhf c hc=>ew c hc hf,λe he hed=>?_⟩,?_⟩
  ·intro pU
   rcases h4.done_mem r e he hed with hf|hm
   ·rw[pU]at hf
    obtain⟨f1,f2⟩:=hFV hf;have key:∀(l:List Eqn) (ab:List Nat),StkS G k ab l->q.l∈ab->e∈l->PS (tv G k q.l) (tv G k e.l):=by
     intro l;induction l with
     |nil=>intro ab _ _ h;cases h
     |cons z l ih =>
      intro ab hz du hm;rw[StkS]at hz
      rcases An.1 hm with e1|hm
      ·subst e1
       exact((hz.1 hed).1 (by rw[pU];exact hf) q.l du).2
      ·refine ih _ hz.2 ?_ hm
       cases z.d
       ·simp[du]
       ·exact du
    have:=(key r _ bk (by simp) he).sz;rw[pU,f2]at this
    omega
   ·rw[pU]at hm
    have hnf:¬FV G (hd q.l):=λ⟨d,g1,g2⟩=>S.np _ (by simp[hm]) _ _ _ g1 g2;have sy:¬Plain dl:=λhp=>hnf (S.fv_head ⟨dl,(h2.plain hp).2 [],hp⟩).1;obtain⟨rfl,n2⟩:=n1 sy;rcases v1 with⟨t,hb⟩|⟨-,i,nm,_,g,hG⟩
    ·have:hd q.l∈nl:=t.self_mem sy hb
     exact(zb1 S.nd).2.2 _ (by simp[this]) hm
    ·have hO:hd q.l∈O:=h1.ro _ (AX g)
     exact(S.oc _ hO).2 (by simp[hm])
  ·refine StkS.above r bk λc hc=>⟨q.l,by simp,λhf=>?_⟩
   have hc:c∈x.kids.reverse:=by simpa using hc
   obtain⟨f1,f2⟩:=S.fv_head hf;obtain⟨c1,c2⟩:=ew c hc f1;exact⟨c1,.inr (by rw[<-f2];exact c2)⟩
 ·refine StkN.put _ _ _ hl ?_
  rw[StkN]
  refine⟨λ_=>⟨x,hx,by omega⟩,?_⟩;exact fw.le r (AV _)
def donL(l:List Eqn):List Nat:=(l.filter (·.d)).map (·.l)
theorem zhO(q:Eqn)(r:List Eqn):donL (q::r)=if q.d then q.l::donL r else donL r:=by
 unfold donL;cases h:q.d <;> simp[h]
theorem StkS.nodup:(l:List Eqn)->∀ {ab:List Nat},StkS G k ab l->(donL l).Nodup
 |[],_,_=>Bw
 |q::r,ab,h=>by
  rw[StkS]at h
  have ih:=StkS.nodup r h.2;rw[zhO]
  cases hq:q.d with
  |false=>exact ih
  |true =>
   refine A6.2 ⟨λhm=>?_,ih⟩;obtain⟨e,he,pU⟩:=AM.1 hm;obtain⟨h1,h2⟩:=Ca.1 he;exact(h.1 hq).2 e h1 h2 pU
theorem StkN.len:(l:List Eqn)->∀ {c:Nat},StkN G C c l->c+l.length<=C+((donL l).map (ndW G)).sum/\∀q∈donL l,∃x,G q=some x
 |[],c,h=>by rw[StkN]at h;exact⟨by simp[donL];exact h,λq hq=>by cases hq⟩
 |q::r,c,h=>by
  rw[StkN]at h
  rw[zhO]
  cases hq:q.d with
  |false =>
   rw[hq]at h
   obtain⟨h1,h2⟩:=StkN.len r h.2;simp only[Bg,BX,Ao]at h1 ⊢;exact⟨by omega,h2⟩
  |true =>
   have hc:=h.1 hq;rw[hq]at h
   obtain⟨x,hx,hc⟩:=hc;obtain⟨h1,h2⟩:=StkN.len r h.2;simp only[CA,Ao,AH,BY]at h1 ⊢;have:ndW G q.l=x.kids.length+1:=by unfold ndW;rw[hx]
   refine⟨by omega,λz hz=>?_⟩;rcases An.1 hz with e|hz
   ·rw[e];exact⟨x,hx⟩
   ·exact h2 z hz
theorem StkS.len {l:List Eqn}(h:StkS G k [] l)(hn:StkN G C 0 l)(hL:∀q x,G q=some x->q∈L):l.length<=C+wg G [] L:=by
 obtain⟨h1,h2⟩:=hn.len l;have h4:=zgz (L:=L) (donL l) [] (h.nodup l) (λq hq=>by obtain⟨x,hx⟩:=h2 q hq;exact⟨hL q x hx,x,hx⟩) (λq _ h=>by cases h);omega
theorem StkS.start:(l:List Eqn)->∀ {ab:List Nat},(∀q∈l,q.d=false)->StkS G k ab l
 |[],_,_=>by rw[StkS];trivial
 |q::r,ab,h=>by
  rw[StkS]
  exact⟨(λhq=>by rw[h q (by simp)]at hq;cases hq),StkS.start r λe he=>h e (by simp[he])⟩
theorem StkN.start:(l:List Eqn)->∀ {c:Nat},(∀q∈l,q.d=false)->c+l.length<=C->StkN G C c l
 |[],_,_,h=>by rw[StkN];simpa using h
 |q::r,c,h,hc=>by
  rw[StkN]
  refine⟨(λhq=>by rw[h q (by simp)]at hq;cases hq),?_⟩;rw[h q (by simp)]
  exact StkN.start r (λe he=>h e (by simp[he])) (by simp at hc ⊢;omega)
end
end Go.Proofs.YtfafilmklhnngaaGreatDoor
namespace Go.Proofs.YtfafilmklhnngaaGreatDoor
open Lx Tx
set_option maxRecDepth 100000
theorem zfQ(P:Nat->Prop)(f:Nat):∀(E:List (Dt × Dt))(k k':Sb),unF f E k=some (.inr k')->Idem k->(∀p∈E,∀n,MtOcc n (ap k p.1)\/MtOcc n (ap k p.2)->P n)->∀n,¬P n->k n=.mt n->k' n=.mt n:=by
 induction f with
 |zero=>intro E k k' h;rw[unF]at h;cases h
 |succ f ih =>
  intro E k k' h hk hP n hn bW;cases E with
  |nil=>rw[unF]at h;injection h with h;injection h with h;rw[<-h];exact bW
  |cons p r =>
   obtain⟨a,b⟩:=p;have du:=hP (a,b) Ay;have hr:∀p∈r,∀n,MtOcc n (ap k p.1)\/MtOcc n (ap k p.2)->P n:=λp hp=>hP p (Ar _ hp);rw[unF]at h
   cases hq:act (ap k a) (ap k b) with
   |skip=>rw[hq]at h;exact ih r k k' h hk hr n hn bW
   |clash=>rw[hq]at h;injection h with h;cases h
   |push q =>
    rw[hq]at h
    obtain⟨h1,h2⟩:=zev (zba hk a) (zba hk b) hq;refine ih (q++r) k k' h hk (λp hp m hm=>?_) n hn bW;rcases AA.1 hp with hp|hp
    ·rw[(h2 p hp).1,(h2 p hp).2]at hm
     refine du m ?_;rcases zbU hq with⟨c,u,v,e1,e2,_,rfl⟩|⟨c,d,c',d',e1,e2,rfl⟩|⟨c,d,e1,e2,rfl⟩
     ·simp only[e1,e2,MtOcc,zaA]
      rcases hm with hm|hm
      ·exact .inl ⟨_,(Bv hp).1,hm⟩
      ·exact .inr ⟨_,(Bv hp).2,hm⟩
     ·simp only[e1,e2,MtOcc]
      simp at hp;rcases hp with rfl|rfl
      ·rcases hm with hm|hm
       ·exact .inl (.inl hm)
       ·exact .inr (.inl hm)
      ·rcases hm with hm|hm
       ·exact .inl (.inr hm)
       ·exact .inr (.inr hm)
     ·simp only[e1,e2,MtOcc]
      simp at hp;rw[hp]at hm
      exact hm
    ·exact hr p hp m hm
   |learn m t =>
    rw[hq]at h
    simp only at h;by_cases hb:bad m t=0
    ·rw[Aq hb]at h
     obtain⟨e1,e2,e3,e4⟩:=zbI hk hq;have ho:=((zdn m t).1 hb).1;have az:n≠m:=λe=>hn (e▸du m e3);refine ih r (upd m t k) k' h (zdo hk e2 ho) (λp hp j hj=>?_) n hn ?_
     ·rw[zbi,zbi,zdm,zdm]at hj
      rcases hj with⟨i,hi,hj⟩|⟨i,hi,hj⟩
      ·by_cases dD:i=m
       ·rw[dD,zaX]at hj;exact du j (e4 j hj)
       ·rw[zaN m t i dD,MtOcc]at hj;rw[hj];exact hr p hp i (.inl hi)
      ·by_cases dD:i=m
       ·rw[dD,zaX]at hj;exact du j (e4 j hj)
       ·rw[zaN m t i dD,MtOcc]at hj;rw[hj];exact hr p hp i (.inr hi)
     ·show ap (fil m t) (k n)=.mt n
      rw[bW,zaz,zaN m t n az]
    ·rw[Am hb]at h;injection h with h;cases h
structure Told (k:Sb) (l:List (Nat × Ty)):Prop where
 up:(l.map (·.1)).Pairwise (· < ·)
 mem:∀n t,(n,t)∈l↔k n≠.mt n/\t=toTy (k n)
set_option maxRecDepth 100000
theorem zhI:(l l':List (Nat × Ty))->(l.map (·.1)).Pairwise (· < ·)->(l'.map (·.1)).Pairwise (· < ·)->(∀e,e∈l↔e∈l')->l=l'
 |[],[],_,_,_=>rfl
 |[],e::r,_,_,h=>by have:=(h e).2 (by simp);cases this
 |e::r,[],_,_,h=>by have:=(h e).1 (by simp);cases this
 |(n,t)::r,(m,u)::s,h1,h2,h=>by
  rw[AH,List.pairwise_cons]at h1 h2
  obtain⟨a1,a2⟩:=h1;obtain⟨b1,b2⟩:=h2;have aX:∀e∈r,n<e.1:=λe he=>a1 e.1 (AM.2 ⟨e,he,rfl⟩);have cB:∀e∈s,m<e.1:=λe he=>b1 e.1 (AM.2 ⟨e,he,rfl⟩);have e1:(n,t)=(m,u):=by
   rcases An.1 ((h (n,t)).1 (by simp)) with e|e
   ·exact e
   ·rcases An.1 ((h (m,u)).2 (by simp)) with e'|e'
    ·exact e'.symm
    ·have:=cB _ e
     have:=aX _ e';simp only at *;omega
  rw[e1]
  injection e1 with e1 e2;subst e1 e2;rw[zhI r s a2 b2 λe=>?_]
  have h3:=h e;rw[An,An]at h3
  constructor
  ·intro he
   rcases h3.1 (.inr he) with e'|e'
   ·have:=aX e he
    rw[e']at this
    simp only at this;omega
   ·exact e'
  ·intro he
   rcases h3.2 (.inr he) with e'|e'
   ·have:=cB e he
    rw[e']at this
    simp only at this;omega
   ·exact e'
theorem Told.uniq {k:Sb} {l l':List (Nat × Ty)}(h:Told k l)(h':Told k l'):l=l' :=
 zhI _ _ h.up h'.up λe=>by
  obtain⟨n,t⟩:=e;rw[h.mem,h'.mem]
def isMt(n:Nat):Dt->Bool
 |.mt m=>m==n
 |_=>false
theorem zi2(n:Nat)(d:Dt):isMt n d=true↔d=.mt n:=by
 cases d <;> simp[isMt]
def knOf(k:Sb):List Nat->List (Nat × Ty)
 |[]=>[]
 |n::r=>if isMt n (k n) then knOf k r else(n,toTy (k n))::knOf k r
theorem zi3(k:Sb)(m:Nat)(t:Ty):(ns:List Nat)->((m,t)∈knOf k ns↔m∈ns/\k m≠.mt m/\t=toTy (k m))
 |[]=>by simp[knOf]
 |n::r=>by
  rw[knOf]
  have ih:=zi3 k m t r;by_cases hq:isMt n (k n)=true
  ·rw[Aq hq,ih]
   rw[zi2]at hq
   constructor
   ·rintro⟨a,b⟩;exact⟨by simp[a],b⟩
   ·rintro⟨a,b,c⟩
    rcases An.1 a with e|e
    ·rw[e]at b;exact absurd hq b
    ·exact⟨e,b,c⟩
  ·rw[Am hq,An,ih]
   rw[zi2]at hq
   constructor
   ·rintro(e|⟨a,b⟩)
    ·injection e with e1 e2
     subst e1;exact⟨by simp,hq,e2⟩
    ·exact⟨by simp[a],b⟩
   ·rintro⟨a,b,c⟩
    rcases An.1 a with e|e
    ·left;rw[c,e]
    ·exact .inr ⟨e,b,c⟩
theorem zfN(k:Sb):(ns:List Nat)->((knOf k ns).map (·.1)).Sublist ns
 |[]=>by rw[knOf];exact .slnil
 |n::r=>by
  rw[knOf]
  split
  ·exact(zfN k r).cons n
  ·exact(zfN k r).cons_cons n
def metQ(E:List (Dt × Dt)):List Nat:=E.flatMap λp=>zaO p.1 []++zaO p.2 []
theorem zmG {f:Nat} {E:List (Dt × Dt)} {k:Sb}(h:unF f E .mt=some (.inr k))(ns:List Nat)(hp:ns.Pairwise (· < ·))(hm:(metQ E).all (λn=>ns.contains n)=true):Told k (knOf k ns):=by
 refine⟨List.Pairwise.sublist (zfN k ns) hp,λn t=>?_⟩;rw[zi3]
 constructor
 ·exact λh=>h.2
 ·rintro⟨h1,h2⟩
  refine⟨?_,h1,h2⟩;refine Decidable.by_contra λhn=>h1 (zfQ (λn=>n∈ns) f E .mt k h zcv (λp hp n hq=>?_) n hn rfl);rw[zcb,zcb]at hq
  have:n∈metQ E:=by
   unfold metQ;refine List.mem_flatMap.2 ⟨p,hp,AA.2 ?_⟩;rw[zbc,zbc]
   simpa using hq
  simpa using CD.1 hm n this
def zbe:List (Nat × Ty)->List UInt8
 |[]=>[]
 |(n,t)::l=>59::(dec n++61::(t.canonT.print++zbe l))
theorem zgu(n:Nat)(t:Ty):(l:List (Nat × Ty))->zbe (l++[(n,t)])=zbe l++(59::(dec n++61::t.canonT.print))
 |[]=>by simp[zbe]
 |(m,u)::l=>by rw[AE,zbe,zbe,zgu n t l];simp
end Go.Proofs.YtfafilmklhnngaaGreatDoor
namespace Go.Proofs.YtfafilmklhnngaaGreatDoor
open Lx Tx
set_option maxRecDepth 100000
mutual
theorem zdk(k:Sb)(hk:∀n,n<=999999->NmD (k n)):(d:Dt)->NmD d->NmD (ap k d)
 |.fv x,h=>by rw[zbt];exact h
 |.bv i,h=>by rw[zbL];exact h
 |.mt n,h=>by rw[zaz];rw[NmD]at h;exact hk n h
 |.con c l,h=>by rw[NmD]at h;rw[za9,NmD];exact⟨h.1,zj3 k hk l h.2⟩
 |.fn a b,h=>by rw[NmD]at h;rw[zbp,NmD];exact⟨zdk k hk a h.1,zdk k hk b h.2⟩
 |.all t,h=>by rw[NmD]at h;rw[zaJ,NmD];exact zdk k hk t h
theorem zj3(k:Sb)(hk:∀n,n<=999999->NmD (k n)):(l:List Dt)->NmDL l->NmDL (apL k l)
 |[],h=>by unfold apL;rw[zaU,NmDL];trivial
 |t::r,h=>by
  rw[NmDL]at h
  have h1:=zdk k hk t h.1;have h2:=zj3 k hk r h.2;unfold ap at h1;unfold apL at h2 ⊢;rw[zaU,NmDL]
  exact⟨h1,h2⟩
end
theorem zdl:(l:List Dt)->(NmDL l↔∀d∈l,NmD d)
 |[]=>by rw[NmDL];simp
 |t::r=>by rw[NmDL,zdl r];simp
theorem zom {x y:Dt} {q:List (Dt × Dt)}(h:act x y=.push q)(hx:NmD x)(hy:NmD y):∀p∈q,NmD p.1/\NmD p.2:=by
 intro p hp;rcases zbU h with⟨c,u,v,rfl,rfl,_,rfl⟩|⟨a,b,c,d,rfl,rfl,rfl⟩|⟨a,b,rfl,rfl,rfl⟩
 ·rw[NmD]at hx hy
  have h1:=(zdl _).1 hx.2;have h2:=(zdl _).1 hy.2;obtain⟨a,b⟩:=p;exact⟨h1 _ (Bv hp).1,h2 _ (Bv hp).2⟩
 ·rw[NmD]at hx hy
  simp at hp;rcases hp with rfl|rfl
  ·exact⟨hx.1,hy.1⟩
  ·exact⟨hx.2,hy.2⟩
 ·rw[NmD]at hx hy
  simp at hp;rw[hp]
  exact⟨hx,hy⟩
theorem zp4(f:Nat):∀(E:List (Dt × Dt))(k k':Sb),unF f E k=some (.inr k')->(∀p∈E,NmD p.1/\NmD p.2)->(∀n,n<=999999->NmD (k n))->∀n,n<=999999->NmD (k' n):=by
 induction f with
 |zero=>intro E k k' h;rw[unF]at h;cases h
 |succ f ih =>
  intro E k k' h hE hk;cases E with
  |nil=>rw[unF]at h;injection h with h;injection h with h;rw[<-h];exact hk
  |cons p r =>
   obtain⟨a,b⟩:=p;obtain⟨ha,hb⟩:=hE (a,b) Ay;have ha:=zdk k hk a ha;have hb:=zdk k hk b hb;have hr:∀p∈r,NmD p.1/\NmD p.2:=λp hp=>hE p (Ar _ hp);rw[unF]at h
   cases hq:act (ap k a) (ap k b) with
   |skip=>rw[hq]at h;exact ih r k k' h hr hk
   |clash=>rw[hq]at h;injection h with h;cases h
   |push q =>
    rw[hq]at h
    have h2:=zom hq ha hb;refine ih (q++r) k k' h (λp hp=>?_) hk;rcases AA.1 hp with hp|hp
    ·exact h2 p hp
    ·exact hr p hp
   |learn m t =>
    rw[hq]at h
    simp only at h;by_cases iv:bad m t=0
    ·rw[Aq iv]at h
     have ht:NmD t:=by
      rcases(zcc hq).1 with⟨_,e⟩|⟨_,e⟩
      ·rw[e];exact hb
      ·rw[e];exact ha
     refine ih r _ k' h hr λn hn=>zdk _ (λj hj=>?_) _ (hk n hn);unfold fil;split
     ·exact ht
     ·rw[NmD];exact hj
    ·rw[Am iv]at h;injection h with h;cases h
theorem zgQ(n:Nat)(d:Dt):NmD d->MtOcc n d->n<=999999:=by
 induction d using Dt.ind with
 |hf x=>intro _ h;rw[MtOcc]at h;exact h.elim
 |hb i=>intro _ h;rw[MtOcc]at h;exact h.elim
 |hm j=>intro h1 h2;rw[MtOcc]at h2;rw[NmD]at h1;rw[h2];exact h1
 |hc c l ih =>
  intro h1 h2;rw[NmD]at h1
  rw[MtOcc,zaA]at h2
  obtain⟨d,hd,h2⟩:=h2;exact ih d hd ((zdl l).1 h1.2 d hd) h2
 |hn a b iha ihb =>
  intro h1 h2;rw[NmD]at h1
  rw[MtOcc]at h2
  rcases h2 with h2|h2
  ·exact iha h1.1 h2
  ·exact ihb h1.2 h2
 |ha t ih=>intro h1 h2;rw[NmD]at h1;rw[MtOcc]at h2;exact ih h1 h2
theorem zpA(d:Dt):Plain d->NmD d->Nm (toTy d):=by
 induction d using Dt.ind with
 |hf x=>intro _ h;rw[NmD]at h;rw[toTy];exact .var x h
 |hb i=>intro h;exact absurd h (zaL i)
 |hm n=>intro _ h;rw[NmD]at h;rw[toTy];exact .mt n h
 |hc c l ih =>
  intro h1 h2;rw[NmD]at h2
  rw[toTy,zdF]
  refine .con c _ h2.1 λt ht=>?_;obtain⟨d,hd,rfl⟩:=AM.1 ht;exact ih d hd ((zdE c l).1 h1 d hd) ((zdl l).1 h2.2 d hd)
 |hn a b iha ihb =>
  intro h1 h2;rw[NmD]at h2
  have h1:=(plain_fn a b).1 h1;rw[toTy]
  exact .fn _ _ (iha h1.1 h2.1) (ihb h1.2 h2.2)
 |ha t ih=>intro h;exact absurd h (zaK t)
theorem zmH(d:Dt):(toTy d).size<=sz d:=by
 induction d using Dt.ind with
 |hf x=>rw[toTy,Ty.size,sz];omega
 |hb i=>rw[toTy,Ty.size,sz];omega
 |hm n=>rw[toTy,Ty.size,sz];omega
 |hc c l ih =>
  rw[toTy,Ty.size,sz,zdF]
  have:∀r:List Dt,(∀d∈r,(toTy d).size<=sz d)->zaf (r.map toTy)<=szL r:=by
   intro r;induction r with
   |nil=>intro _;exact Ai _
   |cons x r ihr =>
    intro h;rw[AH,zaf,szL]
    have:=h x (by simp);have:=ihr λd hd=>h d (by simp[hd]);omega
  have:=this l ih;omega
 |hn a b iha ihb=>rw[toTy,Ty.size,sz];omega
 |ha t ih=>rw[toTy,Ty.size,sz];omega
theorem zk6 {f:Nat} {ts:List (Ty × Ty)} {k:Sb} {l:List (Nat × Ty)}(h:unF f (dbQ ts) .mt=some (.inr k))(hT:Told k l)(az:∀t u,(t,u)∈ts->Nm t/\Nm u)(n:Nat)(t:Ty)(he:(n,t)∈l):n<=999999/\Nm t/\Plain (k n)/\NmD (k n)/\t.size<=sz (k n)/\sz (k n)<=szM (dbQ ts)*2 ^(occE (dbQ ts)).length:=by
 obtain⟨h1,h2⟩:=(hT.mem n t).1 he;have hE:∀p∈dbQ ts,NmD p.1/\NmD p.2:=λp hp=>by
  unfold dbQ at hp;obtain⟨⟨a,b⟩,hq,rfl⟩:=AM.1 hp;obtain⟨x,y⟩:=az a b hq;exact⟨zdC [] a x,zdC [] b y⟩
 have hn:n<=999999:=by
  refine Decidable.by_contra λhn=>h1 (zfQ (λn=>n<=999999) f (dbQ ts) .mt k h zcv (λp hp n hq=>?_) n hn rfl);rw[zcb,zcb]at hq
  rcases hq with hq|hq
  ·exact zgQ n _ (hE p hp).1 hq
  ·exact zgQ n _ (hE p hp).2 hq
 have hp:=(zmR f _ _ _ h zcv za5).2.1 n;have hd:=zp4 f _ _ _ h hE (λn hn=>by rw[NmD];exact hn) n hn;have hs:=(zoD (dbQ ts) f (dbQ ts) .mt k h zcv (λn=>.inl ⟨n,rfl⟩) λp hp=>⟨⟨p.1,⟨p,hp,.inl (.refl _)⟩,rfl⟩,⟨p.2,⟨p,hp,.inr (.refl _)⟩,rfl⟩⟩).size n;rw[h2]
 exact⟨hn,zpA _ hp hd,hp,hd,zmH _,hs⟩
def Rig(d:Dt):Prop:=∀n,¬MtOcc n d
theorem Rig.ap {d:Dt}(h:Rig d)(k:Sb):ap k d=d:=zhY k d λn hn=>absurd hn (h n)
theorem zon {x y:Dt} {q:List (Dt × Dt)}(h:act x y=.push q)(hx:Rig x)(hy:Rig y):(∀p∈q,Rig p.1/\Rig p.2)/\(x=y↔∀p∈q,p.1=p.2):=by
 rcases zbU h with⟨c,u,v,rfl,rfl,hl,rfl⟩|⟨a,b,c,d,rfl,rfl,rfl⟩|⟨a,b,rfl,rfl,rfl⟩
 ·have kx:∀d∈u,Rig d:=λd hd n hn=>hx n (by rw[MtOcc,zaA];exact⟨d,hd,hn⟩)
  have ky:∀d∈v,Rig d:=λd hd n hn=>hy n (by rw[MtOcc,zaA];exact⟨d,hd,hn⟩);refine⟨λp hp=>⟨kx _ (Bv hp).1,ky _ (Bv hp).2⟩,?_⟩;constructor
  ·intro h p hp
   injection h with _ h;subst h;obtain⟨i,hi,rfl⟩:=AS.1 hp;simp
  ·intro h
   congr 1
   refine CC hl λi h1 h2=>?_;have:=h (u[i],v[i]) (AS.2 ⟨i,by simp;omega,by simp⟩);exact this
 ·refine⟨λp hp=>?_,?_⟩
  ·simp at hp
   rcases hp with rfl|rfl
   ·exact⟨λn hn=>hx n (by rw[MtOcc];exact .inl hn),λn hn=>hy n (by rw[MtOcc];exact .inl hn)⟩
   ·exact⟨λn hn=>hx n (by rw[MtOcc];exact .inr hn),λn hn=>hy n (by rw[MtOcc];exact .inr hn)⟩
  ·simp
 ·refine⟨λp hp=>?_,?_⟩
  ·simp at hp
   rw[hp]
   exact⟨λn hn=>hx n (by rw[MtOcc];exact hn),λn hn=>hy n (by rw[MtOcc];exact hn)⟩
  ·simp
theorem zi4 {x y:Dt}(h:act x y=.clash):x≠y:=by
 intro e;subst e;rcases zi8 x with h1|⟨l,h1,_⟩ <;> rw[h1]at h <;> cases h
theorem zpB(f:Nat):∀(E:List (Dt × Dt))(k:Sb)(o:Nat ⊕ Sb),unF f E k=some o->(∀p∈E,Rig p.1/\Rig p.2)->(o=.inl 40/\¬ ∀p∈E,p.1=p.2)\/(o=.inr k/\∀p∈E,p.1=p.2):=by
 induction f with
 |zero=>intro E k o h;rw[unF]at h;cases h
 |succ f ih =>
  intro E k o h hE;cases E with
  |nil=>rw[unF]at h;injection h with h;exact .inr ⟨h.symm,λp hp=>by cases hp⟩
  |cons p r =>
   obtain⟨a,b⟩:=p;obtain⟨ra,rb⟩:=hE (a,b) Ay;have hr:∀p∈r,Rig p.1/\Rig p.2:=λp hp=>hE p (Ar _ hp);rw[unF]at h
   simp only at ra rb;rw[ra.ap,rb.ap]at h
   cases hq:act a b with
   |skip =>
    rw[hq]at h
    have e:=zi7 hq;rcases ih r k o h hr with⟨h1,h2⟩|⟨h1,h2⟩
    ·exact .inl ⟨h1,λh3=>h2 λp hp=>h3 p (Ar _ hp)⟩
    ·refine .inr ⟨h1,λp hp=>?_⟩
     rcases An.1 hp with rfl|hp
     ·exact e
     ·exact h2 p hp
   |clash =>
    rw[hq]at h
    injection h with h;exact .inl ⟨h.symm,λh3=>zi4 hq (h3 (a,b) Ay)⟩
   |push q =>
    rw[hq]at h
    obtain⟨h1,h2⟩:=zon hq ra rb;rcases ih (q++r) k o h (λp hp=>(AA.1 hp).elim (h1 p) (hr p)) with⟨h3,h4⟩|⟨h3,h4⟩
    ·refine .inl ⟨h3,λh5=>h4 λp hp=>?_⟩
     rcases AA.1 hp with hp|hp
     ·exact h2.1 (h5 (a,b) Ay) p hp
     ·exact h5 p (Ar _ hp)
    ·refine .inr ⟨h3,λp hp=>?_⟩
     rcases An.1 hp with rfl|hp
     ·exact h2.2 λp hp=>h4 p (AA.2 (.inl hp))
     ·exact h4 p (AA.2 (.inr hp))
   |learn m t =>
    rcases(zcc hq).1 with⟨e,_⟩|⟨e,_⟩
    ·exact absurd (by rw[e,MtOcc]) (ra m)
    ·exact absurd (by rw[e,MtOcc]) (rb m)
theorem Told.none {l:List (Nat × Ty)}(h:Told .mt l):l=[]:=by
 cases l with
 |nil=>rfl
 |cons e r =>
  obtain⟨n,t⟩:=e;exact absurd rfl ((h.mem n t).1 Ay).1
def OneAns(t u:Ty)(o:List UInt8):Prop :=
 (∃f m,unF f (dbQ [(t,u)]) .mt=some (.inl m)/\o=dec m)\/∃f k l,unF f (dbQ [(t,u)]) .mt=some (.inr k)/\Told k l/\l.length<=100/\(∀e∈l,e.2.size<=1000)/\o=48::zbe l
def oneG(f:Nat)(ns:List Nat)(l r:List UInt8):Option (List UInt8) :=
 match parse l,parse r with
 |.ok t,.ok u=>if(metQ (dbQ [(t,u)])).all (λn=>ns.contains n) then
   match unF f (dbQ [(t,u)]) .mt with
   |some (.inl m)=>some (dec m)
   |some (.inr k)=>if(knOf k ns).length<=100/\(knOf k ns).all (λe=>decide (e.2.size<=1000)) then some (48::zbe (knOf k ns)) else none
   |none=>none
  else none
 |_,_=>none
theorem zoo {f:Nat} {ns:List Nat} {l r o:List UInt8}(h:oneG f ns l r=some o)(hn:ns.Pairwise (· < ·)):∃t u,parse l=.ok t/\parse r=.ok u/\OneAns t u o:=by
 unfold oneG at h;split at h
 ·rename_i t u ht hu
  refine⟨t,u,ht,hu,?_⟩;split at h
  ·rename_i hm
   split at h
   ·rename_i m hf
    injection h with h;exact .inl ⟨f,m,hf,h.symm⟩
   ·rename_i k hf
    split at h
    ·rename_i hs
     injection h with h;refine .inr ⟨f,k,_,hf,zmG hf ns hn hm,hs.1,λe he=>?_,h.symm⟩;simpa using CD.1 hs.2 e he
    ·cases h
   ·cases h
  ·cases h
 ·cases h
def conC(m:Nat):Ty:=.con (67::dec m) []
theorem gd_C(m:Nat)(h:m<=999999):Gd 2 (67::dec m):=by
 have hl:(dec m).length<=6:=zdj 20 6 m (by omega) (by omega);have hd:∀d∈(67:UInt8)::dec m,inW d=true:=by
  intro d hd;rcases An.1 hd with rfl|hd
  ·decide
  ·simp[inW,ziL 20 m d hd]
 have hsp:=zh3 inW _ hd;refine⟨by simp,?_,by omega⟩;rw[first,Aq (by decide),word,hsp,Am (by simp;omega),List.take_length]
 have hk:wordKind (67::dec m)=2:=by
  unfold wordKind;rw[Am (by simp[keys]),Aq (by simp only[List.headD_cons];decide)]
 rw[hk]
theorem zj4(m:Nat)(h:m<=999999):Nm (conC m):=.con _ _ (gd_C m h) λt ht=>by cases ht
theorem zdD(m:Nat):(conC m).size=1:=rfl
theorem zpD(m:Nat):db [] (conC m)=.con (67::dec m) []:=by unfold conC;rw[db,dbL]
theorem zoq(m n:Nat):¬MtOcc n (db [] (conC m)):=by rw[zpD,MtOcc,zbG];exact id
theorem zor(m n:Nat)(d:Dt):MtOcc n (filD m (db [] (conC m)) d)↔MtOcc n d/\n≠m:=by
 have e:filD m (db [] (conC m)) d=ap (fil m (db [] (conC m))) d:=rfl;rw[e,zdm]
 constructor
 ·rintro⟨i,h1,h2⟩
  by_cases dD:i=m
  ·rw[dD,zaX]at h2;exact absurd h2 (zoq m n)
  ·rw[zaN _ _ _ dD,MtOcc]at h2
   rw[h2]
   exact⟨h1,dD⟩
 ·rintro⟨h1,h2⟩
  exact⟨n,h1,by rw[zaN _ _ _ h2,MtOcc]⟩
end Go.Proofs.YtfafilmklhnngaaGreatDoor
namespace Go.Proofs.YtfafilmklhnngaaGreatDoor
open Go.RowKit Lx Tx Go.Maps Go.WideMaps
set_option maxRecDepth 100000
theorem zoh(b mk ql qr:Nat)(c4:Value)(c0 c1 c2:Value)(K:Nat->Option Nat)(hd:Nat->Nat)(w:World)
  (hb:Blk w b 85 #[c0,c1,c2,.map (some mk),c4])(hk:Knw w mk K hd)(hl:LaidQ w ql)(hr:LaidQ w qr)(ig:LaidQ w (hd ql))(ie:LaidQ w (hd qr))(G:Nat->Option Nd)(D:Nat->Dy)(bB:PartsD w G D)(x y:Nd)(hx:G (hd ql)=some x)(hy:G (hd qr)=some y)(af:hd ql≠hd qr)(hm:x.kd=5)(fW:fitB x y=true)(lc rc:Nat)(xl yr:Nd)(fX:x.con=some lc/\G lc=some xl/\hd lc=lc)(hcr:y.con=some rc/\G rc=some yr/\hd rc=rc)(gJ:lc≠rc)(B:Nat)(stk:List Eqn)(hB:B<=w.heap.size)(ho:w.ownsRow B 78 3 c0 stk.length (eqCells stk))(hn:stk.length+x.kids.length+1<=1000000):Calls Tryz.prog 36 #[.pointer (some ⟨b,0,none⟩),.agg #[.pointer (some ⟨ql,0,none⟩),.pointer (some ⟨qr,0,none⟩),.bool false]] w λr w'=>r=.returned (.int .i64 0)/\WkP b mk B c0 c1 c2 c4 G D (hdL hd lc rc) (stk++(zay x.kids y.kids++[(⟨hd ql,hd qr,true⟩:Eqn)]).reverse) w w':=by
 have cH:=CS af;have rU:Hid (hd (hd ql)=hd ql/\hd (hd qr)=hd qr):=CS ⟨hk.idem _,hk.idem _⟩;have tW:=CS bB;have bK:Hid (∀(g:Nat) (cs:Array Value) (t:TypeId),w.heap[g]?=some (.cells cs t (0,0))->¬only mk g):=CS λg cs t hg e=>by
  have e:g=mk:=e;rw[e]at hg
  exact MapK.no hk.mp hg
 have HX:=CS hx;have HY:=CS hy;have HM:=CS hm;have rW:=CS fW;have HO:=CS ho;have qD:=CS hB;have HN:=CS hn;have me:=CS fX;have zT:=CS hcr;have HLR:=CS gJ;clear hm fW ho hB hn fX hcr gJ;clear af bB hx hy;have dL:mk<w.heap.size:=MapK.lt hk.mp;have h1:WkI b w.heap.size mk ql qr false c0 c1 c2 c4 hd w (w.alloc (.cells #[.pointer (some ⟨ql,0,none⟩),.pointer (some ⟨qr,0,none⟩),.bool false] 78)):=by
  have cL:∀g,g<w.heap.size->(w.alloc (.cells #[.pointer (some ⟨ql,0,none⟩),.pointer (some ⟨qr,0,none⟩),.bool false] 78)).heap[g]?=w.heap[g]?:=λg hg=>Below.heap_alloc _ _ _ hg;have bC:∀x,LaidQ w x->LaidQ (w.alloc (.cells #[.pointer (some ⟨ql,0,none⟩),.pointer (some ⟨qr,0,none⟩),.bool false] 78)) x:=λx ⟨cs,hx⟩=>⟨cs,(cL x (Aj.1 hx).1).trans hx⟩;exact⟨hb.alloc _,heap_alloc_new _ _,⟨K,hk.keep (cL _ dL) bC⟩,bC _ hl,bC _ hr,bC _ ig,bC _ ie,(Chg.refl _ _).alloc _⟩
 obtain⟨w1,bU⟩:∃W,w.alloc (.cells #[.pointer (some ⟨ql,0,none⟩),.pointer (some ⟨qr,0,none⟩),.bool false] 78)=W:=⟨_,rfl⟩;rw[bU]at h1
 obtain⟨z0,z1,z2,zl⟩:=h1.drew.facts;have eU:=CS (h1.drew.head ql h1.ll);have dT:=CS (h1.drew.head qr h1.lr);have eI:=CS bU;clear hb hk hl hr ig ie dL h1 bU;go_enter Tryz.func36,Tryz.ntmps36
 go_upto_region 1 with fail
 rw[eI.out]
 go_cut [5,6] from 7 to 14 (λv5 v6 wx=>v5=.pointer (some ⟨hd ql,0,none⟩)/\v6=.pointer (some ⟨hd qr,0,none⟩)/\Hid (WkI b w.heap.size mk ql qr false c0 c1 c2 c4 hd w wx))
 case first =>
  go_region_law (first
   |(go_simp;(with_reducible refine eU.out.mono ?_);rintro r w5 ⟨rfl,bd⟩;obtain⟨y0,y1,y2,yl⟩:=bd.facts;have fC:=CS (bd.head qr bd.lr);clear bd)
   |(go_simp;(with_reducible refine dT.out.mono ?_);rintro r w5 ⟨rfl,bd⟩;obtain⟨y0,y1,y2,yl⟩:=bd.facts;have oi:=CS (bd.head ql bd.ll);clear bd)
   |(go_simp;(with_reducible refine fC.out.mono ?_);rintro r w6 ⟨rfl,bL⟩;obtain⟨x0,x1,x2,xl⟩:=bL.facts;have ix:=CS bL;clear bL)
   |(go_simp;(with_reducible refine oi.out.mono ?_);rintro r w6 ⟨rfl,bL⟩;obtain⟨x0,x1,x2,xl⟩:=bL.facts;have ix:=CS bL;clear bL))
  all_goals
   go_wp2_with fail
   go_meet
   case rel=>exact⟨rfl,rfl,ix⟩
 case rest =>
  rename World=>V0;obtain⟨rfl,rfl,hw⟩:=hcut;have bh:=hw.out;have heq:=zct bh.hl bh.hr;rw[AQ cH.out]at heq
  obtain⟨K5,aO⟩:=bh.kn;obtain⟨z0,z1,z2,zl⟩:=bh.facts;have aV:PartsD V0 G D:=tW.out.same λk hk ⟨cs,t,hx⟩=>bh.ch.block k hk (bK.out k cs t hx);obtain⟨A1,cc1,p0,-,-,-,-,-,-⟩:=(aV _ x HX.out).facts;obtain⟨A2,cc2,q0,-,-,-,-,-,-⟩:=(aV _ y HY.out).facts;have lp:=(aV _ x HX.out).lt;have lq:=(aV _ y HY.out).lt;obtain⟨kx,cO⟩:∃k,x.kd=k:=⟨_,rfl⟩;obtain⟨ky,ji⟩:∃k,y.kd=k:=⟨_,rfl⟩;rw[cO]at p0
  rw[ji]at q0
  have fW:=zgP (hd ql) (hd qr) x y _ _ V0 (aV _ x HX.out) (aV _ y HY.out);rw[rW.out]at fW
  have rX:=CS fW;have fB:=CS bh;have zt:=CS aV;have iQ:=CS aO;have hm:kx=5:=by rw[<-cO];exact HM.out
  have cB:ky=5:=by
   have h:=rW.out;unfold fitB at h;simp only[CE,CF]at h;rw[<-ji,<-h.1.1.1,cO,hm]
  have e2:((kx:Int)==2)=false:=by rw[hm];rfl
  have e3:((ky:Int)==2)=false:=by rw[cB];rfl
  have e5:((kx:Int)==5)=true:=by rw[hm];rfl
  have zK:=CS cO;clear fW bh aO aV hw eU dT cO ji hm cB;go_wp2_with fail
  refine rX.out.mono ?_;rintro e wf ⟨rfl,fg,hsf⟩;have cJ:PartsD wf G D:=zt.out.same λk hk _=>fg.block k hk;obtain⟨A3,cc3,r0,-,-,-,r5,-,-⟩:=(cJ _ x HX.out).facts;obtain⟨A4,cc4,-,-,-,-,t5,-,-⟩:=(cJ _ y HY.out).facts;rw[zK.out]at r0
  rw[me.out.1]at r5
  rw[zT.out.1]at t5
  replace r5:wf.cell? ⟨hd ql,5,none⟩=some (.pointer (some ⟨lc,0,none⟩)):=r5;replace t5:wf.cell? ⟨hd qr,5,none⟩=some (.pointer (some ⟨rc,0,none⟩)):=t5;have lp3:=(cJ _ x HX.out).lt;have lq3:=(cJ _ y HY.out).lt;have sI:MapQ wf.drew mk K5:=MapK.keep iQ.out.mp (fg.block mk (MapK.lt iQ.out.mp)) (λz ⟨cs,hz⟩=>⟨cs,(fg.block z (Aj.1 hz).1).trans hz⟩);have hkf:Knw wf.drew mk K5 hd:=iQ.out.keep (fg.block mk (MapK.lt iQ.out.mp)) (λz ⟨cs,hz⟩=>⟨cs,(fg.block z (Aj.1 hz).1).trans hz⟩);obtain⟨w6,aA,dZ,dq,dO⟩:=MapK.store sI keyQ Tryz.underlying83 lc rc (cJ lc xl me.out.2.1).laid;have eD:(Instr.mapUpdate 83 (.map (some mk)) (.pointer (some ⟨lc,0,none⟩)) (.pointer (some ⟨rc,0,none⟩))).run Tryz.prog wf.drew=.ok () w6:=aA;have oy:Blk wf b 85 #[c0,c1,c2,.map (some mk),c4]:=fB.out.sb.below fg fB.out.sb.lt;have k3:wf.cell? ⟨b,3,none⟩=some (.map (some mk)):=oy.cell 3;have lbf:=oy.lt;have oL:∀(k:Nat) (cs:Array Value) (t:TypeId),wf.heap[k]?=some (.cells cs t (0,0))->w6.heap[k]?=wf.heap[k]?:=λk cs t hk=>dq.block k (Aj.1 hk).1 (λe=>by injection e with e;rw[e]at hk;exact MapK.no sI hk);have eL:Knw w6 mk (upn K5 lc (some rc)) (hdL hd lc rc):=hkf.link me.out.2.2 zT.out.2.2 HLR.out (cJ lc xl me.out.2.1).laid (cJ rc yr zT.out.2.1).laid dZ (λz ⟨cs,hz⟩=>⟨cs,(oL z cs _ hz).trans hz⟩);have kL:PartsD w6 G D:=cJ.same λk _ ⟨cs,t,hk⟩=>oL k cs t hk;have vO:=oy.same (oL _ _ _ oy);have iq:=zfJ rW.out;have eX:=ziT (hd ql) (hd qr) x y (D _) (D _) w6.drew (PartC.keep (kL _ x HX.out) rfl (λ_=>rfl)) (PartC.keep (kL _ y HY.out) rfl (λ_=>rfl)) iq (by have:=HN.out;omega);have HPR:=CS eX;have lb6:=vO.lt;have mM:w6.ownsRow B 78 3 c0 stk.length (eqCells stk):=zan HO.out (λg hg=>by
   obtain⟨_,hl,cur,aa⟩:=zab HO.out g hg;have h0:=fB.out.ch.block g hl (bK.out g cur _ aa);have h1:=(fg.block g (As hl fB.out.ch.size)).trans h0;exact(oL g cur _ (h1.trans aa)).trans h1)
  have s8:Chg (only mk) w w6:=((fB.out.ch.below fg).drew).grown dq (λk hk=>.inr (by injection hk with hk;exact hk.symm));have dA:Hid (∀(g c:Nat) (w5:World),Below w6.drew.heap.size w6.drew w5->w5.ownsRow w6.drew.heap.size 78 3 (.slice (some ⟨g,0,none⟩) (x.kids.length+1) c) (x.kids.length+1) (eqCells (zay x.kids y.kids++[(⟨hd ql,hd qr,true⟩:Eqn)])) ->
    Calls Tryz.prog 34 #[.pointer (some ⟨b,0,none⟩),.slice (some ⟨g,0,none⟩) (x.kids.length+1) c] w5 λe w'=>(∃z,e=.returned z)/\WkP b mk B c0 c1 c2 c4 G D (hdL hd lc rc) (stk++(zay x.kids y.kids++[(⟨hd ql,hd qr,true⟩:Eqn)]).reverse) w w'):=CS (by
   intro g c w5 aP gW;obtain⟨aY,iK,fX⟩:=zgl gW;have cM:Below w6.heap.size w6 w5:=⟨aP.os,aP.tape,aP.output,aP.size,aP.block⟩;have hg1':w6.heap.size<=g:=aY;have hlen:(zay x.kids y.kids++[(⟨hd ql,hd qr,true⟩:Eqn)]).length=x.kids.length+1:=by rw[Ap,zcP _ _ iq];rfl
   have iY:w5.ownsRow B 78 3 c0 stk.length (eqCells stk):=zan mM (λk hk=>cM.block k (zab mM k hk).2.1);have pg:c0.ownBlock≠some b:=λe=>by
    obtain⟨_,_,cur,aa⟩:=zab mM b e;exact Blk.ne_ (show Blk w6 b _ cur from aa) vO (by decide) rfl
   have vP:=vO.below cM lb6;have bS:=zgO b B 85 #[c0,c1,c2,.map (some mk),c4] (by simp) stk (zay x.kids y.kids++[(⟨hd ql,hd qr,true⟩:Eqn)]) c0 (some ⟨g,0,none⟩) c w5 vP iY (by have:=qD.out;have:=cM.size;have:=s8.size;omega) pg (by rw[hlen];have:=HN.out;omega) (λj q hq=>⟨g,rfl,iK,by omega,λe=>by have:=(zab mM g e).2.1;omega,fX j q hq⟩);rw[hlen]at bS
   refine bS.mono ?_;rintro e w' ⟨hz,v',d1,d2,-,-,-,d6⟩;have s6:Chg (λk=>k=mk\/k=b\/c0.ownBlock=some k) w w':=((s8.mono (λ_ _ h=>.inl h)).below cM).trans' d6 (λk _ h=>.inr h);have iZ:∀(k:Nat) (cs:Array Value) (t:TypeId),w5.heap[k]?=some (.cells cs t (0,0))->t≠85->t≠78->w'.heap[k]?=w5.heap[k]?:=λk cs t hk iG si=>d6.block k (Aj.1 hk).1 (λh=>by
    rcases h with h|h
    ·exact Blk.ne_ (show Blk w5 k t cs from hk) vP iG h
    ·obtain⟨_,_,cur,aa⟩:=zab iY k h
     exact Blk.ne_ (show Blk w5 k t cs from hk) (show Blk w5 k _ cur from aa) si rfl)
   have e7:mk<w6.heap.size:=MapK.lt eL.mp;have mS:w5.heap[mk]?=w6.heap[mk]?:=cM.block mk e7;have sJ:w'.heap[mk]?=w5.heap[mk]?:=d6.block mk (As e7 cM.size) (λh=>by
    rcases h with h|h
    ·have h1:=vO
     rw[<-h]at h1
     exact MapK.no eL.mp h1
    ·obtain⟨_,_,cur,aa⟩:=zab iY mk h
     rw[mS]at aa
     exact MapK.no eL.mp aa)
   refine⟨hz,v',d1,d2,⟨_,eL.keep (sJ.trans mS) (λz ⟨cs,uL⟩=>?_)⟩,?_,s6⟩
   ·have h5:w5.heap[z]?=some (.cells cs 132 (0,0)):=(cM.block z (Aj.1 uL).1).trans uL
    exact⟨cs,(iZ z cs _ h5 (by decide) (by decide)).trans h5⟩
   ·intro z nd bj
    have h5:PartC w5 z nd (D z):=(kL z nd bj).keep (cM.block z (kL z nd bj).lt) (λhk=>cM.block _ ((kL z nd bj).row_lt hk));obtain⟨A7,c7,ef,wS⟩:=h5;refine PartC.keep ⟨A7,c7,ef,wS⟩ (iZ z _ _ ef (by decide) (by decide)) (λhk=>?_);obtain⟨_,cur,aa,_⟩:=wS hk;exact iZ _ cur _ aa (by decide) (by decide))
  clear iq fg hsf cJ eX oy mM rX p0 q0 lp lq z0 z1 z2 zl fB zt iQ sI hkf aA dZ dq dO oL eL kL vO s8;go_upto_region 12 with fail
  go_region
  all_goals
   clear eD r5 t5 r0 lp3 lq3 k3 lbf;go_upto_region 13 with fail
   go_region_law (first
    |(go_simp;(with_reducible refine HPR.out.mono ?_);rintro e w5 ⟨g,c,rfl,h5,gW⟩;have HLA:=CS (dA.out g c w5 h5 gW);clear h5 gW)
    |(go_simp;(with_reducible refine HLA.out.mono ?_);rintro e w6 ⟨⟨zz,rfl⟩,hl6⟩;have HL6:=CS hl6;clear hl6))
   all_goals
    go_wp2_with fail
    go_ret
    exact⟨rfl,HL6.out⟩
end Go.Proofs.YtfafilmklhnngaaGreatDoor
namespace Go.Proofs.YtfafilmklhnngaaGreatDoor
open Go.RowKit Lx Tx Go.Maps Go.WideMaps
set_option maxRecDepth 100000
structure SolW (b mu mk B:Nat) (G:Nat->Option Nd) (U:Nat->Option Nat) (hd:Nat->Nat) (s:Int) (D:Nat->Dy) (mv:Value) (v:Value) (stk:List Eqn) (W:World):Prop where
 sb:Blk W b 85 #[v,mv,.map (some mu),.map (some mk),.int .i64 s]
 own:W.ownsRow B 78 3 v stk.length (eqCells stk)
 kn:∃K',Knw W mk K' hd
 pd:PartsD W G D
 mi:MapI W mu U
 lq:∀n p,U n=some p->LaidQ W p
 sr:∀q x,G q=some x->(D q).sr<=s
 fl:∀q x,G q=some x->(D q).fl=false
 da:∀q x,G q=some x->∃a m c,(D q).A=.slice a m c
 mm:mu≠mk
 hB:B<=W.heap.size
def heads(hd:Nat->Nat)(L:List Nat):Nat:=(L.filter λq=>decide (hd q=q)).length
theorem zcY {hd:Nat->Nat} {m t:Nat} {L:List Nat}(hm:hd m=m)(ht:hd t=t)(fU:m≠t)(hL:m∈L):heads (hdL hd m t) L<heads hd L:=by
 refine zdN _ _ m L (λn hn=>?_) hL (by simpa using hm) ?_
 ·have hn:hdL hd m t n=n:=by simpa using hn
  simpa using zgW ht hn
 ·have:hdL hd m t m≠m:=by rw[zc6 hm];exact Cw fU
  simpa using this
theorem zfK {G:Nat->Option Nd} {hd:Nat->Nat} {m t:Nat}(h:∀p,hd p≠p->∃x,G p=some x)(hm:∃x,G m=some x):∀p,hdL hd m t p≠p->∃x,G p=some x:=λp hp=>by
 by_cases e:hd p=m
 ·by_cases e2:hd p=p
  ·rw[<-e2,e];exact hm
  ·exact h p e2
 ·rw[zbB e]at hp;exact h p hp
theorem Sim.nodes {G:Nat->Option Nd} {L:List Nat} {hd:Nat->Nat} {k:Sb} {q:Eqn} {r:List Eqn} {f:Nat} {o:Nat ⊕ Sb}(h:Sim G L hd k (q::r) f o):Gr G hd L/\(∃x,G q.l=some x)/\(∃x,G q.r=some x)/\(∃x,G (hd q.l)=some x)/\∃x,G (hd q.r)=some x:=by
 obtain⟨E,Eu,Ns,O,S,he,hu,hm⟩:=h;rw[EntOK]at he
 obtain⟨el,er,dl,dr,nl,nr,h1,h2,h3,-⟩:=he;obtain⟨x,hx,-⟩:=h2.node;obtain⟨y,hy,-⟩:=h3.node;exact⟨S.gr,⟨x,hx⟩,⟨y,hy⟩,S.gr.hin _ x hx,S.gr.hin _ y hy⟩
section
variable {b mu mk B:Nat} {G:Nat->Option Nd} {L:List Nat} {U:Nat->Option Nat} {hd iL:Nat->Nat} {s s':Int} {D D':Nat->Dy} {mv v v':Value} {stk r8:List Eqn} {W W':World}
theorem SolW.no(h:SolW b mu mk B G U hd s D mv v stk W) {g:Nat} {cs:Array Value} {t:TypeId}(hg:W.heap[g]?=some (.cells cs t (0,0))):g≠mk:=λe=>by
 obtain⟨K,hK⟩:=h.kn;rw[e]at hg
 exact MapK.no hK.mp hg
theorem SolW.step(h:SolW b mu mk B G U hd s D mv v stk W)(sb:Blk W' b 85 #[v',mv,.map (some mu),.map (some mk),.int .i64 s'])(own:W'.ownsRow B 78 3 v' r8.length (eqCells r8))(kn:∃K',Knw W' mk K' iL)
  (pd:PartsD W' G D')(hc:Chg (λg=>g=mk\/g=b\/(∃x,G g=some x)\/v.ownBlock=some g) W W')(sr:∀q x,G q=some x->(D' q).sr<=s')(fl:∀q x,G q=some x->(D' q).fl=false)(da:∀q x,G q=some x->∃a m c,(D' q).A=.slice a m c):SolW b mu mk B G U iL s' D' mv v' r8 W' where
 sb:=sb
 own:=own
 kn:=kn
 pd:=pd
 mi:=MapK.keep h.mi (hc.block _ (MapK.lt h.mi) (by
  rintro(e|e|⟨x,e⟩|e)
  ·exact h.mm e
  ·have:=h.sb;rw[<-e]at this;exact MapK.no h.mi this
  ·obtain⟨A,c,hb,_⟩:=h.pd _ x e;exact MapK.no h.mi hb
  ·obtain⟨_,_,cur,aa⟩:=zab h.own _ e;exact MapK.no h.mi aa)) (λ_ h=>h)
 lq n p hn:=by
  cases hG:G p with
  |some x=>exact(pd p x hG).laid
  |none =>
   obtain⟨cs,hx⟩:=h.lq n p hn;refine⟨cs,(hc.block p (Aj.1 hx).1 ?_).trans hx⟩;rintro(e|e|⟨x,e⟩|e)
   ·exact h.no hx e
   ·exact Blk.ne_ (show Blk W p _ cs from hx) h.sb (by decide) e
   ·rw[hG]at e;cases e
   ·obtain⟨_,_,cur,aa⟩:=zab h.own _ e
    exact Blk.ne_ (show Blk W p _ cs from hx) (show Blk W p _ cur from aa) (by decide) rfl
 sr:=sr
 fl:=fl
 da:=da
 mm:=h.mm
 hB:=AB h.hB hc.size
theorem SolW.row(h:SolW b mu mk B G U hd s D mv v stk W)(hc:Chg (λg=>g=mk\/g=b\/∃x,G g=some x) W W'):W'.ownsRow B 78 3 v stk.length (eqCells stk):=zan h.own λg hg=>by
 obtain⟨_,hl,cur,aa⟩:=zab h.own g hg;refine hc.block g hl ?_;rintro(e|e|⟨x,e⟩)
 ·exact h.no aa e
 ·exact Blk.ne_ (show Blk W g _ cur from aa) h.sb (by decide) e
 ·obtain⟨A,c,hb,_⟩:=h.pd _ x e
  exact Blk.ne_ (show Blk W g _ cur from aa) hb (by decide) rfl
end
def RndQ(b mu mk B:Nat)(G:Nat->Option Nd)(L:List Nat)(U:Nat->Option Nat)(mv:Value)(C N0 M:Nat)(o:Nat ⊕ Sb)(r:Int)(W':World):Prop :=
 (r=0/\∃hd k f stk s D v,msr f stk.reverse<M/\Sim G L hd k stk.reverse f o/\StkS G k [] stk.reverse/\StkN G C 0 stk.reverse/\SolW b mu mk B G U hd s D mv v stk W'/\0<=s/\s+(heads hd L:Nat)<=N0/\(∀p,hd p≠p->∃x,G p=some x))\/(0<r/\o=.inl r.toNat)
theorem zoi(b mu mk B:Nat)(G:Nat->Option Nd)(L:List Nat)(U:Nat->Option Nat)(hd:Nat->Nat)(k:Sb)(s:Int)(D:Nat->Dy)(mv v:Value)(stk:List Eqn)(q:Eqn)(f C N0:Nat)(o:Nat ⊕ Sb)(W:World)
  (gs:GrS G)(hS:Sim G L hd k (q::stk.reverse) f o)(h1:StkS G k [] (q::stk.reverse))(h2:StkN G C 0 (q::stk.reverse))(hw:SolW b mu mk B G U hd s D mv v stk W)(fP:0<=s)(hs:s+(heads hd L:Nat)<=N0)(hN0:N0<=1000000)(kz:1+C+wg G [] L<=1000000)(mx:∀p,hd p≠p->∃x,G p=some x):Calls Tryz.prog 36 #[.pointer (some ⟨b,0,none⟩),.agg #[.pointer (some ⟨q.l,0,none⟩),.pointer (some ⟨q.r,0,none⟩),.bool q.d]] W λe W'=>∃r,e=.returned (.int .i64 r)/\RndQ b mu mk B G L U mv C N0 (msr f (q::stk.reverse)) o r W'/\Chg (λg=>g=mk\/g=b\/(∃x,G g=some x)\/v.ownBlock=some g) W W':=by
 obtain⟨hg,⟨nl,hnl⟩,⟨nr,gX⟩,⟨x,hx⟩,⟨y,hy⟩⟩:=hS.nodes;obtain⟨K,hK⟩:=hw.kn;have uH:=(hw.pd _ _ hnl).laid;have uG:=(hw.pd _ _ gX).laid;have uJ:=(hw.pd _ _ hx).laid;have uI:=(hw.pd _ _ hy).laid;have dL:∀ {W':World},Chg (only mk) W W'->Chg (λg=>g=mk\/g=b\/∃x,G g=some x) W W':=λh=>h.mono λ_ _ e=>.inl e;have qJ:∀ {W':World},Chg (λg=>g=mk\/g=b\/∃x,G g=some x) W W'->Chg (λg=>g=mk\/g=b\/(∃x,G g=some x)\/v.ownBlock=some g) W W':=λh=>h.mono λ_ _ e=>by
  rcases e with e|e|e
  ·exact .inl e
  ·exact .inr (.inl e)
  ·exact .inr (.inr (.inl e))
 have wV:∀ {W':World},Chg (only mk) W W'->PartsD W' G D:=λh=>hw.pd.same λg hl ⟨cs,t,hc⟩=>h.block g hl (hw.no hc);have hsbk:∀ {W':World},Chg (only mk) W W'->Blk W' b 85 #[v,mv,.map (some mu),.map (some mk),.int .i64 s]:=λh=>hw.sb.same (h.block _ hw.sb.lt (hw.no hw.sb));by_cases heq:hd q.l=hd q.r
 ·
  refine(zoc b mk q.l q.r q.d (.int .i64 s) v mv (.map (some mu)) K hd W hw.sb hK uH uG uJ uI heq).mono ?_;rintro e W' ⟨rfl,ee,hk⟩;obtain⟨f',hm,dP⟩:=hS.same heq;refine⟨0,rfl,.inl ⟨rfl,hd,k,f',stk,s,D,v,hm,dP,h1.pop,h2.pop,hw.step hk.sb (hw.row (dL hk.ch)) hk.kn (wV hk.ch) (qJ (dL hk.ch)) hw.sr hw.fl hw.da,fP,hs,mx⟩,qJ (dL hk.ch)⟩
 ·cases hq:q.d with
  |true =>
   refine(zod b mk q.l q.r (.int .i64 s) v mv (.map (some mu)) K hd W hw.sb hK uH uG uJ uI heq).mono ?_;rintro e W' ⟨rfl,iH,bW,hc⟩;obtain⟨hm,dP⟩:=hS.done hq heq;have ah:=zcY (hg.idm q.l) (hg.idm q.r) heq (hg.all _ x hx);exact⟨0,rfl,.inl ⟨rfl,_,k,f,stk,s,D,v,hm,dP,h1.pop,h2.pop,hw.step iH (hw.row (dL hc)) bW (wV hc) (qJ (dL hc)) hw.sr hw.fl hw.da,fP,by omega,zfK mx ⟨x,hx⟩⟩,qJ (dL hc)⟩
  |false =>
   by_cases hu:x.kd=2\/y.kd=2
   ·
    have hNs:s<1000000000000:=by omega
    refine(zoe b mk q.l q.r s v mv (.map (some mu)) K hd W hw.sb hK uH uG uJ uI G D L hw.pd hg hw.sr x y hx hy heq hu (by omega) fP hNs).mono ?_;rintro e W' ⟨r,Vs,rfl,dF,iH,bW,bB,hc⟩;obtain⟨c1,c2⟩:=hS.learn gs hq heq hx hy hu dF;refine⟨r,rfl,?_,qJ hc⟩;by_cases hr:r=0
    ·subst hr
     obtain⟨f',k',hm,⟨j,u,rfl⟩,dP⟩:=c1 rfl;rw[Aq rfl]at bW
     have ah:heads (hdL hd (lrn (hd q.l) (hd q.r) x y).1 (lrn (hd q.l) (hd q.r) x y).2) L<heads hd L:=by
      unfold lrn;split
      ·exact zcY (hg.idm q.r) (hg.idm q.l) (Cw heq) (hg.all _ y hy)
      ·exact zcY (hg.idm q.l) (hg.idm q.r) heq (hg.all _ x hx)
     refine .inl ⟨rfl,_,_,f',stk,s+1,dV D (s+1) Vs,v,hm,dP,h1.pop.upd j u,h2.pop,hw.step iH (hw.row hc) bW bB (qJ hc) (λz xz hz=>?_) (λz xz hz=>?_) (λz xz hz=>?_),by omega,by omega,zfK mx ?_⟩
     ·have:=hw.sr z xz hz
      unfold dV;split
      ·exact Int.le_refl _
      ·omega
     ·unfold dV
      split
      ·exact hw.fl z xz hz
      ·exact hw.fl z xz hz
     ·unfold dV
      split
      ·exact hw.da z xz hz
      ·exact hw.da z xz hz
     ·unfold lrn
      split
      ·exact⟨y,hy⟩
      ·exact⟨x,hx⟩
    ·refine .inr ⟨?_,c2 hr⟩
     rcases dF with⟨h,_⟩|⟨_,⟨h,_⟩|⟨_,⟨h,_⟩|⟨h,_⟩⟩⟩ <;> omega
   ·have hu1:x.kd≠2:=λe=>hu (.inl e)
    have hu2:y.kd≠2:=λe=>hu (.inr e);cases hf:fitB x y with
    |false =>
     refine(zof b mk q.l q.r (.int .i64 s) v mv (.map (some mu)) K hd W hw.sb hK uH uG uJ uI G D hw.pd x y hx hy heq ⟨hu1,hu2⟩ hf).mono ?_;rintro e W' ⟨rfl,iH,bW,bB,hc⟩;exact⟨40,rfl,.inr ⟨by decide,hS.clash gs hq heq hx hy ⟨hu1,hu2⟩ hf⟩,qJ (dL hc)⟩
    |true =>
     have hlen:=zfJ hf;obtain⟨s1,n1⟩:=hS.stk hq hx hlen h1 h2;have hsl:=s1.len n1 hg.all;have hle:stk.length+x.kids.length+1<=1000000:=by
      rw[Ap,zcP _ _ hlen,Ao,BU]at hsl
      omega
     have wP:(stk++(zay x.kids y.kids++[(⟨hd q.l,hd q.r,true⟩:Eqn)]).reverse).reverse=zay x.kids y.kids++⟨hd q.l,hd q.r,true⟩::stk.reverse:=by
      rw[Cd,BQ,Bj];rfl
     have pj:∀ {W':World},Chg (λg=>g=mk\/g=b\/v.ownBlock=some g) W W'->Chg (λg=>g=mk\/g=b\/(∃x,G g=some x)\/v.ownBlock=some g) W W':=λh=>h.mono λ_ _ e=>by
      rcases e with e|e|e
      ·exact .inl e
      ·exact .inr (.inl e)
      ·exact .inr (.inr (.inr e))
     by_cases h5:x.kd=5
     ·obtain⟨lc,rc,xl,yr,a1,a2,a3,a4,a5,a6,a7,f',hm,dP⟩:=hS.open_ hq hx hy h5 hf
      refine(zoh b mk q.l q.r (.int .i64 s) v mv (.map (some mu)) K hd W hw.sb hK uH uG uJ uI G D hw.pd x y hx hy heq h5 hf lc rc xl yr ⟨a1,a2,a3⟩ ⟨a4,a5,a6⟩ a7 B stk hw.hB hw.own hle).mono ?_;rintro e W' ⟨rfl,v',iH,ai,bW,bB,hc⟩;have ah:=zcY a3 a6 a7 (hg.all _ xl a2);rw[<-wP]at s1 n1 dP hm
      exact⟨0,rfl,.inl ⟨rfl,_,k,f',_,s,D,v',hm,dP,s1,n1,hw.step iH ai bW bB (pj hc) hw.sr hw.fl hw.da,fP,by omega,zfK mx ⟨xl,a2⟩⟩,pj hc⟩
     ·obtain⟨f',hm,dP⟩:=hS.push hq hx hy ⟨hu1,hu2,h5⟩ hf
      refine(zog b mk q.l q.r (.int .i64 s) v mv (.map (some mu)) K hd W hw.sb hK uH uG uJ uI G D hw.pd x y hx hy heq ⟨hu1,hu2,h5⟩ hf B stk hw.hB hw.own hle).mono ?_;rintro e W' ⟨rfl,v',iH,ai,bW,bB,hc⟩;rw[<-wP]at s1 n1 dP hm
      exact⟨0,rfl,.inl ⟨rfl,_,k,f',_,s,D,v',hm,dP,s1,n1,hw.step iH ai bW bB (pj hc) hw.sr hw.fl hw.da,fP,hs,mx⟩,pj hc⟩
def ndOf(G:Nat->Option Nd)(h:Nat):Nd:=(G h).getD ⟨0,⟨#[]⟩,0,[],none,false⟩
def tyCells(G:Nat->Option Nd)(D:Nat->Dy):List Nat->List Value
 |[]=>[]
 |h::r=>.int .i64 ((ndOf G h).kd:Nat)::.string (ndOf G h).nm::.int .i64 ((ndOf G h).n:Nat)::(D h).A::tyCells G D r
theorem zdL(G:Nat->Option Nd)(D:Nat->Dy):(l r:List Nat)->tyCells G D (l++r)=tyCells G D l++tyCells G D r
 |[],r=>rfl
 |h::l,r=>by rw[AE,tyCells,tyCells,zdL G D l r];rfl
def zaP(D:Nat->Dy)(l:List Nat):List Nat:=l.filter λh=>!(D h).fl
theorem infoTy:(Tryz.prog.info? 37).map (λi=>(i.zero,i.size,i.bytes))=some (some (.agg #[.int .i64 0,.string ⟨#[]⟩,.int .i64 0,.slice none 0 0]),4,56):=by kernel_rfl
structure FaI (b mk:Nat) (c0 c1 c2 c4:Value) (G:Nat->Option Nd) (D:Nat->Dy) (hd:Nat->Nat) (w wr:World):Prop where
 sb:Blk wr b 85 #[c0,c1,c2,.map (some mk),c4]
 kn:∃K',Knw wr mk K' hd
 pd:PartsD wr G D
 ch:Chg (only mk) w wr
theorem FaI.below {b mk:Nat} {c0 c1 c2 c4:Value} {G:Nat->Option Nd} {D:Nat->Dy} {hd:Nat->Nat} {w wr w':World}(h:FaI b mk c0 c1 c2 c4 G D hd w wr)(hk:∀(g:Nat),g<w.heap.size->w'.heap[g]?=wr.heap[g]?)(hl:∀g,G g≠none->g<w.heap.size)(hr:∀q x,G q=some x->x.kids≠[]->(D q).row<w.heap.size)(hb:b<w.heap.size)(hm:mk<w.heap.size)(bC:∀x,LaidQ wr x->LaidQ w' x)(hc:Chg (only mk) w w'):FaI b mk c0 c1 c2 c4 G D hd w w' :=
 ⟨h.sb.same (hk _ hb),by obtain⟨K,hK⟩:=h.kn;exact⟨K,hK.keep (hk _ hm) bC⟩,h.pd.but (λq x hx=>hk _ (hl q (by rw[hx];simp))) (λq x hx hn=>hk _ (hr q x hx hn)),hc⟩
def HeadFa(b mk:Nat)(c0 c1 c2 c4:Value)(G:Nat->Option Nd)(D:Nat->Dy)(hd:Nat->Nat)(kids:List Nat)(w:World)(n gg:Nat)(v4 v5 vi:Value)(wr:World):Prop :=
 ∃i:Nat,gg=n-i/\vi=.int .i64 i/\i<=n/\wr.ownsRow w.heap.size 37 4 v4 i (tyCells G D ((kids.take i).map hd))/\wr.ownsRow w.heap.size 75 1 v5 (zaP D ((kids.take i).map hd)).length ((zaP D ((kids.take i).map hd)).map PK) /\
  FaI b mk c0 c1 c2 c4 G D hd w wr
structure FilM (b mk lo:Nat) (c0 c1 c2 c4:Value) (G:Nat->Option Nd) (k:Sb) (hd:Nat->Nat) (T:Nat->Prop) (D:Nat->Dy) (W:World):Prop where
 sb:Blk W b 85 #[c0,c1,c2,.map (some mk),c4]
 kn:∃K',Knw W mk K' hd
 pd:PartsD W G D
 fd:∀q x,G q=some x->(D q).fl=true->FV G q/\hd q=q/\∃A c,(D q).A=.slice A x.kids.length c/\Args T W (toTy (tv G k q)) A
 da:∀q x,G q=some x->∃a m c,(D q).A=.slice a m c
 tt:∀g,T g->lo<=g/\∃cur,W.heap[g]?=some (.cells cur 37 (0,0))
 lb:b<lo/\mk<lo/\(∀q x,G q=some x->q<lo)/\(∀q x,G q=some x->x.kids≠[]->(D q).row<lo)
 ls:lo<=W.heap.size
section
variable {b mk lo:Nat} {c0 c1 c2 c4:Value} {G:Nat->Option Nd} {L:List Nat} {k:Sb} {hd:Nat->Nat} {T T':Nat->Prop} {D:Nat->Dy} {W W':World} {Ns O:List Nat}
theorem FilM.keep(h:FilM b mk lo c0 c1 c2 c4 G k hd T D W)(hb:∀g,g<lo->W'.heap[g]?=W.heap[g]?)(hT:∀g,T g->W'.heap[g]?=W.heap[g]?)(hl:∀x,LaidQ W x->LaidQ W' x)(hs:W.heap.size<=W'.heap.size):FilM b mk lo c0 c1 c2 c4 G k hd T D W' where
 sb:=h.sb.same (hb _ h.lb.1)
 kn:=by obtain⟨K,hK⟩:=h.kn;exact⟨K,hK.keep (hb _ h.lb.2.1) hl⟩
 pd:=h.pd.but (λq x hx=>hb _ (h.lb.2.2.1 q x hx)) (λq x hx hn=>hb _ (h.lb.2.2.2 q x hx hn))
 fd q x hx hf:=by
  obtain⟨h1,h2,A,c,h3,h4⟩:=h.fd q x hx hf;exact⟨h1,h2,A,c,h3,h4.keep (λ_ h=>h) hT⟩
 da:=h.da
 tt g hg:=by
  obtain⟨h1,cur,h2⟩:=h.tt g hg;exact⟨h1,cur,(hT g hg).trans h2⟩
 lb:=h.lb
 ls:=AB h.ls hs
theorem FilM.head(h:FilM b mk lo c0 c1 c2 c4 G k hd T D W)(hc:Chg (only mk) W W')(hk:∃K',Knw W' mk K' hd):FilM b mk lo c0 c1 c2 c4 G k hd T D W':=by
 obtain⟨K,hK⟩:=h.kn;have af:∀(g:Nat) (cs:Array Value) (t:TypeId),W.heap[g]?=some (.cells cs t (0,0))->W'.heap[g]?=W.heap[g]?:=λg cs t hg=>hc.block g (Aj.1 hg).1 (λe=>by
  have e:g=mk:=e;rw[e]at hg
  exact MapK.no hK.mp hg)
 have hT:∀g,T g->W'.heap[g]?=W.heap[g]?:=λg hg=>by obtain⟨_,cur,aa⟩:=h.tt g hg;exact af g cur _ aa
 exact⟨h.sb.same (af _ _ _ h.sb),hk,h.pd.same λg _ ⟨cs,t,hg⟩=>af g cs t hg,λq x hx hf=>by
  obtain⟨h1,h2,A,c,h3,h4⟩:=h.fd q x hx hf;exact⟨h1,h2,A,c,h3,h4.keep (λ_ h=>h) hT⟩,h.da,λg hg=>by
  obtain⟨h1,cur,h2⟩:=h.tt g hg;exact⟨h1,cur,(hT g hg).trans h2⟩,h.lb,AB h.ls hc.size⟩
theorem FilM.rows(h:FilM b mk lo c0 c1 c2 c4 G k hd T D W)(S:HdS G L hd k Ns O):(l:List Nat)->(∀q∈l,(∃x,G q=some x)/\(D q).fl=true)->TyRow T W (l.map λq=>toTy (tv G k q)) (tyCells G D l)
 |[],_=>by rw[CR,TyRow,tyCells]
 |q::l,hl=>by
  obtain⟨⟨x,hx⟩,hf⟩:=hl q (by simp);obtain⟨h1,h2,A,c,h3,h4⟩:=h.fd q x hx hf;obtain⟨t1,t2,t3,t4,-,-⟩:=S.tv_node h1 h2 hx;rw[AH,TyRow]
  refine⟨A,c,tyCells G D l,?_,h4,FilM.rows h S l λz hz=>hl z (by simp[hz])⟩;have dQ:ndOf G q=x:=by unfold ndOf;rw[hx];rfl
  rw[tyCells,dQ,h3,t1,t2,t3]
  unfold tyV;rw[t4,AR]
  rfl
theorem FilM.fill(h:FilM b mk lo c0 c1 c2 c4 G k hd T D W)(S:HdS G L hd k Ns O) {q:Nat} {x:Nd}(hx:G q=some x)(hf:FV G q)(hq:hd q=q)(aL:∀c∈x.kids,(D (hd c)).fl=true) {B:Nat} {A:Option Addr} {c:Nat}(hB:lo<=B)
  (ho:W.ownsRow B 37 4 (.slice A x.kids.length c) x.kids.length (tyCells G D (x.kids.map hd))):FilM b mk lo c0 c1 c2 c4 G k hd (λg=>T g\/(Value.slice A x.kids.length c).ownBlock=some g) (upn D q { D q with A:=.slice A x.kids.length c,fl:=true }) ((W.setCell ⟨q,3,none⟩ (.slice A x.kids.length c)).setCell ⟨q,7,none⟩ (.bool true)):=by
 obtain⟨W2,jx⟩:∃X,(W.setCell ⟨q,3,none⟩ (.slice A x.kids.length c)).setCell ⟨q,7,none⟩ (.bool true)=X:=⟨_,rfl⟩;rw[jx]
 have af:∀g,g≠q->W2.heap[g]?=W.heap[g]?:=λg hg=>by
  rw[<-jx]
  exact(Below.heap_setCell _ _ _ _ hg).trans (Below.heap_setCell _ _ _ _ hg)
 have hqlo:=h.lb.2.2.1 q x hx;have hTq:∀g,T g->g≠q:=λg hg e=>by have:=(h.tt g hg).1;omega
 have ai:∀g,(Value.slice A x.kids.length c).ownBlock=some g->lo<=g/\∃cur,W.heap[g]?=some (.cells cur 37 (0,0)):=λg hg=>by
  obtain⟨h1,_,cur,aa⟩:=zab ho g hg;exact⟨by omega,cur,aa⟩
 have bk:W2.heap.size=W.heap.size:=by rw[<-jx];simp
 obtain⟨A0,c9,aE,oB⟩:=h.pd q x hx;have gL:Blk W2 q 132 #[.int .i64 (x.kd:Nat),.string x.nm,.int .i64 (x.n:Nat),.slice A x.kids.length c,.slice A0 x.kids.length c9,optV x.con,.bool x.new,.bool true,.int .i64 (D q).sr]:=by
  rw[<-jx]
  exact heap_setCell_same _ q 7 _ _ (.bool true) (heap_setCell_same W q 3 _ _ (.slice A x.kids.length c) aE)
 obtain⟨K,hK⟩:=h.kn;have hmq:mk≠q:=λe=>by rw[<-e]at aE;exact MapK.no hK.mp aE
 have cL:b≠q:=Blk.ne_ h.sb aE (by decide);have hfdq:Args (λg=>T g\/(Value.slice A x.kids.length c).ownBlock=some g) W2 (toTy (tv G k q)) A:=by
  obtain⟨-,-,-,t4,-,-⟩:=S.tv_node hf hq hx;refine(zb3 _ _ _ _).2 λhk=>?_;have bW:x.kids.length≠0:=λe=>hk (by rw[t4,AD e];rfl);have wJ:=h.rows S (x.kids.map hd) (λz hz=>by
   obtain⟨cc,oK,rfl⟩:=AM.1 hz;obtain⟨y,hy⟩:=S.gr.kin q x hx cc oK;exact⟨S.gr.hin cc y hy,aL cc oK⟩)
  rcases ho.2 with⟨h1,h0⟩|⟨g,cap,cur,h1,h2⟩
  ·exact absurd h0 bW
  ·injection h1 with e1 e2 e3
   subst e1;refine⟨g,rfl,.inr rfl,?_⟩;have ah:=ho.lt g rfl;rw[t4,show(x.kids.map λc=>toTy (tv G k (hd c)))=(x.kids.map hd).map λq=>toTy (tv G k q) by rw[Cc];rfl]
   refine TyRow.row (S:=λg'=>T g'\/(Value.slice (some ⟨g,0,none⟩) x.kids.length c).ownBlock=some g') _ _ 0 (TyRow.keep (λ_ h=>.inl h) (λz hz=>af z (hTq z hz)) _ _ wJ) λj u hu=>?_;have au:=ho.cells (g:=g) rfl j u hu;have aW:(⟨g,0,none⟩:Addr).add j=⟨g,j,none⟩:=by unfold Addr.add;split <;> simp_all
   rw[aW]at au
   rw[Bo]
   exact(World.cell?_of_block (w:=W) (a:=⟨g,j,none⟩) (af g (by omega))).trans au
 refine⟨h.sb.same (af _ cL),⟨K,hK.keep (af _ hmq) (λz hz=>by rw[<-jx];exact(hz.setCell _ _ _).setCell _ _ _)⟩,?_,?_,?_,?_,⟨h.lb.1,h.lb.2.1,h.lb.2.2.1,λz y hy hn=>?_⟩,by rw[bk];exact h.ls⟩
 ·intro z y hy
  by_cases e:z=q
  ·subst e
   rw[hx]at hy
   injection hy with hy;subst hy;rw[zal]
   refine⟨A0,c9,gL,λhk=>?_⟩;obtain⟨e1,cur,hc,eV⟩:=oB hk;exact⟨e1,cur,(af _ (Blk.ne_ (show Blk W (D z).row _ cur from hc) aE (by decide))).trans hc,eV⟩
  ·rw[zac _ _ _ _ e]
   have hz:=h.pd z y hy;exact hz.keep (af _ e) (λhk=>af _ (hz.ne ⟨A0,c9,aE,oB⟩ hk))
 ·intro z y hy jq
  by_cases e:z=q
  ·subst e
   rw[hx]at hy
   injection hy with hy;subst hy;rw[zal]
   exact⟨hf,hq,A,c,rfl,hfdq⟩
  ·rw[zac _ _ _ _ e]at jq ⊢
   obtain⟨h1,h2,A',c',h3,h4⟩:=h.fd z y hy jq;exact⟨h1,h2,A',c',h3,h4.keep (λ_ h=>.inl h) (λg hg=>af g (hTq g hg))⟩
 ·intro z y hy
  by_cases e:z=q
  ·rw[e,zal];exact⟨A,_,c,rfl⟩
  ·rw[zac _ _ _ _ e];exact h.da z y hy
 ·intro g hg
  rcases hg with hg|hg
  ·obtain⟨h1,cur,h2⟩:=h.tt g hg
   exact⟨h1,cur,(af g (hTq g hg)).trans h2⟩
  ·obtain⟨h1,cur,h2⟩:=ai g hg
   exact⟨h1,cur,(af g (by omega)).trans h2⟩
 ·by_cases e:z=q
  ·subst e;rw[zal];exact h.lb.2.2.2 z y hy hn
  ·rw[zac _ _ _ _ e];exact h.lb.2.2.2 z y hy hn
end
def FaPost(b mk:Nat)(c0 c1 c2 c4:Value)(G:Nat->Option Nd)(D:Nat->Dy)(hd:Nat->Nat)(kids:List Nat)(w:World)(e:Ending)(w':World):Prop :=
 ∃v4 v5,e=.returned (.tuple #[v4,v5])/\w'.ownsRow w.heap.size 37 4 v4 kids.length (tyCells G D (kids.map hd))/\w'.ownsRow w.heap.size 75 1 v5 (zaP D (kids.map hd)).length ((zaP D (kids.map hd)).map PK)/\FaI b mk c0 c1 c2 c4 G D hd w w'
theorem own_ne {w:World} {B B':Nat} {t t':TypeId} {s s' n n':Nat} {v v':Value} {xs xs':List Value}(h:w.ownsRow B t s v n xs)(k:w.ownsRow B' t' s' v' n' xs')(ht:t≠t')(g:Nat)(hg:v.ownBlock=some g):v'.ownBlock≠some g:=λe=>by
 obtain⟨_,_,cur,hc⟩:=zab h g hg;obtain⟨_,_,cur',rB⟩:=zab k g e;exact Blk.ne_ (show Blk w g t cur from hc) (show Blk w g t' cur' from rB) ht rfl
theorem FaI.app {b mk:Nat} {c0 c1 c2 c4:Value} {G:Nat->Option Nd} {D:Nat->Dy} {hd:Nat->Nat} {w wr w':World}(h:FaI b mk c0 c1 c2 c4 G D hd w wr)(lt:b<w.heap.size/\mk<w.heap.size/\(∀g,G g≠none->g<w.heap.size)/\(∀q x,G q=some x->x.kids≠[]->(D q).row<w.heap.size))
  {o:Obj} {v:Value} {t:TypeId} (ht:132≠t) (hv:∀k,v.ownBlock=some k->w.heap.size<=k/\k<wr.heap.size/\∃cur,wr.heap[k]?=some (.cells cur t (0,0))) (hg:(wr.alloc o).grownBy w' v.ownBlock):FaI b mk c0 c1 c2 c4 G D hd w w':=by
 have hs:=h.ch.size;refine h.below (λg oH=>(hg.block g (by simp;omega) (λe=>by have:=(hv g e.symm).1;omega)).trans (Below.heap_alloc _ _ _ (by omega))) lt.2.2.1 lt.2.2.2 lt.1 lt.2.1 (λx ⟨cs,hx⟩=>?_) ((h.ch.alloc o).grown hg (λk hk=>.inl (hv k hk).1));have hl:=(Aj.1 hx).1;exact⟨cs,((hg.block x (by simp;omega) (λe=>by
  obtain⟨_,_,cur,aa⟩:=hv x e.symm;exact Blk.ne_ (show Blk wr x _ cs from hx) (show Blk wr x _ cur from aa) ht rfl)).trans (Below.heap_alloc _ _ _ hl)).trans hx⟩
theorem zjC(D:Nat->Dy)(l:List Nat)(h:Nat):zaP D (l++[h])=zaP D l++(if(D h).fl=true then[] else[h]):=by
 unfold zaP;rw[Ct]
 congr 1
 by_cases e:(D h).fl=true
 ·rw[Aq e];simp[e]
 ·rw[Am e];simp[e]
theorem zhW(b mk q:Nat)(x:Nd)(c0 c1 c2 c4:Value)(G:Nat->Option Nd)(D:Nat->Dy)(K:Nat->Option Nat)(hd:Nat->Nat)(L:List Nat)(w:World)
  (hb:Blk w b 85 #[c0,c1,c2,.map (some mk),c4])(hk:Knw w mk K hd)(bB:PartsD w G D)(hg:Gr G hd L)(hx:G q=some x)(hA:∀h y,G h=some y->∃a m c,(D h).A=.slice a m c)(hn:x.kids.length<=1000000):Calls Tryz.prog 121 #[.pointer (some ⟨b,0,none⟩),.pointer (some ⟨q,0,none⟩)] w (FaPost b mk c0 c1 c2 c4 G D hd x.kids w):=by
 obtain⟨i0,bm,bO,bD,bj⟩:=info_parts infoTy;obtain⟨j0,jm,uM,jK,ku⟩:=info_parts infoPtr;obtain⟨A,c,-,-,-,p4,-,-,hr⟩:=(bB q x hx).facts;have iW:=(bB q x hx).lt;have hI0:FaI b mk c0 c1 c2 c4 G D hd w w:=⟨hb,⟨K,hk⟩,bB,Chg.refl _ _⟩;have bK:Hid (∀(g:Nat) (cs:Array Value) (t:TypeId),w.heap[g]?=some (.cells cs t (0,0))->g≠mk):=CS λg cs t hg e=>by
  rw[e]at hg
  exact MapK.no hk.mp hg
 have aC:Hid (b<w.heap.size/\mk<w.heap.size/\(∀g,G g≠none->g<w.heap.size)/\(∀q x,G q=some x->x.kids≠[]->(D q).row<w.heap.size)):=CS ⟨hb.lt,MapK.lt hk.mp,λg hg=>by
  cases h:G g with
  |none=>exact(hg h).elim
  |some y=>exact(bB g y h).lt,λq x hx hn=>(bB q x hx).row_lt hn⟩
 obtain⟨n,pI⟩:∃n,x.kids.length=n:=⟨_,rfl⟩;rw[pI]at p4 hn
 have HX:Hid (∀i a,x.kids[i]?=some a->A=some ⟨(D q).row,0,none⟩/\(D q).row<w.heap.size/\(D q).row≠mk/\w.cell? ⟨(D q).row,i,none⟩=some (PK a)):=CS λi a ha=>by
  obtain⟨h1,cur,h2,h3⟩:=hr (λh=>by rw[h]at ha;simp at ha);exact⟨h1,(Aj.1 h2).1,bK.out _ _ _ h2,(cell_of_row w _ i cur _ (0,0) h2).trans (h3 i a ha)⟩
 have qx:=CS (hg.kin q x hx);have HG:=CS hg;have HA:=CS hA;have HN:=CS pI;have HI0:=CS hI0;clear hb hk bB hg hx hA hI0 hr pI;go_enter Tryz.func121,Tryz.ntmps121
 go_wp2_with fail
 go_loopg [4,5,13] n (λgg v4 v5 vi wr=>HeadFa b mk c0 c1 c2 c4 G D hd x.kids w n gg v4 v5 vi wr)
 case atStart=>exact⟨0,rfl,rfl,AV _,World.ownsRow_nil _ _ _ _,World.ownsRow_nil _ _ _ _,HI0.out⟩
 case round =>
  obtain⟨i,rfl,rfl,hi,h4,h5,hI⟩:=hrel;obtain⟨A4,a4,rfl⟩:=zam h4;obtain⟨A5,a5,rfl⟩:=zam h5;obtain⟨m5,iJ⟩:∃m,(zaP D ((x.kids.take i).map hd)).length=m:=⟨_,rfl⟩;have hm5i:m5<=i:=by rw[<-iJ];exact AB (Ci _ _) (by simp;omega)
  rw[iJ]at h5 ⊢
  have H4:=CS h4;have H5:=CS h5;have HI:=CS hI;have vF:=CS iJ;by_cases ah:i<n
  ·obtain⟨a,ha⟩:∃a,x.kids[i]?=some a:=⟨_,Ak (by rw[HN.out];exact ah)⟩
   obtain⟨rfl,uO,o7,vU⟩:=HX.out i a ha;have e0:wr.cell? ⟨(D q).row,i,none⟩=some (.pointer (some ⟨a,0,none⟩)):=(World.cell?_of_block (w:=w) (a:=⟨(D q).row,i,none⟩) (hI.ch.block _ uO o7)).trans vU;obtain⟨ya,hya⟩:=qx.out a (AX ha);obtain⟨y,hy⟩:=HG.out.hin a ya hya;obtain⟨K1,gO⟩:=hI.kn;have fZ:=CS (zfe b mk K1 hd a wr c0 c1 c2 c4 hI.sb gO (hI.pd a ya hya).laid);have fm:Hid ((x.kids.take (i+1)).map hd=(x.kids.take i).map hd++[hd a]):=CS (by rw[B8,ha,Bl];rfl);have oj:=CS gO;have HY:=CS hy;clear ha uO o7 vU hya gO h4 h5 hI iJ hy p4;go_wp2_with fail
   refine fZ.out.mono ?_;rintro e w1 ⟨rfl,K2,cC,cw,bk,-⟩;obtain⟨h,hh⟩:∃h,hd a=h:=⟨_,rfl⟩;rw[hh]at fm HY ⊢
   have af:∀(g:Nat) (cs:Array Value) (t:TypeId),wr.heap[g]?=some (.cells cs t (0,0))->w1.heap[g]?=wr.heap[g]?:=λg cs t hg=>cw.block g (Aj.1 hg).1 (λe=>by
    have e:g=mk:=e;rw[e]at hg
    exact MapK.no oj.out.mp hg)
   have h41:=zan H4.out (λg hg=>by obtain⟨_,_,cur,aa⟩:=zab H4.out g hg;exact af g cur _ aa);have h51:=zan H5.out (λg hg=>by obtain⟨_,_,cur,aa⟩:=zab H5.out g hg;exact af g cur _ aa);have yB:FaI b mk c0 c1 c2 c4 G D hd w w1:=⟨HI.out.sb.same (af _ _ _ HI.out.sb),⟨K2,cC⟩,HI.out.pd.same λk _ ⟨cs,t,hx⟩=>af k cs t hx,HI.out.ch.trans cw⟩;obtain⟨am,mm,cm,hAv⟩:=HA.out h y HY.out;obtain⟨A9,c9,bM,-⟩:=yB.pd h y HY.out;have f0:w1.cell? ⟨h,0,none⟩=some (.int .i64 (y.kd:Nat)):=bM.cell 0;have f1:w1.cell? ⟨h,1,none⟩=some (.string y.nm):=bM.cell 1;have f2:w1.cell? ⟨h,2,none⟩=some (.int .i64 (y.n:Nat)):=bM.cell 2;have f3:w1.cell? ⟨h,3,none⟩=some (.slice am mm cm):=by rw[<-hAv];exact bM.cell 3
   have f7:w1.cell? ⟨h,7,none⟩=some (.bool (D h).fl):=bM.cell 7;have lh:=bM.lt;have HTY:Hid (tyCells G D [h]=[.int .i64 (y.kd:Nat),.string y.nm,.int .i64 (y.n:Nat),.slice am mm cm]):=CS (by
    have dQ:ndOf G h=y:=by unfold ndOf;rw[HY.out];rfl
    rw[tyCells,tyCells,dQ,hAv])
   have HAH:=CS (zjC D ((x.kids.take i).map hd) h);have kh:=CS yB;have vL:=CS h41;have uA:=CS h51;have hle1:=yB.ch.size;cases hf:(D h).fl with
   |true =>
    rw[hf]at f7
    have HF:=CS hf;have vD:=CS (h41.alloc (.cells #[.int .i64 (y.kd:Nat),.string y.nm,.int .i64 (y.n:Nat),.slice am mm cm] 37));clear af h41 h51 yB hAv bM hf e0 hh cC cw bk;go_wp2_with (at_builtin;refine wpList_append_own_at _ rfl (.tmp 29) (.tmp 34) 35 rfl w.heap.size 37 i0 _ 4 56 Tryz.underlying35 bm bO bD bj rfl (by decide) _ i (tyCells G D ((x.kids.take i).map hd)) rfl vD.out ⟨w1.heap.size,0,none⟩ 1 1 [.int .i64 (y.kd:Nat),.string y.nm,.int .i64 (y.n:Nat),.slice am mm cm] rfl rfl (zas _ _ _ _ (by simp)) (by intro u hu;simp at hu;rcases hu with rfl|rfl|rfl|rfl <;> rfl) (by unfold maxLen;omega) (by omega) (by simp;omega) ?_;intro v3 w3 aj ae _ aS;obtain⟨A3',c3',rfl⟩:=zam aj;have cV:=CS aj;have bg:=CS ae;clear aj ae aS)
    have HR:Hid (HeadFa b mk c0 c1 c2 c4 G D hd x.kids w n (n-(i+1)) (.slice A3' (i+1) c3') (.slice A5 m5 a5) (.int .i64 ((i+1:Nat):Int)) w3):=CS (by
     refine⟨i+1,rfl,rfl,by omega,?_,?_,kh.out.app aC.out (by decide) (zab vL.out) bg.out⟩
     ·rw[fm.out,zdL,HTY.out];exact cV.out
     ·rw[fm.out,HAH.out,Aq HF.out,AU,vF.out]
      exact zan uA.out (λk hk=>(bg.out.block k (by have:=(zab uA.out k hk).2.1;simp;omega) (λe=>own_ne vL.out uA.out (by decide) k e.symm hk)).trans (Below.heap_alloc _ _ _ (zab uA.out k hk).2.1)))
    clear f0 f1 f2 f3 f7 lh;go_roundg (n-(i+1))
    case measure=>omega
    case rel=>exact HR.out
   |false =>
    rw[hf]at f7
    have HF:Hid (¬(D h).fl=true):=CS (by rw[hf];simp);have ke:=CS (h51.alloc (.cells #[.pointer (some ⟨h,0,none⟩)] 75));have qE:=CS bM;clear af h41 h51 yB hAv bM hf e0 hh cC cw bk;go_wp2_with (first
     |(at_builtin;refine wpList_append_own_at _ rfl (.tmp 25) (.tmp 27) 130 rfl w.heap.size 75 j0 _ 1 8 Tryz.underlying130 jm uM jK ku rfl (by decide) _ m5 ((zaP D ((x.kids.take i).map hd)).map PK) rfl ke.out ⟨w1.heap.size,0,none⟩ 1 1 [.pointer (some ⟨h,0,none⟩)] rfl rfl (zas _ _ _ _ (by simp)) (by intro u hu;simp at hu;subst hu <;> rfl) (by unfold maxLen;omega) (by omega) (by simp <;> omega) ?_;intro v2 w2 aM ae _ jv;obtain⟨A2',c2',rfl⟩:=zam aM;have aT:w2.heap[h]?=w1.heap[h]?:=(ae.block h (by simp <;> omega) (λe=>by obtain⟨_,_,cur,aa⟩:=zab uA.out h e.symm;exact Blk.ne_ qE.out (show Blk w1 h _ cur from aa) (by decide) rfl)).trans (Below.heap_alloc _ _ _ lh);have g0:w2.cell? ⟨h,0,none⟩=some (.int .i64 (y.kd:Nat)):=(World.cell?_of_block (w:=w1) (a:=⟨h,0,none⟩) aT).trans f0;have g1:w2.cell? ⟨h,1,none⟩=some (.string y.nm):=(World.cell?_of_block (w:=w1) (a:=⟨h,1,none⟩) aT).trans f1;have g2:w2.cell? ⟨h,2,none⟩=some (.int .i64 (y.n:Nat)):=(World.cell?_of_block (w:=w1) (a:=⟨h,2,none⟩) aT).trans f2;have g3:w2.cell? ⟨h,3,none⟩=some (.slice am mm cm):=(World.cell?_of_block (w:=w1) (a:=⟨h,3,none⟩) aT).trans f3;have px:=ae.size;simp only[World.size_alloc]at px;have lh2:h<w2.heap.size:=(by omega);have h42:=zan vL.out (w':=w2) (λk hk=>(ae.block k (by have:=(zab vL.out k hk).2.1;simp <;> omega) (λe=>own_ne uA.out vL.out (by decide) k e.symm hk)).trans (Below.heap_alloc _ _ _ (zab vL.out k hk).2.1));have H42:=CS h42;have vD:=CS (h42.alloc (.cells #[.int .i64 (y.kd:Nat),.string y.nm,.int .i64 (y.n:Nat),.slice am mm cm] 37));have HI2:=CS (kh.out.app aC.out (by decide) (zab uA.out) ae);have hle2:=HI2.out.ch.size;have cG:=CS aM;clear aM ae jv h42 aT)
     |(at_builtin;refine wpList_append_own_at _ rfl (.tmp 29) (.tmp 34) 35 rfl w.heap.size 37 i0 _ 4 56 Tryz.underlying35 bm bO bD bj rfl (by decide) _ i (tyCells G D ((x.kids.take i).map hd)) rfl vD.out ⟨w2.heap.size,0,none⟩ 1 1 [.int .i64 (y.kd:Nat),.string y.nm,.int .i64 (y.n:Nat),.slice am mm cm] rfl rfl (zas _ _ _ _ (by simp)) (by intro u hu;simp at hu;rcases hu with rfl|rfl|rfl|rfl <;> rfl) (by unfold maxLen;omega) (by omega) (by simp <;> omega) ?_;intro v3 w3 aj ae _ aS;obtain⟨A3',c3',rfl⟩:=zam aj;have cV:=CS aj;have bg:=CS ae;clear aj ae aS))
    have HR:Hid (HeadFa b mk c0 c1 c2 c4 G D hd x.kids w n (n-(i+1)) (.slice A3' (i+1) c3') (.slice A2' (m5+1) c2') (.int .i64 ((i+1:Nat):Int)) w3):=CS (by
     refine⟨i+1,rfl,rfl,by omega,?_,?_,HI2.out.app aC.out (by decide) (zab H42.out) bg.out⟩
     ·rw[fm.out,zdL,HTY.out];exact cV.out
     ·rw[fm.out,HAH.out,Am HF.out,Ap,vF.out,Bl]
      exact zan cG.out (λk hk=>(bg.out.block k (by have:=(zab cG.out k hk).2.1;simp;omega) (λe=>own_ne H42.out cG.out (by decide) k e.symm hk)).trans (Below.heap_alloc _ _ _ (zab cG.out k hk).2.1)))
    clear f0 f1 f2 f3 f7 lh;go_roundg (n-(i+1))
    case measure=>omega
    case rel=>exact HR.out
  ·have dD:i=n:=by omega
   subst dD;have aU:x.kids.take i=x.kids:=AK (by rw[HN.out];omega);rw[aU]at h4 h5
   have HF:Hid (FaPost b mk c0 c1 c2 c4 G D hd x.kids w (.returned (.tuple #[.slice A4 i a4,.slice A5 m5 a5])) wr):=CS ⟨_,_,rfl,by rw[HN.out];exact h4,by rw[aU]at iJ;rw[iJ];exact h5,hI⟩;clear aU h4 h5 hI iJ;go_wp2_with fail
   go_ret2
   exact HF.out
end Go.Proofs.YtfafilmklhnngaaGreatDoor
namespace Go.Proofs.YtfafilmklhnngaaGreatDoor
open Lx Tx
set_option maxRecDepth 100000
theorem zpE(m:Nat)(t:Dt):bad m t=0\/bad m t=41\/bad m t=42\/bad m t=43:=by
 unfold bad;split
 ·simp
 ·split
  ·simp
  ·split <;> simp
theorem zpF(f:Nat):∀(E:List (Dt × Dt))(k:Sb)(m:Nat),unF f E k=some (.inl m)->m=40\/m=41\/m=42\/m=43:=by
 induction f with
 |zero=>intro E k m h;rw[unF]at h;cases h
 |succ f ih =>
  intro E k m h;cases E with
  |nil=>rw[unF]at h;injection h with h;cases h
  |cons p r =>
   obtain⟨a,b⟩:=p;rw[unF]at h
   cases hq:act (ap k a) (ap k b) with
   |skip=>rw[hq]at h;exact ih _ _ _ h
   |push l=>rw[hq]at h;exact ih _ _ _ h
   |clash=>rw[hq]at h;injection h with h;injection h with h;exact .inl h.symm
   |learn i t =>
    rw[hq]at h
    simp only at h;by_cases hb:bad i t=0
    ·rw[Aq hb]at h;exact ih _ _ _ h
    ·rw[Am hb]at h
     injection h with h;injection h with h;rcases zpE i t with h1|h1|h1|h1
     ·exact absurd h1 hb
     ·exact .inr (.inl (h▸h1))
     ·exact .inr (.inr (.inl (h▸h1)))
     ·exact .inr (.inr (.inr (h▸h1)))
end Go.Proofs.YtfafilmklhnngaaGreatDoor
