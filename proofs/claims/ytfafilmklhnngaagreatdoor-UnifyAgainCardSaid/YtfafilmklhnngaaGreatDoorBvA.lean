import Derived.Test.YtfafilmklhnngaaGreatDoorBsJ
import Derived.Test.YtfafilmklhnngaaGreatDoorBsAE
import Derived.Test.YtfafilmklhnngaaGreatDoorBsAC
import Derived.Test.YtfafilmklhnngaaGreatDoorBsAB
import Derived.Test.YtfafilmklhnngaaGreatDoorBsU
import Derived.Test.YtfafilmklhnngaaGreatDoorBsAJ
import Derived.Test.YtfafilmklhnngaaGreatDoorBsAK
import Derived.Test.YtfafilmklhnngaaGreatDoorBsAS
import Derived.Test.YtfafilmklhnngaaGreatDoorBsAL
import Derived.Test.YtfafilmklhnngaaGreatDoorBsAT
set_option maxHeartbeats 12800000
namespace Go.Proofs.YtfafilmklhnngaaGreatDoor
namespace Tx
open Lx
mutual
theorem numb_mono(c:UInt8)(but:List Name):(t:Ty)->t.r_=false->∀k,Gf c but [] [] t k=(t,k)
 |.var x,_,k=>by rw[Gf,idx]
 |.mt n,_,k=>by rw[Gf]
 |.h_ d l,h,k=>by rw[Ty.r_]at h;rw[Gf,numbL_mono c but l h k]
 |.fn a b,h,k=>by
  rw[Ty.r_,DV]at h;rw[Gf,numb_mono c but a h.1 k];simp only;rw[numb_mono c but b h.2 k]
 |.all x t,h,k=>by rw[Ty.r_]at h;cases h
theorem numbL_mono(c:UInt8)(but:List Name):(l:List Ty)->IU l=false->∀k,MH c but [] [] l k=(l,k)
 |[],_,k=>by rw[MH]
 |t::r,h,k=>by
  rw[IU,DV]at h;rw[MH,numb_mono c but t h.1 k];simp only;rw[numbL_mono c but r h.2 k]
end
theorem canon_mono(t:Ty)(h:t.r_=false):t.Fa=t:=by unfold Ty.Fa;rw[numb_mono 120 _ t h]
end Tx
end Go.Proofs.YtfafilmklhnngaaGreatDoor
namespace Go.Proofs.YtfafilmklhnngaaGreatDoor
open Go.RowKit Lx Tx Go.Maps Go.WideMaps Go.Shelf
set_option maxRecDepth 100000
mutual
theorem QE:(t:Ty)->t.r_=false->t.E7=0
 |.var x,_=>by rw[Ty.E7]
 |.mt n,_=>by rw[Ty.E7]
 |.h_ c l,h=>by rw[Ty.r_]at h;rw[Ty.E7];exact zhM l h
 |.fn a b,h=>by
  rw[Ty.r_,DV]at h;rw[Ty.E7,QE a h.1,QE b h.2]
 |.all x t,h=>by rw[Ty.r_]at h;cases h
theorem zhM:(l:List Ty)->IU l=false->C' l=0
 |[],_=>by rw[C']
 |t::r,h=>by
  rw[IU,DV]at h;rw[C',QE t h.1,zhM r h.2]
end
end Go.Proofs.YtfafilmklhnngaaGreatDoor
namespace Go.Proofs.YtfafilmklhnngaaGreatDoor
namespace Tx
open Lx
theorem SC(s:Sb):B_ s .mt:=λn=>Ge s n
theorem zko {s k:Sb} {m:Nat} {t:Dt}(h:B_ s k)(hm:s m=Tx.ap s t):B_ s (GI m t k):=by
 intro n;unfold GI;rw[Qn,Si _ s (k n) (λj _=>?_)]
 ·exact h n
 ·by_cases hj:j=m
  ·rw[hj,KG];exact hm.symm
  ·rw[KH m t j hj,Ge]
theorem znR {s:Sb} {x y:Dt}(h:act x y=.FA):ap s x≠ap s y:=by
 intro bp;cases x <;> cases y;case mt.mt=>simp only[act]at h;split at h <;> first|(cases h;done)|(split at h <;> cases h)
 case fv.fv=>simp only[act]at h;rw[JK,JK]at bp;injection bp with bp;rw[Ch bp]at h;cases h
 case bv.bv=>simp only[act]at h;rw[JX,JX]at bp;injection bp with bp;rw[Ch bp]at h;cases h
 case h_.h_ =>
  simp only[act]at h;rw[Jj,Jj,KL,KL]at bp;injection bp with h1 h2;rw[Ch ⟨h1,by have:=Cp List.length h2;simpa using this⟩]at h
  cases h
 all_goals first|(simp only[act,reduceCtorEq]at h;done)|(simp only[JK,JX,Jj,JJ,Iw,reduceCtorEq]at bp;done)
theorem S9(θ:Sb)(hθ:∀n,Plain (θ n))(f:Nat):∀(E:List (Dt × Dt))(k:Sb)(o:Nat ⊕ Sb),Fc f E k=some o->GX k->B_ θ k->(∀p∈E,ap θ p.1=ap θ p.2)->∃k',o=.inr k'/\B_ θ k':=by
 induction f with
 |zero=>intro E k o h;rw[Fc]at h;cases h
 |succ f ih =>
  intro E k o h hk ha hE;cases E with
  |nil =>
   rw[Fc]at h;injection h with h;exact⟨k,h.symm,ha⟩
  |cons p r =>
   obtain⟨a,b⟩:=p;have bp:ap θ (ap k a)=ap θ (ap k b):=by rw[ha.ap,ha.ap];exact hE (a,b) Cs
   have hr:∀p∈r,ap θ p.1=ap θ p.2:=λp hp=>hE p (Cf _ hp);rw[Fc]at h
   cases hq:act (ap k a) (ap k b) with
   |skip=>rw[hq]at h;exact ih r k o h hk ha hr
   |FA =>
    exact absurd bp (znR hq)
   |push l =>
    rw[hq]at h;refine ih (l++r) k o h hk ha λp hp=>?_;rcases Cr.1 hp with hp|hp
    ·exact(zkX hq).2 bp p hp
    ·exact hr p hp
   |Fs m t =>
    rw[hq]at h;simp only at h;obtain⟨e1,e2,_,_⟩:=OF hk hq;obtain⟨hs,ai⟩:=OH hq;have hm:θ m=ap θ t/\t≠.mt m:=by
     rcases hs with⟨g1,g2⟩|⟨g1,g2⟩
     ·rw[g1,Ge,<-g2]at bp;exact⟨bp,λe=>ai (by rw[g1,<-g2,e])⟩
     ·rw[g1,Ge,<-g2]at bp;exact⟨bp.symm,λe=>ai (by rw[g1,<-g2,e])⟩
    have hb:bad m t=0:=by
     rw[Ot];refine⟨λho=>?_,?_⟩
     ·have:=(znN θ m t ho).2 hm.2
      rw[hm.1]at this;exact Nat.lt_irrefl _ this
     ·have:=hθ m
      rw[hm.1,Ou]at this;exact this.1
    rw[Ch hb]at h;exact ih r (GI m t k) o h (PV hk e2 ((Ot m t).1 hb).1) (zko ha hm.1) hr
end Tx
end Go.Proofs.YtfafilmklhnngaaGreatDoor
namespace Go.Proofs.YtfafilmklhnngaaGreatDoor
open Go.RowKit Go.Shelf Lx Tx Go.Maps Go.WideMaps
set_option maxRecDepth 100000
attribute [local go_sem] Oper.semAt_some
def Hz(S:Nat->Prop)(w:World)(r:List (Nat × Ty))(A:Option Addr):Prop :=
 ∀(i n:Nat) (t:Ty),r[i]?=some (n,t)->∃g At ct,A=some ⟨g,0,none⟩/\g<w.heap.size/\j_ S w t At /\
  w.cell? ⟨g,i*5,none⟩=some (.int .i64 (n:Nat))/\w.cell? ⟨g,i*5+1,none⟩=some (.int .i64 (kd t:Nat))/\w.cell? ⟨g,i*5+2,none⟩=some (.string (ER t))/\w.cell? ⟨g,i*5+3,none⟩=some (.int .i64 (nn t:Nat))/\w.cell? ⟨g,i*5+4,none⟩=some (.slice At (kids t).length ct)
theorem Ij.Wy {S:Nat->Prop} {B:Nat} {w:World} {l:List (Nat × Ty)} {A:Option Addr} {m c:Nat}(h:Ij S B w l (.slice A m c)):Hz S w l A:=λi n t hi=>by
 obtain⟨g,At,ct,e,-,hg,ha,c0,c1,c2,c3,c4⟩:=h.cells.2 i n t hi;exact⟨g,At,ct,e,hg,ha,c0,c1,c2,c3,c4⟩
end Go.Proofs.YtfafilmklhnngaaGreatDoor
namespace Go.Proofs.YtfafilmklhnngaaGreatDoor
open Lx Tx
set_option maxRecDepth 100000
theorem SN:(l m:List Nat)->l.Nodup->(∀x∈l,x∈m)->l.length<=m.length
 |[],_,_,_=>Cw _
 |x::l,m,hn,h=>by
  obtain⟨s,t,rfl⟩:=List.append_of_mem (h x (by simp));rw[CO]at hn;have:=SN l (s++t) hn.2 λy hy=>by
   have h1:=h y (by simp[hy]);have ai:y≠x:=λe=>hn.1 (e▸hy);simp only[Cr,Cd]at h1 ⊢;rcases h1 with h1|h1|h1
   ·exact .inl h1
   ·exact absurd h1 ai
   ·exact .inr h1
  simp only[Cb,Ca]at this ⊢;omega
def mtN:Dt->Nat
 |.mt n=>n
 |_=>0
theorem zfc(φ:Nat->Nat):(l:List Nat)->l.Nodup->(∀x∈l,∀y∈l,φ x=φ y->x=y)->(l.map φ).Nodup
 |[],_,_=>by simp
 |x::l,hn,h=>by
  rw[CO]at hn;rw[CA,CO];refine⟨λhx=>?_,zfc φ l hn.2 λa ha b hb=>h a (by simp[ha]) b (by simp[hb])⟩;obtain⟨y,hy,e⟩:=Ct.1 hx;have:=h y (by simp[hy]) x (by simp) e;exact hn.1 (this▸hy)
theorem zkQ {k k':Sb}(fj:GX k')(a:B_ k k')(V:List Nat)(hV:V.Nodup)(hD:∀n,k n≠.mt n->n∈V):(V.filter λn=>Jb n (k n)).length<=(V.filter λn=>Jb n (k' n)).length:=by
 have key:∀n,k n=.mt n->∃j,k' n=.mt j/\k j=.mt n:=λn hn=>by
  have h:=a n;rw[hn]at h;cases hd:k' n with
  |mt j=>exact⟨j,rfl,by rw[hd,Ge]at h;exact h⟩
  |fv x=>rw[hd,JK]at h;cases h
  |bv x=>rw[hd,JX]at h;cases h
  |h_ c l=>rw[hd,Jj]at h;cases h
  |fn x y=>rw[hd,JJ]at h;cases h
  |all t=>rw[hd,Iw]at h;cases h
 have hφ:∀n j,k' n=.mt j->mtN (k' n)=j:=λn j h=>by rw[h];rfl
 rw[<-CE (f:=λn=>mtN (k' n))];refine SN _ _ (zfc _ _ (hV.filter _) λx hx y hy e=>?_) λj hj=>?_
 ·obtain⟨_,hx⟩:=Dp.1 hx
  obtain⟨_,hy⟩:=Dp.1 hy;obtain⟨i,h1,h2⟩:=key x ((N5 _ _).1 hx);obtain⟨j,h3,h4⟩:=key y ((N5 _ _).1 hy);rw[hφ _ _ h1,hφ _ _ h3]at e;rw[e,h4]at h2;injection h2 with h2;exact h2.symm
 ·obtain⟨n,hn,rfl⟩:=Ct.1 hj
  obtain⟨hnV,hn⟩:=Dp.1 hn;obtain⟨j,h1,h2⟩:=key n ((N5 _ _).1 hn);rw[hφ _ _ h1];refine Dp.2 ⟨?_,(N5 _ _).2 ?_⟩
  ·by_cases e:j=n
   ·rw[e];exact hnV
   ·exact hD j (λh=>by rw[h2]at h;injection h with h;exact e h.symm)
  ·have:=fj n
   rw[h1,Ge]at this;exact this
theorem zjL {k:Sb} {l:List (Nat × Ty)}(h:Told k l)(V:List Nat)(hV:V.Nodup)(hD:∀n,k n≠.mt n->n∈V):l.length+(V.filter λn=>Jb n (k n)).length=V.length:=by
 have e:l.length=(V.filter λn=>!Jb n (k n)).length:=by
  have e0:(l.map (·.1)).length=l.length:=by simp
  rw[<-e0];refine Nat.le_antisymm (SN _ _ h.nodup λn hn=>?_) (SN _ _ (hV.filter _) λn hn=>?_)
  ·obtain⟨⟨m,t⟩,he,rfl⟩:=Ct.1 hn
   have h1:=((h.mem m t).1 he).1;refine Dp.2 ⟨hD m h1,?_⟩;cases hq:Jb m (k m) with
   |false=>rfl
   |true=>exact absurd ((N5 _ _).1 hq) h1
  ·obtain⟨_,hn⟩:=Dp.1 hn
   refine Ct.2 ⟨(n,pw (k n)),(h.mem n _).2 ⟨λe=>?_,rfl⟩,rfl⟩;rw[(N5 _ _).2 e]at hn;cases hn
 rw[e];have key:∀V:List Nat,(V.filter λn=>!Jb n (k n)).length+(V.filter λn=>Jb n (k n)).length=V.length:=by
  intro V;induction V with
  |nil=>rfl
  |cons x V ih =>
   cases hq:Jb x (k x) with
   |true=>rw[Di (by simp[hq]),Dw (by simpa using hq),Ca,Ca];omega
   |false=>rw[Dw (by simp[hq]),Di (by simp[hq]),Ca,Ca];omega
 exact key V
theorem zl4 {k k':Sb} {l l':List (Nat × Ty)}(h:Told k l)(h':Told k' l')(hk:GX k)(fj:GX k')(a:B_ k k')(a':B_ k' k):l.length=l'.length:=by
 obtain⟨N,hN⟩:∃N,∀n,n∈l.map (·.1)++l'.map (·.1)->n<N:=by
  generalize l.map (·.1)++l'.map (·.1)=L;induction L with
  |nil=>exact⟨0,λn h=>by cases h⟩
  |cons x L ih =>
   obtain⟨N,h⟩:=ih;refine⟨max N (x+1),λn hn=>?_⟩;rcases Cd.1 hn with e|hn
   ·omega
   ·have:=h n hn;omega
 have hD:∀n,k n≠.mt n->n∈List.range N:=λn hn=>Ew.2 (hN n (Cr.2 (.inl (Ct.2 ⟨_,(h.mem n _).2 ⟨hn,rfl⟩,rfl⟩))));have u4:∀n,k' n≠.mt n->n∈List.range N:=λn hn=>Ew.2 (hN n (Cr.2 (.inr (Ct.2 ⟨_,(h'.mem n _).2 ⟨hn,rfl⟩,rfl⟩))));have e1:=zjL h _ List.nodup_range hD;have e2:=zjL h' _ List.nodup_range u4;have e3:=zkQ fj a _ List.nodup_range hD;have e4:=zkQ hk a' _ List.nodup_range u4;omega
set_option maxRecDepth 100000
theorem unF_app(g:Nat):∀(E1 E2:List (Dt × Dt))(k k1:Sb)(f:Nat)(o:Nat ⊕ Sb),Fc g E1 k=some (.inr k1)->Fc f (E1++E2) k=some o->∃h,Fc h E2 k1=some o:=by
 induction g with
 |zero=>intro E1 E2 k k1 f o h;rw[Fc]at h;cases h
 |succ g ih =>
  intro E1 E2 k k1 f o h hf;cases E1 with
  |nil=>rw[Fc]at h;injection h with h;injection h with h;rw[<-h];exact⟨f,hf⟩
  |cons p r =>
   obtain⟨a,b⟩:=p;cases f with
   |zero=>rw[Fc]at hf;cases hf
   |succ f =>
    rw[Co,Fc]at hf;rw[Fc]at h;cases hq:act (ap k a) (ap k b) with
    |skip=>rw[hq]at h hf;exact ih r E2 k k1 f o h hf
    |FA=>rw[hq]at h;injection h with h;cases h
    |push q =>
     rw[hq]at h hf;simp only at hf;rw[<-DC]at hf;exact ih (q++r) E2 k k1 f o h hf
    |Fs m t =>
     rw[hq]at h hf;simp only at h hf;by_cases hb:bad m t=0
     ·rw[Ch hb]at h hf;exact ih r E2 _ k1 f o h hf
     ·rw[Cg hb]at h;injection h with h;cases h
theorem unF_nil {f:Nat} {k:Sb} {o:Nat ⊕ Sb}(h:Fc f [] k=some o):o=.inr k:=by
 cases f with
 |zero=>rw[Fc]at h;cases h
 |succ f=>rw[Fc]at h;injection h with h;exact h.symm
theorem unF_holds {f:Nat} {E:List (Dt × Dt)} {k:Sb} {o:Nat ⊕ Sb}(hk:GX k)(hE:∀p∈E,ap k p.1=ap k p.2)(h:Fc f E k=some o):o=.inr k:=by
 rw[<-CJ E]at h;obtain⟨g,_,h⟩:=zpP hk _ E hE (BU _) f [] o h;exact unF_nil h
theorem dbQ_app(a b:List (Ty × Ty)):Fy (a++b)=Fy a++Fy b:=by unfold Fy;rw[Dn]
def eqsOf(l:List (Nat × Ty)):List (Ty × Ty):=l.map λe=>(.mt e.1,e.2)
theorem mem_eqsOf {k:Sb} {l:List (Nat × Ty)}(h:Told k l)(hp:∀n,Plain (k n))(p:Dt × Dt):p∈Fy (eqsOf l)↔∃n,k n≠.mt n/\p=(.mt n,k n):=by
 unfold Fy eqsOf;rw[DS];constructor
 ·intro hq
  obtain⟨⟨n,t⟩,he,rfl⟩:=Ct.1 hq;obtain⟨h1,h2⟩:=(h.mem n t).1 he;refine⟨n,h1,?_⟩;show(db [] (.mt n),db [] t)=_;rw[h2,RW _ (hp n)];rfl
 ·rintro⟨n,h1,rfl⟩
  refine Ct.2 ⟨(n,pw (k n)),(h.mem n _).2 ⟨h1,rfl⟩,?_⟩;show(db [] (.mt n),db [] (pw (k n)))=_;rw[RW _ (hp n)];rfl
theorem eqsOf_hold {k:Sb} {l:List (Nat × Ty)}(h:Told k l)(hp:∀n,Plain (k n))(hk:GX k):∀p∈Fy (eqsOf l),ap k p.1=ap k p.2:=by
 intro p hq;obtain⟨n,_,rfl⟩:=(mem_eqsOf h hp p).1 hq;show ap k (.mt n)=ap k (k n);rw[Ge,hk n]
theorem unF_again {f g:Nat} {ts:List (Ty × Ty)} {k:Sb} {l:List (Nat × Ty)} {o:Nat ⊕ Sb}(h:Fc f (Fy ts) .mt=some (.inr k))(hT:Told k l)(h':Fc g (Fy (ts++eqsOf l)) .mt=some o):o=.inr k:=by
 obtain⟨h1,h2,-,-⟩:=NX f _ _ _ h J0 Jk;rw[dbQ_app]at h';obtain⟨i,h3⟩:=unF_app f _ _ _ _ g o h h';exact unF_holds h1 (eqsOf_hold hT h2 h1) h3
theorem unF_alone {f g:Nat} {ts:List (Ty × Ty)} {k:Sb} {l:List (Nat × Ty)} {o:Nat ⊕ Sb}(h:Fc f (Fy ts) .mt=some (.inr k))(hT:Told k l)(h':Fc g (Fy (eqsOf l)) .mt=some o):∃k',o=.inr k'/\∀l',Told k' l'->l'.length=l.length:=by
 obtain⟨h1,h2,-,-⟩:=NX f _ _ _ h J0 Jk;obtain⟨k',rfl,ha⟩:=S9 k h2 g _ _ o h' J0 (SC k) (eqsOf_hold hT h2 h1);obtain⟨h3,-,-,h4⟩:=NX g _ _ _ h' J0 Jk;refine⟨k',rfl,λl' nM=>(zl4 hT nM h1 h3 ha λn=>?_).symm⟩;by_cases hn:k n=.mt n
 ·rw[hn,Ge]
 ·have:=h4 (.mt n,k n) ((mem_eqsOf hT h2 _).2 ⟨n,hn,rfl⟩)
  simp only[Ge]at this;exact this.symm
end Go.Proofs.YtfafilmklhnngaaGreatDoor
namespace Go.Proofs.YtfafilmklhnngaaGreatDoor
open Go.RowKit Lx Tx Go.Maps Go.WideMaps Go.Shelf
set_option maxRecDepth 100000
theorem Wh {w W:World} {ls:List (ByteArray × ByteArray)} {A:Option Addr}(h:Gb w ls A)(hW:Below w.heap.size w W):Gb W ls A:=λi p hi=>by
 obtain⟨a,e,h1,h2,h3⟩:=h i p hi;have hb:∀k,(a.add k).block=a.block:=λk=>by unfold Addr.add;split <;> rfl
 exact⟨a,e,Ci h1 hW.size,(hW.cell (p:=a.add (i*2)) (by rw[hb];exact h1)).trans h2,(hW.cell (p:=a.add (i*2+1)) (by rw[hb];exact h1)).trans h3⟩
theorem Hg.below {S:Nat->Prop} {w W:World} {ts:List (Ty × Ty)} {A:Option Addr}(h:Hg S w ts A)(hS:∀g,S g->g<w.heap.size)(hW:Below w.heap.size w W):Hg S W ts A:=λi t u hi=>by
 obtain⟨g,At,ct,Au,cu,e,hg,⟨c0,c1,c2,c3⟩,ha,⟨d0,d1,d2,d3⟩,hu⟩:=h i t u hi;have hc:∀j v,w.cell? ⟨g,j,none⟩=some v->W.cell? ⟨g,j,none⟩=some v:=λj v h=>(hW.cell (p:=⟨g,j,none⟩) hg).trans h;exact⟨g,At,ct,Au,cu,e,Ci hg hW.size,⟨hc _ _ c0,hc _ _ c1,hc _ _ c2,hc _ _ c3⟩,ha.al (λ_ h=>h) (λk hk=>hW.block k (hS k hk)),⟨hc _ _ d0,hc _ _ d1,hc _ _ d2,hc _ _ d3⟩,hu.al (λ_ h=>h) (λk hk=>hW.block k (hS k hk))⟩
end Go.Proofs.YtfafilmklhnngaaGreatDoor
namespace Go.Proofs.YtfafilmklhnngaaGreatDoor
open Go.RowKit Lx Tx Go.Maps Go.WideMaps Go.Shelf
set_option maxRecDepth 100000
def Kb(S:Nat->Prop)(B:Nat)(w:World)(l:List (Ty × Ty))(v:Value):Prop:=∃vs,w.ownsRow B 52 8 v l.length vs/\fs S w (LD l) vs
theorem Kb.nil(S:Nat->Prop)(B:Nat)(w:World):Kb S B w [] (.slice none 0 0):=⟨[],CM _ _ _ _,by show fs S w [] [];rw[fs]⟩
theorem Kb.shape {S:Nat->Prop} {B:Nat} {w:World} {l:List (Ty × Ty)} {v:Value}(h:Kb S B w l v):∃A c,v=.slice A l.length c:=by
 obtain⟨vs,h1,-⟩:=h;exact GS h1
theorem Kb.Jv {S:Nat->Prop} {B:Nat} {w:World} {l:List (Ty × Ty)} {A:Option Addr} {m c:Nat}(h:Kb S B w l (.slice A m c)):Hg S w l A:=by
 obtain⟨gW,h1,h2⟩:=h;refine λi t u hi=>?_;obtain⟨f1,f2⟩:=Vh l i t u hi;obtain⟨At,ct,g1,g2⟩:=h2.at _ t f1;obtain⟨Au,cu,g3,g4⟩:=h2.at _ u f2;rcases h1.2 with⟨-,h0⟩|⟨g,cap,cur,e,-,hg,-⟩
 ·rw[Cn h0]at hi
  cases hi
 ·injection e with e1 _ _
  subst e1;have hc:∀(j:Nat) (x:Value),gW[j]?=some x->w.cell? ⟨g,j,none⟩=some x:=λj x hx=>by
   have ay:=h1.cells (g:=g) rfl j x hx;have aN:(⟨g,0,none⟩:Addr).add j=⟨g,j,none⟩:=by unfold Addr.add;split <;> simp_all
   rwa [aN]at ay
  refine⟨g,At,ct,Au,cu,rfl,(BV.1 hg).1,?_,g1,?_,g3⟩
  ·have e:i*8=i*2*4:=by omega
   rw[e];exact⟨hc _ _ (g2 0 (by omega)),hc _ _ (g2 1 (by omega)),hc _ _ (g2 2 (by omega)),hc _ _ (g2 3 (by omega))⟩
  ·have e:i*8+4=(i*2+1)*4:=by omega
   rw[e];exact⟨hc _ _ (g4 0 (by omega)),hc _ _ (g4 1 (by omega)),hc _ _ (g4 2 (by omega)),hc _ _ (g4 3 (by omega))⟩
theorem zn8 {S:Nat->Prop} {B:Nat} {w w':World} {o:Obj} {l:List (Ty × Ty)} {v v':Value} {vs:List Value} {t u:Ty} {At Au:Option Addr} {ct cu:Nat}(hS:∀g,S g->g<B)(hB:B<=w.heap.size)
  (o1:w.ownsRow B 52 8 v l.length vs)(k1:fs S w (LD l) vs)(ha:j_ S w t At)(hu:j_ S w u Au)(sI:(w.drew.alloc o).grownBy w' v.ownBlock)(ho:w'.ownsRow B 52 8 v' (l.length+1) (vs++(Hx t At ct++Hx u Au cu))):Kb S B w' (l++[(t,u)]) v'/\Below B w w':=by
 have hb:Below B w w':=Below.grown (((Cc B w).drew).alloc hB o) sI (by rw[size_alloc];show B<=w.heap.size+1;omega) (λk hk=>(s_ o1 k hk).1);have hk:∀g,S g->w'.heap[g]?=w.heap[g]?:=λg hg=>hb.block g (hS g hg);refine⟨⟨_,by rw[Cb];exact ho,?_⟩,hb⟩;rw[VW]
 exact fs.two (fs.al (λ_ h=>h) hk _ _ k1) (ha.al (λ_ h=>h) hk) (hu.al (λ_ h=>h) hk)
end Go.Proofs.YtfafilmklhnngaaGreatDoor
namespace Go.Proofs.YtfafilmklhnngaaGreatDoor
open Go.RowKit Lx Tx Go.Maps Go.WideMaps Go.Shelf
set_option maxRecDepth 100000
theorem owns_empty8 {w:World} {base b:Nat} {e:TypeId}(h:w.heap[b]?=some (.cells #[] e (0,0)))(hb:base<=b):w.ownsRow base e 8 (.slice (some ⟨b,0,none⟩) 0 0) 0 [] :=
 ⟨rfl,.inr ⟨b,0,#[],rfl,hb,h,BU _,by unfold maxLen;omega,rfl,rfl⟩⟩
theorem wpList_append_src {P:Program} {ops:Array Oper} {rest:List Oper} {o:Oper} {a:Act} {w:World} {Q:Exit->Act->World->Prop}(oV:o.guard=none)(s x:Operand)(t:TypeId)
  (ho:o.op=.call { callee:=.builtin .append,args:=#[s,x],argTypes:=#[t,t] })
  (N N2:Nat)(e:TypeId)(i:TypeInfo)(z:Value)(size bytes:Nat)(ht:P.underlying t=some (.slice e))(hi:P.info? e=some i)(hz:i.zero=some z)
  (hsize:i.size=size)(hby:i.bytes=bytes)(hzs:z.cells.size=size)(aA:0<size)
  (v u:Value)(n m:Nat)(xs ys:List Value)(hs:a.eval s=v)(hx:a.eval x=u)(hv:w.ownsRow N e size v n xs)(hu:w.ownsRow N2 e size u m ys)(h1:∀y∈ys,y.oneCell'=true)
  (h63:n+m<=maxLen)(hbytes:(n+m)*bytes<=140737488355328)(hN:N<=w.heap.size)
  (h:∀A c w',w'.ownsRow N e size (.slice A (n+m) c) (n+m) (xs++ys)->Below N w w'->wpList P ops Q rest (a.put o.dst (.slice A (n+m) c)) w'):wpList P ops Q (o::rest) a w:=by
 refine wpList_plain oV λK hK=>?_;rcases hu.2 with⟨rfl,rfl⟩|⟨g,cap,cur,rfl,_⟩
 ·have aC:=run_append_owned_none (P:=P) (w:=w) N t o.type e i size ht hi v n xs hv
  have hys:ys=[]:=List.length_eq_zero_iff.1 (by have:=hu.1;omega);subst hys;obtain⟨A,c,rfl⟩:=GS hv;have hk:=h A c w (by rw[CJ];exact hv) (Cc _ w);unfold Oper.wp execOp;simp only[ho,resolve,invoke,builtin,Sem.run_bind,Sem.run_pure,Result.andThen_ok,List.map_toArray,CA,List.map_nil,hs,hx,aC];exact hK _ _ hk
 ·obtain⟨v',w',hr,h2,h3,-,-⟩:=run_append_own_at (P:=P) (w:=w) N t o.type e i z size bytes ht hi hz hsize hby hzs aA v n xs hv ⟨g,0,none⟩ m cap ys hu.1
   (λj y hy=>hu.cells (g:=g) rfl j y hy) h1 h63 hbytes hN
  obtain⟨A,c,rfl⟩:=GS h2;have hk:=h A c w' h2 (Below.grown (Cc _ w) h3 hN (λk hk=>(hv.lt k hk).1));unfold Oper.wp execOp;simp only[ho,resolve,invoke,builtin,Sem.run_bind,Sem.run_pure,Result.andThen_ok,List.map_toArray,CA,List.map_nil,hs,hx,hr];exact hK _ _ hk
theorem Kb.below {S:Nat->Prop} {B:Nat} {w W:World} {l:List (Ty × Ty)} {v:Value}(h:Kb S B w l v)(hS:∀g,S g->g<w.heap.size)(hW:Below w.heap.size w W):Kb S B W l v:=by
 obtain⟨vs,h1,h2⟩:=h;exact⟨vs,FN h1 hW,fs.al (λ_ h=>h) (λg hg=>hW.block g (hS g hg)) _ _ h2⟩
theorem Ij.below {S:Nat->Prop} {B:Nat} {w W:World} {l:List (Nat × Ty)} {v:Value}(h:Ij S B w l v)(hS:∀g,S g->g<w.heap.size)(hW:Below w.heap.size w W):Ij S B W l v:=by
 obtain⟨vs,h1,h2⟩:=h;exact⟨vs,FN h1 hW,m_.al (λ_ h=>h) (λg hg=>hW.block g (hS g hg)) _ _ h2⟩
theorem flatP_app(a b:List (Ty × Ty)):LD (a++b)=LD a++LD b:=by unfold LD;rw[EG]
theorem fs.app {S:Nat->Prop} {w:World} {l':List Ty} {Te:List Value}(h':fs S w l' Te):(l:List Ty)->∀vs,fs S w l vs->fs S w (l++l') (vs++Te)
 |[],vs,h=>by
  rw[fs]at h;subst h;exact h'
 |t::r,vs,h=>by
  rw[fs]at h;obtain⟨A,c,rest,rfl,h1,h2⟩:=h;rw[Co,fs];exact⟨A,c,rest++Te,by rw[DC],h1,fs.app h' r rest h2⟩
theorem one_tyRow {S:Nat->Prop} {w:World} :(l:List Ty)->∀vs,fs S w l vs->∀y∈vs,y.oneCell'=true
 |[],vs,h=>by rw[fs]at h;subst h;intro y hy;cases hy
 |t::r,vs,h=>by
  rw[fs]at h;obtain⟨A,c,rest,rfl,h1,h2⟩:=h;intro y hy;rcases Cr.1 hy with hy|hy
  ·unfold Hx at hy
   simp at hy;rcases hy with rfl|rfl|rfl|rfl <;> rfl
  ·exact one_tyRow r rest h2 y hy
theorem eqsOf_take {l:List (Nat × Ty)} {i n:Nat} {t:Ty}(h:l[i]?=some (n,t)):eqsOf (l.take (i+1))=eqsOf (l.take i)++[(.mt n,t)]:=by
 unfold eqsOf;rw[D9,h,Dn];rfl
theorem eqsOf_len(l:List (Nat × Ty)):(eqsOf l).length=l.length:=by unfold eqsOf;rw[CE]
theorem szQ_app:(a b:List (Ty × Ty))->OJ (a++b)=OJ a+OJ b
 |[],b=>by rw[Cu,OJ];omega
 |(t,u)::r,b=>by rw[Co,OJ,OJ,szQ_app r b];omega
theorem szQ_eqs:(l:List (Nat × Ty))->(∀e∈l,e.2.size<=20000000000)->OJ (eqsOf l)<=20000000001*l.length
 |[],_=>Cw _
 |(n,t)::r,h=>by
  have h1:t.size<=20000000000:=h (n,t) (by simp);have h2:=szQ_eqs r λe he=>h e (by simp[he]);have e:eqsOf ((n,t)::r)=(.mt n,t)::eqsOf r:=rfl;rw[e,OJ,Ty.size,Ca]
  omega
theorem uc_again {S:Nat->Prop} {ts:List (Ty × Ty)} {l:List (Nat × Ty)} {A:Option Addr} {m c:Nat} {w:World}(hb:∀t u,(t,u)∈ts->Nm t/\Nm u/\t.size<=120/\u.size<=120)(h8:ts.length<=8)(hl:Hr l)(h:Hg S w (ts++eqsOf l) A)(hS:∀g,S g->g<w.heap.size)(hm:(ts++eqsOf l).length=m):Calls Tryz.prog 14 #[.slice A m c] w (Ib (ts++eqsOf l) w):=by
 have h24:=hl.len;have e1:=eqsOf_len l;have e2:(ts++eqsOf l).length=ts.length+l.length:=by rw[Cb,e1]
 subst hm;refine zjD S (ts++eqsOf l) A c w h hS (λt u ht=>?_) (by omega) ?_ zil
 ·rcases Cr.1 ht with ht|ht
  ·obtain⟨a,b,d,e⟩:=hb t u ht
   exact⟨a,b,by omega,by omega⟩
  ·unfold eqsOf at ht
   obtain⟨⟨n,t'⟩,he,e⟩:=Ct.1 ht;injection e with e1 e2;subst e1 e2;have aA:t'.size<=20000000000:=hl.size _ he;exact⟨.mt n (hl.num _ he),hl.nm _ he,by rw[Ty.size];omega,by show t'.size<=_;omega⟩
 ·have h1:=UW ts hb
  have h2:=szQ_eqs l hl.size;rw[szQ_app];omega
theorem Hr.tell {l:List (Nat × Ty)}(h:Hr l):l.length<=1000/\∀e∈l,e.1<=999999/\OV e.2:=by
 refine⟨by have:=h.len;omega,λe he=>⟨h.num e he,h.nm e he,?_,h.size e he,?_,?_⟩⟩
 ·rw[canon_mono _ (h.r_ e he)];exact h.nm e he
 ·rw[QE _ (h.r_ e he)];omega
 ·have:=h.free e he;omega
theorem rowE_app {S T:Nat->Prop} {B:Nat} {w:World} {l l':List (Ty × Ty)} {v:Value} {n:Nat} {vs Te:List Value}(h1:fs S w (LD l) vs)(h2:fs T w (LD l') Te)(hn:(l++l').length=n)(ho:w.ownsRow B 52 8 v n (vs++Te)):Kb (λg=>S g\/T g) B w (l++l') v:=by
 subst hn;refine⟨_,ho,?_⟩;rw[flatP_app];exact fs.app (fs.al (λ_ h=>.inr h) (λ_ _=>rfl) _ _ h2) _ _ (fs.al (λ_ h=>.inl h) (λ_ _=>rfl) _ _ h1)
end Go.Proofs.YtfafilmklhnngaaGreatDoor
