import Derived.Test.YtfafilmklhnngaaGreatDoorBsAN
import Derived.Test.YtfafilmklhnngaaGreatDoorBsAR
set_option maxHeartbeats 12800000
set_option maxRecDepth 100000
namespace Go.Proofs.YtfafilmklhnngaaGreatDoor
open Tryz
section
open Go.RowKit Lx Tx Go.Maps Go.WideMaps Go.Shelf
def IM(ts:List (Ty × Ty)):Prop:=∀t u,(t,u)∈ts->Nm t/\Nm u/\t.size<=120/\u.size<=120
theorem zgg:(ls:List (ByteArray × ByteArray))->∀ {o:Option (List (Ty × Ty) × Nat)} {ts:List (Ty × Ty)} {c:Nat},ls.foldl LU o=some (ts,c)->∃nG c0,o=some (nG,c0)/\ts.length=nG.length+ls.length/\(IM nG->IM ts)
 |[],o,ts,c,h=>⟨ts,c,h,rfl,id⟩
 |p::r,o,ts,c,h=>by
  rw[Ep]at h;obtain⟨xG,c1,h1,h2,h3⟩:=zgg r h;unfold LU at h1;split at h1
  ·rename_i nG c0 t u ht hu
   split at h1
   ·cases h1
   ·rename_i hn
    injection h1 with h1;injection h1 with h1 _;refine⟨nG,c0,rfl,?_,λh0=>h3 λa b bp=>?_⟩
    ·rw[h2,<-h1,Cb,Ca,Ca,CR];omega
    ·rw[<-h1]at bp
     rcases Cr.1 bp with bp|bp
     ·exact h0 a b bp
     ·rw[Cx]at bp
      injection bp with e1 e2;subst e1 e2;obtain⟨n1,-,s1,-⟩:=Sm _ _ ht;obtain⟨n2,-,s2,-⟩:=Sm _ _ hu;have l1:p.1.data.toList.length=p.1.size:=EI;have l2:p.2.data.toList.length=p.2.size:=EI;exact⟨n1,n2,by omega,by omega⟩
  ·cases h1
theorem zgh {ls:List (ByteArray × ByteArray)} {ts:List (Ty × Ty)}(h:Kk ls=some ts):ts.length=ls.length/\ls.length<=8/\IM ts:=by
 unfold Kk at h;split at h
 ·cases h
 ·rename_i h8
  cases hr:Hb ls with
  |none=>rw[hr]at h;cases h
  |some p =>
   rw[hr]at h;injection h with h;obtain⟨xG,c⟩:=p;have h:xG=ts:=h;subst h;obtain⟨nG,c0,h1,h2,h3⟩:=zgg ls hr;injection h1 with h1;injection h1 with h1 _;subst h1;exact⟨by simpa using h2,by omega,h3 λ_ _ h=>by cases h⟩
theorem UW:(ts:List (Ty × Ty))->IM ts->OJ ts<=240*ts.length
 |[],_=>Cw _
 |(t,u)::r,h=>by
  have h1:=h t u (by simp);have h2:=UW r λa b bp=>h a b (by simp[bp]);rw[Ca,OJ]
  omega
theorem zjJ {B:Nat} {S:Nat->Prop} {ts:List (Ty × Ty)} {A:Option Addr} {m c:Nat} {v2:Value} {w:World}(h:IL B S w ts (.slice A m c) v2)(iD:IM ts)(hl:ts.length<=8):Calls prog 14 #[.slice A m c] w (Ib ts w):=by
 obtain⟨h1,rfl⟩:=h.Jv;have hS:∀g,S g->g<w.heap.size:=by
  obtain⟨_,_,_,_,_,_,h5⟩:=h;exact λg hg=>(h5 g hg).2.1
 exact zjD S ts A c w h1 hS (λt u ht=>by obtain⟨a,b,d,e⟩:=iD t u ht;exact⟨a,b,by omega,by omega⟩) (by omega) (by have:=UW ts iD;omega) zil
end
section
open Go.RowKit Lx Tx Go.Maps Go.WideMaps Go.Shelf
set_option maxRecDepth 100000
theorem m_.at {S:Nat->Prop} {w:World} : {l:List (Nat × Ty)}->{vs:List Value}->m_ S w l vs->∀(j n:Nat)(t:Ty),l[j]?=some (n,t)->∃A c,j_ S w t A/\∀k,k<5->vs[j*5+k]? =(KW n t A c)[k]?
 |[],_,_,j,n,t,h=>by simp at h
 |x::r,vs,h,0,n,t,hj=>by
  simp at hj;subst hj;rw[m_]at h;obtain⟨A,c,rest,rfl,h2,-⟩:=h;refine⟨A,c,h2,λk hk=>?_⟩;rw[Nat.zero_mul,Dm,DK (show k<5 from hk)]
 |x::r,vs,h,j+1,n,t,hj=>by
  obtain⟨n0,t0⟩:=x;rw[m_]at h;obtain⟨A,c,rest,rfl,-,h3⟩:=h;obtain⟨A',c',h4,h5⟩:=m_.at h3 j n t (by simpa using hj);refine⟨A',c',h4,λk hk=>?_⟩;have e:(j+1)*5+k=5+(j*5+k):=by omega
  rw[e,Db (show 5<=5+(j*5+k) by omega)];show rest[5+(j*5+k)-5]?=_;rw[Dv];exact h5 k hk
theorem Ij.cells {S:Nat->Prop} {B:Nat} {w:World} {l:List (Nat × Ty)} {A:Option Addr} {m c:Nat}(h:Ij S B w l (.slice A m c)):m=l.length/\∀(i n:Nat) (t:Ty),l[i]?=some (n,t)->∃g At ct,A=some ⟨g,0,none⟩/\B<=g/\g<w.heap.size/\j_ S w t At /\
   w.cell? ⟨g,i*5,none⟩=some (.int .i64 (n:Nat))/\w.cell? ⟨g,i*5+1,none⟩=some (.int .i64 (kd t:Nat))/\w.cell? ⟨g,i*5+2,none⟩=some (.string (ER t))/\w.cell? ⟨g,i*5+3,none⟩=some (.int .i64 (nn t:Nat))/\w.cell? ⟨g,i*5+4,none⟩=some (.slice At (kids t).length ct):=by
 obtain⟨vs,h1,h2⟩:=h;have hm:m=l.length:=by
  obtain⟨a,q,e⟩:=GS h1;injection e
 refine⟨hm,λi n t hi=>?_⟩;obtain⟨At,ct,g1,g2⟩:=h2.at i n t hi;rcases h1.2 with⟨-,h0⟩|⟨g,cap,cur,e,hB,hg,-⟩
 ·rw[Cn h0]at hi
  cases hi
 ·injection e with e1 _ _
  subst e1;have hc:∀(j:Nat) (x:Value),vs[j]?=some x->w.cell? ⟨g,j,none⟩=some x:=λj x hx=>by
   have ay:=h1.cells (g:=g) rfl j x hx;have aN:(⟨g,0,none⟩:Addr).add j=⟨g,j,none⟩:=by unfold Addr.add;split <;> simp_all
   rwa [aN]at ay
  exact⟨g,At,ct,rfl,hB,(BV.1 hg).1,g1,hc _ _ (g2 0 (by omega)),hc _ _ (g2 1 (by omega)),hc _ _ (g2 2 (by omega)),hc _ _ (g2 3 (by omega)),hc _ _ (g2 4 (by omega))⟩
def zqm(l:List (Nat × Ty)):Prop:=l.length<=1000/\∀e∈l,e.1<=999999/\Nm e.2/\e.2.size<=1000000
theorem U0(n:Nat)(h:n<=999999):(dec n).length<=6:=Sl 20 6 n (by omega) (by omega)
def OV(t:Ty):Prop:=Nm t/\Nm t.Fa/\t.size<=20000000000/\t.E7<=1000000/\(Fu t).length<=1000000
theorem zq9 {t:Ty}(h:Nm t)(hs:t.size<=1000000):OV t:=⟨h,zm9 t h hs,by omega,by have:=Ov t;omega,by have:=SO t;omega⟩
theorem znJ(l:List (Nat × Ty))(h:∀e∈l,e.1<=999999/\OV e.2):(JE l).length<=900000000000*l.length:=by
 induction l with
 |nil=>simp[JE]
 |cons e l ih =>
  obtain⟨x,t⟩:=e;obtain⟨h1,h2,XG,h3,-,-⟩:=h _ Cs;have h1:x<=999999:=h1;have XG:Nm t.Fa:=XG;have h3:t.size<=20000000000:=h3;have h0:=U0 x h1;have h4:=ih (λe he=>h e (Cf _ he));have h5:=(OI t.Fa XG).1;have h6:t.Fa.size=t.size:=by rw[<-Q8];exact N6 _ _ _ _
  rw[JE];simp only[Ca,Cb];omega
def zrV(m:Nat)(l:List (Nat × Ty))(n:Nat)(w0:World)(gg:Nat)(vs vi:Value)(wr:World):Prop :=
 ∃i,gg=n-i/\vi=.int .i64 (i:Nat)/\i<=n/\vs=.string ⟨(dec m++JE (l.take i)).toArray⟩/\Below w0.heap.size w0 wr
theorem zpJ(m:Nat)(l:List (Nat × Ty))(S:Nat->Prop)(B:Nat)(v:Value)(w:World)(ht:FO w)(hv:Ij S B w l v)(hS:∀g,S g->g<w.heap.size)(hl:l.length<=1000/\∀e∈l,e.1<=999999/\OV e.2)(hm:m<=100):Calls prog 24 #[v,.int .i64 (m:Nat)] w λe w'=>e=.returned (.string ⟨(dec m++JE l).toArray⟩)/\Below w.heap.size w w':=by
 obtain⟨A,n,cp,rfl⟩:∃A n cp,v=.slice A n cp:=by
  obtain⟨vs,h1,-⟩:=hv;obtain⟨a,q,e⟩:=GS h1;exact⟨_,_,_,e⟩
 obtain⟨oO,gh⟩:=hv.cells;obtain⟨cR,ez⟩:=hl;have iP:=EP gh;have HS:=EP hS;have HL:=EP ez;have qz:=EP oO;have HT:=EP ht;have HD:=EP (λ(k:Nat) (hk:k<=999999) (W:World)=>zow k W (by omega));have hn6:n<=1000:=by omega
 clear gh hS ez oO ht hv cR;go_in;go_wp2_with fail;refine(HD.o m (by omega) _).mono ?_;rintro e w1 ⟨rfl,b1⟩;have oL:=U0 m (by omega);go_wp2_with fail;go_loopg [5,6] n (λgg vs vi wr=>zrV m l n w gg vs vi wr)
 case atStart=>exact⟨0,rfl,rfl,Cw _,by rw[CK,JE,CJ],b1⟩
 case round =>
  obtain⟨i,rfl,rfl,Fw,rfl,bG⟩:=hrel;have gV:=EP bG;have arw:=bG.size;clear bG b1;by_cases af:i<n
  ·have bP:i<l.length:=by rw[<-qz.o];exact af
   obtain⟨⟨x,t⟩,he⟩:∃e,l[i]?=some e:=⟨_,BY bP⟩;obtain⟨g,At,ct,rfl,-,hg,ha,c0,c1,c2,c3,c4⟩:=iP.o i x t he;obtain⟨hx,iW,sy,aW,sL,gO⟩:=HL.o _ (CG he);have hx:x<=999999:=hx;have iW:Nm t:=iW;have sy:Nm t.Fa:=sy;have aW:t.size<=20000000000:=aW;have sL:t.E7<=1000000:=sL;have gO:(Fu t).length<=1000000:=gO;have fu:JE (l.take (i+1))=JE (l.take i)++(59::(dec x++61::t.Fa.print)):=by
    rw[D9,he];exact zhe x t (l.take i)
   have hlen:=znJ (l.take i) (λe he=>HL.o e (List.mem_of_mem_take he));rw[DH]at hlen;have dN:=(OI t.Fa sy).1;have gP:t.Fa.size=t.size:=by rw[<-Q8];exact N6 _ _ _ _
   have hdx:=U0 x hx;have aG:nc S w t (.agg #[.int .i64 (kd t:Nat),.string (ER t),.int .i64 (nn t:Nat),.slice At (kids t).length ct]):=⟨At,ct,rfl,ha⟩;obtain⟨k5,aM⟩:∃k:Int,((kd t:Nat):Int)=k:=⟨_,rfl⟩;obtain⟨x5,ix⟩:∃k:ByteArray,ER t=k:=⟨_,rfl⟩;obtain⟨z5,xM⟩:∃k:Int,((nn t:Nat):Int)=k:=⟨_,rfl⟩;obtain⟨m5,fA⟩:∃k,(kids t).length=k:=⟨_,rfl⟩;rw[aM]at c1 aG;rw[ix]at c2 aG;rw[xM]at c3 aG;rw[fA]at c4 aG;have HC:=EP (λ(W:World) (hW:Below w.heap.size w W)=>znc t S _ W (aG.al (S':=S) (w':=W) (λ_ h=>h) (λg hg=>hW.block g (HS.o g hg))) (λg hg=>by have:=HS.o g hg;have:=hW.size;omega) iW (by omega) sL gO sy (HT.o.below hW));have HX:=EP (HD.o x hx);obtain⟨PS,TS⟩:∃PS:ByteArray,(⟨(dec m++JE (l.take i)).toArray⟩:ByteArray)=PS:=⟨_,rfl⟩;obtain⟨PX,TR⟩:∃PX:ByteArray,(⟨(dec x).toArray⟩:ByteArray)=PX:=⟨_,rfl⟩;obtain⟨PC,TT⟩:∃PC:ByteArray,(⟨t.Fa.print.toArray⟩:ByteArray)=PC:=⟨_,rfl⟩;have ar4:PS.size<=1000000000000000:=by
    rw[<-TS];show((dec m++JE (l.take i)).toArray).size<=_;rw[CY,Cb];have:min i l.length<=1000:=by omega
    omega
   have ar3:PX.size<=24:=by rw[<-TR];show(dec x).toArray.size<=_;rw[CY];omega
   have ar5:PC.size<=1000000000000:=by rw[<-TT];show t.Fa.print.toArray.size<=_;rw[CY];omega
   have bh:Hid (∀W:World,Below w.heap.size w W->(λW:World=>W.cell? ⟨g,i*5,none⟩=some (.int .i64 (x:Nat))/\W.cell? ⟨g,i*5+1,none⟩=some (.int .i64 k5)/\W.cell? ⟨g,i*5+2,none⟩=some (.string x5)/\W.cell? ⟨g,i*5+3,none⟩=some (.int .i64 z5)/\W.cell? ⟨g,i*5+4,none⟩=some (.slice At m5 ct)) W):=EP λW hW=>by
    have hc:∀j u,w.cell? ⟨g,j,none⟩=some u->W.cell? ⟨g,j,none⟩=some u:=λj u h=>(hW.cell (p:=⟨g,j,none⟩) hg).trans h;exact⟨hc _ _ c0,hc _ _ c1,hc _ _ c2,hc _ _ c3,hc _ _ c4⟩
   have pS:Hid ((⟨(dec m++JE (l.take (i+1))).toArray⟩:ByteArray)=(((PS++⟨#[59]⟩)++PX)++⟨#[61]⟩)++PC):=EP (by
    rw[fu,<-TS,<-TR,<-TT];simp[ByteArray.ext_iff])
   rw[TT]at HC;rw[TR]at HX;rw[TS];have B0:Hid (Below w.heap.size w wr.drew):=EP gV.o.drew;have av:¬9223372036854775807<PS.size+1:=by omega
   have aV:¬9223372036854775807<PS.size+1+PX.size:=by omega
   have jA:¬9223372036854775807<PS.size+1+PX.size+1:=by omega
   have dW:¬9223372036854775807<PS.size+1+PX.size+1+PC.size:=by omega
   clear hx iW sy aW sL gO fu hlen dN gP hdx aG c0 c1 c2 c3 c4 he ha aM ix xM fA TS TR TT bP hg;go_upto_region 5 with fail
   go_region_held3 (λW:World=>W.cell? ⟨g,i*5,none⟩=some (.int .i64 (x:Nat))/\W.cell? ⟨g,i*5+1,none⟩=some (.int .i64 k5)/\W.cell? ⟨g,i*5+2,none⟩=some (.string x5)/\W.cell? ⟨g,i*5+3,none⟩=some (.int .i64 z5)/\W.cell? ⟨g,i*5+4,none⟩=some (.slice At m5 ct)) (first|(with_reducible exact bh.o _ B0.o))
    ((first
     |((with_reducible refine(HC.o _ B0.o).mono ?_);rintro e w5 ⟨rfl,b5⟩;replace B0:=EP (B0.o.trans (b5.mono B0.o.size));clear b5)
     |((with_reducible refine(HX.o _).mono ?_);rintro e w5 ⟨rfl,b5⟩;replace B0:=EP (B0.o.trans (b5.mono B0.o.size));clear b5)))
   all_goals
    go_wp2_with fail;go_roundg (n-(i+1))
    case measure=>omega
    case rel=>exact⟨i+1,rfl,by go_num,by omega,by rw[pS.o],B0.o⟩
  ·have aJ:l.take i=l:=Cq (by rw[<-qz.o];omega)
   have HE:=EP aJ;clear aJ;go_wp2_with fail;go_ret
   rw[HE.o];exact⟨rfl,gV.o⟩
theorem zra(m:Nat)(l:List (Nat × Ty))(S:Nat->Prop)(B:Nat)(v:Value)(w:World)(ht:FO w)(hv:Ij S B w l v)(hS:∀g,S g->g<w.heap.size)(hl:zqm l)(hm:m<=100):Calls prog 24 #[v,.int .i64 (m:Nat)] w λe w'=>e=.returned (.string ⟨(dec m++JE l).toArray⟩)/\Below w.heap.size w w' :=
 zpJ m l S B v w ht hv hS ⟨hl.1,λe he=>⟨(hl.2 e he).1,zq9 (hl.2 e he).2.1 (hl.2 e he).2.2⟩⟩ hm
end
section
open Lx Tx
set_option maxRecDepth 100000
theorem QS(x:Name):(l:List Dt)->(Ko x l↔∃d∈l,k_ x d)
 |[]=>by rw[Ko];simp
 |t::r=>by rw[Ko,QS x r];simp
theorem zp4(s:Sb)(x:Name)(d:Dt):k_ x (ap s d)->k_ x d\/∃m,a_ m d/\k_ x (s m):=by
 induction d using Dt.ind with
 |hf y=>rw[JK];exact .inl
 |hb i=>rw[JX];exact .inl
 |hm j=>rw[Ge];exact λh=>.inr ⟨j,by rw[a_],h⟩
 |hc c l ih =>
  intro h;rw[Jj,k_,KL,QS]at h;obtain⟨u,hu,h⟩:=h;obtain⟨d,hd,rfl⟩:=Ct.1 hu;rcases ih d hd h with h|⟨m,h1,h2⟩
  ·exact .inl (by rw[k_,QS];exact⟨d,hd,h⟩)
  ·exact .inr ⟨m,by rw[a_,J2];exact⟨d,hd,h1⟩,h2⟩
 |hn a b dC dR =>
  intro h;rw[JJ,k_]at h;rcases h with h|h
  ·rcases dC h with h|⟨m,h1,h2⟩
   ·exact .inl (by rw[k_];exact .inl h)
   ·exact .inr ⟨m,by rw[a_];exact .inl h1,h2⟩
  ·rcases dR h with h|⟨m,h1,h2⟩
   ·exact .inl (by rw[k_];exact .inr h)
   ·exact .inr ⟨m,by rw[a_];exact .inr h1,h2⟩
 |ha t ih =>
  intro h;rw[Iw,k_]at h;rcases ih h with h|⟨m,h1,h2⟩
  ·exact .inl (by rw[k_];exact h)
  ·exact .inr ⟨m,by rw[a_];exact h1,h2⟩
def J6(P:Name->Prop)(d:Dt):Prop:=∀x,k_ x d->P x
theorem J6.ap {P:Name->Prop} {k:Sb} {d:Dt}(hd:J6 P d)(hk:∀n,J6 P (k n)):J6 P (ap k d):=by
 intro x hx;rcases zp4 k x d hx with h|⟨m,_,h⟩
 ·exact hd x h
 ·exact hk m x h
theorem zn0(P:Name->Prop)(n:Nat):J6 P (.mt n):=λx h=>by rw[k_]at h;exact h.elim
theorem zp5 {P:Name->Prop} {x y:Dt} {q:List (Dt × Dt)}(h:act x y=.push q)(hx:J6 P x)(hy:J6 P y):∀p∈q,J6 P p.1/\J6 P p.2:=by
 intro p hp;rcases N4 h with⟨c,u,v,rfl,rfl,_,rfl⟩|⟨a,b,c,d,rfl,rfl,rfl⟩|⟨a,b,rfl,rfl,rfl⟩
 ·exact⟨λn hn=>hx n (by rw[k_,QS];exact⟨_,(DA hp).1,hn⟩),λn hn=>hy n (by rw[k_,QS];exact⟨_,(DA hp).2,hn⟩)⟩
 ·simp at hp
  rcases hp with rfl|rfl
  ·exact⟨λn hn=>hx n (by rw[k_];exact .inl hn),λn hn=>hy n (by rw[k_];exact .inl hn)⟩
  ·exact⟨λn hn=>hx n (by rw[k_];exact .inr hn),λn hn=>hy n (by rw[k_];exact .inr hn)⟩
 ·simp at hp
  rw[hp];exact⟨λn hn=>hx n (by rw[k_];exact hn),λn hn=>hy n (by rw[k_];exact hn)⟩
theorem zrg(P:Name->Prop)(f:Nat):∀(E:List (Dt × Dt))(k k':Sb),Fc f E k=some (.inr k')->(∀p∈E,J6 P p.1/\J6 P p.2)->(∀n,J6 P (k n))->∀n,J6 P (k' n):=by
 induction f with
 |zero=>intro E k k' h;rw[Fc]at h;cases h
 |succ f ih =>
  intro E k k' h hE hk;cases E with
  |nil=>rw[Fc]at h;injection h with h;injection h with h;rw[<-h];exact hk
  |cons p r =>
   obtain⟨a,b⟩:=p;obtain⟨ha,hb⟩:=hE (a,b) Cs;simp only at ha hb;have ka:=ha.ap hk;have kb:=hb.ap hk;have hr:∀p∈r,J6 P p.1/\J6 P p.2:=λp hp=>hE p (Cf _ hp);rw[Fc]at h
   cases hq:act (ap k a) (ap k b) with
   |skip=>rw[hq]at h;exact ih r k k' h hr hk
   |FA=>rw[hq]at h;injection h with h;cases h
   |push q =>
    rw[hq]at h;exact ih (q++r) k k' h (λp hp=>(Cr.1 hp).elim (zp5 hq ka kb p) (hr p)) hk
   |Fs m t =>
    rw[hq]at h;simp only at h;by_cases gQ:bad m t=0
    ·rw[Ch gQ]at h
     have ht:J6 P t:=by
      rcases(OH hq).1 with⟨_,e⟩|⟨_,e⟩
      ·rw[e];exact kb
      ·rw[e];exact ka
     refine ih r _ k' h hr λn=>(hk n).ap λj=>?_;by_cases e:j=m
     ·rw[e,KG];exact ht
     ·rw[KH _ _ _ e];exact zn0 P j
    ·rw[Cg gQ]at h;injection h with h;cases h
mutual
theorem PU:(t:Ty)->∀env,(x_ (db env t)).length<=E8 t
 |.var x,env=>by
  rw[db];cases idx x env with
  |none=>simp[x_]
  |some i=>simp[x_]
 |.mt n,env=>by rw[db,x_,E8];exact BU _
 |.h_ c l,env=>by rw[db,x_,E8];exact ziz l env
 |.fn a b,env=>by rw[db,x_,E8,Cb];have:=PU a env;have:=PU b env;omega
 |.all x t,env=>by rw[db,x_,E8];have:=PU t (x::env);omega
theorem ziz:(l:List Ty)->∀env,(MR (Fz env l)).length<=I7 l
 |[],env=>by rw[Fz,MR];exact Cw _
 |t::r,env=>by rw[Fz,MR,I7,Cb];have:=PU t env;have:=ziz r env;omega
end
theorem zn1(n:Nat)(d:Dt):a_ n d->n∈x_ d:=by
 induction d using Dt.ind with
 |hf x=>intro h;rw[a_]at h;exact h.elim
 |hb i=>intro h;rw[a_]at h;exact h.elim
 |hm m=>intro h;rw[a_]at h;rw[x_,h];simp
 |hc c l ih =>
  intro h;rw[a_,J2]at h;obtain⟨u,hu,h⟩:=h;rw[x_,SA,D5];exact⟨u,hu,ih u hu h⟩
 |hn a b dC dR =>
  intro h;rw[a_]at h;rw[x_,Cr];exact h.imp dC dR
 |ha t ih=>intro h;rw[a_]at h;rw[x_];exact ih h
theorem zn2(ts:List (Ty × Ty))(t u:Ty):(F9 (Fy (ts++[(t,u)]))).length=(F9 (Fy ts)).length+((x_ (db [] t)).length+(x_ (db [] u)).length):=by
 unfold F9 Fy;rw[Dn,EG,Cb];simp
theorem ziA:(ls:List (ByteArray × ByteArray))->∀ {o:Option (List (Ty × Ty) × Nat)} {ts:List (Ty × Ty)} {c:Nat},ls.foldl LU o=some (ts,c)->∃nG c0,o=some (nG,c0)/\((F9 (Fy nG)).length<=c0/\c0<=24->(F9 (Fy ts)).length<=c/\c<=24)
 |[],o,ts,c,h=>⟨ts,c,h,id⟩
 |p::r,o,ts,c,h=>by
  rw[Ep]at h;obtain⟨xG,c1,h1,h3⟩:=ziA r h;unfold LU at h1;split at h1
  ·rename_i nG c0 t u ht hu
   split at h1
   ·cases h1
   ·rename_i hn
    injection h1 with h1;injection h1 with h1 h2;refine⟨nG,c0,rfl,λh0=>h3 ?_⟩;rw[<-h1,<-h2,zn2]
    have a1:=PU t [];have a2:=PU u [];omega
  ·cases h1
theorem zn3 {ls:List (ByteArray × ByteArray)} {ts:List (Ty × Ty)}(h:Kk ls=some ts):(F9 (Fy ts)).length<=24:=by
 unfold Kk at h;split at h
 ·cases h
 ·cases hr:Hb ls with
  |none=>rw[hr]at h;cases h
  |some p =>
   rw[hr]at h;injection h with h;obtain⟨xG,c⟩:=p;have h:xG=ts:=h;subst h;obtain⟨nG,c0,h1,h3⟩:=ziA ls hr;injection h1 with h1;injection h1 with h1 h2;subst h1 h2;have:=h3 ⟨BU _,Cw _⟩;omega
theorem zn4:(ts:List (Ty × Ty))->IM ts->L5 (Fy ts)<=120*ts.length+1
 |[],_=>BU _
 |(t,u)::r,h=>by
  obtain⟨_,_,h1,h2⟩:=h t u (by simp);have h3:=zn4 r λa b bp=>h a b (by simp[bp]);have e1:=NP t [];have e2:=NP u [];have e:Fy ((t,u)::r)=(db [] t,db [] u)::Fy r:=rfl;rw[e,L5,Ca]
  show max (sz (db [] t)) (sz (db [] u))+_<=_;omega
def K6(E:List (Dt × Dt)):List Name:=E.flatMap λp=>GC p.1 []++GC p.2 []
theorem zjX:(ts:List (Ty × Ty))->IM ts->(K6 (Fy ts)).length<=240*ts.length
 |[],_=>BU _
 |(t,u)::r,h=>by
  obtain⟨_,_,h1,h2⟩:=h t u (by simp);have h3:=zjX r λa b bp=>h a b (by simp[bp]);have e1:=NV [] t [];have e2:=NV [] u [];have e:Fy ((t,u)::r)=(db [] t,db [] u)::Fy r:=rfl;unfold K6 at h3 ⊢;rw[e,Ei,Cb,Cb,Ca]
  simp only[CR,Dm]at e1 e2 ⊢;omega
theorem zp6 {E:List (Dt × Dt)} {p:Dt × Dt}(hp:p∈E):J6 (·∈K6 E) p.1/\J6 (·∈K6 E) p.2:=by
 have h:∀x,x∈GC p.1 []++GC p.2 []->x∈K6 E:=λx hx=>D5.2 ⟨p,hp,hx⟩;exact⟨λx hx=>h x (CZ _ ((NY x p.1 []).2 (.inr hx))),λx hx=>h x (CP _ ((NY x p.2 []).2 (.inr hx)))⟩
theorem zl9 {α:Type} [DecidableEq α](x:α)(l:List α)(h:l.Nodup):(FJ x l).Nodup:=by
 unfold FJ;split
 ·exact h
 ·rename_i hx
  rw[DP];refine⟨h,by simp,λa ha b hb e=>?_⟩;rw[Cx]at hb;subst hb e;exact hx ha
mutual
theorem QM:(d:Dt)->∀out,out.Nodup->(GC d out).Nodup
 |.fv y,out,h=>by rw[GC];exact zl9 y out h
 |.bv _,out,h=>by rw[GC];exact h
 |.mt _,out,h=>by rw[GC];exact h
 |.h_ _ l,out,h=>by rw[GC];exact zfG l out h
 |.fn a b,out,h=>by rw[GC];exact QM b _ (QM a out h)
 |.all t,out,h=>by rw[GC];exact QM t out h
theorem zfG:(l:List Dt)->∀out,out.Nodup->(Ln l out).Nodup
 |[],out,h=>by rw[Ln];exact h
 |t::r,out,h=>by rw[Ln];exact zfG r _ (QM t out h)
end
theorem Wb {α:Type} :(l m:List α)->l.Nodup->(∀x∈l,x∈m)->l.length<=m.length
 |[],_,_,_=>Cw _
 |x::l,m,hn,h=>by
  obtain⟨s,t,rfl⟩:=List.append_of_mem (h x (by simp));rw[CO]at hn;have:=Wb l (s++t) hn.2 λy hy=>by
   have h1:=h y (by simp[hy]);have ai:y≠x:=λe=>hn.1 (e▸hy);simp only[Cr,Cd]at h1 ⊢;rcases h1 with h1|h1|h1
   ·exact .inl h1
   ·exact absurd h1 ai
   ·exact .inr h1
  simp only[Cb,Ca]at this ⊢;omega
theorem zp7(u:Ty):Fu u=GC (db [] u) []:=by
 rw[Sq];unfold Ty.free;rw[NQ [] [] (λ_=>Iff.rfl)]
theorem zp8 {u:Ty} {M:List Name}(h:J6 (·∈M) (db [] u)):(Fu u).length<=M.length:=by
 rw[zp7];refine Wb _ _ (QM _ [] Dr) λx hx=>h x ?_;rcases(NY x _ []).1 hx with h|h
 ·exact(CI h).elim
 ·exact h
mutual
theorem SL:(d:Dt)->(pw d).r_=false
 |.fv x=>by rw[pw,Ty.r_]
 |.bv _=>by rw[pw,Ty.r_]
 |.mt n=>by rw[pw,Ty.r_]
 |.h_ c l=>by rw[pw,Ty.r_];exact zhj l
 |.fn a b=>by rw[pw,Ty.r_,SL a,SL b];rfl
 |.all _=>by rw[pw,Ty.r_]
theorem zhj:(l:List Dt)->IU (NM l)=false
 |[]=>by rw[NM,IU]
 |t::r=>by rw[NM,IU,SL t,zhj r];rfl
end
structure Hr (l:List (Nat × Ty)):Prop where
 len:l.length<=24
 num:∀e∈l,e.1<=999999
 nm:∀e∈l,Nm e.2
 r_:∀e∈l,e.2.r_=false
 size:∀e∈l,e.2.size<=20000000000
 free:∀e∈l,(Fu e.2).length<=1920
structure OP (ts:List (Ty × Ty)):Prop where
 ok:IM ts
 len:ts.length<=8
 Mh:(F9 (Fy ts)).length<=24
theorem SJ {ls:List (ByteArray × ByteArray)} {ts:List (Ty × Ty)}(h:Kk ls=some ts):OP ts:=by
 obtain⟨hlen,h8,iD⟩:=zgh h;exact⟨iD,by omega,zn3 h⟩
theorem zp9 {ts:List (Ty × Ty)} {f:Nat} {k:Sb} {l:List (Nat × Ty)}(hr:OP ts)(h:Fc f (Fy ts) .mt=some (.inr k))(hT:Told k l):Hr l:=by
 obtain⟨iD,h8,iJ⟩:=hr;have hP:=zhf h hT λt u ht=>by obtain⟨a,b,_,_⟩:=iD t u ht;exact⟨a,b⟩
 have dj:2 ^(F9 (Fy ts)).length<=2 ^ 24:=EC (by omega) iJ;have aA:=zn4 ts iD;have hmul:L5 (Fy ts)*2 ^(F9 (Fy ts)).length<=961*2 ^ 24:=Ek (by omega) dj;have cL:∀e∈l,Plain (k e.1)/\e.2=pw (k e.1):=λe he=>by
  obtain⟨n,t⟩:=e;exact⟨(hP n t he).2.2.1,((hT.mem n t).1 he).2⟩
 have fC:=zrg (·∈K6 (Fy ts)) f _ _ _ h (λp hp=>zp6 hp) (λn=>zn0 _ n);refine⟨?_,λe he=>(hP e.1 e.2 he).1,λe he=>(hP e.1 e.2 he).2.1,λe he=>?_,λe he=>?_,λe he=>?_⟩
 ·have h1:=Wb (l.map (·.1)) (F9 (Fy ts)) hT.nodup λn hn=>by
   obtain⟨⟨m,t⟩,he,rfl⟩:=Ct.1 hn;refine Decidable.by_contra λhc=>((hT.mem m t).1 he).1 (Sx (·∈F9 (Fy ts)) f (Fy ts) .mt k h J0 (λp hp n hq=>?_) m hc rfl);rw[ML,ML]at hq
   refine D5.2 ⟨p,hp,?_⟩;rcases hq with hq|hq
   ·exact CZ _ (zn1 _ _ hq)
   ·exact CP _ (zn1 _ _ hq)
  rw[CE]at h1;omega
 ·rw[(cL e he).2]
  exact SL _
 ·obtain⟨_,_,_,_,h1,h2⟩:=hP e.1 e.2 he
  omega
 ·obtain⟨h1,h2⟩:=cL e he
  refine Cm (zp8 (M:=K6 (Fy ts)) ?_) (Cm (zjX ts iD) (by omega));rw[h2,RW _ h1];exact fC e.1
end
section
open Go.RowKit Lx Tx Go.Maps Go.WideMaps Go.Shelf
set_option maxRecDepth 100000
theorem Ij.nil(B:Nat)(w:World):Ij (λ_=>False) B w [] (.slice none 0 0):=⟨[],CM _ _ _ _,by rw[m_]⟩
theorem Ib.one {t u:Ty} {o:List UInt8} {w:World} {e:Ending} {w':World}(ho:Lh t u o)(hn:Nm t/\Nm u)(h:Ib [(t,u)] w e w'):∃m l T v,e=.returned (.tuple #[v,.int .i64 (m:Nat)])/\Ij T w.heap.size w' l v/\(∀g,T g->g<w'.heap.size)/\zqm l/\m<=100/\o=dec m++JE l/\Below w.heap.size w w':=by
 obtain⟨f,o1,hf,hb,⟨m,rfl,-,rfl⟩|⟨k,v,l,T,rfl,rfl,hK,hT,wS⟩⟩:=h
 ·refine⟨m,[],λ_=>False,_,rfl,Ij.nil _ _,λ_ h=>h.elim,⟨Cw _,λe he=>by cases he⟩,by have:=zkR f _ _ _ hf;omega,?_,hb⟩
  rw[JE,CJ];rcases ho with⟨g,n,h1,rfl⟩|⟨g,k,l,h1,-⟩
  ·have:=RZ hf h1;injection this with e;rw[e]
  ·have:=RZ hf h1;cases this
 ·rcases ho with⟨g,n,h1,-⟩|⟨g,k',l',h1,h2,h3,h4,rfl⟩
  ·have:=RZ hf h1;cases this
  ·have:=RZ hf h1
   injection this with e;subst e;obtain rfl:=hT.uniq h2;refine⟨0,l,T,v,rfl,hK,λg hg=>(wS g hg).2,⟨by omega,λe he=>?_⟩,by omega,rfl,hb⟩;obtain⟨n,x⟩:=e;obtain⟨a,b,-⟩:=zhf hf hT (λt' u' hm=>by simp at hm;rw[hm.1,hm.2];exact hn) n x he;exact⟨a,b,by have:=h4 _ he;omega⟩
theorem IL.shape {B:Nat} {S:Nat->Prop} {w:World} {ts:List (Ty × Ty)} {v1 v2:Value}(h:IL B S w ts v1 v2):∃A c,v1=.slice A ts.length c:=by
 obtain⟨gW,lD,h1,-⟩:=h;obtain⟨a,q,e⟩:=GS h1;exact⟨a,q,e⟩
theorem zrD(l r:ByteArray)(t u:Ty)(o:List UInt8)(R:ByteArray)(w:World)(ht:FO w)(hr:Kk [(l,r)]=some [(t,u)])(ho:Lh t u o)(hR:R=⟨o.toArray⟩)(hl:l.size<=maxLen/\r.size<=maxLen):Calls prog 30 #[.string l,.string r] w λe w'=>e=.returned (.string R)/\Below w.heap.size w w':=by
 obtain⟨W1,rz⟩:∃W,w.alloc (.cells #[.string l,.string r] 70)=W:=⟨_,rfl⟩;have jQ:Below w.heap.size w (w.alloc (.cells #[.string l,.string r] 70)):=(Cc _ _).alloc (BU _) _;have bD:Gb (w.alloc (.cells #[.string l,.string r] 70)) [(l,r)] (some ⟨w.heap.size,0,none⟩):=by
  intro i p hi;cases i with
  |zero =>
   simp at hi;subst hi;exact⟨⟨w.heap.size,0,none⟩,rfl,by simp,cell_of_row _ _ _ _ _ _ (BZ _ _),cell_of_row _ _ _ _ _ _ (BZ _ _)⟩
  |succ i=>simp at hi
 rw[rz]at jQ bD;have cg:=EP (Qo [(l,r)] _ 1 W1 bD (by intro p hp;simp at hp;rw[hp];exact hl));have B1:=EP jQ;have HW:=EP rz;have HT:=EP ht;have HR:=EP hr;have HO:=EP ho;have rM:=EP hR;clear ht hr ho hR hl bD jQ rz;go_in;go_wp2_with fail;rw[HW.o];refine cg.o.mono ?_;rintro e w1 ⟨b1,⟨h0,-⟩|⟨ts,v1,v2,S,jZ,rfl,hE⟩⟩
 ·rw[HR.o]at h0;cases h0
 rw[HR.o]at jZ;injection jZ with jZ;subst jZ;obtain⟨A,c,rfl⟩:=hE.shape;have WO:=zgh HR.o;have HS:=EP (zjJ hE WO.2.2 (by simp));have xi:=EP (WO.2.2 t u (by simp));have B2:Hid (Below w.heap.size w w1):=EP (B1.o.trans (b1.mono B1.o.size));clear b1 hE WO cg HW B1;go_wp2_with fail
 refine HS.o.mono ?_;rintro e w2 h2;obtain⟨m,l,T,v,rfl,hK,wS,Ae,hm,ho,b2⟩:=h2.one HO.o ⟨xi.o.1,xi.o.2.1⟩;have B3:Hid (Below w.heap.size w w2):=EP (B2.o.trans (b2.mono B2.o.size));have HTD:=EP (zra m l T _ v w2 (HT.o.below B3.o) hK wS Ae hm);have cS:=EP ho;clear h2 hK wS Ae ho b2 HS HO B2;go_wp2_with fail;refine HTD.o.mono ?_;rintro e w3 ⟨rfl,b3⟩;go_wp2_with fail;go_ret
 rw[rM.o,cS.o];exact⟨rfl,B3.o.trans (b3.mono B3.o.size)⟩
end
section
open Go.RowKit Lx Tx Go.Maps Go.WideMaps Go.Shelf
def UO(L R:ByteArray):Bool:=decide (L.size<=120)&&decide (R.size<=120)&&match parse L.data.toList,parse R.data.toList with
 |.ok t,.ok u=>decide (E8 t+E8 u<=24)
 |_,_=>false
theorem znK {L R:ByteArray} {t u:Ty}(hb:UO L R=true)(h1:parse L.data.toList=.ok t)(h2:parse R.data.toList=.ok u):Kk [(L,R)]=some [(t,u)]/\L.size<=120/\R.size<=120:=by
 unfold UO at hb;rw[h1,h2]at hb;simp only[EB,decide_eq_true_eq]at hb;obtain⟨⟨h3,h4⟩,h5⟩:=hb;refine⟨?_,h3,h4⟩;have:Hb [(L,R)]=some ([(t,u)],0+E8 t+E8 u):=by
  unfold Hb;rw[Ep,List.foldl_nil,zjG (p:=(L,R)) h1 h2 (show ¬120<L.size by omega) (show ¬120<R.size by omega),Cg (by omega)];rfl
 unfold Kk;rw[Cg (by simp),this];rfl
theorem Ol(L R O:ByteArray)(f:Nat)(ns:List Nat)(h:OR f ns L.data.toList R.data.toList=some O.data.toList)(hn:ns.Pairwise (· < ·))(hb:UO L R=true)(w:World)(ht:FO w):Calls prog 30 #[.string L,.string R] w λe w'=>e=.returned (.string O)/\Below w.heap.size w w':=by
 obtain⟨t,u,h1,h2,ho⟩:=zpI h hn;obtain⟨h3,h4,h5⟩:=znK hb h1 h2;exact zrD L R t u _ O w ht h3 ho (by simp) ⟨by unfold maxLen;omega,by unfold maxLen;omega⟩
theorem Vf(w:World)(ht:FO w):Calls prog 12 #[] w λe w'=>e=.returned (.bool true)/\Below w.heap.size w w':=by
 have HT:=EP ht;have H1:=EP (λw ht=>Ol { data:=#[63,49,32,45,62,32,63,50] } { data:=#[73,110,116,32,45,62,32,63,49] } { data:=#[48,59,49,61,73,110,116,59,50,61,73,110,116] } 20 [1,2] (by decide +kernel) (by decide) (by decide +kernel) w ht);have H2:=EP (λw ht=>Ol { data:=#[63,50] } { data:=#[63,49] } { data:=#[48,59,50,61,63,49] } 20 [1,2] (by decide +kernel) (by decide) (by decide +kernel) w ht);have H3:=EP (λw ht=>Ol { data:=#[63,49] } { data:=#[84,32,63,49] } { data:=#[52,49] } 20 [1] (by decide +kernel) (by decide) (by decide +kernel) w ht);have H4:=EP (λw ht=>Ol { data:=#[63,49] } { data:=#[102,111,114,97,108,108,32,97,46,32,97] } { data:=#[52,50] } 20 [1] (by decide +kernel) (by decide) (by decide +kernel) w ht);have H5:=EP (λw ht=>Ol { data:=#[97] } { data:=#[98] } { data:=#[52,48] } 20 [] (by decide +kernel) (by decide) (by decide +kernel) w ht);have H6:=EP (λw ht=>Ol { data:=#[102,111,114,97,108,108,32,97,46,32,97,32,45,62,32,63,49] } { data:=#[102,111,114,97,108,108,32,98,46,32,98,32,45,62,32,98] } { data:=#[52,51] } 20 [1] (by decide +kernel) (by decide) (by decide +kernel) w ht);have H7:=EP (λw ht=>Ol { data:=#[102,111,114,97,108,108,32,97,46,32,63,49,32,45,62,32,97] } { data:=#[102,111,114,97,108,108,32,98,46,32,73,110,116,32,45,62,32,98] } { data:=#[48,59,49,61,73,110,116] } 20 [1] (by decide +kernel) (by decide) (by decide +kernel) w ht);clear ht;go_in;go_wp2_with fail;refine(H1.o _ HT.o).mono ?_;rintro e w1 ⟨rfl,b1⟩;have B1:Hid (Below w.heap.size w w1):=EP b1;clear b1 H1;go_wp2_with fail;refine(H2.o _ (HT.o.below B1.o)).mono ?_;rintro e w2 ⟨rfl,b2⟩;have B2:Hid (Below w.heap.size w w2):=EP (B1.o.trans (b2.mono B1.o.size));clear b2 H2;go_wp2_with fail;refine(H3.o _ (HT.o.below B2.o)).mono ?_;rintro e w3 ⟨rfl,b3⟩;have B3:Hid (Below w.heap.size w w3):=EP (B2.o.trans (b3.mono B2.o.size));clear b3 H3;go_wp2_with fail;refine(H4.o _ (HT.o.below B3.o)).mono ?_;rintro e w4 ⟨rfl,b4⟩;have B4:Hid (Below w.heap.size w w4):=EP (B3.o.trans (b4.mono B3.o.size));clear b4 H4;go_wp2_with fail;refine(H5.o _ (HT.o.below B4.o)).mono ?_;rintro e w5 ⟨rfl,b5⟩;have B5:Hid (Below w.heap.size w w5):=EP (B4.o.trans (b5.mono B4.o.size));clear b5 H5;go_wp2_with fail;refine(H6.o _ (HT.o.below B5.o)).mono ?_;rintro e w6 ⟨rfl,b6⟩;have B6:Hid (Below w.heap.size w w6):=EP (B5.o.trans (b6.mono B5.o.size));clear b6 H6;go_wp2_with fail;refine(H7.o _ (HT.o.below B6.o)).mono ?_;rintro e w7 ⟨rfl,b7⟩;have B7:Hid (Below w.heap.size w w7):=EP (B6.o.trans (b7.mono B6.o.size));clear b7 H7;go_wp2_with fail;go_ret
 exact⟨rfl,B7.o⟩
end
end Go.Proofs.YtfafilmklhnngaaGreatDoor
