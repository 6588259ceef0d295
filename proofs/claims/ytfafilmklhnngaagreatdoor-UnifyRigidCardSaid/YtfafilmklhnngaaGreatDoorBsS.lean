import Derived.Test.YtfafilmklhnngaaGreatDoorBsR
import Derived.Test.YtfafilmklhnngaaGreatDoorBsO
set_option maxHeartbeats 12800000
set_option maxRecDepth 100000
namespace Go.Proofs.YtfafilmklhnngaaGreatDoor
open Tryz
section
open Go.RowKit Lx Tx Go.Maps Go.WideMaps
section
variable {σ:Type}
def I_(env:List Name):List (Name × Nat):=env.map λx=>(x,1)
theorem zmU(x:Name)(env:List Name):look x (I_ env)=if x∈env then some 1 else none:=by
 induction env with
 |nil=>rfl
 |cons y r ih =>
  show(if y=x then some 1 else look x (I_ r))=_;rw[ih];by_cases h:y=x
  ·rw[Ch h,Ch (by rw[h];exact Cs)]
  ·rw[Cg h]
   by_cases h2:x∈r
   ·rw[Ch h2,Ch (Cf _ h2)]
   ·rw[Cg h2,Cg (λe=>by rcases Cd.1 e with e|e;exact h e.symm;exact h2 e)]
def Gx(env:List Name):Ty->List Name
 |.all x _=>x::env
 |_=>env
mutual
def Hp(fc fl:List Name->Ty->σ->σ)(env:List Name):Ty->σ->σ
 |.var x,s=>fl env (.var x) (fc env (.var x) s)
 |.mt n,s=>fl env (.mt n) (fc env (.mt n) s)
 |.h_ c l,s=>fl env (.h_ c l) (Fm fc fl env l (fc env (.h_ c l) s))
 |.fn a b,s=>fl env (.fn a b) (Hp fc fl env b (Hp fc fl env a (fc env (.fn a b) s)))
 |.all x t,s=>fl env (.all x t) (Hp fc fl (x::env) t (fc env (.all x t) s))
def Fm(fc fl:List Name->Ty->σ->σ)(env:List Name):List Ty->σ->σ
 |[],s=>s
 |t::r,s=>Fm fc fl env r (Hp fc fl env t s)
end
theorem zo2(fc fl:List Name->Ty->σ->σ)(env:List Name)(t:Ty)(s:σ):Hp fc fl env t s=fl env t (Fm fc fl (Gx env t) (kids t) (fc env t s)):=by
 cases t <;> rw[Hp,kids] <;> simp[Fm,Gx]
theorem zmV(fc fl:List Name->Ty->σ->σ)(env:List Name)(l:List Ty)(t:Ty)(s:σ):Fm fc fl env (l++[t]) s=Hp fc fl env t (Fm fc fl env l s):=by
 induction l generalizing s with
 |nil=>rw[Cu,Fm,Fm,Fm]
 |cons a r ih=>rw[Co,Fm,Fm,ih]
structure Inv (I:Nat->σ->(Nat->Prop)->World->Prop):Prop where
 mono:∀c c' s M w,I c s M w->c<=c'->I c' s M w
 lt:∀c s M w,I c s M w->∀g,M g->g<w.heap.size
 al:∀c s M w w',I c s M w->w.heap.size<=w'.heap.size->(∀g,M g->w'.heap[g]?=w.heap[g]?)->I c s M w'
def Oa(k:Nat)(dh:Array Value)(mb:Nat)(I:Nat->σ->(Nat->Prop)->World->Prop)(f:List Name->Ty->σ->σ):Prop :=
 ∀(c:Nat) (s:σ) (M:Nat->Prop) (env:List Name) (t:Ty) (S:Nat->Prop) (v:Value) (w:World),
  I c s M w->iT mkInt w mb (I_ env)->¬M mb->nc S w t v->(∀g,S g->g<w.heap.size/\¬M g)->Nm t->t.size<=1000000000000->c<8000000000000 ->
  Calls prog k (#[v]++dh) w λe w'=>e=.returned (.tuple #[])/\∃M',I (c+1) (f env t s) M' w'/\(∀g,M' g->M g\/w.heap.size<=g)/\b_ M w w'
def FL(k:Nat)(dh:Array Value):Value:=.func (.func k) #[] dh
def OX(mb:Nat)(I:Nat->σ->(Nat->Prop)->World->Prop)(env:List Name)(c:Nat)(s:σ)(M:Nat->Prop)(w:World)(e:Ending)(w':World):Prop :=
 e=.returned (.tuple #[])/\∃M',I c s M' w'/\iT mkInt w' mb (I_ env)/\(∀g,M' g->M g\/w.heap.size<=g)/\b_ (λg=>M g\/g=mb) w w'
def OU(k:Nat)(dh:Array Value)(mb:Nat)(I:Nat->σ->(Nat->Prop)->World->Prop)(pl:List Name->Ty->σ->Prop)(f:List Name->Ty->σ->σ):Prop :=
 ∀(c:Nat) (s:σ) (M:Nat->Prop) (env:List Name) (t:Ty) (S:Nat->Prop) (v:Value) (w:World),
  I c s M w->iT mkInt w mb (I_ env)->¬M mb->nc S w t v->(∀g,S g->g<w.heap.size/\¬M g)->Nm t->t.size<=1000000000000->c<8000000000000->pl env t s ->
  Calls prog k (#[v]++dh) w λe w'=>e=.returned (.tuple #[])/\∃M',I (c+1) (f env t s) M' w'/\(∀g,M' g->M g\/w.heap.size<=g)/\b_ M w w'
theorem Oa.p {k:Nat} {dh:Array Value} {mb:Nat} {I:Nat->σ->(Nat->Prop)->World->Prop} {f:List Name->Ty->σ->σ}(h:Oa k dh mb I f)(pl:List Name->Ty->σ->Prop):OU k dh mb I pl f :=
 λc s M env t S v w h1 h2 h3 h4 h5 h6 h7 h8 _=>h c s M env t S v w h1 h2 h3 h4 h5 h6 h7 h8
inductive Mi (pl:List Name->Ty->σ->Prop) (fc fl:List Name->Ty->σ->σ):List Name->Ty->σ->Prop
 |mk (env:List Name) (t:Ty) (s:σ) (hk:∀i u,(∃hi:i<(kids t).length,(kids t)[i]=u)->Mi pl fc fl (Gx env t) u (Fm fc fl (Gx env t) ((kids t).take i) (fc env t s)))
   (hp:pl env t (Fm fc fl (Gx env t) (kids t) (fc env t s))):Mi pl fc fl env t s
def Ue(pl:List Name->Ty->σ->Prop)(fc fl:List Name->Ty->σ->σ)(env:List Name)(t:Ty)(s:σ):Prop :=
 ∀i u,(∃hi:i<(kids t).length,(kids t)[i]=u)->Mi pl fc fl (Gx env t) u (Fm fc fl (Gx env t) ((kids t).take i) s)
theorem Mi.inn {pl:List Name->Ty->σ->Prop} {fc fl:List Name->Ty->σ->σ} {env:List Name} {t:Ty} {s:σ}(h:Mi pl fc fl env t s):Ue pl fc fl env t (fc env t s):=by
 cases h with
 |mk _ _ _ hk _=>exact hk
theorem Mi.left {pl:List Name->Ty->σ->Prop} {fc fl:List Name->Ty->σ->σ} {env:List Name} {t:Ty} {s:σ}(h:Mi pl fc fl env t s):pl env t (Fm fc fl (Gx env t) (kids t) (fc env t s)):=by
 cases h with
 |mk _ _ _ _ hp=>exact hp
theorem zqP(fc fl:List Name->Ty->σ->σ)(n:Nat):∀(t:Ty)(env:List Name)(s:σ),t.size<=n->Mi (λ_ _ _=>True) fc fl env t s:=by
 induction n with
 |zero=>intro t env s h;rw[Gv]at h;omega
 |succ n ih =>
  intro t env s h;refine .mk _ _ _ (λi u hu=>ih u _ _ ?_) trivial;obtain⟨hi,rfl⟩:=hu;have:=Vu t i hi;omega
def Pq(n:Nat)(kc kl:Nat)(cc cl:Array Value)(mb:Nat)(I:Nat->σ->(Nat->Prop)->World->Prop)(F:Nat)(wf:List Name->Ty->σ->Prop)(th:List Name->Ty->σ->σ)(d:Nat):Prop :=
 ∀(c:Nat) (s:σ) (M:Nat->Prop) (env:List Name) (t:Ty) (S:Nat->Prop) (v:Value) (w:World),t.size<=n->n<=1000000000000 ->
  I c s M w->iT mkInt w mb (I_ env)->¬M mb->nc S w t v->(∀g,S g->g<w.heap.size/\¬M g/\g≠mb)->Nm t->c+2*t.size<=8000000000000+d->env.length+t.size<=50000000000000->wf env t s ->
  Calls prog F #[v,.map (some mb),FL kc cc,FL kl cl] w (OX mb I env (c+2*t.size-d) (th env t s) M w)
end
theorem zlB {σ:Type}(n kc kl:Nat)(cc cl:Array Value)(mb:Nat)(I:Nat->σ->(Nat->Prop)->World->Prop)(pl:List Name->Ty->σ->Prop)(fc fl:List Name->Ty->σ->σ)(hI:Inv I)
  (ec:∀args w,(callFunc kc args).run prog w=.ok (.enter kc args) w)(el:∀args w,(callFunc kl args).run prog w=.ok (.enter kl args) w)
  (HC:Oa kc cc mb I fc)(HL:OU kl cl mb I pl fl)
  (HA:Pq n kc kl cc cl mb I 152 (Ue pl fc fl) (λenv t s=>Fm fc fl (Gx env t) (kids t) s) 2):Pq n kc kl cc cl mb I 108 (Mi pl fc fl) (Hp fc fl) 0:=by
 intro c s M env t S v w hn h6 hi hm bI hv hS aw hc hlen nZ;have HWK:=EP nZ.inn;have HWL:=EP nZ.left;clear nZ;obtain⟨K,X,Z,A,m,cp,rfl,-,-,-,-,-⟩:=hv.parts;have dK:=hm.lt;have jZ:1<=t.size:=by rw[Gv];omega
 have HV:=EP hv;have HI:=EP hi;have HM:=EP hm;have HS:=EP hS;have au:=EP (hI.lt c s M w hi);have cf:=EP (hI.al c s M w (w.alloc (.cells #[.int .i64 K,.string X,.int .i64 Z,.slice A m cp] 37)) hi (by simp) (λg hg=>BX _ _ _ (hI.lt c s M w hi g hg)));have aT:=EP (hm.al (w':=w.alloc (.cells #[.int .i64 K,.string X,.int .i64 Z,.slice A m cp] 37)) (BX _ _ _ dK));have di:Hid (nc S (w.alloc (.cells #[.int .i64 K,.string X,.int .i64 Z,.slice A m cp] 37)) t (.agg #[.int .i64 K,.string X,.int .i64 Z,.slice A m cp])):=EP (hv.al (λ_ h=>h) (λg hg=>BX _ _ _ (hS g hg).1));have rV:=EP bI;have bQ:=EP aw;have HN:=EP hn;clear hi hm bI hv hS aw hn;unfold FL;go_in;go_wp2_with fail;refine(HC c s M env t S _ _ cf.o aT.o rV.o di.o (λg hg=>⟨by have:=HS.o g hg;simp;omega,(HS.o g hg).2.1⟩) bQ.o (by have:=HN.o;omega) (by omega)).mono ?_;rintro e w1 ⟨rfl,M1,i1,jC,b1⟩;have aH:=b1.size;simp at aH;have hq:¬M1 w.heap.size:=λh=>by
  rcases jC _ h with h|h
  ·exact absurd (au.o _ h) (Nat.lt_irrefl _)
  ·simp at h;omega
 have aq:=ar.iF (BZ w (.cells #[.int .i64 K,.string X,.int .i64 Z,.slice A m cp] 37)) b1 (λh=>absurd (au.o _ h) (Nat.lt_irrefl _));obtain⟨p0,p1,p2,p3,s0,s1,s2,s3,dp⟩:=n_ aq;have rD:Hid (∀g,M1 g->M g\/w.heap.size+1<=g):=EP λg hg=>by have:=jC g hg;simpa using this
 have iu:=EP aq;have I1:=EP i1;have pE:Hid (∀g,S g->g<w1.heap.size/\¬M1 g/\g≠mb):=EP λg hg=>by
  obtain⟨x1,x2,x3⟩:=HS.o g hg;refine⟨by omega,λh=>?_,x3⟩;rcases rD.o g h with h|h
  ·exact x2 h
  ·omega
 have iG:Hid (¬M1 mb):=EP λh=>by
  rcases rD.o mb h with h|h
  ·exact rV.o h
  ·omega
 have fO:=EP (di.o.al (λ_ h=>h) (λg hg=>b1.block g (by have:=HS.o g hg;simp;omega) (HS.o g hg).2.1));have dP:=EP (aT.o.al (b1.block mb (by simp;omega) rV.o));have C1:=EP ((((b_.refl M w).alloc (.cells #[.int .i64 K,.string X,.int .i64 Z,.slice A m cp] 37)).trans b1));clear b1 i1 jC aq cf aT di;go_wp2_with fail;have hA:=HA (c+1) (fc env t s) M1 env t S _ w1 HN.o h6 I1.o dP.o iG.o fO.o pE.o bQ.o (by omega) hlen HWK.o;unfold FL at hA;refine hA.mono ?_;rintro e w2 ⟨rfl,M2,i2,m2,lW,b2⟩;have aZ:=b2.size;have aq:=iu.o.iF b2 (λh=>by rcases h with h|h;exact hq h;omega);obtain⟨p0,p1,p2,p3,s0,s1,s2,s3,um⟩:=n_ aq;have rC:Hid (∀g,M2 g->M g\/w.heap.size+1<=g):=EP λg hg=>by
  rcases lW g hg with h|h
  ·exact rD.o g h
  ·exact .inr (by omega)
 have I2:=EP i2;have fo:=EP m2;have yQ:Hid (¬M2 mb):=EP λh=>by
  rcases rC.o mb h with h|h
  ·exact rV.o h
  ·omega
 have pD:Hid (∀g,S g->g<w2.heap.size/\¬M2 g):=EP λg hg=>by
  obtain⟨x1,x2,x3⟩:=HS.o g hg;refine⟨by omega,λh=>?_⟩;rcases rC.o g h with h|h
  ·exact x2 h
  ·omega
 have l7:=EP (fO.o.al (λ_ h=>h) (λg hg=>b2.block g (pE.o g hg).1 (λh=>by rcases h with h|h;exact(pE.o g hg).2.1 h;exact(pE.o g hg).2.2 h)));have C2:=EP ((C1.o.mono (λ_ _ h=>Or.inl h)).trans' b2 (M:=λg=>M g\/g=mb) (λg hg h=>by
  rcases h with h|h
  ·rcases rD.o g h with h|h
   ·exact .inl h
   ·omega
  ·exact .inr h))
 clear b2 i2 m2 lW aq hA;go_wp2_with fail;refine(HL (c+1+2*t.size-2) _ M2 env t S _ w2 I2.o fo.o yQ.o l7.o pD.o bQ.o (by have:=HN.o;omega) (by omega) HWL.o).mono ?_;rintro e w3 ⟨rfl,M3,i3,hM3,b3⟩;have dy:=b3.size;have I3:=EP i3;have Bj:=EP (fo.o.al (b3.block mb fo.o.lt yQ.o));have C3:=EP (C2.o.trans' b3 (λg hg h=>by
  rcases rC.o g h with h|h
  ·exact .inl h
  ·omega))
 have ZB:Hid (∀g,M3 g->M g\/w.heap.size<=g):=EP λg hg=>by
  rcases hM3 g hg with h|h
  ·rcases rC.o g h with h|h
   ·exact .inl h
   ·exact .inr (by omega)
  ·exact .inr (by omega)
 clear b3 i3 hM3;go_wp2_with fail;first|go_end0|refine Ce (CQ rfl _ _ _) rfl ?_
 refine⟨rfl,M3,?_,Bj.o,ZB.o,C3.o⟩;have:=I3.o;rw[zo2,show c+2*t.size-0=c+1+2*t.size-2+1 by omega];exact this
end
section
open Go.RowKit Lx Tx Go.Maps Go.WideMaps
set_option maxRecDepth 100000
theorem J4 {t:Ty}(h:Nm t):(ER t).size<=24:=by
 have key:∀k x,Gd k x->k<=2->(⟨x.toArray⟩:ByteArray).size<=24:=by
  intro k x h hk;obtain⟨h1,h2,h3⟩:=h;show x.length<=24;cases x with
  |nil=>exact absurd rfl h1
  |cons c r =>
   rw[first]at h2;split at h2
   ·unfold word at h2
    split at h2
    ·injection h2 with a _;omega
    ·injection h2 with _ b;omega
   ·split at h2
    ·exfalso
     rcases KV (c::r) with e|⟨e,_,_⟩ <;> rw[e]at h2 <;> injection h2 with a _ <;> omega
    ·split at h2
     ·exfalso
      unfold JZ at h2;split at h2 <;> injection h2 with a _ <;> omega
     ·exfalso
      unfold sign at h2;split at h2
      ·injection h2 with a _;omega
      ·split at h2 <;> injection h2 with a _ <;> omega
 cases h with
 |var x h=>exact key 1 x h (by decide)
 |mt n _=>exact Cw _
 |h_ c l h _=>exact key 2 c h (by decide)
 |fn a b _ _=>exact Cw _
 |all x t h _=>exact key 1 x h (by decide)
section
variable {σ:Type}
def zqg(mb m:Nat)(I:Nat->σ->(Nat->Prop)->World->Prop)(fc fl:List Name->Ty->σ->σ)(env:List Name)(l:List Ty)(c:Nat)(s:σ)(M:Nat->Prop)(B:Nat)(w0:World)(gg:Nat)(vi:Value)(wr:World):Prop :=
 ∃i M',gg=m-i/\vi=.int .i64 (i:Nat)/\i<=m/\I (c+2*q_ (l.take i)) (Fm fc fl env (l.take i) s) M' wr/\iT mkInt wr mb (I_ env)/\(∀g,M' g->M g\/B<=g)/\b_ (λg=>M g\/g=mb) w0 wr
theorem zlC(l:List Ty)(t:Ty):q_ (l++[t])=q_ l+t.size:=by
 induction l with
 |nil=>simp[q_]
 |cons a r ih=>rw[Co,q_,q_,ih];omega
theorem OE(l:List Ty)(i:Nat)(u:Ty)(hu:∃hi:i<l.length,l[i]=u):q_ (l.take (i+1))=q_ (l.take i)+u.size:=by
 obtain⟨hi,rfl⟩:=hu;rw[OC l i hi,zlC]
theorem OA(l:List Ty)(i:Nat):q_ (l.take i)<=q_ l:=by
 induction l generalizing i with
 |nil=>simp
 |cons t r ih =>
  cases i with
  |zero=>simp[q_]
  |succ i=>rw[CX,q_,q_];have:=ih i;omega
theorem zhW(fc fl:List Name->Ty->σ->σ)(env:List Name)(l:List Ty)(i:Nat)(u:Ty)(s:σ)(hu:∃hi:i<l.length,l[i]=u):Fm fc fl env (l.take (i+1)) s=Hp fc fl env u (Fm fc fl env (l.take i) s):=by
 obtain⟨hi,rfl⟩:=hu;rw[OC l i hi,zmV]
end
theorem zhu {σ:Type}(n kc kl:Nat)(cc cl:Array Value)(mb:Nat)(I:Nat->σ->(Nat->Prop)->World->Prop)(pl:List Name->Ty->σ->Prop)(fc fl:List Name->Ty->σ->σ)(hI:Inv I)
  (HT:Pq n kc kl cc cl mb I 108 (Mi pl fc fl) (Hp fc fl) 0):Pq (n+1) kc kl cc cl mb I 152 (Ue pl fc fl) (λenv t s=>Fm fc fl (Gx env t) (kids t) s) 2:=by
 intro c s M env t S v w hn h6 hi hm bI hv hS aw hc hlen nZ;unfold Ue at nZ;obtain⟨K,X,Z,A,m,cp,rfl,hK,hX,-,cG,ha⟩:=hv.parts;have dK:=hm.lt;have lI:q_ (kids t)+1=t.size:=by rw[Gv t]
 have au:=EP (hI.lt c s M w hi);have cf:=EP (hI.al c s M w (w.alloc (.cells #[.int .i64 K,.string X,.int .i64 Z,.slice A m cp] 37)) hi (by simp) (λg hg=>BX _ _ _ (hI.lt c s M w hi g hg)));have aT:=EP (hm.al (w':=w.alloc (.cells #[.int .i64 K,.string X,.int .i64 Z,.slice A m cp] 37)) (BX _ _ _ dK));have dI:m<=n:=by have:=LF t;omega
 have HA:=EP ha;have eT:=EP cG;have HS:=EP hS;have rV:=EP bI;have HN:=EP hn;have ej:Hid (∀i (hi:i<(kids t).length),Nm (kids t)[i]):=EP λi hi=>Mc aw i hi;by_cases aM:kd t=5
 ·have d5:((K:Int)==5)=true:=by rw[hK,aM];rfl
  have HX:=EP (show(ER t).size<=24 from J4 aw);have jy:Gx env t=X.data.toList::env:=by
   rw[hX];cases t with
   |all x u=>rfl
   |var x=>simp[kd]at aM
   |mt x=>simp[kd]at aM
   |h_ x u=>simp[kd]at aM
   |fn x u=>simp[kd]at aM
  have bA:X.size<=24:=by rw[hX];exact HX.o
  show Calls _ _ _ _ (OX mb I env (c+2*t.size-2) (Fm fc fl (Gx env t) (kids t) s) M w);rw[jy];rw[jy]at nZ;have X7:=EP nZ;clear nZ;have e9:=EP aT.o.canon;have hCV:=Vr mb (I_ env) X 1 1 rfl (w.alloc (.cells #[.int .i64 K,.string X,.int .i64 Z,.slice A m cp] 37)) aT.o (by unfold maxLen;omega) (by unfold I_;simp;omega);have vR:=EP hCV;clear hK hX cG ha hS bI hn aw hv hi hm aM jy hCV HX;unfold FL;go_enter_defers func152,ntmps152;go_wp2_with fail;refine vR.o.mono ?_;rintro e w1 ⟨rfl,ni,gX,b1⟩;have aH:=b1.size;simp at aH;have e1:(w.alloc (.cells #[.int .i64 K,.string X,.int .i64 Z,.slice A m cp] 37)).heap.size=w.heap.size+1:=by simp
  rw[e1]at ni;unfold RT;rw[e1];have nW:=EP ni;have MPA:=EP gX;have dN:=ni.2.2.2.lt;have aq:=ar.iF (BZ w (.cells #[.int .i64 K,.string X,.int .i64 Z,.slice A m cp] 37)) b1 (by unfold only;omega);obtain⟨p0,p1,p2,p3,s0,s1,s2,s3,dp⟩:=n_ aq;have IA:=EP (hI.al c s M _ w1 cf.o b1.size (λg hg=>b1.block g (by have:=au.o g hg;simp;omega) (λh=>rV.o (by rw[<-show g=mb from h];exact hg))));have C0:=EP (((b_.refl (λg=>M g\/g=mb) w).alloc _).trans' b1 (λg _ h=>.inr h));clear ni gX aq b1 cf aT vR;go_wp2_with fail;go_loopg [20] m (λgg vi wr=>zqg mb m I fc fl (X.data.toList::env) (kids t) c s M w1.heap.size w1 gg vi wr)
  case atStart =>
   exact⟨0,M,rfl,rfl,by omega,by rw[CK,q_,Fm];exact IA.o,MPA.o,λg hg=>.inl hg,b_.refl _ w1⟩
  case round =>
   obtain⟨i,M1,rfl,rfl,hi,i1,gX,jC,c1⟩:=hrel;have I1:=EP i1;have gq:=EP gX;have dP:=EP jC;have C1:=EP c1;have fI:=c1.size;clear i1 gX jC c1;by_cases af:i<m
   ·have ig:∀g,S g->wr.heap[g]?=w.heap[g]?:=λg hg=>(C1.o.block g (by have:=(HS.o g hg).1;omega) (λh=>by rcases h with h|h;exact(HS.o g hg).2.1 h;exact(HS.o g hg).2.2 h)).trans (C0.o.block g (HS.o g hg).1 (λh=>by rcases h with h|h;exact(HS.o g hg).2.1 h;exact(HS.o g hg).2.2 h))
    obtain⟨g,u,K1,X1,Z1,A1,n1,c1,rfl,hg,e0,e1,e2,e3,hu,aG,aA,-,-⟩:=QJ (w':=wr) HA.o eT.o af ig;have kK:=M7 e0;have dD:u.size<=n:=by have:=HN.o;omega
    have bT:Nm u:=by obtain⟨fB,rfl⟩:=hu;exact ej.o i fB
    have fu:=OE (kids t) i u hu;have oo:=OA (kids t) (i+1);have pJ:=EP fu;have xi:=EP (zhW fc fl (X.data.toList::env) (kids t) i u s hu);have pD:∀g,S g->g<(wr.alloc (.cells #[.int .i64 K1,.string X1,.int .i64 Z1,.slice A1 n1 c1] 37)).heap.size/\¬M1 g/\g≠mb:=λg hg=>by
     obtain⟨x1,x2,x3⟩:=HS.o g hg;refine⟨by simp;omega,λh=>?_,x3⟩;rcases dP.o g h with h|h
     ·exact x2 h
     ·omega
    have iG:¬M1 mb:=λh=>by
     rcases dP.o mb h with h|h
     ·exact rV.o h
     ·omega
    have ey:=hI.lt _ _ _ _ I1.o;have ah:=HT (c+2*q_ ((kids t).take i)) (Fm fc fl (X.data.toList::env) ((kids t).take i) s) M1 (X.data.toList::env) u S (.agg #[.int .i64 K1,.string X1,.int .i64 Z1,.slice A1 n1 c1]) (wr.alloc (.cells #[.int .i64 K1,.string X1,.int .i64 Z1,.slice A1 n1 c1] 37)) dD (by omega)
     (hI.al _ _ _ _ _ I1.o (by simp) (λg hg=>BX _ _ _ (ey g hg))) (gq.o.al (BX _ _ _ gq.o.lt)) iG (aG.al (λ_ h=>h) (λg hg=>BX _ _ _ (by have:=HS.o g hg;omega))) pD bT (by omega) (by simp;omega) (X7.o i u hu)
    unfold FL at ah;have ak:=EP ah;clear aG hu bT fu pD iG ey ah;go_wp2_with fail;refine ak.o.mono ?_;rintro e w2 ⟨rfl,M2,i2,m2,lW,b2⟩;have I2:=EP i2;have XX:=EP m2;have fo:Hid (∀g,M2 g->M g\/w1.heap.size<=g):=EP λg hg=>by
     rcases lW g hg with h|h
     ·exact dP.o g h
     ·exact .inr (by simp at h;omega)
    have C2:=EP ((C1.o.alloc _).trans' b2 (λg hg h=>by
     rcases h with h|h
     ·rcases dP.o g h with h|h
      ·exact .inl h
      ·omega
     ·exact .inr h))
    clear i2 m2 lW b2 ak;go_wp2_with fail;go_roundg (m-(i+1))
    case measure=>omega
    case rel =>
     refine⟨i+1,M2,rfl,by go_num,by omega,?_,XX.o,fo.o,C2.o⟩;have:=I2.o;rw[pJ.o,xi.o,show c+2*(q_ ((kids t).take i)+u.size)=c+2*q_ ((kids t).take i)+2*u.size-0 by omega];exact this
   ·have aJ:(kids t).take i=kids t:=Cq (by rw[eT.o];omega)
    have aR:=EP aJ;clear aJ;go_wp2_with fail;have W8:∀k,w.heap.size+1<=k->k<=w.heap.size+1+3->wr.heap[k]?=w1.heap[k]?:=λk h1 h2=>C1.o.block k (by omega) (λh=>by
     rcases h with h|h
     ·have:=au.o k h;omega
     ·omega)
    refine leaves_cons (f:=151) (args:=#[.pointer (some ⟨w.heap.size+1+3,0,none⟩),.pointer (some ⟨w.heap.size+1+2,0,none⟩),.pointer (some ⟨w.heap.size+1,0,none⟩),.pointer (some ⟨w.heap.size+1+1,0,none⟩)]) (by simp) (by simp[go_sem]) ?_;refine(V8 (w.heap.size+1) mb (I_ env) X 1 .returning wr (nW.o.al W8) gq.o e9.o (by unfold maxLen;omega) (by unfold I_;simp;omega)).mono ?_;rintro e u' w2 ⟨rfl,rfl,m2,b2⟩;have iG:¬M1 mb:=λh=>by
     rcases dP.o mb h with h|h
     ·exact rV.o h
     ·omega
    have ey:=hI.lt _ _ _ _ I1.o;refine⟨.tuple #[],CQ rfl _ _ _,rfl,M1,?_,m2,λg hg=>?_,(C0.o.trans C1.o).trans' b2 (λg _ h=>.inr h)⟩
    ·have:=hI.al _ _ _ _ w2 I1.o b2.size (λg hg=>b2.block g (ey g hg) (λh=>iG (by rw[<-show g=mb from h];exact hg)))
     rw[aR.o]at this;rw[show c+2*t.size-2=c+2*q_ (kids t) by omega];exact this
    ·rcases dP.o g hg with h|h
     ·exact .inl h
     ·exact .inr (by omega)
 ·have d5:((K:Int)==5)=false:=by rw[hK];exact kF _ 5 aM
  have jy:Gx env t=env:=by cases t <;> first|rfl|(simp[kd]at aM)
  show Calls _ _ _ _ (OX mb I env (c+2*t.size-2) (Fm fc fl (Gx env t) (kids t) s) M w);rw[jy];rw[jy]at nZ;have X7:=EP nZ;clear nZ;clear hK hX cG ha hS bI hn aw hv hi hm aM jy;unfold FL;go_enter_defers func152,ntmps152;go_wp2_with fail;go_loopg [20] m (λgg vi wr=>zqg mb m I fc fl env (kids t) c s M w.heap.size w gg vi wr)
  case atStart =>
   exact⟨0,M,rfl,rfl,by omega,by rw[CK,q_,Fm];exact cf.o,aT.o,λg hg=>.inl hg,(b_.refl _ w).alloc _⟩
  case round =>
   obtain⟨i,M1,rfl,rfl,hi,i1,gX,jC,c1⟩:=hrel;have I1:=EP i1;have gq:=EP gX;have dP:=EP jC;have C1:=EP c1;have aH:=c1.size;clear i1 gX jC c1;by_cases af:i<m
   ·have ig:∀g,S g->wr.heap[g]?=w.heap[g]?:=λg hg=>C1.o.block g (HS.o g hg).1 (λh=>by rcases h with h|h;exact(HS.o g hg).2.1 h;exact(HS.o g hg).2.2 h)
    obtain⟨g,u,K1,X1,Z1,A1,n1,c1,rfl,hg,e0,e1,e2,e3,hu,aG,aA,-,-⟩:=QJ (w':=wr) HA.o eT.o af ig;have kK:=M7 e0;have dD:u.size<=n:=by have:=HN.o;omega
    have bT:Nm u:=by obtain⟨fB,rfl⟩:=hu;exact ej.o i fB
    have fu:=OE (kids t) i u hu;have oo:=OA (kids t) (i+1);have pJ:=EP fu;have xi:=EP (zhW fc fl env (kids t) i u s hu);have pD:∀g,S g->g<(wr.alloc (.cells #[.int .i64 K1,.string X1,.int .i64 Z1,.slice A1 n1 c1] 37)).heap.size/\¬M1 g/\g≠mb:=λg hg=>by
     obtain⟨x1,x2,x3⟩:=HS.o g hg;refine⟨by simp;omega,λh=>?_,x3⟩;rcases dP.o g h with h|h
     ·exact x2 h
     ·omega
    have iG:¬M1 mb:=λh=>by
     rcases dP.o mb h with h|h
     ·exact rV.o h
     ·omega
    have ey:=hI.lt _ _ _ _ I1.o;have ah:=HT (c+2*q_ ((kids t).take i)) (Fm fc fl env ((kids t).take i) s) M1 env u S (.agg #[.int .i64 K1,.string X1,.int .i64 Z1,.slice A1 n1 c1]) (wr.alloc (.cells #[.int .i64 K1,.string X1,.int .i64 Z1,.slice A1 n1 c1] 37)) dD (by omega)
     (hI.al _ _ _ _ _ I1.o (by simp) (λg hg=>BX _ _ _ (ey g hg))) (gq.o.al (BX _ _ _ gq.o.lt)) iG (aG.al (λ_ h=>h) (λg hg=>BX _ _ _ (by have:=HS.o g hg;omega))) pD bT (by omega) (by omega) (X7.o i u hu)
    unfold FL at ah;have ak:=EP ah;clear aG hu bT fu pD iG ey ah;go_wp2_with fail;refine ak.o.mono ?_;rintro e w2 ⟨rfl,M2,i2,m2,lW,b2⟩;have I2:=EP i2;have XX:=EP m2;have fo:Hid (∀g,M2 g->M g\/w.heap.size<=g):=EP λg hg=>by
     rcases lW g hg with h|h
     ·exact dP.o g h
     ·exact .inr (by simp at h;omega)
    have C2:=EP ((C1.o.alloc _).trans' b2 (λg hg h=>by
     rcases h with h|h
     ·rcases dP.o g h with h|h
      ·exact .inl h
      ·omega
     ·exact .inr h))
    clear i2 m2 lW b2 ak;go_wp2_with fail;go_roundg (m-(i+1))
    case measure=>omega
    case rel =>
     refine⟨i+1,M2,rfl,by go_num,by omega,?_,XX.o,fo.o,C2.o⟩;have:=I2.o;rw[pJ.o,xi.o,show c+2*(q_ ((kids t).take i)+u.size)=c+2*q_ ((kids t).take i)+2*u.size-0 by omega];exact this
   ·have aJ:(kids t).take i=kids t:=Cq (by rw[eT.o];omega)
    have aR:=EP aJ;clear aJ;go_wp2_with fail;refine⟨.tuple #[],CQ rfl _ _ _,rfl,M1,?_,gq.o,dP.o,C1.o⟩;have:=I1.o;rw[aR.o]at this;rw[show c+2*t.size-2=c+2*q_ (kids t) by omega];exact this
set_option maxRecDepth 100000
theorem zrs {σ:Type}(n kc kl:Nat)(cc cl:Array Value)(mb:Nat)(I:Nat->σ->(Nat->Prop)->World->Prop)(pl:List Name->Ty->σ->Prop)(fc fl:List Name->Ty->σ->σ)(hI:Inv I)
  (ec:∀args w,(callFunc kc args).run prog w=.ok (.enter kc args) w)(el:∀args w,(callFunc kl args).run prog w=.ok (.enter kl args) w)
  (HC:Oa kc cc mb I fc)(HL:OU kl cl mb I pl fl):Pq n kc kl cc cl mb I 108 (Mi pl fc fl) (Hp fc fl) 0:=by
 induction n with
 |zero=>intro c s M env t S v w hn;rw[Gv]at hn;omega
 |succ n ih=>exact zlB (n+1) kc kl cc cl mb I pl fc fl hI ec el HC HL (zhu n kc kl cc cl mb I pl fc fl hI ih)
theorem zqQ {σ:Type}(n kc kl:Nat)(cc cl:Array Value)(mb:Nat)(I:Nat->σ->(Nat->Prop)->World->Prop)(fc fl:List Name->Ty->σ->σ)(hI:Inv I)
  (ec:∀args w,(callFunc kc args).run prog w=.ok (.enter kc args) w)(el:∀args w,(callFunc kl args).run prog w=.ok (.enter kl args) w)
  (HC:Oa kc cc mb I fc)(HL:Oa kl cl mb I fl):Pq n kc kl cc cl mb I 108 (λ_ _ _=>True) (Hp fc fl) 0 :=
 λc s M env t S v w h1 h2 h3 h4 h5 h6 h7 h8 h9 fF _=>zrs n kc kl cc cl mb I (λ_ _ _=>True) fc fl hI ec el HC (HL.p _) c s M env t S v w h1 h2 h3 h4 h5 h6 h7 h8 h9 fF (zqP fc fl n t env s h1)
def K7(env:List Name):Ty->Bool
 |.var x=>decide (x∉env)
 |.mt _=>true
 |_=>false
theorem zmW(t:Ty)(env:List Name):((kd t:Int)==2)=true/\K7 env t=true\/((kd t:Int)==2)=false/\((kd t:Int)==1)=true/\K7 env t=decide ((ER t).data.toList∉env)\/((kd t:Int)==2)=false/\((kd t:Int)==1)=false/\K7 env t=false:=by
 cases t with
 |var x=>exact .inr (.inl ⟨rfl,rfl,rfl⟩)
 |mt n=>exact .inl ⟨rfl,rfl⟩
 |h_ c l=>exact .inr (.inr ⟨rfl,rfl,rfl⟩)
 |fn a b=>exact .inr (.inr ⟨rfl,rfl,rfl⟩)
 |all x t=>exact .inr (.inr ⟨rfl,rfl,rfl⟩)
theorem zmX(mb:Nat)(env:List Name)(t:Ty)(S:Nat->Prop)(v:Value)(w:World)(hv:nc S w t v)(hm:iT mkInt w mb (I_ env))(aw:Nm t):Calls prog 110 #[v,.map (some mb)] w λe w'=>e=.returned (.bool (K7 env t))/\Below w.heap.size w w':=by
 obtain⟨K,X,Z,A,m,c,rfl,hK,hX,-,-,-⟩:=hv.parts;have hw:=zmW t env;rw[<-hK,<-hX]at hw;have bA:X.size<=maxLen:=by have:=J4 aw;rw[<-hX]at this;unfold maxLen;omega
 have aT:=hm.al (w':=w.alloc (.cells #[.int .i64 K,.string X,.int .i64 Z,.slice A m c] 37)) (BX _ _ _ hm.lt);have bJ:=aT.get X bA;rw[zmU]at bJ;have bw:(Instr.lookup 116 (.map (some mb)) (.string X) false).run prog (w.alloc (.cells #[.int .i64 K,.string X,.int .i64 Z,.slice A m c] 37))=.ok (mkInt.J7 (if X.data.toList∈env then some 1 else none)) (w.alloc (.cells #[.int .i64 K,.string X,.int .i64 Z,.slice A m c] 37)):=bJ;obtain⟨q,hq⟩:∃q,K7 env t=q:=⟨_,rfl⟩;rw[hq]at hw ⊢;clear hK hX hv hm aw aT bJ bA hq;rcases hw with⟨d2,rfl⟩|⟨d2,d1,hr⟩|⟨d2,d1,rfl⟩
 ·go_in
  go_wp2
  go_ret
  exact⟨rfl,(Cc _ w).alloc (BU _) _⟩
 ·by_cases Fw:X.data.toList∈env
  ·rw[Ch Fw]at bw
   have HR:Hid (q=false):=EP (by rw[hr];simpa using Fw);replace bw:(Instr.lookup 116 (.map (some mb)) (.string X) false).run prog (w.alloc (.cells #[.int .i64 K,.string X,.int .i64 Z,.slice A m c] 37))=.ok (.int .i64 1) (w.alloc (.cells #[.int .i64 K,.string X,.int .i64 Z,.slice A m c] 37)):=bw;clear hr Fw;go_in;go_wp2
   go_ret
   exact⟨Iy HR.o.symm,(Cc _ w).alloc (BU _) _⟩
  ·rw[Cg Fw]at bw
   have HR:Hid (q=true):=EP (by rw[hr];simpa using Fw);replace bw:(Instr.lookup 116 (.map (some mb)) (.string X) false).run prog (w.alloc (.cells #[.int .i64 K,.string X,.int .i64 Z,.slice A m c] 37))=.ok (.int .i64 0) (w.alloc (.cells #[.int .i64 K,.string X,.int .i64 Z,.slice A m c] 37)):=bw;clear hr Fw;go_in;go_wp2
   go_ret
   exact⟨Iy HR.o.symm,(Cc _ w).alloc (BU _) _⟩
 ·clear bw
  go_in;go_wp2
  go_ret
  exact⟨rfl,(Cc _ w).alloc (BU _) _⟩
section
variable {σ:Type}
def No(k:Nat)(dh:Array Value)(I:Nat->σ->(Nat->Prop)->World->Prop)(g:Ty->σ->σ):Prop :=
 ∀(c:Nat) (s:σ) (M:Nat->Prop) (t:Ty) (S:Nat->Prop) (v:Value) (w:World),
  I c s M w->nc S w t v->(∀g,S g->g<w.heap.size/\¬M g)->Nm t->c<8000000000000 ->
  Calls prog k (#[v]++dh) w λe w'=>e=.returned (.tuple #[])/\∃M',I (c+1) (g t s) M' w'/\(∀g,M' g->M g\/w.heap.size<=g)/\b_ M w w'
def JU(I:Nat->σ->(Nat->Prop)->World->Prop)(bb db:Nat)(x y:Array Value)(tx ty:TypeId)(c:Nat)(s:σ)(M2:Nat->Prop)(w:World):Prop :=
 ∃M,(∀g,M2 g↔M g\/g=bb\/g=db)/\I c s M w/\¬M bb/\¬M db/\ar w bb tx x/\ar w db ty y
theorem JU.inv {I:Nat->σ->(Nat->Prop)->World->Prop}(hI:Inv I)(bb db:Nat)(x y:Array Value)(tx ty:TypeId):Inv (JU I bb db x y tx ty) where
 mono c c' s M2 w:=λ⟨M,h1,h2,h3⟩ hc=>⟨M,h1,hI.mono _ _ _ _ _ h2 hc,h3⟩
 lt c s M2 w:=λ⟨M,h1,h2,h3,h4,h5,h6⟩ g hg=>by
  rcases(h1 g).1 hg with h|h|h
  ·exact hI.lt _ _ _ _ h2 g h
  ·rw[h];exact h5.lt
  ·rw[h];exact h6.lt
 al c s M2 w w':=λ⟨M,h1,h2,h3,h4,h5,h6⟩ hs hk =>
  ⟨M,h1,hI.al _ _ _ _ _ h2 hs (λg hg=>hk g ((h1 g).2 (.inl hg))),h3,h4,h5.same (hk bb ((h1 bb).2 (.inr (.inl rfl)))),h6.same (hk db ((h1 db).2 (.inr (.inr rfl))))⟩
def Ff(g:Ty->σ->σ)(env:List Name)(t:Ty)(s:σ):σ:=if K7 env t=true then g t s else s
end
theorem zo3 {σ:Type}(k:Nat)(dh:Array Value)(mb bb db:Nat)(I:Nat->σ->(Nat->Prop)->World->Prop)(g:Ty->σ->σ)(hI:Inv I)(ek:∀args w,(callFunc k args).run prog w=.ok (.enter k args) w)(HD:No k dh I g):Oa 109 #[.pointer (some ⟨bb,0,none⟩),.pointer (some ⟨db,0,none⟩)] mb (JU I bb db #[.map (some mb)] #[FL k dh] 116 125) (Ff g):=by
 intro c s M2 env t S v w dw hm bI hv hS aw aA hc;obtain⟨M,lW,hi,cJ,hdb,av,aV⟩:=dw;obtain⟨K,X,Z,A,m,cp,rfl,-,-,-,-,-⟩:=hv.parts;have pF:∀g,S g->g<w.heap.size/\¬M g/\g≠bb/\g≠db:=λg hg=>⟨(hS g hg).1,λh=>(hS g hg).2 ((lW g).2 (.inl h)),λh=>(hS g hg).2 ((lW g).2 (.inr (.inl h))),λh=>(hS g hg).2 ((lW g).2 (.inr (.inr h)))⟩;have af:=hI.lt _ _ _ _ hi;have di:nc S (w.alloc (.cells #[.int .i64 K,.string X,.int .i64 Z,.slice A m cp] 37)) t (.agg #[.int .i64 K,.string X,.int .i64 Z,.slice A m cp]):=hv.al (λ_ h=>h) (λg hg=>BX _ _ _ (hS g hg).1);have hL:=zmX mb env t S _ _ di (hm.al (BX _ _ _ hm.lt)) aw;obtain⟨q,hq⟩:∃q,K7 env t=q:=⟨_,rfl⟩;have aW:Ff g env t s=if q=true then g t s else s:=by rw[Ff,hq]
 rw[hq]at hL;rw[aW];obtain⟨x0,-,l0⟩:=GG av;obtain⟨y0,-,l1⟩:=GG aV;have HL:=EP hL;have HI:=EP hi;have fo:=EP lW;have HS:=EP pF;have HV:=EP hv;have bc:=EP av;have cC:=EP aV;have bQ:=EP aw;have sd:=EP cJ;have YL:=EP hdb;have au:=EP af;clear hL hi lW pF hS hv di av aV aw cJ hdb af hq aW hm bI;have e0:(#[Value.agg #[.int .i64 K,.string X,.int .i64 Z,.slice A m cp]]++#[Value.pointer (some ⟨bb,0,none⟩),.pointer (some ⟨db,0,none⟩)])=#[.agg #[.int .i64 K,.string X,.int .i64 Z,.slice A m cp],.pointer (some ⟨bb,0,none⟩),.pointer (some ⟨db,0,none⟩)]:=rfl;rw[e0];clear e0;unfold FL at y0;go_in;go_wp2_with fail;refine HL.o.mono ?_;rintro e w1 ⟨rfl,b1⟩;have aH:=b1.size;simp at aH;have aq:=ar.below (BZ w (.cells #[.int .i64 K,.string X,.int .i64 Z,.slice A m cp] 37)) b1 (by simp);obtain⟨p0,p1,p2,p3,s0,s1,s2,s3,dp⟩:=n_ aq;have kX:=J1 b1 (BU _);have ji:=EP (bc.o.below kX l0);have sa:=EP (cC.o.below kX l1);obtain⟨x1,-,-⟩:=GG ji.o;obtain⟨y1,-,-⟩:=GG sa.o;unfold FL at y1;have I1:=EP (hI.al _ _ _ _ w1 HI.o kX.size (λg hg=>kX.block g (au.o g hg)));have fO:=EP (HV.o.al (λ_ h=>h) (λg hg=>kX.block g (HS.o g hg).1));have jk:=EP kX;clear aq b1 kX HL;cases q with
 |false =>
  go_wp2_with fail;first|go_end0|refine Ce (CQ rfl _ _ _) rfl ?_
  exact⟨rfl,M2,⟨M,fo.o,hI.mono _ _ _ _ _ I1.o (by omega),sd.o,YL.o,ji.o,sa.o⟩,λg hg=>.inl hg,b_.c_ jk.o⟩
 |true =>
  go_wp2_with fail;refine(HD c s M t S _ w1 I1.o fO.o (λg hg=>⟨by have:=(HS.o g hg).1;omega,(HS.o g hg).2.1⟩) bQ.o hc).mono ?_;rintro e w2 ⟨rfl,M',i2,kW,b2⟩;have C2:=EP b2;have I2:=EP i2;have vG:=EP kW;clear b2 i2 kW;go_wp2_with fail;first|go_end0|refine Ce (CQ rfl _ _ _) rfl ?_
  refine⟨rfl,λg=>M' g\/g=bb\/g=db,⟨M',λg=>Iff.rfl,I2.o,λh=>?_,λh=>?_,ji.o.iF C2.o sd.o,sa.o.iF C2.o YL.o⟩,λg hg=>?_,?_⟩
  ·rcases vG.o _ h with h|h
   ·exact sd.o h
   ·omega
  ·rcases vG.o _ h with h|h
   ·exact YL.o h
   ·omega
  ·rcases hg with h|h|h
   ·rcases vG.o _ h with h|h
    ·exact .inl ((fo.o g).2 (.inl h))
    ·exact .inr (by omega)
   ·exact .inl ((fo.o g).2 (.inr (.inl h)))
   ·exact .inl ((fo.o g).2 (.inr (.inr h)))
  ·exact(b_.c_ (M:=M2) jk.o).trans' C2.o (λg _ h=>(fo.o g).2 (.inl h))
theorem zo4 {σ:Type}(k:Nat)(mb:Nat)(I:Nat->σ->(Nat->Prop)->World->Prop)(hI:Inv I)
  (H:∀(K:Int)(X:ByteArray)(Z:Int)(A:Option Addr)(m c:Nat)(w:World),Calls prog k #[.agg #[.int .i64 K,.string X,.int .i64 Z,.slice A m c]] w λe w'=>e=.returned (.tuple #[])/\Below w.heap.size w w'):Oa k #[] mb I (λ_ _ s=>s):=by
 intro c s M env t S v w hi hm bI hv hS aw aA hc;obtain⟨K,X,Z,A,m,cp,rfl,-,-,-,-,-⟩:=hv.parts;refine(H K X Z A m cp w).mono ?_;rintro e w' ⟨rfl,b⟩;exact⟨rfl,M,hI.mono _ _ _ _ _ (hI.al _ _ _ _ w' hi b.size (λg hg=>b.block g (hI.lt _ _ _ _ hi g hg))) (by omega),λg hg=>.inl hg,b_.c_ b⟩
theorem zlD(K:Int)(X:ByteArray)(Z:Int)(A:Option Addr)(m c:Nat)(w:World):Calls prog 111 #[.agg #[.int .i64 K,.string X,.int .i64 Z,.slice A m c]] w λe w'=>e=.returned (.tuple #[])/\Below w.heap.size w w':=by
 go_in;go_wp2
 first|go_end0|refine Ce (CQ rfl _ _ _) rfl ?_
 exact⟨rfl,(Cc _ w).alloc (BU _) _⟩
end
end Go.Proofs.YtfafilmklhnngaaGreatDoor
