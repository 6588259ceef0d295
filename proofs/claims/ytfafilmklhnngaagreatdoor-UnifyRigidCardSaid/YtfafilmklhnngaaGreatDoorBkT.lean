import Derived.Test.YtfafilmklhnngaaGreatDoorBkS
import Derived.Test.YtfafilmklhnngaaGreatDoorBkP
set_option maxHeartbeats 12800000
namespace Go.Proofs.YtfafilmklhnngaaGreatDoor
open Go.RowKit Lx Tx Go.Maps Go.WideMaps
set_option maxRecDepth 100000
section
variable {σ:Type}
def ones(env:List Name):List (Name × Nat):=env.map λx=>(x,1)
theorem zlL(x:Name)(env:List Name):look x (ones env)=if x∈env then some 1 else none:=by
 induction env with
 |nil=>rfl
 |cons y r ih =>
  show(if y=x then some 1 else look x (ones r))=_;rw[ih]
  by_cases h:y=x
  ·rw[Aq h,Aq (by rw[h];exact Ay)]
  ·rw[Am h]
   by_cases h2:x∈r
   ·rw[Aq h2,Aq (Ar _ h2)]
   ·rw[Am h2,Am (λe=>by rcases An.1 e with e|e;exact h e.symm;exact h2 e)]
def envOf(env:List Name):Ty->List Name
 |.all x _=>x::env
 |_=>env
mutual
def thr(fc fl:List Name->Ty->σ->σ)(env:List Name):Ty->σ->σ
 |.var x,s=>fl env (.var x) (fc env (.var x) s)
 |.mt n,s=>fl env (.mt n) (fc env (.mt n) s)
 |.con c l,s=>fl env (.con c l) (thrL fc fl env l (fc env (.con c l) s))
 |.fn a b,s=>fl env (.fn a b) (thr fc fl env b (thr fc fl env a (fc env (.fn a b) s)))
 |.all x t,s=>fl env (.all x t) (thr fc fl (x::env) t (fc env (.all x t) s))
def thrL(fc fl:List Name->Ty->σ->σ)(env:List Name):List Ty->σ->σ
 |[],s=>s
 |t::r,s=>thrL fc fl env r (thr fc fl env t s)
end
theorem zee(fc fl:List Name->Ty->σ->σ)(env:List Name)(t:Ty)(s:σ):thr fc fl env t s=fl env t (thrL fc fl (envOf env t) (kids t) (fc env t s)):=by
 cases t <;> rw[thr,kids] <;> simp[thrL,envOf]
theorem zlM(fc fl:List Name->Ty->σ->σ)(env:List Name)(l:List Ty)(t:Ty)(s:σ):thrL fc fl env (l++[t]) s=thr fc fl env t (thrL fc fl env l s):=by
 induction l generalizing s with
 |nil=>rw[AL,thrL,thrL,thrL]
 |cons a r ih=>rw[AE,thrL,thrL,ih]
structure Inv (I:Nat->σ->(Nat->Prop)->World->Prop):Prop where
 mono:∀c c' s M w,I c s M w->c<=c'->I c' s M w
 lt:∀c s M w,I c s M w->∀g,M g->g<w.heap.size
 keep:∀c s M w w',I c s M w->w.heap.size<=w'.heap.size->(∀g,M g->w'.heap[g]?=w.heap[g]?)->I c s M w'
def Vis(k:Nat)(cN:Array Value)(mb:Nat)(I:Nat->σ->(Nat->Prop)->World->Prop)(f:List Name->Ty->σ->σ):Prop :=
 ∀(c:Nat) (s:σ) (M:Nat->Prop) (env:List Name) (t:Ty) (S:Nat->Prop) (v:Value) (w:World),
  I c s M w->MapE mkInt w mb (ones env)->¬M mb->RdV S w t v->(∀g,S g->g<w.heap.size/\¬M g)->Nm t->t.size<=1000000->c<10000000 ->
  Calls Tryz.prog k (#[v]++cN) w λe w'=>e=.returned (.tuple #[])/\∃M',I (c+1) (f env t s) M' w'/\(∀g,M' g->M g\/w.heap.size<=g)/\Chg M w w'
def fnV(k:Nat)(cN:Array Value):Value:=.func (.func k) #[] cN
def TPst(mb:Nat)(I:Nat->σ->(Nat->Prop)->World->Prop)(env:List Name)(c:Nat)(s:σ)(M:Nat->Prop)(w:World)(e:Ending)(w':World):Prop :=
 e=.returned (.tuple #[])/\∃M',I c s M' w'/\MapE mkInt w' mb (ones env)/\(∀g,M' g->M g\/w.heap.size<=g)/\Chg (λg=>M g\/g=mb) w w'
def VisP(k:Nat)(cN:Array Value)(mb:Nat)(I:Nat->σ->(Nat->Prop)->World->Prop)(pl:List Name->Ty->σ->Prop)(f:List Name->Ty->σ->σ):Prop :=
 ∀(c:Nat) (s:σ) (M:Nat->Prop) (env:List Name) (t:Ty) (S:Nat->Prop) (v:Value) (w:World),
  I c s M w->MapE mkInt w mb (ones env)->¬M mb->RdV S w t v->(∀g,S g->g<w.heap.size/\¬M g)->Nm t->t.size<=1000000->c<10000000->pl env t s ->
  Calls Tryz.prog k (#[v]++cN) w λe w'=>e=.returned (.tuple #[])/\∃M',I (c+1) (f env t s) M' w'/\(∀g,M' g->M g\/w.heap.size<=g)/\Chg M w w'
theorem Vis.p {k:Nat} {cN:Array Value} {mb:Nat} {I:Nat->σ->(Nat->Prop)->World->Prop} {f:List Name->Ty->σ->σ}(h:Vis k cN mb I f)(pl:List Name->Ty->σ->Prop):VisP k cN mb I pl f :=
 λc s M env t S v w h1 h2 h3 h4 h5 h6 h7 h8 _=>h c s M env t S v w h1 h2 h3 h4 h5 h6 h7 h8
inductive WfT (pl:List Name->Ty->σ->Prop) (fc fl:List Name->Ty->σ->σ):List Name->Ty->σ->Prop
 |mk (env:List Name) (t:Ty) (s:σ) (hk:∀i u,(∃hi:i<(kids t).length,(kids t)[i]=u)->WfT pl fc fl (envOf env t) u (thrL fc fl (envOf env t) ((kids t).take i) (fc env t s)))
   (hp:pl env t (thrL fc fl (envOf env t) (kids t) (fc env t s))):WfT pl fc fl env t s
def WfK(pl:List Name->Ty->σ->Prop)(fc fl:List Name->Ty->σ->σ)(env:List Name)(t:Ty)(s:σ):Prop :=
 ∀i u,(∃hi:i<(kids t).length,(kids t)[i]=u)->WfT pl fc fl (envOf env t) u (thrL fc fl (envOf env t) ((kids t).take i) s)
theorem WfT.inn {pl:List Name->Ty->σ->Prop} {fc fl:List Name->Ty->σ->σ} {env:List Name} {t:Ty} {s:σ}(h:WfT pl fc fl env t s):WfK pl fc fl env t (fc env t s):=by
 cases h with
 |mk _ _ _ hk _=>exact hk
theorem WfT.left {pl:List Name->Ty->σ->Prop} {fc fl:List Name->Ty->σ->σ} {env:List Name} {t:Ty} {s:σ}(h:WfT pl fc fl env t s):pl env t (thrL fc fl (envOf env t) (kids t) (fc env t s)):=by
 cases h with
 |mk _ _ _ _ hp=>exact hp
theorem zpb(fc fl:List Name->Ty->σ->σ)(n:Nat):∀(t:Ty)(env:List Name)(s:σ),t.size<=n->WfT (λ_ _ _=>True) fc fl env t s:=by
 induction n with
 |zero=>intro t env s h;rw[zaj]at h;omega
 |succ n ih =>
  intro t env s h;refine .mk _ _ _ (λi u hu=>ih u _ _ ?_) trivial;obtain⟨hi,rfl⟩:=hu;have:=zc9 t i hi;omega
def zfc(n:Nat)(kc kl:Nat)(cc cl:Array Value)(mb:Nat)(I:Nat->σ->(Nat->Prop)->World->Prop)(F:Nat)(wf:List Name->Ty->σ->Prop)(th:List Name->Ty->σ->σ)(d:Nat):Prop :=
 ∀(c:Nat) (s:σ) (M:Nat->Prop) (env:List Name) (t:Ty) (S:Nat->Prop) (v:Value) (w:World),t.size<=n->n<=1000000 ->
  I c s M w->MapE mkInt w mb (ones env)->¬M mb->RdV S w t v->(∀g,S g->g<w.heap.size/\¬M g/\g≠mb)->Nm t->c+2*t.size<=10000000+d->env.length+t.size<=100000000->wf env t s ->
  Calls Tryz.prog F #[v,.map (some mb),fnV kc cc,fnV kl cl] w (TPst mb I env (c+2*t.size-d) (th env t s) M w)
end
theorem zkF {σ:Type}(n kc kl:Nat)(cc cl:Array Value)(mb:Nat)(I:Nat->σ->(Nat->Prop)->World->Prop)(pl:List Name->Ty->σ->Prop)(fc fl:List Name->Ty->σ->σ)(hI:Inv I)
  (ec:∀args w,(callFunc kc args).run Tryz.prog w=.ok (.enter kc args) w)(el:∀args w,(callFunc kl args).run Tryz.prog w=.ok (.enter kl args) w)
  (HC:Vis kc cc mb I fc)(HL:VisP kl cl mb I pl fl)
  (HA:zfc n kc kl cc cl mb I 152 (WfK pl fc fl) (λenv t s=>thrL fc fl (envOf env t) (kids t) s) 2):zfc n kc kl cc cl mb I 108 (WfT pl fc fl) (thr fc fl) 0:=by
 intro c s M env t S v w hn h6 hi hm dp hv hS az hc hlen mn;have HWK:=CS mn.inn;have HWL:=CS mn.left;clear mn;obtain⟨K,X,Z,A,m,cp,rfl,-,-,-,-,-⟩:=hv.parts;have gY:=hm.lt;have pk:1<=t.size:=by rw[zaj];omega
 have HV:=CS hv;have HI:=CS hi;have HM:=CS hm;have HS:=CS hS;have aC:=CS (hI.lt c s M w hi);have eN:=CS (hI.keep c s M w (w.alloc (.cells #[.int .i64 K,.string X,.int .i64 Z,.slice A m cp] 37)) hi (by simp) (λg hg=>Below.heap_alloc _ _ _ (hI.lt c s M w hi g hg)));have aX:=CS (hm.keep (w':=w.alloc (.cells #[.int .i64 K,.string X,.int .i64 Z,.slice A m cp] 37)) (Below.heap_alloc _ _ _ gY));have dm:Hid (RdV S (w.alloc (.cells #[.int .i64 K,.string X,.int .i64 Z,.slice A m cp] 37)) t (.agg #[.int .i64 K,.string X,.int .i64 Z,.slice A m cp])):=CS (hv.keep (λ_ h=>h) (λg hg=>Below.heap_alloc _ _ _ (hS g hg).1));have qv:=CS dp;have bK:=CS az;have HN:=CS hn;clear hi hm dp hv hS az hn;unfold fnV;go_enter Tryz.func108,Tryz.ntmps108
 go_wp2_with fail
 refine(HC c s M env t S _ _ eN.out aX.out qv.out dm.out (λg hg=>⟨by have:=HS.out g hg;simp;omega,(HS.out g hg).2.1⟩) bK.out (by have:=HN.out;omega) (by omega)).mono ?_;rintro e w1 ⟨rfl,M1,i1,fY,b1⟩;have aF:=b1.size;simp at aF;have hq:¬M1 w.heap.size:=λh=>by
  rcases fY _ h with h|h
  ·exact absurd (aC.out _ h) (Nat.lt_irrefl _)
  ·simp at h;omega
 have an:=Blk.chg (heap_alloc_new w (.cells #[.int .i64 K,.string X,.int .i64 Z,.slice A m cp] 37)) b1 (λh=>absurd (aC.out _ h) (Nat.lt_irrefl _));obtain⟨p0,p1,p2,p3,s0,s1,s2,s3,di⟩:=zaa an;have qf:Hid (∀g,M1 g->M g\/w.heap.size+1<=g):=CS λg hg=>by have:=fY g hg;simpa using this
 have eJ:=CS an;have I1:=CS i1;have nP:Hid (∀g,S g->g<w1.heap.size/\¬M1 g/\g≠mb):=CS λg hg=>by
  obtain⟨x1,x2,x3⟩:=HS.out g hg;refine⟨by omega,λh=>?_,x3⟩;rcases qf.out g h with h|h
  ·exact x2 h
  ·omega
 have gu:Hid (¬M1 mb):=CS λh=>by
  rcases qf.out mb h with h|h
  ·exact qv.out h
  ·omega
 have fK:=CS (dm.out.keep (λ_ h=>h) (λg hg=>b1.block g (by have:=HS.out g hg;simp;omega) (HS.out g hg).2.1));have dH:=CS (aX.out.keep (b1.block mb (by simp;omega) qv.out));have C1:=CS ((((Chg.refl M w).alloc (.cells #[.int .i64 K,.string X,.int .i64 Z,.slice A m cp] 37)).trans b1));clear b1 i1 fY an eN aX dm;go_wp2_with fail
 have hA:=HA (c+1) (fc env t s) M1 env t S _ w1 HN.out h6 I1.out dH.out gu.out fK.out nP.out bK.out (by omega) hlen HWK.out;unfold fnV at hA;refine hA.mono ?_;rintro e w2 ⟨rfl,M2,i2,m2,j6,b2⟩;have bk:=b2.size;have an:=eJ.out.chg b2 (λh=>by rcases h with h|h;exact hq h;omega);obtain⟨p0,p1,p2,p3,s0,s1,s2,s3,sQ⟩:=zaa an;have qe:Hid (∀g,M2 g->M g\/w.heap.size+1<=g):=CS λg hg=>by
  rcases j6 g hg with h|h
  ·exact qf.out g h
  ·exact .inr (by omega)
 have I2:=CS i2;have gD:=CS m2;have xj:Hid (¬M2 mb):=CS λh=>by
  rcases qe.out mb h with h|h
  ·exact qv.out h
  ·omega
 have nO:Hid (∀g,S g->g<w2.heap.size/\¬M2 g):=CS λg hg=>by
  obtain⟨x1,x2,x3⟩:=HS.out g hg;refine⟨by omega,λh=>?_⟩;rcases qe.out g h with h|h
  ·exact x2 h
  ·omega
 have iO:=CS (fK.out.keep (λ_ h=>h) (λg hg=>b2.block g (nP.out g hg).1 (λh=>by rcases h with h|h;exact(nP.out g hg).2.1 h;exact(nP.out g hg).2.2 h)));have C2:=CS ((C1.out.mono (λ_ _ h=>Or.inl h)).trans' b2 (M:=λg=>M g\/g=mb) (λg hg h=>by
  rcases h with h|h
  ·rcases qf.out g h with h|h
   ·exact .inl h
   ·omega
  ·exact .inr h))
 clear b2 i2 m2 j6 an hA;go_wp2_with fail
 refine(HL (c+1+2*t.size-2) _ M2 env t S _ w2 I2.out gD.out xj.out iO.out nO.out bK.out (by have:=HN.out;omega) (by omega) HWL.out).mono ?_;rintro e w3 ⟨rfl,M3,i3,hM3,b3⟩;have cY:=b3.size;have I3:=CS i3;have HM3:=CS (gD.out.keep (b3.block mb gD.out.lt xj.out));have C3:=CS (C2.out.trans' b3 (λg hg h=>by
  rcases qe.out g h with h|h
  ·exact .inl h
  ·omega))
 have hM3':Hid (∀g,M3 g->M g\/w.heap.size<=g):=CS λg hg=>by
  rcases hM3 g hg with h|h
  ·rcases qe.out g h with h|h
   ·exact .inl h
   ·exact .inr (by omega)
  ·exact .inr (by omega)
 clear b3 i3 hM3;go_wp2_with fail
 first|go_end0|refine bodyPost_ret (results_none rfl _ _ _) rfl ?_
 refine⟨rfl,M3,?_,HM3.out,hM3'.out,C3.out⟩;have:=I3.out;rw[zee,show c+2*t.size-0=c+1+2*t.size-2+1 by omega]
 exact this
end Go.Proofs.YtfafilmklhnngaaGreatDoor
namespace Go.Proofs.YtfafilmklhnngaaGreatDoor
open Go.RowKit Lx Tx Go.Maps Go.WideMaps
set_option maxRecDepth 100000
theorem zbo {t:Ty}(h:Nm t):(nmB t).size<=24:=by
 have key:∀k x,Gd k x->k<=2->(⟨x.toArray⟩:ByteArray).size<=24:=by
  intro k x h hk;obtain⟨h1,h2,h3⟩:=h;show x.length<=24;cases x with
  |nil=>exact absurd rfl h1
  |cons c r =>
   rw[first]at h2
   split at h2
   ·unfold word at h2
    split at h2
    ·injection h2 with a _;omega
    ·injection h2 with _ b;omega
   ·split at h2
    ·exfalso
     rcases zaB (c::r) with e|⟨e,_,_⟩ <;> rw[e]at h2 <;> injection h2 with a _ <;> omega
    ·split at h2
     ·exfalso
      unfold zbj at h2;split at h2 <;> injection h2 with a _ <;> omega
     ·exfalso
      unfold sign at h2;split at h2
      ·injection h2 with a _;omega
      ·split at h2 <;> injection h2 with a _ <;> omega
 cases h with
 |var x h=>exact key 1 x h (by decide)
 |mt n _=>exact AV _
 |con c l h _=>exact key 2 c h (by decide)
 |fn a b _ _=>exact AV _
 |all x t h _=>exact key 1 x h (by decide)
section
variable {σ:Type}
def zoI(mb m:Nat)(I:Nat->σ->(Nat->Prop)->World->Prop)(fc fl:List Name->Ty->σ->σ)(env:List Name)(l:List Ty)(c:Nat)(s:σ)(M:Nat->Prop)(B:Nat)(w0:World)(gg:Nat)(vi:Value)(wr:World):Prop :=
 ∃i M',gg=m-i/\vi=.int .i64 (i:Nat)/\i<=m/\I (c+2*zaf (l.take i)) (thrL fc fl env (l.take i) s) M' wr/\MapE mkInt wr mb (ones env)/\(∀g,M' g->M g\/B<=g)/\Chg (λg=>M g\/g=mb) w0 wr
theorem zkG(l:List Ty)(t:Ty):zaf (l++[t])=zaf l+t.size:=by
 induction l with
 |nil=>simp[zaf]
 |cons a r ih=>rw[AE,zaf,zaf,ih];omega
theorem zcf(l:List Ty)(i:Nat)(u:Ty)(hu:∃hi:i<l.length,l[i]=u):zaf (l.take (i+1))=zaf (l.take i)+u.size:=by
 obtain⟨hi,rfl⟩:=hu;rw[zb5 l i hi,zkG]
theorem zbF(l:List Ty)(i:Nat):zaf (l.take i)<=zaf l:=by
 induction l generalizing i with
 |nil=>simp
 |cons t r ih =>
  cases i with
  |zero=>simp[zaf]
  |succ i=>rw[AZ,zaf,zaf];have:=ih i;omega
theorem zhd(fc fl:List Name->Ty->σ->σ)(env:List Name)(l:List Ty)(i:Nat)(u:Ty)(s:σ)(hu:∃hi:i<l.length,l[i]=u):thrL fc fl env (l.take (i+1)) s=thr fc fl env u (thrL fc fl env (l.take i) s):=by
 obtain⟨hi,rfl⟩:=hu;rw[zb5 l i hi,zlM]
end
theorem zgJ {σ:Type}(n kc kl:Nat)(cc cl:Array Value)(mb:Nat)(I:Nat->σ->(Nat->Prop)->World->Prop)(pl:List Name->Ty->σ->Prop)(fc fl:List Name->Ty->σ->σ)(hI:Inv I)
  (HT:zfc n kc kl cc cl mb I 108 (WfT pl fc fl) (thr fc fl) 0):zfc (n+1) kc kl cc cl mb I 152 (WfK pl fc fl) (λenv t s=>thrL fc fl (envOf env t) (kids t) s) 2:=by
 intro c s M env t S v w hn h6 hi hm dp hv hS az hc hlen mn;unfold WfK at mn;obtain⟨K,X,Z,A,m,cp,rfl,hK,hX,-,ed,ha⟩:=hv.parts;have gY:=hm.lt;have lP:zaf (kids t)+1=t.size:=by rw[zaj t]
 have aC:=CS (hI.lt c s M w hi);have eN:=CS (hI.keep c s M w (w.alloc (.cells #[.int .i64 K,.string X,.int .i64 Z,.slice A m cp] 37)) hi (by simp) (λg hg=>Below.heap_alloc _ _ _ (hI.lt c s M w hi g hg)));have aX:=CS (hm.keep (w':=w.alloc (.cells #[.int .i64 K,.string X,.int .i64 Z,.slice A m cp] 37)) (Below.heap_alloc _ _ _ gY));have dZ:m<=n:=by have:=zbw t;omega
 have HA:=CS ha;have iC:=CS ed;have HS:=CS hS;have qv:=CS dp;have HN:=CS hn;have mc:Hid (∀i (hi:i<(kids t).length),Nm (kids t)[i]):=CS λi hi=>zcH az i hi;by_cases aO:kd t=5
 ·have d5:((K:Int)==5)=true:=by rw[hK,aO];rfl
  have HX:=CS (show(nmB t).size<=24 from zbo az);have lT:envOf env t=X.data.toList::env:=by
   rw[hX]
   cases t with
   |all x u=>rfl
   |var x=>simp[kd]at aO
   |mt x=>simp[kd]at aO
   |con x u=>simp[kd]at aO
   |fn x u=>simp[kd]at aO
  have bT:X.size<=24:=by rw[hX];exact HX.out
  show Calls _ _ _ _ (TPst mb I env (c+2*t.size-2) (thrL fc fl (envOf env t) (kids t) s) M w);rw[lT]
  rw[lT]at mn
  have HWF:=CS mn;clear mn;have eB:=CS aX.out.canon;have hCV:=zfD mb (ones env) X 1 1 rfl (w.alloc (.cells #[.int .i64 K,.string X,.int .i64 Z,.slice A m cp] 37)) aX.out (by unfold maxLen;omega) (by unfold ones;simp;omega);have zS:=CS hCV;clear hK hX ed ha hS dp hn az hv hi hm aO lT hCV HX;unfold fnV;go_enter_defers Tryz.func152,Tryz.ntmps152
  go_wp2_with fail
  refine zS.out.mono ?_;rintro e w1 ⟨rfl,oO,jJ,b1⟩;have aF:=b1.size;simp at aF;have e1:(w.alloc (.cells #[.int .i64 K,.string X,.int .i64 Z,.slice A m cp] 37)).heap.size=w.heap.size+1:=by simp
  rw[e1]at oO
  unfold zf3;rw[e1]
  have r6:=CS oO;have MPA:=CS jJ;have fX:=oO.2.2.2.lt;have an:=Blk.chg (heap_alloc_new w (.cells #[.int .i64 K,.string X,.int .i64 Z,.slice A m cp] 37)) b1 (by unfold only;omega);obtain⟨p0,p1,p2,p3,s0,s1,s2,s3,di⟩:=zaa an;have IA:=CS (hI.keep c s M _ w1 eN.out b1.size (λg hg=>b1.block g (by have:=aC.out g hg;simp;omega) (λh=>qv.out (by rw[<-show g=mb from h];exact hg))));have C0:=CS (((Chg.refl (λg=>M g\/g=mb) w).alloc _).trans' b1 (λg _ h=>.inr h));clear oO jJ an b1 eN aX zS;go_wp2_with fail
  go_loopg [20] m (λgg vi wr=>zoI mb m I fc fl (X.data.toList::env) (kids t) c s M w1.heap.size w1 gg vi wr)
  case atStart =>
   exact⟨0,M,rfl,rfl,by omega,by rw[Ba,zaf,thrL];exact IA.out,MPA.out,λg hg=>.inl hg,Chg.refl _ w1⟩
  case round =>
   obtain⟨i,M1,rfl,rfl,hi,i1,jJ,fY,c1⟩:=hrel;have I1:=CS i1;have jA:=CS jJ;have dH:=CS fY;have C1:=CS c1;have fO:=c1.size;clear i1 jJ fY c1;by_cases ah:i<m
   ·have ic:∀g,S g->wr.heap[g]?=w.heap[g]?:=λg hg=>(C1.out.block g (by have:=(HS.out g hg).1;omega) (λh=>by rcases h with h|h;exact(HS.out g hg).2.1 h;exact(HS.out g hg).2.2 h)).trans (C0.out.block g (HS.out g hg).1 (λh=>by rcases h with h|h;exact(HS.out g hg).2.1 h;exact(HS.out g hg).2.2 h))
    obtain⟨g,u,K1,X1,Z1,A1,n1,c1,rfl,hg,e0,e1,e2,e3,hu,aK,aD,-,-⟩:=zce (w':=wr) HA.out iC.out ah ic;have ik:=zbV e0;have ei:u.size<=n:=by have:=HN.out;omega
    have cK:Nm u:=by obtain⟨fx,rfl⟩:=hu;exact mc.out i fx
    have gm:=zcf (kids t) i u hu;have so:=zbF (kids t) (i+1);have tM:=CS gm;have vz:=CS (zhd fc fl (X.data.toList::env) (kids t) i u s hu);have nO:∀g,S g->g<(wr.alloc (.cells #[.int .i64 K1,.string X1,.int .i64 Z1,.slice A1 n1 c1] 37)).heap.size/\¬M1 g/\g≠mb:=λg hg=>by
     obtain⟨x1,x2,x3⟩:=HS.out g hg;refine⟨by simp;omega,λh=>?_,x3⟩;rcases dH.out g h with h|h
     ·exact x2 h
     ·omega
    have gu:¬M1 mb:=λh=>by
     rcases dH.out mb h with h|h
     ·exact qv.out h
     ·omega
    have eK:=hI.lt _ _ _ _ I1.out;have aq:=HT (c+2*zaf ((kids t).take i)) (thrL fc fl (X.data.toList::env) ((kids t).take i) s) M1 (X.data.toList::env) u S (.agg #[.int .i64 K1,.string X1,.int .i64 Z1,.slice A1 n1 c1]) (wr.alloc (.cells #[.int .i64 K1,.string X1,.int .i64 Z1,.slice A1 n1 c1] 37)) ei (by omega)
     (hI.keep _ _ _ _ _ I1.out (by simp) (λg hg=>Below.heap_alloc _ _ _ (eK g hg))) (jA.out.keep (Below.heap_alloc _ _ _ jA.out.lt)) gu (aK.keep (λ_ h=>h) (λg hg=>Below.heap_alloc _ _ _ (by have:=HS.out g hg;omega))) nO cK (by omega) (by simp;omega) (HWF.out i u hu)
    unfold fnV at aq;have av:=CS aq;clear aK hu cK gm nO gu eK aq;go_wp2_with fail
    refine av.out.mono ?_;rintro e w2 ⟨rfl,M2,i2,m2,j6,b2⟩;have I2:=CS i2;have MP2:=CS m2;have gD:Hid (∀g,M2 g->M g\/w1.heap.size<=g):=CS λg hg=>by
     rcases j6 g hg with h|h
     ·exact dH.out g h
     ·exact .inr (by simp at h;omega)
    have C2:=CS ((C1.out.alloc _).trans' b2 (λg hg h=>by
     rcases h with h|h
     ·rcases dH.out g h with h|h
      ·exact .inl h
      ·omega
     ·exact .inr h))
    clear i2 m2 j6 b2 av;go_wp2_with fail
    go_roundg (m-(i+1))
    case measure=>omega
    case rel =>
     refine⟨i+1,M2,rfl,by go_num,by omega,?_,MP2.out,gD.out,C2.out⟩;have:=I2.out;rw[tM.out,vz.out,show c+2*(zaf ((kids t).take i)+u.size)=c+2*zaf ((kids t).take i)+2*u.size-0 by omega]
     exact this
   ·have aU:(kids t).take i=kids t:=AK (by rw[iC.out];omega)
    have aQ:=CS aU;clear aU;go_wp2_with fail
    have hkc:∀k,w.heap.size+1<=k->k<=w.heap.size+1+3->wr.heap[k]?=w1.heap[k]?:=λk h1 h2=>C1.out.block k (by omega) (λh=>by
     rcases h with h|h
     ·have:=aC.out k h;omega
     ·omega)
    refine leaves_cons (f:=151) (args:=#[.pointer (some ⟨w.heap.size+1+3,0,none⟩),.pointer (some ⟨w.heap.size+1+2,0,none⟩),.pointer (some ⟨w.heap.size+1,0,none⟩),.pointer (some ⟨w.heap.size+1+1,0,none⟩)]) (by simp) (by simp[go_sem]) ?_;refine(zed (w.heap.size+1) mb (ones env) X 1 .returning wr (r6.out.keep hkc) jA.out eB.out (by unfold maxLen;omega) (by unfold ones;simp;omega)).mono ?_;rintro e u' w2 ⟨rfl,rfl,m2,b2⟩;have gu:¬M1 mb:=λh=>by
     rcases dH.out mb h with h|h
     ·exact qv.out h
     ·omega
    have eK:=hI.lt _ _ _ _ I1.out;refine⟨.tuple #[],results_none rfl _ _ _,rfl,M1,?_,m2,λg hg=>?_,(C0.out.trans C1.out).trans' b2 (λg _ h=>.inr h)⟩
    ·have:=hI.keep _ _ _ _ w2 I1.out b2.size (λg hg=>b2.block g (eK g hg) (λh=>gu (by rw[<-show g=mb from h];exact hg)))
     rw[aQ.out]at this
     rw[show c+2*t.size-2=c+2*zaf (kids t) by omega]
     exact this
    ·rcases dH.out g hg with h|h
     ·exact .inl h
     ·exact .inr (by omega)
 ·have d5:((K:Int)==5)=false:=by rw[hK];exact kF _ 5 aO
  have lT:envOf env t=env:=by cases t <;> first|rfl|(simp[kd]at aO)
  show Calls _ _ _ _ (TPst mb I env (c+2*t.size-2) (thrL fc fl (envOf env t) (kids t) s) M w);rw[lT]
  rw[lT]at mn
  have HWF:=CS mn;clear mn;clear hK hX ed ha hS dp hn az hv hi hm aO lT;unfold fnV;go_enter_defers Tryz.func152,Tryz.ntmps152
  go_wp2_with fail
  go_loopg [20] m (λgg vi wr=>zoI mb m I fc fl env (kids t) c s M w.heap.size w gg vi wr)
  case atStart =>
   exact⟨0,M,rfl,rfl,by omega,by rw[Ba,zaf,thrL];exact eN.out,aX.out,λg hg=>.inl hg,(Chg.refl _ w).alloc _⟩
  case round =>
   obtain⟨i,M1,rfl,rfl,hi,i1,jJ,fY,c1⟩:=hrel;have I1:=CS i1;have jA:=CS jJ;have dH:=CS fY;have C1:=CS c1;have aF:=c1.size;clear i1 jJ fY c1;by_cases ah:i<m
   ·have ic:∀g,S g->wr.heap[g]?=w.heap[g]?:=λg hg=>C1.out.block g (HS.out g hg).1 (λh=>by rcases h with h|h;exact(HS.out g hg).2.1 h;exact(HS.out g hg).2.2 h)
    obtain⟨g,u,K1,X1,Z1,A1,n1,c1,rfl,hg,e0,e1,e2,e3,hu,aK,aD,-,-⟩:=zce (w':=wr) HA.out iC.out ah ic;have ik:=zbV e0;have ei:u.size<=n:=by have:=HN.out;omega
    have cK:Nm u:=by obtain⟨fx,rfl⟩:=hu;exact mc.out i fx
    have gm:=zcf (kids t) i u hu;have so:=zbF (kids t) (i+1);have tM:=CS gm;have vz:=CS (zhd fc fl env (kids t) i u s hu);have nO:∀g,S g->g<(wr.alloc (.cells #[.int .i64 K1,.string X1,.int .i64 Z1,.slice A1 n1 c1] 37)).heap.size/\¬M1 g/\g≠mb:=λg hg=>by
     obtain⟨x1,x2,x3⟩:=HS.out g hg;refine⟨by simp;omega,λh=>?_,x3⟩;rcases dH.out g h with h|h
     ·exact x2 h
     ·omega
    have gu:¬M1 mb:=λh=>by
     rcases dH.out mb h with h|h
     ·exact qv.out h
     ·omega
    have eK:=hI.lt _ _ _ _ I1.out;have aq:=HT (c+2*zaf ((kids t).take i)) (thrL fc fl env ((kids t).take i) s) M1 env u S (.agg #[.int .i64 K1,.string X1,.int .i64 Z1,.slice A1 n1 c1]) (wr.alloc (.cells #[.int .i64 K1,.string X1,.int .i64 Z1,.slice A1 n1 c1] 37)) ei (by omega)
     (hI.keep _ _ _ _ _ I1.out (by simp) (λg hg=>Below.heap_alloc _ _ _ (eK g hg))) (jA.out.keep (Below.heap_alloc _ _ _ jA.out.lt)) gu (aK.keep (λ_ h=>h) (λg hg=>Below.heap_alloc _ _ _ (by have:=HS.out g hg;omega))) nO cK (by omega) (by omega) (HWF.out i u hu)
    unfold fnV at aq;have av:=CS aq;clear aK hu cK gm nO gu eK aq;go_wp2_with fail
    refine av.out.mono ?_;rintro e w2 ⟨rfl,M2,i2,m2,j6,b2⟩;have I2:=CS i2;have MP2:=CS m2;have gD:Hid (∀g,M2 g->M g\/w.heap.size<=g):=CS λg hg=>by
     rcases j6 g hg with h|h
     ·exact dH.out g h
     ·exact .inr (by simp at h;omega)
    have C2:=CS ((C1.out.alloc _).trans' b2 (λg hg h=>by
     rcases h with h|h
     ·rcases dH.out g h with h|h
      ·exact .inl h
      ·omega
     ·exact .inr h))
    clear i2 m2 j6 b2 av;go_wp2_with fail
    go_roundg (m-(i+1))
    case measure=>omega
    case rel =>
     refine⟨i+1,M2,rfl,by go_num,by omega,?_,MP2.out,gD.out,C2.out⟩;have:=I2.out;rw[tM.out,vz.out,show c+2*(zaf ((kids t).take i)+u.size)=c+2*zaf ((kids t).take i)+2*u.size-0 by omega]
     exact this
   ·have aU:(kids t).take i=kids t:=AK (by rw[iC.out];omega)
    have aQ:=CS aU;clear aU;go_wp2_with fail
    refine⟨.tuple #[],results_none rfl _ _ _,rfl,M1,?_,jA.out,dH.out,C1.out⟩;have:=I1.out;rw[aQ.out]at this
    rw[show c+2*t.size-2=c+2*zaf (kids t) by omega]
    exact this
set_option maxRecDepth 100000
theorem zlN {σ:Type}(n kc kl:Nat)(cc cl:Array Value)(mb:Nat)(I:Nat->σ->(Nat->Prop)->World->Prop)(pl:List Name->Ty->σ->Prop)(fc fl:List Name->Ty->σ->σ)(hI:Inv I)
  (ec:∀args w,(callFunc kc args).run Tryz.prog w=.ok (.enter kc args) w)(el:∀args w,(callFunc kl args).run Tryz.prog w=.ok (.enter kl args) w)
  (HC:Vis kc cc mb I fc)(HL:VisP kl cl mb I pl fl):zfc n kc kl cc cl mb I 108 (WfT pl fc fl) (thr fc fl) 0:=by
 induction n with
 |zero=>intro c s M env t S v w hn;rw[zaj]at hn;omega
 |succ n ih=>exact zkF (n+1) kc kl cc cl mb I pl fc fl hI ec el HC HL (zgJ n kc kl cc cl mb I pl fc fl hI ih)
theorem zjQ {σ:Type}(n kc kl:Nat)(cc cl:Array Value)(mb:Nat)(I:Nat->σ->(Nat->Prop)->World->Prop)(fc fl:List Name->Ty->σ->σ)(hI:Inv I)
  (ec:∀args w,(callFunc kc args).run Tryz.prog w=.ok (.enter kc args) w)(el:∀args w,(callFunc kl args).run Tryz.prog w=.ok (.enter kl args) w)
  (HC:Vis kc cc mb I fc)(HL:Vis kl cl mb I fl):zfc n kc kl cc cl mb I 108 (λ_ _ _=>True) (thr fc fl) 0 :=
 λc s M env t S v w h1 h2 h3 h4 h5 h6 h7 h8 h9 eP _=>zlN n kc kl cc cl mb I (λ_ _ _=>True) fc fl hI ec el HC (HL.p _) c s M env t S v w h1 h2 h3 h4 h5 h6 h7 h8 h9 eP (zpb fc fl n t env s h1)
def isLf(env:List Name):Ty->Bool
 |.var x=>decide (x∉env)
 |.mt _=>true
 |_=>false
theorem zlO(t:Ty)(env:List Name):((kd t:Int)==2)=true/\isLf env t=true\/((kd t:Int)==2)=false/\((kd t:Int)==1)=true/\isLf env t=decide ((nmB t).data.toList∉env)\/((kd t:Int)==2)=false/\((kd t:Int)==1)=false/\isLf env t=false:=by
 cases t with
 |var x=>exact .inr (.inl ⟨rfl,rfl,rfl⟩)
 |mt n=>exact .inl ⟨rfl,rfl⟩
 |con c l=>exact .inr (.inr ⟨rfl,rfl,rfl⟩)
 |fn a b=>exact .inr (.inr ⟨rfl,rfl,rfl⟩)
 |all x t=>exact .inr (.inr ⟨rfl,rfl,rfl⟩)
theorem zhe(mb:Nat)(env:List Name)(t:Ty)(S:Nat->Prop)(v:Value)(w:World)(hv:RdV S w t v)(hm:MapE mkInt w mb (ones env))(az:Nm t):Calls Tryz.prog 110 #[v,.map (some mb)] w λe w'=>e=.returned (.bool (isLf env t))/\Below w.heap.size w w':=by
 obtain⟨K,X,Z,A,m,c,rfl,hK,hX,-,-,-⟩:=hv.parts;have hw:=zlO t env;rw[<-hK,<-hX]at hw
 have bT:X.size<=maxLen:=by have:=zbo az;rw[<-hX]at this;unfold maxLen;omega
 have aX:=hm.keep (w':=w.alloc (.cells #[.int .i64 K,.string X,.int .i64 Z,.slice A m c] 37)) (Below.heap_alloc _ _ _ hm.lt);have aR:=aX.get X bT;rw[zlL]at aR
 have bV:(Instr.lookup 116 (.map (some mb)) (.string X) false).run Tryz.prog (w.alloc (.cells #[.int .i64 K,.string X,.int .i64 Z,.slice A m c] 37))=.ok (mkInt.valO (if X.data.toList∈env then some 1 else none)) (w.alloc (.cells #[.int .i64 K,.string X,.int .i64 Z,.slice A m c] 37)):=aR;obtain⟨q,hq⟩:∃q,isLf env t=q:=⟨_,rfl⟩;rw[hq]at hw ⊢
 clear hK hX hv hm az aX aR bT hq;rcases hw with⟨d2,rfl⟩|⟨d2,d1,hr⟩|⟨d2,d1,rfl⟩
 ·go_enter Tryz.func110,Tryz.ntmps110
  go_wp2
  go_ret
  exact⟨rfl,(Below.refl _ w).alloc (Ai _) _⟩
 ·by_cases hin:X.data.toList∈env
  ·rw[Aq hin]at bV
   have HR:Hid (q=false):=CS (by rw[hr];simpa using hin);replace bV:(Instr.lookup 116 (.map (some mb)) (.string X) false).run Tryz.prog (w.alloc (.cells #[.int .i64 K,.string X,.int .i64 Z,.slice A m c] 37))=.ok (.int .i64 1) (w.alloc (.cells #[.int .i64 K,.string X,.int .i64 Z,.slice A m c] 37)):=bV;clear hr hin;go_enter Tryz.func110,Tryz.ntmps110
   go_wp2
   go_ret
   exact⟨zax HR.out.symm,(Below.refl _ w).alloc (Ai _) _⟩
  ·rw[Am hin]at bV
   have HR:Hid (q=true):=CS (by rw[hr];simpa using hin);replace bV:(Instr.lookup 116 (.map (some mb)) (.string X) false).run Tryz.prog (w.alloc (.cells #[.int .i64 K,.string X,.int .i64 Z,.slice A m c] 37))=.ok (.int .i64 0) (w.alloc (.cells #[.int .i64 K,.string X,.int .i64 Z,.slice A m c] 37)):=bV;clear hr hin;go_enter Tryz.func110,Tryz.ntmps110
   go_wp2
   go_ret
   exact⟨zax HR.out.symm,(Below.refl _ w).alloc (Ai _) _⟩
 ·clear bV
  go_enter Tryz.func110,Tryz.ntmps110
  go_wp2
  go_ret
  exact⟨rfl,(Below.refl _ w).alloc (Ai _) _⟩
section
variable {σ:Type}
def Doer(k:Nat)(cN:Array Value)(I:Nat->σ->(Nat->Prop)->World->Prop)(g:Ty->σ->σ):Prop :=
 ∀(c:Nat) (s:σ) (M:Nat->Prop) (t:Ty) (S:Nat->Prop) (v:Value) (w:World),
  I c s M w->RdV S w t v->(∀g,S g->g<w.heap.size/\¬M g)->Nm t->c<10000000 ->
  Calls Tryz.prog k (#[v]++cN) w λe w'=>e=.returned (.tuple #[])/\∃M',I (c+1) (g t s) M' w'/\(∀g,M' g->M g\/w.heap.size<=g)/\Chg M w w'
def With2(I:Nat->σ->(Nat->Prop)->World->Prop)(bb db:Nat)(x y:Array Value)(tx ty:TypeId)(c:Nat)(s:σ)(M2:Nat->Prop)(w:World):Prop :=
 ∃M,(∀g,M2 g↔M g\/g=bb\/g=db)/\I c s M w/\¬M bb/\¬M db/\Blk w bb tx x/\Blk w db ty y
theorem With2.inv {I:Nat->σ->(Nat->Prop)->World->Prop}(hI:Inv I)(bb db:Nat)(x y:Array Value)(tx ty:TypeId):Inv (With2 I bb db x y tx ty) where
 mono c c' s M2 w:=λ⟨M,h1,h2,h3⟩ hc=>⟨M,h1,hI.mono _ _ _ _ _ h2 hc,h3⟩
 lt c s M2 w:=λ⟨M,h1,h2,h3,h4,h5,h6⟩ g hg=>by
  rcases(h1 g).1 hg with h|h|h
  ·exact hI.lt _ _ _ _ h2 g h
  ·rw[h];exact h5.lt
  ·rw[h];exact h6.lt
 keep c s M2 w w':=λ⟨M,h1,h2,h3,h4,h5,h6⟩ hs hk =>
  ⟨M,h1,hI.keep _ _ _ _ _ h2 hs (λg hg=>hk g ((h1 g).2 (.inl hg))),h3,h4,h5.same (hk bb ((h1 bb).2 (.inr (.inl rfl)))),h6.same (hk db ((h1 db).2 (.inr (.inr rfl))))⟩
def atLeaf(g:Ty->σ->σ)(env:List Name)(t:Ty)(s:σ):σ:=if isLf env t=true then g t s else s
end
theorem znG {σ:Type}(k:Nat)(cN:Array Value)(mb bb db:Nat)(I:Nat->σ->(Nat->Prop)->World->Prop)(g:Ty->σ->σ)(hI:Inv I)(ek:∀args w,(callFunc k args).run Tryz.prog w=.ok (.enter k args) w)(HD:Doer k cN I g):Vis 109 #[.pointer (some ⟨bb,0,none⟩),.pointer (some ⟨db,0,none⟩)] mb (With2 I bb db #[.map (some mb)] #[fnV k cN] 116 125) (atLeaf g):=by
 intro c s M2 env t S v w dJ hm dp hv hS az aD hc;obtain⟨M,j6,hi,cL,hdb,aw,aT⟩:=dJ;obtain⟨K,X,Z,A,m,cp,rfl,-,-,-,-,-⟩:=hv.parts;have jZ:∀g,S g->g<w.heap.size/\¬M g/\g≠bb/\g≠db:=λg hg=>⟨(hS g hg).1,λh=>(hS g hg).2 ((j6 g).2 (.inl h)),λh=>(hS g hg).2 ((j6 g).2 (.inr (.inl h))),λh=>(hS g hg).2 ((j6 g).2 (.inr (.inr h)))⟩;have ah:=hI.lt _ _ _ _ hi;have dm:RdV S (w.alloc (.cells #[.int .i64 K,.string X,.int .i64 Z,.slice A m cp] 37)) t (.agg #[.int .i64 K,.string X,.int .i64 Z,.slice A m cp]):=hv.keep (λ_ h=>h) (λg hg=>Below.heap_alloc _ _ _ (hS g hg).1);have hL:=zhe mb env t S _ _ dm (hm.keep (Below.heap_alloc _ _ _ hm.lt)) az;obtain⟨q,hq⟩:∃q,isLf env t=q:=⟨_,rfl⟩;have aI:atLeaf g env t s=if q=true then g t s else s:=by rw[atLeaf,hq]
 rw[hq]at hL
 rw[aI]
 obtain⟨x0,-,l0⟩:=zad aw;obtain⟨y0,-,l1⟩:=zad aT;have HL:=CS hL;have HI:=CS hi;have gD:=CS j6;have HS:=CS jZ;have HV:=CS hv;have bN:=CS aw;have bQ:=CS aT;have bK:=CS az;have qD:=CS cL;have HDB:=CS hdb;have aC:=CS ah;clear hL hi j6 jZ hS hv dm aw aT az cL hdb ah hq aI hm dp;have e0:(#[Value.agg #[.int .i64 K,.string X,.int .i64 Z,.slice A m cp]]++#[Value.pointer (some ⟨bb,0,none⟩),.pointer (some ⟨db,0,none⟩)])=#[.agg #[.int .i64 K,.string X,.int .i64 Z,.slice A m cp],.pointer (some ⟨bb,0,none⟩),.pointer (some ⟨db,0,none⟩)]:=rfl;rw[e0]
 clear e0;unfold fnV at y0;go_enter Tryz.func109,Tryz.ntmps109
 go_wp2_with fail
 refine HL.out.mono ?_;rintro e w1 ⟨rfl,b1⟩;have aF:=b1.size;simp at aF;have an:=Blk.below (heap_alloc_new w (.cells #[.int .i64 K,.string X,.int .i64 Z,.slice A m cp] 37)) b1 (by simp);obtain⟨p0,p1,p2,p3,s0,s1,s2,s3,di⟩:=zaa an;have jy:=zaC b1 (Ai _);have jG:=CS (bN.out.below jy l0);have qB:=CS (bQ.out.below jy l1);obtain⟨x1,-,-⟩:=zad jG.out;obtain⟨y1,-,-⟩:=zad qB.out;unfold fnV at y1;have I1:=CS (hI.keep _ _ _ _ w1 HI.out jy.size (λg hg=>jy.block g (aC.out g hg)));have fK:=CS (HV.out.keep (λ_ h=>h) (λg hg=>jy.block g (HS.out g hg).1));have lO:=CS jy;clear an b1 jy HL;cases q with
 |false =>
  go_wp2_with fail
  first|go_end0|refine bodyPost_ret (results_none rfl _ _ _) rfl ?_
  exact⟨rfl,M2,⟨M,gD.out,hI.mono _ _ _ _ _ I1.out (by omega),qD.out,HDB.out,jG.out,qB.out⟩,λg hg=>.inl hg,Chg.of_below lO.out⟩
 |true =>
  go_wp2_with fail
  refine(HD c s M t S _ w1 I1.out fK.out (λg hg=>⟨by have:=(HS.out g hg).1;omega,(HS.out g hg).2.1⟩) bK.out hc).mono ?_;rintro e w2 ⟨rfl,M',i2,fi,b2⟩;have C2:=CS b2;have I2:=CS i2;have ud:=CS fi;clear b2 i2 fi;go_wp2_with fail
  first|go_end0|refine bodyPost_ret (results_none rfl _ _ _) rfl ?_
  refine⟨rfl,λg=>M' g\/g=bb\/g=db,⟨M',λg=>Iff.rfl,I2.out,λh=>?_,λh=>?_,jG.out.chg C2.out qD.out,qB.out.chg C2.out HDB.out⟩,λg hg=>?_,?_⟩
  ·rcases ud.out _ h with h|h
   ·exact qD.out h
   ·omega
  ·rcases ud.out _ h with h|h
   ·exact HDB.out h
   ·omega
  ·rcases hg with h|h|h
   ·rcases ud.out _ h with h|h
    ·exact .inl ((gD.out g).2 (.inl h))
    ·exact .inr (by omega)
   ·exact .inl ((gD.out g).2 (.inr (.inl h)))
   ·exact .inl ((gD.out g).2 (.inr (.inr h)))
  ·exact(Chg.of_below (M:=M2) lO.out).trans' C2.out (λg _ h=>(gD.out g).2 (.inl h))
theorem zim {σ:Type}(k:Nat)(mb:Nat)(I:Nat->σ->(Nat->Prop)->World->Prop)(hI:Inv I)
  (H:∀(K:Int)(X:ByteArray)(Z:Int)(A:Option Addr)(m c:Nat)(w:World),Calls Tryz.prog k #[.agg #[.int .i64 K,.string X,.int .i64 Z,.slice A m c]] w λe w'=>e=.returned (.tuple #[])/\Below w.heap.size w w'):Vis k #[] mb I (λ_ _ s=>s):=by
 intro c s M env t S v w hi hm dp hv hS az aD hc;obtain⟨K,X,Z,A,m,cp,rfl,-,-,-,-,-⟩:=hv.parts;refine(H K X Z A m cp w).mono ?_;rintro e w' ⟨rfl,b⟩;exact⟨rfl,M,hI.mono _ _ _ _ _ (hI.keep _ _ _ _ w' hi b.size (λg hg=>b.block g (hI.lt _ _ _ _ hi g hg))) (by omega),λg hg=>.inl hg,Chg.of_below b⟩
theorem zkH(K:Int)(X:ByteArray)(Z:Int)(A:Option Addr)(m c:Nat)(w:World):Calls Tryz.prog 111 #[.agg #[.int .i64 K,.string X,.int .i64 Z,.slice A m c]] w λe w'=>e=.returned (.tuple #[])/\Below w.heap.size w w':=by
 go_enter Tryz.func111,Tryz.ntmps111
 go_wp2
 first|go_end0|refine bodyPost_ret (results_none rfl _ _ _) rfl ?_
 exact⟨rfl,(Below.refl _ w).alloc (Ai _) _⟩
end Go.Proofs.YtfafilmklhnngaaGreatDoor
