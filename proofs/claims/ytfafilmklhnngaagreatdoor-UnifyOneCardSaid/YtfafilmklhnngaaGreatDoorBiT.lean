import Derived.Test.YtfafilmklhnngaaGreatDoorBiS
import Derived.Test.YtfafilmklhnngaaGreatDoorBiP
set_option maxHeartbeats 12800000
namespace Go.Proofs.YtfafilmklhnngaaGreatDoor
open Go.RowKit Lx Tx Go.Maps Go.WideMaps
set_option maxRecDepth 100000
section
variable {σ:Type}
def ones(env:List Name):List (Name × Nat):=env.map λx=>(x,1)
theorem zkH(x:Name)(env:List Name):look x (ones env)=if x∈env then some 1 else none:=by
 induction env with
 |nil=>rfl
 |cons y r ih =>
  show(if y=x then some 1 else look x (ones r))=_;rw[ih]
  by_cases h:y=x
  ·rw[if_pos h,if_pos (by rw[h];exact List.mem_cons_self)]
  ·rw[if_neg h]
   by_cases h2:x∈r
   ·rw[if_pos h2,if_pos (List.mem_cons_of_mem _ h2)]
   ·rw[if_neg h2,if_neg (λe=>by rcases List.mem_cons.1 e with e|e;exact h e.symm;exact h2 e)]
def envOf(env:List Name):Ty->List Name
 |.all x _=>x::env
 |_=>env
mutual
def thr(fc fl:List Name->Ty->σ->σ)(env:List Name):Ty->σ->σ
 |.var x,s=>fl env (.var x) (fc env (.var x) s)
 |.mt n,s=>fl env (.mt n) (fc env (.mt n) s)
 |.con c l,s=>fl env (.con c l) (thrL fc fl env l (fc env (.con c l) s))
 |.fn a b,s=>fl env (.fn a b) (thr fc fl env b (thr fc fl env a (fc env (.fn a b) s)))
 |.all x t,s=>fl env (.all x t) (thr fc fl (x::env) t (fc env (.all x t) s))
def thrL(fc fl:List Name->Ty->σ->σ)(env:List Name):List Ty->σ->σ
 |[],s=>s
 |t::r,s=>thrL fc fl env r (thr fc fl env t s)
end
theorem zmt(fc fl:List Name->Ty->σ->σ)(env:List Name)(t:Ty)(s:σ):thr fc fl env t s=fl env t (thrL fc fl (envOf env t) (kids t) (fc env t s)):=by
 cases t <;> rw[thr,kids] <;> simp[thrL,envOf]
theorem zkI(fc fl:List Name->Ty->σ->σ)(env:List Name)(l:List Ty)(t:Ty)(s:σ):thrL fc fl env (l++[t]) s=thr fc fl env t (thrL fc fl env l s):=by
 induction l generalizing s with
 |nil=>rw[List.nil_append,thrL,thrL,thrL]
 |cons a r ih=>rw[List.cons_append,thrL,thrL,ih]
structure Inv (I:Nat->σ->(Nat->Prop)->World->Prop):Prop where
 mono:∀c c' s M w,I c s M w->c<=c'->I c' s M w
 lt:∀c s M w,I c s M w->∀g,M g->g<w.heap.size
 keep:∀c s M w w',I c s M w->w.heap.size<=w'.heap.size->(∀g,M g->w'.heap[g]?=w.heap[g]?)->I c s M w'
def Vis(k:Nat)(caps:Array Value)(mb:Nat)(I:Nat->σ->(Nat->Prop)->World->Prop)(f:List Name->Ty->σ->σ):Prop :=
 ∀(c:Nat) (s:σ) (M:Nat->Prop) (env:List Name) (t:Ty) (S:Nat->Prop) (v:Value) (w:World),
  I c s M w->MapE mkInt w mb (ones env)->¬M mb->RdV S w t v->(∀g,S g->g<w.heap.size/\¬M g)->Nm t->t.size<=1000000->c<10000000 ->
  Calls Tryz.prog k (#[v]++caps) w λe w'=>e=.returned (.tuple #[])/\∃M',I (c+1) (f env t s) M' w'/\(∀g,M' g->M g\/w.heap.size<=g)/\Chg M w w'
def fnV(k:Nat)(caps:Array Value):Value:=.func (.func k) #[] caps
def TPst(mb:Nat)(I:Nat->σ->(Nat->Prop)->World->Prop)(env:List Name)(c:Nat)(s:σ)(M:Nat->Prop)(w:World)(e:Ending)(w':World):Prop :=
 e=.returned (.tuple #[])/\∃M',I c s M' w'/\MapE mkInt w' mb (ones env)/\(∀g,M' g->M g\/w.heap.size<=g)/\Chg (λg=>M g\/g=mb) w w'
def VisP(k:Nat)(caps:Array Value)(mb:Nat)(I:Nat->σ->(Nat->Prop)->World->Prop)(pl:List Name->Ty->σ->Prop)(f:List Name->Ty->σ->σ):Prop :=
 ∀(c:Nat) (s:σ) (M:Nat->Prop) (env:List Name) (t:Ty) (S:Nat->Prop) (v:Value) (w:World),
  I c s M w->MapE mkInt w mb (ones env)->¬M mb->RdV S w t v->(∀g,S g->g<w.heap.size/\¬M g)->Nm t->t.size<=1000000->c<10000000->pl env t s ->
  Calls Tryz.prog k (#[v]++caps) w λe w'=>e=.returned (.tuple #[])/\∃M',I (c+1) (f env t s) M' w'/\(∀g,M' g->M g\/w.heap.size<=g)/\Chg M w w'
theorem Vis.p {k:Nat} {caps:Array Value} {mb:Nat} {I:Nat->σ->(Nat->Prop)->World->Prop} {f:List Name->Ty->σ->σ}(h:Vis k caps mb I f)(pl:List Name->Ty->σ->Prop):VisP k caps mb I pl f :=
 λc s M env t S v w h1 h2 h3 h4 h5 h6 h7 h8 _=>h c s M env t S v w h1 h2 h3 h4 h5 h6 h7 h8
inductive WfT (pl:List Name->Ty->σ->Prop) (fc fl:List Name->Ty->σ->σ):List Name->Ty->σ->Prop
 |mk (env:List Name) (t:Ty) (s:σ) (hk:∀i u,(∃hi:i<(kids t).length,(kids t)[i]=u)->WfT pl fc fl (envOf env t) u (thrL fc fl (envOf env t) ((kids t).take i) (fc env t s)))
   (hp:pl env t (thrL fc fl (envOf env t) (kids t) (fc env t s))):WfT pl fc fl env t s
def WfK(pl:List Name->Ty->σ->Prop)(fc fl:List Name->Ty->σ->σ)(env:List Name)(t:Ty)(s:σ):Prop :=
 ∀i u,(∃hi:i<(kids t).length,(kids t)[i]=u)->WfT pl fc fl (envOf env t) u (thrL fc fl (envOf env t) ((kids t).take i) s)
theorem WfT.inn {pl:List Name->Ty->σ->Prop} {fc fl:List Name->Ty->σ->σ} {env:List Name} {t:Ty} {s:σ}(h:WfT pl fc fl env t s):WfK pl fc fl env t (fc env t s):=by
 cases h with
 |mk _ _ _ hk _=>exact hk
theorem WfT.left {pl:List Name->Ty->σ->Prop} {fc fl:List Name->Ty->σ->σ} {env:List Name} {t:Ty} {s:σ}(h:WfT pl fc fl env t s):pl env t (thrL fc fl (envOf env t) (kids t) (fc env t s)):=by
 cases h with
 |mk _ _ _ _ hp=>exact hp
theorem znY(fc fl:List Name->Ty->σ->σ)(n:Nat):∀(t:Ty)(env:List Name)(s:σ),t.size<=n->WfT (λ_ _ _=>True) fc fl env t s:=by
 induction n with
 |zero=>intro t env s h;rw[zas]at h;omega
 |succ n ih =>
  intro t env s h;refine .mk _ _ _ (λi u hu=>ih u _ _ ?_) trivial;obtain⟨hi,rfl⟩:=hu;have:=ze4 t i hi;omega
def zeF(n:Nat)(kc kl:Nat)(cc cl:Array Value)(mb:Nat)(I:Nat->σ->(Nat->Prop)->World->Prop)(F:Nat)(wf:List Name->Ty->σ->Prop)(th:List Name->Ty->σ->σ)(d:Nat):Prop :=
 ∀(c:Nat) (s:σ) (M:Nat->Prop) (env:List Name) (t:Ty) (S:Nat->Prop) (v:Value) (w:World),t.size<=n->n<=1000000 ->
  I c s M w->MapE mkInt w mb (ones env)->¬M mb->RdV S w t v->(∀g,S g->g<w.heap.size/\¬M g/\g≠mb)->Nm t->c+2*t.size<=10000000+d->env.length+t.size<=100000000->wf env t s ->
  Calls Tryz.prog F #[v,.map (some mb),fnV kc cc,fnV kl cl] w (TPst mb I env (c+2*t.size-d) (th env t s) M w)
end
theorem zjA {σ:Type}(n kc kl:Nat)(cc cl:Array Value)(mb:Nat)(I:Nat->σ->(Nat->Prop)->World->Prop)(pl:List Name->Ty->σ->Prop)(fc fl:List Name->Ty->σ->σ)(hI:Inv I)
  (ec:∀args w,(callFunc kc args).run Tryz.prog w=.ok (.enter kc args) w)(el:∀args w,(callFunc kl args).run Tryz.prog w=.ok (.enter kl args) w)
  (HC:Vis kc cc mb I fc)(HL:VisP kl cl mb I pl fl)
  (HA:zeF n kc kl cc cl mb I 152 (WfK pl fc fl) (λenv t s=>thrL fc fl (envOf env t) (kids t) s) 2):zeF n kc kl cc cl mb I 108 (WfT pl fc fl) (thr fc fl) 0:=by
 intro c s M env t S v w hn h6 hi hm hmb hv hS hnm hc hlen hwf;have HWK:=hidE hwf.inn;have HWL:=hidE hwf.left;clear hwf;obtain⟨K,X,Z,A,m,cp,rfl,-,-,-,-,-⟩:=hv.parts;have hml:=hm.lt;have hts:1<=t.size:=by rw[zas];omega
 have HV:=hidE hv;have HI:=hidE hi;have HM:=hidE hm;have HS:=hidE hS;have HLT:=hidE (hI.lt c s M w hi);have hi1:=hidE (hI.keep c s M w (w.alloc (.cells #[.int .i64 K,.string X,.int .i64 Z,.slice A m cp] 37)) hi (by simp) (λg hg=>Below.heap_alloc _ _ _ (hI.lt c s M w hi g hg)));have hm1:=hidE (hm.keep (w':=w.alloc (.cells #[.int .i64 K,.string X,.int .i64 Z,.slice A m cp] 37)) (Below.heap_alloc _ _ _ hml));have hv1:Hid (RdV S (w.alloc (.cells #[.int .i64 K,.string X,.int .i64 Z,.slice A m cp] 37)) t (.agg #[.int .i64 K,.string X,.int .i64 Z,.slice A m cp])):=hidE (hv.keep (λ_ h=>h) (λg hg=>Below.heap_alloc _ _ _ (hS g hg).1));have HMB:=hidE hmb;have HNM:=hidE hnm;have HN:=hidE hn;clear hi hm hmb hv hS hnm hn;unfold fnV;go_enter Tryz.func108,Tryz.ntmps108
 go_wp2_with fail
 refine(HC c s M env t S _ _ hi1.out hm1.out HMB.out hv1.out (λg hg=>⟨by have:=HS.out g hg;simp;omega,(HS.out g hg).2.1⟩) HNM.out (by have:=HN.out;omega) (by omega)).mono ?_;rintro e w1 ⟨rfl,M1,i1,hM1,b1⟩;have hs1:=b1.size;simp at hs1;have hq:¬M1 w.heap.size:=λh=>by
  rcases hM1 _ h with h|h
  ·exact absurd (HLT.out _ h) (Nat.lt_irrefl _)
  ·simp at h;omega
 have hbk:=Blk.chg (heap_alloc_new w (.cells #[.int .i64 K,.string X,.int .i64 Z,.slice A m cp] 37)) b1 (λh=>absurd (HLT.out _ h) (Nat.lt_irrefl _));obtain⟨p0,p1,p2,p3,s0,s1,s2,s3,hlx⟩:=zaa hbk;have hM1':Hid (∀g,M1 g->M g\/w.heap.size+1<=g):=hidE λg hg=>by have:=hM1 g hg;simpa using this
 have HBK:=hidE hbk;have I1:=hidE i1;have hS1:Hid (∀g,S g->g<w1.heap.size/\¬M1 g/\g≠mb):=hidE λg hg=>by
  obtain⟨x1,x2,x3⟩:=HS.out g hg;refine⟨by omega,λh=>?_,x3⟩;rcases hM1'.out g h with h|h
  ·exact x2 h
  ·omega
 have hmb1:Hid (¬M1 mb):=hidE λh=>by
  rcases hM1'.out mb h with h|h
  ·exact HMB.out h
  ·omega
 have HV1:=hidE (hv1.out.keep (λ_ h=>h) (λg hg=>b1.block g (by have:=HS.out g hg;simp;omega) (HS.out g hg).2.1));have HM1:=hidE (hm1.out.keep (b1.block mb (by simp;omega) HMB.out));have C1:=hidE ((((Chg.refl M w).alloc (.cells #[.int .i64 K,.string X,.int .i64 Z,.slice A m cp] 37)).trans b1));clear b1 i1 hM1 hbk hi1 hm1 hv1;go_wp2_with fail
 have hA:=HA (c+1) (fc env t s) M1 env t S _ w1 HN.out h6 I1.out HM1.out hmb1.out HV1.out hS1.out HNM.out (by omega) hlen HWK.out;unfold fnV at hA;refine hA.mono ?_;rintro e w2 ⟨rfl,M2,i2,m2,hM2,b2⟩;have hs2:=b2.size;have hbk:=HBK.out.chg b2 (λh=>by rcases h with h|h;exact hq h;omega);obtain⟨p0,p1,p2,p3,s0,s1,s2,s3,hlx2⟩:=zaa hbk;have hM2':Hid (∀g,M2 g->M g\/w.heap.size+1<=g):=hidE λg hg=>by
  rcases hM2 g hg with h|h
  ·exact hM1'.out g h
  ·exact .inr (by omega)
 have I2:=hidE i2;have HM2:=hidE m2;have hmb2:Hid (¬M2 mb):=hidE λh=>by
  rcases hM2'.out mb h with h|h
  ·exact HMB.out h
  ·omega
 have hS2:Hid (∀g,S g->g<w2.heap.size/\¬M2 g):=hidE λg hg=>by
  obtain⟨x1,x2,x3⟩:=HS.out g hg;refine⟨by omega,λh=>?_⟩;rcases hM2'.out g h with h|h
  ·exact x2 h
  ·omega
 have HV2:=hidE (HV1.out.keep (λ_ h=>h) (λg hg=>b2.block g (hS1.out g hg).1 (λh=>by rcases h with h|h;exact(hS1.out g hg).2.1 h;exact(hS1.out g hg).2.2 h)));have C2:=hidE ((C1.out.mono (λ_ _ h=>Or.inl h)).trans' b2 (M:=λg=>M g\/g=mb) (λg hg h=>by
  rcases h with h|h
  ·rcases hM1'.out g h with h|h
   ·exact .inl h
   ·omega
  ·exact .inr h))
 clear b2 i2 m2 hM2 hbk hA;go_wp2_with fail
 refine(HL (c+1+2*t.size-2) _ M2 env t S _ w2 I2.out HM2.out hmb2.out HV2.out hS2.out HNM.out (by have:=HN.out;omega) (by omega) HWL.out).mono ?_;rintro e w3 ⟨rfl,M3,i3,hM3,b3⟩;have hs3:=b3.size;have I3:=hidE i3;have HM3:=hidE (HM2.out.keep (b3.block mb HM2.out.lt hmb2.out));have C3:=hidE (C2.out.trans' b3 (λg hg h=>by
  rcases hM2'.out g h with h|h
  ·exact .inl h
  ·omega))
 have hM3':Hid (∀g,M3 g->M g\/w.heap.size<=g):=hidE λg hg=>by
  rcases hM3 g hg with h|h
  ·rcases hM2'.out g h with h|h
   ·exact .inl h
   ·exact .inr (by omega)
  ·exact .inr (by omega)
 clear b3 i3 hM3;go_wp2_with fail
 first|go_end0|refine bodyPost_ret (results_none rfl _ _ _) rfl ?_
 refine⟨rfl,M3,?_,HM3.out,hM3'.out,C3.out⟩;have:=I3.out;rw[zmt,show c+2*t.size-0=c+1+2*t.size-2+1 by omega]
 exact this
end Go.Proofs.YtfafilmklhnngaaGreatDoor
namespace Go.Proofs.YtfafilmklhnngaaGreatDoor
open Go.RowKit Lx Tx Go.Maps Go.WideMaps
set_option maxRecDepth 100000
theorem zbh {t:Ty}(h:Nm t):(nmB t).size<=24:=by
 have key:∀k x,Gd k x->k<=2->(⟨x.toArray⟩:ByteArray).size<=24:=by
  intro k x h hk;obtain⟨h1,h2,h3⟩:=h;show x.length<=24;cases x with
  |nil=>exact absurd rfl h1
  |cons c r =>
   rw[first]at h2
   split at h2
   ·unfold word at h2
    split at h2
    ·injection h2 with a _;omega
    ·injection h2 with _ b;omega
   ·split at h2
    ·exfalso
     rcases zay (c::r) with e|⟨e,_,_⟩ <;> rw[e]at h2 <;> injection h2 with a _ <;> omega
    ·split at h2
     ·exfalso
      unfold zba at h2;split at h2 <;> injection h2 with a _ <;> omega
     ·exfalso
      unfold sign at h2;split at h2
      ·injection h2 with a _;omega
      ·split at h2 <;> injection h2 with a _ <;> omega
 cases h with
 |var x h=>exact key 1 x h (by decide)
 |mt n _=>exact Nat.zero_le _
 |con c l h _=>exact key 2 c h (by decide)
 |fn a b _ _=>exact Nat.zero_le _
 |all x t h _=>exact key 1 x h (by decide)
section
variable {σ:Type}
def znv(mb m:Nat)(I:Nat->σ->(Nat->Prop)->World->Prop)(fc fl:List Name->Ty->σ->σ)(env:List Name)(l:List Ty)(c:Nat)(s:σ)(M:Nat->Prop)(B:Nat)(w0:World)(gg:Nat)(vi:Value)(wr:World):Prop :=
 ∃i M',gg=m-i/\vi=.int .i64 (i:Nat)/\i<=m/\I (c+2*zah (l.take i)) (thrL fc fl env (l.take i) s) M' wr/\MapE mkInt wr mb (ones env)/\(∀g,M' g->M g\/B<=g)/\Chg (λg=>M g\/g=mb) w0 wr
theorem zjB(l:List Ty)(t:Ty):zah (l++[t])=zah l+t.size:=by
 induction l with
 |nil=>simp[zah]
 |cons a r ih=>rw[List.cons_append,zah,zah,ih];omega
theorem zb4(l:List Ty)(i:Nat)(u:Ty)(hu:∃hi:i<l.length,l[i]=u):zah (l.take (i+1))=zah (l.take i)+u.size:=by
 obtain⟨hi,rfl⟩:=hu;rw[zbS l i hi,zjB]
theorem zbw(l:List Ty)(i:Nat):zah (l.take i)<=zah l:=by
 induction l generalizing i with
 |nil=>simp
 |cons t r ih =>
  cases i with
  |zero=>simp[zah]
  |succ i=>rw[List.take_succ_cons,zah,zah];have:=ih i;omega
theorem zgw(fc fl:List Name->Ty->σ->σ)(env:List Name)(l:List Ty)(i:Nat)(u:Ty)(s:σ)(hu:∃hi:i<l.length,l[i]=u):thrL fc fl env (l.take (i+1)) s=thr fc fl env u (thrL fc fl env (l.take i) s):=by
 obtain⟨hi,rfl⟩:=hu;rw[zbS l i hi,zkI]
end
theorem zf7 {σ:Type}(n kc kl:Nat)(cc cl:Array Value)(mb:Nat)(I:Nat->σ->(Nat->Prop)->World->Prop)(pl:List Name->Ty->σ->Prop)(fc fl:List Name->Ty->σ->σ)(hI:Inv I)
  (HT:zeF n kc kl cc cl mb I 108 (WfT pl fc fl) (thr fc fl) 0):zeF (n+1) kc kl cc cl mb I 152 (WfK pl fc fl) (λenv t s=>thrL fc fl (envOf env t) (kids t) s) 2:=by
 intro c s M env t S v w hn h6 hi hm hmb hv hS hnm hc hlen hwf;unfold WfK at hwf;obtain⟨K,X,Z,A,m,cp,rfl,hK,hX,-,hkm,ha⟩:=hv.parts;have hml:=hm.lt;have hsk:zah (kids t)+1=t.size:=by rw[zas t]
 have HLT:=hidE (hI.lt c s M w hi);have hi1:=hidE (hI.keep c s M w (w.alloc (.cells #[.int .i64 K,.string X,.int .i64 Z,.slice A m cp] 37)) hi (by simp) (λg hg=>Below.heap_alloc _ _ _ (hI.lt c s M w hi g hg)));have hm1:=hidE (hm.keep (w':=w.alloc (.cells #[.int .i64 K,.string X,.int .i64 Z,.slice A m cp] 37)) (Below.heap_alloc _ _ _ hml));have hm6:m<=n:=by have:=zbk t;omega
 have HA:=hidE ha;have HKM:=hidE hkm;have HS:=hidE hS;have HMB:=hidE hmb;have HN:=hidE hn;have HNK:Hid (∀i (hi:i<(kids t).length),Nm (kids t)[i]):=hidE λi hi=>zco hnm i hi;by_cases hk5:kd t=5
 ·have d5:((K:Int)==5)=true:=by rw[hK,hk5];rfl
  have HX:=hidE (show(nmB t).size<=24 from zbh hnm);have hev:envOf env t=X.data.toList::env:=by
   rw[hX]
   cases t with
   |all x u=>rfl
   |var x=>simp[kd]at hk5
   |mt x=>simp[kd]at hk5
   |con x u=>simp[kd]at hk5
   |fn x u=>simp[kd]at hk5
  have hX24:X.size<=24:=by rw[hX];exact HX.out
  show Calls _ _ _ _ (TPst mb I env (c+2*t.size-2) (thrL fc fl (envOf env t) (kids t) s) M w);rw[hev]
  rw[hev]at hwf
  have HWF:=hidE hwf;clear hwf;have hcan:=hidE hm1.out.canon;have hCV:=ze6 mb (ones env) X 1 1 rfl (w.alloc (.cells #[.int .i64 K,.string X,.int .i64 Z,.slice A m cp] 37)) hm1.out (by unfold maxLen;omega) (by unfold ones;simp;omega);have HCV:=hidE hCV;clear hK hX hkm ha hS hmb hn hnm hv hi hm hk5 hev hCV HX;unfold fnV;go_enter_defers Tryz.func152,Tryz.ntmps152
  go_wp2_with fail
  refine HCV.out.mono ?_;rintro e w1 ⟨rfl,cov,mp1,b1⟩;have hs1:=b1.size;simp at hs1;have e1:(w.alloc (.cells #[.int .i64 K,.string X,.int .i64 Z,.slice A m cp] 37)).heap.size=w.heap.size+1:=by simp
  rw[e1]at cov
  unfold zfs;rw[e1]
  have COV:=hidE cov;have MPA:=hidE mp1;have hcl:=cov.2.2.2.lt;have hbk:=Blk.chg (heap_alloc_new w (.cells #[.int .i64 K,.string X,.int .i64 Z,.slice A m cp] 37)) b1 (by unfold only;omega);obtain⟨p0,p1,p2,p3,s0,s1,s2,s3,hlx⟩:=zaa hbk;have IA:=hidE (hI.keep c s M _ w1 hi1.out b1.size (λg hg=>b1.block g (by have:=HLT.out g hg;simp;omega) (λh=>HMB.out (by rw[<-show g=mb from h];exact hg))));have C0:=hidE (((Chg.refl (λg=>M g\/g=mb) w).alloc _).trans' b1 (λg _ h=>.inr h));clear cov mp1 hbk b1 hi1 hm1 HCV;go_wp2_with fail
  go_loopg [20] m (λgg vi wr=>znv mb m I fc fl (X.data.toList::env) (kids t) c s M w1.heap.size w1 gg vi wr)
  case atStart =>
   exact⟨0,M,rfl,rfl,by omega,by rw[List.take_zero,zah,thrL];exact IA.out,MPA.out,λg hg=>.inl hg,Chg.refl _ w1⟩
  case round =>
   obtain⟨i,M1,rfl,rfl,hi,i1,mp1,hM1,c1⟩:=hrel;have I1:=hidE i1;have MP1:=hidE mp1;have HM1:=hidE hM1;have C1:=hidE c1;have hsr:=c1.size;clear i1 mp1 hM1 c1;by_cases hlt:i<m
   ·have hkk:∀g,S g->wr.heap[g]?=w.heap[g]?:=λg hg=>(C1.out.block g (by have:=(HS.out g hg).1;omega) (λh=>by rcases h with h|h;exact(HS.out g hg).2.1 h;exact(HS.out g hg).2.2 h)).trans (C0.out.block g (HS.out g hg).1 (λh=>by rcases h with h|h;exact(HS.out g hg).2.1 h;exact(HS.out g hg).2.2 h))
    obtain⟨g,u,K1,X1,Z1,A1,n1,c1,rfl,hg,e0,e1,e2,e3,hu,hrd,hsz,-,-⟩:=zb3 (w':=wr) HA.out HKM.out hlt hkk;have hgl:=zbI e0;have hszu:u.size<=n:=by have:=HN.out;omega
    have hnu:Nm u:=by obtain⟨hi',rfl⟩:=hu;exact HNK.out i hi'
    have hsn:=zb4 (kids t) i u hu;have hsle:=zbw (kids t) (i+1);have HSN:=hidE hsn;have HTN:=hidE (zgw fc fl (X.data.toList::env) (kids t) i u s hu);have hS2:∀g,S g->g<(wr.alloc (.cells #[.int .i64 K1,.string X1,.int .i64 Z1,.slice A1 n1 c1] 37)).heap.size/\¬M1 g/\g≠mb:=λg hg=>by
     obtain⟨x1,x2,x3⟩:=HS.out g hg;refine⟨by simp;omega,λh=>?_,x3⟩;rcases HM1.out g h with h|h
     ·exact x2 h
     ·omega
    have hmb1:¬M1 mb:=λh=>by
     rcases HM1.out mb h with h|h
     ·exact HMB.out h
     ·omega
    have hlt1:=hI.lt _ _ _ _ I1.out;have hcall:=HT (c+2*zah ((kids t).take i)) (thrL fc fl (X.data.toList::env) ((kids t).take i) s) M1 (X.data.toList::env) u S (.agg #[.int .i64 K1,.string X1,.int .i64 Z1,.slice A1 n1 c1]) (wr.alloc (.cells #[.int .i64 K1,.string X1,.int .i64 Z1,.slice A1 n1 c1] 37)) hszu (by omega)
     (hI.keep _ _ _ _ _ I1.out (by simp) (λg hg=>Below.heap_alloc _ _ _ (hlt1 g hg))) (MP1.out.keep (Below.heap_alloc _ _ _ MP1.out.lt)) hmb1 (hrd.keep (λ_ h=>h) (λg hg=>Below.heap_alloc _ _ _ (by have:=HS.out g hg;omega))) hS2 hnu (by omega) (by simp;omega) (HWF.out i u hu)
    unfold fnV at hcall;have HCALL:=hidE hcall;clear hrd hu hnu hsn hS2 hmb1 hlt1 hcall;go_wp2_with fail
    refine HCALL.out.mono ?_;rintro e w2 ⟨rfl,M2,i2,m2,hM2,b2⟩;have I2:=hidE i2;have MP2:=hidE m2;have HM2:Hid (∀g,M2 g->M g\/w1.heap.size<=g):=hidE λg hg=>by
     rcases hM2 g hg with h|h
     ·exact HM1.out g h
     ·exact .inr (by simp at h;omega)
    have C2:=hidE ((C1.out.alloc _).trans' b2 (λg hg h=>by
     rcases h with h|h
     ·rcases HM1.out g h with h|h
      ·exact .inl h
      ·omega
     ·exact .inr h))
    clear i2 m2 hM2 b2 HCALL;go_wp2_with fail
    go_roundg (m-(i+1))
    case measure=>omega
    case rel =>
     refine⟨i+1,M2,rfl,by go_num,by omega,?_,MP2.out,HM2.out,C2.out⟩;have:=I2.out;rw[HSN.out,HTN.out,show c+2*(zah ((kids t).take i)+u.size)=c+2*zah ((kids t).take i)+2*u.size-0 by omega]
     exact this
   ·have hend:(kids t).take i=kids t:=List.take_of_length_le (by rw[HKM.out];omega)
    have HEND:=hidE hend;clear hend;go_wp2_with fail
    have hkc:∀k,w.heap.size+1<=k->k<=w.heap.size+1+3->wr.heap[k]?=w1.heap[k]?:=λk h1 h2=>C1.out.block k (by omega) (λh=>by
     rcases h with h|h
     ·have:=HLT.out k h;omega
     ·omega)
    refine leaves_cons (f:=151) (args:=#[.pointer (some ⟨w.heap.size+1+3,0,none⟩),.pointer (some ⟨w.heap.size+1+2,0,none⟩),.pointer (some ⟨w.heap.size+1,0,none⟩),.pointer (some ⟨w.heap.size+1+1,0,none⟩)]) (by simp) (by simp[go_sem]) ?_;refine(zdP (w.heap.size+1) mb (ones env) X 1 .returning wr (COV.out.keep hkc) MP1.out hcan.out (by unfold maxLen;omega) (by unfold ones;simp;omega)).mono ?_;rintro e u' w2 ⟨rfl,rfl,m2,b2⟩;have hmb1:¬M1 mb:=λh=>by
     rcases HM1.out mb h with h|h
     ·exact HMB.out h
     ·omega
    have hlt1:=hI.lt _ _ _ _ I1.out;refine⟨.tuple #[],results_none rfl _ _ _,rfl,M1,?_,m2,λg hg=>?_,(C0.out.trans C1.out).trans' b2 (λg _ h=>.inr h)⟩
    ·have:=hI.keep _ _ _ _ w2 I1.out b2.size (λg hg=>b2.block g (hlt1 g hg) (λh=>hmb1 (by rw[<-show g=mb from h];exact hg)))
     rw[HEND.out]at this
     rw[show c+2*t.size-2=c+2*zah (kids t) by omega]
     exact this
    ·rcases HM1.out g hg with h|h
     ·exact .inl h
     ·exact .inr (by omega)
 ·have d5:((K:Int)==5)=false:=by rw[hK];exact kF _ 5 hk5
  have hev:envOf env t=env:=by cases t <;> first|rfl|(simp[kd]at hk5)
  show Calls _ _ _ _ (TPst mb I env (c+2*t.size-2) (thrL fc fl (envOf env t) (kids t) s) M w);rw[hev]
  rw[hev]at hwf
  have HWF:=hidE hwf;clear hwf;clear hK hX hkm ha hS hmb hn hnm hv hi hm hk5 hev;unfold fnV;go_enter_defers Tryz.func152,Tryz.ntmps152
  go_wp2_with fail
  go_loopg [20] m (λgg vi wr=>znv mb m I fc fl env (kids t) c s M w.heap.size w gg vi wr)
  case atStart =>
   exact⟨0,M,rfl,rfl,by omega,by rw[List.take_zero,zah,thrL];exact hi1.out,hm1.out,λg hg=>.inl hg,(Chg.refl _ w).alloc _⟩
  case round =>
   obtain⟨i,M1,rfl,rfl,hi,i1,mp1,hM1,c1⟩:=hrel;have I1:=hidE i1;have MP1:=hidE mp1;have HM1:=hidE hM1;have C1:=hidE c1;have hs1:=c1.size;clear i1 mp1 hM1 c1;by_cases hlt:i<m
   ·have hkk:∀g,S g->wr.heap[g]?=w.heap[g]?:=λg hg=>C1.out.block g (HS.out g hg).1 (λh=>by rcases h with h|h;exact(HS.out g hg).2.1 h;exact(HS.out g hg).2.2 h)
    obtain⟨g,u,K1,X1,Z1,A1,n1,c1,rfl,hg,e0,e1,e2,e3,hu,hrd,hsz,-,-⟩:=zb3 (w':=wr) HA.out HKM.out hlt hkk;have hgl:=zbI e0;have hszu:u.size<=n:=by have:=HN.out;omega
    have hnu:Nm u:=by obtain⟨hi',rfl⟩:=hu;exact HNK.out i hi'
    have hsn:=zb4 (kids t) i u hu;have hsle:=zbw (kids t) (i+1);have HSN:=hidE hsn;have HTN:=hidE (zgw fc fl env (kids t) i u s hu);have hS2:∀g,S g->g<(wr.alloc (.cells #[.int .i64 K1,.string X1,.int .i64 Z1,.slice A1 n1 c1] 37)).heap.size/\¬M1 g/\g≠mb:=λg hg=>by
     obtain⟨x1,x2,x3⟩:=HS.out g hg;refine⟨by simp;omega,λh=>?_,x3⟩;rcases HM1.out g h with h|h
     ·exact x2 h
     ·omega
    have hmb1:¬M1 mb:=λh=>by
     rcases HM1.out mb h with h|h
     ·exact HMB.out h
     ·omega
    have hlt1:=hI.lt _ _ _ _ I1.out;have hcall:=HT (c+2*zah ((kids t).take i)) (thrL fc fl env ((kids t).take i) s) M1 env u S (.agg #[.int .i64 K1,.string X1,.int .i64 Z1,.slice A1 n1 c1]) (wr.alloc (.cells #[.int .i64 K1,.string X1,.int .i64 Z1,.slice A1 n1 c1] 37)) hszu (by omega)
     (hI.keep _ _ _ _ _ I1.out (by simp) (λg hg=>Below.heap_alloc _ _ _ (hlt1 g hg))) (MP1.out.keep (Below.heap_alloc _ _ _ MP1.out.lt)) hmb1 (hrd.keep (λ_ h=>h) (λg hg=>Below.heap_alloc _ _ _ (by have:=HS.out g hg;omega))) hS2 hnu (by omega) (by omega) (HWF.out i u hu)
    unfold fnV at hcall;have HCALL:=hidE hcall;clear hrd hu hnu hsn hS2 hmb1 hlt1 hcall;go_wp2_with fail
    refine HCALL.out.mono ?_;rintro e w2 ⟨rfl,M2,i2,m2,hM2,b2⟩;have I2:=hidE i2;have MP2:=hidE m2;have HM2:Hid (∀g,M2 g->M g\/w.heap.size<=g):=hidE λg hg=>by
     rcases hM2 g hg with h|h
     ·exact HM1.out g h
     ·exact .inr (by simp at h;omega)
    have C2:=hidE ((C1.out.alloc _).trans' b2 (λg hg h=>by
     rcases h with h|h
     ·rcases HM1.out g h with h|h
      ·exact .inl h
      ·omega
     ·exact .inr h))
    clear i2 m2 hM2 b2 HCALL;go_wp2_with fail
    go_roundg (m-(i+1))
    case measure=>omega
    case rel =>
     refine⟨i+1,M2,rfl,by go_num,by omega,?_,MP2.out,HM2.out,C2.out⟩;have:=I2.out;rw[HSN.out,HTN.out,show c+2*(zah ((kids t).take i)+u.size)=c+2*zah ((kids t).take i)+2*u.size-0 by omega]
     exact this
   ·have hend:(kids t).take i=kids t:=List.take_of_length_le (by rw[HKM.out];omega)
    have HEND:=hidE hend;clear hend;go_wp2_with fail
    refine⟨.tuple #[],results_none rfl _ _ _,rfl,M1,?_,MP1.out,HM1.out,C1.out⟩;have:=I1.out;rw[HEND.out]at this
    rw[show c+2*t.size-2=c+2*zah (kids t) by omega]
    exact this
set_option maxRecDepth 100000
theorem zoF {σ:Type}(n kc kl:Nat)(cc cl:Array Value)(mb:Nat)(I:Nat->σ->(Nat->Prop)->World->Prop)(pl:List Name->Ty->σ->Prop)(fc fl:List Name->Ty->σ->σ)(hI:Inv I)
  (ec:∀args w,(callFunc kc args).run Tryz.prog w=.ok (.enter kc args) w)(el:∀args w,(callFunc kl args).run Tryz.prog w=.ok (.enter kl args) w)
  (HC:Vis kc cc mb I fc)(HL:VisP kl cl mb I pl fl):zeF n kc kl cc cl mb I 108 (WfT pl fc fl) (thr fc fl) 0:=by
 induction n with
 |zero=>intro c s M env t S v w hn;rw[zas]at hn;omega
 |succ n ih=>exact zjA (n+1) kc kl cc cl mb I pl fc fl hI ec el HC HL (zf7 n kc kl cc cl mb I pl fc fl hI ih)
theorem znZ {σ:Type}(n kc kl:Nat)(cc cl:Array Value)(mb:Nat)(I:Nat->σ->(Nat->Prop)->World->Prop)(fc fl:List Name->Ty->σ->σ)(hI:Inv I)
  (ec:∀args w,(callFunc kc args).run Tryz.prog w=.ok (.enter kc args) w)(el:∀args w,(callFunc kl args).run Tryz.prog w=.ok (.enter kl args) w)
  (HC:Vis kc cc mb I fc)(HL:Vis kl cl mb I fl):zeF n kc kl cc cl mb I 108 (λ_ _ _=>True) (thr fc fl) 0 :=
 λc s M env t S v w h1 h2 h3 h4 h5 h6 h7 h8 h9 h10 _=>zoF n kc kl cc cl mb I (λ_ _ _=>True) fc fl hI ec el HC (HL.p _) c s M env t S v w h1 h2 h3 h4 h5 h6 h7 h8 h9 h10 (znY fc fl n t env s h1)
def isLf(env:List Name):Ty->Bool
 |.var x=>decide (x∉env)
 |.mt _=>true
 |_=>false
theorem zkJ(t:Ty)(env:List Name):((kd t:Int)==2)=true/\isLf env t=true\/((kd t:Int)==2)=false/\((kd t:Int)==1)=true/\isLf env t=decide ((nmB t).data.toList∉env)\/((kd t:Int)==2)=false/\((kd t:Int)==1)=false/\isLf env t=false:=by
 cases t with
 |var x=>exact .inr (.inl ⟨rfl,rfl,rfl⟩)
 |mt n=>exact .inl ⟨rfl,rfl⟩
 |con c l=>exact .inr (.inr ⟨rfl,rfl,rfl⟩)
 |fn a b=>exact .inr (.inr ⟨rfl,rfl,rfl⟩)
 |all x t=>exact .inr (.inr ⟨rfl,rfl,rfl⟩)
theorem zkK(mb:Nat)(env:List Name)(t:Ty)(S:Nat->Prop)(v:Value)(w:World)(hv:RdV S w t v)(hm:MapE mkInt w mb (ones env))(hnm:Nm t):Calls Tryz.prog 110 #[v,.map (some mb)] w λe w'=>e=.returned (.bool (isLf env t))/\Below w.heap.size w w':=by
 obtain⟨K,X,Z,A,m,c,rfl,hK,hX,-,-,-⟩:=hv.parts;have hw:=zkJ t env;rw[<-hK,<-hX]at hw
 have hX24:X.size<=maxLen:=by have:=zbh hnm;rw[<-hX]at this;unfold maxLen;omega
 have hm1:=hm.keep (w':=w.alloc (.cells #[.int .i64 K,.string X,.int .i64 Z,.slice A m c] 37)) (Below.heap_alloc _ _ _ hm.lt);have hlk0:=hm1.get X hX24;rw[zkH]at hlk0
 have hlk:(Instr.lookup 116 (.map (some mb)) (.string X) false).run Tryz.prog (w.alloc (.cells #[.int .i64 K,.string X,.int .i64 Z,.slice A m c] 37))=.ok (mkInt.valO (if X.data.toList∈env then some 1 else none)) (w.alloc (.cells #[.int .i64 K,.string X,.int .i64 Z,.slice A m c] 37)):=hlk0;obtain⟨q,hq⟩:∃q,isLf env t=q:=⟨_,rfl⟩;rw[hq]at hw ⊢
 clear hK hX hv hm hnm hm1 hlk0 hX24 hq;rcases hw with⟨d2,rfl⟩|⟨d2,d1,hr⟩|⟨d2,d1,rfl⟩
 ·go_enter Tryz.func110,Tryz.ntmps110
  go_wp2
  go_ret
  exact⟨rfl,(Below.refl _ w).alloc (Nat.le_refl _) _⟩
 ·by_cases hin:X.data.toList∈env
  ·rw[if_pos hin]at hlk
   have HR:Hid (q=false):=hidE (by rw[hr];simpa using hin);replace hlk:(Instr.lookup 116 (.map (some mb)) (.string X) false).run Tryz.prog (w.alloc (.cells #[.int .i64 K,.string X,.int .i64 Z,.slice A m c] 37))=.ok (.int .i64 1) (w.alloc (.cells #[.int .i64 K,.string X,.int .i64 Z,.slice A m c] 37)):=hlk;clear hr hin;go_enter Tryz.func110,Tryz.ntmps110
   go_wp2
   go_ret
   exact⟨zav HR.out.symm,(Below.refl _ w).alloc (Nat.le_refl _) _⟩
  ·rw[if_neg hin]at hlk
   have HR:Hid (q=true):=hidE (by rw[hr];simpa using hin);replace hlk:(Instr.lookup 116 (.map (some mb)) (.string X) false).run Tryz.prog (w.alloc (.cells #[.int .i64 K,.string X,.int .i64 Z,.slice A m c] 37))=.ok (.int .i64 0) (w.alloc (.cells #[.int .i64 K,.string X,.int .i64 Z,.slice A m c] 37)):=hlk;clear hr hin;go_enter Tryz.func110,Tryz.ntmps110
   go_wp2
   go_ret
   exact⟨zav HR.out.symm,(Below.refl _ w).alloc (Nat.le_refl _) _⟩
 ·clear hlk
  go_enter Tryz.func110,Tryz.ntmps110
  go_wp2
  go_ret
  exact⟨rfl,(Below.refl _ w).alloc (Nat.le_refl _) _⟩
section
variable {σ:Type}
def Doer(k:Nat)(caps:Array Value)(I:Nat->σ->(Nat->Prop)->World->Prop)(g:Ty->σ->σ):Prop :=
 ∀(c:Nat) (s:σ) (M:Nat->Prop) (t:Ty) (S:Nat->Prop) (v:Value) (w:World),
  I c s M w->RdV S w t v->(∀g,S g->g<w.heap.size/\¬M g)->Nm t->c<10000000 ->
  Calls Tryz.prog k (#[v]++caps) w λe w'=>e=.returned (.tuple #[])/\∃M',I (c+1) (g t s) M' w'/\(∀g,M' g->M g\/w.heap.size<=g)/\Chg M w w'
def With2(I:Nat->σ->(Nat->Prop)->World->Prop)(bb db:Nat)(x y:Array Value)(tx ty:TypeId)(c:Nat)(s:σ)(M2:Nat->Prop)(w:World):Prop :=
 ∃M,(∀g,M2 g↔M g\/g=bb\/g=db)/\I c s M w/\¬M bb/\¬M db/\Blk w bb tx x/\Blk w db ty y
theorem With2.inv {I:Nat->σ->(Nat->Prop)->World->Prop}(hI:Inv I)(bb db:Nat)(x y:Array Value)(tx ty:TypeId):Inv (With2 I bb db x y tx ty) where
 mono c c' s M2 w:=λ⟨M,h1,h2,h3⟩ hc=>⟨M,h1,hI.mono _ _ _ _ _ h2 hc,h3⟩
 lt c s M2 w:=λ⟨M,h1,h2,h3,h4,h5,h6⟩ g hg=>by
  rcases(h1 g).1 hg with h|h|h
  ·exact hI.lt _ _ _ _ h2 g h
  ·rw[h];exact h5.lt
  ·rw[h];exact h6.lt
 keep c s M2 w w':=λ⟨M,h1,h2,h3,h4,h5,h6⟩ hs hk =>
  ⟨M,h1,hI.keep _ _ _ _ _ h2 hs (λg hg=>hk g ((h1 g).2 (.inl hg))),h3,h4,h5.same (hk bb ((h1 bb).2 (.inr (.inl rfl)))),h6.same (hk db ((h1 db).2 (.inr (.inr rfl))))⟩
def atLeaf(g:Ty->σ->σ)(env:List Name)(t:Ty)(s:σ):σ:=if isLf env t=true then g t s else s
end
theorem zmu {σ:Type}(k:Nat)(caps:Array Value)(mb bb db:Nat)(I:Nat->σ->(Nat->Prop)->World->Prop)(g:Ty->σ->σ)(hI:Inv I)(ek:∀args w,(callFunc k args).run Tryz.prog w=.ok (.enter k args) w)(HD:Doer k caps I g):Vis 109 #[.pointer (some ⟨bb,0,none⟩),.pointer (some ⟨db,0,none⟩)] mb (With2 I bb db #[.map (some mb)] #[fnV k caps] 116 125) (atLeaf g):=by
 intro c s M2 env t S v w hw2 hm hmb hv hS hnm hsz hc;obtain⟨M,hM2,hi,hbb,hdb,hb1,hb2⟩:=hw2;obtain⟨K,X,Z,A,m,cp,rfl,-,-,-,-,-⟩:=hv.parts;have hS':∀g,S g->g<w.heap.size/\¬M g/\g≠bb/\g≠db:=λg hg=>⟨(hS g hg).1,λh=>(hS g hg).2 ((hM2 g).2 (.inl h)),λh=>(hS g hg).2 ((hM2 g).2 (.inr (.inl h))),λh=>(hS g hg).2 ((hM2 g).2 (.inr (.inr h)))⟩;have hlt:=hI.lt _ _ _ _ hi;have hv1:RdV S (w.alloc (.cells #[.int .i64 K,.string X,.int .i64 Z,.slice A m cp] 37)) t (.agg #[.int .i64 K,.string X,.int .i64 Z,.slice A m cp]):=hv.keep (λ_ h=>h) (λg hg=>Below.heap_alloc _ _ _ (hS g hg).1);have hL:=zkK mb env t S _ _ hv1 (hm.keep (Below.heap_alloc _ _ _ hm.lt)) hnm;obtain⟨q,hq⟩:∃q,isLf env t=q:=⟨_,rfl⟩;have hst:atLeaf g env t s=if q=true then g t s else s:=by rw[atLeaf,hq]
 rw[hq]at hL
 rw[hst]
 obtain⟨x0,-,l0⟩:=zai hb1;obtain⟨y0,-,l1⟩:=zai hb2;have HL:=hidE hL;have HI:=hidE hi;have HM2:=hidE hM2;have HS:=hidE hS';have HV:=hidE hv;have HB1:=hidE hb1;have HB2:=hidE hb2;have HNM:=hidE hnm;have HBB:=hidE hbb;have HDB:=hidE hdb;have HLT:=hidE hlt;clear hL hi hM2 hS' hS hv hv1 hb1 hb2 hnm hbb hdb hlt hq hst hm hmb;have e0:(#[Value.agg #[.int .i64 K,.string X,.int .i64 Z,.slice A m cp]]++#[Value.pointer (some ⟨bb,0,none⟩),.pointer (some ⟨db,0,none⟩)])=#[.agg #[.int .i64 K,.string X,.int .i64 Z,.slice A m cp],.pointer (some ⟨bb,0,none⟩),.pointer (some ⟨db,0,none⟩)]:=rfl;rw[e0]
 clear e0;unfold fnV at y0;go_enter Tryz.func109,Tryz.ntmps109
 go_wp2_with fail
 refine HL.out.mono ?_;rintro e w1 ⟨rfl,b1⟩;have hs1:=b1.size;simp at hs1;have hbk:=Blk.below (heap_alloc_new w (.cells #[.int .i64 K,.string X,.int .i64 Z,.slice A m cp] 37)) b1 (by simp);obtain⟨p0,p1,p2,p3,s0,s1,s2,s3,hlx⟩:=zaa hbk;have bel:=zaA b1 (Nat.le_refl _);have HC1:=hidE (HB1.out.below bel l0);have HC2:=hidE (HB2.out.below bel l1);obtain⟨x1,-,-⟩:=zai HC1.out;obtain⟨y1,-,-⟩:=zai HC2.out;unfold fnV at y1;have I1:=hidE (hI.keep _ _ _ _ w1 HI.out bel.size (λg hg=>bel.block g (HLT.out g hg)));have HV1:=hidE (HV.out.keep (λ_ h=>h) (λg hg=>bel.block g (HS.out g hg).1));have BEL:=hidE bel;clear hbk b1 bel HL;cases q with
 |false =>
  go_wp2_with fail
  first|go_end0|refine bodyPost_ret (results_none rfl _ _ _) rfl ?_
  exact⟨rfl,M2,⟨M,HM2.out,hI.mono _ _ _ _ _ I1.out (by omega),HBB.out,HDB.out,HC1.out,HC2.out⟩,λg hg=>.inl hg,Chg.of_below BEL.out⟩
 |true =>
  go_wp2_with fail
  refine(HD c s M t S _ w1 I1.out HV1.out (λg hg=>⟨by have:=(HS.out g hg).1;omega,(HS.out g hg).2.1⟩) HNM.out hc).mono ?_;rintro e w2 ⟨rfl,M',i2,hM',b2⟩;have C2:=hidE b2;have I2:=hidE i2;have HM':=hidE hM';clear b2 i2 hM';go_wp2_with fail
  first|go_end0|refine bodyPost_ret (results_none rfl _ _ _) rfl ?_
  refine⟨rfl,λg=>M' g\/g=bb\/g=db,⟨M',λg=>Iff.rfl,I2.out,λh=>?_,λh=>?_,HC1.out.chg C2.out HBB.out,HC2.out.chg C2.out HDB.out⟩,λg hg=>?_,?_⟩
  ·rcases HM'.out _ h with h|h
   ·exact HBB.out h
   ·omega
  ·rcases HM'.out _ h with h|h
   ·exact HDB.out h
   ·omega
  ·rcases hg with h|h|h
   ·rcases HM'.out _ h with h|h
    ·exact .inl ((HM2.out g).2 (.inl h))
    ·exact .inr (by omega)
   ·exact .inl ((HM2.out g).2 (.inr (.inl h)))
   ·exact .inl ((HM2.out g).2 (.inr (.inr h)))
  ·exact(Chg.of_below (M:=M2) BEL.out).trans' C2.out (λg _ h=>(HM2.out g).2 (.inl h))
theorem zmv {σ:Type}(k:Nat)(mb:Nat)(I:Nat->σ->(Nat->Prop)->World->Prop)(hI:Inv I)
  (H:∀(K:Int)(X:ByteArray)(Z:Int)(A:Option Addr)(m c:Nat)(w:World),Calls Tryz.prog k #[.agg #[.int .i64 K,.string X,.int .i64 Z,.slice A m c]] w λe w'=>e=.returned (.tuple #[])/\Below w.heap.size w w'):Vis k #[] mb I (λ_ _ s=>s):=by
 intro c s M env t S v w hi hm hmb hv hS hnm hsz hc;obtain⟨K,X,Z,A,m,cp,rfl,-,-,-,-,-⟩:=hv.parts;refine(H K X Z A m cp w).mono ?_;rintro e w' ⟨rfl,b⟩;exact⟨rfl,M,hI.mono _ _ _ _ _ (hI.keep _ _ _ _ w' hi b.size (λg hg=>b.block g (hI.lt _ _ _ _ hi g hg))) (by omega),λg hg=>.inl hg,Chg.of_below b⟩
theorem zjC(K:Int)(X:ByteArray)(Z:Int)(A:Option Addr)(m c:Nat)(w:World):Calls Tryz.prog 111 #[.agg #[.int .i64 K,.string X,.int .i64 Z,.slice A m c]] w λe w'=>e=.returned (.tuple #[])/\Below w.heap.size w w':=by
 go_enter Tryz.func111,Tryz.ntmps111
 go_wp2
 first|go_end0|refine bodyPost_ret (results_none rfl _ _ _) rfl ?_
 exact⟨rfl,(Below.refl _ w).alloc (Nat.le_refl _) _⟩
end Go.Proofs.YtfafilmklhnngaaGreatDoor
