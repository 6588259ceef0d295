import Derived.Test.YtfafilmklhnngaaGreatDoorBsAC
import Derived.Test.YtfafilmklhnngaaGreatDoorBsY
import Derived.Lib.SliceRun
set_option maxHeartbeats 12800000
set_option maxRecDepth 100000
namespace Go.Proofs.YtfafilmklhnngaaGreatDoor
open Tryz
section
open Go.RowKit Lx Tx Go.Maps Go.WideMaps Go.Shelf
set_option maxRecDepth 100000
theorem zki {w:World} {base b:Nat} {e:TypeId}(h:w.heap[b]?=some (.cells #[] e (0,0)))(hb:base<=b):w.ownsRow base e 4 (.slice (some ⟨b,0,none⟩) 0 0) 0 [] :=
 ⟨rfl,.inr ⟨b,0,#[],rfl,hb,h,BU _,by unfold maxLen;omega,rfl,rfl⟩⟩
theorem Ss(A:Option Addr)(m cp:Nat)(vs:List Value)(w:World)(h0:A=none->m=0)(hl:vs.length=m*4)(hc:∀ad,A=some ad->∀w':World,Below w.heap.size w w'->∀j u,vs[j]?=some u->w'.cell? (ad.add j)=some u)(h1:∀u∈vs,u.oneCell'=true)(hm:m<=1000000000000):Calls prog 135 #[.slice A m cp] w λe w'=>∃A' c',e=.returned (.slice A' m c')/\w'.ownsRow w.heap.size 37 4 (.slice A' m c') m vs/\Below w.heap.size w w':=by
 obtain⟨i0,bK,cj,bS,bC⟩:=Dx zkz;have HC:=EP hc;have HL:=EP hl;have H1:=EP h1;clear hc hl h1;cases A with
 |none =>
  obtain rfl:=h0 rfl;have heq:(binOp .eql 35 (.slice none 0 cp) (.slice none 0 0)).run prog w=.ok (.bool true) w:=Lib.run_eql_slice_nil w _ 37 none 0 cp 0 0 underlying35;have qI:Hid (vs=[]):=EP (by have:=HL.o;simpa using this);go_in;go_wp2_with fail;go_ret
  exact⟨none,0,rfl,⟨by rw[qI.o];rfl,.inl ⟨rfl,rfl⟩⟩,Cc _ w⟩
 |some ad =>
  clear h0;have heq:(binOp .eql 35 (.slice (some ad) m cp) (.slice none 0 0)).run prog w=.ok (.bool false) w:=Lib.run_eql_slice_nil w _ 37 (some ad) m cp 0 0 underlying35;go_in;go_wp2_with (at_builtin;refine C7 _ rfl (.tmp 5) (.tmp 6) 35 rfl w.heap.size 37 i0 _ 4 56 underlying35 bK cj bS bC rfl (by decide) _ 0 [] rfl (zki (Mz _ _ _ rfl) (BU _)) ad m cp vs rfl HL.o (HC.o ad rfl _ ((Cc _ w).alloc (BU _) _)) H1.o (by unfold maxLen;omega) (by omega) (by simp) ?_;intro v2 w5 an ae _ bF;obtain⟨A2,c2,rfl⟩:=GS an;have dZ:=EP an;have bk:=EP ae;have gu:=EP bF;clear an ae bF);go_ret
  rw[Dm,Cu]at dZ;exact⟨A2,c2,rfl,dZ.o,((Cc _ w).alloc (BU _) _).grown bk.o (by simp) (λk hk=>by injection hk with hk;rw[<-hk];exact BU _)⟩
end
section
open Go.RowKit Lx Tx Go.Maps Go.WideMaps Go.Shelf
mutual
def Tx.Ty.E7:Ty->Nat
 |.var _=>0
 |.mt _=>0
 |.h_ _ l=>C' l
 |.fn a b=>a.E7+b.E7
 |.all _ t=>t.E7+1
def C':List Ty->Nat
 |[]=>0
 |t::r=>t.E7+C' r
end
theorem Sr(t:Ty):t.E7=C' (kids t)+(if kd t=5 then 1 else 0):=by
 cases t <;> rw[Ty.E7,kids] <;> simp[C',kd]
theorem zm2(l:List Ty)(t:Ty):C' (l++[t])=C' l+t.E7:=by
 induction l with
 |nil=>simp[C']
 |cons a r ih=>rw[Co,C',C',ih];omega
theorem SQ(l:List Ty)(i:Nat)(u:Ty)(hu:∃hi:i<l.length,l[i]=u):C' (l.take (i+1))=C' (l.take i)+u.E7:=by
 obtain⟨hi,rfl⟩:=hu;rw[OC l i hi,zm2]
theorem Tc(l:List Ty)(i:Nat):C' (l.take i)<=C' l:=by
 induction l generalizing i with
 |nil=>simp
 |cons t r ih =>
  cases i with
  |zero=>simp[C']
  |succ i=>rw[CX,C',C'];have:=ih i;omega
section
variable {σ:Type}
mutual
def iF(bind:Name->σ->Name × σ)(leaf:Ty->Ty)(env:List (Name × Name)):Ty->σ->Ty × σ
 |.var x,s=>(((look x env).map Ty.var).getD (leaf (.var x)),s)
 |.mt n,s=>(leaf (.mt n),s)
 |.h_ c l,s=>(.h_ c (D_ bind leaf env l s).1,(D_ bind leaf env l s).2)
 |.fn a b,s=>(.fn (iF bind leaf env a s).1 (iF bind leaf env b (iF bind leaf env a s).2).1,(iF bind leaf env b (iF bind leaf env a s).2).2)
 |.all x t,s=>(.all (bind x s).1 (iF bind leaf ((x,(bind x s).1)::env) t (bind x s).2).1,(iF bind leaf ((x,(bind x s).1)::env) t (bind x s).2).2)
def D_(bind:Name->σ->Name × σ)(leaf:Ty->Ty)(env:List (Name × Name)):List Ty->σ->List Ty × σ
 |[],s=>([],s)
 |t::r,s=>((iF bind leaf env t s).1::(D_ bind leaf env r (iF bind leaf env t s).2).1,(D_ bind leaf env r (iF bind leaf env t s).2).2)
end
theorem NZ(bind:Name->σ->Name × σ)(leaf:Ty->Ty)(env:List (Name × Name))(l:List Ty)(t:Ty)(s:σ):D_ bind leaf env (l++[t]) s=((D_ bind leaf env l s).1++[(iF bind leaf env t (D_ bind leaf env l s).2).1],(iF bind leaf env t (D_ bind leaf env l s).2).2):=by
 induction l generalizing s with
 |nil=>rw[Cu,D_,D_,D_];rfl
 |cons a r ih=>rw[Co,D_,D_,ih];rfl
theorem LW(bind:Name->σ->Name × σ)(leaf:Ty->Ty)(env:List (Name × Name))(l:List Ty)(s:σ):(D_ bind leaf env l s).1.length=l.length:=by
 induction l generalizing s with
 |nil=>rw[D_]
 |cons a r ih=>rw[D_,Ca,Ca,ih]
structure Gt (I:Nat->σ->World->Prop) (K:Nat->Prop):Prop where
 mono:∀c c' s w,I c s w->c<=c'->I c' s w
 lt:∀c s w,I c s w->∀g,K g->g<w.heap.size
 al:∀c s w w',I c s w->w.heap.size<=w'.heap.size->(∀g,K g->w'.heap[g]?=w.heap[g]?)->I c s w'
def RR(kb:Nat)(cb:Array Value)(I:Nat->σ->World->Prop)(M:Nat->Prop)(bind:Name->σ->Name × σ):Prop :=
 ∀(c:Nat) (s:σ) (X:ByteArray) (w:World),I c s w->X.size<=24->c<10000000 ->
  Calls prog kb (#[.string X]++cb) w λe w'=>e=.returned (.string ⟨(bind X.data.toList s).1.toArray⟩)/\I (c+1) (bind X.data.toList s).2 w'/\b_ M w w'
def Qj(kl:Nat)(cl:Array Value)(I:Nat->σ->World->Prop)(M Su:Nat->Prop)(leaf:Ty->Ty):Prop :=
 ∀(c:Nat) (s:σ) (t:Ty) (S:Nat->Prop) (v:Value) (w:World),I c s w->nc S w t v->(∀g,S g->g<w.heap.size)->kd t=1\/kd t=2->Nm t ->
  Calls prog kl (#[v]++cl) w λe w'=>∃k x z a m p,e=.returned (.agg #[.int .i64 k,.string x,.int .i64 z,.slice a m p])/\nc Su w' (leaf t) (.agg #[.int .i64 k,.string x,.int .i64 z,.slice a m p])/\I c s w'/\b_ M w w'
def Je(mb:Nat)(I:Nat->σ->World->Prop)(M Su:Nat->Prop)(env:List (Name × Name))(c:Nat)(p:Ty × σ)(w:World)(e:Ending)(w':World):Prop :=
 ∃k x z a m q,e=.returned (.agg #[.int .i64 k,.string x,.int .i64 z,.slice a m q])/\nc (λg=>Su g\/(w.heap.size<=g/\g<w'.heap.size)) w' p.1 (.agg #[.int .i64 k,.string x,.int .i64 z,.slice a m q])/\I c p.2 w'/\iT FE w' mb env/\b_ (λg=>M g\/g=mb) w w'
def UM(n kb kl:Nat)(cb cl:Array Value)(mb:Nat)(I:Nat->σ->World->Prop)(M Su:Nat->Prop)(bind:Name->σ->Name × σ)(leaf:Ty->Ty):Prop :=
 ∀(c:Nat) (s:σ) (env:List (Name × Name)) (t:Ty) (S:Nat->Prop) (v:Value) (w:World),t.size<=n->n<=1000000000000 ->
  I c s w->iT FE w mb env->nc S w t v->(∀g,S g->g<w.heap.size/\¬M g/\g≠mb)->Nm t->c+t.E7<=10000000->env.length+t.size<=50000000000000 ->
  Calls prog 89 #[v,.map (some mb),FL kb cb,FL kl cl] w (Je mb I M Su env (c+t.E7) (iF bind leaf env t s) w)
end
theorem zm3 {σ:Type}(kb kl:Nat)(cb cl:Array Value)(mb:Nat)(I:Nat->σ->World->Prop)(K M Su:Nat->Prop)(bind:Name->σ->Name × σ)(leaf:Ty->Ty)(hI:Gt I K)(aY:∀g,M g->K g)(aO:∀g,Su g->K g)(bI:¬K mb)
  (el:∀args w,(callFunc kl args).run prog w=.ok (.enter kl args) w)(HL:Qj kl cl I M Su leaf)
  (c:Nat)(s:σ)(env:List (Name × Name))(x:Name)(S:Nat->Prop)(v:Value)(w:World)(hi:I c s w)(hm:iT FE w mb env)(hv:nc S w (.var x) v)(hS:∀g,S g->g<w.heap.size)(aw:Nm (.var x)):Calls prog 89 #[v,.map (some mb),FL kb cb,FL kl cl] w (Je mb I M Su env c (iF bind leaf env (.var x) s) w):=by
 obtain⟨k,X,Z,A,m,cp,rfl,hk,hX,hZ,cG,-⟩:=hv.parts;have dK:=hm.lt;have bA:=J4 aw;rw[<-hX]at bA;have xN:X.data.toList=x:=by rw[hX];rfl
 obtain⟨l0,l1,ls,lb⟩:=IC w (.cells #[.int .i64 k,.string X,.int .i64 Z,.slice A m cp] 37) (.cells #[.int .i64 0,.string ⟨#[]⟩,.int .i64 0,.slice none 0 0] 37);have af:=hI.lt c s w hi;have mR:=hI.al c s w _ hi lb.size (λg hg=>lb.block g (af g hg));have bL:=hm.al (lb.block _ dK);have bw:=bL.He X (by unfold maxLen;omega);rw[zkG,xN]at bw;have fg:=hv.al (λ_ h=>h) (λg hg=>lb.block g (hS g hg));rw[iF];obtain rfl:k=1:=hk;have HI:=EP hi;have HM:=EP hm;have HV:=EP hv;have au:=EP af;have HS:=EP hS;have bQ:=EP aw;clear hi hm hv hX mR bL fg af hS ls lb l0 l1 aw hZ cG xN bA dK;unfold FL;cases hl:look x env with
 |some y =>
  rw[hl]at bw;replace bw:(Instr.lookup 160 (.map (some mb)) (.string X) true).run prog ((w.alloc (.cells #[.int .i64 1,.string X,.int .i64 Z,.slice A m cp] 37)).alloc (.cells #[.int .i64 0,.string ⟨#[]⟩,.int .i64 0,.slice none 0 0] 37))=.ok (.tuple #[.agg #[.int .i64 1,.string ⟨y.toArray⟩,.int .i64 0,.slice none 0 0],.bool true]) _:=bw;clear hl;go_enter_defers func89,ntmps89;go_wp2_with fail;obtain⟨-,k1,-,ks,kb⟩:=MU w (.cells #[.int .i64 1,.string X,.int .i64 Z,.slice A m cp] 37) (.cells #[.int .i64 1,.string ⟨y.toArray⟩,.int .i64 0,.slice none 0 0] 37) (.cells #[.int .i64 1,.string ⟨y.toArray⟩,.int .i64 0,.slice none 0 0] 37);refine⟨_,CW rfl _ _ (w.heap.size+1) 37 _ (0,0) _ rfl k1 underlying37 rfl (by kernel_rfl),1,⟨y.toArray⟩,0,none,0,0,rfl,⟨none,0,rfl,trivial⟩,?_,?_,b_.c_ kb⟩
  ·exact hI.mono _ _ _ _ (hI.al _ _ _ _ HI.o kb.size (λg hg=>kb.block g (au.o g hg))) (by omega)
  ·exact HM.o.al (kb.block _ HM.o.lt)
 |none =>
  rw[hl]at bw;replace bw:(Instr.lookup 160 (.map (some mb)) (.string X) true).run prog ((w.alloc (.cells #[.int .i64 1,.string X,.int .i64 Z,.slice A m cp] 37)).alloc (.cells #[.int .i64 0,.string ⟨#[]⟩,.int .i64 0,.slice none 0 0] 37))=.ok (.tuple #[.agg #[.int .i64 0,.string ⟨#[]⟩,.int .i64 0,.slice none 0 0],.bool false]) _:=bw;clear hl;obtain⟨-,k1,-,ks,kb⟩:=MU w (.cells #[.int .i64 1,.string X,.int .i64 Z,.slice A m cp] 37) (.cells #[.int .i64 0,.string ⟨#[]⟩,.int .i64 0,.slice none 0 0] 37) (.cells #[.int .i64 0,.string ⟨#[]⟩,.int .i64 0,.slice none 0 0] 37);have ak:=EP (HL c s (.var x) S _ _ (hI.al _ _ _ _ HI.o kb.size (λg hg=>kb.block g (au.o g hg))) (HV.o.al (λ_ h=>h) (λg hg=>kb.block g (HS.o g hg))) (λg hg=>by have:=HS.o g hg;omega) (.inl rfl) bQ.o);have K1:=EP k1;have KS:=EP ks;have KB:=EP kb;clear k1 ks kb;go_enter_defers func89,ntmps89;go_wp2_with fail;refine ak.o.mono ?_;rintro e w1 ⟨k',x',z',a',m',p',rfl,hr,cf,c1⟩;have HR:=EP hr;have fH:=EP cf;have C1:=EP c1;have av:=ar.iF K1.o c1 (λh=>by have:=au.o _ (aY _ h);omega);obtain⟨q0,q1,q2,q3,t0,t1,t2,t3,dp⟩:=n_ av;have bc:=EP av;clear hr cf c1 av ak;go_wp2_with fail;have hb:=Fh (.int .i64 k') (.string x') (.int .i64 z') (.slice a' m' p') bc.o;have j6:∀g,Su g->g≠w.heap.size+1:=λg hg=>by have:=au.o _ (aO g hg);omega
  have hf:∀g,g≠w.heap.size+1->((((w1.setCell ⟨w.heap.size+1,0,none⟩ (.int .i64 k')).setCell ⟨w.heap.size+1,1,none⟩ (.string x')).setCell ⟨w.heap.size+1,2,none⟩ (.int .i64 z')).setCell ⟨w.heap.size+1,3,none⟩ (.slice a' m' p')).heap[g]?=w1.heap[g]?:=λg hg=>G3 _ _ _ _ _ _ _ hg;have aA:((((w1.setCell ⟨w.heap.size+1,0,none⟩ (.int .i64 k')).setCell ⟨w.heap.size+1,1,none⟩ (.string x')).setCell ⟨w.heap.size+1,2,none⟩ (.int .i64 z')).setCell ⟨w.heap.size+1,3,none⟩ (.slice a' m' p')).heap.size=w1.heap.size:=by simp
  refine⟨_,CW rfl _ _ (w.heap.size+1) 37 _ (0,0) _ rfl hb underlying37 rfl (by kernel_rfl),k',x',z',a',m',p',rfl,?_,?_,?_,?_⟩
  ·exact HR.o.al (λ_ h=>.inl h) (λg hg=>hf g (j6 g hg))
  ·exact hI.mono _ _ _ _ (hI.al _ _ _ _ fH.o (DD aA.symm) (λg hg=>hf g (by have:=au.o g hg;omega))) (by omega)
  ·have ai:¬M mb:=λh=>bI (aY _ h)
   exact HM.o.al ((hf mb (by have:=HM.o.lt;omega)).trans ((C1.o.block mb (by have:=HM.o.lt;have:=KS.o;omega) ai).trans (KB.o.block mb HM.o.lt)))
  ·exact((b_.c_ KB.o).trans' C1.o (λg _ h=>.inl h)).C_ _ _ _ _ (by omega)
end
section
open Go.RowKit Lx Tx Go.Maps Go.WideMaps Go.Shelf
set_option maxRecDepth 100000
theorem zpe {σ:Type}(kb kl:Nat)(cb cl:Array Value)(mb:Nat)(I:Nat->σ->World->Prop)(K M Su:Nat->Prop)(bind:Name->σ->Name × σ)(leaf:Ty->Ty)(hI:Gt I K)(aY:∀g,M g->K g)(aO:∀g,Su g->K g)(bI:¬K mb)
  (el:∀args w,(callFunc kl args).run prog w=.ok (.enter kl args) w)(HL:Qj kl cl I M Su leaf)
  (c:Nat)(s:σ)(env:List (Name × Name))(x:Nat)(S:Nat->Prop)(v:Value)(w:World)(hi:I c s w)(hm:iT FE w mb env)(hv:nc S w (.mt x) v)(hS:∀g,S g->g<w.heap.size)(aw:Nm (.mt x)):Calls prog 89 #[v,.map (some mb),FL kb cb,FL kl cl] w (Je mb I M Su env c (iF bind leaf env (.mt x) s) w):=by
 obtain⟨k,X,Z,A,m,cp,rfl,hk,-,-,-,-⟩:=hv.parts;have af:=hI.lt c s w hi;rw[iF];obtain rfl:k=2:=hk;have HI:=EP hi;have HM:=EP hm;have HV:=EP hv;have au:=EP af;have HS:=EP hS;have bQ:=EP aw;clear hi hm hv af hS aw;unfold FL;obtain⟨-,k1,ks,bl⟩:=IC w (.cells #[.int .i64 2,.string X,.int .i64 Z,.slice A m cp] 37) (.cells #[.int .i64 0,.string ⟨#[]⟩,.int .i64 0,.slice none 0 0] 37);have ak:=EP (HL c s (.mt x) S _ _ (hI.al _ _ _ _ HI.o bl.size (λg hg=>bl.block g (au.o g hg))) (HV.o.al (λ_ h=>h) (λg hg=>bl.block g (HS.o g hg))) (λg hg=>by have:=HS.o g hg;omega) (.inr rfl) bQ.o);have K1:=EP k1;have KS:=EP ks;have KB:=EP bl;clear k1 ks bl;go_enter_defers func89,ntmps89;go_wp2_with fail;refine ak.o.mono ?_;rintro e w1 ⟨k',x',z',a',m',p',rfl,hr,cf,c1⟩;have HR:=EP hr;have fH:=EP cf;have C1:=EP c1;have av:=ar.iF K1.o c1 (λh=>by have:=au.o _ (aY _ h);omega);obtain⟨q0,q1,q2,q3,t0,t1,t2,t3,dp⟩:=n_ av;have bc:=EP av;clear hr cf c1 av ak;go_wp2_with fail;have hb:=Fh (.int .i64 k') (.string x') (.int .i64 z') (.slice a' m' p') bc.o;have j6:∀g,Su g->g≠w.heap.size+1:=λg hg=>by have:=au.o _ (aO g hg);omega
 have hf:∀g,g≠w.heap.size+1->((((w1.setCell ⟨w.heap.size+1,0,none⟩ (.int .i64 k')).setCell ⟨w.heap.size+1,1,none⟩ (.string x')).setCell ⟨w.heap.size+1,2,none⟩ (.int .i64 z')).setCell ⟨w.heap.size+1,3,none⟩ (.slice a' m' p')).heap[g]?=w1.heap[g]?:=λg hg=>G3 _ _ _ _ _ _ _ hg;have aA:((((w1.setCell ⟨w.heap.size+1,0,none⟩ (.int .i64 k')).setCell ⟨w.heap.size+1,1,none⟩ (.string x')).setCell ⟨w.heap.size+1,2,none⟩ (.int .i64 z')).setCell ⟨w.heap.size+1,3,none⟩ (.slice a' m' p')).heap.size=w1.heap.size:=by simp
 refine⟨_,CW rfl _ _ (w.heap.size+1) 37 _ (0,0) _ rfl hb underlying37 rfl (by kernel_rfl),k',x',z',a',m',p',rfl,?_,?_,?_,?_⟩
 ·exact HR.o.al (λ_ h=>.inl h) (λg hg=>hf g (j6 g hg))
 ·exact hI.mono _ _ _ _ (hI.al _ _ _ _ fH.o (DD aA.symm) (λg hg=>hf g (by have:=au.o g hg;omega))) (by omega)
 ·have ai:¬M mb:=λh=>bI (aY _ h)
  exact HM.o.al ((hf mb (by have:=HM.o.lt;omega)).trans ((C1.o.block mb (by have:=HM.o.lt;have:=KS.o;omega) ai).trans (KB.o.block mb HM.o.lt)))
 ·exact((b_.c_ KB.o).trans' C1.o (λg _ h=>.inl h)).C_ _ _ _ _ (by omega)
set_option maxRecDepth 100000
theorem zh1 {S:Nat->Prop} {w:World} :(l:List Ty)->∀g o,ur S w l g o->∃vs,fs S w l vs/\(∀j u,vs[j]?=some u->w.cell? ⟨g,o+j,none⟩=some u)/\∀u∈vs,u.oneCell'=true
 |[],g,o,_=>⟨[],by rw[fs],by simp,by simp⟩
 |t::r,g,o,h=>by
  rw[ur]at h;obtain⟨⟨A,c,h4,ha⟩,hr⟩:=h;obtain⟨vs,h1,h2,h3⟩:=zh1 r g (o+4) hr;refine⟨Hx t A c++vs,by rw[fs];exact⟨A,c,vs,rfl,ha,h1⟩,λj u hj=>?_,λu hu=>?_⟩
  ·rcases Eb j 4 with uC|uC
   ·rw[DK (by show j<4;exact uC)]at hj
    obtain⟨e0,e1,e2,e3⟩:=h4;match j,hj,uC with
    |0,hj,_=>injection hj with hj;rw[<-hj];exact e0
    |1,hj,_=>injection hj with hj;rw[<-hj];exact e1
    |2,hj,_=>injection hj with hj;rw[<-hj];exact e2
    |3,hj,_=>injection hj with hj;rw[<-hj];exact e3
   ·rw[Db (by show 4<=j;exact uC)]at hj
    have:=h2 (j-4) u hj;rw[show o+4+(j-4)=o+j by omega]at this;exact this
  ·rcases Cr.1 hu with hu|hu
   ·simp only[Hx,Cd,CI,or_false]at hu
    rcases hu with rfl|rfl|rfl|rfl <;> rfl
   ·exact h3 u hu
theorem ur.cells {S S':Nat->Prop} {w w':World}(hS:∀g,S g->S' g)(hk:∀g,S g->w'.heap[g]?=w.heap[g]?):(l:List Ty)->∀g o,(∀j,j<l.length*4->w'.cell? ⟨g,o+j,none⟩=w.cell? ⟨g,o+j,none⟩)->ur S w l g o->ur S' w' l g o
 |[],g,o,_,_=>by rw[ur];trivial
 |t::r,g,o,hc,h=>by
  rw[ur]at h ⊢;obtain⟨⟨A,c,⟨e0,e1,e2,e3⟩,ha⟩,hr⟩:=h;have hl:(t::r).length*4=r.length*4+4:=by rw[Ca];omega
  refine⟨⟨A,c,⟨(hc 0 (by omega)).trans e0,(hc 1 (by omega)).trans e1,(hc 2 (by omega)).trans e2,(hc 3 (by omega)).trans e3⟩,ha.al hS hk⟩,ur.cells hS hk r g (o+4) (λj hj=>?_) hr⟩;have:=hc (j+4) (by omega);rw[show o+(j+4)=o+4+j by omega]at this;exact this
def FT(w:World)(g o:Nat)(b0 b1 b2 b3:Value):World:=(((w.setCell ⟨g,o,none⟩ b0).setCell ⟨g,o+1,none⟩ b1).setCell ⟨g,o+2,none⟩ b2).setCell ⟨g,o+3,none⟩ b3
theorem zqV {g o o':Nat}(h:o≠o'):(⟨g,o,none⟩:Addr)≠⟨g,o',none⟩:=λe=>h (by injection e)
theorem other(w:World)(g o o':Nat)(u:Value)(h:o≠o'):(w.setCell ⟨g,o,none⟩ u).cell? ⟨g,o',none⟩=w.cell? ⟨g,o',none⟩:=World.cell?_setCell_other _ _ _ _ (zqV h)
theorem same(w:World)(a:Addr)(v u:Value)(h:w.cell? a=some u):(w.setCell a v).cell? a=some v:=World.cell?_setCell_same _ _ _ h
theorem Qz(w:World)(g o j:Nat)(b0 b1 b2 b3:Value)(hj:j<o\/o+4<=j):(FT w g o b0 b1 b2 b3).cell? ⟨g,j,none⟩=w.cell? ⟨g,j,none⟩ :=
 (other _ g (o+3) j _ (by omega)).trans ((other _ g (o+2) j _ (by omega)).trans ((other _ g (o+1) j _ (by omega)).trans (other _ g o j _ (by omega))))
theorem zlI(w:World)(g o:Nat)(b0 b1 b2 b3 a0 a1 a2 a3:Value)(h0:w.cell? ⟨g,o,none⟩=some a0)(h1:w.cell? ⟨g,o+1,none⟩=some a1)(h2:w.cell? ⟨g,o+2,none⟩=some a2)(h3:w.cell? ⟨g,o+3,none⟩=some a3):(FT w g o b0 b1 b2 b3).cell? ⟨g,o,none⟩=some b0/\(FT w g o b0 b1 b2 b3).cell? ⟨g,o+1,none⟩=some b1/\(FT w g o b0 b1 b2 b3).cell? ⟨g,o+2,none⟩=some b2/\(FT w g o b0 b1 b2 b3).cell? ⟨g,o+3,none⟩=some b3:=by
 refine⟨?_,?_,?_,?_⟩
 ·exact(other _ g (o+3) o _ (by omega)).trans ((other _ g (o+2) o _ (by omega)).trans ((other _ g (o+1) o _ (by omega)).trans (same _ _ _ _ h0)))
 ·exact(other _ g (o+3) (o+1) _ (by omega)).trans ((other _ g (o+2) (o+1) _ (by omega)).trans (same _ _ _ a1 ((other _ g o (o+1) _ (by omega)).trans h1)))
 ·exact(other _ g (o+3) (o+2) _ (by omega)).trans (same _ _ _ a2 ((other _ g (o+1) (o+2) _ (by omega)).trans ((other _ g o (o+2) _ (by omega)).trans h2)))
 ·exact same _ _ _ a3 ((other _ g (o+2) (o+3) _ (by omega)).trans ((other _ g (o+1) (o+3) _ (by omega)).trans ((other _ g o (o+3) _ (by omega)).trans h3)))
theorem LX(w:World)(g o k:Nat)(b0 b1 b2 b3:Value)(hk:k≠g):(FT w g o b0 b1 b2 b3).heap[k]?=w.heap[k]?:=by
 unfold FT;exact(B8 _ ⟨g,o+3,none⟩ _ k hk).trans ((B8 _ ⟨g,o+2,none⟩ _ k hk).trans ((B8 _ ⟨g,o+1,none⟩ _ k hk).trans (B8 _ ⟨g,o,none⟩ _ k hk)))
theorem MW(w:World)(g o:Nat)(b0 b1 b2 b3:Value):(FT w g o b0 b1 b2 b3).heap.size=w.heap.size:=by
 unfold FT;simp
theorem zkj(w:World)(g o:Nat)(a:Addr)(b0 b1 b2 b3:Value):(FT w g o b0 b1 b2 b3).frozen? a=w.frozen? a:=by
 unfold FT;simp
theorem b_.FT {M:Nat->Prop} {w w':World} {g:Nat}(h:b_ M w w')(o:Nat)(b0 b1 b2 b3:Value)(hg:w.heap.size<=g\/M g):b_ M w (FT w' g o b0 b1 b2 b3) :=
 (((h.setCell (p:=⟨g,o,none⟩) hg _).setCell (p:=⟨g,o+1,none⟩) hg _).setCell (p:=⟨g,o+2,none⟩) hg _).setCell (p:=⟨g,o+3,none⟩) hg _
structure F3 (R S:Nat->Prop) (w:World) (l done:List Ty) (g i:Nat):Prop where
 free:∀j,w.frozen? ⟨g,j,none⟩=false
 lt:g<w.heap.size
 new:ur R w done g 0
 GD:∀j (hj:j<l.length),i<=j->∃A c,F7 w l[j] A c g (j*4)/\j_ S w l[j] A
theorem F3.al {R R' S:Nat->Prop} {w w':World} {l done:List Ty} {g i:Nat}(h:F3 R S w l done g i)(hR:∀g,R g->R' g)(hk:∀k,R k\/S k\/k=g->w'.heap[k]?=w.heap[k]?)(hs:w.heap.size<=w'.heap.size):F3 R' S w' l done g i where
 free j:=(World.frozen?_of_block (hk g (.inr (.inr rfl)))).trans (h.free j)
 lt:=Ci h.lt hs
 new:=ur.al hR (λg hg=>hk g (.inl hg)) done g 0 (hk g (.inr (.inr rfl))) h.new
 GD j hj hi:=by
  obtain⟨A,c,h1,h2⟩:=h.GD j hj hi;exact⟨A,c,h1.al (hk g (.inr (.inr rfl))),h2.al (λ_ h=>h) (λg hg=>hk g (.inr (.inl hg)))⟩
theorem F3.put {R S:Nat->Prop} {w:World} {l done:List Ty} {g i:Nat} {u:Ty} {k z:Int} {x:ByteArray} {a:Option Addr} {m p:Nat}(h:F3 R S w l done g i)(hi:i<l.length)(hd:done.length=i)(hr:nc R w u (.agg #[.int .i64 k,.string x,.int .i64 z,.slice a m p]))(hRg:¬R g)(hSg:¬S g):F3 R S (FT w g (i*4) (.int .i64 k) (.string x) (.int .i64 z) (.slice a m p)) l (done++[u]) g (i+1) where
 free j:=(zkj _ _ _ _ _ _ _ _).trans (h.free j)
 lt:=by rw[MW];exact h.lt
 new:=by
  obtain⟨A0,c0,⟨e0,e1,e2,e3⟩,-⟩:=h.GD i hi (BU _);obtain⟨f0,f1,f2,f3⟩:=zlI w g (i*4) (.int .i64 k) (.string x) (.int .i64 z) (.slice a m p) _ _ _ _ e0 e1 e2 e3;obtain⟨K,X,Z,A,n,c,hv,hK,hX,hZ,hn,ha⟩:=hr.parts;injection hv with hv;have hv:=Cp Array.toList hv;simp only[DF,Value.int.injEq,Value.string.injEq,Value.slice.injEq,and_true,true_and]at hv;obtain⟨rfl,rfl,rfl,rfl,rfl,rfl⟩:=hv;subst hK;subst hX;subst hZ;subst hn;refine ur.snoc done g 0 u a p (ur.cells (λ_ h=>h) (λk hk=>LX _ _ _ _ _ _ _ _ (λe=>hRg (by rw[<-e];exact hk))) done g 0 (λj hj=>Qz _ _ _ _ _ _ _ _ (by omega)) h.new) ?_ (ha.al (λ_ h=>h) (λk hk=>LX _ _ _ _ _ _ _ _ (λe=>hRg (by rw[<-e];exact hk))));rw[hd,Dm]
  exact⟨f0,f1,f2,f3⟩
 GD j hj oR:=by
  obtain⟨A,c,⟨e0,e1,e2,e3⟩,h2⟩:=h.GD j hj (by omega);exact⟨A,c,⟨(Qz _ _ _ _ _ _ _ _ (by omega)).trans e0,(Qz _ _ _ _ _ _ _ _ (by omega)).trans e1,(Qz _ _ _ _ _ _ _ _ (by omega)).trans e2,(Qz _ _ _ _ _ _ _ _ (by omega)).trans e3⟩,
   h2.al (λ_ h=>h) (λk hk=>LX _ _ _ _ _ _ _ _ (λe=>hSg (by rw[<-e];exact hk)))⟩
set_option maxRecDepth 100000
theorem SI {S:Nat->Prop} {w:World} {t:Ty} {A:Option Addr} {m:Nat}(h:j_ S w t A)(hm:(kids t).length=m):∃vs,vs.length=m*4/\fs S w (kids t) vs/\(A=none->m=0)/\(∀u∈vs,u.oneCell'=true)/\∀ad,A=some ad->∀w':World,(∀k,S k->w'.heap[k]?=w.heap[k]?)->∀j u,vs[j]?=some u->w'.cell? (ad.add j)=some u:=by
 by_cases hk:kids t=[]
 ·rw[hk]at hm ⊢
  obtain rfl:m=0:=hm.symm;exact⟨[],rfl,by rw[fs],λ_=>rfl,by simp,by simp⟩
 ·obtain⟨g,hA,hg,hr⟩:=(M5 S w t A).1 h hk
  obtain⟨vs,h1,h2,h3⟩:=zh1 (kids t) g 0 hr;refine⟨vs,by rw[fs.len _ _ h1,hm],h1,λe=>(by rw[hA]at e;cases e),h3,λad nJ w' hw j u hu=>?_⟩;rw[hA]at nJ;injection nJ with nJ;rw[<-nJ,Q_]
  have:=h2 j u hu;rw[Dm]at this;exact(Ck (w:=w) (a:=⟨g,j,none⟩) (hw g hg)).trans this
theorem SP {R S:Nat->Prop} {w:World} {l:List Ty} {vs:List Value} {B m c:Nat} {A:Option Addr}(h:w.ownsRow B 37 4 (.slice A m c) m vs)(hv:fs S w l vs):∃g,B<=g/\(0<m->A=some ⟨g,0,none⟩/\F3 R S w l [] g 0):=by
 obtain⟨h0,h⟩:=h;rcases h with⟨_,h⟩|⟨g,cap,cur,WG,hg,hb,h1,h2,h3,h4⟩
 ·exact⟨B,BU _,λh'=>by omega⟩
 ·injection WG with WG
  refine⟨g,hg,λ_=>⟨WG,?_⟩⟩;have hc:∀j u,vs[j]?=some u->w.cell? ⟨g,0+j,none⟩=some u:=λj u hu=>by
   have hj:j<vs.length:=by
    refine Nat.lt_of_not_le λhl=>?_;rw[DQ hl]at hu
    cases hu
   rw[Dm,cell_of_row w g j cur _ (0,0) hb,<-hu,<-h4,List.getElem?_take_of_lt (by omega)];simp
  have hr:=fs.row l vs 0 hv hc;exact⟨λj=>frozen_of_row w g j cur _ hb,lt_of_block hb,by rw[ur];trivial,λj hj _=>by
   have:=ur.at_ l g 0 j hj hr;rw[Dm]at this;exact this⟩
theorem NW {w:World} {g g' o:Nat} {t:TypeId} {cs:Array Value} {b0 b1 b2 b3:Value}(h:ar w g' t cs)(ai:g'≠g):ar ((((w.setCell ⟨g,o,none⟩ b0).setCell ⟨g,o+1,none⟩ b1).setCell ⟨g,o+2,none⟩ b2).setCell ⟨g,o+3,none⟩ b3) g' t cs:=(LX w g o g' b0 b1 b2 b3 ai).trans h
section
variable {σ:Type}
def Fx(mb:Nat)(I:Nat->σ->World->Prop)(M Su S:Nat->Prop)(bind:Name->σ->Name × σ)(leaf:Ty->Ty)(env:List (Name × Name))(l:List Ty)(c:Nat)(s:σ)(B g m:Nat)(w0:World)(gg:Nat)(vi:Value)(wr:World):Prop :=
 ∃i,gg=m-i/\vi=.int .i64 (i:Nat)/\i<=m/\I (c+C' (l.take i)) (D_ bind leaf env (l.take i) s).2 wr/\iT FE wr mb env /\
  (0<m->F3 (λk=>Su k\/(B<=k/\k<wr.heap.size)) S wr l (D_ bind leaf env (l.take i) s).1 g i)/\b_ (λk=>M k\/k=mb\/k=g) w0 wr
end
theorem zkH {σ:Type}(bind:Name->σ->Name × σ)(leaf:Ty->Ty)(env:List (Name × Name))(t:Ty)(s:σ)(h:kd t=3\/kd t=4):kd (iF bind leaf env t s).1=kd t/\ER (iF bind leaf env t s).1=ER t/\nn (iF bind leaf env t s).1=nn t/\kids (iF bind leaf env t s).1=(D_ bind leaf env (kids t) s).1/\(iF bind leaf env t s).2=(D_ bind leaf env (kids t) s).2:=by
 cases t with
 |var x=>simp[kd]at h
 |mt n=>simp[kd]at h
 |h_ d l=>rw[iF];exact⟨rfl,rfl,rfl,rfl,rfl⟩
 |fn a b=>rw[iF,kids];exact⟨rfl,rfl,rfl,rfl,rfl⟩
 |all x t=>simp[kd]at h
theorem zh2 {σ:Type}(n kb kl:Nat)(cb cl:Array Value)(mb:Nat)(I:Nat->σ->World->Prop)(K M Su:Nat->Prop)(bind:Name->σ->Name × σ)(leaf:Ty->Ty)(hI:Gt I K)(aY:∀g,M g->K g)(aO:∀g,Su g->K g/\¬M g)(bI:¬K mb)
  (HC:UM n kb kl cb cl mb I M Su bind leaf)
  (c:Nat)(s:σ)(env:List (Name × Name))(t:Ty)(S:Nat->Prop)(v:Value)(w:World)(gL:kd t=3\/kd t=4)(hn:t.size<=n+1)(h6:n<1000000000000)
  (hi:I c s w)(hm:iT FE w mb env)(hv:nc S w t v)(hS:∀g,S g->g<w.heap.size/\¬M g/\g≠mb)(aw:Nm t)(hc:c+t.E7<=10000000)(hlen:env.length+t.size<=50000000000000):Calls prog 89 #[v,.map (some mb),FL kb cb,FL kl cl] w (Je mb I M Su env (c+t.E7) (iF bind leaf env t s) w):=by
 obtain⟨k,X,Z,A,m,cp,rfl,hk,hX,hZ,cG,ha⟩:=hv.parts;have lI:q_ (kids t)+1=t.size:=by rw[Gv t]
 have Xh:t.E7=C' (kids t):=by rw[Sr t,Cg (by omega),Nat.add_zero]
 have dI:m<=n:=by have:=LF t;omega
 have d1:((k:Int)==1)=false:=by rw[hk];exact kF _ 1 (by omega)
 have d2:((k:Int)==2)=false:=by rw[hk];exact kF _ 2 (by omega)
 have d5:((k:Int)==5)=false:=by rw[hk];exact kF _ 5 (by omega)
 obtain⟨vs,oe,od,jY,di,og⟩:=SI ha cG;obtain⟨-,-,ls,lb⟩:=IC w (.cells #[.int .i64 k,.string X,.int .i64 Z,.slice A m cp] 37) (.cells #[.int .i64 0,.string ⟨#[]⟩,.int .i64 0,.slice none 0 0] 37);obtain⟨l0,l1,-,-⟩:=IC w (.cells #[.int .i64 k,.string X,.int .i64 Z,.slice A m cp] 37) (.cells #[.int .i64 0,.string ⟨#[]⟩,.int .i64 0,.slice none 0 0] 37);have dN:=Ss A m cp vs ((w.alloc (.cells #[.int .i64 k,.string X,.int .i64 Z,.slice A m cp] 37)).alloc (.cells #[.int .i64 0,.string ⟨#[]⟩,.int .i64 0,.slice none 0 0] 37)) jY oe
  (λad nJ w' hw j u hu=>og ad nJ w' (λq hq=>(hw.block q (by have:=hS q hq;omega)).trans (lb.block q (hS q hq).1)) j u hu) di (by omega)
 rw[ls]at dN;obtain⟨bm,cD,gZ,dT,cW⟩:=zkH bind leaf env t s gL;have bW:=EP bm;have dY:=EP cD;have nA:=EP gZ;have iM:=EP dT;have ei:=EP cW;have HK:=EP hk;have HX:=EP hX;have HZ:=EP hZ;have eT:=EP cG;have HS:=EP hS;have HI:=EP hi;have HM:=EP hm;have au:=EP (hI.lt c s w hi);have ej:Hid (∀i (hi:i<(kids t).length),Nm (kids t)[i]):=EP λi hi=>Mc aw i hi;have jh:=EP dN;have pI:=EP od;have L0:=EP l0;have L1:=EP l1;have LB:=EP lb;have rG:=EP ls;have dK:=hm.lt;clear bm cD gZ dT cW hk hX hZ cG hS hi hm aw dN oe od jY di og l0 l1 ls lb hv ha gL;unfold FL;go_enter_defers func89,ntmps89
 go_wp2_with fail;refine jh.o.mono ?_;rintro e w3 ⟨A3,c3,rfl,aj,a8⟩;have dy:w.heap.size+2<=w3.heap.size:=Cm (DD rG.o.symm) a8.size;have aB:=ar.below L0.o a8 (by omega);have av:=ar.below L1.o a8 (by omega);have aI:=LB.o.trans (a8.mono (by omega));obtain⟨g3,fL,aE⟩:=SP (R:=λk=>Su k\/(w3.heap.size<=k/\k<w3.heap.size)) aj (pI.o.al (λ_ h=>h) (λq hq=>aI.block q (HS.o q hq).1));obtain⟨p0,p1,p2,p3,s0,s1,s2,s3,dp⟩:=n_ aB;have cK:=EP aB;have bc:=EP av;have jk:=EP aI;have eG:=EP aE;clear aj aB av aI aE a8 jh pI;go_wp2_with fail;have fp:ar (w3.setCell ⟨w.heap.size,3,none⟩ (.slice A3 m c3)) w.heap.size 37 #[.int .i64 k,.string X,.int .i64 Z,.slice A3 m c3]:=Cl _ w.heap.size 3 _ _ (.slice A3 m c3) cK.o;have dT:ar (w3.setCell ⟨w.heap.size,3,none⟩ (.slice A3 m c3)) (w.heap.size+1) 37 #[.int .i64 0,.string ⟨#[]⟩,.int .i64 0,.slice none 0 0]:=bc.o.I8 (p:=⟨w.heap.size,3,none⟩) (Em _) _;have dz:(w3.setCell ⟨w.heap.size,3,none⟩ (.slice A3 m c3)).heap.size=w3.heap.size:=by simp
 have fi:∀q,q<w.heap.size->(w3.setCell ⟨w.heap.size,3,none⟩ (.slice A3 m c3)).heap[q]?=w.heap[q]?:=λq hq=>(B8 w3 ⟨w.heap.size,3,none⟩ _ q (by show q≠w.heap.size;omega)).trans (jk.o.block q hq);have eR:b_ (λk=>M k\/k=mb) w (w3.setCell ⟨w.heap.size,3,none⟩ (.slice A3 m c3)):=(b_.c_ jk.o).setCell (p:=⟨w.heap.size,3,none⟩) (.inl (BU _)) _;have lR:=hI.al c s w _ HI.o (by rw[dz];exact jk.o.size) (λq hq=>fi q (au.o q hq));have lN:=HM.o.al (fi mb dK);have jf:=EP fp;have lg:=EP dT;have YD:=EP fi;have iO:=EP eR;have vO:=EP lR;have rW:=EP lN;have gD:=EP dz;have rr:=jk.o.size;have et:Hid (0<m->A3=some ⟨g3,0,none⟩/\F3 (λk=>Su k\/(w3.heap.size<=k/\k<(w3.setCell ⟨w.heap.size,3,none⟩ (.slice A3 m c3)).heap.size)) S (w3.setCell ⟨w.heap.size,3,none⟩ (.slice A3 m c3)) (kids t) [] g3 0):=EP λh0=>by
  obtain⟨x1,x2⟩:=eG.o h0;refine⟨x1,x2.al (λq hq=>by rw[dz];exact hq) (λq hq=>B8 w3 ⟨w.heap.size,3,none⟩ _ q ?_) (by rw[dz];exact BU _)⟩;show q≠w.heap.size;rcases hq with(hq|hq)|hq|hq
  ·have:=au.o q (aO q hq).1;omega
  ·omega
  ·have:=(HS.o q hq).1;omega
  ·omega
 clear fp dT fi eR lR lN dz p0 p1 p2 p3 s0 s1 s2 s3;go_loopg [56] m (λgg vi wr=>Fx mb I M Su S bind leaf env (kids t) c s w3.heap.size g3 m (w3.setCell ⟨w.heap.size,3,none⟩ (.slice A3 m c3)) gg vi wr);case atStart =>
  exact⟨0,by omega,rfl,Cw _,by rw[CK,C',D_];exact vO.o,rW.o,λh0=>by rw[CK,D_];exact(et.o h0).2,b_.refl _ _⟩
 case round =>
  obtain⟨i,rfl,rfl,hi,i1,gX,ot,c1⟩:=hrel;have I1:=EP i1;have gq:=EP gX;have pL:=EP ot;have C1:=EP c1;have fI:=c1.size;rw[gD.o]at fI;have fh:∀q,w.heap.size<=q->q<w.heap.size+2->wr.heap[q]? =(w3.setCell ⟨w.heap.size,3,none⟩ (.slice A3 m c3)).heap[q]?:=λq h1 h2=>c1.block q (by rw[gD.o];omega) (λh=>by
   rcases h with h|h|h
   ·have:=au.o q (aY q h);omega
   ·omega
   ·omega)
  have BN:=EP (jf.o.same (fh _ (BU _) (by omega)));have BR:=EP (lg.o.same (fh _ (by omega) (by omega)));clear i1 gX ot c1 fh;by_cases af:i<m
  ·obtain⟨rfl,eN⟩:=et.o (by omega)
   have kL:=eN.lt;rw[gD.o]at kL;clear eN;have aW:=pL.o (by omega);have bP:i<(kids t).length:=by rw[eT.o];exact af
   obtain⟨A1,q1,h4,eD⟩:=aW.GD i bP (BU _);have bT:=ej.o i bP;have ft:(kids t).take (i+1)=(kids t).take i++[(kids t)[i]]:=CV bP;have fu:=OE (kids t) i (kids t)[i] ⟨bP,rfl⟩;have oo:=OA (kids t) (i+1);have fC:=SQ (kids t) i (kids t)[i] ⟨bP,rfl⟩;have uG:=Tc (kids t) (i+1);obtain⟨u,hu⟩:∃u,(kids t)[i]=u:=⟨_,rfl⟩;rw[hu]at h4 eD bT ft fu fC;have dD:u.size<=n:=by omega
   have aG:nc S wr u (.agg #[.int .i64 (kd u:Nat),.string (ER u),.int .i64 (nn u:Nat),.slice A1 (kids u).length q1]):=⟨A1,q1,rfl,eD⟩;obtain⟨e0,e1,e2,e3⟩:=h4;obtain⟨K1,fM⟩:∃K1:Int,((kd u:Nat):Int)=K1:=⟨_,rfl⟩;obtain⟨X1,kU⟩:∃X1,ER u=X1:=⟨_,rfl⟩;obtain⟨Z1,py⟩:∃Z1:Int,((nn u:Nat):Int)=Z1:=⟨_,rfl⟩;obtain⟨n1,iY⟩:∃n1,(kids u).length=n1:=⟨_,rfl⟩;rw[fM]at e0 aG;rw[kU]at e1 aG;rw[py]at e2 aG;rw[iY]at e3 aG;have eF:=EP ft;have pJ:=EP fC;have ah:=HC (c+C' ((kids t).take i)) (D_ bind leaf env ((kids t).take i) s).2 env u S _ ((wr.alloc (.cells #[.int .i64 K1,.string X1,.int .i64 Z1,.slice A1 n1 q1] 37)).drew) dD (by omega)
    (hI.al _ _ _ _ I1.o (by show wr.heap.size<=(wr.alloc _).heap.size;simp) (λg hg=>BX wr _ g (hI.lt _ _ _ I1.o g hg))) (gq.o.al (BX wr _ mb gq.o.lt)) (aG.al (λ_ h=>h) (λg hg=>BX wr _ g (by have:=(HS.o g hg).1;omega)))
    (λg hg=>⟨by show g<(wr.alloc _).heap.size;have:=(HS.o g hg).1;simp;omega,(HS.o g hg).2⟩) bT (by omega) (by omega)
   unfold FL at ah;have ak:=EP ah;have gR:Hid (ar ((wr.alloc (.cells #[.int .i64 K1,.string X1,.int .i64 Z1,.slice A1 n1 q1] 37)).drew) w.heap.size 37 #[.int .i64 k,.string X,.int .i64 Z,.slice (some ⟨g3,0,none⟩) m c3]):=EP (ar.alloc BN.o _);have lZ:Hid (ar ((wr.alloc (.cells #[.int .i64 K1,.string X1,.int .i64 Z1,.slice A1 n1 q1] 37)).drew) wr.heap.size 37 #[.int .i64 K1,.string X1,.int .i64 Z1,.slice A1 n1 q1]):=EP (BZ wr _);have bh:Hid (∀W:World,ar W w.heap.size 37 #[.int .i64 k,.string X,.int .i64 Z,.slice (some ⟨g3,0,none⟩) m c3]->ar W wr.heap.size 37 #[.int .i64 K1,.string X1,.int .i64 Z1,.slice A1 n1 q1] ->
    W.cell? ⟨w.heap.size,3,none⟩=some (.slice (some ⟨g3,0,none⟩) m c3)/\W.cell? ⟨wr.heap.size,0,none⟩=some (.int .i64 K1)/\W.cell? ⟨wr.heap.size,1,none⟩=some (.string X1)/\W.cell? ⟨wr.heap.size,2,none⟩=some (.int .i64 Z1)/\W.cell? ⟨wr.heap.size,3,none⟩=some (.slice A1 n1 q1)) :=
    EP λW h1 h2=>⟨h1.cell 3,h2.cell 0,h2.cell 1,h2.cell 2,h2.cell 3⟩
   have dv:=EP aW;have kK:=aW.lt;have kh:w.heap.size≠g3:=by omega
   have kg:wr.heap.size≠g3:=by omega
   clear aW aG bT ah hu fM kU py iY ft fu fC eD;go_wp2_with fail;go_region_held3 (λW=>W.cell? ⟨w.heap.size,3,none⟩=some (.slice (some ⟨g3,0,none⟩) m c3)/\W.cell? ⟨wr.heap.size,0,none⟩=some (.int .i64 K1)/\W.cell? ⟨wr.heap.size,1,none⟩=some (.string X1)/\W.cell? ⟨wr.heap.size,2,none⟩=some (.int .i64 Z1)/\W.cell? ⟨wr.heap.size,3,none⟩=some (.slice A1 n1 q1)) (first|(with_reducible exact bh.o _ gR.o lZ.o)|(with_reducible exact bh.o _ fN.o lY.o)|(with_reducible exact bh.o _ (NW fN.o kh) (NW lY.o kg)))
    (((with_reducible refine ak.o.mono ?_);rintro e w5 ⟨k',x',z',a',m',p',rfl,cW,lQ,fA,c5⟩;have fW:∀q,w.heap.size<=q->q<=wr.heap.size->w5.heap[q]? =(wr.alloc (.cells #[.int .i64 K1,.string X1,.int .i64 Z1,.slice A1 n1 q1] 37)).heap[q]?:=(λq h1 h2=>c5.block q (by show q<(wr.alloc _).heap.size;rw[size_alloc];omega) (λh=>by rcases h with h|h;(have:=au.o q (aY q h);omega);omega));have fN:=EP (gR.o.same (fW _ (BU _) (by omega)));have lY:=EP (lZ.o.same (fW _ (by omega) (BU _)));have eI:wr.heap.size+1<=w5.heap.size:=(by have:=c5.size;rw[show((wr.alloc (.cells #[.int .i64 K1,.string X1,.int .i64 Z1,.slice A1 n1 q1] 37)).drew).heap.size=wr.heap.size+1 from size_alloc _ _]at this;exact this);have eo:=dv.o.al (R':=λk=>Su k\/(w3.heap.size<=k/\k<w5.heap.size)) (w':=w5) (λq hq=>(by rcases hq with hq|hq;exact .inl hq;exact .inr ⟨hq.1,by omega⟩)) (λq hq=>(c5.block q (by show q<(wr.alloc _).heap.size;rw[size_alloc];rcases hq with(hq|hq)|hq|hq;(have:=au.o q (aO q hq).1;omega);omega;(have:=(HS.o q hq).1;omega);omega) (by rcases hq with(hq|hq)|hq|hq;(exact λh=>by rcases h with h|h;exact(aO q hq).2 h;exact bI (by rw[<-h];exact(aO q hq).1));(exact λh=>by rcases h with h|h;(have:=au.o q (aY q h);omega);omega);(exact λh=>by rcases h with h|h;exact(HS.o q hq).2.1 h;exact(HS.o q hq).2.2 h);(exact λh=>by rcases h with h|h;(have:=au.o q (aY q h);omega);omega))).trans (BX wr _ q (by rcases hq with(hq|hq)|hq|hq;(have:=au.o q (aO q hq).1;omega);omega;(have:=(HS.o q hq).1;omega);omega))) (by omega);obtain⟨A5,q5,⟨y0,y1,y2,y3⟩,-⟩:=eo.GD i bP (BU _);have f0:=eo.free (i*4);have f1:=eo.free (i*4+1);have f2:=eo.free (i*4+2);have f3:=eo.free (i*4+3);have vg:=EP eo;have ei:=EP cW;have vN:=EP lQ;have qy:=EP fA;have C5:=EP c5;clear eo cW lQ fA c5 fW))
   all_goals
    go_wp2_with fail;have cN:=F3.put vg.o bP (by rw[LW,DH];omega) (ei.o.al (S':=λk=>Su k\/(w3.heap.size<=k/\k<w5.heap.size)) (λq hq=>by rcases hq with hq|hq;exact .inl hq;exact .inr ⟨by have h1:=hq.1;have h2:((wr.alloc (.cells #[.int .i64 K1,.string X1,.int .i64 Z1,.slice A1 n1 q1] 37)).drew).heap.size=wr.heap.size+1:=size_alloc _ _;omega,hq.2⟩) (λq _=>rfl)) (λh=>by rcases h with h|h;(have:=au.o _ (aO _ h).1;omega);omega) (λh=>by have:=(HS.o _ h).1;omega);have lj:=EP cN;clear cN;go_roundg (m-(i+1));case measure=>omega
    case rel =>
     have eP:Fx mb I M Su S bind leaf env (kids t) c s w3.heap.size g3 m (w3.setCell ⟨w.heap.size,3,none⟩ (.slice (some ⟨g3,0,none⟩) m c3)) (m-(i+1)) (.int .i64 ((i+1:Nat):Int)) (FT w5 g3 (i*4) (.int .i64 k') (.string x') (.int .i64 z') (.slice a' m' p')):=by
      refine⟨i+1,rfl,rfl,by omega,?_,?_,λ_=>?_,?_⟩
      ·rw[eF.o,NZ,<-eF.o,pJ.o]
       have:=hI.al _ _ _ (FT w5 g3 (i*4) (.int .i64 k') (.string x') (.int .i64 z') (.slice a' m' p')) vN.o (by rw[MW];exact BU _) (λq hq=>LX _ _ _ _ _ _ _ _ (by have:=au.o q hq;omega));rw[DN]at this;exact this
      ·exact qy.o.al (LX _ _ _ _ _ _ _ _ (by omega))
      ·rw[eF.o,NZ]
       exact lj.o.al (λq hq=>by rw[MW];exact hq) (λ_ _=>rfl) (BU _)
      ·have h1:b_ (λk=>M k\/k=mb\/k=g3) (w3.setCell ⟨w.heap.size,3,none⟩ (.slice (some ⟨g3,0,none⟩) m c3)) w5:=((C1.o.alloc _).drew).trans' C5.o (λq _ h=>by
        rcases h with h|h
        ·exact .inl h
        ·exact .inr (.inl h))
       exact h1.FT _ _ _ _ _ (.inr (.inr (.inr rfl)))
     refine cast (Cp (λv=>Fx mb I M Su S bind leaf env (kids t) c s w3.heap.size g3 m _ (m-(i+1)) v _) ?_) eP;go_num
  ·have eB:i=m:=by omega
   subst eB;have aJ:(kids t).take i=kids t:=Cq (by rw[eT.o];exact BU _);have cf:=I1.o;have eu:=pL.o;rw[aJ,<-ei.o]at cf;rw[aJ,<-iM.o]at eu;have fH:=EP cf;have lf:=EP eu;obtain⟨p0,p1,p2,p3,s0,s1,s2,s3,-⟩:=n_ BN.o;obtain⟨q0,q1,q2,q3,t0,t1,t2,t3,-⟩:=n_ BR.o;clear cf eu aJ;go_wp2_with fail;have hb:=Fh (.int .i64 k) (.string X) (.int .i64 Z) (.slice A3 i c3) BR.o;have hf:∀g,g≠w.heap.size+1->((((wr.setCell ⟨w.heap.size+1,0,none⟩ (.int .i64 k)).setCell ⟨w.heap.size+1,1,none⟩ (.string X)).setCell ⟨w.heap.size+1,2,none⟩ (.int .i64 Z)).setCell ⟨w.heap.size+1,3,none⟩ (.slice A3 i c3)).heap[g]?=wr.heap[g]?:=λg hg=>G3 _ _ _ _ _ _ _ hg;have aA:((((wr.setCell ⟨w.heap.size+1,0,none⟩ (.int .i64 k)).setCell ⟨w.heap.size+1,1,none⟩ (.string X)).setCell ⟨w.heap.size+1,2,none⟩ (.int .i64 Z)).setCell ⟨w.heap.size+1,3,none⟩ (.slice A3 i c3)).heap.size=wr.heap.size:=by simp
   refine⟨_,CW rfl _ _ (w.heap.size+1) 37 _ (0,0) _ rfl hb underlying37 rfl (by kernel_rfl),k,X,Z,A3,i,c3,rfl,⟨A3,c3,?_,?_⟩,?_,?_,?_⟩
   ·rw[bW.o,dY.o,nA.o,iM.o,LW,eT.o,<-HK.o,<-HX.o,<-HZ.o]
   ·refine(M5 _ _ _ _).2 λai=>?_
    have h0:0<i:=by
     refine EO λe=>ai ?_;rw[iM.o]
     refine Cn ?_;rw[LW,eT.o,e]
    obtain⟨hA,h4⟩:=et.o h0;have lP:=h4.lt;rw[gD.o]at lP;have aE:=lf.o h0;refine⟨g3,hA,.inr ⟨by omega,by rw[aA];omega⟩,ur.al (λq hq=>by rw[aA];rcases hq with hq|hq;exact .inl hq;exact .inr ⟨by omega,hq.2⟩) (λq hq=>hf q (by rcases hq with hq|hq;(have:=au.o q (aO q hq).1;omega);omega)) _ _ _ (hf g3 (by omega)) aE.new⟩
   ·refine hI.mono _ _ _ _ (hI.al _ _ _ _ fH.o (DD aA.symm) (λq hq=>hf q (by have:=au.o q hq;omega))) (by omega)
   ·exact gq.o.al (hf mb (by omega))
   ·refine b_.C_ (iO.o.trans' C1.o (λq hq h=>?_)) _ _ _ _ (DZ _)
    rcases h with h|h|h
    ·exact .inl h
    ·exact .inr h
    ·omega
set_option maxRecDepth 100000
theorem zkI {σ:Type}(bind:Name->σ->Name × σ)(leaf:Ty->Ty)(env:List (Name × Name))(t:Ty)(s:σ)(h:kd t=5):kd (iF bind leaf env t s).1=kd t/\ER (iF bind leaf env t s).1=⟨(bind (ER t).data.toList s).1.toArray⟩/\nn (iF bind leaf env t s).1=nn t/\kids (iF bind leaf env t s).1=(D_ bind leaf (((ER t).data.toList,(bind (ER t).data.toList s).1)::env) (kids t) (bind (ER t).data.toList s).2).1 /\
   (iF bind leaf env t s).2=(D_ bind leaf (((ER t).data.toList,(bind (ER t).data.toList s).1)::env) (kids t) (bind (ER t).data.toList s).2).2:=by
 cases t with
 |var x=>simp[kd]at h
 |mt n=>simp[kd]at h
 |h_ d l=>simp[kd]at h
 |fn a b=>simp[kd]at h
 |all x t=>rw[iF];exact⟨rfl,rfl,rfl,rfl,rfl⟩
theorem zm4 {σ:Type}(n kb kl:Nat)(cb cl:Array Value)(mb:Nat)(I:Nat->σ->World->Prop)(K M Su:Nat->Prop)(bind:Name->σ->Name × σ)(leaf:Ty->Ty)(hI:Gt I K)(aY:∀g,M g->K g)(aO:∀g,Su g->K g/\¬M g)(bI:¬K mb)
  (eb:∀args w,(callFunc kb args).run prog w=.ok (.enter kb args) w)(HB:RR kb cb I M bind)(HC:UM n kb kl cb cl mb I M Su bind leaf)
  (c:Nat)(s:σ)(env:List (Name × Name))(t:Ty)(S:Nat->Prop)(v:Value)(w:World)(aM:kd t=5)(hn:t.size<=n+1)(h6:n<1000000000000)
  (hi:I c s w)(hm:iT FE w mb env)(hv:nc S w t v)(hS:∀g,S g->g<w.heap.size/\¬M g/\g≠mb)(aw:Nm t)(hc:c+t.E7<=10000000)(hlen:env.length+t.size<=50000000000000):Calls prog 89 #[v,.map (some mb),FL kb cb,FL kl cl] w (Je mb I M Su env (c+t.E7) (iF bind leaf env t s) w):=by
 obtain⟨k,X,Z,A,m,cp,rfl,hk,hX,hZ,cG,ha⟩:=hv.parts;have lI:q_ (kids t)+1=t.size:=by rw[Gv t]
 have Xh:t.E7=C' (kids t)+1:=by rw[Sr t,Ch (by omega)]
 have dI:m<=n:=by have:=LF t;omega
 have d1:((k:Int)==1)=false:=by rw[hk];exact kF _ 1 (by omega)
 have d2:((k:Int)==2)=false:=by rw[hk];exact kF _ 2 (by omega)
 have d5:((k:Int)==5)=true:=by rw[hk,aM];rfl
 obtain⟨vs,oe,od,jY,di,og⟩:=SI ha cG;have bA:X.size<=24:=by have:=J4 aw;rw[<-hX]at this;exact this
 obtain⟨l0,l1,ls,lb⟩:=IC w (.cells #[.int .i64 k,.string X,.int .i64 Z,.slice A m cp] 37) (.cells #[.int .i64 0,.string ⟨#[]⟩,.int .i64 0,.slice none 0 0] 37);have oM:=hI.lt c s w hi;have eS:=HB c s X _ (hI.al c s w _ hi lb.size (λg hg=>lb.block g (oM g hg))) bA (by omega);obtain⟨bm,cD,gZ,dT,cW⟩:=zkI bind leaf env t s aM;rw[<-hX]at cD dT cW;obtain⟨y,hy⟩:∃y,(bind X.data.toList s).1=y:=⟨_,rfl⟩;obtain⟨s1,aH⟩:∃s1,(bind X.data.toList s).2=s1:=⟨_,rfl⟩;rw[hy]at cD;rw[hy,aH]at dT cW eS;obtain⟨Y,hY⟩:∃Y:ByteArray,(⟨y.toArray⟩:ByteArray)=Y:=⟨_,rfl⟩;have zU:Y.data.toList=y:=by rw[<-hY]
 rw[hY]at cD eS;obtain⟨ev,jy⟩:∃ev,((X.data.toList,y)::env)=ev:=⟨_,rfl⟩;rw[jy]at dT cW;have Zq:ev.length=env.length+1:=by rw[<-jy];rfl
 have BE:=EP jy;have bW:=EP bm;have dY:=EP cD;have nA:=EP gZ;have iM:=EP dT;have ei:=EP cW;have HK:=EP hk;have HX:=EP hX;have HZ:=EP hZ;have eT:=EP cG;have HS:=EP hS;have HM:=EP hm;have au:=EP (hI.lt c s w hi);have ej:Hid (∀i (hi:i<(kids t).length),Nm (kids t)[i]):=EP λi hi=>Mc aw i hi;have pI:=EP od;have Ya:=EP og;have Yd:=EP jY;have fO:=EP di;have X_:=EP oe;have L0:=EP l0;have L1:=EP l1;have LB:=EP lb;have rG:=EP ls;have xd:=EP zU;have jH:=EP eS;have dK:=hm.lt;have ta:Hid (X.size<=maxLen):=EP (by unfold maxLen;omega);have tp:Hid (env.length<100000000000000):=EP (by omega);clear jy bm cD gZ dT cW hk hX hZ cG hS hi hm aw oe od jY di og l0 l1 ls lb hv ha aM oM eS hy aH hY zU bA;unfold FL;go_enter_defers func89,ntmps89
 go_wp2_with fail;refine jH.o.mono ?_;rintro e wb ⟨rfl,ib,jR⟩;have jm:w.heap.size+2<=wb.heap.size:=Cm (DD rG.o.symm) jR.size;have gK:∀q,w.heap.size<=q->¬M q:=λq hq h=>by have:=au.o q (aY q h);omega
 have aB:=ar.iF L0.o jR (gK _ (BU _));have av:=ar.iF L1.o jR (gK _ (DZ _));have pj:wb.heap[mb]?=w.heap[mb]?:=(jR.block mb (by rw[rG.o];omega) (λh=>bI (aY _ h))).trans (LB.o.block mb dK);have lT:=(b_.c_ (M:=M) LB.o).trans' jR (λq _ h=>h);obtain⟨p0,p1,p2,p3,u0,u1,u2,u3,dp⟩:=n_ aB;have gR:Hid (ar wb.drew w.heap.size 37 #[.int .i64 k,.string X,.int .i64 Z,.slice A m cp]):=EP aB;have Ug:Hid (iT FE wb.drew mb env):=EP (HM.o.al pj);have XP:=EP av;have IB:=EP ib;have YP:=EP lT;have bh:Hid (∀W:World,ar W w.heap.size 37 #[.int .i64 k,.string X,.int .i64 Z,.slice A m cp]->W.cell? ⟨w.heap.size,1,none⟩=some (.string X)):=EP λW h=>h.cell 1;clear aB av pj lT ib jR jH;go_wp2_with fail
 go_region_held3 (λW=>W.cell? ⟨w.heap.size,1,none⟩=some (.string X)) (first|(with_reducible exact bh.o _ gR.o)|(with_reducible exact bh.o _ fN.o)|(with_reducible exact bh.o _ xc.o))
  ((first|((with_reducible refine(zf4 Y wb.drew).mono ?_);rintro e w4 ⟨rfl,b4⟩;have fN:=EP (gR.o.below b4 gR.o.lt);have XW:=EP (Ug.o.al (b4.block mb Ug.o.lt));have B4:=EP b4;clear b4)|((with_reducible refine(zh0 mb env X Y w4 XW.o ta.o tp.o).mono ?_);rintro e w5 ⟨rfl,ni,nX,c5⟩;unfold RS;have xc:=EP (fN.o.iF c5 (by unfold only;omega));have nW:=EP ni;have vh:=EP nX;have C5:=EP c5;clear ni nX c5)))
 have dz:=B4.o.size;have eI:=C5.o.size;replace dz:wb.heap.size<=w4.heap.size:=dz;have pG:ar w5 (w.heap.size+1) 37 #[.int .i64 0,.string ⟨#[]⟩,.int .i64 0,.slice none 0 0]:=ar.iF (ar.below (w:=wb.drew) XP.o B4.o (by show w.heap.size+1<wb.heap.size;omega)) C5.o (by unfold only;omega);have pv:∀q,q<wb.heap.size->q≠mb->w5.heap[q]?=wb.heap[q]?:=λq h1 h2=>(C5.o.block q (by omega) h2).trans (B4.o.block q h1);have Am:=hI.al _ _ _ w5 IB.o (by omega) (λq hq=>pv q (by have:=au.o q hq;omega) (λe=>bI (by rw[<-e];exact hq)));have kM:b_ (λk=>M k\/k=mb) w w5:=((YP.o.mono (λq _ h=>.inl h)).trans' (M1:=λ_=>False) (b:=wb) (c:=w4) ⟨B4.o.os,B4.o.tape,B4.o.output,B4.o.size,λq hq _=>B4.o.block q hq⟩ (λ_ _ h=>h.elim)).trans' C5.o (λq _ h=>.inr h);have kq:=vh.o;rw[xd.o,BE.o]at kq
 obtain⟨p0,p1,p2,p3,u0,u1,u2,u3,-⟩:=n_ xc.o;have XU:=EP (Cl w5 w.heap.size 1 _ _ (.string Y) xc.o);have dN:=Ss A m cp vs (w5.setCell ⟨w.heap.size,1,none⟩ (.string Y)) Yd.o X_.o
  (λad nJ w' hw j u hu=>Ya.o ad nJ w' (λq hq=>(hw.block q (by have:=(HS.o q hq).1;simp;omega)).trans ((B8 w5 ⟨w.heap.size,1,none⟩ _ q (by have:=(HS.o q hq).1;show q≠w.heap.size;omega)).trans (kM.block q (HS.o q hq).1 (λh=>by rcases h with h|h;exact(HS.o q hq).2.1 h;exact(HS.o q hq).2.2 h)))) j u hu) fO.o (by omega)
 have dS:(w5.setCell ⟨w.heap.size,1,none⟩ (.string Y)).heap.size=w5.heap.size:=by simp
 rw[dS]at dN;have dO:=EP dS;have jh:=EP dN;have XO:=EP pG;have I5:=EP Am;have BS:=EP kM;have XV:=EP kq;clear dN pG pv Am kM kq dS;go_wp2_with fail;refine jh.o.mono ?_;rintro e w3 ⟨A3,c3,rfl,aj,a8⟩;have dy:w5.heap.size<=w3.heap.size:=Cm (DD dO.o.symm) a8.size;have aB:=ar.below XU.o a8 (by omega);have av:=ar.below (XO.o.I8 (p:=⟨w.heap.size,1,none⟩) (Em _) (.string Y)) a8 (by omega);have fK:∀q,q<w5.heap.size->q≠w.heap.size->w3.heap[q]?=w5.heap[q]?:=λq h1 h2=>(a8.block q h1).trans (B8 w5 ⟨w.heap.size,1,none⟩ _ q h2);obtain⟨g3,fL,aE⟩:=SP (R:=λk=>Su k\/(w3.heap.size<=k/\k<w3.heap.size)) aj (pI.o.al (λ_ h=>h) (λq hq=>(fK q (by have:=(HS.o q hq).1;omega) (by have:=(HS.o q hq).1;omega)).trans (BS.o.block q (HS.o q hq).1 (λh=>by rcases h with h|h;exact(HS.o q hq).2.1 h;exact(HS.o q hq).2.2 h))));obtain⟨p0,p1,p2,p3,s0,xJ,s2,s3,dp⟩:=n_ aB;have cK:=EP aB;have bc:=EP av;have r6:=EP fK;have YQ:=EP ((BS.o.setCell (p:=⟨w.heap.size,1,none⟩) (.inl (BU _)) (.string Y)).trans' (M1:=λ_=>False) (b_.mono (b_.c_ (M:=λ_=>False) (a8.mono (DD dO.o))) (λ_ _ h=>h)) (λ_ _ h=>h.elim));have eG:=EP aE;clear aj aB av fK aE a8 jh pI;go_wp2_with fail
 have fp:ar (w3.setCell ⟨w.heap.size,3,none⟩ (.slice A3 m c3)) w.heap.size 37 #[.int .i64 k,.string Y,.int .i64 Z,.slice A3 m c3]:=Cl _ w.heap.size 3 _ _ (.slice A3 m c3) cK.o;have dT:ar (w3.setCell ⟨w.heap.size,3,none⟩ (.slice A3 m c3)) (w.heap.size+1) 37 #[.int .i64 0,.string ⟨#[]⟩,.int .i64 0,.slice none 0 0]:=bc.o.I8 (p:=⟨w.heap.size,3,none⟩) (Em _) _;have fS:(w3.setCell ⟨w.heap.size,3,none⟩ (.slice A3 m c3)).heap.size=w3.heap.size:=by simp
 have fi:∀q,q<w5.heap.size->q≠w.heap.size->(w3.setCell ⟨w.heap.size,3,none⟩ (.slice A3 m c3)).heap[q]?=w5.heap[q]?:=λq hq ai=>(B8 w3 ⟨w.heap.size,3,none⟩ _ q ai).trans (r6.o q hq ai);have eR:b_ (λk=>M k\/k=mb) w (w3.setCell ⟨w.heap.size,3,none⟩ (.slice A3 m c3)):=YQ.o.setCell (p:=⟨w.heap.size,3,none⟩) (.inl (BU _)) _;have lR:=hI.al _ _ _ _ I5.o (by rw[fS];exact dy) (λq hq=>fi q (by have:=au.o q hq;omega) (by have:=au.o q hq;omega));have lN:=XV.o.al (fi mb (by omega) (by omega));have oZ:=EP (nW.o.al (λq h1 h2=>fi q (by have:=nW.o.2.2.2.lt;omega) (by omega)));have Zr:=nW.o.2.2.2.lt;have jf:=EP fp;have lg:=EP dT;have YD:=EP fi;have iO:=EP eR;have vO:=EP lR;have rW:=EP lN;have gD:=EP fS;have rr:w.heap.size<=w3.heap.size:=by omega
 have et:Hid (0<m->A3=some ⟨g3,0,none⟩/\F3 (λk=>Su k\/(w3.heap.size<=k/\k<(w3.setCell ⟨w.heap.size,3,none⟩ (.slice A3 m c3)).heap.size)) S (w3.setCell ⟨w.heap.size,3,none⟩ (.slice A3 m c3)) (kids t) [] g3 0):=EP λh0=>by
  obtain⟨x1,x2⟩:=eG.o h0;refine⟨x1,x2.al (λq hq=>by rw[fS];exact hq) (λq hq=>B8 w3 ⟨w.heap.size,3,none⟩ _ q ?_) (by rw[fS];exact BU _)⟩;show q≠w.heap.size;rcases hq with(hq|hq)|hq|hq
  ·have:=au.o q (aO q hq).1;omega
  ·omega
  ·have:=(HS.o q hq).1;omega
  ·omega
 clear fp dT fi eR lR lN fS p0 p1 p2 p3 s0 xJ s2 s3;go_loopg [56] m (λgg vi wr=>Fx mb I M Su S bind leaf ev (kids t) (c+1) s1 w3.heap.size g3 m (w3.setCell ⟨w.heap.size,3,none⟩ (.slice A3 m c3)) gg vi wr);case atStart =>
  exact⟨0,by omega,rfl,Cw _,by rw[CK,C',D_];exact vO.o,rW.o,λh0=>by rw[CK,D_];exact(et.o h0).2,b_.refl _ _⟩
 case round =>
  obtain⟨i,rfl,rfl,hi,i1,gX,ot,c1⟩:=hrel;have I1:=EP i1;have gq:=EP gX;have pL:=EP ot;have C1:=EP c1;have fI:=c1.size;rw[gD.o]at fI;have fh:∀q,w.heap.size<=q->q<w.heap.size+2->wr.heap[q]? =(w3.setCell ⟨w.heap.size,3,none⟩ (.slice A3 m c3)).heap[q]?:=λq h1 h2=>c1.block q (by rw[gD.o];omega) (λh=>by
   rcases h with h|h|h
   ·have:=au.o q (aY q h);omega
   ·omega
   ·omega)
  have BN:=EP (jf.o.same (fh _ (BU _) (by omega)));have BR:=EP (lg.o.same (fh _ (by omega) (by omega)));clear i1 gX ot c1 fh;by_cases af:i<m
  ·obtain⟨rfl,eN⟩:=et.o (by omega)
   have kL:=eN.lt;rw[gD.o]at kL;clear eN;have aW:=pL.o (by omega);have bP:i<(kids t).length:=by rw[eT.o];exact af
   obtain⟨A1,q1,h4,eD⟩:=aW.GD i bP (BU _);have bT:=ej.o i bP;have ft:(kids t).take (i+1)=(kids t).take i++[(kids t)[i]]:=CV bP;have fu:=OE (kids t) i (kids t)[i] ⟨bP,rfl⟩;have oo:=OA (kids t) (i+1);have fC:=SQ (kids t) i (kids t)[i] ⟨bP,rfl⟩;have uG:=Tc (kids t) (i+1);obtain⟨u,hu⟩:∃u,(kids t)[i]=u:=⟨_,rfl⟩;rw[hu]at h4 eD bT ft fu fC;have dD:u.size<=n:=by omega
   have aG:nc S wr u (.agg #[.int .i64 (kd u:Nat),.string (ER u),.int .i64 (nn u:Nat),.slice A1 (kids u).length q1]):=⟨A1,q1,rfl,eD⟩;obtain⟨e0,e1,e2,e3⟩:=h4;obtain⟨K1,fM⟩:∃K1:Int,((kd u:Nat):Int)=K1:=⟨_,rfl⟩;obtain⟨X1,kU⟩:∃X1,ER u=X1:=⟨_,rfl⟩;obtain⟨Z1,py⟩:∃Z1:Int,((nn u:Nat):Int)=Z1:=⟨_,rfl⟩;obtain⟨n1,iY⟩:∃n1,(kids u).length=n1:=⟨_,rfl⟩;rw[fM]at e0 aG;rw[kU]at e1 aG;rw[py]at e2 aG;rw[iY]at e3 aG;have eF:=EP ft;have pJ:=EP fC;have ah:=HC (c+1+C' ((kids t).take i)) (D_ bind leaf ev ((kids t).take i) s1).2 ev u S _ ((wr.alloc (.cells #[.int .i64 K1,.string X1,.int .i64 Z1,.slice A1 n1 q1] 37)).drew) dD (by omega)
    (hI.al _ _ _ _ I1.o (by show wr.heap.size<=(wr.alloc _).heap.size;simp) (λg hg=>BX wr _ g (hI.lt _ _ _ I1.o g hg))) (gq.o.al (BX wr _ mb gq.o.lt)) (aG.al (λ_ h=>h) (λg hg=>BX wr _ g (by have:=(HS.o g hg).1;omega)))
    (λg hg=>⟨by show g<(wr.alloc _).heap.size;have:=(HS.o g hg).1;simp;omega,(HS.o g hg).2⟩) bT (by omega) (by omega)
   unfold FL at ah;have ak:=EP ah;have gR:Hid (ar ((wr.alloc (.cells #[.int .i64 K1,.string X1,.int .i64 Z1,.slice A1 n1 q1] 37)).drew) w.heap.size 37 #[.int .i64 k,.string Y,.int .i64 Z,.slice (some ⟨g3,0,none⟩) m c3]):=EP (ar.alloc BN.o _);have lZ:Hid (ar ((wr.alloc (.cells #[.int .i64 K1,.string X1,.int .i64 Z1,.slice A1 n1 q1] 37)).drew) wr.heap.size 37 #[.int .i64 K1,.string X1,.int .i64 Z1,.slice A1 n1 q1]):=EP (BZ wr _);have bh:Hid (∀W:World,ar W w.heap.size 37 #[.int .i64 k,.string Y,.int .i64 Z,.slice (some ⟨g3,0,none⟩) m c3]->ar W wr.heap.size 37 #[.int .i64 K1,.string X1,.int .i64 Z1,.slice A1 n1 q1] ->
    W.cell? ⟨w.heap.size,3,none⟩=some (.slice (some ⟨g3,0,none⟩) m c3)/\W.cell? ⟨wr.heap.size,0,none⟩=some (.int .i64 K1)/\W.cell? ⟨wr.heap.size,1,none⟩=some (.string X1)/\W.cell? ⟨wr.heap.size,2,none⟩=some (.int .i64 Z1)/\W.cell? ⟨wr.heap.size,3,none⟩=some (.slice A1 n1 q1)) :=
    EP λW h1 h2=>⟨h1.cell 3,h2.cell 0,h2.cell 1,h2.cell 2,h2.cell 3⟩
   have dv:=EP aW;have kK:=aW.lt;have kh:w.heap.size≠g3:=by omega
   have kg:wr.heap.size≠g3:=by omega
   clear aW aG bT ah hu fM kU py iY ft fu fC eD;go_wp2_with fail;go_region_held3 (λW=>W.cell? ⟨w.heap.size,3,none⟩=some (.slice (some ⟨g3,0,none⟩) m c3)/\W.cell? ⟨wr.heap.size,0,none⟩=some (.int .i64 K1)/\W.cell? ⟨wr.heap.size,1,none⟩=some (.string X1)/\W.cell? ⟨wr.heap.size,2,none⟩=some (.int .i64 Z1)/\W.cell? ⟨wr.heap.size,3,none⟩=some (.slice A1 n1 q1)) (first|(with_reducible exact bh.o _ gR.o lZ.o)|(with_reducible exact bh.o _ fN.o lY.o)|(with_reducible exact bh.o _ (NW fN.o kh) (NW lY.o kg)))
    (((with_reducible refine ak.o.mono ?_);rintro e w5 ⟨k',x',z',a',m',p',rfl,cW,lQ,fA,c5⟩;have fW:∀q,w.heap.size<=q->q<=wr.heap.size->w5.heap[q]? =(wr.alloc (.cells #[.int .i64 K1,.string X1,.int .i64 Z1,.slice A1 n1 q1] 37)).heap[q]?:=(λq h1 h2=>c5.block q (by show q<(wr.alloc _).heap.size;rw[size_alloc];omega) (λh=>by rcases h with h|h;(have:=au.o q (aY q h);omega);omega));have fN:=EP (gR.o.same (fW _ (BU _) (by omega)));have lY:=EP (lZ.o.same (fW _ (by omega) (BU _)));have eI:wr.heap.size+1<=w5.heap.size:=(by have:=c5.size;rw[show((wr.alloc (.cells #[.int .i64 K1,.string X1,.int .i64 Z1,.slice A1 n1 q1] 37)).drew).heap.size=wr.heap.size+1 from size_alloc _ _]at this;exact this);have eo:=dv.o.al (R':=λk=>Su k\/(w3.heap.size<=k/\k<w5.heap.size)) (w':=w5) (λq hq=>(by rcases hq with hq|hq;exact .inl hq;exact .inr ⟨hq.1,by omega⟩)) (λq hq=>(c5.block q (by show q<(wr.alloc _).heap.size;rw[size_alloc];rcases hq with(hq|hq)|hq|hq;(have:=au.o q (aO q hq).1;omega);omega;(have:=(HS.o q hq).1;omega);omega) (by rcases hq with(hq|hq)|hq|hq;(exact λh=>by rcases h with h|h;exact(aO q hq).2 h;exact bI (by rw[<-h];exact(aO q hq).1));(exact λh=>by rcases h with h|h;(have:=au.o q (aY q h);omega);omega);(exact λh=>by rcases h with h|h;exact(HS.o q hq).2.1 h;exact(HS.o q hq).2.2 h);(exact λh=>by rcases h with h|h;(have:=au.o q (aY q h);omega);omega))).trans (BX wr _ q (by rcases hq with(hq|hq)|hq|hq;(have:=au.o q (aO q hq).1;omega);omega;(have:=(HS.o q hq).1;omega);omega))) (by omega);obtain⟨A5,q5,⟨y0,y1,y2,y3⟩,-⟩:=eo.GD i bP (BU _);have f0:=eo.free (i*4);have f1:=eo.free (i*4+1);have f2:=eo.free (i*4+2);have f3:=eo.free (i*4+3);have vg:=EP eo;have ei:=EP cW;have vN:=EP lQ;have qy:=EP fA;have C5:=EP c5;clear eo cW lQ fA c5 fW))
   all_goals
    go_wp2_with fail;have cN:=F3.put vg.o bP (by rw[LW,DH];omega) (ei.o.al (S':=λk=>Su k\/(w3.heap.size<=k/\k<w5.heap.size)) (λq hq=>by rcases hq with hq|hq;exact .inl hq;exact .inr ⟨by have h1:=hq.1;have h2:((wr.alloc (.cells #[.int .i64 K1,.string X1,.int .i64 Z1,.slice A1 n1 q1] 37)).drew).heap.size=wr.heap.size+1:=size_alloc _ _;omega,hq.2⟩) (λq _=>rfl)) (λh=>by rcases h with h|h;(have:=au.o _ (aO _ h).1;omega);omega) (λh=>by have:=(HS.o _ h).1;omega);have lj:=EP cN;clear cN;go_roundg (m-(i+1));case measure=>omega
    case rel =>
     have eP:Fx mb I M Su S bind leaf ev (kids t) (c+1) s1 w3.heap.size g3 m (w3.setCell ⟨w.heap.size,3,none⟩ (.slice (some ⟨g3,0,none⟩) m c3)) (m-(i+1)) (.int .i64 ((i+1:Nat):Int)) (FT w5 g3 (i*4) (.int .i64 k') (.string x') (.int .i64 z') (.slice a' m' p')):=by
      refine⟨i+1,rfl,rfl,by omega,?_,?_,λ_=>?_,?_⟩
      ·rw[eF.o,NZ,<-eF.o,pJ.o]
       have:=hI.al _ _ _ (FT w5 g3 (i*4) (.int .i64 k') (.string x') (.int .i64 z') (.slice a' m' p')) vN.o (by rw[MW];exact BU _) (λq hq=>LX _ _ _ _ _ _ _ _ (by have:=au.o q hq;omega));rw[DN]at this;exact this
      ·exact qy.o.al (LX _ _ _ _ _ _ _ _ (by omega))
      ·rw[eF.o,NZ]
       exact lj.o.al (λq hq=>by rw[MW];exact hq) (λ_ _=>rfl) (BU _)
      ·have h1:b_ (λk=>M k\/k=mb\/k=g3) (w3.setCell ⟨w.heap.size,3,none⟩ (.slice (some ⟨g3,0,none⟩) m c3)) w5:=((C1.o.alloc _).drew).trans' C5.o (λq _ h=>by
        rcases h with h|h
        ·exact .inl h
        ·exact .inr (.inl h))
       exact h1.FT _ _ _ _ _ (.inr (.inr (.inr rfl)))
     refine cast (Cp (λv=>Fx mb I M Su S bind leaf ev (kids t) (c+1) s1 w3.heap.size g3 m _ (m-(i+1)) v _) ?_) eP;go_num
  ·have eB:i=m:=by omega
   subst eB;have aJ:(kids t).take i=kids t:=Cq (by rw[eT.o];exact BU _);have cf:=I1.o;have eu:=pL.o;rw[aJ,<-ei.o]at cf;rw[aJ,<-iM.o]at eu;have fH:=EP cf;have lf:=EP eu;obtain⟨p0,p1,p2,p3,s0,xJ,s2,s3,-⟩:=n_ BN.o;obtain⟨q0,q1,q2,q3,t0,t1,t2,t3,-⟩:=n_ BR.o;clear cf eu aJ;go_wp2_with fail;have hb:=Fh (.int .i64 k) (.string Y) (.int .i64 Z) (.slice A3 i c3) BR.o;have hf:∀g,g≠w.heap.size+1->((((wr.setCell ⟨w.heap.size+1,0,none⟩ (.int .i64 k)).setCell ⟨w.heap.size+1,1,none⟩ (.string Y)).setCell ⟨w.heap.size+1,2,none⟩ (.int .i64 Z)).setCell ⟨w.heap.size+1,3,none⟩ (.slice A3 i c3)).heap[g]?=wr.heap[g]?:=λg hg=>G3 _ _ _ _ _ _ _ hg;have aA:((((wr.setCell ⟨w.heap.size+1,0,none⟩ (.int .i64 k)).setCell ⟨w.heap.size+1,1,none⟩ (.string Y)).setCell ⟨w.heap.size+1,2,none⟩ (.int .i64 Z)).setCell ⟨w.heap.size+1,3,none⟩ (.slice A3 i c3)).heap.size=wr.heap.size:=by simp
   have kN:=HM.o.canon;have oJ:=gq.o.al (hf mb (by omega));rw[<-BE.o]at oJ;have oY:=oZ.o.al (w':=((((wr.setCell ⟨w.heap.size+1,0,none⟩ (.int .i64 k)).setCell ⟨w.heap.size+1,1,none⟩ (.string Y)).setCell ⟨w.heap.size+1,2,none⟩ (.int .i64 Z)).setCell ⟨w.heap.size+1,3,none⟩ (.slice A3 i c3))) (λq h1 h2=>(hf q (by omega)).trans (C1.o.block q (by rw[gD.o];omega) (λh=>by
    rcases h with h|h|h
    ·have:=au.o q (aY q h);omega
    ·omega
    ·omega)))
   refine leaves_cons (f:=171) (args:=#[.pointer (some ⟨w4.heap.size+4,0,none⟩),.pointer (some ⟨w4.heap.size+3,0,none⟩),.pointer (some ⟨w4.heap.size,0,none⟩),.pointer (some ⟨w4.heap.size+1,0,none⟩)]) (by simp) (by simp[go_sem]) ?_;refine(zgc w4.heap.size mb env X y .returning _ oY oJ kN ta.o tp.o).mono ?_;rintro e u' wf ⟨rfl,rfl,mf,bf⟩;have fE:=hb.iF bf (by unfold only;omega);have rk:∀q,q≠w.heap.size+1->q≠mb->q<wr.heap.size->wf.heap[q]?=wr.heap[q]?:=λq h1 h2 h3=>(bf.block q (by rw[aA];exact h3) h2).trans (hf q h1);have om:wr.heap.size<=wf.heap.size:=by have:=bf.size;rw[aA]at this;exact this
   refine⟨_,CW rfl _ _ (w.heap.size+1) 37 _ (0,0) _ rfl fE underlying37 rfl (by kernel_rfl),k,Y,Z,A3,i,c3,rfl,⟨A3,c3,?_,?_⟩,?_,mf,?_⟩
   ·rw[bW.o,dY.o,nA.o,iM.o,LW,eT.o,<-HK.o,<-HZ.o]
   ·refine(M5 _ _ _ _).2 λai=>?_
    have h0:0<i:=by
     refine EO λe=>ai ?_;rw[iM.o]
     refine Cn ?_;rw[LW,eT.o,e]
    obtain⟨hA,h4⟩:=et.o h0;have lP:=h4.lt;rw[gD.o]at lP;have aE:=lf.o h0;refine⟨g3,hA,.inr ⟨by omega,by omega⟩,ur.al (λq hq=>by rcases hq with hq|hq;exact .inl hq;exact .inr ⟨by omega,by omega⟩) (λq hq=>by
     rcases hq with hq|hq
     ·have h1:=au.o q (aO q hq).1
      exact rk q (by omega) (λe=>bI (by rw[<-e];exact(aO q hq).1)) (by omega)
     ·exact rk q (by omega) (by omega) hq.2) _ _ _ (rk g3 (by omega) (by omega) (by omega)) aE.new⟩
   ·refine hI.mono _ _ _ _ (hI.al _ _ _ _ fH.o om (λq hq=>rk q (by have:=au.o q hq;omega) (λe=>bI (by rw[<-e];exact hq)) (by have:=au.o q hq;omega))) (by omega)
   ·have h1:b_ (λk=>M k\/k=mb) w wr:=iO.o.trans' C1.o (λq hq h=>by
     rcases h with h|h|h
     ·exact .inl h
     ·exact .inr h
     ·omega)
    exact(h1.C_ (.int .i64 k) (.string Y) (.int .i64 Z) (.slice A3 i c3) (DZ _)).trans' bf (λq _ h=>.inr h)
end
section
open Go.RowKit Lx Tx Go.Maps Go.WideMaps Go.Shelf
mutual
theorem Ov:(t:Ty)->t.E7<=t.size
 |.var x=>by rw[Ty.E7];exact Cw _
 |.mt n=>by rw[Ty.E7];exact Cw _
 |.h_ c l=>by rw[Ty.E7,Gv];have:=zh3 l;show C' l<=q_ l+1;omega
 |.fn a b=>by rw[Ty.E7,Gv];have:=Ov a;have:=Ov b;simp[kids,q_];omega
 |.all x t=>by rw[Ty.E7,Gv];have:=Ov t;simp[kids,q_];omega
theorem zh3:(l:List Ty)->C' l<=q_ l
 |[]=>by rw[C'];exact Cw _
 |t::r=>by rw[C',q_];have:=Ov t;have:=zh3 r;omega
end
theorem zrw {σ:Type}(kb kl:Nat)(cb cl:Array Value)(mb:Nat)(I:Nat->σ->World->Prop)(K M Su:Nat->Prop)(bind:Name->σ->Name × σ)(leaf:Ty->Ty)(hI:Gt I K)(aY:∀g,M g->K g)(aO:∀g,Su g->K g/\¬M g)(bI:¬K mb)
  (eb:∀args w,(callFunc kb args).run prog w=.ok (.enter kb args) w)(el:∀args w,(callFunc kl args).run prog w=.ok (.enter kl args) w)(HB:RR kb cb I M bind)(HL:Qj kl cl I M Su leaf)(n:Nat):UM n kb kl cb cl mb I M Su bind leaf:=by
 induction n with
 |zero=>intro c s env t S v w hn;rw[Gv]at hn;omega
 |succ n ih =>
  intro c s env t S v w hn h6 hi hm hv hS aw hc hlen;cases t with
  |var x=>exact zm3 kb kl cb cl mb I K M Su bind leaf hI aY (λg hg=>(aO g hg).1) bI el HL c s env x S v w hi hm hv (λg hg=>(hS g hg).1) aw
  |mt x=>exact zpe kb kl cb cl mb I K M Su bind leaf hI aY (λg hg=>(aO g hg).1) bI el HL c s env x S v w hi hm hv (λg hg=>(hS g hg).1) aw
  |h_ d l=>exact zh2 n kb kl cb cl mb I K M Su bind leaf hI aY aO bI ih c s env _ S v w (.inl rfl) hn (by omega) hi hm hv hS aw hc hlen
  |fn a b=>exact zh2 n kb kl cb cl mb I K M Su bind leaf hI aY aO bI ih c s env _ S v w (.inr rfl) hn (by omega) hi hm hv hS aw hc hlen
  |all x t=>exact zm4 n kb kl cb cl mb I K M Su bind leaf hI aY aO bI eb HB ih c s env _ S v w rfl hn (by omega) hi hm hv hS aw hc hlen
def aai {σ:Type}(I:Nat->σ->World->Prop)(M Su:Nat->Prop)(c:Nat)(p:Ty × σ)(w:World)(e:Ending)(w':World):Prop :=
 ∃k x z a m q,e=.returned (.agg #[.int .i64 k,.string x,.int .i64 z,.slice a m q])/\nc (λg=>Su g\/(w.heap.size<=g/\g<w'.heap.size)) w' p.1 (.agg #[.int .i64 k,.string x,.int .i64 z,.slice a m q])/\I c p.2 w'/\b_ M w w'
theorem zlJ {σ:Type}(kb kl:Nat)(cb cl:Array Value)(I:Nat->σ->World->Prop)(K M Su:Nat->Prop)(bind:Name->σ->Name × σ)(leaf:Ty->Ty)(hI:Gt I K)(aY:∀g,M g->K g)(aO:∀g,Su g->K g/\¬M g)
  (eb:∀args w,(callFunc kb args).run prog w=.ok (.enter kb args) w)(el:∀args w,(callFunc kl args).run prog w=.ok (.enter kl args) w)(HB:RR kb cb I M bind)(HL:Qj kl cl I M Su leaf)
  (c:Nat)(s:σ)(t:Ty)(S:Nat->Prop)(v:Value)(w:World)(hi:I c s w)(hv:nc S w t v)(hS:∀g,S g->g<w.heap.size/\¬M g)(aw:Nm t)(aA:t.size<=1000000000000)(hc:c+t.E7<=10000000):Calls prog 44 #[v,FL kb cb,FL kl cl] w (aai I M Su (c+t.E7) (iF bind leaf [] t s) w):=by
 obtain⟨k,X,Z,A,m,cp,rfl,-,-,-,-,-⟩:=hv.parts;have dU:∀w,(Instr.makeMap 160 none).run prog w=.ok (.map (some w.heap.size)) (w.alloc (.map #[] 0)):=λ_=>rfl;obtain⟨l0,l1,l2,ls,lb⟩:=MU w (.cells #[.int .i64 k,.string X,.int .i64 Z,.slice A m cp] 37) (.cells #[.int .i64 0,.string ⟨#[]⟩,.int .i64 0,.slice none 0 0] 37) (.map #[] 0);have af:=hI.lt c s w hi;have ah:=zrw kb kl cb cl (w.heap.size+1+1) I K M Su bind leaf hI aY aO (λh=>by have:=af _ h;omega) eb el HB HL t.size c s [] t S _ _ (BU _) aA (hI.al _ _ _ _ hi lb.size (λg hg=>lb.block g (af g hg))) (iT.laid FE l2)
  (hv.al (λ_ h=>h) (λg hg=>lb.block g (hS g hg).1)) (λg hg=>⟨by have:=(hS g hg).1;omega,(hS g hg).2,by have:=(hS g hg).1;omega⟩) aw hc (by simp;omega)
 unfold FL at ah;have ak:=EP ah;have L1:=EP l1;have LS:=EP ls;have LB:=EP lb;have au:=EP af;clear hi hv hS aw l0 l1 l2 ls lb af ah;unfold FL;go_in;go_wp2_with fail;refine ak.o.mono ?_;rintro e w1 ⟨k',x',z',a',m',p',rfl,hr,cf,-,c1⟩;have aH:=c1.size;rw[LS.o]at aH;have av:=ar.iF L1.o c1 (λh=>by
  rcases h with h|h
  ·have:=au.o _ (aY _ h);omega
  ·omega)
 obtain⟨q0,q1,q2,q3,t0,t1,t2,t3,dp⟩:=n_ av;have HR:=EP hr;have fH:=EP cf;have C1:=EP c1;have bc:=EP av;clear hr cf c1 av ak;go_wp2_with fail;have hb:=Fh (.int .i64 k') (.string x') (.int .i64 z') (.slice a' m' p') bc.o;have hf:∀g,g≠w.heap.size+1->((((w1.setCell ⟨w.heap.size+1,0,none⟩ (.int .i64 k')).setCell ⟨w.heap.size+1,1,none⟩ (.string x')).setCell ⟨w.heap.size+1,2,none⟩ (.int .i64 z')).setCell ⟨w.heap.size+1,3,none⟩ (.slice a' m' p')).heap[g]?=w1.heap[g]?:=λg hg=>G3 _ _ _ _ _ _ _ hg;have qM:((((w1.setCell ⟨w.heap.size+1,0,none⟩ (.int .i64 k')).setCell ⟨w.heap.size+1,1,none⟩ (.string x')).setCell ⟨w.heap.size+1,2,none⟩ (.int .i64 z')).setCell ⟨w.heap.size+1,3,none⟩ (.slice a' m' p')).heap.size=w1.heap.size:=by simp
 refine Ce (CW rfl _ _ (w.heap.size+1) 37 _ (0,0) _ rfl hb underlying37 rfl (by kernel_rfl)) rfl ⟨k',x',z',a',m',p',rfl,?_,?_,?_⟩
 ·refine HR.o.al (λq hq=>?_) (λq hq=>hf q ?_)
  ·rcases hq with hq|⟨h1,h2⟩
   ·exact .inl hq
   ·exact .inr ⟨by have:=LS.o;omega,by rw[qM];exact h2⟩
  ·rcases hq with hq|⟨h1,h2⟩
   ·have:=au.o q (aO q hq).1;omega
   ·have:=LS.o;omega
 ·exact hI.al _ _ _ _ fH.o (DD qM.symm) (λq hq=>hf q (by have:=au.o q hq;omega))
 ·refine b_.C_ ((b_.c_ LB.o).trans' C1.o (λq hq h=>?_)) _ _ _ _ (DZ _)
  rcases h with h|h
  ·exact h
  ·omega
section
variable {σ:Type}
theorem zm5(g:Ty->σ->σ)(env:List Name)(x:Name)(s:σ):Ff g env (.var x) s=if x∈env then s else g (.var x) s:=by
 show(if decide (x∉env)=true then g (.var x) s else s)=_;by_cases h:x∈env
 ·rw[Ch h,Cg (by simpa using h)]
 ·rw[Cg h,Ch (by simpa using h)]
theorem zqh(g:Ty->σ->σ)(env:List Name)(n:Nat)(s:σ):Ff g env (.mt n) s=g (.mt n) s:=rfl
theorem zm6(g:Ty->σ->σ)(env:List Name)(c:Name)(l:List Ty)(s:σ):Ff g env (.h_ c l) s=s:=rfl
theorem zqi(g:Ty->σ->σ)(env:List Name)(a b:Ty)(s:σ):Ff g env (.fn a b) s=s:=rfl
theorem zm7(g:Ty->σ->σ)(env:List Name)(x:Name)(t:Ty)(s:σ):Ff g env (.all x t) s=s:=rfl
end
mutual
theorem Qy:(t:Ty)->∀(env bound:List Name) s,(∀x,x∈bound↔x∈env)->Hp (Ff Ga) (λ_ _ s=>s) env t s=t.FU bound s
 |.var x,env,bound,s,h=>by
  rw[Hp,Ty.FU,zm5];by_cases hx:x∈env
  ·rw[Ch hx,Ch ((h x).2 hx)]
  ·rw[Cg hx,Cg (λe=>hx ((h x).1 e))];rfl
 |.mt n,env,bound,s,h=>by rw[Hp,Ty.FU,zqh];rfl
 |.h_ c l,env,bound,s,h=>by rw[Hp,Ty.FU,zm6];exact zh4 l env bound s h
 |.fn a b,env,bound,s,h=>by rw[Hp,Ty.FU,zqi,Qy a env bound s h];exact Qy b env bound _ h
 |.all x t,env,bound,s,h=>by
  rw[Hp,Ty.FU,zm7];exact Qy t (x::env) (bound++[x]) s (λy=>by rw[Cr,Cx,Cd,h y,or_comm])
theorem zh4:(l:List Ty)->∀(env bound:List Name) s,(∀x,x∈bound↔x∈env)->Fm (Ff Ga) (λ_ _ s=>s) env l s=NU bound l s
 |[],env,bound,s,h=>by rw[Fm,NU]
 |t::r,env,bound,s,h=>by rw[Fm,NU,Qy t env bound s h,zh4 r env bound _ h]
end
theorem Sq(t:Ty):Fu t=t.free:=Qy t [] [] [] (λ_=>Iff.rfl)
mutual
theorem Q9:(t:Ty)->∀(env:List Name) s,Hp (Ff Hi) (λ_ _ s=>s) env t s=t.z_ s
 |.var x,env,s=>by
  rw[Hp,Ty.z_,zm5];split <;> rfl
 |.mt n,env,s=>by rw[Hp,Ty.z_,zqh];rfl
 |.h_ c l,env,s=>by rw[Hp,Ty.z_,zm6];exact zgT l env s
 |.fn a b,env,s=>by rw[Hp,Ty.z_,zqi,Q9 a env s];exact Q9 b env _
 |.all x t,env,s=>by rw[Hp,Ty.z_,zm7];exact Q9 t (x::env) s
theorem zgT:(l:List Ty)->∀(env:List Name) s,Fm (Ff Hi) (λ_ _ s=>s) env l s=Md l s
 |[],env,s=>by rw[Fm,Md]
 |t::r,env,s=>by rw[Fm,Md,Q9 t env s,zgT r env]
end
theorem zh5(t:Ty):Ig t=t.RA:=Q9 t [] []
section
variable {σ:Type}
mutual
theorem Ox(P:σ->Prop)(fc fl:List Name->Ty->σ->σ)(hc:∀env u s,Nm u->P s->P (fc env u s))(hl:∀env u s,Nm u->P s->P (fl env u s)):(t:Ty)->∀env s,Nm t->P s->P (Hp fc fl env t s)
 |.var x,env,s,hn,h=>by rw[Hp];exact hl _ _ _ hn (hc _ _ _ hn h)
 |.mt n,env,s,hn,h=>by rw[Hp];exact hl _ _ _ hn (hc _ _ _ hn h)
 |.h_ c l,env,s,hn,h=>by
  rw[Hp];have hk:∀t∈l,Nm t:=by cases hn;assumption
  exact hl _ _ _ hn (zjg P fc fl hc hl l env _ hk (hc _ _ _ hn h))
 |.fn a b,env,s,hn,h=>by
  rw[Hp];have hk:Nm a/\Nm b:=by cases hn;exact⟨by assumption,by assumption⟩
  exact hl _ _ _ hn (Ox P fc fl hc hl b env _ hk.2 (Ox P fc fl hc hl a env _ hk.1 (hc _ _ _ hn h)))
 |.all x t,env,s,hn,h=>by
  rw[Hp];have hk:Nm t:=by cases hn;assumption
  exact hl _ _ _ hn (Ox P fc fl hc hl t _ _ hk (hc _ _ _ hn h))
theorem zjg(P:σ->Prop)(fc fl:List Name->Ty->σ->σ)(hc:∀env u s,Nm u->P s->P (fc env u s))(hl:∀env u s,Nm u->P s->P (fl env u s)):(l:List Ty)->∀env s,(∀t∈l,Nm t)->P s->P (Fm fc fl env l s)
 |[],env,s,_,h=>by rw[Fm];exact h
 |t::r,env,s,hn,h=>by
  rw[Fm];exact zjg P fc fl hc hl r env _ (λu hu=>hn u (Cf _ hu)) (Ox P fc fl hc hl t env s (hn t Cs) h)
end
end
theorem zjh(x y:Name)(l:List Name):y∈FJ x l↔y=x\/y∈l:=zjn x y l
def JV(s:List Name):Prop:=∀x∈s,x.length<=24
theorem zlK {t:Ty} {s:List Name}(h:Nm t)(hs:JV s):JV (FJ (ER t).data.toList s):=λy hy=>by
 rcases(zjh _ _ _).1 hy with rfl|hy
 ·have:=J4 h
  exact this
 ·exact hs y hy
theorem zm8 {t:Ty} {s:List Name}(h:Nm t)(hs:JV s):JV (Ga t s):=by
 rcases zfs t s with⟨_,e⟩|⟨_,e⟩ <;> rw[e]
 ·exact zlK h hs
 ·exact hs
theorem Wo(t:Ty)(h:Nm t):JV (Fu t) :=
 Ox JV _ _ (λenv u s hu hs=>by unfold Ff;split;exact zm8 hu hs;exact hs) (λ_ _ _ _ hs=>hs) t [] [] h (λ_ hx=>(CI hx).elim)
def On(but:List Name)(_:Name)(k:Nat):Name × Nat:=(nm 120 (FY 120 but k),FY 120 but k+1)
mutual
theorem QI(but:List Name):(t:Ty)->∀(env:List (Name × Name))(xs ys:List Name)(k:Nat),(∀x,look x env=(idx x xs).map λi=>ys.getD i [])->iF (On but) id env t k=Gf 120 but xs ys t k
 |.var x,env,xs,ys,k,h=>by
  rw[iF,Gf,h];cases idx x xs <;> rfl
 |.mt n,env,xs,ys,k,h=>by rw[iF,Gf];rfl
 |.h_ c l,env,xs,ys,k,h=>by rw[iF,Gf,zh6 but l env xs ys k h]
 |.fn a b,env,xs,ys,k,h=>by rw[iF,Gf,QI but a env xs ys k h,QI but b env xs ys _ h]
 |.all x t,env,xs,ys,k,h=>by
  rw[iF,Gf];have:=QI but t ((x,nm 120 (FY 120 but k))::env) (x::xs) (nm 120 (FY 120 but k)::ys) (FY 120 but k+1) (λz=>by
   rw[look,idx];by_cases hz:x=z
   ·rw[Ch hz,Ch hz.symm];rfl
   ·rw[Cg hz,Cg (λe=>hz e.symm),h z]
    cases idx z xs <;> rfl)
  show(Ty.all (nm 120 (FY 120 but k)) (iF (On but) id ((x,nm 120 (FY 120 but k))::env) t (FY 120 but k+1)).1,(iF (On but) id ((x,nm 120 (FY 120 but k))::env) t (FY 120 but k+1)).2)=_;rw[this]
theorem zh6(but:List Name):(l:List Ty)->∀(env:List (Name × Name))(xs ys:List Name)(k:Nat),(∀x,look x env=(idx x xs).map λi=>ys.getD i [])->D_ (On but) id env l k=MH 120 but xs ys l k
 |[],env,xs,ys,k,h=>by rw[D_,MH]
 |t::r,env,xs,ys,k,h=>by rw[D_,MH,QI but t env xs ys k h,zh6 but r env xs ys _ h]
end
theorem Q8(t:Ty):(iF (On (Fu t)) id [] t 0).1=t.Fa:=by
 rw[QI (Fu t) t [] [] [] 0 (λ_=>rfl),Sq];rfl
theorem SO(u:Ty):(Fu u).length<=u.size:=by
 rw[Sq];unfold Ty.free;rw[NQ [] [] (λ_=>Iff.rfl)];have:=NV [] u [];simpa using this
theorem zm9(t:Ty)(h:Nm t)(hs:t.size<=1000000):Nm t.Fa:=by
 rw[zpi];exact znj _ (Om [] t h) (Pw [] t) (zpk t hs)
section
variable {σ:Type}
mutual
theorem N6(bind:Name->σ->Name × σ):(t:Ty)->∀env s,(iF bind id env t s).1.size=t.size
 |.var x,env,s=>by
  rw[iF];cases look x env <;> rfl
 |.mt n,env,s=>by rw[iF];rfl
 |.h_ c l,env,s=>by rw[iF,Ty.size,Ty.size,zh7 bind l]
 |.fn a b,env,s=>by rw[iF,Ty.size,Ty.size,N6 bind a,N6 bind b]
 |.all x t,env,s=>by rw[iF,Ty.size,Ty.size,N6 bind t]
theorem zh7(bind:Name->σ->Name × σ):(l:List Ty)->∀env s,q_ (D_ bind id env l s).1=q_ l
 |[],env,s=>by rw[D_]
 |t::r,env,s=>by rw[D_,q_,q_,N6 bind t,zh7 bind r]
end
end
theorem zlL(f n:Nat):(Gh f n).length<=f:=by
 induction f generalizing n with
 |zero=>simp[Gh]
 |succ f ih =>
  rw[Gh];split
  ·simp
  ·have:=ih (n / 10)
   simp;exact this
mutual
theorem OI:(t:Ty)->Nm t->t.print.length+6<=40*t.size/\(J3 t).length<=40*t.size+3
 |.var x,h=>by
  have h1:x.length<=24:=J4 h;rw[Rc _ (λy u e=>by cases e),Ty.print,Ty.size];simp;omega
 |.mt n,h=>by
  have h1:(dec n).length<=20:=zlL 20 n;rw[Rc _ (λy u e=>by cases e),Ty.print,Ty.size];simp;omega
 |.h_ c l,h=>by
  have h1:c.length<=24:=J4 h;have h2:=zgU l (by cases h;assumption);rw[Rc _ (λy u e=>by cases e),Ty.print,Ty.size];simp;omega
 |.fn a b,h=>by
  have hk:Nm a/\Nm b:=by cases h;exact⟨by assumption,by assumption⟩
  have h1:=(OI a hk.1).1;have h2:=(OI b hk.2).1;rw[Rc _ (λy u e=>by cases e),Ty.print,Ty.size];cases a.LL <;> simp <;> omega
 |.all x t,h=>by
  have h1:x.length<=24:=J4 h;have h2:=(OI t (by cases h;assumption)).2;rw[SH,Ty.print,Ty.size];have hw:ub.length=6:=rfl;simp only[Cb,Ca,hw];omega
theorem zgU:(l:List Ty)->(∀t∈l,Nm t)->(ID l).length<=40*q_ l
 |[],_=>by rw[ID];simp
 |t::r,h=>by
  have h1:=(OI t (h t Cs)).1;have h2:=zgU r (λu hu=>h u (Cf _ hu));rw[ID,q_];cases t.ON <;> simp <;> omega
end
structure LQ (lb nb sb mb cb:Nat) (but:List Name) (c:Nat) (k:Nat) (w:World):Prop where
 new:Hs 120 lb nb sb mb but k w
 LH:ar w cb 40 #[G4 lb nb sb]
 tab:FO w
 len:k<=c*(but.length+1)
def Rv(lb nb sb mb cb:Nat)(g:Nat):Prop:=g=nb\/g=sb\/g=mb\/g=cb\/g=lb\/g=0
theorem LQ.inv(lb nb sb mb cb:Nat)(but:List Name):Gt (LQ lb nb sb mb cb but) (Rv lb nb sb mb cb) where
 mono c c' s w h hc:={ h with len:=Cm h.len (Nat.mul_le_mul_right _ hc) }
 lt c s w h g hg:=by
  rcases hg with rfl|rfl|rfl|rfl|rfl|rfl
  ·exact h.new.num.lt
  ·exact h.new.LH.lt
  ·exact h.new.set.lt
  ·exact h.LH.lt
  ·exact h.new.let_.lt
  ·exact h.tab.lt
 al c s w w' h _ hk :=
  {new:=h.new.al (hk _ (.inr (.inr (.inr (.inr (.inl rfl)))))) (hk _ (.inl rfl)) (hk _ (.inr (.inl rfl))) (hk _ (.inr (.inr (.inl rfl))))
   LH:=h.LH.same (hk _ (.inr (.inr (.inr (.inl rfl)))))
   tab:=h.tab.al (hk _ (.inr (.inr (.inr (.inr (.inr rfl))))))
   len:=h.len }
theorem zna(lb nb sb mb cb:Nat)(but:List Name)(h0:nb≠lb)(h1:nb≠sb)(h2:nb≠mb)(h3:nb≠0)(h4:nb≠cb)(ar1:but.length<=10000000):RR 43 #[.pointer (some ⟨cb,0,none⟩)] (LQ lb nb sb mb cb but) (only nb) (On but):=by
 intro c k X w hi _ hc;obtain⟨hn,uL,ht,hlen⟩:=hi;have hm:c*(but.length+1)<=10000000*10000001:=Ek (by omega) (by omega);obtain⟨_,aU,bZ⟩:=MX 120 but k (by omega);have fV:=zm1 120 lb nb sb mb but k w hn ht h0 h1 h2 h3 (by omega);obtain⟨x0,-,l0⟩:=GG uL;have ek:∀args w,(callFunc 85 args).run prog w=.ok (.enter 85 args) w:=enters_of func85 (by kernel_rfl) rfl;have HN:=EP fV;have HC:=EP uL;have HT:=EP ht;have HL:Hid (FY 120 but k+1<=(c+1)*(but.length+1)):=EP (by rw[Cy];omega);clear hn uL ht hlen hm aU bZ fV;unfold G4 at x0;go_in;go_wp2_with fail;refine HN.o.mono ?_;rintro e w1 ⟨rfl,n1,c1⟩;have Yt:=EP n1;have C1:=EP c1;clear n1 c1;go_wp2_with fail;go_ret
 exact⟨rfl,⟨Yt.o,HC.o.iF C1.o (λh=>h4 h.symm),HT.o.al (C1.o.block _ HT.o.lt (λh=>h3 h.symm)),HL.o⟩,C1.o⟩
theorem zji {S S':Nat->Prop} {w w':World} {t:Ty} {v:Value}(h:nc S w t v)(hk:kd t=1\/kd t=2):nc S' w' t v:=by
 obtain⟨A,c,hv,-⟩:=h;refine⟨A,c,hv,?_⟩;cases t with
 |var x=>rw[j_];trivial
 |mt n=>rw[j_];trivial
 |h_ c l=>simp[kd]at hk
 |fn a b=>simp[kd]at hk
 |all x t=>simp[kd]at hk
theorem znb {σ:Type}(I:Nat->σ->World->Prop)(K M Su:Nat->Prop)(hI:Gt I K):Qj 45 #[] I M Su id:=by
 intro c s t S v w hi hv hS hk aw;obtain⟨k,X,Z,A,m,cp,rfl,-,-,-,-,-⟩:=hv.parts;obtain⟨-,l1,ls,lb⟩:=IC w (.cells #[.int .i64 k,.string X,.int .i64 Z,.slice A m cp] 37) (.cells #[.int .i64 k,.string X,.int .i64 Z,.slice A m cp] 37);have lv:Hid (nc Su ((w.alloc (.cells #[.int .i64 k,.string X,.int .i64 Z,.slice A m cp] 37)).alloc (.cells #[.int .i64 k,.string X,.int .i64 Z,.slice A m cp] 37)) (id t) (.agg #[.int .i64 k,.string X,.int .i64 Z,.slice A m cp])):=EP (zji hv hk);have HI:=EP (hI.al _ _ _ _ hi lb.size (λg hg=>lb.block g (hI.lt _ _ _ hi g hg)));have L1:=EP l1;have LB:=EP lb;clear hi hv hS aw l1 ls lb;go_in;go_wp2_with fail;exact Ce (CW rfl _ _ (w.heap.size+1) 37 _ (0,0) _ rfl L1.o underlying37 rfl (by kernel_rfl)) rfl ⟨k,X,Z,A,m,cp,rfl,lv.o,HI.o,b_.c_ LB.o⟩
theorem znc(t:Ty)(S:Nat->Prop)(v:Value)(w:World)(hv:nc S w t v)(hS:∀g,S g->g<w.heap.size)(aw:Nm t)(aA:t.size<=1000000000000)(sL:t.E7<=1000000)(gO:(Fu t).length<=1000000)(sy:Nm t.Fa)(ht:FO w):Calls prog 16 #[v] w λe w'=>e=.returned (.string ⟨t.Fa.print.toArray⟩)/\Below w.heap.size w w':=by
 obtain⟨K,X,Z,A,m,cp,rfl,-,-,-,-,-⟩:=hv.parts;have iZ:∀(fn:Fn) (first cap:Array Value) (w:World),(Instr.makeFunc fn first cap).run prog w=.ok (.func fn first cap) w:=λ_ _ _ _=>rfl;have ef:Below w.heap.size w (w.alloc (.cells #[.int .i64 K,.string X,.int .i64 Z,.slice A m cp] 37)):=(Cc _ w).alloc (BU _) _;have iI:=Vp t S _ (w.alloc (.cells #[.int .i64 K,.string X,.int .i64 Z,.slice A m cp] 37)) (hv.al (λ_ h=>h) (λg hg=>ef.block g (hS g hg))) (λg hg=>by have:=hS g hg;simp;omega) aw aA;rw[size_alloc]at iI
 have Uv:=EP iI;have iQ:=EP (BZ w (.cells #[.int .i64 K,.string X,.int .i64 Z,.slice A m cp] 37));have HV:=EP hv;have HS:=EP hS;have bQ:=EP aw;have HT:=EP ht;have Uy:=EP ef;clear hv hS aw ht ef iI;go_in;go_wp2_with fail;refine Uv.o.mono ?_;rintro e w1 ⟨A1,c1,rfl,aj,cR,b1⟩;have aH:w.heap.size+1<=w1.heap.size:=Cm (DD (size_alloc w _).symm) b1.size;have bc:=EP (Uy.o.trans (b1.mono (DZ _)));have HX1:=EP (ar.below iQ.o b1 (Nat.lt_succ_self _));have Tn:=IJ.Jy aj;obtain⟨n,hn⟩:∃n,(Fu t).length=n:=⟨_,rfl⟩;have aW:Hid (Calls prog 41 #[.slice (some ⟨w1.heap.size,0,none⟩) 1 1] (w1.alloc (.cells #[.slice A1 n c1] 95)) λe w'=>e=.returned (.map (some (w1.heap.size+1)))/\iT mkSet w' (w1.heap.size+1) (kj (Fu t))/\Below (w1.heap.size+1) (w1.alloc (.cells #[.slice A1 n c1] 95)) w'):=EP (by
  have h:=zrv [Fu t] w1.heap.size 1 (w1.alloc (.cells #[.slice A1 n c1] 95)) (λj hj=>by
   have kH:j=0:=by simp at hj;omega
   subst kH;refine⟨A1,c1,?_,?_⟩
   ·have:=ar.cell (BZ w1 (.cells #[.slice A1 n c1] 95)) 0
    rw[<-hn]at this ⊢;exact this
   ·exact Tn.below ((Cc _ w1).alloc (BU _) _)) (by simp) (by intro x hx;exact Wo t bQ.o x (by simpa using hx)) (by simpa using(by omega:(Fu t).length<=10000000)) (by simp)
  simp only[DY,List.flatten_nil,CJ,size_alloc]at h;exact h)
 rw[hn];clear aj b1 Tn Uv;go_wp2_with fail;refine aW.o.mono ?_;rintro e w2 ⟨rfl,bL,b2⟩;have aZ:=b2.size;rw[size_alloc]at aZ;have mW:Below w1.heap.size w1 w2:=((Cc _ w1).alloc (BU _) _).trans (b2.mono (DZ _));have AO:=EP (HX1.o.below mW (by omega));have cC:=EP (bc.o.trans (mW.mono (by omega)));have yK:=zgb 120 ⟨#[120]⟩ rfl (w1.heap.size+1) (Fu t) w2 bL;have Bf:=EP yK;clear bL b2 mW yK aW;go_wp2_with fail;refine Bf.o.mono ?_;rintro e w3 ⟨rfl,sA,b3⟩;have dy:=b3.size;have HX3:=EP (AO.o.below b3 (by omega));obtain⟨p0,p1,p2,p3,u0,u1,u2,u3,dp⟩:=n_ HX3.o;have pU:=EP sA;have gF:=EP (cC.o.trans (b3.mono (by omega)));clear sA b3 Bf;unfold G4;go_wp2_with fail;have a8:Below w3.heap.size w3 (w3.alloc (.cells #[G4 w2.heap.size (w2.heap.size+2) (w2.heap.size+1)] 40)):=(Cc _ w3).alloc (BU _) _;have dW:Below w.heap.size w (w3.alloc (.cells #[G4 w2.heap.size (w2.heap.size+2) (w2.heap.size+1)] 40)):=gF.o.alloc (by omega) _;have tI:=HT.o.lt;have xX:FO (w3.alloc (.cells #[G4 w2.heap.size (w2.heap.size+2) (w2.heap.size+1)] 40)):=HT.o.below dW;have WX:=pU.o.num.lt;have uJ:=zlJ 43 45 #[.pointer (some ⟨w3.heap.size,0,none⟩)] #[] (LQ w2.heap.size (w2.heap.size+2) (w2.heap.size+1) (w1.heap.size+1) w3.heap.size (Fu t)) (Rv w2.heap.size (w2.heap.size+2) (w2.heap.size+1) (w1.heap.size+1) w3.heap.size) (only (w2.heap.size+2)) (λ_=>False) (On (Fu t)) id (LQ.inv _ _ _ _ _ _) (λg hg=>.inl hg) (λ_ h=>h.elim)
  (enters_of func43 (by kernel_rfl) rfl) (enters_of func45 (by kernel_rfl) rfl)
  (zna w2.heap.size (w2.heap.size+2) (w2.heap.size+1) (w1.heap.size+1) w3.heap.size (Fu t) (by omega) (by omega) (by omega) (by omega) (by omega) (by omega)) (znb _ _ _ _ (LQ.inv _ _ _ _ _ _))
  0 0 t S _ _ ⟨pU.o.below a8,BZ w3 _,xX,Cw _⟩ (HV.o.al (λ_ h=>h) (λg hg=>dW.block g (HS.o g hg))) (λg hg=>⟨by have:=HS.o g hg;have:=dW.size;omega,λh=>by have:=HS.o g hg;have h:g=w2.heap.size+2:=h;omega⟩) bQ.o aA (by omega)
 unfold FL G4 at uJ;refine uJ.mono ?_;rintro e w5 ⟨k5,x5,z5,a5,m5,q5,rfl,cW,lQ,XH⟩;rw[Q8]at cW;have eI:=XH.size;have hB5:=dW.trans (XH.toBelow (B:=w.heap.size) (by have:=dW.size;exact this) (λq hq h=>by have h:q=w2.heap.size+2:=h;omega));have hp:=zmT t.Fa _ _ w5 (by rw[<-Q8,N6];exact aA) sy cW (λg hg=>by rcases hg with h|h;exact h.elim;exact h.2) lQ.tab (by
  have h1:=(OI t.Fa sy).1;have h2:t.Fa.size=t.size:=by rw[<-Q8,N6]
  omega)
 have HP:=EP hp;have lC:=EP hB5;clear hp hB5 eI cW lQ XH uJ xX dW a8;go_wp2_with fail;refine HP.o.mono ?_;rintro e w6 ⟨rfl,b6⟩;have YN:=EP (lC.o.trans (b6.mono lC.o.size));clear b6 HP;go_wp2_with fail;go_ret
 exact⟨rfl,YN.o⟩
end
section
open Go.RowKit Lx Tx
mutual
def Mh(qd:Ty->Bool)(env:List Name):Ty->Nat
 |.var x=>if x∉env/\qd (.var x)=true then 1 else 0
 |.mt n=>if qd (.mt n)=true then 1 else 0
 |.h_ _ l=>Rr qd env l
 |.fn a b=>Mh qd env a+Mh qd env b
 |.all x t=>Mh qd (x::env) t
def Rr(qd:Ty->Bool)(env:List Name):List Ty->Nat
 |[]=>0
 |t::r=>Mh qd env t+Rr qd env r
end
mutual
def Kn(but:List Name):Ty->Prop
 |.var x=>x∈but
 |.mt _=>True
 |.h_ _ l=>K_ but l
 |.fn a b=>Kn but a/\Kn but b
 |.all x t=>x∈but/\Kn but t
def K_(but:List Name):List Ty->Prop
 |[]=>True
 |t::r=>Kn but t/\K_ but r
end
section
variable (qd:Ty->Bool) (u:Ty) (but free:List Name)
structure Ren (env:List (Name × Name)) (xs ys:List Name) (k:Nat):Prop where
 lk:∀x,look x env=(idx x xs).map λi=>ys.getD i []
 hit:∀x∈but,∀i,idx x xs=some i->i<ys.length/\idx (ys.getD i []) ys=some i
 miss:∀x∈but,idx x xs=none->x∉ys
 kept:∀(i:Nat) (y:Name),ys[i]?=some y->y∈but->xs[i]?=some y
 made:∀y∈ys,y∈but\/∃j,j<k/\y=nm 120 j
theorem Ren.nil:Ren but [] [] [] 0 where
 lk x:=rfl
 hit x _ i h:=by simp[idx]at h
 miss x _ _ h:=(CI h).elim
 kept i y h:=by simp at h
 made y h:=(CI h).elim
theorem zh9 {env:List (Name × Name)} {xs ys:List Name}(h:∀x,look x env=(idx x xs).map λi=>ys.getD i [])(x y z:Name):look z ((x,y)::env)=(idx z (x::xs)).map λi=>(y::ys).getD i []:=by
 rw[look,idx];by_cases hz:x=z
 ·rw[Ch hz,Ch hz.symm];rfl
 ·rw[Cg hz,Cg (λe=>hz e.symm),h z]
  cases idx z xs <;> rfl
theorem Ren.al {env:List (Name × Name)} {xs ys:List Name} {k:Nat}(h:Ren but env xs ys k)(x:Name)(hx:x∈but):Ren but ((x,x)::env) (x::xs) (x::ys) k where
 lk:=zh9 h.lk x x
 hit z hz i hi:=by
  rw[idx]at hi;by_cases e:z=x
  ·rw[Ch e]at hi
   injection hi with hi;subst hi;exact⟨by simp,by rw[List.getD_cons_zero,idx,Ch rfl]⟩
  ·rw[Cg e]at hi
   cases hj:idx z xs with
   |none=>rw[hj]at hi;cases hi
   |some j =>
    rw[hj]at hi;injection hi with hi;subst hi;obtain⟨h1,h2⟩:=h.hit z hz j hj;refine⟨by simp;omega,?_⟩;rw[List.getD_cons_succ,idx,Cg,h2]
    ·rfl
    ·intro he
     have hy:ys[j]?=some x:=by rw[BY h1,<-he,Du,BY h1];rfl
     have hxs:=h.kept j x hy hx;have af:=Qg z xs j hj;have:xs.getD j []=z:=by
      have key:∀(l:List Name) (j:Nat),idx z l=some j->l.getD j []=z:=by
       intro l;induction l with
       |nil=>intro j h;simp[idx]at h
       |cons a r ih =>
        intro j h;rw[idx]at h;by_cases e:z=a
        ·rw[Ch e]at h;injection h with h;subst h;simp[e]
        ·rw[Cg e]at h
         cases hr:idx z r with
         |none=>rw[hr]at h;cases h
         |some q=>rw[hr]at h;injection h with h;subst h;simpa using ih q hr
      exact key xs j hj
     rw[Du,hxs]at this;exact e this.symm
 miss z hz hi hm:=by
  rw[idx]at hi;by_cases e:z=x
  ·rw[Ch e]at hi;cases hi
  ·rw[Cg e]at hi
   rcases Cd.1 hm with hm|hm
   ·exact e hm
   ·exact h.miss z hz (by cases hj:idx z xs with|none=>rfl|some j=>rw[hj]at hi;cases hi) hm
 kept i y hi hy:=by
  cases i with
  |zero=>exact hi
  |succ i=>exact h.kept i y hi hy
 made y hy:=by
  rcases Cd.1 hy with rfl|hy
  ·exact .inl hx
  ·exact h.made y hy
theorem Ren.more {env:List (Name × Name)} {xs ys:List Name} {k k':Nat}(h:Ren but env xs ys k)(hk:k<=k'):Ren but env xs ys k' :=
 {h with made:=λy hy=>by rcases h.made y hy with h|⟨j,h1,h2⟩;exact .inl h;exact .inr ⟨j,by omega,h2⟩ }
theorem Ren.fresh {env:List (Name × Name)} {xs ys:List Name} {k:Nat}(h:Ren but env xs ys k)(x:Name)(hb:k+but.length+1<10 ^ 15):Ren but ((x,nm 120 (FY 120 but k))::env) (x::xs) (nm 120 (FY 120 but k)::ys) (FY 120 but k+1):=by
 obtain⟨n0,n1,n2⟩:=MX 120 but k (by omega);have hny:nm 120 (FY 120 but k)∉ys:=λhm=>by
  rcases h.made _ hm with hm|⟨j,h1,h2⟩
  ·exact n0 hm
  ·have:=znk 120 _ _ (by omega) (by omega) h2;omega
 refine { lk:=zh9 h.lk x _,hit:=λz hz i hi=>?_,miss:=λz hz hi hm=>?_,kept:=λi y hi hy=>?_,made:=λy hy=>?_ }
 ·rw[idx]at hi
  by_cases e:z=x
  ·rw[Ch e]at hi
   injection hi with hi;subst hi;exact⟨by simp,by rw[List.getD_cons_zero,idx,Ch rfl]⟩
  ·rw[Cg e]at hi
   cases hj:idx z xs with
   |none=>rw[hj]at hi;cases hi
   |some j =>
    rw[hj]at hi;injection hi with hi;subst hi;obtain⟨h1,h2⟩:=h.hit z hz j hj;refine⟨by simp;omega,?_⟩;rw[List.getD_cons_succ,idx,Cg,h2]
    ·rfl
    ·intro he
     exact hny (by rw[<-he];exact zjm ys j h1)
 ·rw[idx]at hi
  by_cases e:z=x
  ·rw[Ch e]at hi;cases hi
  ·rw[Cg e]at hi
   rcases Cd.1 hm with hm|hm
   ·exact n0 (by rw[<-hm];exact hz)
   ·exact h.miss z hz (by cases hj:idx z xs with|none=>rfl|some j=>rw[hj]at hi;cases hi) hm
 ·cases i with
  |zero =>
   injection hi with hi;exact absurd (by rw[hi];exact hy) n0
  |succ i=>exact h.kept i y hi hy
 ·rcases Cd.1 hy with rfl|hy
  ·exact .inr ⟨_,by omega,rfl⟩
  ·rcases h.made y hy with h|⟨j,h1,h2⟩
   ·exact .inl h
   ·exact .inr ⟨j,by omega,h2⟩
end
end
section
open Go.RowKit Lx Tx
set_option maxRecDepth 100000
theorem zia(u:Ty)(x:Name):x∈Fu u↔k_ x (db [] u):=by
 rw[Sq];unfold Ty.free;rw[NQ [] [] (λ_=>Iff.rfl),NY];simp
theorem zjk {V:Type}(x:Name)(y:V):(env:List (Name × V))->look x env=some y->∃p∈env,p.2=y
 |[],h=>by cases h
 |p::r,h=>by
  rw[look]at h;by_cases e:p.1=x
  ·rw[Ch e]at h;injection h with h;exact⟨p,Cs,h⟩
  ·rw[Cg e]at h
   obtain⟨q,hq,e2⟩:=zjk x y r h;exact⟨q,Cf _ hq,e2⟩
section
variable {σ:Type}
mutual
theorem QO(bind:Name->σ->Name × σ)(leaf:Ty->Ty)(B:Nat)(hB:1<=B)(hl:∀t,kd t=1\/kd t=2->(leaf t).size<=B):(t:Ty)->∀env s,(iF bind leaf env t s).1.size<=t.size*B
 |.var x,env,s=>by
  rw[iF];have e:(Ty.var x).size=1:=by rw[Gv];simp[kids,q_]
  rw[e,Da];cases look x env with
  |none=>exact hl _ (.inl rfl)
  |some y =>
   show(Ty.var y).size<=B;have e:(Ty.var y).size=1:=by rw[Gv];simp[kids,q_]
   omega
 |.mt n,env,s=>by
  rw[iF];have e:(Ty.mt n).size=1:=by rw[Gv];simp[kids,q_]
  rw[e,Da];exact hl _ (.inr rfl)
 |.h_ c l,env,s=>by
  rw[iF,Gv,Gv (.h_ c l),Cy];have:=zfv bind leaf B hB hl l env s;show q_ (D_ bind leaf env l s).1+1<=q_ l*B+1*B;omega
 |.fn a b,env,s=>by
  rw[iF,Gv,Gv (.fn a b),Cy];have h1:=QO bind leaf B hB hl a env s;have h2:=QO bind leaf B hB hl b env (iF bind leaf env a s).2;simp only[kids,q_,Cy,Nat.zero_mul,Da];omega
 |.all x t,env,s=>by
  rw[iF,Gv,Gv (.all x t),Cy];have h1:=QO bind leaf B hB hl t ((x,(bind x s).1)::env) (bind x s).2;simp only[kids,q_,Cy,Nat.zero_mul,Da];omega
theorem zfv(bind:Name->σ->Name × σ)(leaf:Ty->Ty)(B:Nat)(hB:1<=B)(hl:∀t,kd t=1\/kd t=2->(leaf t).size<=B):(l:List Ty)->∀env s,q_ (D_ bind leaf env l s).1<=q_ l*B
 |[],env,s=>by rw[D_,q_];exact Cw _
 |a::b,env,s=>by
  rw[D_,q_,q_,Cy];have h1:=QO bind leaf B hB hl a env s;have h2:=zfv bind leaf B hB hl b env (iF bind leaf env a s).2;omega
end
end
end
section
open Go.RowKit Lx Tx Go.Maps Go.WideMaps Go.Shelf
mutual
def Gq:Ty->List Name
 |.var x=>[x]
 |.mt _=>[[]]
 |.h_ c l=>c::FB l
 |.fn a b=>[]::(Gq a++Gq b)
 |.all x t=>x::Gq t
def FB:List Ty->List Name
 |[]=>[]
 |t::r=>Gq t++FB r
end
theorem zol(t:Ty):Gq t=(ER t).data.toList::FB (kids t):=by
 cases t with
 |var x=>rw[Gq,kids,FB];rfl
 |mt n=>rw[Gq,kids,FB];rfl
 |h_ c l=>rw[Gq,kids];rfl
 |fn a b=>rw[Gq,kids,FB,FB,FB,CJ];rfl
 |all x t=>rw[Gq,kids,FB,FB,CJ];rfl
theorem zmo(l:List Ty)(t:Ty):FB (l++[t])=FB l++Gq t:=by
 induction l with
 |nil=>rw[Cu,FB,FB,FB,CJ];rfl
 |cons a r ih=>rw[Co,FB,FB,ih,DC]
theorem zmp(l:List Ty)(i:Nat)(u:Ty)(hu:l[i]?=some u):FB (l.take (i+1))=FB (l.take i)++Gq u:=by
 obtain⟨hi,e⟩:=Cj.1 hu;rw[OC l i hi,zmo,e]
mutual
theorem Oy:(t:Ty)->(Gq t).length=t.size
 |.var x=>by rw[Gq,Ty.size];rfl
 |.mt n=>by rw[Gq,Ty.size];rfl
 |.h_ c l=>by rw[Gq,Ty.size,Ca,Vx l]
 |.fn a b=>by rw[Gq,Ty.size,Ca,Cb,Oy a,Oy b]
 |.all x t=>by rw[Gq,Ty.size,Ca,Oy t]
theorem Vx:(l:List Ty)->(FB l).length=q_ l
 |[]=>by rw[FB,q_];rfl
 |t::r=>by rw[FB,q_,Cb,Oy t,Vx r]
end
theorem zqs {t:Ty}(h:Nm t):(ER t).size<=24:=by
 cases t with
 |var x=>exact J4 h
 |h_ c l=>exact J4 h
 |all x t=>exact J4 h
 |mt n=>exact Cw _
 |fn a b=>exact Cw _
def NC(mb:Nat)(L:List Name)(t:Ty)(m:Nat)(w0:World)(gg:Nat)(vi:Value)(wr:World):Prop :=
 ∃i,gg=m-i/\vi=.int .i64 (i:Nat)/\i<=m/\iT mkSet wr mb (kj (L++(ER t).data.toList::FB ((kids t).take i)))/\b_ (only mb) w0 wr
theorem ziR(n:Nat):∀(t:Ty)(S:Nat->Prop)(v:Value)(mb:Nat)(L:List Name)(w:World),t.size<=n->n<=1000000->nc S w t v->(∀g,S g->g<w.heap.size/\g≠mb)->Nm t->iT mkSet w mb (kj L)->L.length+t.size<=100000000 ->
  Calls prog 102 #[v,.map (some mb)] w λe w'=>e=.returned (.tuple #[])/\iT mkSet w' mb (kj (L++Gq t))/\b_ (only mb) w w':=by
 induction n with
 |zero=>intro t S v mb L w h;rw[Gv]at h;omega
 |succ n ih =>
  intro t S v mb L w hn h6 hv hS aw WZ hL;obtain⟨K,X,Z,A,m,c,rfl,-,hX,-,hm,ha⟩:=hv.parts;have dI:m<=n:=by have:=LF t;omega
  have bA:X.size<=maxLen:=by have:=zqs aw;rw[<-hX]at this;unfold maxLen;omega
  have dK:=WZ.lt;have k2:ar (w.alloc (.cells #[.int .i64 K,.string X,.int .i64 Z,.slice A m c] 37)) w.heap.size 37 #[.int .i64 K,.string X,.int .i64 Z,.slice A m c]:=BZ _ _;have bL:=WZ.al (BX w (.cells #[.int .i64 K,.string X,.int .i64 Z,.slice A m c] 37) mb dK);have qf:(kj L).length<100000000000000:=by unfold kj;simp;omega
  have HM:=EP hm;have HA:=EP ha;have IH:=EP ih;have HS:=EP hS;have HN:=EP hn;have HX:=EP hX;have ZO:=EP bA;have nU:=EP dK;have fo:=EP bL;have xh:=EP qf;have bQ:=EP aw;have K2:=EP k2;have HL:=EP hL;clear hm ha ih hS hn hX bA dK bL qf aw k2 hL hv WZ;go_in;go_wp2_with (at_mapUpdate;refine QW mkSet _ rfl _ _ _ rfl mb (kj L) rfl fo.o xh.o X ZO.o rfl () trivial rfl ?_;intro w1 aT aS;have dP:=EP aT;have mh:=EP aS;have aU:=EP (K2.o.grown aS (λe=>by injection e with e;have:=nU.o;omega));obtain⟨p0,p1,p2,p3,-,-,-,-,hp4⟩:=n_ aU.o;clear aT aS);go_loopg [13] m (λgg vi wr=>NC mb L t m w1 gg vi wr)
  case atStart =>
   refine⟨0,rfl,rfl,Cw _,?_,b_.refl _ _⟩;rw[CK,FB,V7,<-HX.o];exact dP.o
  case round =>
   obtain⟨i,rfl,rfl,hi,yP,hc⟩:=hrel;have Yv:=EP yP;have HC:=EP hc;have wJ:=mh.o.size;rw[size_alloc]at wJ;have gP:=hc.size;have hold:Hid (∀g,g<w.heap.size->g≠mb->wr.heap[g]?=w.heap[g]?):=EP λg h1 h2=>by
    rw[HC.o.block g (by omega) h2,mh.o.block g (by rw[size_alloc];omega) (λe=>by injection e with e;exact h2 e),BX _ _ _ h1]
   clear yP hc;by_cases af:i<m
   ·obtain⟨g,u,K1,X1,Z1,A1,n1,c1,rfl,hg,e0,e1,e2,e3,hu,aG,aA⟩:=OB (w':=wr) HA.o HM.o af (λg hg=>hold.o g (HS.o g hg).1 (HS.o g hg).2)
    have qm:g<wr.heap.size:=by have:=(HS.o g hg).1;omega
    have bT:Nm u:=by
     obtain⟨bP,qf⟩:=Cj.1 hu;rw[<-qf];exact Mc bQ.o i bP
    have yW:(L++(ER t).data.toList::FB ((kids t).take i)).length+u.size<=100000000:=by
     obtain⟨bP,qf⟩:=Cj.1 hu;have h2:=zlv (kids t) i;have h3:u.size<=q_ ((kids t).drop i):=by
      rw[DL bP,q_,qf];omega
     have:=Gv t;have:=HL.o;rw[Cb,Ca,Vx];omega
    have ah:=IH.o u S _ mb (L++(ER t).data.toList::FB ((kids t).take i)) (wr.alloc (.cells #[.int .i64 K1,.string X1,.int .i64 Z1,.slice A1 n1 c1] 37)) (by have:=HN.o;omega) (by omega) (aG.al (S':=S) (λ_ h=>h) (λg hg=>BX _ _ _ (by have:=(HS.o g hg).1;omega)))
     (λg hg=>⟨by have:=(HS.o g hg).1;simp;omega,(HS.o g hg).2⟩) bT (Yv.o.al (BX _ _ _ Yv.o.lt)) yW
    have lL:=EP (zmp (kids t) i u hu);have ak:=EP ah;clear aG hu bT yW ah;go_wp2_with fail;refine ak.o.mono ?_;rintro e w3 ⟨rfl,wF,c3⟩;have Bj:=EP wF;have jW:=EP ((HC.o.alloc _).trans c3);clear wF c3 ak;go_wp2_with fail;go_roundg (m-(i+1))
    case measure=>omega
    case rel =>
     refine⟨i+1,rfl,by go_num,by omega,?_,jW.o⟩;have h:=Bj.o;rw[DC,Co]at h;rw[lL.o];exact h
   ·have aJ:=EP (show Gq t=(ER t).data.toList::FB ((kids t).take i) by rw[zol,Cq (by rw[HM.o];omega)])
    go_wp2_with fail;first|go_end0|refine Ce (CQ rfl _ _ _) rfl ?_
    refine⟨rfl,by rw[aJ.o];exact Yv.o,((((b_.refl (only mb) w).alloc _).grown mh.o (λk hk=>.inr (by injection hk with hk;exact hk.symm))).trans' HC.o (λ_ _ h=>h))⟩
end
section
open Go.RowKit Lx Tx Go.Maps Go.WideMaps Go.Shelf
set_option maxRecDepth 100000
theorem zlR {s:List UInt8} {n:Nat}(h:parse s=.error n):n≠0:=by
 intro e;subst e;unfold parse at h;obtain⟨⟨ts,l,er⟩,hq⟩:∃p,JY s=p:=⟨_,rfl⟩;rw[hq]at h;cases er with
 |zero =>
  simp only at h;split at h
  ·split at h
   ·injection h with h;omega
   ·cases h
  ·injection h with h;omega
 |succ k =>
  simp at h
section
variable {N:Nat} {w:World} {g:Nat} {t:Ty} {K:Int} {X:ByteArray} {Z:Int} {A:Option Addr} {m c:Nat}
end
section
variable {N N':Nat} {w:World} {t u:Ty} {v uv:Value}
end
end
section
open Go.RowKit Lx Tx Go.Maps Go.WideMaps Go.Shelf
def Pj(pb lb rb m:Nat)(el er:List (Name × Nat))(l r:List Ty)(mt:Nat)(w0:World)(gg:Nat)(vi:Value)(wr:World):Prop :=
 ∃i qC:Nat,gg=m-i/\vi=.int .i64 (i:Nat)/\i<=m/\Hid (Gc el er (l.take i) (r.take i) mt=(true,qC))/\FK pb lb rb el er qC wr/\b_ (PM pb lb rb) w0 wr
theorem Wn(n pb lb rb:Nat)(HC:Qh n pb lb rb)(t u:Ty)(el er:List (Name × Nat))(mt:Nat)(S Su:Nat->Prop)(v uv:Value)(w:World)(hn:t.size<=n+1)(h6:n<=10000000000000)(hp:FK pb lb rb el er mt w)(hv:nc S w t v)(hu:nc Su w u uv)
  (hS:∀g,S g->g<w.heap.size/\¬PM pb lb rb g)(aO:∀g,Su g->g<w.heap.size/\¬PM pb lb rb g)(aw:Nm t)(bT:Nm u)(h1:el.length+q_ (kids t)<=50000000000000)(h2:er.length+q_ (kids t)<=50000000000000)(h3:mt+q_ (kids t)<=100000000000000)(hlen:(kids t).length=(kids u).length):Calls prog 104 #[.pointer (some ⟨pb,0,none⟩),v,uv] w (Ju pb lb rb el er (Gc el er (kids t) (kids u) mt) w):=by
 obtain⟨K,X,Z,A,m,c,rfl,-,-,-,hm,ha⟩:=hv.parts;obtain⟨K',X',Z',A',m',c',rfl,-,-,-,cQ,cB⟩:=hu.parts;obtain rfl:m=m':=by omega
 have dI:m<=n:=by have:=LF t;omega
 have wC:∀i (hi:i<(kids t).length),Nm (kids t)[i]:=λi hi=>Mc aw i hi;have yM:∀i (hi:i<(kids u).length),Nm (kids u)[i]:=λi hi=>Mc bT i hi;obtain⟨l0,l1,ls,cF⟩:=IC w (.cells #[.int .i64 K,.string X,.int .i64 Z,.slice A m c] 37) (.cells #[.int .i64 K',.string X',.int .i64 Z',.slice A' m c'] 37);obtain⟨W2,iL⟩:∃W,(w.alloc (.cells #[.int .i64 K,.string X,.int .i64 Z,.slice A m c] 37)).alloc (.cells #[.int .i64 K',.string X',.int .i64 Z',.slice A' m c'] 37)=W:=⟨_,rfl⟩;rw[iL]at l0 l1 ls cF
 have gE:=EP (hp.below cF);have mK:∀g,PM pb lb rb g->g<w.heap.size:=hp.lt;obtain⟨p0,p1,p2,p3,-⟩:=n_ (show ar W2 w.heap.size 37 _ from l0);have L1:Hid (ar W2 (w.heap.size+1) 37 #[.int .i64 K',.string X',.int .i64 Z',.slice A' m c']):=EP l1;have LS:=EP ls;have LB:=EP cF;have HM:=EP hm;have vG:=EP cQ;have HA:=EP ha;have HA':=EP cB;have HS:=EP hS;have l9:=EP aO;have ej:=EP wC;have Z6:=EP yM;have au:=EP mK;have HN:=EP hn;obtain⟨R,hR⟩:∃R,Gc el er (kids t) (kids u) mt=R:=⟨_,rfl⟩;have HR:=EP hR;rw[hR];clear hv hu hm cQ ha cB hS aO aw bT hp l0 l1 ls cF hR wC yM mK hlen hn;go_in;go_wp2_with fail;go_loopg [12] m (λgg vi wr=>Pj pb lb rb m el er (kids t) (kids u) mt W2 gg vi wr)
 case atStart=>exact⟨0,mt,rfl,rfl,Cw _,EP (by rw[CK,Gc]),gE.o,b_.refl _ _⟩
 case round =>
  obtain⟨i,qC,lS,rfl,hi,lG,tW,hc⟩:=hrel;have eF:=EP lG.o;have Yq:=EP tW;have C1:=EP hc;have aH:=hc.size;rw[LS.o]at aH;clear lG tW hc;by_cases af:i<m
  ·have ig:∀g,S g->wr.heap[g]?=w.heap[g]?:=λg hg=>(C1.o.block g (by have:=(HS.o g hg).1;rw[LS.o];omega) (HS.o g hg).2).trans (LB.o.block g (HS.o g hg).1)
   have zb:∀g,Su g->wr.heap[g]?=w.heap[g]?:=λg hg=>(C1.o.block g (by have:=(l9.o g hg).1;rw[LS.o];omega) (l9.o g hg).2).trans (LB.o.block g (l9.o g hg).1);obtain⟨g,a,K1,X1,Z1,A1,n1,c1,rfl,hg,e0,e1,e2,e3,Tl,aG,sn⟩:=OB HA.o HM.o af ig;obtain⟨g',b,K2,X2,Z2,A2,n2,c2,rfl,jN,f0,f1,f2,f3,wv,yy,-⟩:=OB HA'.o vG.o af zb;have fJ:Nm a:=by obtain⟨fB,rfl⟩:=Cj.1 Tl;exact ej.o i fB
   have hnb:Nm b:=by obtain⟨fB,rfl⟩:=Cj.1 wv;exact Z6.o i fB
   have hsl:q_ ((kids t).take i)+a.size<=q_ (kids t):=by
    obtain⟨fB,rfl⟩:=Cj.1 Tl;have:=OE (kids t) i _ ⟨fB,rfl⟩;have:=OA (kids t) (i+1);omega
   have arM:qC<=mt+q_ ((kids t).take i):=by have:=(U6 ((kids t).take i) el er ((kids u).take i) mt).2;rw[eF.o]at this;exact this
   have aW:=zpf el er (kids t) (kids u) i mt qC a b Tl wv eF.o;have bP:i<(kids t).length:=by rw[HM.o];exact af
   have zj:i<(kids u).length:=by rw[vG.o];exact af
   have gO:∀z,t_ el er a b qC=(false,z)->R=(false,z):=λz hz=>by rw[<-HR.o];exact znd el er (kids t) (kids u) i mt z bP zj (by rw[aW,hz])
   have ef:∀q,q<wr.heap.size->((wr.alloc (.cells #[.int .i64 K1,.string X1,.int .i64 Z1,.slice A1 n1 c1] 37)).drew).heap[q]?=wr.heap[q]?:=λq hq=>BX _ _ _ hq;have j5:((wr.alloc (.cells #[.int .i64 K1,.string X1,.int .i64 Z1,.slice A1 n1 c1] 37)).drew).heap.size=wr.heap.size+1:=size_alloc _ _;have ah:=HC a b el er qC S Su _ _ ((wr.alloc (.cells #[.int .i64 K1,.string X1,.int .i64 Z1,.slice A1 n1 c1] 37)).drew) (by have:=HN.o;omega) h6 (Yq.o.al λq hq=>ef q (Yq.o.lt q hq)) (aG.al (λ_ h=>h) (λq hq=>ef q (by have:=(HS.o q hq).1;omega))) (yy.al (λ_ h=>h) (λq hq=>ef q (by have:=(l9.o q hq).1;omega)))
    (λq hq=>⟨by have:=(HS.o q hq).1;omega,(HS.o q hq).2⟩) (λq hq=>⟨by have:=(l9.o q hq).1;omega,(l9.o q hq).2⟩) fJ hnb (by omega) (by omega) (by omega)
   obtain⟨⟨q,z⟩,KO⟩:∃p,t_ el er a b qC=p:=⟨_,rfl⟩;rw[KO]at ah aW;have ak:=EP ah;have dv:=EP aW;have HFL:=EP gO;have Yk:=EP KO;have kK:=M7 f0;have hgn:g'≠wr.heap.size:=by omega
   have hgP:g'<w.heap.size/\¬PM pb lb rb g':=l9.o g' jN;have K1B:Hid (ar ((wr.alloc (.cells #[.int .i64 K1,.string X1,.int .i64 Z1,.slice A1 n1 c1] 37)).drew) wr.heap.size 37 #[.int .i64 K1,.string X1,.int .i64 Z1,.slice A1 n1 c1]):=EP (BZ wr _);have U1B:Hid (ar ((wr.alloc (.cells #[.int .i64 K1,.string X1,.int .i64 Z1,.slice A1 n1 c1] 37)).drew) (w.heap.size+1) 37 #[.int .i64 K',.string X',.int .i64 Z',.slice (some ⟨g',0,none⟩) m c']):=EP ((ef _ (by omega)).trans (L1.o.iF C1.o (λh=>by have:=au.o _ h;omega)));have bh:Hid (∀W:World,ar W wr.heap.size 37 #[.int .i64 K1,.string X1,.int .i64 Z1,.slice A1 n1 c1]->ar W (w.heap.size+1) 37 #[.int .i64 K',.string X',.int .i64 Z',.slice (some ⟨g',0,none⟩) m c']->W.heap[g']?=wr.heap[g']? ->
     W.cell? ⟨wr.heap.size,0,none⟩=some (.int .i64 K1)/\W.cell? ⟨wr.heap.size,1,none⟩=some (.string X1)/\W.cell? ⟨wr.heap.size,2,none⟩=some (.int .i64 Z1)/\W.cell? ⟨wr.heap.size,3,none⟩=some (.slice A1 n1 c1)/\W.cell? ⟨w.heap.size+1,3,none⟩=some (.slice (some ⟨g',0,none⟩) m c') /\
     W.cell? ⟨g',i*4,none⟩=some (.int .i64 K2)/\W.cell? ⟨g',i*4+1,none⟩=some (.string X2)/\W.cell? ⟨g',i*4+2,none⟩=some (.int .i64 Z2)/\W.cell? ⟨g',i*4+3,none⟩=some (.slice A2 n2 c2)) :=
    EP λW b1 b2 hk=>⟨b1.cell 0,b1.cell 1,b1.cell 2,b1.cell 3,b2.cell 3,(Ck (w:=wr) (a:=⟨g',i*4,none⟩) hk).trans f0,(Ck (w:=wr) (a:=⟨g',i*4+1,none⟩) hk).trans f1,(Ck (w:=wr) (a:=⟨g',i*4+2,none⟩) hk).trans f2,(Ck (w:=wr) (a:=⟨g',i*4+3,none⟩) hk).trans f3⟩
   have pX:Hid (((wr.alloc (.cells #[.int .i64 K1,.string X1,.int .i64 Z1,.slice A1 n1 c1] 37)).drew).heap[g']?=wr.heap[g']?):=EP (ef g' kK);clear ig zb Tl wv aG yy fJ hnb aW gO ah KO bP zj f0 f1 f2 f3 sn;go_wp2_with fail;go_region_held3 (λW=>W.cell? ⟨wr.heap.size,0,none⟩=some (.int .i64 K1)/\W.cell? ⟨wr.heap.size,1,none⟩=some (.string X1)/\W.cell? ⟨wr.heap.size,2,none⟩=some (.int .i64 Z1)/\W.cell? ⟨wr.heap.size,3,none⟩=some (.slice A1 n1 c1)/\W.cell? ⟨w.heap.size+1,3,none⟩=some (.slice (some ⟨g',0,none⟩) m c') /\
     W.cell? ⟨g',i*4,none⟩=some (.int .i64 K2)/\W.cell? ⟨g',i*4+1,none⟩=some (.string X2)/\W.cell? ⟨g',i*4+2,none⟩=some (.int .i64 Z2)/\W.cell? ⟨g',i*4+3,none⟩=some (.slice A2 n2 c2)) (first|(with_reducible exact bh.o _ K1B.o U1B.o pX.o)|(with_reducible exact bh.o _ K2B.o U2B.o xB.o))
    ((first|((with_reducible refine ak.o.mono ?_);rintro e w5 ⟨rfl,bM,c5⟩;have K2B:=EP (K1B.o.iF c5 (λh=>by have:=au.o _ h;omega));have U2B:=EP (U1B.o.iF c5 (λh=>by have:=au.o _ h;omega));have xB:=EP ((c5.block g' (by omega) hgP.2).trans pX.o);have qx:=EP bM;have C5:=EP c5;clear bM c5)))
   all_goals
    clear ak
   have C6:=EP (((C1.o.alloc (.cells #[.int .i64 K1,.string X1,.int .i64 Z1,.slice A1 n1 c1] 37)).drew).trans C5.o);cases q with
   |true =>
    go_wp2_with fail;go_roundg (m-(i+1))
    case measure=>omega
    case rel=>exact⟨i+1,z,rfl,by go_num,by omega,dv,qx.o,C6.o⟩
   |false =>
    have HF:=EP (HFL.o z Yk.o);go_wp2_with fail;go_ret
    rw[HF.o];exact⟨rfl,qx.o,(b_.c_ LB.o).trans' C6.o (λg hg h=>h)⟩
  ·have aJ:(kids t).take i=kids t:=Cq (by have:=HM.o;omega)
   have sP:(kids u).take i=kids u:=Cq (by have:=vG.o;omega);have eP:R=(true,qC):=by rw[<-HR.o,<-eF.o,aJ,sP]
   have HF:=EP eP;clear aJ sP eP;go_wp2_with fail;go_ret
   rw[HF.o];exact⟨rfl,Yq.o,(b_.c_ LB.o).trans' C1.o (λg hg h=>h)⟩
end
section
open Go.RowKit Lx Tx Go.Maps Go.WideMaps Go.Shelf
set_option maxRecDepth 100000
theorem zph(o:Option Nat):mkInt.J7 o=.int .i64 ((o.getD 0:Nat):Int):=by cases o <;> rfl
theorem zlM(pb lb rb:Nat)(el er:List (Name × Nat))(mt:Nat)(K K' Z Z':Int)(X X':ByteArray)(A A':Option Addr)(m m' c c':Nat)(w:World)(hp:FK pb lb rb el er mt w)(h:K≠K'\/m≠m'):Calls prog 60 #[.pointer (some ⟨pb,0,none⟩),.agg #[.int .i64 K,.string X,.int .i64 Z,.slice A m c],.agg #[.int .i64 K',.string X',.int .i64 Z',.slice A' m' c']] w (Ju pb lb rb el er (false,mt) w):=by
 obtain⟨-,-,-,cF⟩:=IC w (.cells #[.int .i64 K,.string X,.int .i64 Z,.slice A m c] 37) (.cells #[.int .i64 K',.string X',.int .i64 Z',.slice A' m' c'] 37);have gE:=EP (hp.below cF);have LB:=EP cF;clear hp cF;by_cases hk:K=K'
 ·subst hk
  have hm:((m:Int) ==(m':Int))=false:=by rw[Cz];intro e;simp at e;omega
  clear h;go_enter_defers func60,ntmps60;go_wp2_with fail;refine⟨_,results_tmp rfl _ _ _,rfl,gE.o,b_.c_ LB.o⟩
 ·have fj:(K==K')=false:=by rw[Cz];intro e;simp at e;exact hk e
  clear h hk;go_enter_defers func60,ntmps60;go_wp2_with fail;refine⟨_,results_tmp rfl _ _ _,rfl,gE.o,b_.c_ LB.o⟩
theorem znf(pb lb rb:Nat)(el er:List (Name × Nat))(mt:Nat)(Z Z':Int)(X X':ByteArray)(A A':Option Addr)(m c c':Nat)(w:World)(hp:FK pb lb rb el er mt w):Calls prog 60 #[.pointer (some ⟨pb,0,none⟩),.agg #[.int .i64 2,.string X,.int .i64 Z,.slice A m c],.agg #[.int .i64 2,.string X',.int .i64 Z',.slice A' m c']] w (Ju pb lb rb el er (Z==Z',mt) w):=by
 obtain⟨-,-,-,cF⟩:=IC w (.cells #[.int .i64 2,.string X,.int .i64 Z,.slice A m c] 37) (.cells #[.int .i64 2,.string X',.int .i64 Z',.slice A' m c'] 37);have gE:=EP (hp.below cF);have LB:=EP cF;clear hp cF;obtain⟨q,hq⟩:∃q,(Z==Z')=q:=⟨_,rfl⟩;rw[hq];cases q;all_goals
  go_enter_defers func60,ntmps60
  go_wp2_with fail;refine⟨_,results_tmp rfl _ _ _,rfl,gE.o,b_.c_ LB.o⟩
theorem zlN(pb lb rb:Nat)(el er:List (Name × Nat))(mt:Nat)(Z Z':Int)(X X':ByteArray)(A A':Option Addr)(m c c':Nat)(w:World)(hp:FK pb lb rb el er mt w)(hX:X.size<=24)(jc:X'.size<=24):Calls prog 60 #[.pointer (some ⟨pb,0,none⟩),.agg #[.int .i64 1,.string X,.int .i64 Z,.slice A m c],.agg #[.int .i64 1,.string X',.int .i64 Z',.slice A' m c']] w
   (Ju pb lb rb el er (decide ((look X.data.toList el).getD 0=(look X'.data.toList er).getD 0/\(0<(look X.data.toList el).getD 0\/X.data.toList=X'.data.toList)),mt) w):=by
 obtain⟨l0,l1,ls,cF⟩:=IC w (.cells #[.int .i64 1,.string X,.int .i64 Z,.slice A m c] 37) (.cells #[.int .i64 1,.string X',.int .i64 Z',.slice A' m c'] 37);obtain⟨W2,iL⟩:∃W,(w.alloc (.cells #[.int .i64 1,.string X,.int .i64 Z,.slice A m c] 37)).alloc (.cells #[.int .i64 1,.string X',.int .i64 Z',.slice A' m c'] 37)=W:=⟨_,rfl⟩;rw[iL]at l0 l1 ls cF;have dj:=hp.below cF;obtain⟨p0,p1,p2,p3,-⟩:=n_ (show ar W2 w.heap.size 37 _ from l0);obtain⟨q0,q1,q2,q3,-⟩:=n_ (show ar W2 (w.heap.size+1) 37 _ from l1);have z0:W2.cell? ⟨pb,0,none⟩=some (.map (some lb)):=dj.pr.cell 0;have z1:W2.cell? ⟨pb,1,none⟩=some (.map (some rb)):=dj.pr.cell 1;have q8:=(dj.le.al (w':=W2.drew) rfl).get X (by unfold maxLen;omega);have qg:=(dj.ri.al (w':=W2.drew) rfl).get X' (by unfold maxLen;omega);rw[zph]at q8 qg;obtain⟨l,hl⟩:∃l,(look X.data.toList el).getD 0=l:=⟨_,rfl⟩;obtain⟨r,hr⟩:∃r,(look X'.data.toList er).getD 0=r:=⟨_,rfl⟩;rw[hl]at q8 ⊢;rw[hr]at qg ⊢;replace q8:(Instr.lookup 116 (.map (some lb)) (.string X) false).run prog W2.drew=.ok (.int .i64 (l:Nat)) W2.drew:=q8;replace qg:(Instr.lookup 116 (.map (some rb)) (.string X') false).run prog W2.drew=.ok (.int .i64 (r:Nat)) W2.drew:=qg;have Tk:(X.toList==X'.toList)=decide (X.data.toList=X'.data.toList):=by rw[CL,CL];exact DM.2 (by simp)
 obtain⟨q,hq⟩:∃q,decide (X.data.toList=X'.data.toList)=q:=⟨_,rfl⟩;rw[hq]at Tk;have yv:decide (l=r/\(0<l\/X.data.toList=X'.data.toList))=(decide (l=r) &&(decide (0<l)||q)):=by rw[Bool.decide_and,Bool.decide_or,hq]
 rw[yv];have gE:=EP (dj.al (w':=W2.drew) (λ_ _=>rfl));have LB:Hid (Below w.heap.size w W2.drew):=EP cF.drew;have bh:Hid (W2.drew.cell? ⟨w.heap.size,1,none⟩=some (.string X)/\W2.drew.cell? ⟨w.heap.size+1,1,none⟩=some (.string X')/\W2.drew.cell? ⟨pb,0,none⟩=some (.map (some lb))/\W2.drew.cell? ⟨pb,1,none⟩=some (.map (some rb))):=EP ⟨p1,q1,z0,z1⟩;clear hp dj l0 l1 ls cF hl hr hq yv hX jc;by_cases gz:l=r
 ·subst gz
  have e1:decide (l=l)=true:=by simp
  rw[e1,Bool.true_and];by_cases h0:l=0
  ·subst h0
   rw[show(decide (0<0)||q)=q by simp];clear e1;cases q;all_goals
    go_enter_defers func60,ntmps60
    go_wp2_with fail;go_region_held3 (λW=>W.cell? ⟨w.heap.size,1,none⟩=some (.string X)/\W.cell? ⟨w.heap.size+1,1,none⟩=some (.string X')/\W.cell? ⟨pb,0,none⟩=some (.map (some lb))/\W.cell? ⟨pb,1,none⟩=some (.map (some rb))) (first|(with_reducible exact bh.o)) ((fail))
    all_goals
     go_wp2_with fail;refine⟨_,results_tmp rfl _ _ _,rfl,gE.o,b_.c_ LB.o⟩
  ·have yC:(0:Int)<(l:Int):=by omega
   rw[show(decide (0<l)||q)=true by rw[CD (by omega)];rfl];clear e1 h0;go_enter_defers func60,ntmps60;go_wp2_with fail;go_region_held3 (λW=>W.cell? ⟨w.heap.size,1,none⟩=some (.string X)/\W.cell? ⟨w.heap.size+1,1,none⟩=some (.string X')/\W.cell? ⟨pb,0,none⟩=some (.map (some lb))/\W.cell? ⟨pb,1,none⟩=some (.map (some rb))) (first|(with_reducible exact bh.o)) ((fail))
   all_goals
    go_wp2_with fail;refine⟨_,results_tmp rfl _ _ _,rfl,gE.o,b_.c_ LB.o⟩
 ·have e1:decide (l=r)=false:=by simp[gz]
  rw[e1,Bool.false_and];have ai:((l:Int) ==(r:Int))=false:=kF l r gz;clear e1 gz;go_enter_defers func60,ntmps60;go_wp2_with fail;go_region_held3 (λW=>W.cell? ⟨w.heap.size,1,none⟩=some (.string X)/\W.cell? ⟨w.heap.size+1,1,none⟩=some (.string X')/\W.cell? ⟨pb,0,none⟩=some (.map (some lb))/\W.cell? ⟨pb,1,none⟩=some (.map (some rb))) (first|(with_reducible exact bh.o)) ((fail))
  all_goals
   go_wp2_with fail;refine⟨_,results_tmp rfl _ _ _,rfl,gE.o,b_.c_ LB.o⟩
end
section
open Go.RowKit Lx Tx Go.Maps Go.WideMaps Go.Shelf
structure Ly (pb lb rb:Nat) (t u:Ty) (el er:List (Name × Nat)) (m:Nat) (S Su:Nat->Prop) (w:World):Prop where
 pi:FK pb lb rb el er m w
 s:∀g,S g->g<w.heap.size/\¬PM pb lb rb g
 su:∀g,Su g->g<w.heap.size/\¬PM pb lb rb g
 nt:Nm t
 nu:Nm u
 l1:el.length+t.size<=50000000000000
 l2:er.length+t.size<=50000000000000
 l3:m+t.size<=100000000000000
theorem zlO(n pb lb rb:Nat)(HC:Qh n pb lb rb)(cn dn:Name)(l r:List Ty)(el er:List (Name × Nat))(mt:Nat)(S Su:Nat->Prop)(v uv:Value)(w:World)(hn:(Ty.h_ cn l).size<=n+1)(h6:n<=10000000000000)(H:Ly pb lb rb (.h_ cn l) (.h_ dn r) el er mt S Su w)(hv:nc S w (.h_ cn l) v)(hu:nc Su w (.h_ dn r) uv)(gz:l.length=r.length):Calls prog 60 #[.pointer (some ⟨pb,0,none⟩),v,uv] w (Ju pb lb rb el er (t_ el er (.h_ cn l) (.h_ dn r) mt) w):=by
 obtain⟨K,X,Z,A,m,c,rfl,hK,hX,-,hm,ha⟩:=hv.parts;obtain⟨K',X',Z',A',m',c',rfl,gB,jc,-,cQ,cB⟩:=hu.parts;obtain rfl:m=m':=by have h1:l.length=m:=hm;have h2:r.length=m':=cQ;omega
 obtain rfl:K=3:=hK;obtain rfl:K'=3:=gB;obtain⟨l0,l1,ls,cF⟩:=IC w (.cells #[.int .i64 3,.string X,.int .i64 Z,.slice A m c] 37) (.cells #[.int .i64 3,.string X',.int .i64 Z',.slice A' m c'] 37);obtain⟨W2,iL⟩:∃W,(w.alloc (.cells #[.int .i64 3,.string X,.int .i64 Z,.slice A m c] 37)).alloc (.cells #[.int .i64 3,.string X',.int .i64 Z',.slice A' m c'] 37)=W:=⟨_,rfl⟩;rw[iL]at l0 l1 ls cF;obtain⟨p0,p1,p2,p3,-⟩:=n_ (show ar W2 w.heap.size 37 _ from l0);obtain⟨q0,q1,q2,q3,-⟩:=n_ (show ar W2 (w.heap.size+1) 37 _ from l1);have lI:(Ty.h_ cn l).size=q_ l+1:=by rw[Gv];rfl
 have ah:=Wn n pb lb rb HC (.h_ cn l) (.h_ dn r) el er mt S Su _ _ W2 hn h6 (H.pi.below cF) (hv.al (λ_ h=>h) (λg hg=>cF.block g (H.s g hg).1)) (hu.al (λ_ h=>h) (λg hg=>cF.block g (H.su g hg).1))
  (λg hg=>⟨by have:=(H.s g hg).1;omega,(H.s g hg).2⟩) (λg hg=>⟨by have:=(H.su g hg).1;omega,(H.su g hg).2⟩) H.nt H.nu (by have:=H.l1;show el.length+q_ l<=_;omega) (by have:=H.l2;show er.length+q_ l<=_;omega) (by have:=H.l3;show mt+q_ l<=_;omega) gz
 have gE:=EP (H.pi.below cF);have LB:=EP cF;rw[zrx el er cn dn l r mt gz];have Tk:(X.toList==X'.toList)=decide (cn=dn):=by
  rw[CL,CL,hX,jc];exact DM.2 (by simp[ER])
 have ak:Hid (Calls prog 104 #[.pointer (some ⟨pb,0,none⟩),.agg #[.int .i64 3,.string X,.int .i64 Z,.slice A m c],.agg #[.int .i64 3,.string X',.int .i64 Z',.slice A' m c']] W2 (Ju pb lb rb el er (Gc el er l r mt) W2)):=EP ah;clear hv hu hX jc hm cQ ha cB l0 l1 ls cF ah lI H hn gz;by_cases hc:cn=dn
 ·rw[Ch hc]
  rw[CD hc]at Tk;obtain⟨⟨q,z⟩,KO⟩:∃p,Gc el er l r mt=p:=⟨_,rfl⟩;rw[KO]at ak ⊢;clear hc KO;go_enter_defers func60,ntmps60;go_wp2_with fail;refine ak.o.mono ?_;rintro e w5 ⟨rfl,bM,c5⟩;have qx:=EP bM;have C5:=EP c5;clear bM c5 ak;cases q;all_goals
   go_wp2_with fail;refine⟨_,results_tmp rfl _ _ _,rfl,qx.o,(b_.c_ LB.o).trans' C5.o (λ_ _ h=>h)⟩
 ·rw[Cg hc]
  rw[CF hc]at Tk;clear hc ak;go_enter_defers func60,ntmps60;go_wp2_with fail;refine⟨_,results_tmp rfl _ _ _,rfl,gE.o,b_.c_ LB.o⟩
theorem zng(n pb lb rb:Nat)(HC:Qh n pb lb rb)(a b a' b':Ty)(el er:List (Name × Nat))(mt:Nat)(S Su:Nat->Prop)(v uv:Value)(w:World)(hn:(Ty.fn a b).size<=n+1)(h6:n<=10000000000000)(H:Ly pb lb rb (.fn a b) (.fn a' b') el er mt S Su w)(hv:nc S w (.fn a b) v)(hu:nc Su w (.fn a' b') uv):Calls prog 60 #[.pointer (some ⟨pb,0,none⟩),v,uv] w (Ju pb lb rb el er (t_ el er (.fn a b) (.fn a' b') mt) w):=by
 obtain⟨K,X,Z,A,m,c,rfl,hK,-,-,hm,ha⟩:=hv.parts;obtain⟨K',X',Z',A',m',c',rfl,gB,-,-,cQ,cB⟩:=hu.parts;obtain rfl:m=2:=hm.symm;obtain rfl:m'=2:=cQ.symm;obtain rfl:K=4:=hK;obtain rfl:K'=4:=gB;obtain⟨l0,l1,ls,cF⟩:=IC w (.cells #[.int .i64 4,.string X,.int .i64 Z,.slice A 2 c] 37) (.cells #[.int .i64 4,.string X',.int .i64 Z',.slice A' 2 c'] 37);obtain⟨W2,iL⟩:∃W,(w.alloc (.cells #[.int .i64 4,.string X,.int .i64 Z,.slice A 2 c] 37)).alloc (.cells #[.int .i64 4,.string X',.int .i64 Z',.slice A' 2 c'] 37)=W:=⟨_,rfl⟩;rw[iL]at l0 l1 ls cF;obtain⟨p0,p1,p2,p3,-⟩:=n_ (show ar W2 w.heap.size 37 _ from l0);obtain⟨q0,q1,q2,q3,-⟩:=n_ (show ar W2 (w.heap.size+1) 37 _ from l1);have lI:(Ty.fn a b).size=q_ [a,b]+1:=by rw[Gv];rfl
 have ah:=Wn n pb lb rb HC (.fn a b) (.fn a' b') el er mt S Su _ _ W2 hn h6 (H.pi.below cF) (hv.al (λ_ h=>h) (λg hg=>cF.block g (H.s g hg).1)) (hu.al (λ_ h=>h) (λg hg=>cF.block g (H.su g hg).1))
  (λg hg=>⟨by have:=(H.s g hg).1;omega,(H.s g hg).2⟩) (λg hg=>⟨by have:=(H.su g hg).1;omega,(H.su g hg).2⟩) H.nt H.nu (by have:=H.l1;show el.length+q_ [a,b]<=_;omega) (by have:=H.l2;show er.length+q_ [a,b]<=_;omega) (by have:=H.l3;show mt+q_ [a,b]<=_;omega) rfl
 have LB:=EP cF;rw[zrT];have ak:Hid (Calls prog 104 #[.pointer (some ⟨pb,0,none⟩),.agg #[.int .i64 4,.string X,.int .i64 Z,.slice A 2 c],.agg #[.int .i64 4,.string X',.int .i64 Z',.slice A' 2 c']] W2 (Ju pb lb rb el er (Gc el er [a,b] [a',b'] mt) W2)):=EP ah;clear hv hu hm cQ ha cB l0 l1 ls cF ah lI H hn;obtain⟨⟨q,z⟩,KO⟩:∃p,Gc el er [a,b] [a',b'] mt=p:=⟨_,rfl⟩;rw[KO]at ak ⊢;clear KO;go_enter_defers func60,ntmps60;go_wp2_with fail;refine ak.o.mono ?_;rintro e w5 ⟨rfl,bM,c5⟩;have qx:=EP bM;have C5:=EP c5;clear bM c5 ak;go_wp2_with fail;refine⟨_,results_tmp rfl _ _ _,rfl,qx.o,(b_.c_ LB.o).trans' C5.o (λ_ _ h=>h)⟩
end
section
open Go.RowKit Lx Tx Go.Maps Go.WideMaps Go.Shelf
set_option maxRecDepth 100000
theorem zlP(n pb lb rb:Nat)(HC:Qh n pb lb rb)(x y:Name)(t1 u1:Ty)(el er:List (Name × Nat))(mt:Nat)(S Su:Nat->Prop)(v uv:Value)(w:World)(hn:(Ty.all x t1).size<=n+1)(h6:n<=10000000000000)(H:Ly pb lb rb (.all x t1) (.all y u1) el er mt S Su w)(hv:nc S w (.all x t1) v)(hu:nc Su w (.all y u1) uv):Calls prog 60 #[.pointer (some ⟨pb,0,none⟩),v,uv] w (Ju pb lb rb el er (t_ el er (.all x t1) (.all y u1) mt) w):=by
 obtain⟨K,X,Z,A,m,c,rfl,hK,hX,-,hm,ha⟩:=hv.parts;obtain⟨K',X',Z',A',m',c',rfl,gB,jc,-,cQ,cB⟩:=hu.parts;obtain rfl:m=1:=hm.symm;obtain rfl:m'=1:=cQ.symm;obtain rfl:K=5:=hK;obtain rfl:K'=5:=gB;have bA:X.size<=24:=by have:=J4 H.nt;rw[<-hX]at this;exact this
 have zZ:X'.size<=24:=by have:=J4 H.nu;rw[<-jc]at this;exact this
 have xN:X.data.toList=x:=by rw[hX];rfl
 have Tj:X'.data.toList=y:=by rw[jc];rfl
 obtain⟨l0,l1,ls,cF⟩:=IC w (.cells #[.int .i64 5,.string X,.int .i64 Z,.slice A 1 c] 37) (.cells #[.int .i64 5,.string X',.int .i64 Z',.slice A' 1 c'] 37);obtain⟨W2,iL⟩:∃W,(w.alloc (.cells #[.int .i64 5,.string X,.int .i64 Z,.slice A 1 c] 37)).alloc (.cells #[.int .i64 5,.string X',.int .i64 Z',.slice A' 1 c'] 37)=W:=⟨_,rfl⟩;rw[iL]at l0 l1 ls cF;have dj:=H.pi.below cF;have lI:(Ty.all x t1).size=q_ [t1]+1:=by rw[Gv];rfl
 obtain⟨p0,p1,p2,p3,-⟩:=n_ (show ar W2 w.heap.size 37 _ from l0);obtain⟨q0,q1,q2,q3,-⟩:=n_ (show ar W2 (w.heap.size+1) 37 _ from l1);have z0:W2.cell? ⟨pb,2,none⟩=some (.int .i64 (mt:Nat)):=dj.pr.cell 2;have z1:W2.frozen? ⟨pb,2,none⟩=false:=dj.pr.frozen 2;have ie:mt<=100000000000000:=by have:=H.l3;omega
 obtain⟨W3,TL⟩:∃W,W2.setCell ⟨pb,2,none⟩ (.int .i64 ((mt:Int)+1))=W:=⟨_,rfl⟩;have yB:ar W3 pb 118 #[.map (some lb),.map (some rb),.int .i64 ((mt:Int)+1)]:=by rw[<-TL];exact Cl W2 pb 2 _ _ _ dj.pr
 have zF:∀q,q≠pb->W3.heap[q]?=W2.heap[q]?:=λq hq=>by rw[<-TL];exact B8 W2 ⟨pb,2,none⟩ _ q hq
 have dy:W3.heap.size=w.heap.size+2:=by rw[<-TL];simp;exact ls
 have mK:∀g,PM pb lb rb g->g<w.heap.size:=H.pi.lt;have arJ:pb<w.heap.size:=mK _ (.inl rfl);have ai:=H.pi.ne;have uz:iT mkInt W3.drew lb el:=(dj.le.al (zF _ ai.1.symm)).al rfl;have tP:iT mkInt W3.drew rb er:=(dj.ri.al (zF _ ai.2.1.symm)).al rfl;have kQ:b_ (PM pb lb rb) w W3.drew:=by rw[<-TL];exact(((b_.c_ cF).setCell (p:=⟨pb,2,none⟩) (.inr (.inl rfl)) _)).drew
 have lZ:Hid (ar W3.drew pb 118 #[.map (some lb),.map (some rb),.int .i64 ((mt:Int)+1)]):=EP yB;have gR:Hid (ar W3.drew w.heap.size 37 #[.int .i64 5,.string X,.int .i64 Z,.slice A 1 c]):=EP ((zF _ (by omega)).trans l0);have UB0:Hid (ar W3.drew (w.heap.size+1) 37 #[.int .i64 5,.string X',.int .i64 Z',.slice A' 1 c']):=EP ((zF _ (by omega)).trans l1);have AI:Hid (∀W:World,ar W pb 118 #[.map (some lb),.map (some rb),.int .i64 ((mt:Int)+1)]->ar W w.heap.size 37 #[.int .i64 5,.string X,.int .i64 Z,.slice A 1 c] ->
  W.cell? ⟨pb,0,none⟩=some (.map (some lb))/\W.cell? ⟨w.heap.size,1,none⟩=some (.string X)/\W.cell? ⟨pb,2,none⟩=some (.int .i64 ((mt:Int)+1))):=EP λW h1 h2=>⟨h1.cell 0,h2.cell 1,h1.cell 2⟩
 have AH:Hid (∀W:World,ar W pb 118 #[.map (some lb),.map (some rb),.int .i64 ((mt:Int)+1)]->ar W (w.heap.size+1) 37 #[.int .i64 5,.string X',.int .i64 Z',.slice A' 1 c'] ->
  W.cell? ⟨pb,1,none⟩=some (.map (some rb))/\W.cell? ⟨w.heap.size+1,1,none⟩=some (.string X')/\W.cell? ⟨pb,2,none⟩=some (.int .i64 ((mt:Int)+1))):=EP λW h1 h2=>⟨h1.cell 1,h2.cell 1,h1.cell 2⟩
 have rp:el.length<100000000000000:=by have:=H.l1;omega
 have her:er.length<100000000000000:=by have:=H.l2;omega
 have zX:X.size<=maxLen:=by unfold maxLen;omega
 have zW:X'.size<=maxLen:=by unfold maxLen;omega
 have ta:=EP zX;have AM:=EP zW;have tp:=EP rp;have HER:=EP her;have vJ:=EP uz;have HRI:=EP tP;have jW:=EP kQ;have HV:=EP hv;have HU:=EP hu;have HH:=EP H;have eH:=EP ai;have xe:=EP xN;have xd:=EP Tj;have Yh:=EP lI;have HN:=EP hn;have au:=EP mK;have sS:=uz.canon;have sR:=tP.canon;have jh:=EP sS;have BG:=EP sR;have sp:W3.drew.heap.size=w.heap.size+2:=dy;rw[zry];obtain⟨⟨q,z⟩,KO⟩:∃p,Gc ((x,mt+1)::el) ((y,mt+1)::er) [t1] [u1] (mt+1)=p:=⟨_,rfl⟩;rw[KO];have Yk:=EP KO;clear hv hu hX jc ha cB l0 l1 ls cF dj yB zF uz tP kQ xN Tj KO sS sR H lI hn mK hm cQ bA zZ rp her zX zW ai;go_enter_defers func60,ntmps60;go_wp2_with fail;go_region_held3 (λW=>W.cell? ⟨pb,0,none⟩=some (.map (some lb))/\W.cell? ⟨w.heap.size,1,none⟩=some (.string X)/\W.cell? ⟨pb,2,none⟩=some (.int .i64 ((mt:Int)+1))) (first|(with_reducible exact AI.o _ lZ.o gR.o)|(with_reducible exact AI.o _ lY.o fN.o))
  ((first|((with_reducible refine(Vr lb el X (mt+1) ((mt:Int)+1) rfl W3.drew vJ.o ta.o tp.o).mono ?_);rintro e w4 ⟨rfl,AE,mp4,c4⟩;unfold RT;have lY:=EP (lZ.o.iF c4 (by have:=eH.o;unfold only;omega));have fN:=EP (gR.o.iF c4 (by have:=au.o lb (.inr (.inl rfl));unfold only;omega));have vW:=EP AE;have XW:=EP mp4;have C4:=EP c4;clear AE mp4 c4)))
 have dz:=C4.o.size;rw[sp]at dz;have arD:rb<w.heap.size:=au.o rb (.inr (.inr rfl));have arX:lb<w.heap.size:=au.o lb (.inr (.inl rfl));have AJ:Hid (ar w4.drew pb 118 #[.map (some lb),.map (some rb),.int .i64 ((mt:Int)+1)]):=EP lY.o;have AG:Hid (ar w4.drew (w.heap.size+1) 37 #[.int .i64 5,.string X',.int .i64 Z',.slice A' 1 c']):=EP (show ar w4 _ _ _ from UB0.o.iF C4.o (by unfold only;omega));have RI4:Hid (iT mkInt w4.drew rb er):=EP ((HRI.o.al (C4.o.block _ (by rw[sp];omega) (by have:=eH.o;unfold only;omega))).al rfl);go_wp2_with fail;go_region_held3 (λW=>W.cell? ⟨pb,1,none⟩=some (.map (some rb))/\W.cell? ⟨w.heap.size+1,1,none⟩=some (.string X')/\W.cell? ⟨pb,2,none⟩=some (.int .i64 ((mt:Int)+1))) (first|(with_reducible exact AH.o _ AJ.o AG.o)|(with_reducible exact AH.o _ PB2.o UB2.o))
  ((first|((with_reducible refine(Vr rb er X' (mt+1) ((mt:Int)+1) rfl w4.drew RI4.o AM.o HER.o).mono ?_);rintro e w5 ⟨rfl,AD,nX,c5⟩;unfold RT;have PB2:=EP (AJ.o.iF c5 (by have:=eH.o;unfold only;omega));have UB2:=EP (AG.o.iF c5 (by unfold only;omega));have BQ:=EP AD;have vh:=EP nX;have C5:=EP c5;clear AD nX c5)))
 have tN:w4.drew.heap.size=w4.heap.size:=rfl;have eI:=C5.o.size;rw[tN]at eI;have uO:∀g,g<w4.heap.size->g≠rb->w5.heap[g]?=w4.heap[g]?:=λg h1 h2=>C5.o.block g h1 h2;have bM:FK pb lb rb ((x,mt+1)::el) ((y,mt+1)::er) (mt+1) w5 :=
  ⟨PB2.o,by have:=XW.o.al (uO lb (by omega) eH.o.2.2);rw[xe.o]at this;exact this,by have:=vh.o;rw[xd.o]at this;exact this,eH.o⟩
 have bE:b_ (PM pb lb rb) w w5:=(jW.o.trans' C4.o (λg _ h=>.inr (.inl h))).trans' (b:=w4) ⟨C5.o.os,C5.o.tape,C5.o.output,C5.o.size,C5.o.block⟩ (λg _ h=>.inr (.inr h));have mO:ar w5 w.heap.size 37 #[.int .i64 5,.string X,.int .i64 Z,.slice A 1 c]:=(uO _ (by omega) (by omega)).trans fN.o;obtain⟨a0,a1,a2,a3,-⟩:=n_ mO;obtain⟨b0,b1,b2,b3,-⟩:=n_ UB2.o;have ah:=Wn n pb lb rb HC (.all x t1) (.all y u1) ((x,mt+1)::el) ((y,mt+1)::er) (mt+1) S Su _ _ w5 HN.o h6 bM (HV.o.al (λ_ h=>h) (λg hg=>bE.block g (HH.o.s g hg).1 (HH.o.s g hg).2)) (HU.o.al (λ_ h=>h) (λg hg=>bE.block g (HH.o.su g hg).1 (HH.o.su g hg).2))
  (λg hg=>⟨by have:=(HH.o.s g hg).1;omega,(HH.o.s g hg).2⟩) (λg hg=>⟨by have:=(HH.o.su g hg).1;omega,(HH.o.su g hg).2⟩) HH.o.nt HH.o.nu (by have:=HH.o.l1;have:=Yh.o;show el.length+1+q_ [t1]<=_;omega) (by have:=HH.o.l2;have:=Yh.o;show er.length+1+q_ [t1]<=_;omega) (by have:=HH.o.l3;have:=Yh.o;show mt+1+q_ [t1]<=_;omega) rfl
 change Calls _ _ _ _ (Ju pb lb rb _ _ (Gc ((x,mt+1)::el) ((y,mt+1)::er) [t1] [u1] (mt+1)) w5)at ah
 rw[Yk.o]at ah;have ak:=EP ah;have HC5:=EP bE;clear ah bE bM mO;go_wp2_with fail;refine ak.o.mono ?_;rintro e w6 ⟨rfl,wA,c6⟩;have dS:=c6.size;have BP:=EP (BQ.o.al (w':=w6) (λk h1 h2=>c6.block k (by have:=BQ.o.2.2.2.lt;rw[tN]at *;omega) (λh=>by have:=au.o k h;rw[tN]at *;omega)));have tw:=EP (vW.o.al (w':=w6) (λk h1 h2=>(c6.block k (by have:=vW.o.2.2.2.lt;rw[sp]at *;omega) (λh=>by have:=au.o k h;rw[sp]at *;omega)).trans (uO k (by have:=vW.o.2.2.2.lt;rw[sp]at *;omega) (by rw[sp]at *;omega))));have tO:=wA.ri;have oQ:=wA.le;rw[<-xd.o]at tO;rw[<-xe.o]at oQ;have HP6:=EP wA;have C6:=EP c6;have ZT:=EP tO;have Bo:=EP oQ;clear wA c6 tO oQ ak;go_wp2_with fail;refine leaves_cons (f:=151) (args:=#[.pointer (some ⟨w4.heap.size+3,0,none⟩),.pointer (some ⟨w4.heap.size+2,0,none⟩),.pointer (some ⟨w4.heap.size,0,none⟩),.pointer (some ⟨w4.heap.size+1,0,none⟩)]) (by simp) (by simp[go_sem]) ?_;refine(V8 w4.heap.size rb er X' (mt+1) .returning w6 BP.o ZT.o BG.o AM.o HER.o).mono ?_;rintro e u' w7 ⟨rfl,rfl,m7,b7⟩;have jL:=b7.size;refine leaves_cons (f:=151) (args:=#[.pointer (some ⟨W3.heap.size+3,0,none⟩),.pointer (some ⟨W3.heap.size+2,0,none⟩),.pointer (some ⟨W3.heap.size,0,none⟩),.pointer (some ⟨W3.heap.size+1,0,none⟩)]) (by simp[settle]) (by simp[go_sem]) ?_;refine(V8 W3.heap.size lb el X (mt+1) .returning w7 (tw.o.al (λk h1 h2=>b7.block k (by have:=tw.o.2.2.2.lt;rw[sp]at *;omega) (by rw[sp]at *;unfold only;omega))) (Bo.o.al (b7.block _ Bo.o.lt eH.o.2.2)) jh.o ta.o tp.o).mono ?_;rintro e u' w8 ⟨rfl,rfl,m8,b8⟩;have WM:=b8.size;have ai:=eH.o;refine⟨_,results_tmp rfl _ _ _,rfl,⟨?_,m8,m7.al (b8.block _ m7.lt (by unfold only;omega)),ai⟩,?_⟩
 ·exact(HP6.o.pr.iF b7 (by unfold only;omega)).iF b8 (by unfold only;omega)
 ·exact((HC5.o.trans C6.o).trans' b7 (λg _ h=>.inr (.inr h))).trans' b8 (λg _ h=>.inr (.inl h))
set_option maxRecDepth 100000
theorem zqX(pb lb rb:Nat)(n:Nat):Qh n pb lb rb:=by
 induction n with
 |zero=>intro t u el er m S Su v uv w hn;rw[Gv]at hn;omega
 |succ n ih =>
  intro t u el er m S Su v uv w hn h6 hp hv hu hS aO iW bT h1 h2 h3;have XE:n<=10000000000000:=by omega
  by_cases hk:kd t≠kd u\/(kids t).length≠(kids u).length
  ·obtain⟨K,X,Z,A,m1,c,rfl,hK,-,-,hm,-⟩:=hv.parts
   obtain⟨K',X',Z',A',tB,c',rfl,gB,-,-,cQ,-⟩:=hu.parts;rw[zpg el er t u m hk];exact zlM pb lb rb el er m K K' Z Z' X X' A A' m1 tB c c' w hp (by
    rcases hk with hk|hk
    ·left;rw[hK,gB];exact λe=>hk (by omega)
    ·right;omega)
  ·have H:Ly pb lb rb t u el er m S Su w:=⟨hp,hS,aO,iW,bT,h1,h2,h3⟩
   have aU:kd t=kd u:=El λe=>hk (.inl e);have bZ:(kids t).length=(kids u).length:=El λe=>hk (.inr e);cases t with
   |var x =>
    cases u with
    |var y =>
     have hX:=J4 iW;have jc:=J4 bT;obtain⟨K,X,Z,A,m1,c,rfl,hK,hXX,-,hm,-⟩:=hv.parts;obtain⟨K',X',Z',A',tB,c',rfl,gB,zY,-,cQ,-⟩:=hu.parts;obtain rfl:K=1:=hK;obtain rfl:K'=1:=gB;obtain rfl:m1=tB:=by have e1:0=m1:=hm;have e2:0=tB:=cQ;omega
     rw[zne];have:=zlN pb lb rb el er m Z Z' X X' A A' m1 c c' w hp (by rw[hXX];exact hX) (by rw[zY];exact jc);rw[show X.data.toList=x by rw[hXX];rfl,show X'.data.toList=y by rw[zY];rfl]at this;exact this
    |_=>simp[kd]at aU
   |mt k =>
    cases u with
    |mt j =>
     obtain⟨K,X,Z,A,m1,c,rfl,hK,-,hZ,hm,-⟩:=hv.parts;obtain⟨K',X',Z',A',tB,c',rfl,gB,-,hZ',cQ,-⟩:=hu.parts;obtain rfl:K=2:=hK;obtain rfl:K'=2:=gB;obtain rfl:m1=tB:=by have e1:0=m1:=hm;have e2:0=tB:=cQ;omega
     rw[zqj];have:=znf pb lb rb el er m Z Z' X X' A A' m1 c c' w hp;rw[show(Z==Z')=decide (k=j) by rw[hZ,hZ'];exact DM.2 (by simp[nn];omega)]at this;exact this
    |_=>simp[kd]at aU
   |h_ cn l =>
    cases u with
    |h_ dn r=>exact zlO n pb lb rb ih cn dn l r el er m S Su v uv w hn XE H hv hu bZ
    |_=>simp[kd]at aU
   |fn a b =>
    cases u with
    |fn a' b'=>exact zng n pb lb rb ih a b a' b' el er m S Su v uv w hn XE H hv hu
    |_=>simp[kd]at aU
   |all x t1 =>
    cases u with
    |all y u1=>exact zlP n pb lb rb ih x y t1 u1 el er m S Su v uv w hn XE H hv hu
    |_=>simp[kd]at aU
theorem zjl(t u:Ty)(S Su:Nat->Prop)(v uv:Value)(w:World)(hv:nc S w t v)(hu:nc Su w u uv)(hS:∀g,S g->g<w.heap.size)(aO:∀g,Su g->g<w.heap.size)(iW:Nm t)(bT:Nm u)(aA:t.size<=10000000000000):Calls prog 22 #[v,uv] w λe w'=>e=.returned (.bool (t_ [] [] t u 0).1)/\Below w.heap.size w w':=by
 obtain⟨K,X,Z,A,m,c,rfl,-,-,-,-,-⟩:=hv.parts;obtain⟨K',X',Z',A',m',c',rfl,-,-,-,-,-⟩:=hu.parts;have dU:∀w,(Instr.makeMap 116 none).run prog w=.ok (.map (some w.heap.size)) (w.alloc (.map #[] 0)):=λ_=>rfl;obtain⟨l0,l1,l2,l3,ls,lb⟩:=MS w (.cells #[.int .i64 K,.string X,.int .i64 Z,.slice A m c] 37) (.cells #[.int .i64 K',.string X',.int .i64 Z',.slice A' m' c'] 37) (.map #[] 0) (.map #[] 0);obtain⟨W4,jB⟩:∃W,(((w.alloc (.cells #[.int .i64 K,.string X,.int .i64 Z,.slice A m c] 37)).alloc (.cells #[.int .i64 K',.string X',.int .i64 Z',.slice A' m' c'] 37)).alloc (.map #[] 0)).alloc (.map #[] 0)=W:=⟨_,rfl⟩;rw[jB]at l0 l1 l2 l3 ls lb
 have ef:Below W4.heap.size W4 (W4.alloc (.cells #[.map (some (w.heap.size+1+1)),.map (some (w.heap.size+1+1+1)),.int .i64 0] 118)):=(Cc _ W4).alloc (BU _) _;have eI:=size_alloc W4 (.cells #[.map (some (w.heap.size+1+1)),.map (some (w.heap.size+1+1+1)),.int .i64 0] 118);have tW:FK (w.heap.size+4) (w.heap.size+1+1) (w.heap.size+1+1+1) [] [] 0 (W4.alloc (.cells #[.map (some (w.heap.size+1+1)),.map (some (w.heap.size+1+1+1)),.int .i64 0] 118)) :=
  ⟨by have:=BZ W4 (.cells #[.map (some (w.heap.size+1+1)),.map (some (w.heap.size+1+1+1)),.int .i64 0] 118);rw[ls]at this;exact this,
   iT.laid mkInt ((ef.block _ (by rw[ls];omega)).trans l2),iT.laid mkInt ((ef.block _ (by rw[ls];omega)).trans l3),by omega⟩
 have aQ:Below w.heap.size w (W4.alloc (.cells #[.map (some (w.heap.size+1+1)),.map (some (w.heap.size+1+1+1)),.int .i64 0] 118)):=lb.trans (ef.mono (by omega));have ah:=zqX (w.heap.size+4) (w.heap.size+1+1) (w.heap.size+1+1+1) t.size t u [] [] 0 S Su _ _ _ (BU _) aA tW (hv.al (λ_ h=>h) (λg hg=>aQ.block g (hS g hg))) (hu.al (λ_ h=>h) (λg hg=>aQ.block g (aO g hg)))
  (λg hg=>by have:=hS g hg;exact⟨by omega,λh=>by rcases h with h|h|h <;> omega⟩) (λg hg=>by have:=aO g hg;exact⟨by omega,λh=>by rcases h with h|h|h <;> omega⟩) iW bT (by simp;omega) (by simp;omega) (by omega)
 have ak:=EP ah;have lC:=EP aQ;have LS:=EP ls;obtain⟨p0,p1,p2,p3,-⟩:=n_ (show ar W4 w.heap.size 37 _ from l0);obtain⟨q0,q1,q2,q3,-⟩:=n_ (show ar W4 (w.heap.size+1) 37 _ from l1);obtain⟨⟨q,z⟩,KO⟩:∃p,t_ [] [] t u 0=p:=⟨_,rfl⟩;rw[KO]at ak ⊢;clear hv hu hS aO iW bT l0 l1 l2 l3 lb ef eI tW aQ ah KO;go_in;go_wp2_with fail;first
  |refine ak.o.mono ?_
  |(rw[LS.o];refine ak.o.mono ?_)
 rintro e w6 ⟨rfl,-,c6⟩;have YN:=EP (lC.o.trans (c6.toBelow (B:=w.heap.size) (by have:=LS.o;simp;omega) (λk hk h=>by rcases h with h|h|h <;> omega)));clear c6 ak;go_wp2_with fail;go_ret
 exact⟨rfl,YN.o⟩
structure Twin (el er:List (Name × Nat)) (xs ys:List Name) (ns:List Nat) (m:Nat):Prop where
 hl:∀x,(look x el).getD 0=((idx x xs).map λi=>ns.getD i 0).getD 0
 hr:∀x,(look x er).getD 0=((idx x ys).map λi=>ns.getD i 0).getD 0
 lx:xs.length=ns.length
 ly:ys.length=ns.length
 nd:ns.Nodup
 po:∀n∈ns,0<n/\n<=m
theorem Twin.more {el er:List (Name × Nat)} {xs ys:List Name} {ns:List Nat} {m m':Nat}(h:Twin el er xs ys ns m)(hm:m<=m'):Twin el er xs ys ns m' :=
 {h with po:=λn hn=>⟨(h.po n hn).1,Cm (h.po n hn).2 hm⟩ }
theorem zib(el:List (Name × Nat))(xs:List Name)(ns:List Nat)(h:∀x,(look x el).getD 0=((idx x xs).map λi=>ns.getD i 0).getD 0)(x:Name)(k:Nat)(z:Name):(look z ((x,k)::el)).getD 0=((idx z (x::xs)).map λi=>(k::ns).getD i 0).getD 0:=by
 rw[look,idx];by_cases hz:x=z
 ·rw[Ch hz,Ch hz.symm];rfl
 ·rw[Cg hz,Cg (λe=>hz e.symm),h z]
  cases idx z xs <;> rfl
theorem Twin.cons {el er:List (Name × Nat)} {xs ys:List Name} {ns:List Nat} {m:Nat}(h:Twin el er xs ys ns m)(x y:Name):Twin ((x,m+1)::el) ((y,m+1)::er) (x::xs) (y::ys) ((m+1)::ns) (m+1) where
 hl:=zib el xs ns h.hl x (m+1)
 hr:=zib er ys ns h.hr y (m+1)
 lx:=by simp[h.lx]
 ly:=by simp[h.ly]
 nd:=by
  rw[CO];exact⟨λhm=>by have:=(h.po _ hm).2;omega,h.nd⟩
 po n hn:=by
  rcases Cd.1 hn with rfl|hn
  ·omega
  ·have:=h.po n hn;omega
theorem zlQ(l:List Nat)(h:l.Nodup)(i j:Nat)(hi:i<l.length)(hj:j<l.length)(e:l.getD i 0=l.getD j 0):i=j:=by
 induction l generalizing i j with
 |nil=>simp at hi
 |cons a r ih =>
  rw[CO]at h;have key:∀q,q<r.length->r.getD q 0∈r:=λq hq=>by rw[Du,BY hq];exact CS hq
  cases i with
  |zero =>
   cases j with
   |zero=>rfl
   |succ j=>exact(h.1 (by rw[show a=r.getD j 0 from e];exact key j (by simpa using hj))).elim
  |succ i =>
   cases j with
   |zero=>exact(h.1 (by rw[show a=r.getD i 0 from e.symm];exact key i (by simpa using hi))).elim
   |succ j=>rw[ih h.2 i j (by simpa using hi) (by simpa using hj) e]
theorem U5(xs:List Name):(l:List Ty)->(Fz xs l).length=l.length
 |[]=>by rw[Fz];rfl
 |t::r=>by rw[Fz,Ca,Ca,U5 xs r]
mutual
theorem Qc:(t:Ty)->∀(u:Ty)(el er:List (Name × Nat))(xs ys:List Name)(ns:List Nat)(m:Nat),Twin el er xs ys ns m->((t_ el er t u m).1=true↔db xs t=db ys u)
 |.var x,u,el,er,xs,ys,ns,m,h=>by
  cases u with
  |var y =>
   rw[zne,db,db,h.hl,h.hr];show decide _=true↔_;rw[EM];cases hi:idx x xs with
   |none =>
    cases hj:idx y ys with
    |none=>simp
    |some j =>
     have af:=Qg y ys j hj;rw[h.ly]at af;have hp:=(h.po (ns.getD j 0) (by rw[Du,BY af];exact CS af)).1;show(0=ns.getD j 0/\(0<0\/x=y))↔Dt.fv x=Dt.bv j;constructor
     ·rintro⟨e,_⟩;omega
     ·intro e;cases e
   |some i =>
    have mL:=Qg x xs i hi;rw[h.lx]at mL;have tW:=(h.po (ns.getD i 0) (by rw[Du,BY mL];exact CS mL)).1;cases hj:idx y ys with
    |none =>
     show(ns.getD i 0=0/\(0<ns.getD i 0\/x=y))↔Dt.bv i=Dt.fv y;constructor
     ·rintro⟨e,_⟩;omega
     ·intro e;cases e
    |some j =>
     have af:=Qg y ys j hj;rw[h.ly]at af;show(ns.getD i 0=ns.getD j 0/\(0<ns.getD i 0\/x=y))↔Dt.bv i=Dt.bv j;constructor
     ·rintro⟨e,_⟩
      rw[zlQ ns h.nd i j mL af e]
     ·intro e
      injection e with e;subst e;exact⟨rfl,.inl tW⟩
  |mt k=>simp only[t_,db];cases idx x xs <;> simp
  |h_ c l=>simp only[t_,db];cases idx x xs <;> simp
  |fn a b=>simp only[t_,db];cases idx x xs <;> simp
  |all y s=>simp only[t_,db];cases idx x xs <;> simp
 |.mt n,u,el,er,xs,ys,ns,m,h=>by
  cases u with
  |mt k=>rw[zqj,db,db];simp
  |var y=>simp only[t_,db];cases idx y ys <;> simp
  |h_ c l=>simp[t_,db]
  |fn a b=>simp[t_,db]
  |all y s=>simp[t_,db]
 |.h_ c l,u,el,er,xs,ys,ns,m,h=>by
  cases u with
  |h_ d r =>
   rw[t_,db,db];by_cases hc:l.length=r.length/\c=d
   ·rw[Ch hc,znh l r el er xs ys ns m h hc.1,hc.2]
    constructor
    ·intro e;rw[e]
    ·intro e;injection e
   ·rw[Cg hc]
    constructor
    ·intro e;cases e
    ·intro e
     injection e with e1 e2;refine(hc ⟨?_,e1⟩).elim;have:=Cp List.length e2;rwa [U5,U5]at this
  |var y=>simp only[t_,db];cases idx y ys <;> simp
  |mt k=>simp[t_,db]
  |fn a b=>simp[t_,db]
  |all y s=>simp[t_,db]
 |.fn a b,u,el,er,xs,ys,ns,m,h=>by
  cases u with
  |fn a' b' =>
   rw[t_,db,db];have h1:=Qc a a' el er xs ys ns m h;have hm:=(Px a el er a' m).1;have h2:=Qc b b' el er xs ys ns (t_ el er a a' m).2 (h.more hm);by_cases hq:(t_ el er a a' m).1=true
   ·rw[Ch hq,h2,h1.1 hq]
    constructor
    ·intro e;rw[e]
    ·intro e;injection e
   ·rw[Cg hq]
    constructor
    ·intro e;cases e
    ·intro e;injection e with e1 _;exact(hq (h1.2 e1)).elim
  |var y=>simp only[t_,db];cases idx y ys <;> simp
  |mt k=>simp[t_,db]
  |h_ c l=>simp[t_,db]
  |all y s=>simp[t_,db]
 |.all x t,u,el,er,xs,ys,ns,m,h=>by
  cases u with
  |all y s =>
   rw[t_,db,db,Qc t s _ _ (x::xs) (y::ys) ((m+1)::ns) (m+1) (h.cons x y)];constructor
   ·intro e;rw[e]
   ·intro e;injection e
  |var y=>simp only[t_,db];cases idx y ys <;> simp
  |mt k=>simp[t_,db]
  |h_ c l=>simp[t_,db]
  |fn a b=>simp[t_,db]
theorem znh:(l:List Ty)->∀(r:List Ty)(el er:List (Name × Nat))(xs ys:List Name)(ns:List Nat)(m:Nat),Twin el er xs ys ns m->l.length=r.length->((Gc el er l r m).1=true↔Fz xs l=Fz ys r)
 |[],r,el,er,xs,ys,ns,m,h,hl=>by
  cases r with
  |nil=>simp[Gc,Fz]
  |cons b r=>simp at hl
 |a::l,r,el,er,xs,ys,ns,m,h,hl=>by
  cases r with
  |nil=>simp at hl
  |cons b r =>
   rw[Gc,Fz,Fz];have h1:=Qc a b el er xs ys ns m h;have hm:=(Px a el er b m).1;have h2:=znh l r el er xs ys ns (t_ el er a b m).2 (h.more hm) (by simpa using hl);by_cases hq:(t_ el er a b m).1=true
   ·rw[Ch hq,h2,h1.1 hq]
    constructor
    ·intro e;rw[e]
    ·intro e;injection e
   ·rw[Cg hq]
    constructor
    ·intro e;cases e
    ·intro e;injection e with e1 _;exact(hq (h1.2 e1)).elim
end
theorem JA(t u:Ty):(t_ [] [] t u 0).1=true↔db [] t=db [] u :=
 Qc t u [] [] [] [] [] 0 ⟨λ_=>rfl,λ_=>rfl,rfl,rfl,Dr,λ_ h=>(CI h).elim⟩
end
end Go.Proofs.YtfafilmklhnngaaGreatDoor
