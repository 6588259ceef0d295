import Derived.Test.YtfafilmklhnngaaGreatDoorBkAD
import Derived.Test.YtfafilmklhnngaaGreatDoorBkZ
import Derived.Lib.SliceRun
set_option maxHeartbeats 12800000
namespace Go.Proofs.YtfafilmklhnngaaGreatDoor
open Go.RowKit Lx Tx Go.Maps Go.WideMaps Go.Shelf
set_option maxRecDepth 100000
theorem zjz {w:World} {base b:Nat} {e:TypeId}(h:w.heap[b]?=some (.cells #[] e (0,0)))(hb:base<=b):w.ownsRow base e 4 (.slice (some ⟨b,0,none⟩) 0 0) 0 [] :=
 ⟨rfl,.inr ⟨b,0,#[],rfl,hb,h,Ai _,by unfold maxLen;omega,rfl,rfl⟩⟩
theorem ziv(A:Option Addr)(m cp:Nat)(vs:List Value)(w:World)(h0:A=none->m=0)(hl:vs.length=m*4)(hc:∀ad,A=some ad->∀w':World,Below w.heap.size w w'->∀j u,vs[j]?=some u->w'.cell? (ad.add j)=some u)(h1:∀u∈vs,u.oneCell'=true)(hm:m<=1000000):Calls Tryz.prog 135 #[.slice A m cp] w λe w'=>∃A' c',e=.returned (.slice A' m c')/\w'.ownsRow w.heap.size 37 4 (.slice A' m c') m vs/\Below w.heap.size w w':=by
 obtain⟨i0,bm,bO,bD,bj⟩:=info_parts zjN;have HC:=CS hc;have HL:=CS hl;have H1:=CS h1;clear hc hl h1;cases A with
 |none =>
  obtain rfl:=h0 rfl;have heq:(binOp .eql 35 (.slice none 0 cp) (.slice none 0 0)).run Tryz.prog w=.ok (.bool true) w:=Lib.run_eql_slice_nil w _ 37 none 0 cp 0 0 Tryz.underlying35;have uP:Hid (vs=[]):=CS (by have:=HL.out;simpa using this);go_enter Tryz.func135,Tryz.ntmps135
  go_wp2_with fail
  go_ret
  exact⟨none,0,rfl,⟨by rw[uP.out];rfl,.inl ⟨rfl,rfl⟩⟩,Below.refl _ w⟩
 |some ad =>
  clear h0;have heq:(binOp .eql 35 (.slice (some ad) m cp) (.slice none 0 0)).run Tryz.prog w=.ok (.bool false) w:=Lib.run_eql_slice_nil w _ 37 (some ad) m cp 0 0 Tryz.underlying35;go_enter Tryz.func135,Tryz.ntmps135
  go_wp2_with (at_builtin;refine wpList_append_own_at _ rfl (.tmp 5) (.tmp 6) 35 rfl w.heap.size 37 i0 _ 4 56 Tryz.underlying35 bm bO bD bj rfl (by decide) _ 0 [] rfl (zjz (alloc_at _ _ _ rfl) (Ai _)) ad m cp vs rfl HL.out (HC.out ad rfl _ ((Below.refl _ w).alloc (Ai _) _)) H1.out (by unfold maxLen;omega) (by omega) (by simp) ?_;intro v2 w5 aj ae _ aS;obtain⟨A2,c2,rfl⟩:=zam aj;have cV:=CS aj;have bg:=CS ae;have eR:=CS aS;clear aj ae aS)
  go_ret
  rw[Bo,AL]at cV
  exact⟨A2,c2,rfl,cV.out,((Below.refl _ w).alloc (Ai _) _).grown bg.out (by simp) (λk hk=>by injection hk with hk;rw[<-hk];exact Ai _)⟩
end Go.Proofs.YtfafilmklhnngaaGreatDoor
namespace Go.Proofs.YtfafilmklhnngaaGreatDoor
open Go.RowKit Lx Tx Go.Maps Go.WideMaps Go.Shelf
set_option maxRecDepth 100000
mutual
def Tx.Ty.fas:Ty->Nat
 |.var _=>0
 |.mt _=>0
 |.con _ l=>fasL l
 |.fn a b=>a.fas+b.fas
 |.all _ t=>t.fas+1
def fasL:List Ty->Nat
 |[]=>0
 |t::r=>t.fas+fasL r
end
theorem zfE(t:Ty):t.fas=fasL (kids t)+(if kd t=5 then 1 else 0):=by
 cases t <;> rw[Ty.fas,kids] <;> simp[fasL,kd]
theorem zlY(l:List Ty)(t:Ty):fasL (l++[t])=fasL l+t.fas:=by
 induction l with
 |nil=>simp[fasL]
 |cons a r ih=>rw[AE,fasL,fasL,ih];omega
theorem zhi(l:List Ty)(i:Nat)(u:Ty)(hu:∃hi:i<l.length,l[i]=u):fasL (l.take (i+1))=fasL (l.take i)+u.fas:=by
 obtain⟨hi,rfl⟩:=hu;rw[zb5 l i hi,zlY]
theorem zeR(l:List Ty)(i:Nat):fasL (l.take i)<=fasL l:=by
 induction l generalizing i with
 |nil=>simp
 |cons t r ih =>
  cases i with
  |zero=>simp[fasL]
  |succ i=>rw[AZ,fasL,fasL];have:=ih i;omega
section
variable {σ:Type}
mutual
def chg(bind:Name->σ->Name × σ)(leaf:Ty->Ty)(env:List (Name × Name)):Ty->σ->Ty × σ
 |.var x,s=>(((look x env).map Ty.var).getD (leaf (.var x)),s)
 |.mt n,s=>(leaf (.mt n),s)
 |.con c l,s=>(.con c (chgL bind leaf env l s).1,(chgL bind leaf env l s).2)
 |.fn a b,s=>(.fn (chg bind leaf env a s).1 (chg bind leaf env b (chg bind leaf env a s).2).1,(chg bind leaf env b (chg bind leaf env a s).2).2)
 |.all x t,s=>(.all (bind x s).1 (chg bind leaf ((x,(bind x s).1)::env) t (bind x s).2).1,(chg bind leaf ((x,(bind x s).1)::env) t (bind x s).2).2)
def chgL(bind:Name->σ->Name × σ)(leaf:Ty->Ty)(env:List (Name × Name)):List Ty->σ->List Ty × σ
 |[],s=>([],s)
 |t::r,s=>((chg bind leaf env t s).1::(chgL bind leaf env r (chg bind leaf env t s).2).1,(chgL bind leaf env r (chg bind leaf env t s).2).2)
end
theorem zdz(bind:Name->σ->Name × σ)(leaf:Ty->Ty)(env:List (Name × Name))(l:List Ty)(t:Ty)(s:σ):chgL bind leaf env (l++[t]) s=((chgL bind leaf env l s).1++[(chg bind leaf env t (chgL bind leaf env l s).2).1],(chg bind leaf env t (chgL bind leaf env l s).2).2):=by
 induction l generalizing s with
 |nil=>rw[AL,chgL,chgL,chgL];rfl
 |cons a r ih=>rw[AE,chgL,chgL,ih];rfl
theorem zco(bind:Name->σ->Name × σ)(leaf:Ty->Ty)(env:List (Name × Name))(l:List Ty)(s:σ):(chgL bind leaf env l s).1.length=l.length:=by
 induction l generalizing s with
 |nil=>rw[chgL]
 |cons a r ih=>rw[chgL,Ao,Ao,ih]
structure InvC (I:Nat->σ->World->Prop) (K:Nat->Prop):Prop where
 mono:∀c c' s w,I c s w->c<=c'->I c' s w
 lt:∀c s w,I c s w->∀g,K g->g<w.heap.size
 keep:∀c s w w',I c s w->w.heap.size<=w'.heap.size->(∀g,K g->w'.heap[g]?=w.heap[g]?)->I c s w'
def zeS(kb:Nat)(cb:Array Value)(I:Nat->σ->World->Prop)(M:Nat->Prop)(bind:Name->σ->Name × σ):Prop :=
 ∀(c:Nat) (s:σ) (X:ByteArray) (w:World),I c s w->X.size<=24->c<10000000 ->
  Calls Tryz.prog kb (#[.string X]++cb) w λe w'=>e=.returned (.string ⟨(bind X.data.toList s).1.toArray⟩)/\I (c+1) (bind X.data.toList s).2 w'/\Chg M w w'
def zdT(kl:Nat)(cl:Array Value)(I:Nat->σ->World->Prop)(M Su:Nat->Prop)(leaf:Ty->Ty):Prop :=
 ∀(c:Nat) (s:σ) (t:Ty) (S:Nat->Prop) (v:Value) (w:World),I c s w->RdV S w t v->(∀g,S g->g<w.heap.size)->kd t=1\/kd t=2->Nm t ->
  Calls Tryz.prog kl (#[v]++cl) w λe w'=>∃k x z a m p,e=.returned (.agg #[.int .i64 k,.string x,.int .i64 z,.slice a m p])/\RdV Su w' (leaf t) (.agg #[.int .i64 k,.string x,.int .i64 z,.slice a m p])/\I c s w'/\Chg M w w'
def CPst(mb:Nat)(I:Nat->σ->World->Prop)(M Su:Nat->Prop)(env:List (Name × Name))(c:Nat)(p:Ty × σ)(w:World)(e:Ending)(w':World):Prop :=
 ∃k x z a m q,e=.returned (.agg #[.int .i64 k,.string x,.int .i64 z,.slice a m q])/\RdV (λg=>Su g\/(w.heap.size<=g/\g<w'.heap.size)) w' p.1 (.agg #[.int .i64 k,.string x,.int .i64 z,.slice a m q])/\I c p.2 w'/\MapE mkTy w' mb env/\Chg (λg=>M g\/g=mb) w w'
def zkL(n kb kl:Nat)(cb cl:Array Value)(mb:Nat)(I:Nat->σ->World->Prop)(M Su:Nat->Prop)(bind:Name->σ->Name × σ)(leaf:Ty->Ty):Prop :=
 ∀(c:Nat) (s:σ) (env:List (Name × Name)) (t:Ty) (S:Nat->Prop) (v:Value) (w:World),t.size<=n->n<=1000000 ->
  I c s w->MapE mkTy w mb env->RdV S w t v->(∀g,S g->g<w.heap.size/\¬M g/\g≠mb)->Nm t->c+t.fas<=10000000->env.length+t.size<=100000000 ->
  Calls Tryz.prog 89 #[v,.map (some mb),fnV kb cb,fnV kl cl] w (CPst mb I M Su env (c+t.fas) (chg bind leaf env t s) w)
end
theorem zlZ {σ:Type}(kb kl:Nat)(cb cl:Array Value)(mb:Nat)(I:Nat->σ->World->Prop)(K M Su:Nat->Prop)(bind:Name->σ->Name × σ)(leaf:Ty->Ty)(hI:InvC I K)(dy:∀g,M g->K g)(bX:∀g,Su g->K g)(dp:¬K mb)
  (el:∀args w,(callFunc kl args).run Tryz.prog w=.ok (.enter kl args) w)(HL:zdT kl cl I M Su leaf)
  (c:Nat)(s:σ)(env:List (Name × Name))(x:Name)(S:Nat->Prop)(v:Value)(w:World)(hi:I c s w)(hm:MapE mkTy w mb env)(hv:RdV S w (.var x) v)(hS:∀g,S g->g<w.heap.size)(az:Nm (.var x)):Calls Tryz.prog 89 #[v,.map (some mb),fnV kb cb,fnV kl cl] w (CPst mb I M Su env c (chg bind leaf env (.var x) s) w):=by
 obtain⟨k,X,Z,A,m,cp,rfl,hk,hX,hZ,ed,-⟩:=hv.parts;have gY:=hm.lt;have bT:=zbo az;rw[<-hX]at bT
 have vS:X.data.toList=x:=by rw[hX];rfl
 obtain⟨l0,l1,ls,lb⟩:=zaZ w (.cells #[.int .i64 k,.string X,.int .i64 Z,.slice A m cp] 37) (.cells #[.int .i64 0,.string ⟨#[]⟩,.int .i64 0,.slice none 0 0] 37);have ah:=hI.lt c s w hi;have jV:=hI.keep c s w _ hi lb.size (λg hg=>lb.block g (ah g hg));have cB:=hm.keep (lb.block _ gY);have bV:=cB.getOk X (by unfold maxLen;omega);rw[zjU,vS]at bV
 have dK:=hv.keep (λ_ h=>h) (λg hg=>lb.block g (hS g hg));rw[chg]
 obtain rfl:k=1:=hk;have HI:=CS hi;have HM:=CS hm;have HV:=CS hv;have aC:=CS ah;have HS:=CS hS;have bK:=CS az;clear hi hm hv hX jV cB dK ah hS ls lb l0 l1 az hZ ed vS bT gY;unfold fnV;cases hl:look x env with
 |some y =>
  rw[hl]at bV
  replace bV:(Instr.lookup 160 (.map (some mb)) (.string X) true).run Tryz.prog ((w.alloc (.cells #[.int .i64 1,.string X,.int .i64 Z,.slice A m cp] 37)).alloc (.cells #[.int .i64 0,.string ⟨#[]⟩,.int .i64 0,.slice none 0 0] 37))=.ok (.tuple #[.agg #[.int .i64 1,.string ⟨y.toArray⟩,.int .i64 0,.slice none 0 0],.bool true]) _:=bV;clear hl;go_enter_defers Tryz.func89,Tryz.ntmps89
  go_wp2_with fail
  obtain⟨-,k1,-,ks,kb⟩:=zcw w (.cells #[.int .i64 1,.string X,.int .i64 Z,.slice A m cp] 37) (.cells #[.int .i64 1,.string ⟨y.toArray⟩,.int .i64 0,.slice none 0 0] 37) (.cells #[.int .i64 1,.string ⟨y.toArray⟩,.int .i64 0,.slice none 0 0] 37);refine⟨_,results_cell_row rfl _ _ (w.heap.size+1) 37 _ (0,0) _ rfl k1 Tryz.underlying37 rfl (by kernel_rfl),1,⟨y.toArray⟩,0,none,0,0,rfl,⟨none,0,rfl,trivial⟩,?_,?_,Chg.of_below kb⟩
  ·exact hI.mono _ _ _ _ (hI.keep _ _ _ _ HI.out kb.size (λg hg=>kb.block g (aC.out g hg))) (by omega)
  ·exact HM.out.keep (kb.block _ HM.out.lt)
 |none =>
  rw[hl]at bV
  replace bV:(Instr.lookup 160 (.map (some mb)) (.string X) true).run Tryz.prog ((w.alloc (.cells #[.int .i64 1,.string X,.int .i64 Z,.slice A m cp] 37)).alloc (.cells #[.int .i64 0,.string ⟨#[]⟩,.int .i64 0,.slice none 0 0] 37))=.ok (.tuple #[.agg #[.int .i64 0,.string ⟨#[]⟩,.int .i64 0,.slice none 0 0],.bool false]) _:=bV;clear hl;obtain⟨-,k1,-,ks,kb⟩:=zcw w (.cells #[.int .i64 1,.string X,.int .i64 Z,.slice A m cp] 37) (.cells #[.int .i64 0,.string ⟨#[]⟩,.int .i64 0,.slice none 0 0] 37) (.cells #[.int .i64 0,.string ⟨#[]⟩,.int .i64 0,.slice none 0 0] 37);have av:=CS (HL c s (.var x) S _ _ (hI.keep _ _ _ _ HI.out kb.size (λg hg=>kb.block g (aC.out g hg))) (HV.out.keep (λ_ h=>h) (λg hg=>kb.block g (HS.out g hg))) (λg hg=>by have:=HS.out g hg;omega) (.inl rfl) bK.out);have K1:=CS k1;have KS:=CS ks;have KB:=CS kb;clear k1 ks kb;go_enter_defers Tryz.func89,Tryz.ntmps89
  go_wp2_with fail
  refine av.out.mono ?_;rintro e w1 ⟨k',x',z',a',m',p',rfl,hr,eN,c1⟩;have HR:=CS hr;have kh:=CS eN;have C1:=CS c1;have aw:=Blk.chg K1.out c1 (λh=>by have:=aC.out _ (dy _ h);omega);obtain⟨q0,q1,q2,q3,t0,t1,t2,t3,di⟩:=zaa aw;have bN:=CS aw;clear hr eN c1 aw av;go_wp2_with fail
  have hb:=zah (.int .i64 k') (.string x') (.int .i64 z') (.slice a' m' p') bN.out;have qK:∀g,Su g->g≠w.heap.size+1:=λg hg=>by have:=aC.out _ (bX g hg);omega
  have hf:∀g,g≠w.heap.size+1->((((w1.setCell ⟨w.heap.size+1,0,none⟩ (.int .i64 k')).setCell ⟨w.heap.size+1,1,none⟩ (.string x')).setCell ⟨w.heap.size+1,2,none⟩ (.int .i64 z')).setCell ⟨w.heap.size+1,3,none⟩ (.slice a' m' p')).heap[g]?=w1.heap[g]?:=λg hg=>zat _ _ _ _ _ _ _ hg;have aD:((((w1.setCell ⟨w.heap.size+1,0,none⟩ (.int .i64 k')).setCell ⟨w.heap.size+1,1,none⟩ (.string x')).setCell ⟨w.heap.size+1,2,none⟩ (.int .i64 z')).setCell ⟨w.heap.size+1,3,none⟩ (.slice a' m' p')).heap.size=w1.heap.size:=by simp
  refine⟨_,results_cell_row rfl _ _ (w.heap.size+1) 37 _ (0,0) _ rfl hb Tryz.underlying37 rfl (by kernel_rfl),k',x',z',a',m',p',rfl,?_,?_,?_,?_⟩
  ·exact HR.out.keep (λ_ h=>.inl h) (λg hg=>hf g (qK g hg))
  ·exact hI.mono _ _ _ _ (hI.keep _ _ _ _ kh.out (BP aD.symm) (λg hg=>hf g (by have:=aC.out g hg;omega))) (by omega)
  ·have af:¬M mb:=λh=>dp (dy _ h)
   exact HM.out.keep ((hf mb (by have:=HM.out.lt;omega)).trans ((C1.out.block mb (by have:=HM.out.lt;have:=KS.out;omega) af).trans (KB.out.block mb HM.out.lt)))
  ·exact((Chg.of_below KB.out).trans' C1.out (λg _ h=>.inl h)).set4 _ _ _ _ (by omega)
end Go.Proofs.YtfafilmklhnngaaGreatDoor
namespace Go.Proofs.YtfafilmklhnngaaGreatDoor
open Go.RowKit Lx Tx Go.Maps Go.WideMaps Go.Shelf
set_option maxRecDepth 100000
theorem znS {σ:Type}(kb kl:Nat)(cb cl:Array Value)(mb:Nat)(I:Nat->σ->World->Prop)(K M Su:Nat->Prop)(bind:Name->σ->Name × σ)(leaf:Ty->Ty)(hI:InvC I K)(dy:∀g,M g->K g)(bX:∀g,Su g->K g)(dp:¬K mb)
  (el:∀args w,(callFunc kl args).run Tryz.prog w=.ok (.enter kl args) w)(HL:zdT kl cl I M Su leaf)
  (c:Nat)(s:σ)(env:List (Name × Name))(x:Nat)(S:Nat->Prop)(v:Value)(w:World)(hi:I c s w)(hm:MapE mkTy w mb env)(hv:RdV S w (.mt x) v)(hS:∀g,S g->g<w.heap.size)(az:Nm (.mt x)):Calls Tryz.prog 89 #[v,.map (some mb),fnV kb cb,fnV kl cl] w (CPst mb I M Su env c (chg bind leaf env (.mt x) s) w):=by
 obtain⟨k,X,Z,A,m,cp,rfl,hk,-,-,-,-⟩:=hv.parts;have ah:=hI.lt c s w hi;rw[chg]
 obtain rfl:k=2:=hk;have HI:=CS hi;have HM:=CS hm;have HV:=CS hv;have aC:=CS ah;have HS:=CS hS;have bK:=CS az;clear hi hm hv ah hS az;unfold fnV;obtain⟨-,k1,ks,bl⟩:=zaZ w (.cells #[.int .i64 2,.string X,.int .i64 Z,.slice A m cp] 37) (.cells #[.int .i64 0,.string ⟨#[]⟩,.int .i64 0,.slice none 0 0] 37);have av:=CS (HL c s (.mt x) S _ _ (hI.keep _ _ _ _ HI.out bl.size (λg hg=>bl.block g (aC.out g hg))) (HV.out.keep (λ_ h=>h) (λg hg=>bl.block g (HS.out g hg))) (λg hg=>by have:=HS.out g hg;omega) (.inr rfl) bK.out);have K1:=CS k1;have KS:=CS ks;have KB:=CS bl;clear k1 ks bl;go_enter_defers Tryz.func89,Tryz.ntmps89
 go_wp2_with fail
 refine av.out.mono ?_;rintro e w1 ⟨k',x',z',a',m',p',rfl,hr,eN,c1⟩;have HR:=CS hr;have kh:=CS eN;have C1:=CS c1;have aw:=Blk.chg K1.out c1 (λh=>by have:=aC.out _ (dy _ h);omega);obtain⟨q0,q1,q2,q3,t0,t1,t2,t3,di⟩:=zaa aw;have bN:=CS aw;clear hr eN c1 aw av;go_wp2_with fail
 have hb:=zah (.int .i64 k') (.string x') (.int .i64 z') (.slice a' m' p') bN.out;have qK:∀g,Su g->g≠w.heap.size+1:=λg hg=>by have:=aC.out _ (bX g hg);omega
 have hf:∀g,g≠w.heap.size+1->((((w1.setCell ⟨w.heap.size+1,0,none⟩ (.int .i64 k')).setCell ⟨w.heap.size+1,1,none⟩ (.string x')).setCell ⟨w.heap.size+1,2,none⟩ (.int .i64 z')).setCell ⟨w.heap.size+1,3,none⟩ (.slice a' m' p')).heap[g]?=w1.heap[g]?:=λg hg=>zat _ _ _ _ _ _ _ hg;have aD:((((w1.setCell ⟨w.heap.size+1,0,none⟩ (.int .i64 k')).setCell ⟨w.heap.size+1,1,none⟩ (.string x')).setCell ⟨w.heap.size+1,2,none⟩ (.int .i64 z')).setCell ⟨w.heap.size+1,3,none⟩ (.slice a' m' p')).heap.size=w1.heap.size:=by simp
 refine⟨_,results_cell_row rfl _ _ (w.heap.size+1) 37 _ (0,0) _ rfl hb Tryz.underlying37 rfl (by kernel_rfl),k',x',z',a',m',p',rfl,?_,?_,?_,?_⟩
 ·exact HR.out.keep (λ_ h=>.inl h) (λg hg=>hf g (qK g hg))
 ·exact hI.mono _ _ _ _ (hI.keep _ _ _ _ kh.out (BP aD.symm) (λg hg=>hf g (by have:=aC.out g hg;omega))) (by omega)
 ·have af:¬M mb:=λh=>dp (dy _ h)
  exact HM.out.keep ((hf mb (by have:=HM.out.lt;omega)).trans ((C1.out.block mb (by have:=HM.out.lt;have:=KS.out;omega) af).trans (KB.out.block mb HM.out.lt)))
 ·exact((Chg.of_below KB.out).trans' C1.out (λg _ h=>.inl h)).set4 _ _ _ _ (by omega)
set_option maxRecDepth 100000
theorem zhj {S:Nat->Prop} {w:World} :(l:List Ty)->∀g o,RowT S w l g o->∃vs,TyRow S w l vs/\(∀j u,vs[j]?=some u->w.cell? ⟨g,o+j,none⟩=some u)/\∀u∈vs,u.oneCell'=true
 |[],g,o,_=>⟨[],by rw[TyRow],by simp,by simp⟩
 |t::r,g,o,h=>by
  rw[RowT]at h
  obtain⟨⟨A,c,h4,ha⟩,hr⟩:=h;obtain⟨vs,h1,h2,h3⟩:=zhj r g (o+4) hr;refine⟨tyV t A c++vs,by rw[TyRow];exact⟨A,c,vs,rfl,ha,h1⟩,λj u hj=>?_,λu hu=>?_⟩
  ·rcases Ch j 4 with sX|sX
   ·rw[Bm (by show j<4;exact sX)]at hj
    obtain⟨e0,e1,e2,e3⟩:=h4;match j,hj,sX with
    |0,hj,_=>injection hj with hj;rw[<-hj];exact e0
    |1,hj,_=>injection hj with hj;rw[<-hj];exact e1
    |2,hj,_=>injection hj with hj;rw[<-hj];exact e2
    |3,hj,_=>injection hj with hj;rw[<-hj];exact e3
   ·rw[AW (by show 4<=j;exact sX)]at hj
    have:=h2 (j-4) u hj;rw[show o+4+(j-4)=o+j by omega]at this
    exact this
  ·rcases AA.1 hu with hu|hu
   ·simp only[tyV,An,AT,or_false]at hu
    rcases hu with rfl|rfl|rfl|rfl <;> rfl
   ·exact h3 u hu
theorem RowT.cells {S S':Nat->Prop} {w w':World}(hS:∀g,S g->S' g)(hk:∀g,S g->w'.heap[g]?=w.heap[g]?):(l:List Ty)->∀g o,(∀j,j<l.length*4->w'.cell? ⟨g,o+j,none⟩=w.cell? ⟨g,o+j,none⟩)->RowT S w l g o->RowT S' w' l g o
 |[],g,o,_,_=>by rw[RowT];trivial
 |t::r,g,o,hc,h=>by
  rw[RowT]at h ⊢
  obtain⟨⟨A,c,⟨e0,e1,e2,e3⟩,ha⟩,hr⟩:=h;have hl:(t::r).length*4=r.length*4+4:=by rw[Ao];omega
  refine⟨⟨A,c,⟨(hc 0 (by omega)).trans e0,(hc 1 (by omega)).trans e1,(hc 2 (by omega)).trans e2,(hc 3 (by omega)).trans e3⟩,ha.keep hS hk⟩,RowT.cells hS hk r g (o+4) (λj hj=>?_) hr⟩;have:=hc (j+4) (by omega);rw[show o+(j+4)=o+4+j by omega]at this
  exact this
def setO(w:World)(g o:Nat)(b0 b1 b2 b3:Value):World:=(((w.setCell ⟨g,o,none⟩ b0).setCell ⟨g,o+1,none⟩ b1).setCell ⟨g,o+2,none⟩ b2).setCell ⟨g,o+3,none⟩ b3
theorem zpe {g o o':Nat}(h:o≠o'):(⟨g,o,none⟩:Addr)≠⟨g,o',none⟩:=λe=>h (by injection e)
theorem other(w:World)(g o o':Nat)(u:Value)(h:o≠o'):(w.setCell ⟨g,o,none⟩ u).cell? ⟨g,o',none⟩=w.cell? ⟨g,o',none⟩:=World.cell?_setCell_other _ _ _ _ (zpe h)
theorem same(w:World)(a:Addr)(v u:Value)(h:w.cell? a=some u):(w.setCell a v).cell? a=some v:=World.cell?_setCell_same _ _ _ h
theorem zaW(w:World)(g o j:Nat)(b0 b1 b2 b3:Value)(hj:j<o\/o+4<=j):(setO w g o b0 b1 b2 b3).cell? ⟨g,j,none⟩=w.cell? ⟨g,j,none⟩ :=
 (other _ g (o+3) j _ (by omega)).trans ((other _ g (o+2) j _ (by omega)).trans ((other _ g (o+1) j _ (by omega)).trans (other _ g o j _ (by omega))))
theorem zeh(w:World)(g o:Nat)(b0 b1 b2 b3 a0 a1 a2 a3:Value)(h0:w.cell? ⟨g,o,none⟩=some a0)(h1:w.cell? ⟨g,o+1,none⟩=some a1)(h2:w.cell? ⟨g,o+2,none⟩=some a2)(h3:w.cell? ⟨g,o+3,none⟩=some a3):(setO w g o b0 b1 b2 b3).cell? ⟨g,o,none⟩=some b0/\(setO w g o b0 b1 b2 b3).cell? ⟨g,o+1,none⟩=some b1/\(setO w g o b0 b1 b2 b3).cell? ⟨g,o+2,none⟩=some b2/\(setO w g o b0 b1 b2 b3).cell? ⟨g,o+3,none⟩=some b3:=by
 refine⟨?_,?_,?_,?_⟩
 ·exact(other _ g (o+3) o _ (by omega)).trans ((other _ g (o+2) o _ (by omega)).trans ((other _ g (o+1) o _ (by omega)).trans (same _ _ _ _ h0)))
 ·exact(other _ g (o+3) (o+1) _ (by omega)).trans ((other _ g (o+2) (o+1) _ (by omega)).trans (same _ _ _ a1 ((other _ g o (o+1) _ (by omega)).trans h1)))
 ·exact(other _ g (o+3) (o+2) _ (by omega)).trans (same _ _ _ a2 ((other _ g (o+1) (o+2) _ (by omega)).trans ((other _ g o (o+2) _ (by omega)).trans h2)))
 ·exact same _ _ _ a3 ((other _ g (o+2) (o+3) _ (by omega)).trans ((other _ g (o+1) (o+3) _ (by omega)).trans ((other _ g o (o+3) _ (by omega)).trans h3)))
theorem za7(w:World)(g o k:Nat)(b0 b1 b2 b3:Value)(hk:k≠g):(setO w g o b0 b1 b2 b3).heap[k]?=w.heap[k]?:=by
 unfold setO;exact(Below.heap_setCell _ ⟨g,o+3,none⟩ _ k hk).trans ((Below.heap_setCell _ ⟨g,o+2,none⟩ _ k hk).trans ((Below.heap_setCell _ ⟨g,o+1,none⟩ _ k hk).trans (Below.heap_setCell _ ⟨g,o,none⟩ _ k hk)))
theorem zaS(w:World)(g o:Nat)(b0 b1 b2 b3:Value):(setO w g o b0 b1 b2 b3).heap.size=w.heap.size:=by
 unfold setO;simp
theorem zdI(w:World)(g o:Nat)(a:Addr)(b0 b1 b2 b3:Value):(setO w g o b0 b1 b2 b3).frozen? a=w.frozen? a:=by
 unfold setO;simp
theorem Chg.setO {M:Nat->Prop} {w w':World} {g:Nat}(h:Chg M w w')(o:Nat)(b0 b1 b2 b3:Value)(hg:w.heap.size<=g\/M g):Chg M w (setO w' g o b0 b1 b2 b3) :=
 (((h.setCell (p:=⟨g,o,none⟩) hg _).setCell (p:=⟨g,o+1,none⟩) hg _).setCell (p:=⟨g,o+2,none⟩) hg _).setCell (p:=⟨g,o+3,none⟩) hg _
structure RowSt (R S:Nat->Prop) (w:World) (l done:List Ty) (g i:Nat):Prop where
 free:∀j,w.frozen? ⟨g,j,none⟩=false
 lt:g<w.heap.size
 new:RowT R w done g 0
 old:∀j (hj:j<l.length),i<=j->∃A c,Cell4 w l[j] A c g (j*4)/\Args S w l[j] A
theorem RowSt.keep {R R' S:Nat->Prop} {w w':World} {l done:List Ty} {g i:Nat}(h:RowSt R S w l done g i)(hR:∀g,R g->R' g)(hk:∀k,R k\/S k\/k=g->w'.heap[k]?=w.heap[k]?)(hs:w.heap.size<=w'.heap.size):RowSt R' S w' l done g i where
 free j:=(World.frozen?_of_block (hk g (.inr (.inr rfl)))).trans (h.free j)
 lt:=As h.lt hs
 new:=RowT.keep hR (λg hg=>hk g (.inl hg)) done g 0 (hk g (.inr (.inr rfl))) h.new
 old j hj hi:=by
  obtain⟨A,c,h1,h2⟩:=h.old j hj hi;exact⟨A,c,h1.keep (hk g (.inr (.inr rfl))),h2.keep (λ_ h=>h) (λg hg=>hk g (.inr (.inl hg)))⟩
theorem RowSt.put {R S:Nat->Prop} {w:World} {l done:List Ty} {g i:Nat} {u:Ty} {k z:Int} {x:ByteArray} {a:Option Addr} {m p:Nat}(h:RowSt R S w l done g i)(hi:i<l.length)(hd:done.length=i)(hr:RdV R w u (.agg #[.int .i64 k,.string x,.int .i64 z,.slice a m p]))(hRg:¬R g)(hSg:¬S g):RowSt R S (setO w g (i*4) (.int .i64 k) (.string x) (.int .i64 z) (.slice a m p)) l (done++[u]) g (i+1) where
 free j:=(zdI _ _ _ _ _ _ _ _).trans (h.free j)
 lt:=by rw[zaS];exact h.lt
 new:=by
  obtain⟨A0,c0,⟨e0,e1,e2,e3⟩,-⟩:=h.old i hi (Ai _);obtain⟨f0,f1,f2,f3⟩:=zeh w g (i*4) (.int .i64 k) (.string x) (.int .i64 z) (.slice a m p) _ _ _ _ e0 e1 e2 e3;obtain⟨K,X,Z,A,n,c,hv,hK,hX,hZ,hn,ha⟩:=hr.parts;injection hv with hv;have hv:=Az Array.toList hv;simp only[BB,Value.int.injEq,Value.string.injEq,Value.slice.injEq,and_true,true_and]at hv;obtain⟨rfl,rfl,rfl,rfl,rfl,rfl⟩:=hv;subst hK;subst hX;subst hZ;subst hn;refine RowT.snoc done g 0 u a p (RowT.cells (λ_ h=>h) (λk hk=>za7 _ _ _ _ _ _ _ _ (λe=>hRg (by rw[<-e];exact hk))) done g 0 (λj hj=>zaW _ _ _ _ _ _ _ _ (by omega)) h.new) ?_ (ha.keep (λ_ h=>h) (λk hk=>za7 _ _ _ _ _ _ _ _ (λe=>hRg (by rw[<-e];exact hk))));rw[hd,Bo]
  exact⟨f0,f1,f2,f3⟩
 old j hj mZ:=by
  obtain⟨A,c,⟨e0,e1,e2,e3⟩,h2⟩:=h.old j hj (by omega);exact⟨A,c,⟨(zaW _ _ _ _ _ _ _ _ (by omega)).trans e0,(zaW _ _ _ _ _ _ _ _ (by omega)).trans e1,(zaW _ _ _ _ _ _ _ _ (by omega)).trans e2,(zaW _ _ _ _ _ _ _ _ (by omega)).trans e3⟩,
   h2.keep (λ_ h=>h) (λk hk=>za7 _ _ _ _ _ _ _ _ (λe=>hSg (by rw[<-e];exact hk)))⟩
set_option maxRecDepth 100000
theorem zf6 {S:Nat->Prop} {w:World} {t:Ty} {A:Option Addr} {m:Nat}(h:Args S w t A)(hm:(kids t).length=m):∃vs,vs.length=m*4/\TyRow S w (kids t) vs/\(A=none->m=0)/\(∀u∈vs,u.oneCell'=true)/\∀ad,A=some ad->∀w':World,(∀k,S k->w'.heap[k]?=w.heap[k]?)->∀j u,vs[j]?=some u->w'.cell? (ad.add j)=some u:=by
 by_cases hk:kids t=[]
 ·rw[hk]at hm ⊢
  obtain rfl:m=0:=hm.symm;exact⟨[],rfl,by rw[TyRow],λ_=>rfl,by simp,by simp⟩
 ·obtain⟨g,hA,hg,hr⟩:=(zb3 S w t A).1 h hk
  obtain⟨vs,h1,h2,h3⟩:=zhj (kids t) g 0 hr;refine⟨vs,by rw[TyRow.len _ _ h1,hm],h1,λe=>(by rw[hA]at e;cases e),h3,λad rE w' hw j u hu=>?_⟩;rw[hA]at rE
  injection rE with rE;rw[<-rE,zbh]
  have:=h2 j u hu;rw[Bo]at this
  exact(World.cell?_of_block (w:=w) (a:=⟨g,j,none⟩) (hw g hg)).trans this
theorem zhk {R S:Nat->Prop} {w:World} {l:List Ty} {vs:List Value} {B m c:Nat} {A:Option Addr}(h:w.ownsRow B 37 4 (.slice A m c) m vs)(hv:TyRow S w l vs):∃g,B<=g/\(0<m->A=some ⟨g,0,none⟩/\RowSt R S w l [] g 0):=by
 obtain⟨h0,h⟩:=h;rcases h with⟨_,h⟩|⟨g,cap,cur,hvv,hg,hb,h1,h2,h3,h4⟩
 ·exact⟨B,Ai _,λh'=>by omega⟩
 ·injection hvv with hvv
  refine⟨g,hg,λ_=>⟨hvv,?_⟩⟩;have hc:∀j u,vs[j]?=some u->w.cell? ⟨g,0+j,none⟩=some u:=λj u hu=>by
   have hj:j<vs.length:=by
    refine Nat.lt_of_not_le λhl=>?_;rw[BI hl]at hu
    cases hu
   rw[Bo,cell_of_row w g j cur _ (0,0) hb,<-hu,<-h4,Cq (by omega)]
   simp
  have hr:=TyRow.row l vs 0 hv hc;exact⟨λj=>frozen_of_row w g j cur _ hb,lt_of_block hb,by rw[RowT];trivial,λj hj _=>by
   have:=RowT.at_ l g 0 j hj hr;rw[Bo]at this
   exact this⟩
theorem zei {w:World} {g g' o:Nat} {t:TypeId} {cs:Array Value} {b0 b1 b2 b3:Value}(h:Blk w g' t cs)(af:g'≠g):Blk ((((w.setCell ⟨g,o,none⟩ b0).setCell ⟨g,o+1,none⟩ b1).setCell ⟨g,o+2,none⟩ b2).setCell ⟨g,o+3,none⟩ b3) g' t cs:=(za7 w g o g' b0 b1 b2 b3 af).trans h
section
variable {σ:Type}
def HeadChg(mb:Nat)(I:Nat->σ->World->Prop)(M Su S:Nat->Prop)(bind:Name->σ->Name × σ)(leaf:Ty->Ty)(env:List (Name × Name))(l:List Ty)(c:Nat)(s:σ)(B g m:Nat)(w0:World)(gg:Nat)(vi:Value)(wr:World):Prop :=
 ∃i,gg=m-i/\vi=.int .i64 (i:Nat)/\i<=m/\I (c+fasL (l.take i)) (chgL bind leaf env (l.take i) s).2 wr/\MapE mkTy wr mb env /\
  (0<m->RowSt (λk=>Su k\/(B<=k/\k<wr.heap.size)) S wr l (chgL bind leaf env (l.take i) s).1 g i)/\Chg (λk=>M k\/k=mb\/k=g) w0 wr
end
theorem zpf {σ:Type}(bind:Name->σ->Name × σ)(leaf:Ty->Ty)(env:List (Name × Name))(t:Ty)(s:σ)(h:kd t=3\/kd t=4):kd (chg bind leaf env t s).1=kd t/\nmB (chg bind leaf env t s).1=nmB t/\nn (chg bind leaf env t s).1=nn t/\kids (chg bind leaf env t s).1=(chgL bind leaf env (kids t) s).1/\(chg bind leaf env t s).2=(chgL bind leaf env (kids t) s).2:=by
 cases t with
 |var x=>simp[kd]at h
 |mt n=>simp[kd]at h
 |con d l=>rw[chg];exact⟨rfl,rfl,rfl,rfl,rfl⟩
 |fn a b=>rw[chg,kids];exact⟨rfl,rfl,rfl,rfl,rfl⟩
 |all x t=>simp[kd]at h
theorem zhl {σ:Type}(n kb kl:Nat)(cb cl:Array Value)(mb:Nat)(I:Nat->σ->World->Prop)(K M Su:Nat->Prop)(bind:Name->σ->Name × σ)(leaf:Ty->Ty)(hI:InvC I K)(dy:∀g,M g->K g)(bX:∀g,Su g->K g/\¬M g)(dp:¬K mb)
  (HC:zkL n kb kl cb cl mb I M Su bind leaf)
  (c:Nat)(s:σ)(env:List (Name × Name))(t:Ty)(S:Nat->Prop)(v:Value)(w:World)(jl:kd t=3\/kd t=4)(hn:t.size<=n+1)(h6:n<1000000)
  (hi:I c s w)(hm:MapE mkTy w mb env)(hv:RdV S w t v)(hS:∀g,S g->g<w.heap.size/\¬M g/\g≠mb)(az:Nm t)(hc:c+t.fas<=10000000)(hlen:env.length+t.size<=100000000):Calls Tryz.prog 89 #[v,.map (some mb),fnV kb cb,fnV kl cl] w (CPst mb I M Su env (c+t.fas) (chg bind leaf env t s) w):=by
 obtain⟨k,X,Z,A,m,cp,rfl,hk,hX,hZ,ed,ha⟩:=hv.parts;have lP:zaf (kids t)+1=t.size:=by rw[zaj t]
 have hfk:t.fas=fasL (kids t):=by rw[zfE t,Am (by omega),Nat.add_zero]
 have dZ:m<=n:=by have:=zbw t;omega
 have d1:((k:Int)==1)=false:=by rw[hk];exact kF _ 1 (by omega)
 have d2:((k:Int)==2)=false:=by rw[hk];exact kF _ 2 (by omega)
 have d5:((k:Int)==5)=false:=by rw[hk];exact kF _ 5 (by omega)
 obtain⟨vs,vZ,vY,ph,dm,we⟩:=zf6 ha ed;obtain⟨-,-,ls,lb⟩:=zaZ w (.cells #[.int .i64 k,.string X,.int .i64 Z,.slice A m cp] 37) (.cells #[.int .i64 0,.string ⟨#[]⟩,.int .i64 0,.slice none 0 0] 37);obtain⟨l0,l1,-,-⟩:=zaZ w (.cells #[.int .i64 k,.string X,.int .i64 Z,.slice A m cp] 37) (.cells #[.int .i64 0,.string ⟨#[]⟩,.int .i64 0,.slice none 0 0] 37);have fX:=ziv A m cp vs ((w.alloc (.cells #[.int .i64 k,.string X,.int .i64 Z,.slice A m cp] 37)).alloc (.cells #[.int .i64 0,.string ⟨#[]⟩,.int .i64 0,.slice none 0 0] 37)) ph vZ
  (λad rE w' hw j u hu=>we ad rE w' (λq hq=>(hw.block q (by have:=hS q hq;omega)).trans (lb.block q (hS q hq).1)) j u hu) dm (by omega)
 rw[ls]at fX
 obtain⟨bE,cR,jO,gG,fE⟩:=zpf bind leaf env t s jl;have bY:=CS bE;have eE:=CS cR;have qo:=CS jO;have nY:=CS gG;have fC:=CS fE;have HK:=CS hk;have HX:=CS hX;have HZ:=CS hZ;have iC:=CS ed;have HS:=CS hS;have HI:=CS hi;have HM:=CS hm;have aC:=CS (hI.lt c s w hi);have mc:Hid (∀i (hi:i<(kids t).length),Nm (kids t)[i]):=CS λi hi=>zcH az i hi;have me:=CS fX;have zb:=CS vY;have L0:=CS l0;have L1:=CS l1;have LB:=CS lb;have LSZ:=CS ls;have gY:=hm.lt;clear bE cR jO gG fE hk hX hZ ed hS hi hm az fX vZ vY ph dm we l0 l1 ls lb hv ha jl;unfold fnV;go_enter_defers Tryz.func89,Tryz.ntmps89
 go_wp2_with fail
 refine me.out.mono ?_;rintro e w3 ⟨A3,c3,rfl,ai,bJ⟩;have cY:w.heap.size+2<=w3.heap.size:=AB (BP LSZ.out.symm) bJ.size;have aE:=Blk.below L0.out bJ (by omega);have aw:=Blk.below L1.out bJ (by omega);have aH:=LB.out.trans (bJ.mono (by omega));obtain⟨g3,im,aJ⟩:=zhk (R:=λk=>Su k\/(w3.heap.size<=k/\k<w3.heap.size)) ai (zb.out.keep (λ_ h=>h) (λq hq=>aH.block q (HS.out q hq).1));obtain⟨p0,p1,p2,p3,s0,s1,s2,s3,di⟩:=zaa aE;have cQ:=CS aE;have bN:=CS aw;have lO:=CS aH;have dG:=CS aJ;clear ai aE aw aH aJ bJ me zb;go_wp2_with fail
 have gi:Blk (w3.setCell ⟨w.heap.size,3,none⟩ (.slice A3 m c3)) w.heap.size 37 #[.int .i64 k,.string X,.int .i64 Z,.slice A3 m c3]:=heap_setCell_same _ w.heap.size 3 _ _ (.slice A3 m c3) cQ.out;have gG:Blk (w3.setCell ⟨w.heap.size,3,none⟩ (.slice A3 m c3)) (w.heap.size+1) 37 #[.int .i64 0,.string ⟨#[]⟩,.int .i64 0,.slice none 0 0]:=bN.out.far (p:=⟨w.heap.size,3,none⟩) (Nat.succ_ne_self _) _;have en:(w3.setCell ⟨w.heap.size,3,none⟩ (.slice A3 m c3)).heap.size=w3.heap.size:=by simp
 have jk:∀q,q<w.heap.size->(w3.setCell ⟨w.heap.size,3,none⟩ (.slice A3 m c3)).heap[q]?=w.heap[q]?:=λq hq=>(Below.heap_setCell w3 ⟨w.heap.size,3,none⟩ _ q (by show q≠w.heap.size;omega)).trans (lO.out.block q hq);have ir:Chg (λk=>M k\/k=mb) w (w3.setCell ⟨w.heap.size,3,none⟩ (.slice A3 m c3)):=(Chg.of_below lO.out).setCell (p:=⟨w.heap.size,3,none⟩) (.inl (Ai _)) _;have rj:=hI.keep c s w _ HI.out (by rw[en];exact lO.out.size) (λq hq=>jk q (aC.out q hq));have xn:=HM.out.keep (jk mb gY);have nT:=CS gi;have tU:=CS gG;have HK4:=CS jk;have oq:=CS ir;have HI4:=CS rj;have HM4:=CS xn;have nV:=CS en;have hbs:=lO.out.size;have iU:Hid (0<m->A3=some ⟨g3,0,none⟩/\RowSt (λk=>Su k\/(w3.heap.size<=k/\k<(w3.setCell ⟨w.heap.size,3,none⟩ (.slice A3 m c3)).heap.size)) S (w3.setCell ⟨w.heap.size,3,none⟩ (.slice A3 m c3)) (kids t) [] g3 0):=CS λh0=>by
  obtain⟨x1,x2⟩:=dG.out h0;refine⟨x1,x2.keep (λq hq=>by rw[en];exact hq) (λq hq=>Below.heap_setCell w3 ⟨w.heap.size,3,none⟩ _ q ?_) (by rw[en];exact Ai _)⟩;show q≠w.heap.size;rcases hq with(hq|hq)|hq|hq
  ·have:=aC.out q (bX q hq).1;omega
  ·omega
  ·have:=(HS.out q hq).1;omega
  ·omega
 clear gi gG jk ir rj xn en p0 p1 p2 p3 s0 s1 s2 s3;go_loopg [56] m (λgg vi wr=>HeadChg mb I M Su S bind leaf env (kids t) c s w3.heap.size g3 m (w3.setCell ⟨w.heap.size,3,none⟩ (.slice A3 m c3)) gg vi wr)
 case atStart =>
  exact⟨0,by omega,rfl,AV _,by rw[Ba,fasL,chgL];exact HI4.out,HM4.out,λh0=>by rw[Ba,chgL];exact(iU.out h0).2,Chg.refl _ _⟩
 case round =>
  obtain⟨i,rfl,rfl,hi,i1,jJ,wE,c1⟩:=hrel;have I1:=CS i1;have jA:=CS jJ;have zk:=CS wE;have C1:=CS c1;have fO:=c1.size;rw[nV.out]at fO
  have gX:∀q,w.heap.size<=q->q<w.heap.size+2->wr.heap[q]? =(w3.setCell ⟨w.heap.size,3,none⟩ (.slice A3 m c3)).heap[q]?:=λq h1 h2=>c1.block q (by rw[nV.out];omega) (λh=>by
   rcases h with h|h|h
   ·have:=aC.out q (dy q h);omega
   ·omega
   ·omega)
  have BN:=CS (nT.out.same (gX _ (Ai _) (by omega)));have BR:=CS (tU.out.same (gX _ (by omega) (by omega)));clear i1 jJ wE c1 gX;by_cases ah:i<m
  ·obtain⟨rfl,gT⟩:=iU.out (by omega)
   have s4:=gT.lt;rw[nV.out]at s4
   clear gT;have aI:=zk.out (by omega);have ey:i<(kids t).length:=by rw[iC.out];exact ah
   obtain⟨A1,q1,h4,jw⟩:=aI.old i ey (Ai _);have cK:=mc.out i ey;have iE:(kids t).take (i+1)=(kids t).take i++[(kids t)[i]]:=Bn ey;have gm:=zcf (kids t) i (kids t)[i] ⟨ey,rfl⟩;have so:=zbF (kids t) (i+1);have nj:=zhi (kids t) i (kids t)[i] ⟨ey,rfl⟩;have hfle:=zeR (kids t) (i+1);obtain⟨u,hu⟩:∃u,(kids t)[i]=u:=⟨_,rfl⟩;rw[hu]at h4 jw cK iE gm nj
   have ei:u.size<=n:=by omega
   have aK:RdV S wr u (.agg #[.int .i64 (kd u:Nat),.string (nmB u),.int .i64 (nn u:Nat),.slice A1 (kids u).length q1]):=⟨A1,q1,rfl,jw⟩;obtain⟨e0,e1,e2,e3⟩:=h4;obtain⟨K1,gO⟩:∃K1:Int,((kd u:Nat):Int)=K1:=⟨_,rfl⟩;obtain⟨X1,pZ⟩:∃X1,nmB u=X1:=⟨_,rfl⟩;obtain⟨Z1,yh⟩:∃Z1:Int,((nn u:Nat):Int)=Z1:=⟨_,rfl⟩;obtain⟨n1,gH⟩:∃n1,(kids u).length=n1:=⟨_,rfl⟩;rw[gO]at e0 aK
   rw[pZ]at e1 aK
   rw[yh]at e2 aK
   rw[gH]at e3 aK
   have fm:=CS iE;have tM:=CS nj;have aq:=HC (c+fasL ((kids t).take i)) (chgL bind leaf env ((kids t).take i) s).2 env u S _ ((wr.alloc (.cells #[.int .i64 K1,.string X1,.int .i64 Z1,.slice A1 n1 q1] 37)).drew) ei (by omega)
    (hI.keep _ _ _ _ I1.out (by show wr.heap.size<=(wr.alloc _).heap.size;simp) (λg hg=>Below.heap_alloc wr _ g (hI.lt _ _ _ I1.out g hg))) (jA.out.keep (Below.heap_alloc wr _ mb jA.out.lt)) (aK.keep (λ_ h=>h) (λg hg=>Below.heap_alloc wr _ g (by have:=(HS.out g hg).1;omega)))
    (λg hg=>⟨by show g<(wr.alloc _).heap.size;have:=(HS.out g hg).1;simp;omega,(HS.out g hg).2⟩) cK (by omega) (by omega)
   unfold fnV at aq;have av:=CS aq;have jz:Hid (Blk ((wr.alloc (.cells #[.int .i64 K1,.string X1,.int .i64 Z1,.slice A1 n1 q1] 37)).drew) w.heap.size 37 #[.int .i64 k,.string X,.int .i64 Z,.slice (some ⟨g3,0,none⟩) m c3]):=CS (Blk.alloc BN.out _);have rM:Hid (Blk ((wr.alloc (.cells #[.int .i64 K1,.string X1,.int .i64 Z1,.slice A1 n1 q1] 37)).drew) wr.heap.size 37 #[.int .i64 K1,.string X1,.int .i64 Z1,.slice A1 n1 q1]):=CS (heap_alloc_new wr _);have ck:Hid (∀W:World,Blk W w.heap.size 37 #[.int .i64 k,.string X,.int .i64 Z,.slice (some ⟨g3,0,none⟩) m c3]->Blk W wr.heap.size 37 #[.int .i64 K1,.string X1,.int .i64 Z1,.slice A1 n1 q1] ->
    W.cell? ⟨w.heap.size,3,none⟩=some (.slice (some ⟨g3,0,none⟩) m c3)/\W.cell? ⟨wr.heap.size,0,none⟩=some (.int .i64 K1)/\W.cell? ⟨wr.heap.size,1,none⟩=some (.string X1)/\W.cell? ⟨wr.heap.size,2,none⟩=some (.int .i64 Z1)/\W.cell? ⟨wr.heap.size,3,none⟩=some (.slice A1 n1 q1)) :=
    CS λW h1 h2=>⟨h1.cell 3,h2.cell 0,h2.cell 1,h2.cell 2,h2.cell 3⟩
   have dS:=CS aI;have ik:=aI.lt;have sC:w.heap.size≠g3:=by omega
   have sB:wr.heap.size≠g3:=by omega
   clear aI aK cK aq hu gO pZ yh gH iE gm nj jw;go_wp2_with fail
   go_region_held3 (λW=>W.cell? ⟨w.heap.size,3,none⟩=some (.slice (some ⟨g3,0,none⟩) m c3)/\W.cell? ⟨wr.heap.size,0,none⟩=some (.int .i64 K1)/\W.cell? ⟨wr.heap.size,1,none⟩=some (.string X1)/\W.cell? ⟨wr.heap.size,2,none⟩=some (.int .i64 Z1)/\W.cell? ⟨wr.heap.size,3,none⟩=some (.slice A1 n1 q1)) (first|(with_reducible exact ck.out _ jz.out rM.out)|(with_reducible exact ck.out _ gR.out rL.out)|(with_reducible exact ck.out _ (zei gR.out sC) (zei rL.out sB)))
    (((with_reducible refine av.out.mono ?_);rintro e w5 ⟨k',x',z',a',m',p',rfl,fE,rh,iJ,c5⟩;have jR:∀q,w.heap.size<=q->q<=wr.heap.size->w5.heap[q]? =(wr.alloc (.cells #[.int .i64 K1,.string X1,.int .i64 Z1,.slice A1 n1 q1] 37)).heap[q]?:=(λq h1 h2=>c5.block q (by show q<(wr.alloc _).heap.size;rw[size_alloc];omega) (λh=>by rcases h with h|h;(have:=aC.out q (dy q h);omega);omega));have gR:=CS (jz.out.same (jR _ (Ai _) (by omega)));have rL:=CS (rM.out.same (jR _ (by omega) (Ai _)));have ej:wr.heap.size+1<=w5.heap.size:=(by have:=c5.size;rw[show((wr.alloc (.cells #[.int .i64 K1,.string X1,.int .i64 Z1,.slice A1 n1 q1] 37)).drew).heap.size=wr.heap.size+1 from size_alloc _ _]at this;exact this);have iR:=dS.out.keep (R':=λk=>Su k\/(w3.heap.size<=k/\k<w5.heap.size)) (w':=w5) (λq hq=>(by rcases hq with hq|hq;exact .inl hq;exact .inr ⟨hq.1,by omega⟩)) (λq hq=>(c5.block q (by show q<(wr.alloc _).heap.size;rw[size_alloc];rcases hq with(hq|hq)|hq|hq;(have:=aC.out q (bX q hq).1;omega);omega;(have:=(HS.out q hq).1;omega);omega) (by rcases hq with(hq|hq)|hq|hq;(exact λh=>by rcases h with h|h;exact(bX q hq).2 h;exact dp (by rw[<-h];exact(bX q hq).1));(exact λh=>by rcases h with h|h;(have:=aC.out q (dy q h);omega);omega);(exact λh=>by rcases h with h|h;exact(HS.out q hq).2.1 h;exact(HS.out q hq).2.2 h);(exact λh=>by rcases h with h|h;(have:=aC.out q (dy q h);omega);omega))).trans (Below.heap_alloc wr _ q (by rcases hq with(hq|hq)|hq|hq;(have:=aC.out q (bX q hq).1;omega);omega;(have:=(HS.out q hq).1;omega);omega))) (by omega);obtain⟨A5,q5,⟨y0,y1,y2,y3⟩,-⟩:=iR.old i ey (Ai _);have f0:=iR.free (i*4);have f1:=iR.free (i*4+1);have f2:=iR.free (i*4+2);have f3:=iR.free (i*4+3);have ST5:=CS iR;have fC:=CS fE;have HI5:=CS rh;have vF:=CS iJ;have C5:=CS c5;clear iR fE rh iJ c5 jR))
   all_goals
    go_wp2_with fail
    have fF:=RowSt.put ST5.out ey (by rw[zco,Bc];omega) (fC.out.keep (S':=λk=>Su k\/(w3.heap.size<=k/\k<w5.heap.size)) (λq hq=>by rcases hq with hq|hq;exact .inl hq;exact .inr ⟨by have h1:=hq.1;have h2:((wr.alloc (.cells #[.int .i64 K1,.string X1,.int .i64 Z1,.slice A1 n1 q1] 37)).drew).heap.size=wr.heap.size+1:=size_alloc _ _;omega,hq.2⟩) (λq _=>rfl)) (λh=>by rcases h with h|h;(have:=aC.out _ (bX _ h).1;omega);omega) (λh=>by have:=(HS.out _ h).1;omega);have iA:=CS fF;clear fF;go_roundg (m-(i+1))
    case measure=>omega
    case rel =>
     have eA:HeadChg mb I M Su S bind leaf env (kids t) c s w3.heap.size g3 m (w3.setCell ⟨w.heap.size,3,none⟩ (.slice (some ⟨g3,0,none⟩) m c3)) (m-(i+1)) (.int .i64 ((i+1:Nat):Int)) (setO w5 g3 (i*4) (.int .i64 k') (.string x') (.int .i64 z') (.slice a' m' p')):=by
      refine⟨i+1,rfl,rfl,by omega,?_,?_,λ_=>?_,?_⟩
      ·rw[fm.out,zdz,<-fm.out,tM.out]
       have:=hI.keep _ _ _ (setO w5 g3 (i*4) (.int .i64 k') (.string x') (.int .i64 z') (.slice a' m' p')) HI5.out (by rw[zaS];exact Ai _) (λq hq=>za7 _ _ _ _ _ _ _ _ (by have:=aC.out q hq;omega));rw[BH]at this
       exact this
      ·exact vF.out.keep (za7 _ _ _ _ _ _ _ _ (by omega))
      ·rw[fm.out,zdz]
       exact iA.out.keep (λq hq=>by rw[zaS];exact hq) (λ_ _=>rfl) (Ai _)
      ·have h1:Chg (λk=>M k\/k=mb\/k=g3) (w3.setCell ⟨w.heap.size,3,none⟩ (.slice (some ⟨g3,0,none⟩) m c3)) w5:=((C1.out.alloc _).drew).trans' C5.out (λq _ h=>by
        rcases h with h|h
        ·exact .inl h
        ·exact .inr (.inl h))
       exact h1.setO _ _ _ _ _ (.inr (.inr (.inr rfl)))
     refine cast (Az (λv=>HeadChg mb I M Su S bind leaf env (kids t) c s w3.heap.size g3 m _ (m-(i+1)) v _) ?_) eA;go_num
  ·have dD:i=m:=by omega
   subst dD;have aU:(kids t).take i=kids t:=AK (by rw[iC.out];exact Ai _);have eN:=I1.out;have iV:=zk.out;rw[aU,<-fC.out]at eN
   rw[aU,<-nY.out]at iV
   have kh:=CS eN;have tO:=CS iV;obtain⟨p0,p1,p2,p3,s0,s1,s2,s3,-⟩:=zaa BN.out;obtain⟨q0,q1,q2,q3,t0,t1,t2,t3,-⟩:=zaa BR.out;clear eN iV aU;go_wp2_with fail
   have hb:=zah (.int .i64 k) (.string X) (.int .i64 Z) (.slice A3 i c3) BR.out;have hf:∀g,g≠w.heap.size+1->((((wr.setCell ⟨w.heap.size+1,0,none⟩ (.int .i64 k)).setCell ⟨w.heap.size+1,1,none⟩ (.string X)).setCell ⟨w.heap.size+1,2,none⟩ (.int .i64 Z)).setCell ⟨w.heap.size+1,3,none⟩ (.slice A3 i c3)).heap[g]?=wr.heap[g]?:=λg hg=>zat _ _ _ _ _ _ _ hg;have aD:((((wr.setCell ⟨w.heap.size+1,0,none⟩ (.int .i64 k)).setCell ⟨w.heap.size+1,1,none⟩ (.string X)).setCell ⟨w.heap.size+1,2,none⟩ (.int .i64 Z)).setCell ⟨w.heap.size+1,3,none⟩ (.slice A3 i c3)).heap.size=wr.heap.size:=by simp
   refine⟨_,results_cell_row rfl _ _ (w.heap.size+1) 37 _ (0,0) _ rfl hb Tryz.underlying37 rfl (by kernel_rfl),k,X,Z,A3,i,c3,rfl,⟨A3,c3,?_,?_⟩,?_,?_,?_⟩
   ·rw[bY.out,eE.out,qo.out,nY.out,zco,iC.out,<-HK.out,<-HX.out,<-HZ.out]
   ·refine(zb3 _ _ _ _).2 λaf=>?_
    have h0:0<i:=by
     refine Nat.pos_of_ne_zero λe=>af ?_;rw[nY.out]
     refine AD ?_;rw[zco,iC.out,e]
    obtain⟨hA,h4⟩:=iU.out h0;have oE:=h4.lt;rw[nV.out]at oE
    have aJ:=tO.out h0;refine⟨g3,hA,.inr ⟨by omega,by rw[aD];omega⟩,RowT.keep (λq hq=>by rw[aD];rcases hq with hq|hq;exact .inl hq;exact .inr ⟨by omega,hq.2⟩) (λq hq=>hf q (by rcases hq with hq|hq;(have:=aC.out q (bX q hq).1;omega);omega)) _ _ _ (hf g3 (by omega)) aJ.new⟩
   ·refine hI.mono _ _ _ _ (hI.keep _ _ _ _ kh.out (BP aD.symm) (λq hq=>hf q (by have:=aC.out q hq;omega))) (by omega)
   ·exact jA.out.keep (hf mb (by omega))
   ·refine Chg.set4 (oq.out.trans' C1.out (λq hq h=>?_)) _ _ _ _ (BT _)
    rcases h with h|h|h
    ·exact .inl h
    ·exact .inr h
    ·omega
set_option maxRecDepth 100000
theorem zpg {σ:Type}(bind:Name->σ->Name × σ)(leaf:Ty->Ty)(env:List (Name × Name))(t:Ty)(s:σ)(h:kd t=5):kd (chg bind leaf env t s).1=kd t/\nmB (chg bind leaf env t s).1=⟨(bind (nmB t).data.toList s).1.toArray⟩/\nn (chg bind leaf env t s).1=nn t/\kids (chg bind leaf env t s).1=(chgL bind leaf (((nmB t).data.toList,(bind (nmB t).data.toList s).1)::env) (kids t) (bind (nmB t).data.toList s).2).1 /\
   (chg bind leaf env t s).2=(chgL bind leaf (((nmB t).data.toList,(bind (nmB t).data.toList s).1)::env) (kids t) (bind (nmB t).data.toList s).2).2:=by
 cases t with
 |var x=>simp[kd]at h
 |mt n=>simp[kd]at h
 |con d l=>simp[kd]at h
 |fn a b=>simp[kd]at h
 |all x t=>rw[chg];exact⟨rfl,rfl,rfl,rfl,rfl⟩
theorem zl0 {σ:Type}(n kb kl:Nat)(cb cl:Array Value)(mb:Nat)(I:Nat->σ->World->Prop)(K M Su:Nat->Prop)(bind:Name->σ->Name × σ)(leaf:Ty->Ty)(hI:InvC I K)(dy:∀g,M g->K g)(bX:∀g,Su g->K g/\¬M g)(dp:¬K mb)
  (eb:∀args w,(callFunc kb args).run Tryz.prog w=.ok (.enter kb args) w)(HB:zeS kb cb I M bind)(HC:zkL n kb kl cb cl mb I M Su bind leaf)
  (c:Nat)(s:σ)(env:List (Name × Name))(t:Ty)(S:Nat->Prop)(v:Value)(w:World)(aO:kd t=5)(hn:t.size<=n+1)(h6:n<1000000)
  (hi:I c s w)(hm:MapE mkTy w mb env)(hv:RdV S w t v)(hS:∀g,S g->g<w.heap.size/\¬M g/\g≠mb)(az:Nm t)(hc:c+t.fas<=10000000)(hlen:env.length+t.size<=100000000):Calls Tryz.prog 89 #[v,.map (some mb),fnV kb cb,fnV kl cl] w (CPst mb I M Su env (c+t.fas) (chg bind leaf env t s) w):=by
 obtain⟨k,X,Z,A,m,cp,rfl,hk,hX,hZ,ed,ha⟩:=hv.parts;have lP:zaf (kids t)+1=t.size:=by rw[zaj t]
 have hfk:t.fas=fasL (kids t)+1:=by rw[zfE t,Aq (by omega)]
 have dZ:m<=n:=by have:=zbw t;omega
 have d1:((k:Int)==1)=false:=by rw[hk];exact kF _ 1 (by omega)
 have d2:((k:Int)==2)=false:=by rw[hk];exact kF _ 2 (by omega)
 have d5:((k:Int)==5)=true:=by rw[hk,aO];rfl
 obtain⟨vs,vZ,vY,ph,dm,we⟩:=zf6 ha ed;have bT:X.size<=24:=by have:=zbo az;rw[<-hX]at this;exact this
 obtain⟨l0,l1,ls,lb⟩:=zaZ w (.cells #[.int .i64 k,.string X,.int .i64 Z,.slice A m cp] 37) (.cells #[.int .i64 0,.string ⟨#[]⟩,.int .i64 0,.slice none 0 0] 37);have xp:=hI.lt c s w hi;have jY:=HB c s X _ (hI.keep c s w _ hi lb.size (λg hg=>lb.block g (xp g hg))) bT (by omega);obtain⟨bE,cR,jO,gG,fE⟩:=zpg bind leaf env t s aO;rw[<-hX]at cR gG fE
 obtain⟨y,hy⟩:∃y,(bind X.data.toList s).1=y:=⟨_,rfl⟩;obtain⟨s1,aF⟩:∃s1,(bind X.data.toList s).2=s1:=⟨_,rfl⟩;rw[hy]at cR
 rw[hy,aF]at gG fE jY
 obtain⟨Y,hY⟩:∃Y:ByteArray,(⟨y.toArray⟩:ByteArray)=Y:=⟨_,rfl⟩;have hYl:Y.data.toList=y:=by rw[<-hY]
 rw[hY]at cR jY
 obtain⟨ev,lT⟩:∃ev,((X.data.toList,y)::env)=ev:=⟨_,rfl⟩;rw[lT]at gG fE
 have hevl:ev.length=env.length+1:=by rw[<-lT];rfl
 have HEV:=CS lT;have bY:=CS bE;have eE:=CS cR;have qo:=CS jO;have nY:=CS gG;have fC:=CS fE;have HK:=CS hk;have HX:=CS hX;have HZ:=CS hZ;have iC:=CS ed;have HS:=CS hS;have HM:=CS hm;have aC:=CS (hI.lt c s w hi);have mc:Hid (∀i (hi:i<(kids t).length),Nm (kids t)[i]):=CS λi hi=>zcH az i hi;have zb:=CS vY;have HVC:=CS we;have HV0:=CS ph;have fK:=CS dm;have HVL:=CS vZ;have L0:=CS l0;have L1:=CS l1;have LB:=CS lb;have LSZ:=CS ls;have HYL:=CS hYl;have rY:=CS jY;have gY:=hm.lt;have yX:Hid (X.size<=maxLen):=CS (by unfold maxLen;omega);have zR:Hid (env.length<1000000000):=CS (by omega);clear lT bE cR jO gG fE hk hX hZ ed hS hi hm az vZ vY ph dm we l0 l1 ls lb hv ha aO xp jY hy aF hY hYl bT;unfold fnV;go_enter_defers Tryz.func89,Tryz.ntmps89
 go_wp2_with fail
 refine rY.out.mono ?_;rintro e wb ⟨rfl,ib,vr⟩;have iH:w.heap.size+2<=wb.heap.size:=AB (BP LSZ.out.symm) vr.size;have ja:∀q,w.heap.size<=q->¬M q:=λq hq h=>by have:=aC.out q (dy q h);omega
 have aE:=Blk.chg L0.out vr (ja _ (Ai _));have aw:=Blk.chg L1.out vr (ja _ (BT _));have rC:wb.heap[mb]?=w.heap[mb]?:=(vr.block mb (by rw[LSZ.out];omega) (λh=>dp (dy _ h))).trans (LB.out.block mb gY);have nE:=(Chg.of_below (M:=M) LB.out).trans' vr (λq _ h=>h);obtain⟨p0,p1,p2,p3,u0,u1,u2,u3,di⟩:=zaa aE;have jz:Hid (Blk wb.drew w.heap.size 37 #[.int .i64 k,.string X,.int .i64 Z,.slice A m cp]):=CS aE;have MPB:Hid (MapE mkTy wb.drew mb env):=CS (HM.out.keep rC);have RB0:=CS aw;have IB:=CS ib;have CHB:=CS nE;have ck:Hid (∀W:World,Blk W w.heap.size 37 #[.int .i64 k,.string X,.int .i64 Z,.slice A m cp]->W.cell? ⟨w.heap.size,1,none⟩=some (.string X)):=CS λW h=>h.cell 1;clear aE aw rC nE ib vr rY;go_wp2_with fail
 go_region_held3 (λW=>W.cell? ⟨w.heap.size,1,none⟩=some (.string X)) (first|(with_reducible exact ck.out _ jz.out)|(with_reducible exact ck.out _ gR.out)|(with_reducible exact ck.out _ NB2.out))
  ((first|((with_reducible refine(zfp Y wb.drew).mono ?_);rintro e w4 ⟨rfl,b4⟩;have gR:=CS (jz.out.below b4 jz.out.lt);have MP4:=CS (MPB.out.keep (b4.block mb MPB.out.lt));have B4:=CS b4;clear b4)|((with_reducible refine(zlX mb env X Y w4 MP4.out yX.out zR.out).mono ?_);rintro e w5 ⟨rfl,oO,qF,c5⟩;unfold zlW;have NB2:=CS (gR.out.chg c5 (by unfold only;omega));have r6:=CS oO;have yT:=CS qF;have C5:=CS c5;clear oO qF c5)))
 have en:=B4.out.size;have ej:=C5.out.size;replace en:wb.heap.size<=w4.heap.size:=en;have yt:Blk w5 (w.heap.size+1) 37 #[.int .i64 0,.string ⟨#[]⟩,.int .i64 0,.slice none 0 0]:=Blk.chg (Blk.below (w:=wb.drew) RB0.out B4.out (by show w.heap.size+1<wb.heap.size;omega)) C5.out (by unfold only;omega);have yc:∀q,q<wb.heap.size->q≠mb->w5.heap[q]?=wb.heap[q]?:=λq h1 h2=>(C5.out.block q (by omega) h2).trans (B4.out.block q h1);have hI5:=hI.keep _ _ _ w5 IB.out (by omega) (λq hq=>yc q (by have:=aC.out q hq;omega) (λe=>dp (by rw[<-e];exact hq)));have ta:Chg (λk=>M k\/k=mb) w w5:=((CHB.out.mono (λq _ h=>.inl h)).trans' (M1:=λ_=>False) (b:=wb) (c:=w4) ⟨B4.out.os,B4.out.tape,B4.out.output,B4.out.size,λq hq _=>B4.out.block q hq⟩ (λ_ _ h=>h.elim)).trans' C5.out (λq _ h=>.inr h);have sH:=yT.out;rw[HYL.out,HEV.out]at sH
 obtain⟨p0,p1,p2,p3,u0,u1,u2,u3,-⟩:=zaa NB2.out;have NB6:=CS (heap_setCell_same w5 w.heap.size 1 _ _ (.string Y) NB2.out);have fX:=ziv A m cp vs (w5.setCell ⟨w.heap.size,1,none⟩ (.string Y)) HV0.out HVL.out
  (λad rE w' hw j u hu=>HVC.out ad rE w' (λq hq=>(hw.block q (by have:=(HS.out q hq).1;simp;omega)).trans ((Below.heap_setCell w5 ⟨w.heap.size,1,none⟩ _ q (by have:=(HS.out q hq).1;show q≠w.heap.size;omega)).trans (ta.block q (HS.out q hq).1 (λh=>by rcases h with h|h;exact(HS.out q hq).2.1 h;exact(HS.out q hq).2.2 h)))) j u hu) fK.out (by omega)
 have dO:(w5.setCell ⟨w.heap.size,1,none⟩ (.string Y)).heap.size=w5.heap.size:=by simp
 rw[dO]at fX
 have eh:=CS dO;have me:=CS fX;have RB5:=CS yt;have I5:=CS hI5;have CH5:=CS ta;have MPE:=CS sH;clear fX yt yc hI5 ta sH dO;go_wp2_with fail
 refine me.out.mono ?_;rintro e w3 ⟨A3,c3,rfl,ai,bJ⟩;have cY:w5.heap.size<=w3.heap.size:=AB (BP eh.out.symm) bJ.size;have aE:=Blk.below NB6.out bJ (by omega);have aw:=Blk.below (RB5.out.far (p:=⟨w.heap.size,1,none⟩) (Nat.succ_ne_self _) (.string Y)) bJ (by omega);have eM:∀q,q<w5.heap.size->q≠w.heap.size->w3.heap[q]?=w5.heap[q]?:=λq h1 h2=>(bJ.block q h1).trans (Below.heap_setCell w5 ⟨w.heap.size,1,none⟩ _ q h2);obtain⟨g3,im,aJ⟩:=zhk (R:=λk=>Su k\/(w3.heap.size<=k/\k<w3.heap.size)) ai (zb.out.keep (λ_ h=>h) (λq hq=>(eM q (by have:=(HS.out q hq).1;omega) (by have:=(HS.out q hq).1;omega)).trans (CH5.out.block q (HS.out q hq).1 (λh=>by rcases h with h|h;exact(HS.out q hq).2.1 h;exact(HS.out q hq).2.2 h))));obtain⟨p0,p1,p2,p3,s0,s1',s2,s3,di⟩:=zaa aE;have cQ:=CS aE;have bN:=CS aw;have HK3:=CS eM;have CH3:=CS ((CH5.out.setCell (p:=⟨w.heap.size,1,none⟩) (.inl (Ai _)) (.string Y)).trans' (M1:=λ_=>False) (Chg.mono (Chg.of_below (M:=λ_=>False) (bJ.mono (BP eh.out))) (λ_ _ h=>h)) (λ_ _ h=>h.elim));have dG:=CS aJ;clear ai aE aw eM aJ bJ me zb;go_wp2_with fail
 have gi:Blk (w3.setCell ⟨w.heap.size,3,none⟩ (.slice A3 m c3)) w.heap.size 37 #[.int .i64 k,.string Y,.int .i64 Z,.slice A3 m c3]:=heap_setCell_same _ w.heap.size 3 _ _ (.slice A3 m c3) cQ.out;have gG:Blk (w3.setCell ⟨w.heap.size,3,none⟩ (.slice A3 m c3)) (w.heap.size+1) 37 #[.int .i64 0,.string ⟨#[]⟩,.int .i64 0,.slice none 0 0]:=bN.out.far (p:=⟨w.heap.size,3,none⟩) (Nat.succ_ne_self _) _;have mB:(w3.setCell ⟨w.heap.size,3,none⟩ (.slice A3 m c3)).heap.size=w3.heap.size:=by simp
 have jk:∀q,q<w5.heap.size->q≠w.heap.size->(w3.setCell ⟨w.heap.size,3,none⟩ (.slice A3 m c3)).heap[q]?=w5.heap[q]?:=λq hq af=>(Below.heap_setCell w3 ⟨w.heap.size,3,none⟩ _ q af).trans (HK3.out q hq af);have ir:Chg (λk=>M k\/k=mb) w (w3.setCell ⟨w.heap.size,3,none⟩ (.slice A3 m c3)):=CH3.out.setCell (p:=⟨w.heap.size,3,none⟩) (.inl (Ai _)) _;have rj:=hI.keep _ _ _ _ I5.out (by rw[mB];exact cY) (λq hq=>jk q (by have:=aC.out q hq;omega) (by have:=aC.out q hq;omega));have xn:=MPE.out.keep (jk mb (by omega) (by omega));have xU:=CS (r6.out.keep (λq h1 h2=>jk q (by have:=r6.out.2.2.2.lt;omega) (by omega)));have hcl4:=r6.out.2.2.2.lt;have nT:=CS gi;have tU:=CS gG;have HK4:=CS jk;have oq:=CS ir;have HI4:=CS rj;have HM4:=CS xn;have nV:=CS mB;have hbs:w.heap.size<=w3.heap.size:=by omega
 have iU:Hid (0<m->A3=some ⟨g3,0,none⟩/\RowSt (λk=>Su k\/(w3.heap.size<=k/\k<(w3.setCell ⟨w.heap.size,3,none⟩ (.slice A3 m c3)).heap.size)) S (w3.setCell ⟨w.heap.size,3,none⟩ (.slice A3 m c3)) (kids t) [] g3 0):=CS λh0=>by
  obtain⟨x1,x2⟩:=dG.out h0;refine⟨x1,x2.keep (λq hq=>by rw[mB];exact hq) (λq hq=>Below.heap_setCell w3 ⟨w.heap.size,3,none⟩ _ q ?_) (by rw[mB];exact Ai _)⟩;show q≠w.heap.size;rcases hq with(hq|hq)|hq|hq
  ·have:=aC.out q (bX q hq).1;omega
  ·omega
  ·have:=(HS.out q hq).1;omega
  ·omega
 clear gi gG jk ir rj xn mB p0 p1 p2 p3 s0 s1' s2 s3;go_loopg [56] m (λgg vi wr=>HeadChg mb I M Su S bind leaf ev (kids t) (c+1) s1 w3.heap.size g3 m (w3.setCell ⟨w.heap.size,3,none⟩ (.slice A3 m c3)) gg vi wr)
 case atStart =>
  exact⟨0,by omega,rfl,AV _,by rw[Ba,fasL,chgL];exact HI4.out,HM4.out,λh0=>by rw[Ba,chgL];exact(iU.out h0).2,Chg.refl _ _⟩
 case round =>
  obtain⟨i,rfl,rfl,hi,i1,jJ,wE,c1⟩:=hrel;have I1:=CS i1;have jA:=CS jJ;have zk:=CS wE;have C1:=CS c1;have fO:=c1.size;rw[nV.out]at fO
  have gX:∀q,w.heap.size<=q->q<w.heap.size+2->wr.heap[q]? =(w3.setCell ⟨w.heap.size,3,none⟩ (.slice A3 m c3)).heap[q]?:=λq h1 h2=>c1.block q (by rw[nV.out];omega) (λh=>by
   rcases h with h|h|h
   ·have:=aC.out q (dy q h);omega
   ·omega
   ·omega)
  have BN:=CS (nT.out.same (gX _ (Ai _) (by omega)));have BR:=CS (tU.out.same (gX _ (by omega) (by omega)));clear i1 jJ wE c1 gX;by_cases ah:i<m
  ·obtain⟨rfl,gT⟩:=iU.out (by omega)
   have s4:=gT.lt;rw[nV.out]at s4
   clear gT;have aI:=zk.out (by omega);have ey:i<(kids t).length:=by rw[iC.out];exact ah
   obtain⟨A1,q1,h4,jw⟩:=aI.old i ey (Ai _);have cK:=mc.out i ey;have iE:(kids t).take (i+1)=(kids t).take i++[(kids t)[i]]:=Bn ey;have gm:=zcf (kids t) i (kids t)[i] ⟨ey,rfl⟩;have so:=zbF (kids t) (i+1);have nj:=zhi (kids t) i (kids t)[i] ⟨ey,rfl⟩;have hfle:=zeR (kids t) (i+1);obtain⟨u,hu⟩:∃u,(kids t)[i]=u:=⟨_,rfl⟩;rw[hu]at h4 jw cK iE gm nj
   have ei:u.size<=n:=by omega
   have aK:RdV S wr u (.agg #[.int .i64 (kd u:Nat),.string (nmB u),.int .i64 (nn u:Nat),.slice A1 (kids u).length q1]):=⟨A1,q1,rfl,jw⟩;obtain⟨e0,e1,e2,e3⟩:=h4;obtain⟨K1,gO⟩:∃K1:Int,((kd u:Nat):Int)=K1:=⟨_,rfl⟩;obtain⟨X1,pZ⟩:∃X1,nmB u=X1:=⟨_,rfl⟩;obtain⟨Z1,yh⟩:∃Z1:Int,((nn u:Nat):Int)=Z1:=⟨_,rfl⟩;obtain⟨n1,gH⟩:∃n1,(kids u).length=n1:=⟨_,rfl⟩;rw[gO]at e0 aK
   rw[pZ]at e1 aK
   rw[yh]at e2 aK
   rw[gH]at e3 aK
   have fm:=CS iE;have tM:=CS nj;have aq:=HC (c+1+fasL ((kids t).take i)) (chgL bind leaf ev ((kids t).take i) s1).2 ev u S _ ((wr.alloc (.cells #[.int .i64 K1,.string X1,.int .i64 Z1,.slice A1 n1 q1] 37)).drew) ei (by omega)
    (hI.keep _ _ _ _ I1.out (by show wr.heap.size<=(wr.alloc _).heap.size;simp) (λg hg=>Below.heap_alloc wr _ g (hI.lt _ _ _ I1.out g hg))) (jA.out.keep (Below.heap_alloc wr _ mb jA.out.lt)) (aK.keep (λ_ h=>h) (λg hg=>Below.heap_alloc wr _ g (by have:=(HS.out g hg).1;omega)))
    (λg hg=>⟨by show g<(wr.alloc _).heap.size;have:=(HS.out g hg).1;simp;omega,(HS.out g hg).2⟩) cK (by omega) (by omega)
   unfold fnV at aq;have av:=CS aq;have jz:Hid (Blk ((wr.alloc (.cells #[.int .i64 K1,.string X1,.int .i64 Z1,.slice A1 n1 q1] 37)).drew) w.heap.size 37 #[.int .i64 k,.string Y,.int .i64 Z,.slice (some ⟨g3,0,none⟩) m c3]):=CS (Blk.alloc BN.out _);have rM:Hid (Blk ((wr.alloc (.cells #[.int .i64 K1,.string X1,.int .i64 Z1,.slice A1 n1 q1] 37)).drew) wr.heap.size 37 #[.int .i64 K1,.string X1,.int .i64 Z1,.slice A1 n1 q1]):=CS (heap_alloc_new wr _);have ck:Hid (∀W:World,Blk W w.heap.size 37 #[.int .i64 k,.string Y,.int .i64 Z,.slice (some ⟨g3,0,none⟩) m c3]->Blk W wr.heap.size 37 #[.int .i64 K1,.string X1,.int .i64 Z1,.slice A1 n1 q1] ->
    W.cell? ⟨w.heap.size,3,none⟩=some (.slice (some ⟨g3,0,none⟩) m c3)/\W.cell? ⟨wr.heap.size,0,none⟩=some (.int .i64 K1)/\W.cell? ⟨wr.heap.size,1,none⟩=some (.string X1)/\W.cell? ⟨wr.heap.size,2,none⟩=some (.int .i64 Z1)/\W.cell? ⟨wr.heap.size,3,none⟩=some (.slice A1 n1 q1)) :=
    CS λW h1 h2=>⟨h1.cell 3,h2.cell 0,h2.cell 1,h2.cell 2,h2.cell 3⟩
   have dS:=CS aI;have ik:=aI.lt;have sC:w.heap.size≠g3:=by omega
   have sB:wr.heap.size≠g3:=by omega
   clear aI aK cK aq hu gO pZ yh gH iE gm nj jw;go_wp2_with fail
   go_region_held3 (λW=>W.cell? ⟨w.heap.size,3,none⟩=some (.slice (some ⟨g3,0,none⟩) m c3)/\W.cell? ⟨wr.heap.size,0,none⟩=some (.int .i64 K1)/\W.cell? ⟨wr.heap.size,1,none⟩=some (.string X1)/\W.cell? ⟨wr.heap.size,2,none⟩=some (.int .i64 Z1)/\W.cell? ⟨wr.heap.size,3,none⟩=some (.slice A1 n1 q1)) (first|(with_reducible exact ck.out _ jz.out rM.out)|(with_reducible exact ck.out _ gR.out rL.out)|(with_reducible exact ck.out _ (zei gR.out sC) (zei rL.out sB)))
    (((with_reducible refine av.out.mono ?_);rintro e w5 ⟨k',x',z',a',m',p',rfl,fE,rh,iJ,c5⟩;have jR:∀q,w.heap.size<=q->q<=wr.heap.size->w5.heap[q]? =(wr.alloc (.cells #[.int .i64 K1,.string X1,.int .i64 Z1,.slice A1 n1 q1] 37)).heap[q]?:=(λq h1 h2=>c5.block q (by show q<(wr.alloc _).heap.size;rw[size_alloc];omega) (λh=>by rcases h with h|h;(have:=aC.out q (dy q h);omega);omega));have gR:=CS (jz.out.same (jR _ (Ai _) (by omega)));have rL:=CS (rM.out.same (jR _ (by omega) (Ai _)));have ej:wr.heap.size+1<=w5.heap.size:=(by have:=c5.size;rw[show((wr.alloc (.cells #[.int .i64 K1,.string X1,.int .i64 Z1,.slice A1 n1 q1] 37)).drew).heap.size=wr.heap.size+1 from size_alloc _ _]at this;exact this);have iR:=dS.out.keep (R':=λk=>Su k\/(w3.heap.size<=k/\k<w5.heap.size)) (w':=w5) (λq hq=>(by rcases hq with hq|hq;exact .inl hq;exact .inr ⟨hq.1,by omega⟩)) (λq hq=>(c5.block q (by show q<(wr.alloc _).heap.size;rw[size_alloc];rcases hq with(hq|hq)|hq|hq;(have:=aC.out q (bX q hq).1;omega);omega;(have:=(HS.out q hq).1;omega);omega) (by rcases hq with(hq|hq)|hq|hq;(exact λh=>by rcases h with h|h;exact(bX q hq).2 h;exact dp (by rw[<-h];exact(bX q hq).1));(exact λh=>by rcases h with h|h;(have:=aC.out q (dy q h);omega);omega);(exact λh=>by rcases h with h|h;exact(HS.out q hq).2.1 h;exact(HS.out q hq).2.2 h);(exact λh=>by rcases h with h|h;(have:=aC.out q (dy q h);omega);omega))).trans (Below.heap_alloc wr _ q (by rcases hq with(hq|hq)|hq|hq;(have:=aC.out q (bX q hq).1;omega);omega;(have:=(HS.out q hq).1;omega);omega))) (by omega);obtain⟨A5,q5,⟨y0,y1,y2,y3⟩,-⟩:=iR.old i ey (Ai _);have f0:=iR.free (i*4);have f1:=iR.free (i*4+1);have f2:=iR.free (i*4+2);have f3:=iR.free (i*4+3);have ST5:=CS iR;have fC:=CS fE;have HI5:=CS rh;have vF:=CS iJ;have C5:=CS c5;clear iR fE rh iJ c5 jR))
   all_goals
    go_wp2_with fail
    have fF:=RowSt.put ST5.out ey (by rw[zco,Bc];omega) (fC.out.keep (S':=λk=>Su k\/(w3.heap.size<=k/\k<w5.heap.size)) (λq hq=>by rcases hq with hq|hq;exact .inl hq;exact .inr ⟨by have h1:=hq.1;have h2:((wr.alloc (.cells #[.int .i64 K1,.string X1,.int .i64 Z1,.slice A1 n1 q1] 37)).drew).heap.size=wr.heap.size+1:=size_alloc _ _;omega,hq.2⟩) (λq _=>rfl)) (λh=>by rcases h with h|h;(have:=aC.out _ (bX _ h).1;omega);omega) (λh=>by have:=(HS.out _ h).1;omega);have iA:=CS fF;clear fF;go_roundg (m-(i+1))
    case measure=>omega
    case rel =>
     have eA:HeadChg mb I M Su S bind leaf ev (kids t) (c+1) s1 w3.heap.size g3 m (w3.setCell ⟨w.heap.size,3,none⟩ (.slice (some ⟨g3,0,none⟩) m c3)) (m-(i+1)) (.int .i64 ((i+1:Nat):Int)) (setO w5 g3 (i*4) (.int .i64 k') (.string x') (.int .i64 z') (.slice a' m' p')):=by
      refine⟨i+1,rfl,rfl,by omega,?_,?_,λ_=>?_,?_⟩
      ·rw[fm.out,zdz,<-fm.out,tM.out]
       have:=hI.keep _ _ _ (setO w5 g3 (i*4) (.int .i64 k') (.string x') (.int .i64 z') (.slice a' m' p')) HI5.out (by rw[zaS];exact Ai _) (λq hq=>za7 _ _ _ _ _ _ _ _ (by have:=aC.out q hq;omega));rw[BH]at this
       exact this
      ·exact vF.out.keep (za7 _ _ _ _ _ _ _ _ (by omega))
      ·rw[fm.out,zdz]
       exact iA.out.keep (λq hq=>by rw[zaS];exact hq) (λ_ _=>rfl) (Ai _)
      ·have h1:Chg (λk=>M k\/k=mb\/k=g3) (w3.setCell ⟨w.heap.size,3,none⟩ (.slice (some ⟨g3,0,none⟩) m c3)) w5:=((C1.out.alloc _).drew).trans' C5.out (λq _ h=>by
        rcases h with h|h
        ·exact .inl h
        ·exact .inr (.inl h))
       exact h1.setO _ _ _ _ _ (.inr (.inr (.inr rfl)))
     refine cast (Az (λv=>HeadChg mb I M Su S bind leaf ev (kids t) (c+1) s1 w3.heap.size g3 m _ (m-(i+1)) v _) ?_) eA;go_num
  ·have dD:i=m:=by omega
   subst dD;have aU:(kids t).take i=kids t:=AK (by rw[iC.out];exact Ai _);have eN:=I1.out;have iV:=zk.out;rw[aU,<-fC.out]at eN
   rw[aU,<-nY.out]at iV
   have kh:=CS eN;have tO:=CS iV;obtain⟨p0,p1,p2,p3,s0,s1',s2,s3,-⟩:=zaa BN.out;obtain⟨q0,q1,q2,q3,t0,t1,t2,t3,-⟩:=zaa BR.out;clear eN iV aU;go_wp2_with fail
   have hb:=zah (.int .i64 k) (.string Y) (.int .i64 Z) (.slice A3 i c3) BR.out;have hf:∀g,g≠w.heap.size+1->((((wr.setCell ⟨w.heap.size+1,0,none⟩ (.int .i64 k)).setCell ⟨w.heap.size+1,1,none⟩ (.string Y)).setCell ⟨w.heap.size+1,2,none⟩ (.int .i64 Z)).setCell ⟨w.heap.size+1,3,none⟩ (.slice A3 i c3)).heap[g]?=wr.heap[g]?:=λg hg=>zat _ _ _ _ _ _ _ hg;have aD:((((wr.setCell ⟨w.heap.size+1,0,none⟩ (.int .i64 k)).setCell ⟨w.heap.size+1,1,none⟩ (.string Y)).setCell ⟨w.heap.size+1,2,none⟩ (.int .i64 Z)).setCell ⟨w.heap.size+1,3,none⟩ (.slice A3 i c3)).heap.size=wr.heap.size:=by simp
   have tc:=HM.out.canon;have xi:=jA.out.keep (hf mb (by omega));rw[<-HEV.out]at xi
   have xT:=xU.out.keep (w':=((((wr.setCell ⟨w.heap.size+1,0,none⟩ (.int .i64 k)).setCell ⟨w.heap.size+1,1,none⟩ (.string Y)).setCell ⟨w.heap.size+1,2,none⟩ (.int .i64 Z)).setCell ⟨w.heap.size+1,3,none⟩ (.slice A3 i c3))) (λq h1 h2=>(hf q (by omega)).trans (C1.out.block q (by rw[nV.out];omega) (λh=>by
    rcases h with h|h|h
    ·have:=aC.out q (dy q h);omega
    ·omega
    ·omega)))
   refine leaves_cons (f:=171) (args:=#[.pointer (some ⟨w4.heap.size+4,0,none⟩),.pointer (some ⟨w4.heap.size+3,0,none⟩),.pointer (some ⟨w4.heap.size,0,none⟩),.pointer (some ⟨w4.heap.size+1,0,none⟩)]) (by simp) (by simp[go_sem]) ?_;refine(zjy w4.heap.size mb env X y .returning _ xT xi tc yX.out zR.out).mono ?_;rintro e u' wf ⟨rfl,rfl,mf,bf⟩;have fg:=hb.chg bf (by unfold only;omega);have hff:∀q,q≠w.heap.size+1->q≠mb->q<wr.heap.size->wf.heap[q]?=wr.heap[q]?:=λq h1 h2 h3=>(bf.block q (by rw[aD];exact h3) h2).trans (hf q h1);have sj:wr.heap.size<=wf.heap.size:=by have:=bf.size;rw[aD]at this;exact this
   refine⟨_,results_cell_row rfl _ _ (w.heap.size+1) 37 _ (0,0) _ rfl fg Tryz.underlying37 rfl (by kernel_rfl),k,Y,Z,A3,i,c3,rfl,⟨A3,c3,?_,?_⟩,?_,mf,?_⟩
   ·rw[bY.out,eE.out,qo.out,nY.out,zco,iC.out,<-HK.out,<-HZ.out]
   ·refine(zb3 _ _ _ _).2 λaf=>?_
    have h0:0<i:=by
     refine Nat.pos_of_ne_zero λe=>af ?_;rw[nY.out]
     refine AD ?_;rw[zco,iC.out,e]
    obtain⟨hA,h4⟩:=iU.out h0;have oE:=h4.lt;rw[nV.out]at oE
    have aJ:=tO.out h0;refine⟨g3,hA,.inr ⟨by omega,by omega⟩,RowT.keep (λq hq=>by rcases hq with hq|hq;exact .inl hq;exact .inr ⟨by omega,by omega⟩) (λq hq=>by
     rcases hq with hq|hq
     ·have h1:=aC.out q (bX q hq).1
      exact hff q (by omega) (λe=>dp (by rw[<-e];exact(bX q hq).1)) (by omega)
     ·exact hff q (by omega) (by omega) hq.2) _ _ _ (hff g3 (by omega) (by omega) (by omega)) aJ.new⟩
   ·refine hI.mono _ _ _ _ (hI.keep _ _ _ _ kh.out sj (λq hq=>hff q (by have:=aC.out q hq;omega) (λe=>dp (by rw[<-e];exact hq)) (by have:=aC.out q hq;omega))) (by omega)
   ·have h1:Chg (λk=>M k\/k=mb) w wr:=oq.out.trans' C1.out (λq hq h=>by
     rcases h with h|h|h
     ·exact .inl h
     ·exact .inr h
     ·omega)
    exact(h1.set4 (.int .i64 k) (.string Y) (.int .i64 Z) (.slice A3 i c3) (BT _)).trans' bf (λq _ h=>.inr h)
end Go.Proofs.YtfafilmklhnngaaGreatDoor
namespace Go.Proofs.YtfafilmklhnngaaGreatDoor
open Go.RowKit Lx Tx Go.Maps Go.WideMaps Go.Shelf
set_option maxRecDepth 100000
mutual
theorem zbN:(t:Ty)->t.fas<=t.size
 |.var x=>by rw[Ty.fas];exact AV _
 |.mt n=>by rw[Ty.fas];exact AV _
 |.con c l=>by rw[Ty.fas,zaj];have:=zhm l;show fasL l<=zaf l+1;omega
 |.fn a b=>by rw[Ty.fas,zaj];have:=zbN a;have:=zbN b;simp[kids,zaf];omega
 |.all x t=>by rw[Ty.fas,zaj];have:=zbN t;simp[kids,zaf];omega
theorem zhm:(l:List Ty)->fasL l<=zaf l
 |[]=>by rw[fasL];exact AV _
 |t::r=>by rw[fasL,zaf];have:=zbN t;have:=zhm r;omega
end
theorem zpV {σ:Type}(kb kl:Nat)(cb cl:Array Value)(mb:Nat)(I:Nat->σ->World->Prop)(K M Su:Nat->Prop)(bind:Name->σ->Name × σ)(leaf:Ty->Ty)(hI:InvC I K)(dy:∀g,M g->K g)(bX:∀g,Su g->K g/\¬M g)(dp:¬K mb)
  (eb:∀args w,(callFunc kb args).run Tryz.prog w=.ok (.enter kb args) w)(el:∀args w,(callFunc kl args).run Tryz.prog w=.ok (.enter kl args) w)(HB:zeS kb cb I M bind)(HL:zdT kl cl I M Su leaf)(n:Nat):zkL n kb kl cb cl mb I M Su bind leaf:=by
 induction n with
 |zero=>intro c s env t S v w hn;rw[zaj]at hn;omega
 |succ n ih =>
  intro c s env t S v w hn h6 hi hm hv hS az hc hlen;cases t with
  |var x=>exact zlZ kb kl cb cl mb I K M Su bind leaf hI dy (λg hg=>(bX g hg).1) dp el HL c s env x S v w hi hm hv (λg hg=>(hS g hg).1) az
  |mt x=>exact znS kb kl cb cl mb I K M Su bind leaf hI dy (λg hg=>(bX g hg).1) dp el HL c s env x S v w hi hm hv (λg hg=>(hS g hg).1) az
  |con d l=>exact zhl n kb kl cb cl mb I K M Su bind leaf hI dy bX dp ih c s env _ S v w (.inl rfl) hn (by omega) hi hm hv hS az hc hlen
  |fn a b=>exact zhl n kb kl cb cl mb I K M Su bind leaf hI dy bX dp ih c s env _ S v w (.inr rfl) hn (by omega) hi hm hv hS az hc hlen
  |all x t=>exact zl0 n kb kl cb cl mb I K M Su bind leaf hI dy bX dp eb HB ih c s env _ S v w rfl hn (by omega) hi hm hv hS az hc hlen
def DPst {σ:Type}(I:Nat->σ->World->Prop)(M Su:Nat->Prop)(c:Nat)(p:Ty × σ)(w:World)(e:Ending)(w':World):Prop :=
 ∃k x z a m q,e=.returned (.agg #[.int .i64 k,.string x,.int .i64 z,.slice a m q])/\RdV (λg=>Su g\/(w.heap.size<=g/\g<w'.heap.size)) w' p.1 (.agg #[.int .i64 k,.string x,.int .i64 z,.slice a m q])/\I c p.2 w'/\Chg M w w'
theorem zf7 {σ:Type}(kb kl:Nat)(cb cl:Array Value)(I:Nat->σ->World->Prop)(K M Su:Nat->Prop)(bind:Name->σ->Name × σ)(leaf:Ty->Ty)(hI:InvC I K)(dy:∀g,M g->K g)(bX:∀g,Su g->K g/\¬M g)
  (eb:∀args w,(callFunc kb args).run Tryz.prog w=.ok (.enter kb args) w)(el:∀args w,(callFunc kl args).run Tryz.prog w=.ok (.enter kl args) w)(HB:zeS kb cb I M bind)(HL:zdT kl cl I M Su leaf)
  (c:Nat)(s:σ)(t:Ty)(S:Nat->Prop)(v:Value)(w:World)(hi:I c s w)(hv:RdV S w t v)(hS:∀g,S g->g<w.heap.size/\¬M g)(az:Nm t)(aD:t.size<=1000000)(hc:c+t.fas<=10000000):Calls Tryz.prog 44 #[v,fnV kb cb,fnV kl cl] w (DPst I M Su (c+t.fas) (chg bind leaf [] t s) w):=by
 obtain⟨k,X,Z,A,m,cp,rfl,-,-,-,-,-⟩:=hv.parts;have dY:∀w,(Instr.makeMap 160 none).run Tryz.prog w=.ok (.map (some w.heap.size)) (w.alloc (.map #[] 0)):=λ_=>rfl;obtain⟨l0,l1,l2,ls,lb⟩:=zcw w (.cells #[.int .i64 k,.string X,.int .i64 Z,.slice A m cp] 37) (.cells #[.int .i64 0,.string ⟨#[]⟩,.int .i64 0,.slice none 0 0] 37) (.map #[] 0);have ah:=hI.lt c s w hi;have aq:=zpV kb kl cb cl (w.heap.size+1+1) I K M Su bind leaf hI dy bX (λh=>by have:=ah _ h;omega) eb el HB HL t.size c s [] t S _ _ (Ai _) aD (hI.keep _ _ _ _ hi lb.size (λg hg=>lb.block g (ah g hg))) (MapE.laid mkTy l2)
  (hv.keep (λ_ h=>h) (λg hg=>lb.block g (hS g hg).1)) (λg hg=>⟨by have:=(hS g hg).1;omega,(hS g hg).2,by have:=(hS g hg).1;omega⟩) az hc (by simp;omega)
 unfold fnV at aq;have av:=CS aq;have L1:=CS l1;have LS:=CS ls;have LB:=CS lb;have aC:=CS ah;clear hi hv hS az l0 l1 l2 ls lb ah aq;unfold fnV;go_enter Tryz.func44,Tryz.ntmps44
 go_wp2_with fail
 refine av.out.mono ?_;rintro e w1 ⟨k',x',z',a',m',p',rfl,hr,eN,-,c1⟩;have aF:=c1.size;rw[LS.out]at aF
 have aw:=Blk.chg L1.out c1 (λh=>by
  rcases h with h|h
  ·have:=aC.out _ (dy _ h);omega
  ·omega)
 obtain⟨q0,q1,q2,q3,t0,t1,t2,t3,di⟩:=zaa aw;have HR:=CS hr;have kh:=CS eN;have C1:=CS c1;have bN:=CS aw;clear hr eN c1 aw av;go_wp2_with fail
 have hb:=zah (.int .i64 k') (.string x') (.int .i64 z') (.slice a' m' p') bN.out;have hf:∀g,g≠w.heap.size+1->((((w1.setCell ⟨w.heap.size+1,0,none⟩ (.int .i64 k')).setCell ⟨w.heap.size+1,1,none⟩ (.string x')).setCell ⟨w.heap.size+1,2,none⟩ (.int .i64 z')).setCell ⟨w.heap.size+1,3,none⟩ (.slice a' m' p')).heap[g]?=w1.heap[g]?:=λg hg=>zat _ _ _ _ _ _ _ hg;have px:((((w1.setCell ⟨w.heap.size+1,0,none⟩ (.int .i64 k')).setCell ⟨w.heap.size+1,1,none⟩ (.string x')).setCell ⟨w.heap.size+1,2,none⟩ (.int .i64 z')).setCell ⟨w.heap.size+1,3,none⟩ (.slice a' m' p')).heap.size=w1.heap.size:=by simp
 refine bodyPost_ret (results_cell_row rfl _ _ (w.heap.size+1) 37 _ (0,0) _ rfl hb Tryz.underlying37 rfl (by kernel_rfl)) rfl ⟨k',x',z',a',m',p',rfl,?_,?_,?_⟩
 ·refine HR.out.keep (λq hq=>?_) (λq hq=>hf q ?_)
  ·rcases hq with hq|⟨h1,h2⟩
   ·exact .inl hq
   ·exact .inr ⟨by have:=LS.out;omega,by rw[px];exact h2⟩
  ·rcases hq with hq|⟨h1,h2⟩
   ·have:=aC.out q (bX q hq).1;omega
   ·have:=LS.out;omega
 ·exact hI.keep _ _ _ _ kh.out (BP px.symm) (λq hq=>hf q (by have:=aC.out q hq;omega))
 ·refine Chg.set4 ((Chg.of_below LB.out).trans' C1.out (λq hq h=>?_)) _ _ _ _ (BT _)
  rcases h with h|h
  ·exact h
  ·omega
section
variable {σ:Type}
theorem zl1(g:Ty->σ->σ)(env:List Name)(x:Name)(s:σ):atLeaf g env (.var x) s=if x∈env then s else g (.var x) s:=by
 show(if decide (x∉env)=true then g (.var x) s else s)=_;by_cases h:x∈env
 ·rw[Aq h,Am (by simpa using h)]
 ·rw[Am h,Aq (by simpa using h)]
theorem zoJ(g:Ty->σ->σ)(env:List Name)(n:Nat)(s:σ):atLeaf g env (.mt n) s=g (.mt n) s:=rfl
theorem zl2(g:Ty->σ->σ)(env:List Name)(c:Name)(l:List Ty)(s:σ):atLeaf g env (.con c l) s=s:=rfl
theorem zoK(g:Ty->σ->σ)(env:List Name)(a b:Ty)(s:σ):atLeaf g env (.fn a b) s=s:=rfl
theorem zl3(g:Ty->σ->σ)(env:List Name)(x:Name)(t:Ty)(s:σ):atLeaf g env (.all x t) s=s:=rfl
end
mutual
theorem zdc:(t:Ty)->∀(env bound:List Name) s,(∀x,x∈bound↔x∈env)->thr (atLeaf noteVar) (λ_ _ s=>s) env t s=t.freeO bound s
 |.var x,env,bound,s,h=>by
  rw[thr,Ty.freeO,zl1]
  by_cases hx:x∈env
  ·rw[Aq hx,Aq ((h x).2 hx)]
  ·rw[Am hx,Am (λe=>hx ((h x).1 e))];rfl
 |.mt n,env,bound,s,h=>by rw[thr,Ty.freeO,zoJ];rfl
 |.con c l,env,bound,s,h=>by rw[thr,Ty.freeO,zl2];exact zhn l env bound s h
 |.fn a b,env,bound,s,h=>by rw[thr,Ty.freeO,zoK,zdc a env bound s h];exact zdc b env bound _ h
 |.all x t,env,bound,s,h=>by
  rw[thr,Ty.freeO,zl3]
  exact zdc t (x::env) (bound++[x]) s (λy=>by rw[AA,AJ,An,h y,or_comm])
theorem zhn:(l:List Ty)->∀(env bound:List Name) s,(∀x,x∈bound↔x∈env)->thrL (atLeaf noteVar) (λ_ _ s=>s) env l s=zcL bound l s
 |[],env,bound,s,h=>by rw[thrL,zcL]
 |t::r,env,bound,s,h=>by rw[thrL,zcL,zdc t env bound s h,zhn r env bound _ h]
end
theorem zfF(t:Ty):zav t=t.free:=zdc t [] [] [] (λ_=>Iff.rfl)
mutual
theorem zcI:(t:Ty)->∀(env:List Name) s,thr (atLeaf noteMt) (λ_ _ s=>s) env t s=t.metasO s
 |.var x,env,s=>by
  rw[thr,Ty.metasO,zl1]
  split <;> rfl
 |.mt n,env,s=>by rw[thr,Ty.metasO,zoJ];rfl
 |.con c l,env,s=>by rw[thr,Ty.metasO,zl2];exact zf8 l env s
 |.fn a b,env,s=>by rw[thr,Ty.metasO,zoK,zcI a env s];exact zcI b env _
 |.all x t,env,s=>by rw[thr,Ty.metasO,zl3];exact zcI t (x::env) s
theorem zf8:(l:List Ty)->∀(env:List Name) s,thrL (atLeaf noteMt) (λ_ _ s=>s) env l s=zb9 l s
 |[],env,s=>by rw[thrL,zb9]
 |t::r,env,s=>by rw[thrL,zb9,zcI t env s,zf8 r env]
end
theorem zl4(t:Ty):zcg t=t.metas:=zcI t [] []
section
variable {σ:Type}
mutual
theorem zc4(P:σ->Prop)(fc fl:List Name->Ty->σ->σ)(hc:∀env u s,Nm u->P s->P (fc env u s))(hl:∀env u s,Nm u->P s->P (fl env u s)):(t:Ty)->∀env s,Nm t->P s->P (thr fc fl env t s)
 |.var x,env,s,hn,h=>by rw[thr];exact hl _ _ _ hn (hc _ _ _ hn h)
 |.mt n,env,s,hn,h=>by rw[thr];exact hl _ _ _ hn (hc _ _ _ hn h)
 |.con c l,env,s,hn,h=>by
  rw[thr]
  have hk:∀t∈l,Nm t:=by cases hn;assumption
  exact hl _ _ _ hn (ziw P fc fl hc hl l env _ hk (hc _ _ _ hn h))
 |.fn a b,env,s,hn,h=>by
  rw[thr]
  have hk:Nm a/\Nm b:=by cases hn;exact⟨by assumption,by assumption⟩
  exact hl _ _ _ hn (zc4 P fc fl hc hl b env _ hk.2 (zc4 P fc fl hc hl a env _ hk.1 (hc _ _ _ hn h)))
 |.all x t,env,s,hn,h=>by
  rw[thr]
  have hk:Nm t:=by cases hn;assumption
  exact hl _ _ _ hn (zc4 P fc fl hc hl t _ _ hk (hc _ _ _ hn h))
theorem ziw(P:σ->Prop)(fc fl:List Name->Ty->σ->σ)(hc:∀env u s,Nm u->P s->P (fc env u s))(hl:∀env u s,Nm u->P s->P (fl env u s)):(l:List Ty)->∀env s,(∀t∈l,Nm t)->P s->P (thrL fc fl env l s)
 |[],env,s,_,h=>by rw[thrL];exact h
 |t::r,env,s,hn,h=>by
  rw[thrL]
  exact ziw P fc fl hc hl r env _ (λu hu=>hn u (Ar _ hu)) (zc4 P fc fl hc hl t env s (hn t Ay) h)
end
end
theorem zdd(x y:Name)(l:List Name):y∈addN x l↔y=x\/y∈l:=ziE x y l
def Short(s:List Name):Prop:=∀x∈s,x.length<=24
theorem zej {t:Ty} {s:List Name}(h:Nm t)(hs:Short s):Short (addN (nmB t).data.toList s):=λy hy=>by
 rcases(zdd _ _ _).1 hy with rfl|hy
 ·have:=zbo h
  exact this
 ·exact hs y hy
theorem zl5 {t:Ty} {s:List Name}(h:Nm t)(hs:Short s):Short (noteVar t s):=by
 rcases zeQ t s with⟨_,e⟩|⟨_,e⟩ <;> rw[e]
 ·exact zej h hs
 ·exact hs
theorem zkM {t:Ty} {s:List Name}(h:Nm t)(hs:Short s):Short (noteName t s):=by
 rcases zeB t s with⟨_,e⟩|⟨_,_,e⟩|⟨_,_,e⟩ <;> rw[e]
 ·exact zej h hs
 ·exact zej h hs
 ·exact hs
theorem zdJ(t:Ty)(h:Nm t):Short (zav t) :=
 zc4 Short _ _ (λenv u s hu hs=>by unfold atLeaf;split;exact zl5 hu hs;exact hs) (λ_ _ _ _ hs=>hs) t [] [] h (λ_ hx=>(AT hx).elim)
theorem zix(t:Ty)(h:Nm t):Short (zaF t) :=
 zc4 Short _ _ (λ_ _ _ hu hs=>zkM hu hs) (λ_ _ _ _ hs=>hs) t [] [] h (λ_ hx=>(AT hx).elim)
def zek(but:List Name)(_:Name)(k:Nat):Name × Nat:=(nm 120 (zau 120 but k),zau 120 but k+1)
mutual
theorem zde(but:List Name):(t:Ty)->∀(env:List (Name × Name))(xs ys:List Name)(k:Nat),(∀x,look x env=(idx x xs).map λi=>ys.getD i [])->chg (zek but) id env t k=numb 120 but xs ys t k
 |.var x,env,xs,ys,k,h=>by
  rw[chg,numb,h]
  cases idx x xs <;> rfl
 |.mt n,env,xs,ys,k,h=>by rw[chg,numb];rfl
 |.con c l,env,xs,ys,k,h=>by rw[chg,numb,zho but l env xs ys k h]
 |.fn a b,env,xs,ys,k,h=>by rw[chg,numb,zde but a env xs ys k h,zde but b env xs ys _ h]
 |.all x t,env,xs,ys,k,h=>by
  rw[chg,numb]
  have:=zde but t ((x,nm 120 (zau 120 but k))::env) (x::xs) (nm 120 (zau 120 but k)::ys) (zau 120 but k+1) (λz=>by
   rw[look,idx]
   by_cases hz:x=z
   ·rw[Aq hz,Aq hz.symm];rfl
   ·rw[Am hz,Am (λe=>hz e.symm),h z]
    cases idx z xs <;> rfl)
  show(Ty.all (nm 120 (zau 120 but k)) (chg (zek but) id ((x,nm 120 (zau 120 but k))::env) t (zau 120 but k+1)).1,(chg (zek but) id ((x,nm 120 (zau 120 but k))::env) t (zau 120 but k+1)).2)=_;rw[this]
theorem zho(but:List Name):(l:List Ty)->∀(env:List (Name × Name))(xs ys:List Name)(k:Nat),(∀x,look x env=(idx x xs).map λi=>ys.getD i [])->chgL (zek but) id env l k=zcy 120 but xs ys l k
 |[],env,xs,ys,k,h=>by rw[chgL,zcy]
 |t::r,env,xs,ys,k,h=>by rw[chgL,zcy,zde but t env xs ys k h,zho but r env xs ys _ h]
end
theorem zcJ(t:Ty):(chg (zek (zav t)) id [] t 0).1=t.canonT:=by
 rw[zde (zav t) t [] [] [] 0 (λ_=>rfl),zfF]
 rfl
theorem zdA(t:Ty)(h:Nm t)(hs:t.size<=1000000):Nm t.canonT:=by
 rw[znZ]
 exact zmi _ (zdC [] t h) (zeX [] t) (zn0 t hs)
section
variable {σ:Type}
mutual
theorem zbO(bind:Name->σ->Name × σ):(t:Ty)->∀env s,(chg bind id env t s).1.size=t.size
 |.var x,env,s=>by
  rw[chg]
  cases look x env <;> rfl
 |.mt n,env,s=>by rw[chg];rfl
 |.con c l,env,s=>by rw[chg,Ty.size,Ty.size,zhp bind l]
 |.fn a b,env,s=>by rw[chg,Ty.size,Ty.size,zbO bind a,zbO bind b]
 |.all x t,env,s=>by rw[chg,Ty.size,Ty.size,zbO bind t]
theorem zhp(bind:Name->σ->Name × σ):(l:List Ty)->∀env s,zaf (chgL bind id env l s).1=zaf l
 |[],env,s=>by rw[chgL]
 |t::r,env,s=>by rw[chgL,zaf,zaf,zbO bind t,zhp bind r]
end
end
theorem zkN(f n:Nat):(decF f n).length<=f:=by
 induction f generalizing n with
 |zero=>simp[decF]
 |succ f ih =>
  rw[decF]
  split
  ·simp
  ·have:=ih (n / 10)
   simp;exact this
mutual
theorem zbP:(t:Ty)->Nm t->t.print.length+6<=40*t.size/\(za2 t).length<=40*t.size+3
 |.var x,h=>by
  have h1:x.length<=24:=zbo h;rw[zbQ _ (λy u e=>by cases e),Ty.print,Ty.size]
  simp;omega
 |.mt n,h=>by
  have h1:(dec n).length<=20:=zkN 20 n;rw[zbQ _ (λy u e=>by cases e),Ty.print,Ty.size]
  simp;omega
 |.con c l,h=>by
  have h1:c.length<=24:=zbo h;have h2:=zf9 l (by cases h;assumption);rw[zbQ _ (λy u e=>by cases e),Ty.print,Ty.size]
  simp;omega
 |.fn a b,h=>by
  have hk:Nm a/\Nm b:=by cases h;exact⟨by assumption,by assumption⟩
  have h1:=(zbP a hk.1).1;have h2:=(zbP b hk.2).1;rw[zbQ _ (λy u e=>by cases e),Ty.print,Ty.size]
  cases a.isFA <;> simp <;> omega
 |.all x t,h=>by
  have h1:x.length<=24:=zbo h;have h2:=(zbP t (by cases h;assumption)).2;rw[zcW,Ty.print,Ty.size]
  have hw:wForall.length=6:=rfl;simp only[Ap,Ao,hw];omega
theorem zf9:(l:List Ty)->(∀t∈l,Nm t)->(zaG l).length<=40*zaf l
 |[],_=>by rw[zaG];simp
 |t::r,h=>by
  have h1:=(zbP t (h t Ay)).1;have h2:=zf9 r (λu hu=>h u (Ar _ hu));rw[zaG,zaf]
  cases t.big <;> simp <;> omega
end
structure CanI (lb nb sb mb cb:Nat) (but:List Name) (c:Nat) (k:Nat) (w:World):Prop where
 new:NewI 120 lb nb sb mb but k w
 cel:Blk w cb 40 #[newV lb nb sb]
 tab:Tab w
 len:k<=c*(but.length+1)
def CanK(lb nb sb mb cb:Nat)(g:Nat):Prop:=g=nb\/g=sb\/g=mb\/g=cb\/g=lb\/g=0
theorem CanI.inv(lb nb sb mb cb:Nat)(but:List Name):InvC (CanI lb nb sb mb cb but) (CanK lb nb sb mb cb) where
 mono c c' s w h hc:={ h with len:=AB h.len (Nat.mul_le_mul_right _ hc) }
 lt c s w h g hg:=by
  rcases hg with rfl|rfl|rfl|rfl|rfl|rfl
  ·exact h.new.num.lt
  ·exact h.new.cel.lt
  ·exact h.new.set.lt
  ·exact h.cel.lt
  ·exact h.new.let_.lt
  ·exact h.tab.lt
 keep c s w w' h _ hk :=
  {new:=h.new.keep (hk _ (.inr (.inr (.inr (.inr (.inl rfl)))))) (hk _ (.inl rfl)) (hk _ (.inr (.inl rfl))) (hk _ (.inr (.inr (.inl rfl))))
   cel:=h.cel.same (hk _ (.inr (.inr (.inr (.inl rfl)))))
   tab:=h.tab.keep (hk _ (.inr (.inr (.inr (.inr (.inr rfl))))))
   len:=h.len }
theorem zl6(lb nb sb mb cb:Nat)(but:List Name)(h0:nb≠lb)(h1:nb≠sb)(h2:nb≠mb)(h3:nb≠0)(h4:nb≠cb)(hbut:but.length<=10000000):zeS 43 #[.pointer (some ⟨cb,0,none⟩)] (CanI lb nb sb mb cb but) (only nb) (zek but):=by
 intro c k X w hi _ hc;obtain⟨hn,lj,ht,hlen⟩:=hi;have hm:c*(but.length+1)<=10000000*10000001:=Cx (by omega) (by omega);obtain⟨_,bI,cC⟩:=zbl 120 but k (by omega);have eZ:=zlU 120 lb nb sb mb but k w hn ht h0 h1 h2 h3 (by omega);obtain⟨x0,-,l0⟩:=zad lj;have ek:∀args w,(callFunc 85 args).run Tryz.prog w=.ok (.enter 85 args) w:=enters_of Tryz.func85 (by kernel_rfl) rfl;have HN:=CS eZ;have HC:=CS lj;have HT:=CS ht;have HL:Hid (zau 120 but k+1<=(c+1)*(but.length+1)):=CS (by rw[AI];omega);clear hn lj ht hlen hm bI cC eZ;unfold newV at x0;go_enter Tryz.func43,Tryz.ntmps43
 go_wp2_with fail
 refine HN.out.mono ?_;rintro e w1 ⟨rfl,n1,c1⟩;have kf:=CS n1;have C1:=CS c1;clear n1 c1;go_wp2_with fail
 go_ret
 exact⟨rfl,⟨kf.out,HC.out.chg C1.out (λh=>h4 h.symm),HT.out.keep (C1.out.block _ HT.out.lt (λh=>h3 h.symm)),HL.out⟩,C1.out⟩
theorem ziy {S S':Nat->Prop} {w w':World} {t:Ty} {v:Value}(h:RdV S w t v)(hk:kd t=1\/kd t=2):RdV S' w' t v:=by
 obtain⟨A,c,hv,-⟩:=h;refine⟨A,c,hv,?_⟩;cases t with
 |var x=>rw[Args];trivial
 |mt n=>rw[Args];trivial
 |con c l=>simp[kd]at hk
 |fn a b=>simp[kd]at hk
 |all x t=>simp[kd]at hk
theorem zl7 {σ:Type}(I:Nat->σ->World->Prop)(K M Su:Nat->Prop)(hI:InvC I K):zdT 45 #[] I M Su id:=by
 intro c s t S v w hi hv hS hk az;obtain⟨k,X,Z,A,m,cp,rfl,-,-,-,-,-⟩:=hv.parts;obtain⟨-,l1,ls,lb⟩:=zaZ w (.cells #[.int .i64 k,.string X,.int .i64 Z,.slice A m cp] 37) (.cells #[.int .i64 k,.string X,.int .i64 Z,.slice A m cp] 37);have od:Hid (RdV Su ((w.alloc (.cells #[.int .i64 k,.string X,.int .i64 Z,.slice A m cp] 37)).alloc (.cells #[.int .i64 k,.string X,.int .i64 Z,.slice A m cp] 37)) (id t) (.agg #[.int .i64 k,.string X,.int .i64 Z,.slice A m cp])):=CS (ziy hv hk);have HI:=CS (hI.keep _ _ _ _ hi lb.size (λg hg=>lb.block g (hI.lt _ _ _ hi g hg)));have L1:=CS l1;have LB:=CS lb;clear hi hv hS az l1 ls lb;go_enter Tryz.func45,Tryz.ntmps45
 go_wp2_with fail
 exact bodyPost_ret (results_cell_row rfl _ _ (w.heap.size+1) 37 _ (0,0) _ rfl L1.out Tryz.underlying37 rfl (by kernel_rfl)) rfl ⟨k,X,Z,A,m,cp,rfl,od.out,HI.out,Chg.of_below LB.out⟩
theorem znT(t:Ty)(S:Nat->Prop)(v:Value)(w:World)(hv:RdV S w t v)(hS:∀g,S g->g<w.heap.size)(az:Nm t)(aD:t.size<=1000000)(ht:Tab w):Calls Tryz.prog 16 #[v] w λe w'=>e=.returned (.string ⟨t.canonT.print.toArray⟩)/\Below w.heap.size w w':=by
 obtain⟨K,X,Z,A,m,cp,rfl,-,-,-,-,-⟩:=hv.parts;have iI:∀(fn:Fn) (first cap:Array Value) (w:World),(Instr.makeFunc fn first cap).run Tryz.prog w=.ok (.func fn first cap) w:=λ_ _ _ _=>rfl;have bz:Below w.heap.size w (w.alloc (.cells #[.int .i64 K,.string X,.int .i64 Z,.slice A m cp] 37)):=(Below.refl _ w).alloc (Ai _) _;have pS:=zjR t S _ (w.alloc (.cells #[.int .i64 K,.string X,.int .i64 Z,.slice A m cp] 37)) (hv.keep (λ_ h=>h) (λg hg=>bz.block g (hS g hg))) (λg hg=>by have:=hS g hg;simp;omega) az aD;rw[size_alloc]at pS
 have vI:=CS pS;have oU:=CS (heap_alloc_new w (.cells #[.int .i64 K,.string X,.int .i64 Z,.slice A m cp] 37));have HV:=CS hv;have HS:=CS hS;have bK:=CS az;have HT:=CS ht;have z6:=CS bz;clear hv hS az ht bz pS;go_enter Tryz.func16,Tryz.ntmps16
 go_wp2_with fail
 refine vI.out.mono ?_;rintro e w1 ⟨A1,c1,rfl,ai,cg,b1⟩;have aF:w.heap.size+1<=w1.heap.size:=AB (BP (size_alloc w _).symm) b1.size;have bN:=CS (z6.out.trans (b1.mono (BT _)));have HX1:=CS (Blk.below oU.out b1 (Nat.lt_succ_self _));have uR:=RowV.of_own ai;obtain⟨n,hn⟩:∃n,(zav t).length=n:=⟨_,rfl⟩;have aI:Hid (Calls Tryz.prog 41 #[.slice (some ⟨w1.heap.size,0,none⟩) 1 1] (w1.alloc (.cells #[.slice A1 n c1] 95)) λe w'=>e=.returned (.map (some (w1.heap.size+1)))/\MapE mkSet w' (w1.heap.size+1) (units (zav t))/\Below (w1.heap.size+1) (w1.alloc (.cells #[.slice A1 n c1] 95)) w'):=CS (by
  have h:=zir [zav t] w1.heap.size 1 (w1.alloc (.cells #[.slice A1 n c1] 95)) (λj hj=>by
   have jm:j=0:=by simp at hj;omega
   subst jm;refine⟨A1,c1,?_,?_⟩
   ·have:=Blk.cell (heap_alloc_new w1 (.cells #[.slice A1 n c1] 95)) 0
    rw[<-hn]at this ⊢
    exact this
   ·exact uR.below ((Below.refl _ w1).alloc (Ai _) _)) (by simp) (by intro x hx;exact zdJ t bK.out x (by simpa using hx)) (by simpa using(by omega:(zav t).length<=10000000)) (by simp)
  simp only[BE,Co,AU,size_alloc]at h;exact h)
 rw[hn]
 clear ai b1 uR vI;go_wp2_with fail
 refine aI.out.mono ?_;rintro e w2 ⟨rfl,cB,b2⟩;have bk:=b2.size;rw[size_alloc]at bk
 have lB:Below w1.heap.size w1 w2:=((Below.refl _ w1).alloc (Ai _) _).trans (b2.mono (BT _));have yZ:=CS (HX1.out.below lB (by omega));have bQ:=CS (bN.out.trans (lB.mono (by omega)));have uT:=zfv 120 ⟨#[120]⟩ rfl (w1.heap.size+1) (zav t) w2 cB;have oR:=CS uT;clear cB b2 lB uT aI;go_wp2_with fail
 refine oR.out.mono ?_;rintro e w3 ⟨rfl,uU,b3⟩;have cY:=b3.size;have HX3:=CS (yZ.out.below b3 (by omega));obtain⟨p0,p1,p2,p3,u0,u1,u2,u3,di⟩:=zaa HX3.out;have oh:=CS uU;have gb:=CS (bQ.out.trans (b3.mono (by omega)));clear uU b3 oR;unfold newV;go_wp2_with fail
 have bJ:Below w3.heap.size w3 (w3.alloc (.cells #[newV w2.heap.size (w2.heap.size+2) (w2.heap.size+1)] 40)):=(Below.refl _ w3).alloc (Ai _) _;have cT:Below w.heap.size w (w3.alloc (.cells #[newV w2.heap.size (w2.heap.size+2) (w2.heap.size+1)] 40)):=gb.out.alloc (by omega) _;have pq:=HT.out.lt;have wv:Tab (w3.alloc (.cells #[newV w2.heap.size (w2.heap.size+2) (w2.heap.size+1)] 40)):=HT.out.below cT;have hnl:=oh.out.num.lt;have jr:=zf7 43 45 #[.pointer (some ⟨w3.heap.size,0,none⟩)] #[] (CanI w2.heap.size (w2.heap.size+2) (w2.heap.size+1) (w1.heap.size+1) w3.heap.size (zav t)) (CanK w2.heap.size (w2.heap.size+2) (w2.heap.size+1) (w1.heap.size+1) w3.heap.size) (only (w2.heap.size+2)) (λ_=>False) (zek (zav t)) id (CanI.inv _ _ _ _ _ _) (λg hg=>.inl hg) (λ_ h=>h.elim)
  (enters_of Tryz.func43 (by kernel_rfl) rfl) (enters_of Tryz.func45 (by kernel_rfl) rfl)
  (zl6 w2.heap.size (w2.heap.size+2) (w2.heap.size+1) (w1.heap.size+1) w3.heap.size (zav t) (by omega) (by omega) (by omega) (by omega) (by omega) (by omega)) (zl7 _ _ _ _ (CanI.inv _ _ _ _ _ _))
  0 0 t S _ _ ⟨oh.out.below bJ,heap_alloc_new w3 _,wv,AV _⟩ (HV.out.keep (λ_ h=>h) (λg hg=>cT.block g (HS.out g hg))) (λg hg=>⟨by have:=HS.out g hg;have:=cT.size;omega,λh=>by have:=HS.out g hg;have h:g=w2.heap.size+2:=h;omega⟩) bK.out aD (by have:=zbN t;omega)
 unfold fnV newV at jr;refine jr.mono ?_;rintro e w5 ⟨k5,x5,z5,a5,m5,q5,rfl,fE,rh,tB⟩;rw[zcJ]at fE
 have ej:=tB.size;have hB5:=cT.trans (tB.toBelow (B:=w.heap.size) (by have:=cT.size;exact this) (λq hq h=>by have h:q=w2.heap.size+2:=h;omega));have hp:=znF t.canonT _ _ w5 (by rw[<-zcJ,zbO];exact aD) (zdA t bK.out aD) fE (λg hg=>by rcases hg with h|h;exact h.elim;exact h.2) rh.tab (by
  have h1:=(zbP t.canonT (zdA t bK.out aD)).1;have h2:t.canonT.size=t.size:=by rw[<-zcJ,zbO]
  omega)
 have HP:=CS hp;have mh:=CS hB5;clear hp hB5 ej fE rh tB jr wv cT bJ;go_wp2_with fail
 refine HP.out.mono ?_;rintro e w6 ⟨rfl,b6⟩;have HB6:=CS (mh.out.trans (b6.mono mh.out.size));clear b6 HP;go_wp2_with fail
 go_ret
 exact⟨rfl,HB6.out⟩
def zaD(free but:List Name)(x:Name)(s:List Nat × Nat):Name ×(List Nat × Nat) :=
 if x∈free/\0<s.1.headD 0 then(nm 120 (zau 120 but s.2),(s.1.tail,zau 120 but s.2+1)) else(x,(s.1.tail,s.2))
def LeftAt(w:World)(q rg:Nat)(l:List Nat):Prop :=
 ∃A c,Blk w q 61 #[.slice A l.length c]/\l.length<=c/\(0<l.length->∃o,A=some ⟨rg,o,none⟩/\∀(j:Nat) (hj:j<l.length),w.cell? ⟨rg,o+j,none⟩=some (.int .i64 (l[j]:Nat)))
theorem LeftAt.keep {w w':World} {q rg:Nat} {l:List Nat}(h:LeftAt w q rg l)(h1:w'.heap[q]?=w.heap[q]?)(h2:w'.heap[rg]?=w.heap[rg]?):LeftAt w' q rg l:=by
 obtain⟨A,c,hb,hc,hp⟩:=h;refine⟨A,c,hb.same h1,hc,λh0=>?_⟩;obtain⟨o,hA,au⟩:=hp h0;exact⟨o,hA,λj hj=>(World.cell?_of_block (w:=w) (a:=⟨rg,o+j,none⟩) h2).trans (au j hj)⟩
structure PutB where
 lb:Nat
 nb:Nat
 sb:Nat
 mb:Nat
 pw:Nat
 rg:Nat
 pf:Nat
 mf:Nat
 pn:Nat
 bi:Nat
 bu:Nat
def PutB.K(b:PutB)(KJ Su:Nat->Prop)(g:Nat):Prop :=
 g=b.lb\/g=b.nb\/g=b.sb\/g=b.mb\/g=b.pw\/g=b.rg\/g=b.pf\/g=b.mf\/g=b.pn\/g=b.bi\/g=b.bu\/g=0\/KJ g\/Su g
def PutB.M(b:PutB)(g:Nat):Prop:=g=b.nb\/g=b.pw
structure PutI (b:PutB) (kp:Nat) (cp:Array Value) (J:World->Prop) (KJ Su:Nat->Prop) (u:Ty) (uv:Array Value) (free but:List Name) (c:Nat) (s:List Nat × Nat) (w:World):Prop where
 new:NewI 120 b.lb b.nb b.sb b.mb but s.2 w
 left:LeftAt w b.pw b.rg s.1
 rgl:b.rg<w.heap.size
 fc:Blk w b.pf 93 #[.map (some b.mf)]
 fs:MapE mkSet w b.mf (units free)
 nc:Blk w b.pn 40 #[newV b.lb b.nb b.sb]
 isp:Blk w b.bi 58 #[fnV kp cp]
 ub:Blk w b.bu 37 uv
 ur:RdV Su w u (.agg uv)
 jj:J w
 kj:∀g,KJ g->g<w.heap.size
 su:∀g,Su g->g<w.heap.size
 tab:Tab w
 len:s.2<=c*(but.length+1)
 full:10000000<=s.1.length+c
theorem PutI.inv(b:PutB)(kp:Nat)(cp:Array Value)(J:World->Prop)(KJ Su:Nat->Prop)(u:Ty)(uv:Array Value)(free but:List Name)(hJ:∀w w',J w->(∀g,KJ g->w'.heap[g]?=w.heap[g]?)->J w'):InvC (PutI b kp cp J KJ Su u uv free but) (b.K KJ Su) where
 mono c c' s w h hc:={ h with len:=AB h.len (Nat.mul_le_mul_right _ hc),full:=by have:=h.full;omega }
 lt c s w h g hg:=by
  rcases hg with rfl|rfl|rfl|rfl|rfl|rfl|rfl|rfl|rfl|rfl|rfl|rfl|hg|hg
  ·exact h.new.let_.lt
  ·exact h.new.num.lt
  ·exact h.new.cel.lt
  ·exact h.new.set.lt
  ·obtain⟨_,_,hb,_⟩:=h.left;exact hb.lt
  ·exact h.rgl
  ·exact h.fc.lt
  ·exact h.fs.lt
  ·exact h.nc.lt
  ·exact h.isp.lt
  ·exact h.ub.lt
  ·exact h.tab.lt
  ·exact h.kj g hg
  ·exact h.su g hg
 keep c s w w' h hs hk:=by
  have k:∀g,b.K KJ Su g->w'.heap[g]?=w.heap[g]?:=hk;unfold PutB.K at k;exact
  {new:=h.new.keep (k _ (by simp)) (k _ (by simp)) (k _ (by simp)) (k _ (by simp))
   left:=h.left.keep (k _ (by simp)) (k _ (by simp))
   rgl:=As h.rgl hs
   fc:=h.fc.same (k _ (by simp))
   fs:=h.fs.keep (k _ (by simp))
   nc:=h.nc.same (k _ (by simp))
   isp:=h.isp.same (k _ (by simp))
   ub:=h.ub.same (k _ (by simp))
   ur:=h.ur.keep (λ_ h=>h) (λg hg=>k g (by simp[hg]))
   jj:=hJ w w' h.jj (λg hg=>k g (by simp[hg]))
   kj:=λg hg=>As (h.kj g hg) hs
   su:=λg hg=>As (h.su g hg) hs
   tab:=h.tab.keep (k _ (by simp))
   len:=h.len
   full:=h.full }
structure PutB.Apart (b:PutB) (KJ Su:Nat->Prop):Prop where
 nb:b.nb≠b.lb/\b.nb≠b.sb/\b.nb≠b.mb/\b.nb≠b.pw/\b.nb≠b.rg/\b.nb≠b.pf/\b.nb≠b.mf/\b.nb≠b.pn/\b.nb≠b.bi/\b.nb≠b.bu/\b.nb≠0/\¬KJ b.nb/\¬Su b.nb
 pw:b.pw≠b.lb/\b.pw≠b.sb/\b.pw≠b.mb/\b.pw≠b.nb/\b.pw≠b.rg/\b.pw≠b.pf/\b.pw≠b.mf/\b.pw≠b.pn/\b.pw≠b.bi/\b.pw≠b.bu/\b.pw≠0/\¬KJ b.pw/\¬Su b.pw
theorem PutI.step {b:PutB} {kp:Nat} {cp:Array Value} {J:World->Prop} {KJ Su:Nat->Prop} {u:Ty} {uv:Array Value} {free but:List Name} {c p k:Nat} {l:List Nat} {w:World} {v:Value}(hJ:∀w w',J w->(∀g,KJ g->w'.heap[g]?=w.heap[g]?)->J w')(ha:b.Apart KJ Su)
  (h:PutI b kp cp J KJ Su u uv free but c (p::l,k) w)(hv:LeftAt (w.setCell ⟨b.pw,0,none⟩ v) b.pw b.rg l):PutI b kp cp J KJ Su u uv free but (c+1) (l,k) (w.setCell ⟨b.pw,0,none⟩ v):=by
 have e:∀g,g≠b.pw->(w.setCell ⟨b.pw,0,none⟩ v).heap[g]?=w.heap[g]?:=λg hg=>Below.heap_setCell w ⟨b.pw,0,none⟩ v g hg;obtain⟨a1,a2,a3,a4,a5,a6,a7,a8,a9,yO,vt,a12,yN⟩:=ha.pw;have hs:(w.setCell ⟨b.pw,0,none⟩ v).heap.size=w.heap.size:=by simp
 exact
  {new:=h.new.keep (e _ a1.symm) (e _ a4.symm) (e _ a2.symm) (e _ a3.symm)
   left:=hv
   rgl:=by rw[hs];exact h.rgl
   fc:=h.fc.same (e _ a6.symm)
   fs:=h.fs.keep (e _ a7.symm)
   nc:=h.nc.same (e _ a8.symm)
   isp:=h.isp.same (e _ a9.symm)
   ub:=h.ub.same (e _ yO.symm)
   ur:=h.ur.keep (λ_ h=>h) (λg hg=>e g (λhe=>yN (he▸hg)))
   jj:=hJ w _ h.jj (λg hg=>e g (λhe=>a12 (he▸hg)))
   kj:=λg hg=>by rw[hs];exact h.kj g hg
   su:=λg hg=>by rw[hs];exact h.su g hg
   tab:=h.tab.keep (e _ vt.symm)
   len:=by have:=h.len;simp only[AI]at this ⊢;omega
   full:=by have:=h.full;simp at this ⊢;omega }
theorem PutI.fresh {b:PutB} {kp:Nat} {cp:Array Value} {J:World->Prop} {KJ Su:Nat->Prop} {u:Ty} {uv:Array Value} {free but:List Name} {c k k':Nat} {l:List Nat} {w w':World}(hJ:∀w w',J w->(∀g,KJ g->w'.heap[g]?=w.heap[g]?)->J w')(ha:b.Apart KJ Su)
  (h:PutI b kp cp J KJ Su u uv free but c (l,k) w)(hn:NewI 120 b.lb b.nb b.sb b.mb but k' w')(hc:Chg (only b.nb) w w')(hk:k'<=c*(but.length+1)):PutI b kp cp J KJ Su u uv free but c (l,k') w':=by
 obtain⟨a1,a2,a3,a4,a5,a6,a7,a8,a9,yO,vt,a12,yN⟩:=ha.nb;have e:∀g,g<w.heap.size->g≠b.nb->w'.heap[g]?=w.heap[g]?:=λg hl hg=>hc.block g hl hg;exact
  {new:=hn
   left:=h.left.keep (e _ (by obtain⟨_,_,hb,_⟩:=h.left;exact hb.lt) a4.symm) (e _ h.rgl a5.symm)
   rgl:=As h.rgl hc.size
   fc:=h.fc.same (e _ h.fc.lt a6.symm)
   fs:=h.fs.keep (e _ h.fs.lt a7.symm)
   nc:=h.nc.same (e _ h.nc.lt a8.symm)
   isp:=h.isp.same (e _ h.isp.lt a9.symm)
   ub:=h.ub.same (e _ h.ub.lt yO.symm)
   ur:=h.ur.keep (λ_ h=>h) (λg hg=>e g (h.su g hg) (λhe=>yN (he▸hg)))
   jj:=hJ w _ h.jj (λg hg=>e g (h.kj g hg) (λhe=>a12 (he▸hg)))
   kj:=λg hg=>As (h.kj g hg) hc.size
   su:=λg hg=>As (h.su g hg) hc.size
   tab:=h.tab.keep (e _ h.tab.lt vt.symm)
   len:=hk
   full:=h.full }
end Go.Proofs.YtfafilmklhnngaaGreatDoor
namespace Go.Proofs.YtfafilmklhnngaaGreatDoor
open Go.RowKit Lx Tx Go.Maps Go.WideMaps Go.Shelf
set_option maxRecDepth 100000
theorem zph(g o n c:Nat)(hc:n+1<=c):∃A',(0<n->A'=some ⟨g,o+1,none⟩) /\
  ∀w,(Instr.slice 61 (.slice (some ⟨g,o,none⟩) (n+1) c) (some (.int .i64 1)) none none).run Tryz.prog w=.ok (.slice A' n (c-1)) w:=by
 have hu:=Tryz.underlying61;obtain⟨i0,bm,bO,bD,bj⟩:=info_parts zeg;refine⟨if c=1 then some ⟨g,o,none⟩ else some ⟨g,o+1,none⟩,λh=>Am (by omega),λw=>?_⟩;simp[Instr.slice,Instr.sliceBounds,run_underlying hu,sizeOf,typeInfo,bm,bD,go_sem]
 intro h;omega
theorem zpi(b:PutB)(kp:Nat)(cp:Array Value)(J:World->Prop)(KJ Su:Nat->Prop)(u:Ty)(uv:Array Value)(free but:List Name)(hJ:∀w w',J w->(∀g,KJ g->w'.heap[g]?=w.heap[g]?)->J w')(ha:b.Apart KJ Su)(hbut:but.length<=10000000):zeS 114 #[.pointer (some ⟨b.pw,0,none⟩),.pointer (some ⟨b.pf,0,none⟩),.pointer (some ⟨b.pn,0,none⟩)] (PutI b kp cp J KJ Su u uv free but) b.M (zaD free but):=by
 intro c s X w hi bT hc;obtain⟨wi,k⟩:=s;have rq:=hi.full;cases wi with
 |nil=>exfalso;simp at rq;omega
 |cons p l =>
  obtain⟨A,cq,hb,hcq,hp⟩:=hi.left;obtain⟨o,rfl,au⟩:=hp (by simp);obtain⟨x0,x1,x2⟩:=zad hb;have hlen:=hi.len;obtain⟨n,hn⟩:∃n,l.length=n:=⟨_,rfl⟩;rw[Ao,hn]at x0 hcq
  have hp0:w.cell? ⟨b.rg,o,none⟩=some (.int .i64 (p:Nat)):=au 0 (by simp);have nG:∀(j:Nat) (hj:j<l.length),w.cell? ⟨b.rg,o+1+j,none⟩=some (.int .i64 (l[j]:Nat)):=λj hj=>by
   have:=au (j+1) (by simp;omega);rw[show o+1+j=o+(j+1) by omega]
   simpa using this
  have qY:∀A' ,(0<n->A'=some ⟨b.rg,o+1,none⟩)->LeftAt (w.setCell ⟨b.pw,0,none⟩ (.slice A' n (cq-1))) b.pw b.rg l:=λA' tw=>by
   refine⟨A',cq-1,?_,by omega,λh0=>⟨o+1,tw (by omega),λj hj=>?_⟩⟩
   ·rw[hn];exact one_setCell hb
   ·exact(World.cell?_of_block (w:=w) (a:=⟨b.rg,o+1+j,none⟩) (Below.heap_setCell w ⟨b.pw,0,none⟩ _ b.rg ha.pw.2.2.2.2.1.symm)).trans (nG j hj)
  have rT:=CS qY;have HI:=CS hi;have HL:=CS hlen;have hmul:c*(but.length+1)<=10000000*10000001:=Cx (by omega) (by omega);have zC:=CS hmul;clear hb hp au nG qY hi hlen hn hmul rq;have ek:∀args w,(callFunc 85 args).run Tryz.prog w=.ok (.enter 85 args) w:=enters_of Tryz.func85 (by kernel_rfl) rfl;obtain⟨A',tw,hsl⟩:=zph b.rg o n cq hcq;have h1:=PutI.step hJ ha HI.out (rT.out A' tw);obtain⟨W1,lU⟩:∃W1,w.setCell ⟨b.pw,0,none⟩ (.slice A' n (cq-1))=W1:=⟨_,rfl⟩;rw[lU]at h1
  have bc:Chg b.M w W1:=by rw[<-lU];exact(Chg.refl b.M w).setCell (p:=⟨b.pw,0,none⟩) (.inr (.inr rfl)) _
  obtain⟨y0,y1,y2⟩:=zad h1.fc;obtain⟨z0,z1,z2⟩:=zad h1.nc;have aR:=h1.fs.getOk X (by unfold maxLen;omega);rw[zef]at aR
  have bz:Below W1.heap.size W1 (W1.alloc (.cells #[] 153)):=(Below.refl _ W1).alloc (Ai _) _;have h2:PutI b kp cp J KJ Su u uv free but (c+1) (l,k) (W1.alloc (.cells #[] 153)):=(PutI.inv b kp cp J KJ Su u uv free but hJ).keep _ _ _ _ h1 bz.size (λg hg=>bz.block g ((PutI.inv b kp cp J KJ Su u uv free but hJ).lt _ _ _ h1 g hg));have H2:=CS h2;have C2:Hid (Chg b.M w (W1.alloc (.cells #[] 153))):=CS (bc.below bz);clear h1 bc tw rT HI hcq bT h2 bz;unfold newV at z0;go_enter Tryz.func114,Tryz.ntmps114
  by_cases hin:X.data.toList∈free
  ·rw[Aq hin]at aR
   replace aR:(Instr.lookup 93 (.map (some b.mf)) (.string X) true).run Tryz.prog W1=.ok (.tuple #[.agg #[],.bool true]) W1:=aR;by_cases hp:0<p
   ·have HB:Hid (zaD free but X.data.toList (p::l,k)=(nm 120 (zau 120 but k),(l,zau 120 but k+1))):=CS (by unfold zaD;rw[Aq ⟨hin,hp⟩];rfl)
    rw[HB.out]
    have df:(0:Int)<(p:Int):=by omega
    have hnk:=(zbl 120 but k (by have:=HL.out;have:=zC.out;omega)).2;obtain⟨a1,a2,a3,a4,a5,a6,a7,a8,a9,yO,vt,a12,yN⟩:=ha.nb;have eZ:=zlU 120 b.lb b.nb b.sb b.mb but k (W1.alloc (.cells #[] 153)) H2.out.new H2.out.tab a1 a2 a3 vt (by have:=HL.out;have:=zC.out;omega);have dz:=CS eZ;clear hin hp eZ a1 a2 a3 a4 a5 a6 a7 a8 a9 yO vt a12 yN;go_wp2_with fail
    refine dz.out.mono ?_;rintro e w3 ⟨rfl,n3,c3⟩;have H3:=CS (PutI.fresh hJ ha H2.out n3 c3 (by have:=HL.out;rw[AI];omega));have C3:=CS (C2.out.trans' c3 (λg _ h=>.inl h));clear n3 c3 dz;go_wp2_with fail
    go_ret
    exact⟨rfl,H3.out,C3.out⟩
   ·obtain rfl:p=0:=by omega
    have HB:Hid (zaD free but X.data.toList (0::l,k)=(X.data.toList,(l,k))):=CS (by unfold zaD;rw[Am (λh=>absurd h.2 (by simp))];rfl);rw[HB.out]
    clear hin hp;go_wp2_with fail
    go_ret
    exact⟨rfl,H2.out,C2.out⟩
  ·rw[Am hin]at aR
   replace aR:(Instr.lookup 93 (.map (some b.mf)) (.string X) true).run Tryz.prog W1=.ok (.tuple #[.agg #[],.bool false]) W1:=aR;have HB:Hid (zaD free but X.data.toList (p::l,k)=(X.data.toList,(l,k))):=CS (by unfold zaD;rw[Am (λh=>hin h.1)];rfl);rw[HB.out]
   clear hin;go_wp2_with fail
   go_ret
   exact⟨rfl,H2.out,C2.out⟩
set_option maxRecDepth 100000
theorem zpj(b:PutB)(kp:Nat)(cp:Array Value)(J:World->Prop)(KJ Su:Nat->Prop)(u:Ty)(uk uz:Int)(ux:ByteArray)(ua:Option Addr)(um uc:Nat)(free but:List Name)(ak:Ty->Bool)(hJ:∀w w',J w->(∀g,KJ g->w'.heap[g]?=w.heap[g]?)->J w')
  (ep:∀args w,(callFunc kp args).run Tryz.prog w=.ok (.enter kp args) w)(HP:IsPl kp cp J ak):zdT 115 #[.pointer (some ⟨b.bi,0,none⟩),.pointer (some ⟨b.bu,0,none⟩)] (PutI b kp cp J KJ Su u #[.int .i64 uk,.string ux,.int .i64 uz,.slice ua um uc] free but) b.M Su (λt=>if ak t=true then u else t):=by
 intro c s t S v w hi hv hS hkd az;obtain⟨k,X,Z,A,m,cq,rfl,-,-,-,-,-⟩:=hv.parts;have hinv:=PutI.inv b kp cp J KJ Su u #[.int .i64 uk,.string ux,.int .i64 uz,.slice ua um uc] free but hJ;obtain⟨l0,l1,ls,lb⟩:=zaZ w (.cells #[.int .i64 k,.string X,.int .i64 Z,.slice A m cq] 37) (.cells #[.int .i64 0,.string ⟨#[]⟩,.int .i64 0,.slice none 0 0] 37);have h2:=hinv.keep _ _ _ _ hi lb.size (λg hg=>lb.block g (hinv.lt _ _ _ hi g hg));have dK:=hv.keep (λ_ h=>h) (λg hg=>lb.block g (hS g hg));have cS:=HP t S _ _ h2.jj dK (λg hg=>by have:=hS g hg;omega) hkd az;obtain⟨x0,x1,x2⟩:=zad hi.isp;have h2b:b.bu<w.heap.size:=hi.ub.lt;have zM:=CS (hinv.lt _ _ _ hi);have ma:=CS cS;have H2:=CS h2;have iO:=CS dK;have L0:=CS l0;have L1:=CS l1;have LS:=CS ls;have LB:=CS lb;have HS:=CS hS;obtain⟨q,hq⟩:∃q,ak t=q:=⟨_,rfl⟩;have HQ:=CS hq;simp only[hq]at ma ⊢;clear hi h2 dK cS hv l0 l1 ls lb hS az hq;unfold fnV at x0;go_enter Tryz.func115,Tryz.ntmps115
 go_wp2_with fail
 refine ma.out.mono ?_;rintro e w1 ⟨rfl,b1⟩;have aF:=b1.size;rw[LS.out]at aF
 have h3:=hinv.keep _ _ _ _ H2.out b1.size (λg hg=>b1.block g (hinv.lt _ _ _ H2.out g hg));have r0:=Blk.below L0.out b1 (by rw[LS.out];omega);have r1:=Blk.below L1.out b1 (by rw[LS.out];omega);obtain⟨p0,p1,p2,p3,p4,p5,p6,p7,p8⟩:=zaa r0;obtain⟨q0,q1,q2,q3,q4,q5,q6,q7,q8⟩:=zaa r1;obtain⟨u0,u1,u2,u3,u4,u5,u6,u7,u8⟩:=zaa h3.ub;have R1:=CS r1;have H3:=CS h3;have B1:=CS (LB.out.trans (b1.mono (by rw[LS.out];omega)));clear h3 r0 r1 b1 ma;have bZ:∀(a0 a1 a2 a3:Value),let W:=(((w1.setCell ⟨w.heap.size+1,0,none⟩ a0).setCell ⟨w.heap.size+1,1,none⟩ a1).setCell ⟨w.heap.size+1,2,none⟩ a2).setCell ⟨w.heap.size+1,3,none⟩ a3
   (∀g,g≠w.heap.size+1->W.heap[g]?=w1.heap[g]?)/\W.heap.size=w1.heap.size/\Chg b.M w W:=λa0 a1 a2 a3=>⟨λg hg=>zat _ _ _ _ _ _ _ hg,by simp,(Chg.of_below B1.out).set4 _ _ _ _ (BT _)⟩
 cases q with
 |true =>
  go_wp2_with fail
  have hb:=zah (.int .i64 uk) (.string ux) (.int .i64 uz) (.slice ua um uc) R1.out;obtain⟨f1,f2,f3⟩:=bZ (.int .i64 uk) (.string ux) (.int .i64 uz) (.slice ua um uc);refine bodyPost_ret (results_cell_row rfl _ _ (w.heap.size+1) 37 _ (0,0) _ rfl hb Tryz.underlying37 rfl (by kernel_rfl)) rfl ⟨uk,ux,uz,ua,um,uc,rfl,?_,?_,f3⟩
  ·exact H3.out.ur.keep (λ_ h=>h) (λg hg=>f1 g (by have:=zM.out g (by unfold PutB.K;simp[hg]);omega))
  ·exact hinv.keep _ _ _ _ H3.out (BP f2.symm) (λg hg=>f1 g (by have:=zM.out g hg;omega))
 |false =>
  go_wp2_with fail
  have hb:=zah (.int .i64 k) (.string X) (.int .i64 Z) (.slice A m cq) R1.out;obtain⟨f1,f2,f3⟩:=bZ (.int .i64 k) (.string X) (.int .i64 Z) (.slice A m cq);refine bodyPost_ret (results_cell_row rfl _ _ (w.heap.size+1) 37 _ (0,0) _ rfl hb Tryz.underlying37 rfl (by kernel_rfl)) rfl ⟨k,X,Z,A,m,cq,rfl,?_,?_,f3⟩
  ·exact ziy iO.out hkd
  ·exact hinv.keep _ _ _ _ H3.out (BP f2.symm) (λg hg=>f1 g (by have:=zM.out g hg;omega))
def isPM(n:Int):Ty->Bool
 |.mt k=>(k:Int)==n
 |_=>false
theorem znU(jb:Nat)(n:Int):IsPl 66 #[.pointer (some ⟨jb,0,none⟩)] (λw=>Blk w jb 3 #[.int .i64 n]) (isPM n):=by
 intro t S v w hj hv hS hk az;obtain⟨k,Y,Z,A,m,cq,rfl,fV,-,hZ,-,-⟩:=hv.parts;obtain⟨x0,x1,x2⟩:=zad hj;have bz:=(Below.refl _ w).alloc (Ai _) (.cells #[.int .i64 k,.string Y,.int .i64 Z,.slice A m cq] 37);cases t with
 |var y =>
  obtain rfl:k=1:=fV;show Calls _ _ _ _ λe w'=>e=.returned (.bool false)/\_;clear hj hv hS hk az hZ;go_enter Tryz.func66,Tryz.ntmps66
  go_wp2
  go_ret
  exact⟨rfl,bz⟩
 |mt j =>
  obtain rfl:k=2:=fV;have hq:isPM n (.mt j)=(Z==n):=by rw[hZ];rfl
  rw[hq]
  obtain⟨q,hqq⟩:∃q,(Z==n)=q:=⟨_,rfl⟩;rw[hqq]
  clear hj hv hS hk az hZ hq;cases q
  all_goals
   go_enter Tryz.func66,Tryz.ntmps66
   go_wp2
   go_ret
   exact⟨rfl,bz⟩
 |con c l=>simp[kd]at hk
 |fn a b=>simp[kd]at hk
 |all x t=>simp[kd]at hk
set_option maxRecDepth 100000
theorem zpW(ak:Ty->Bool)(n:Nat):∀(t:Ty)(env:List Name)(s:Pl),t.size<=n->(thr (plCome ak) plLeave env t s).wi.length=s.wi.length+t.fas:=by
 induction n with
 |zero=>intro t env s h;rw[zaj]at h;omega
 |succ n ih =>
  intro t env s h;have hL:∀(l:List Ty) (bA:List Name) (s':Pl),(∀u∈l,u.size<=n)->(thrL (plCome ak) plLeave bA l s').wi.length=s'.wi.length+fasL l:=by
   intro l;induction l with
   |nil=>intro bA s' _;rw[thrL,fasL];rfl
   |cons u r ihr =>
    intro bA s' aD;rw[thrL,fasL,ihr bA _ (λx hx=>aD x (Ar _ hx)),ih u bA s' (aD u Ay)]
    omega
  have gZ:∀u∈kids t,u.size<=n:=λu hu=>by
   obtain⟨i,hi,rfl⟩:=AS.1 hu;have:=zc9 t i hi;omega
  rw[zee,zfE]
  have hl:∀q:Pl,(plLeave env t q).wi.length=q.wi.length:=λq=>by rw[plLeave];split <;> simp
  rw[hl,hL _ _ _ gZ]
  by_cases h5:kd t=5
  ·rw[zcV ak env t s h5,Aq h5];simp;omega
  ·rw[Am h5]
   have:(plCome ak env t s).wi=s.wi:=by rw[plCome,Am h5];split <;> rfl
   rw[this];omega
theorem ziz(ak:Ty->Bool)(t:Ty):(placesOf ak t).wi.length=t.fas:=by
 unfold placesOf;rw[zpW ak t.size t [] ⟨[],[],0⟩ (Ai _)]
 simp
def putT(ak:Ty->Bool)(t u:Ty):Ty :=
 if(placesOf ak t).al=0 then t else(chg (zaD (zav u) (zav u++zaF t)) (λl=>if ak l=true then u else l) [] t ((placesOf ak t).wi,0)).1
theorem znV {w:World} {B:Nat} {A:Option Addr} {c:Nat} {wi:List Nat}(d:Nat)(hd:d<w.heap.size)(h:w.ownsRow B 3 1 (.slice A wi.length c) wi.length (intV wi)):∃rg,(rg=d\/B<=rg)/\rg<w.heap.size/\wi.length<=c/\(0<wi.length->A=some ⟨rg,0,none⟩/\∀(j:Nat) (hj:j<wi.length),w.cell? ⟨rg,0+j,none⟩=some (.int .i64 (wi[j]:Nat))):=by
 have hc:=λg hg=>h.cells (g:=g) hg;have ah:=h.lt;rcases h.2 with⟨hv,h0⟩|⟨g,cap,cur,hv,hg,hb,h1,_⟩
 ·exact⟨d,.inl rfl,hd,by omega,λh=>by omega⟩
 ·injection hv with dm dK qI
  subst dm qI;refine⟨g,.inr hg,(ah g rfl).2,by omega,λ_=>⟨rfl,λj hj=>?_⟩⟩;have:=hc g rfl j _ (zo4 wi j hj);rw[zbh]at this
  rw[Bo]
  exact this
def PPst(KJ S Su:Nat->Prop)(t:Ty)(w:World)(e:Ending)(w':World):Prop :=
 ∃k x z a m q,e=.returned (.agg #[.int .i64 k,.string x,.int .i64 z,.slice a m q])/\RdV (λg=>S g\/Su g\/(w.heap.size<=g/\g<w'.heap.size)) w' t (.agg #[.int .i64 k,.string x,.int .i64 z,.slice a m q])/\Chg KJ w w'
theorem zpX(kp:Nat)(cp:Array Value)(J:World->Prop)(KJ:Nat->Prop)(ak:Ty->Bool)(hJ:∀w w',J w->(∀g,KJ g->w'.heap[g]?=w.heap[g]?)->J w')(ep:∀args w,(callFunc kp args).run Tryz.prog w=.ok (.enter kp args) w)(HP:IsPl kp cp J ak)
  (t u:Ty)(S Su:Nat->Prop)(v uv:Value)(w:World)(hj:J w)(nQ:∀g,KJ g->g<w.heap.size)(hv:RdV S w t v)(hu:RdV Su w u uv)(hS:∀g,S g->g<w.heap.size/\¬KJ g)(bX:∀g,Su g->g<w.heap.size/\¬KJ g)(az:Nm t)(cK:Nm u)(aD:t.size<=1000000)(qK:u.size<=1000000)(ht:Tab w)(htK:¬KJ 0):Calls Tryz.prog 65 #[v,uv,fnV kp cp] w (PPst KJ S Su (putT ak t u) w):=by
 obtain⟨K,X,Z,A,m,cq,rfl,-,-,-,-,-⟩:=hv.parts;obtain⟨K',X',Z',A',m',rJ,rfl,-,-,-,-,-⟩:=hu.parts;have iI:∀(fn:Fn) (first cap:Array Value) (w:World),(Instr.makeFunc fn first cap).run Tryz.prog w=.ok (.func fn first cap) w:=λ_ _ _ _=>rfl;obtain⟨l0,l1,l2,l3,ls,lb⟩:=zcU w (.cells #[.int .i64 K,.string X,.int .i64 Z,.slice A m cq] 37) (.cells #[.int .i64 K',.string X',.int .i64 Z',.slice A' m' rJ] 37) (.cells #[fnV kp cp] 58) (.cells #[.int .i64 0,.string ⟨#[]⟩,.int .i64 0,.slice none 0 0] 37);obtain⟨W4,iN⟩:∃W,(((w.alloc (.cells #[.int .i64 K,.string X,.int .i64 Z,.slice A m cq] 37)).alloc (.cells #[.int .i64 K',.string X',.int .i64 Z',.slice A' m' rJ] 37)).alloc (.cells #[fnV kp cp] 58)).alloc (.cells #[.int .i64 0,.string ⟨#[]⟩,.int .i64 0,.slice none 0 0] 37)=W:=⟨_,rfl⟩;rw[iN]at l0 l1 l2 l3 ls lb
 have kB:=hv.keep (λ_ h=>h) (λg hg=>lb.block g (hS g hg).1);have hu4:=hu.keep (λ_ h=>h) (λg hg=>lb.block g (bX g hg).1);have sX:J W4:=hJ w _ hj (λg hg=>lb.block g (nQ g hg));have wv:=ht.below lb;have pq:=ht.lt;have ma:=CS (zl8 kp cp J KJ ak hJ ep HP t S _ W4 sX (λg hg=>by have:=nQ g hg;omega) kB (λg hg=>⟨by have:=(hS g hg).1;omega,(hS g hg).2⟩) az aD);have e4:∀g,g<w.heap.size->¬KJ g->W4.heap[g]?=w.heap[g]?:=λg hg _=>lb.block g hg;obtain⟨p0,p1,p2,p3,p4,p5,p6,p7,p8⟩:=zaa (show Blk W4 w.heap.size 37 _ from l0);obtain⟨q0,q1,q2⟩:=zad (show Blk W4 (w.heap.size+1+1) 58 _ from l2);have L0:Hid (Blk W4 w.heap.size 37 #[.int .i64 K,.string X,.int .i64 Z,.slice A m cq]):=CS l0;have L1:Hid (Blk W4 (w.heap.size+1) 37 #[.int .i64 K',.string X',.int .i64 Z',.slice A' m' rJ]):=CS l1;have L2:Hid (Blk W4 (w.heap.size+1+1) 58 #[fnV kp cp]):=CS l2;have L3:Hid (Blk W4 (w.heap.size+1+1+1) 37 #[.int .i64 0,.string ⟨#[]⟩,.int .i64 0,.slice none 0 0]):=CS l3;have LS:=CS ls;have LB:=CS lb;have zc:=CS kB;have HU4:=CS hu4;have vB:=CS wv;have HS:=CS hS;have gC:=CS bX;have oS:=CS nQ;have bK:=CS az;have iP:=CS cK;have fm:=CS htK;obtain⟨al,bz⟩:∃al,(placesOf ak t).al=al:=⟨_,rfl⟩;obtain⟨wi,pa⟩:∃wi,(placesOf ak t).wi=wi:=⟨_,rfl⟩;have hwl:=ziz ak t;rw[pa]at hwl
 have HPT:Hid (putT ak t u=if al=0 then t else(chg (zaD (zav u) (zav u++zaF t)) (λl=>if ak l=true then u else l) [] t (wi,0)).1):=CS (by unfold putT;rw[bz,pa]);obtain⟨R,hR⟩:∃R,putT ak t u=R:=⟨_,rfl⟩;rw[hR]at HPT ⊢
 rw[bz,pa]at ma
 have HWL:=CS hwl;obtain⟨nw,uT⟩:∃nw,wi.length=nw:=⟨_,rfl⟩;rw[uT]at ma
 have oR:=CS uT;clear hv hu hS bX nQ az cK ht htK hj sX kB hu4 wv l0 l1 l2 l3 ls lb e4 bz pa hwl hR uT;unfold fnV at q0 ma iN ⊢;go_enter Tryz.func65,Tryz.ntmps65
 go_wp2_with fail
 refine ma.out.mono ?_;rintro e w5 ⟨A5,c5,rfl,ai,yg,hj5,tB⟩;have ej:=tB.size;rw[LS.out]at ej
 obtain⟨rg,kI,pB,mF,wN⟩:=znV (w:=w5) (wi:=wi) (w.heap.size+1+1) (by omega) (by rw[oR.out];exact ai);have hrgb:w.heap.size<=rg:=by rcases kI with h|h;omega;rw[LS.out]at h;omega
 rw[oR.out]at mF
 have qP:0<nw->A5=some ⟨rg,0,none⟩/\∀(j:Nat) (hj:j<wi.length),w5.cell? ⟨rg,0+j,none⟩=some (.int .i64 (wi[j]:Nat)):=λh=>wN (by rw[oR.out];exact h);have zr:=CS qP;obtain⟨w6,bL⟩:∃W,w5.alloc (.cells #[.slice A5 nw c5] 61)=W:=⟨_,rfl⟩;have b6:Below w5.heap.size w5 w6:=by rw[<-bL];exact(Below.refl _ w5).alloc (Ai _) _
 have dO:w6.heap.size=w5.heap.size+1:=by rw[<-bL];exact size_alloc _ _
 have L4:Hid (Blk w6 w5.heap.size 61 #[.slice A5 nw c5]):=CS (by rw[<-bL];exact heap_alloc_new w5 _);have c6:Chg KJ W4 w6:=tB.below b6;have fI:∀g,KJ g->g<w.heap.size:=oS.out;have k0:=L0.out.chg c6 (λh=>by have:=fI _ h;omega);have k1:=L1.out.chg c6 (λh=>by have:=fI _ h;omega);have k3:=L3.out.chg c6 (λh=>by have:=fI _ h;omega);obtain⟨a0,a1,a2,a3,a4,a5,a6,a7,a8⟩:=zaa k0;obtain⟨d0,d1,d2,d3,d4,d5,d6,d7,d8⟩:=zaa k1;obtain⟨f0,f1,f2,f3,f4,f5,f6,f7,f8⟩:=zaa k3;have hj6:J w6:=hJ w5 w6 hj5 (λg hg=>b6.block g (by have:=fI g hg;omega));have wh:=zc.out.keep (w':=w6) (λ_ h=>h) (λg hg=>c6.block g (by have:=(HS.out g hg).1;rw[LS.out];omega) (HS.out g hg).2);have hu6:=HU4.out.keep (w':=w6) (λ_ h=>h) (λg hg=>c6.block g (by have:=(gC.out g hg).1;rw[LS.out];omega) (gC.out g hg).2);have ht6:=vB.out.keep (c6.block _ vB.out.lt fm.out);have K0:=CS k0;have K1:=CS k1;have K3:=CS k3;have C6:=CS c6;have HJ6:=CS hj6;have HV6:=CS wh;have HU6:=CS hu6;have HT6:=CS ht6;have nX:=CS kI;have B6:=CS b6;have HJ5:=CS hj5;clear kI wN qP ai hj5 tB b6 c6 k0 k1 k3 hj6 wh hu6 ht6 ma p0 p1 p2 p3 p4 p5 p6 p7 p8 q0 q1 q2;by_cases h0:al=0
 ·have dT:=HPT.out
  rw[Aq h0]at dT
  have bY:=CS dT;have t0:((al:Int)==0)=true:=by rw[h0];rfl
  clear h0 dT yg;go_wp2_with fail
  have hb:=zah (.int .i64 K) (.string X) (.int .i64 Z) (.slice A m cq) K3.out;have hf:∀g,g≠w.heap.size+1+1+1->((((w6.setCell ⟨w.heap.size+1+1+1,0,none⟩ (.int .i64 K)).setCell ⟨w.heap.size+1+1+1,1,none⟩ (.string X)).setCell ⟨w.heap.size+1+1+1,2,none⟩ (.int .i64 Z)).setCell ⟨w.heap.size+1+1+1,3,none⟩ (.slice A m cq)).heap[g]?=w6.heap[g]?:=λg hg=>zat _ _ _ _ _ _ _ hg;refine bodyPost_ret (results_cell_row rfl _ _ (w.heap.size+1+1+1) 37 _ (0,0) _ rfl hb Tryz.underlying37 rfl (by kernel_rfl)) rfl ⟨K,X,Z,A,m,cq,rfl,?_,?_⟩
  ·rw[bY.out]
   exact HV6.out.keep (λg h=>.inl h) (λg hg=>hf g (by have:=(HS.out g hg).1;omega))
  ·exact((Chg.of_below LB.out).trans C6.out).set4 _ _ _ _ (by omega)
 ·have dT:=HPT.out
  rw[Am h0]at dT
  have bY:=CS dT;have t0:((al:Int)==0)=false:=by rw[AG];intro e;simp at e;omega
  have vI:=CS (zjR u Su _ w6 HU6.out (λg hg=>by have:=(gC.out g hg).1;omega) iP.out qK);obtain⟨n1,gH⟩:∃n1,(zav u).length=n1:=⟨_,rfl⟩;have kf:=CS gH;rw[gH]at vI
  clear h0 dT gH yg;go_wp2_with fail
  refine vI.out.mono ?_;rintro e w7 ⟨A1,c1,rfl,ai,cg,b7⟩;have kG:=b7.size;have bH:w7.ownsRow w6.heap.size 9 1 (.slice A1 (zav u).length c1) (zav u).length (strV (zav u)):=by rw[kf.out];exact ai
  have uR:=RowV.of_own bH;have aI:Hid (Calls Tryz.prog 41 #[.slice (some ⟨w7.heap.size,0,none⟩) 1 1] (w7.alloc (.cells #[.slice A1 n1 c1] 95)) λe w'=>e=.returned (.map (some (w7.heap.size+1)))/\MapE mkSet w' (w7.heap.size+1) (units (zav u))/\Below (w7.heap.size+1) (w7.alloc (.cells #[.slice A1 n1 c1] 95)) w'):=CS (by
   have h:=zir [zav u] w7.heap.size 1 (w7.alloc (.cells #[.slice A1 n1 c1] 95)) (λj hj=>by
    have jm:j=0:=by simp at hj;omega
    subst jm;refine⟨A1,c1,?_,?_⟩
    ·have:=Blk.cell (heap_alloc_new w7 (.cells #[.slice A1 n1 c1] 95)) 0
     rw[<-kf.out]at this ⊢
     exact this
    ·exact uR.below ((Below.refl _ w7).alloc (Ai _) _)) (by simp) (by intro x hx;exact zdJ u iP.out x (by simpa using hx)) (by simpa using(by rw[kf.out];omega:(zav u).length<=10000000)) (by simp)
   simp only[BE,Co,AU,size_alloc]at h;exact h)
  have RV1:=CS uR;have B7:=CS b7;clear ai bH uR b7 vI;go_wp2_with fail
  refine aI.out.mono ?_;rintro e w8 ⟨rfl,sM,b8⟩;have hs8:=b8.size;rw[size_alloc]at hs8
  obtain⟨w9,hw9⟩:∃W,w8.alloc (.cells #[.map (some (w7.heap.size+1))] 93)=W:=⟨_,rfl⟩;have b89:Below w8.heap.size w8 w9:=by rw[<-hw9];exact(Below.refl _ w8).alloc (Ai _) _
  have hs9:w9.heap.size=w8.heap.size+1:=by rw[<-hw9];exact size_alloc _ _
  have b79:Below w7.heap.size w7 w9:=(((Below.refl _ w7).alloc (Ai _) _).trans (b8.mono (BT _))).trans (b89.mono (by omega));have B9:=CS (B7.out.trans (b79.mono kG));have L9:Hid (Blk w9 w8.heap.size 93 #[.map (some (w7.heap.size+1))]):=CS (by rw[<-hw9];exact heap_alloc_new w8 _);have qw:=CS (sM.keep (b89.block _ sM.lt));have RV9:=CS (RV1.out.below b79);have k0:=K0.out.below B9.out K0.out.lt;obtain⟨g0,g1,g2,g3,g4,g5,g6,g7,g8⟩:=zaa k0;have HNA:=CS (znK t S _ w9 (HV6.out.keep (λ_ h=>h) (λg hg=>B9.out.block g (by have:=(HS.out g hg).1;omega))) (λg hg=>by have:=(HS.out g hg).1;omega) bK.out aD);obtain⟨n2,fw⟩:∃n2,(zaF t).length=n2:=⟨_,rfl⟩;have iB:=CS fw;rw[fw]at HNA
  clear sM b8 b89 b79 fw aI;go_wp2_with fail
  refine HNA.out.mono ?_;rintro e fN ⟨A2,c2,rfl,ai,dw,b10⟩;have hs10:=b10.size;have bH:fN.ownsRow w9.heap.size 9 1 (.slice A2 (zaF t).length c2) (zaF t).length (strV (zaF t)):=by rw[iB.out];exact ai
  have wF:=RowV.of_own bH;have wG:=RV9.out.below b10;have mz:Hid (Calls Tryz.prog 41 #[.slice (some ⟨fN.heap.size,0,none⟩) 2 2] (fN.alloc (.cells #[.slice A1 n1 c1,.slice A2 n2 c2] 95)) λe w'=>e=.returned (.map (some (fN.heap.size+1)))/\MapE mkSet w' (fN.heap.size+1) (units (zav u++zaF t))/\Below (fN.heap.size+1) (fN.alloc (.cells #[.slice A1 n1 c1,.slice A2 n2 c2] 95)) w'):=CS (by
   have h:=zir [zav u,zaF t] fN.heap.size 2 (fN.alloc (.cells #[.slice A1 n1 c1,.slice A2 n2 c2] 95)) (λj hj=>by
    have jm:j=0\/j=1:=by simp at hj;omega
    rcases jm with rfl|rfl
    ·refine⟨A1,c1,?_,?_⟩
     ·have:=Blk.cell (heap_alloc_new fN (.cells #[.slice A1 n1 c1,.slice A2 n2 c2] 95)) 0
      rw[<-kf.out]at this ⊢
      exact this
     ·exact wG.below ((Below.refl _ fN).alloc (Ai _) _)
    ·refine⟨A2,c2,?_,?_⟩
     ·have:=Blk.cell (heap_alloc_new fN (.cells #[.slice A1 n1 c1,.slice A2 n2 c2] 95)) 1
      rw[<-iB.out]at this ⊢
      exact this
     ·exact wF.below ((Below.refl _ fN).alloc (Ai _) _)) (by simp) (by
      intro x hx;simp only[BE,Co,AU,AA]at hx;rcases hx with hx|hx
      ·exact zdJ u iP.out x hx
      ·exact zix t bK.out x hx) (by simp only[BE,Co,AU,Ap];rw[kf.out,iB.out];omega) (by simp)
   simp only[BE,Co,AU,size_alloc]at h;exact h)
  have B10:=CS b10;clear ai bH wG wF b10 HNA;go_wp2_with fail
  refine mz.out.mono ?_;rintro e dI ⟨rfl,xo,yM⟩;have hs12:=yM.size;rw[size_alloc]at hs12
  have yL:Below w9.heap.size w9 dI:=(B10.out.alloc (by omega) _).trans (yM.mono (by omega));have zw:=CS (zfv 120 ⟨#[120]⟩ rfl (fN.heap.size+1) (zav u++zaF t) dI xo);have B12:=CS yL;clear xo yM yL mz;go_wp2_with fail
  refine zw.out.mono ?_;rintro e jH ⟨rfl,sF,b13⟩;have hs13:=b13.size;have hnl:=sF.num.lt;obtain⟨oW,pc⟩:∃W,jH.alloc (.cells #[newV dI.heap.size (dI.heap.size+2) (dI.heap.size+1)] 40)=W:=⟨_,rfl⟩;have b14:Below jH.heap.size jH oW:=by rw[<-pc];exact(Below.refl _ jH).alloc (Ai _) _
  have hs14:oW.heap.size=jH.heap.size+1:=by rw[<-pc];exact size_alloc _ _
  have L14:Blk oW jH.heap.size 40 #[newV dI.heap.size (dI.heap.size+2) (dI.heap.size+1)]:=by rw[<-pc];exact heap_alloc_new jH _
  have qi:Below w9.heap.size w9 oW:=(B12.out.trans (b13.mono (by omega))).trans (b14.mono (by omega));have fk:Below w6.heap.size w6 oW:=B9.out.trans (qi.mono (by omega));have tC:Below w5.heap.size w5 oW:=B6.out.trans (fk.mono (by omega));have tD:Chg KJ W4 oW:=C6.out.below fk;have kk0:=K0.out.below fk K0.out.lt;have oz:=K3.out.below fk K3.out.lt;obtain⟨m0,m1,m2,m3,m4,m5,m6,m7,m8⟩:=zaa kk0;have fI:∀g,KJ g->g<w.heap.size:=oS.out;have oC:PutI ⟨dI.heap.size,dI.heap.size+2,dI.heap.size+1,fN.heap.size+1,w5.heap.size,rg,w8.heap.size,w7.heap.size+1,jH.heap.size,w.heap.size+1+1,w.heap.size+1⟩ kp cp J KJ Su u #[.int .i64 K',.string X',.int .i64 Z',.slice A' m' rJ] (zav u) (zav u++zaF t) (10000000-t.fas) (wi,0) oW :=
   {new:=sF.below b14
    left:=⟨A5,c5,by rw[oR.out];exact L4.out.below fk L4.out.lt,by rw[oR.out];exact mF,λh0=>⟨0,(zr.out (by rw[<-oR.out];exact h0)).1,λj hj=>(World.cell?_of_block (w:=w5) (a:=⟨rg,0+j,none⟩) (tC.block rg pB)).trans ((zr.out (by rw[<-oR.out];exact h0)).2 j hj)⟩⟩
    rgl:=by show rg<_;omega
    fc:=L9.out.below qi L9.out.lt
    fs:=qw.out.keep (qi.block _ qw.out.lt)
    nc:=L14
    isp:=L2.out.chg tD (λh=>by have:=fI _ h;omega)
    ub:=K1.out.below fk K1.out.lt
    ur:=HU6.out.keep (λ_ h=>h) (λg hg=>fk.block g (by have:=(gC.out g hg).1;omega))
    jj:=hJ w6 _ HJ6.out (λg hg=>fk.block g (by have:=fI g hg;omega))
    kj:=λg hg=>by have:=fI g hg;omega
    su:=λg hg=>by have:=(gC.out g hg).1;omega
    tab:=HT6.out.below fk
    len:=AV _
    full:=by have:=HWL.out;have:=zbN t;show 10000000<=wi.length+(10000000-t.fas);omega }
  have hap:PutB.Apart ⟨dI.heap.size,dI.heap.size+2,dI.heap.size+1,fN.heap.size+1,w5.heap.size,rg,w8.heap.size,w7.heap.size+1,jH.heap.size,w.heap.size+1+1,w.heap.size+1⟩ KJ Su :=
   {nb:=by refine⟨?_,?_,?_,?_,?_,?_,?_,?_,?_,?_,?_,λh=>?_,λh=>?_⟩;all_goals (try show _≠_);all_goals first|(have:=fI _ h;simp at this;omega)|(have:=(gC.out _ h).1;simp at this;omega)|(simp only;omega)
    pw:=by refine⟨?_,?_,?_,?_,?_,?_,?_,?_,?_,?_,?_,λh=>?_,λh=>?_⟩;all_goals (try show _≠_);all_goals first|(have:=fI _ h;simp at this;omega)|(have:=(gC.out _ h).1;simp at this;omega)|(simp only;omega) }
  have dy:∀g,PutB.M ⟨dI.heap.size,dI.heap.size+2,dI.heap.size+1,fN.heap.size+1,w5.heap.size,rg,w8.heap.size,w7.heap.size+1,jH.heap.size,w.heap.size+1+1,w.heap.size+1⟩ g->g=dI.heap.size+2\/g=w5.heap.size:=λg h=>h;have jr:=zf7 114 115 #[.pointer (some ⟨w5.heap.size,0,none⟩),.pointer (some ⟨w8.heap.size,0,none⟩),.pointer (some ⟨jH.heap.size,0,none⟩)] #[.pointer (some ⟨w.heap.size+1+1,0,none⟩),.pointer (some ⟨w.heap.size+1,0,none⟩)]
   (PutI ⟨dI.heap.size,dI.heap.size+2,dI.heap.size+1,fN.heap.size+1,w5.heap.size,rg,w8.heap.size,w7.heap.size+1,jH.heap.size,w.heap.size+1+1,w.heap.size+1⟩ kp cp J KJ Su u #[.int .i64 K',.string X',.int .i64 Z',.slice A' m' rJ] (zav u) (zav u++zaF t))
   (PutB.K ⟨dI.heap.size,dI.heap.size+2,dI.heap.size+1,fN.heap.size+1,w5.heap.size,rg,w8.heap.size,w7.heap.size+1,jH.heap.size,w.heap.size+1+1,w.heap.size+1⟩ KJ Su)
   (PutB.M ⟨dI.heap.size,dI.heap.size+2,dI.heap.size+1,fN.heap.size+1,w5.heap.size,rg,w8.heap.size,w7.heap.size+1,jH.heap.size,w.heap.size+1+1,w.heap.size+1⟩) Su
   (zaD (zav u) (zav u++zaF t)) (λl=>if ak l=true then u else l) (PutI.inv _ kp cp J KJ Su u _ _ _ hJ)
   (λg h=>by rcases dy g h with rfl|rfl <;> simp[PutB.K])
   (λg h=>⟨by simp[PutB.K,h],λh2=>by have:=(gC.out g h).1;rcases dy g h2 with h3|h3 <;> omega⟩)
   (enters_of Tryz.func114 (by kernel_rfl) rfl) (enters_of Tryz.func115 (by kernel_rfl) rfl)
   (zpi _ kp cp J KJ Su u _ _ _ hJ hap (by rw[Ap,kf.out,iB.out];omega)) (zpj _ kp cp J KJ Su u _ _ _ _ _ _ _ _ ak hJ ep HP)
   (10000000-t.fas) (wi,0) t S _ oW oC (HV6.out.keep (λ_ h=>h) (λg hg=>fk.block g (by have:=(HS.out g hg).1;omega)))
   (λg hg=>⟨by have:=(HS.out g hg).1;omega,λh2=>by have:=(HS.out g hg).1;rcases dy g h2 with h3|h3 <;> omega⟩) bK.out aD (by have:=zbN t;omega)
  unfold fnV at jr;have zU:=CS jr;have B514:=CS tC;have C414:=CS tD;have KK3:=CS oz;have HMK:=CS dy;clear oC hap jr dy kk0 oz tD tC fk qi b14 L14 b13 sF zw;unfold newV at pc ⊢;go_wp2_with fail
  refine zU.out.mono ?_;rintro e w15 ⟨k',x',z',a',m',q',rfl,hr,-,qh⟩;rw[<-bY.out]at hr
  have hs15:=qh.size;have oz:=Blk.chg KK3.out qh (λh=>by rcases HMK.out _ h with h|h <;> omega);obtain⟨i0,i1,i2,i3,i4,i5,i6,i7,i8⟩:=zaa oz;have HR:=CS hr;have C15:=CS qh;have K15:=CS oz;clear hr qh oz zU;go_wp2_with fail
  have hb:=zah (.int .i64 k') (.string x') (.int .i64 z') (.slice a' m' q') K15.out;have hf:∀g,g≠w.heap.size+1+1+1->((((w15.setCell ⟨w.heap.size+1+1+1,0,none⟩ (.int .i64 k')).setCell ⟨w.heap.size+1+1+1,1,none⟩ (.string x')).setCell ⟨w.heap.size+1+1+1,2,none⟩ (.int .i64 z')).setCell ⟨w.heap.size+1+1+1,3,none⟩ (.slice a' m' q')).heap[g]?=w15.heap[g]?:=λg hg=>zat _ _ _ _ _ _ _ hg;have hfs:((((w15.setCell ⟨w.heap.size+1+1+1,0,none⟩ (.int .i64 k')).setCell ⟨w.heap.size+1+1+1,1,none⟩ (.string x')).setCell ⟨w.heap.size+1+1+1,2,none⟩ (.int .i64 z')).setCell ⟨w.heap.size+1+1+1,3,none⟩ (.slice a' m' q')).heap.size=w15.heap.size:=by simp
  refine bodyPost_ret (results_cell_row rfl _ _ (w.heap.size+1+1+1) 37 _ (0,0) _ rfl hb Tryz.underlying37 rfl (by kernel_rfl)) rfl ⟨k',x',z',a',m',q',rfl,?_,?_⟩
  ·exact HR.out.keep (λg h=>by rcases h with h|h;exact .inr (.inl h);exact .inr (.inr ⟨by omega,by rw[hfs];exact h.2⟩)) (λg hg=>hf g (by rcases hg with h|h;(have:=(gC.out g h).1;omega);omega))
  ·exact((((Chg.of_below LB.out).trans C414.out).trans' C15.out (λg hg h=>by rcases HMK.out _ h with h|h <;> omega))).set4 _ _ _ _ (by omega)
end Go.Proofs.YtfafilmklhnngaaGreatDoor
namespace Go.Proofs.YtfafilmklhnngaaGreatDoor
open Go.RowKit Lx Tx Go.Maps Go.WideMaps Go.Shelf
set_option maxRecDepth 100000
def QPst(S Su:Nat->Prop)(t:Ty)(w:World)(e:Ending)(w':World):Prop :=
 ∃k x z a m q,e=.returned (.agg #[.int .i64 k,.string x,.int .i64 z,.slice a m q])/\RdV (λg=>S g\/Su g\/(w.heap.size<=g/\g<w'.heap.size)) w' t (.agg #[.int .i64 k,.string x,.int .i64 z,.slice a m q])/\Below w.heap.size w w'
theorem zpk(t u:Ty)(n:Int)(S Su:Nat->Prop)(v uv:Value)(w:World)(hv:RdV S w t v)(hu:RdV Su w u uv)(hS:∀g,S g->g<w.heap.size)(bX:∀g,Su g->g<w.heap.size)(az:Nm t)(cK:Nm u)(aD:t.size<=1000000)(qK:u.size<=1000000)(ht:Tab w):Calls Tryz.prog 27 #[v,.int .i64 n,uv] w (QPst S Su (putT (isPM n) t u) w):=by
 obtain⟨K,X,Z,A,m,cq,rfl,-,-,-,-,-⟩:=hv.parts;obtain⟨K',X',Z',A',m',rJ,rfl,-,-,-,-,-⟩:=hu.parts;have iI:∀(fn:Fn) (first cap:Array Value) (w:World),(Instr.makeFunc fn first cap).run Tryz.prog w=.ok (.func fn first cap) w:=λ_ _ _ _=>rfl;obtain⟨l0,l1,l2,l3,ls,lb⟩:=zcU w (.cells #[.int .i64 K,.string X,.int .i64 Z,.slice A m cq] 37) (.cells #[.int .i64 n] 3) (.cells #[.int .i64 K',.string X',.int .i64 Z',.slice A' m' rJ] 37) (.cells #[.int .i64 0,.string ⟨#[]⟩,.int .i64 0,.slice none 0 0] 37);obtain⟨W4,iN⟩:∃W,(((w.alloc (.cells #[.int .i64 K,.string X,.int .i64 Z,.slice A m cq] 37)).alloc (.cells #[.int .i64 n] 3)).alloc (.cells #[.int .i64 K',.string X',.int .i64 Z',.slice A' m' rJ] 37)).alloc (.cells #[.int .i64 0,.string ⟨#[]⟩,.int .i64 0,.slice none 0 0] 37)=W:=⟨_,rfl⟩;rw[iN]at l0 l1 l2 l3 ls lb
 have pq:=ht.lt;have iA:=CS (zpX 66 #[.pointer (some ⟨w.heap.size+1,0,none⟩)] (λw'=>Blk w' (w.heap.size+1) 3 #[.int .i64 n]) (only (w.heap.size+1)) (isPM n) (λa b h hk=>Blk.same h (hk _ rfl)) (enters_of Tryz.func66 (by kernel_rfl) rfl) (znU (w.heap.size+1) n)
  t u S Su _ _ W4 l1 (λg hg=>by have hg:g=w.heap.size+1:=hg;omega) (hv.keep (λ_ h=>h) (λg hg=>lb.block g (hS g hg))) (hu.keep (λ_ h=>h) (λg hg=>lb.block g (bX g hg)))
  (λg hg=>⟨by have:=hS g hg;omega,λh=>by have:=hS g hg;have h:g=w.heap.size+1:=h;omega⟩) (λg hg=>⟨by have:=bX g hg;omega,λh=>by have:=bX g hg;have h:g=w.heap.size+1:=h;omega⟩) az cK aD qK (ht.below lb) (λh=>by have h:0=w.heap.size+1:=h;omega))
 obtain⟨p0,p1,p2,p3,p4,p5,p6,p7,p8⟩:=zaa (show Blk W4 w.heap.size 37 _ from l0);obtain⟨q0,q1,q2,q3,q4,q5,q6,q7,q8⟩:=zaa (show Blk W4 (w.heap.size+1+1) 37 _ from l2);have L3:Hid (Blk W4 (w.heap.size+1+1+1) 37 #[.int .i64 0,.string ⟨#[]⟩,.int .i64 0,.slice none 0 0]):=CS l3;have LS:=CS ls;have LB:=CS lb;have HS:=CS hS;have gC:=CS bX;obtain⟨R,hR⟩:∃R,putT (isPM n) t u=R:=⟨_,rfl⟩;rw[hR]at iA ⊢
 unfold fnV at iA;clear hv hu hS bX az cK ht l0 l1 l2 l3 ls lb hR;go_enter Tryz.func27,Tryz.ntmps27
 go_wp2_with fail
 refine iA.out.mono ?_;rintro e w5 ⟨k',x',z',a',m',q',rfl,hr,c5⟩;have ej:=c5.size;rw[LS.out]at ej
 have oz:=Blk.chg L3.out c5 (λh=>by have h:w.heap.size+1+1+1=w.heap.size+1:=h;omega);obtain⟨i0,i1,i2,i3,i4,i5,i6,i7,i8⟩:=zaa oz;have HR:=CS hr;have C5:=CS c5;have K5:=CS oz;clear hr c5 oz iA;go_wp2_with fail
 have hb:=zah (.int .i64 k') (.string x') (.int .i64 z') (.slice a' m' q') K5.out;have hf:∀g,g≠w.heap.size+1+1+1->((((w5.setCell ⟨w.heap.size+1+1+1,0,none⟩ (.int .i64 k')).setCell ⟨w.heap.size+1+1+1,1,none⟩ (.string x')).setCell ⟨w.heap.size+1+1+1,2,none⟩ (.int .i64 z')).setCell ⟨w.heap.size+1+1+1,3,none⟩ (.slice a' m' q')).heap[g]?=w5.heap[g]?:=λg hg=>zat _ _ _ _ _ _ _ hg;have hfs:((((w5.setCell ⟨w.heap.size+1+1+1,0,none⟩ (.int .i64 k')).setCell ⟨w.heap.size+1+1+1,1,none⟩ (.string x')).setCell ⟨w.heap.size+1+1+1,2,none⟩ (.int .i64 z')).setCell ⟨w.heap.size+1+1+1,3,none⟩ (.slice a' m' q')).heap.size=w5.heap.size:=by simp
 refine bodyPost_ret (results_cell_row rfl _ _ (w.heap.size+1+1+1) 37 _ (0,0) _ rfl hb Tryz.underlying37 rfl (by kernel_rfl)) rfl ⟨k',x',z',a',m',q',rfl,?_,?_⟩
 ·refine HR.out.keep (λg h=>?_) (λg h=>hf g ?_)
  ·rcases h with h|h|h
   ·exact .inl h
   ·exact .inr (.inl h)
   ·exact .inr (.inr ⟨by have:=LS.out;omega,by rw[hfs];exact h.2⟩)
  ·rcases h with h|h|h
   ·have:=HS.out g h;omega
   ·have:=gC.out g h;omega
   ·have:=LS.out;omega
 ·refine zak ?_ _ _ _ _ (by omega)
  exact LB.out.trans (C5.out.toBelow (by have:=LS.out;omega) (λk hk h=>by have h:k=w.heap.size+1:=h;omega))
end Go.Proofs.YtfafilmklhnngaaGreatDoor
namespace Go.Proofs.YtfafilmklhnngaaGreatDoor
open Go.RowKit Lx Tx Go.Maps Go.WideMaps Go.Shelf
set_option maxRecDepth 100000
theorem zkU {s:List UInt8} {n:Nat}(h:parse s=.error n):n≠0:=by
 intro e;subst e;unfold parse at h;obtain⟨⟨ts,l,er⟩,hq⟩:∃p,zbk s=p:=⟨_,rfl⟩;rw[hq]at h
 cases er with
 |zero =>
  simp only at h;split at h
  ·split at h
   ·injection h with h;omega
   ·cases h
  ·injection h with h;omega
 |succ k =>
  simp at h
section
variable {N:Nat} {w:World} {g:Nat} {t:Ty} {K:Int} {X:ByteArray} {Z:Int} {A:Option Addr} {m c:Nat}
end
section
variable {N N':Nat} {w:World} {t u:Ty} {v uv:Value}
end
end Go.Proofs.YtfafilmklhnngaaGreatDoor
namespace Go.Proofs.YtfafilmklhnngaaGreatDoor
open Go.RowKit Lx Tx
set_option maxRecDepth 100000
mutual
def cnt(ak:Ty->Bool)(env:List Name):Ty->Nat
 |.var x=>if x∉env/\ak (.var x)=true then 1 else 0
 |.mt n=>if ak (.mt n)=true then 1 else 0
 |.con _ l=>cntL ak env l
 |.fn a b=>cnt ak env a+cnt ak env b
 |.all x t=>cnt ak (x::env) t
def cntL(ak:Ty->Bool)(env:List Name):List Ty->Nat
 |[]=>0
 |t::r=>cnt ak env t+cntL ak env r
end
mutual
def pls(ak:Ty->Bool)(env:List Name):Ty->List Nat
 |.var _=>[]
 |.mt _=>[]
 |.con _ l=>plsL ak env l
 |.fn a b=>pls ak env a++pls ak env b
 |.all x t=>cnt ak (x::env) t::pls ak (x::env) t
def plsL(ak:Ty->Bool)(env:List Name):List Ty->List Nat
 |[]=>[]
 |t::r=>pls ak env t++plsL ak env r
end
mutual
theorem zdU(ak:Ty->Bool):(t:Ty)->∀(env:List Name)(s:Pl),thr (plCome ak) plLeave env t s=⟨s.ar,s.wi++pls ak env t,s.al+cnt ak env t⟩
 |.var x,env,s=>by
  rw[thr,cnt,pls,AU]
  show plCome ak env (.var x) s=_;unfold plCome;rw[Am (show ¬kd (Ty.var x)=5 from λh=>by simp[kd]at h)]
  have hl:(isLf env (.var x)=true/\ak (.var x)=true)↔(x∉env/\ak (.var x)=true):=by
   show(decide (x∉env)=true/\_)↔_;rw[Cr]
  by_cases h:x∉env/\ak (.var x)=true
  ·rw[Aq (hl.2 h),Aq h]
  ·rw[Am (λe=>h (hl.1 e)),Am h];rfl
 |.mt n,env,s=>by
  rw[thr,cnt,pls,AU]
  show plCome ak env (.mt n) s=_;unfold plCome;rw[Am (show ¬kd (Ty.mt n)=5 from λh=>by simp[kd]at h)]
  by_cases h:ak (.mt n)=true
  ·rw[Aq ⟨rfl,h⟩,Aq h]
  ·rw[Am (λe=>h e.2),Am h];rfl
 |.con c l,env,s=>by
  rw[thr,cnt,pls]
  show thrL (plCome ak) plLeave env l (plCome ak env (.con c l) s)=_;rw[show plCome ak env (.con c l) s=s from(Am (λh=>by simp[kd]at h)).trans (Am (λe=>by cases e.1))]
  exact ziA ak l env s
 |.fn a b,env,s=>by
  rw[thr,cnt,pls]
  show thr (plCome ak) plLeave env b (thr (plCome ak) plLeave env a (plCome ak env (.fn a b) s))=_;rw[show plCome ak env (.fn a b) s=s from(Am (λh=>by simp[kd]at h)).trans (Am (λe=>by cases e.1)),zdU ak a,zdU ak b]
  simp only[Bj,BH]
 |.all x t,env,s=>by
  rw[thr,cnt,pls,zcV ak env (.all x t) s rfl,zdU ak t]
  show plLeave env (.all x t) _=_;unfold plLeave;rw[Aq (show kd (Ty.all x t)=5 from rfl)]
  have h1:(s.ar++[s.wi.length]).getD ((s.ar++[s.wi.length]).length-1) 0=s.wi.length:=by simp
  simp only[h1];congr 1
  ·simp
  ·rw[Bj,AO,AW (Ai _)]
   rw[List.set_append_right _ _ (Ai _)]
   simp
theorem ziA(ak:Ty->Bool):(l:List Ty)->∀(env:List Name)(s:Pl),thrL (plCome ak) plLeave env l s=⟨s.ar,s.wi++plsL ak env l,s.al+cntL ak env l⟩
 |[],env,s=>by rw[thrL,cntL,plsL,AU];rfl
 |t::r,env,s=>by
  rw[thrL,cntL,plsL,zdU ak t,ziA ak r]
  simp only[Bj,BH]
end
theorem zjA(ak:Ty->Bool)(t:Ty):placesOf ak t=⟨[],pls ak [] t,cnt ak [] t⟩:=by
 unfold placesOf;rw[zdU]
 simp
mutual
def NIn(but:List Name):Ty->Prop
 |.var x=>x∈but
 |.mt _=>True
 |.con _ l=>NInL but l
 |.fn a b=>NIn but a/\NIn but b
 |.all x t=>x∈but/\NIn but t
def NInL(but:List Name):List Ty->Prop
 |[]=>True
 |t::r=>NIn but t/\NInL but r
end
section
variable (ak:Ty->Bool) (u:Ty) (but free:List Name)
def Fu(ak:Ty->Bool)(u:Ty)(x:Name):Dt:=if ak (.var x)=true then db [] u else .fv x
def Gu(ak:Ty->Bool)(u:Ty)(n:Nat):Dt:=if ak (.mt n)=true then db [] u else .mt n
mutual
theorem zdf:(t:Ty)->∀env,cnt ak env t=0->repD (Fu ak u) (Gu ak u) (db env t)=db env t
 |.var x,env,h=>by
  rw[db]
  cases hi:idx x env with
  |some i=>rw[repD]
  |none =>
   rw[cnt]at h
   have hx:x∉env:=(zcq x env).1 hi;rw[repD,Fu,Am]
   intro hp;rw[Aq ⟨hx,hp⟩]at h
   exact absurd h (by decide)
 |.mt n,env,h=>by
  rw[cnt]at h
  rw[db,repD,Gu,Am]
  intro hp;rw[Aq hp]at h
  exact absurd h (by decide)
 |.con c l,env,h=>by rw[cnt]at h;rw[db,repD,zhq l env h]
 |.fn a b,env,h=>by
  rw[cnt]at h
  rw[db,repD,zdf a env (by omega),zdf b env (by omega)]
 |.all x t,env,h=>by rw[cnt]at h;rw[db,repD,zdf t (x::env) h]
theorem zhq:(l:List Ty)->∀env,cntL ak env l=0->zaU (Fu ak u) (Gu ak u) (dbL env l)=dbL env l
 |[],env,h=>by rw[dbL,zaU]
 |t::r,env,h=>by
  rw[cntL]at h
  rw[dbL,zaU,zdf t env (by omega),zhq r env (by omega)]
end
structure Ren (env:List (Name × Name)) (xs ys:List Name) (k:Nat):Prop where
 lk:∀x,look x env=(idx x xs).map λi=>ys.getD i []
 hit:∀x∈but,∀i,idx x xs=some i->i<ys.length/\idx (ys.getD i []) ys=some i
 miss:∀x∈but,idx x xs=none->x∉ys
 kept:∀(i:Nat) (y:Name),ys[i]?=some y->y∈but->xs[i]?=some y
 made:∀y∈ys,y∈but\/∃j,j<k/\y=nm 120 j
theorem Ren.nil:Ren but [] [] [] 0 where
 lk x:=rfl
 hit x _ i h:=by simp[idx]at h
 miss x _ _ h:=(AT h).elim
 kept i y h:=by simp at h
 made y h:=(AT h).elim
theorem zhr {env:List (Name × Name)} {xs ys:List Name}(h:∀x,look x env=(idx x xs).map λi=>ys.getD i [])(x y z:Name):look z ((x,y)::env)=(idx z (x::xs)).map λi=>(y::ys).getD i []:=by
 rw[look,idx]
 by_cases hz:x=z
 ·rw[Aq hz,Aq hz.symm];rfl
 ·rw[Am hz,Am (λe=>hz e.symm),h z]
  cases idx z xs <;> rfl
theorem Ren.keep {env:List (Name × Name)} {xs ys:List Name} {k:Nat}(h:Ren but env xs ys k)(x:Name)(hx:x∈but):Ren but ((x,x)::env) (x::xs) (x::ys) k where
 lk:=zhr h.lk x x
 hit z hz i hi:=by
  rw[idx]at hi
  by_cases e:z=x
  ·rw[Aq e]at hi
   injection hi with hi;subst hi;exact⟨by simp,by rw[List.getD_cons_zero,idx,Aq rfl]⟩
  ·rw[Am e]at hi
   cases hj:idx z xs with
   |none=>rw[hj]at hi;cases hi
   |some j =>
    rw[hj]at hi
    injection hi with hi;subst hi;obtain⟨h1,h2⟩:=h.hit z hz j hj;refine⟨by simp;omega,?_⟩;rw[List.getD_cons_succ,idx,Am,h2]
    ·rfl
    ·intro he
     have hy:ys[j]?=some x:=by rw[Ak h1,<-he,AO,Ak h1];rfl
     have hxs:=h.kept j x hy hx;have ah:=zeW z xs j hj;have:xs.getD j []=z:=by
      have key:∀(l:List Name) (j:Nat),idx z l=some j->l.getD j []=z:=by
       intro l;induction l with
       |nil=>intro j h;simp[idx]at h
       |cons a r ih =>
        intro j h;rw[idx]at h
        by_cases e:z=a
        ·rw[Aq e]at h;injection h with h;subst h;simp[e]
        ·rw[Am e]at h
         cases hr:idx z r with
         |none=>rw[hr]at h;cases h
         |some q=>rw[hr]at h;injection h with h;subst h;simpa using ih q hr
      exact key xs j hj
     rw[AO,hxs]at this
     exact e this.symm
 miss z hz hi hm:=by
  rw[idx]at hi
  by_cases e:z=x
  ·rw[Aq e]at hi;cases hi
  ·rw[Am e]at hi
   rcases An.1 hm with hm|hm
   ·exact e hm
   ·exact h.miss z hz (by cases hj:idx z xs with|none=>rfl|some j=>rw[hj]at hi;cases hi) hm
 kept i y hi hy:=by
  cases i with
  |zero=>exact hi
  |succ i=>exact h.kept i y hi hy
 made y hy:=by
  rcases An.1 hy with rfl|hy
  ·exact .inl hx
  ·exact h.made y hy
theorem Ren.more {env:List (Name × Name)} {xs ys:List Name} {k k':Nat}(h:Ren but env xs ys k)(hk:k<=k'):Ren but env xs ys k' :=
 {h with made:=λy hy=>by rcases h.made y hy with h|⟨j,h1,h2⟩;exact .inl h;exact .inr ⟨j,by omega,h2⟩ }
theorem Ren.fresh {env:List (Name × Name)} {xs ys:List Name} {k:Nat}(h:Ren but env xs ys k)(x:Name)(hb:k+but.length+1<10 ^ 15):Ren but ((x,nm 120 (zau 120 but k))::env) (x::xs) (nm 120 (zau 120 but k)::ys) (zau 120 but k+1):=by
 obtain⟨n0,n1,n2⟩:=zbl 120 but k (by omega);have hny:nm 120 (zau 120 but k)∉ys:=λhm=>by
  rcases h.made _ hm with hm|⟨j,h1,h2⟩
  ·exact n0 hm
  ·have:=zmj 120 _ _ (by omega) (by omega) h2;omega
 refine { lk:=zhr h.lk x _,hit:=λz hz i hi=>?_,miss:=λz hz hi hm=>?_,kept:=λi y hi hy=>?_,made:=λy hy=>?_ }
 ·rw[idx]at hi
  by_cases e:z=x
  ·rw[Aq e]at hi
   injection hi with hi;subst hi;exact⟨by simp,by rw[List.getD_cons_zero,idx,Aq rfl]⟩
  ·rw[Am e]at hi
   cases hj:idx z xs with
   |none=>rw[hj]at hi;cases hi
   |some j =>
    rw[hj]at hi
    injection hi with hi;subst hi;obtain⟨h1,h2⟩:=h.hit z hz j hj;refine⟨by simp;omega,?_⟩;rw[List.getD_cons_succ,idx,Am,h2]
    ·rfl
    ·intro he
     exact hny (by rw[<-he];exact ziD ys j h1)
 ·rw[idx]at hi
  by_cases e:z=x
  ·rw[Aq e]at hi;cases hi
  ·rw[Am e]at hi
   rcases An.1 hm with hm|hm
   ·exact n0 (by rw[<-hm];exact hz)
   ·exact h.miss z hz (by cases hj:idx z xs with|none=>rfl|some j=>rw[hj]at hi;cases hi) hm
 ·cases i with
  |zero =>
   injection hi with hi;exact absurd (by rw[hi];exact hy) n0
  |succ i=>exact h.kept i y hi hy
 ·rcases An.1 hy with rfl|hy
  ·exact .inr ⟨_,by omega,rfl⟩
  ·rcases h.made y hy with h|⟨j,h1,h2⟩
   ·exact .inl h
   ·exact .inr ⟨j,by omega,h2⟩
def Goal(ys:List Name)(d:Dt)(k f:Nat)(rest:List Nat)(r:Ty ×(List Nat × Nat)):Prop :=
 db ys r.1=repD (Fu ak u) (Gu ak u) d/\r.2.1=rest/\k<=r.2.2/\r.2.2<=k+f*(but.length+1)
def zqj(ys:List Name)(d:List Dt)(k f:Nat)(rest:List Nat)(r:List Ty ×(List Nat × Nat)):Prop :=
 dbL ys r.1=zaU (Fu ak u) (Gu ak u) d/\r.2.1=rest/\k<=r.2.2/\r.2.2<=k+f*(but.length+1)
end
mutual
theorem zc5(ak:Ty->Bool)(u:Ty)(but free:List Name)(hf:∀x,FvOcc x (db [] u)->x∈free)(iq:∀x∈free,x∈but):(t:Ty)->∀(env:List (Name × Name))(xs ys:List Name)(k:Nat)(rest:List Nat),
  Ren but env xs ys k->NIn but t->(0<cnt ak xs t->∀y∈ys,y∉free)->k+(t.fas+1)*(but.length+1)<10 ^ 15 ->
  Goal ak u but ys (db xs t) k t.fas rest (chg (zaD free but) (λl=>if ak l=true then u else l) env t (pls ak xs t++rest,k))
 |.var x,env,xs,ys,k,rest,hr,hn,hp,_=>by
  rw[NIn]at hn
  rw[chg,pls,hr.lk,Ty.fas,db]
  refine⟨?_,rfl,Ai _,BK _ _⟩;cases hi:idx x xs with
  |some i =>
   show db ys (.var (ys.getD i []))=_;rw[db,(hr.hit x hn i hi).2,repD]
  |none =>
   show db ys (if ak (.var x)=true then u else .var x)=_;rw[repD,Fu]
   by_cases hq:ak (.var x)=true
   ·rw[Aq hq,Aq hq]
    refine ziJ ys u (λz hz hm=>hp ?_ z hm (hf z hz));rw[cnt,Aq ⟨(zcq x xs).1 hi,hq⟩]
    exact Nat.one_pos
   ·rw[Am hq,Am hq,db,(zcq x ys).2 (hr.miss x hn hi)]
 |.mt n,env,xs,ys,k,rest,hr,hn,hp,_=>by
  rw[chg,pls,Ty.fas,db]
  refine⟨?_,rfl,Ai _,BK _ _⟩;rw[repD,Gu]
  show db ys (if ak (.mt n)=true then u else .mt n)=_;by_cases hq:ak (.mt n)=true
  ·rw[Aq hq,Aq hq]
   refine ziJ ys u (λz hz hm=>hp ?_ z hm (hf z hz));rw[cnt,Aq hq]
   exact Nat.one_pos
  ·rw[Am hq,Am hq,db]
 |.con c l,env,xs,ys,k,rest,hr,hn,hp,hb=>by
  rw[NIn]at hn
  rw[cnt]at hp
  rw[Ty.fas]at hb ⊢
  obtain⟨h1,h2,h3,h4⟩:=ziB ak u but free hf iq l env xs ys k rest hr hn hp hb;rw[chg,pls,db]
  exact⟨by show db ys (.con c _)=_;rw[db,repD,h1],h2,h3,h4⟩
 |.fn a b,env,xs,ys,k,rest,hr,hn,hp,hb=>by
  rw[NIn]at hn
  rw[cnt]at hp
  rw[Ty.fas]at hb ⊢
  have e:(a.fas+b.fas+1)*(but.length+1)=a.fas*(but.length+1)+(b.fas+1)*(but.length+1):=by rw[<-AI,BH]
  have e3:(b.fas+1)*(but.length+1)=b.fas*(but.length+1)+(but.length+1):=by rw[AI,Bb]
  have e4:(a.fas+1)*(but.length+1)=a.fas*(but.length+1)+(but.length+1):=by rw[AI,Bb]
  obtain⟨h1,h2,h3,h4⟩:=zc5 ak u but free hf iq a env xs ys k (pls ak xs b++rest) hr hn.1 (λh=>hp (by omega)) (by omega);have hs:(chg (zaD free but) (λl=>if ak l=true then u else l) env a (pls ak xs a++(pls ak xs b++rest),k)).2=(pls ak xs b++rest,(chg (zaD free but) (λl=>if ak l=true then u else l) env a (pls ak xs a++(pls ak xs b++rest),k)).2.2):=Prod.ext h2 rfl;obtain⟨j1,j2,j3,j4⟩:=zc5 ak u but free hf iq b env xs ys _ rest (hr.more but h3) hn.2 (λh=>hp (by omega)) (by omega);rw[chg,pls,db,Bj,hs]
  refine⟨by show db ys (.fn _ _)=_;rw[db,repD,h1,j1],j2,AB h3 j3,AB j4 ?_⟩;rw[AI];omega
 |.all x t,env,xs,ys,k,rest,hr,hn,hp,hb=>by
  rw[NIn]at hn
  rw[cnt]at hp
  rw[Ty.fas]at hb ⊢
  have e4:(t.fas+1+1)*(but.length+1)=t.fas*(but.length+1)+(but.length+1)+(but.length+1):=by rw[AI,AI,Bb]
  have e5:(t.fas+1)*(but.length+1)=t.fas*(but.length+1)+(but.length+1):=by rw[AI,Bb]
  rw[chg,pls,db]
  by_cases hc:x∈free/\0<cnt ak (x::xs) t
  ·have iv:zaD free but x ((cnt ak (x::xs) t::pls ak (x::xs) t)++rest,k)=(nm 120 (zau 120 but k),(pls ak (x::xs) t++rest,zau 120 but k+1)):=by
    unfold zaD;rw[Aq ⟨hc.1,hc.2⟩];rfl
   rw[iv]
   obtain⟨n0,n1,n2⟩:=zbl 120 but k (by omega);obtain⟨h1,h2,h3,h4⟩:=zc5 ak u but free hf iq t _ (x::xs) (nm 120 (zau 120 but k)::ys) (zau 120 but k+1) rest (hr.fresh but x (by omega)) hn.2 (λh y hy=>by
    rcases An.1 hy with rfl|hy
    ·exact λhm=>n0 (iq _ hm)
    ·exact hp h y hy) (by omega)
   exact⟨by show db ys (.all _ _)=_;rw[db,repD,h1],h2,AB (by omega) h3,AB h4 (by omega)⟩
  ·have iv:zaD free but x ((cnt ak (x::xs) t::pls ak (x::xs) t)++rest,k)=(x,(pls ak (x::xs) t++rest,k)):=by
    unfold zaD;rw[Am (λh=>hc ⟨h.1,h.2⟩)];rfl
   rw[iv]
   obtain⟨h1,h2,h3,h4⟩:=zc5 ak u but free hf iq t _ (x::xs) (x::ys) k rest (hr.keep but x hn.1) hn.2 (λh y hy=>by
    rcases An.1 hy with rfl|hy
    ·exact λhm=>hc ⟨hm,h⟩
    ·exact hp h y hy) (by omega)
   exact⟨by show db ys (.all _ _)=_;rw[db,repD,h1],h2,AB (by omega) h3,AB h4 (by omega)⟩
theorem ziB(ak:Ty->Bool)(u:Ty)(but free:List Name)(hf:∀x,FvOcc x (db [] u)->x∈free)(iq:∀x∈free,x∈but):(l:List Ty)->∀(env:List (Name × Name))(xs ys:List Name)(k:Nat)(rest:List Nat),
  Ren but env xs ys k->NInL but l->(0<cntL ak xs l->∀y∈ys,y∉free)->k+(fasL l+1)*(but.length+1)<10 ^ 15 ->
  zqj ak u but ys (dbL xs l) k (fasL l) rest (chgL (zaD free but) (λl=>if ak l=true then u else l) env l (plsL ak xs l++rest,k))
 |[],env,xs,ys,k,rest,_,_,_,_=>by
  rw[chgL,plsL,dbL,fasL]
  exact⟨by show dbL ys []=_;rw[dbL,zaU],rfl,Ai _,BK _ _⟩
 |a::b,env,xs,ys,k,rest,hr,hn,hp,hb=>by
  rw[NInL]at hn
  rw[cntL]at hp
  rw[fasL]at hb ⊢
  have e:(a.fas+fasL b+1)*(but.length+1)=a.fas*(but.length+1)+(fasL b+1)*(but.length+1):=by rw[<-AI,BH]
  have e3:(fasL b+1)*(but.length+1)=fasL b*(but.length+1)+(but.length+1):=by rw[AI,Bb]
  have e4:(a.fas+1)*(but.length+1)=a.fas*(but.length+1)+(but.length+1):=by rw[AI,Bb]
  obtain⟨h1,h2,h3,h4⟩:=zc5 ak u but free hf iq a env xs ys k (plsL ak xs b++rest) hr hn.1 (λh=>hp (by omega)) (by omega);have hs:(chg (zaD free but) (λl=>if ak l=true then u else l) env a (pls ak xs a++(plsL ak xs b++rest),k)).2=(plsL ak xs b++rest,(chg (zaD free but) (λl=>if ak l=true then u else l) env a (pls ak xs a++(plsL ak xs b++rest),k)).2.2):=Prod.ext h2 rfl;obtain⟨j1,j2,j3,j4⟩:=ziB ak u but free hf iq b env xs ys _ rest (hr.more but h3) hn.2 (λh=>hp (by omega)) (by omega);rw[chgL,plsL,dbL,Bj,hs]
  refine⟨by show dbL ys (_::_)=_;rw[dbL,zaU,h1,j1],j2,AB h3 j3,AB j4 ?_⟩;rw[AI];omega
end
mutual
theorem NIn.mono {b c:List Name}(h:∀x∈b,x∈c):(t:Ty)->NIn b t->NIn c t
 |.var x,hn=>by rw[NIn]at hn ⊢;exact h x hn
 |.mt n,_=>by rw[NIn];trivial
 |.con d l,hn=>by rw[NIn]at hn ⊢;exact NInL.mono h l hn
 |.fn a b,hn=>by rw[NIn]at hn ⊢;exact⟨NIn.mono h a hn.1,NIn.mono h b hn.2⟩
 |.all x t,hn=>by rw[NIn]at hn ⊢;exact⟨h x hn.1,NIn.mono h t hn.2⟩
theorem NInL.mono {b c:List Name}(h:∀x∈b,x∈c):(l:List Ty)->NInL b l->NInL c l
 |[],_=>by rw[NInL];trivial
 |t::r,hn=>by rw[NInL]at hn ⊢;exact⟨NIn.mono h t hn.1,NInL.mono h r hn.2⟩
end
def thrN(env:List Name)(t:Ty)(s:List Name):List Name:=thr atName (λ_ _ s=>s) env t s
def zcx(env:List Name)(l:List Ty)(s:List Name):List Name:=thrL atName (λ_ _ s=>s) env l s
mutual
theorem zdg:(t:Ty)->∀env s,(∀x∈s,x∈thrN env t s)/\NIn (thrN env t s) t/\(thrN env t s).length<=s.length+t.size
 |.var x,env,s=>by
  show(∀y∈s,y∈addN x s)/\NIn (addN x s) (.var x)/\(addN x s).length<=_;refine⟨λy hy=>(zdd x y s).2 (.inr hy),?_,?_⟩
  ·rw[NIn];exact(zdd x x s).2 (.inl rfl)
  ·have:=zfH x s;rw[zaj];omega
 |.mt n,env,s=>by
  show(∀y∈s,y∈s)/\NIn s (.mt n)/\s.length<=_;exact⟨λ_ h=>h,by rw[NIn];trivial,BK _ _⟩
 |.con c l,env,s=>by
  have e:thrN env (.con c l) s=zcx env l s:=by unfold thrN zcx;rw[thr];rfl
  obtain⟨h1,h2,h3⟩:=zhs l env s;rw[e,NIn,zaj]
  exact⟨h1,h2,by show _<=s.length+(zaf l+1);omega⟩
 |.fn a b,env,s=>by
  have e:thrN env (.fn a b) s=thrN env b (thrN env a s):=by unfold thrN;rw[thr];rfl
  obtain⟨h1,h2,h3⟩:=zdg a env s;obtain⟨j1,j2,j3⟩:=zdg b env (thrN env a s);rw[e,NIn,zaj]
  exact⟨λx hx=>j1 x (h1 x hx),⟨NIn.mono j1 a h2,j2⟩,by simp[kids,zaf];omega⟩
 |.all x t,env,s=>by
  have e:thrN env (.all x t) s=thrN (x::env) t (addN x s):=by unfold thrN;rw[thr];rfl
  obtain⟨h1,h2,h3⟩:=zdg t (x::env) (addN x s);rw[e,NIn,zaj]
  have:=zfH x s;exact⟨λy hy=>h1 y ((zdd x y s).2 (.inr hy)),⟨h1 x ((zdd x x s).2 (.inl rfl)),h2⟩,by simp[kids,zaf];omega⟩
theorem zhs:(l:List Ty)->∀env s,(∀x∈s,x∈zcx env l s)/\NInL (zcx env l s) l/\(zcx env l s).length<=s.length+zaf l
 |[],env,s=>by
  have e:zcx env [] s=s:=by unfold zcx;rw[thrL]
  rw[e,NInL]
  exact⟨λ_ h=>h,trivial,BK _ _⟩
 |t::r,env,s=>by
  have e:zcx env (t::r) s=zcx env r (thrN env t s):=by unfold zcx thrN;rw[thrL]
  obtain⟨h1,h2,h3⟩:=zdg t env s;obtain⟨j1,j2,j3⟩:=zhs r env (thrN env t s);rw[e,NInL,zaf]
  exact⟨λx hx=>j1 x (h1 x hx),⟨NIn.mono j1 t h2,j2⟩,by omega⟩
end
theorem zga(t:Ty):NIn (zaF t) t/\(zaF t).length<=t.size:=by
 obtain⟨_,h2,h3⟩:=zdg t [] [];exact⟨h2,by simpa[zaF,thrN] using h3⟩
theorem zl9(u:Ty)(x:Name):x∈zav u↔FvOcc x (db [] u):=by
 rw[zfF]
 unfold Ty.free;rw[zcr [] [] (λ_=>Iff.rfl),zcM]
 simp
theorem zma(u:Ty):(zav u).length<=u.size:=by
 rw[zfF]
 unfold Ty.free;rw[zcr [] [] (λ_=>Iff.rfl)]
 have:=zbu [] u [];simpa using this
theorem zht {t u:Ty}(ht:t.size<=1000000)(hu:u.size<=1000000):0+(t.fas+1)*((zav u++zaF t).length+1)<10 ^ 15:=by
 have h1:=(zga t).2;have h2:=zma u;have h3:=zbN t;rw[Ap]
 have:=Cx (show t.fas+1<=1000001 by omega) (show(zav u).length+(zaF t).length+1<=2000001 by omega);omega
theorem zpl(ak:Ty->Bool)(t u:Ty)(ht:t.size<=1000000)(hu:u.size<=1000000):db [] (putT ak t u)=repD (Fu ak u) (Gu ak u) (db [] t):=by
 unfold putT;rw[zjA]
 by_cases h:cnt ak [] t=0
 ·rw[Aq h,zdf ak u t [] h]
 ·rw[Am h]
  have hm:=zc5 ak u (zav u++zaF t) (zav u) (λx hx=>(zl9 u x).2 hx) (λx hx=>By _ hx) t [] [] [] 0 [] (Ren.nil _) (NIn.mono (λx hx=>Bh _ hx) t (zga t).1) (λ_ y hy=>(AT hy).elim) (zht ht hu);rw[AU]at hm
  exact hm.1
theorem ziC {V:Type}(x:Name)(y:V):(env:List (Name × V))->look x env=some y->∃p∈env,p.2=y
 |[],h=>by cases h
 |p::r,h=>by
  rw[look]at h
  by_cases e:p.1=x
  ·rw[Aq e]at h;injection h with h;exact⟨p,Ay,h⟩
  ·rw[Am e]at h
   obtain⟨q,hq,e2⟩:=ziC x y r h;exact⟨q,Ar _ hq,e2⟩
theorem zkO(free but:List Name)(x:Name)(s:List Nat × Nat):(zaD free but x s).1=x/\(zaD free but x s).2.2=s.2\/(zaD free but x s).1=nm 120 (zau 120 but s.2)/\(zaD free but x s).2.2=zau 120 but s.2+1:=by
 unfold zaD;split
 ·exact .inr ⟨rfl,rfl⟩
 ·exact .inl ⟨rfl,rfl⟩
mutual
theorem zeT(free but:List Name)(leaf:Ty->Ty)(hl:∀t,kd t=1\/kd t=2->Nm t->Nm (leaf t)):(t:Ty)->∀(env:List (Name × Name))(s:List Nat × Nat),(∀p∈env,Gd 1 p.2)->Nm t->s.2+(t.fas+1)*(but.length+1)<10 ^ 15 ->
  Nm (chg (zaD free but) leaf env t s).1/\(chg (zaD free but) leaf env t s).2.2<=s.2+t.fas*(but.length+1)
 |.var x,env,s,he,hn,hb=>by
  rw[chg]
  refine⟨?_,BK _ _⟩;cases h:look x env with
  |none=>exact hl _ (.inl rfl) hn
  |some y =>
   obtain⟨p,hp,rfl⟩:=ziC x y env h;exact .var _ (he p hp)
 |.mt n,env,s,he,hn,hb=>by rw[chg];exact⟨hl _ (.inr rfl) hn,BK _ _⟩
 |.con c l,env,s,he,hn,hb=>by
  rw[chg]
  rw[Ty.fas]at hb ⊢
  cases hn with
  |con _ _ hc hk =>
   obtain⟨h1,h2⟩:=zjV free but leaf hl l env s he hk hb;exact⟨.con c _ hc h1,h2⟩
 |.fn a b,env,s,he,hn,hb=>by
  rw[chg]
  rw[Ty.fas]at hb ⊢
  have e:(a.fas+b.fas+1)*(but.length+1)=a.fas*(but.length+1)+(b.fas+1)*(but.length+1):=by rw[<-AI,BH]
  have e3:(b.fas+1)*(but.length+1)=b.fas*(but.length+1)+(but.length+1):=by rw[AI,Bb]
  have e4:(a.fas+1)*(but.length+1)=a.fas*(but.length+1)+(but.length+1):=by rw[AI,Bb]
  cases hn with
  |fn _ _ ha aT =>
   obtain⟨h1,h2⟩:=zeT free but leaf hl a env s he ha (by omega);obtain⟨j1,j2⟩:=zeT free but leaf hl b env (chg (zaD free but) leaf env a s).2 he aT (by omega);exact⟨.fn _ _ h1 j1,AB j2 (by rw[AI];omega)⟩
 |.all x t,env,s,he,hn,hb=>by
  rw[chg]
  rw[Ty.fas]at hb ⊢
  have e4:(t.fas+1+1)*(but.length+1)=t.fas*(but.length+1)+(but.length+1)+(but.length+1):=by rw[AI,AI,Bb]
  have e5:(t.fas+1)*(but.length+1)=t.fas*(but.length+1)+(but.length+1):=by rw[AI,Bb]
  obtain⟨_,n1,n2⟩:=zbl 120 but s.2 (by omega);cases hn with
  |all _ _ hx ht =>
   have hg:Gd 1 (zaD free but x s).1/\(zaD free but x s).2.2<=s.2+(but.length+1):=by
    rcases zkO free but x s with⟨e1,e2⟩|⟨e1,e2⟩
    ·exact⟨by rw[e1];exact hx,by omega⟩
    ·exact⟨by rw[e1];exact zkV _ (by omega),by omega⟩
   obtain⟨h1,h2⟩:=zeT free but leaf hl t ((x,(zaD free but x s).1)::env) (zaD free but x s).2 (λp hp=>by
    rcases An.1 hp with rfl|hp
    ·exact hg.1
    ·exact he p hp) ht (by omega)
   exact⟨.all _ _ hg.1 h1,AB h2 (by omega)⟩
theorem zjV(free but:List Name)(leaf:Ty->Ty)(hl:∀t,kd t=1\/kd t=2->Nm t->Nm (leaf t)):(l:List Ty)->∀(env:List (Name × Name))(s:List Nat × Nat),(∀p∈env,Gd 1 p.2)->(∀t∈l,Nm t)->s.2+(fasL l+1)*(but.length+1)<10 ^ 15 ->
  (∀t∈(chgL (zaD free but) leaf env l s).1,Nm t)/\(chgL (zaD free but) leaf env l s).2.2<=s.2+fasL l*(but.length+1)
 |[],env,s,he,hn,hb=>by rw[chgL];exact⟨λt ht=>(AT ht).elim,BK _ _⟩
 |a::b,env,s,he,hn,hb=>by
  rw[chgL]
  rw[fasL]at hb ⊢
  have e:(a.fas+fasL b+1)*(but.length+1)=a.fas*(but.length+1)+(fasL b+1)*(but.length+1):=by rw[<-AI,BH]
  have e3:(fasL b+1)*(but.length+1)=fasL b*(but.length+1)+(but.length+1):=by rw[AI,Bb]
  have e4:(a.fas+1)*(but.length+1)=a.fas*(but.length+1)+(but.length+1):=by rw[AI,Bb]
  obtain⟨h1,h2⟩:=zeT free but leaf hl a env s he (hn a Ay) (by omega);obtain⟨j1,j2⟩:=zjV free but leaf hl b env (chg (zaD free but) leaf env a s).2 he (λt ht=>hn t (Ar _ ht)) (by omega);refine⟨λt ht=>?_,AB j2 (by rw[AI];omega)⟩;rcases An.1 ht with rfl|ht
  ·exact h1
  ·exact j1 t ht
end
theorem zpm(ak:Ty->Bool)(t u:Ty)(ht:t.size<=1000000)(hu:u.size<=1000000)(hn:Nm t)(cK:Nm u):Nm (putT ak t u):=by
 unfold putT;split
 ·exact hn
 ·exact(zeT _ _ _ (λl _ hl=>by split;exact cK;exact hl) t [] _ (λ_ h=>(AT h).elim) hn (zht ht hu)).1
section
variable {σ:Type}
mutual
theorem zbY(bind:Name->σ->Name × σ)(leaf:Ty->Ty)(B:Nat)(hB:1<=B)(hl:∀t,kd t=1\/kd t=2->(leaf t).size<=B):(t:Ty)->∀env s,(chg bind leaf env t s).1.size<=t.size*B
 |.var x,env,s=>by
  rw[chg]
  have e:(Ty.var x).size=1:=by rw[zaj];simp[kids,zaf]
  rw[e,Bb]
  cases look x env with
  |none=>exact hl _ (.inl rfl)
  |some y =>
   show(Ty.var y).size<=B;have e:(Ty.var y).size=1:=by rw[zaj];simp[kids,zaf]
   omega
 |.mt n,env,s=>by
  rw[chg]
  have e:(Ty.mt n).size=1:=by rw[zaj];simp[kids,zaf]
  rw[e,Bb]
  exact hl _ (.inr rfl)
 |.con c l,env,s=>by
  rw[chg,zaj,zaj (.con c l),AI]
  have:=zeU bind leaf B hB hl l env s;show zaf (chgL bind leaf env l s).1+1<=zaf l*B+1*B;omega
 |.fn a b,env,s=>by
  rw[chg,zaj,zaj (.fn a b),AI]
  have h1:=zbY bind leaf B hB hl a env s;have h2:=zbY bind leaf B hB hl b env (chg bind leaf env a s).2;simp only[kids,zaf,AI,Nat.zero_mul,Bb];omega
 |.all x t,env,s=>by
  rw[chg,zaj,zaj (.all x t),AI]
  have h1:=zbY bind leaf B hB hl t ((x,(bind x s).1)::env) (bind x s).2;simp only[kids,zaf,AI,Nat.zero_mul,Bb];omega
theorem zeU(bind:Name->σ->Name × σ)(leaf:Ty->Ty)(B:Nat)(hB:1<=B)(hl:∀t,kd t=1\/kd t=2->(leaf t).size<=B):(l:List Ty)->∀env s,zaf (chgL bind leaf env l s).1<=zaf l*B
 |[],env,s=>by rw[chgL,zaf];exact AV _
 |a::b,env,s=>by
  rw[chgL,zaf,zaf,AI]
  have h1:=zbY bind leaf B hB hl a env s;have h2:=zeU bind leaf B hB hl b env (chg bind leaf env a s).2;omega
end
end
theorem zfG(t:Ty):1<=t.size:=by rw[zaj];omega
theorem zmb(ak:Ty->Bool)(t u:Ty):(putT ak t u).size<=t.size*u.size:=by
 unfold putT;split
 ·have:=Cx (Ai t.size) (zfG u);omega
 ·refine zbY _ _ u.size (zfG u) (λl hk=>?_) t [] _
  split
  ·exact Ai _
  ·have h1:=zfG u
   have:l.size=1:=by
    cases l with
    |var x=>rw[zaj];simp[kids,zaf]
    |mt n=>rw[zaj];simp[kids,zaf]
    |con c l=>simp[kd]at hk
    |fn a b=>simp[kd]at hk
    |all x t=>simp[kd]at hk
   omega
theorem zpn(m:Nat)(t u:Ty)(ht:t.size<=1000000)(hu:u.size<=1000000):db [] (putT (isPM (m:Int)) t u)=filD m (db [] u) (db [] t):=by
 rw[zpl (isPM (m:Int)) t u ht hu]
 unfold filD;congr 1
 funext n
 show(if((n:Int) ==(m:Int))=true then db [] u else .mt n)=if n=m then db [] u else .mt n
 by_cases h:n=m
 ·rw[Aq (by simp[h]),Aq h]
 ·rw[Am (by simp;omega),Am h]
end Go.Proofs.YtfafilmklhnngaaGreatDoor
namespace Go.Proofs.YtfafilmklhnngaaGreatDoor
open Go.RowKit Lx Tx Go.Maps Go.WideMaps Go.Shelf
set_option maxRecDepth 100000
def HeadSm(pb lb rb m:Nat)(el er:List (Name × Nat))(l r:List Ty)(mt:Nat)(w0:World)(gg:Nat)(vi:Value)(wr:World):Prop :=
 ∃i oX:Nat,gg=m-i/\vi=.int .i64 (i:Nat)/\i<=m/\Hid (smL el er (l.take i) (r.take i) mt=(true,oX))/\PairI pb lb rb el er oX wr/\Chg (PM pb lb rb) w0 wr
theorem zdK(n pb lb rb:Nat)(HC:zeV n pb lb rb)(t u:Ty)(el er:List (Name × Nat))(mt:Nat)(S Su:Nat->Prop)(v uv:Value)(w:World)(hn:t.size<=n+1)(h6:n<=100000000)(hp:PairI pb lb rb el er mt w)(hv:RdV S w t v)(hu:RdV Su w u uv)
  (hS:∀g,S g->g<w.heap.size/\¬PM pb lb rb g)(bX:∀g,Su g->g<w.heap.size/\¬PM pb lb rb g)(az:Nm t)(cK:Nm u)(h1:el.length+zaf (kids t)<=500000000)(h2:er.length+zaf (kids t)<=500000000)(h3:mt+zaf (kids t)<=1000000000)(hlen:(kids t).length=(kids u).length):Calls Tryz.prog 104 #[.pointer (some ⟨pb,0,none⟩),v,uv] w (SPst pb lb rb el er (smL el er (kids t) (kids u) mt) w):=by
 obtain⟨K,X,Z,A,m,c,rfl,-,-,-,hm,ha⟩:=hv.parts;obtain⟨K',X',Z',A',m',c',rfl,-,-,-,dC,bP⟩:=hu.parts;obtain rfl:m=m':=by omega
 have dZ:m<=n:=by have:=zbw t;omega
 have hnk:∀i (hi:i<(kids t).length),Nm (kids t)[i]:=λi hi=>zcH az i hi;have xd:∀i (hi:i<(kids u).length),Nm (kids u)[i]:=λi hi=>zcH cK i hi;obtain⟨l0,l1,ls,cj⟩:=zaZ w (.cells #[.int .i64 K,.string X,.int .i64 Z,.slice A m c] 37) (.cells #[.int .i64 K',.string X',.int .i64 Z',.slice A' m c'] 37);obtain⟨W2,jx⟩:∃W,(w.alloc (.cells #[.int .i64 K,.string X,.int .i64 Z,.slice A m c] 37)).alloc (.cells #[.int .i64 K',.string X',.int .i64 Z',.slice A' m c'] 37)=W:=⟨_,rfl⟩;rw[jx]at l0 l1 ls cj
 have fD:=CS (hp.below cj);have kQ:∀g,PM pb lb rb g->g<w.heap.size:=hp.lt;obtain⟨p0,p1,p2,p3,-⟩:=zaa (show Blk W2 w.heap.size 37 _ from l0);have L1:Hid (Blk W2 (w.heap.size+1) 37 #[.int .i64 K',.string X',.int .i64 Z',.slice A' m c']):=CS l1;have LS:=CS ls;have LB:=CS cj;have HM:=CS hm;have ud:=CS dC;have HA:=CS ha;have HA':=CS bP;have HS:=CS hS;have gC:=CS bX;have mc:=CS hnk;have HNKU:=CS xd;have aC:=CS kQ;have HN:=CS hn;obtain⟨R,hR⟩:∃R,smL el er (kids t) (kids u) mt=R:=⟨_,rfl⟩;have HR:=CS hR;rw[hR]
 clear hv hu hm dC ha bP hS bX az cK hp l0 l1 ls cj hR hnk xd kQ hlen hn;go_enter Tryz.func104,Tryz.ntmps104
 go_wp2_with fail
 go_loopg [12] m (λgg vi wr=>HeadSm pb lb rb m el er (kids t) (kids u) mt W2 gg vi wr)
 case atStart=>exact⟨0,mt,rfl,rfl,AV _,CS (by rw[Ba,smL]),fD.out,Chg.refl _ _⟩
 case round =>
  obtain⟨i,oX,kY,rfl,hi,jM,oC,hc⟩:=hrel;have fm:=CS jM.out;have HPI:=CS oC;have C1:=CS hc;have aF:=hc.size;rw[LS.out]at aF
  clear jM oC hc;by_cases ah:i<m
  ·have ic:∀g,S g->wr.heap[g]?=w.heap[g]?:=λg hg=>(C1.out.block g (by have:=(HS.out g hg).1;rw[LS.out];omega) (HS.out g hg).2).trans (LB.out.block g (HS.out g hg).1)
   have xA:∀g,Su g->wr.heap[g]?=w.heap[g]?:=λg hg=>(C1.out.block g (by have:=(gC.out g hg).1;rw[LS.out];omega) (gC.out g hg).2).trans (LB.out.block g (gC.out g hg).1);obtain⟨g,a,K1,X1,Z1,A1,n1,c1,rfl,hg,e0,e1,e2,e3,hua,aK,qM⟩:=zcG HA.out HM.out ah ic;obtain⟨g',b,K2,X2,Z2,A2,n2,c2,rfl,oH,f0,f1,f2,f3,uQ,wR,-⟩:=zcG HA'.out ud.out ah xA;have eS:Nm a:=by obtain⟨fx,rfl⟩:=Aw.1 hua;exact mc.out i fx
   have hnb:Nm b:=by obtain⟨fx,rfl⟩:=Aw.1 uQ;exact HNKU.out i fx
   have hsl:zaf ((kids t).take i)+a.size<=zaf (kids t):=by
    obtain⟨fx,rfl⟩:=Aw.1 hua;have:=zcf (kids t) i _ ⟨fx,rfl⟩;have:=zbF (kids t) (i+1);omega
   have hmt':oX<=mt+zaf ((kids t).take i):=by have:=(zgM ((kids t).take i) el er ((kids u).take i) mt).2;rw[fm.out]at this;exact this
   have aI:=znW el er (kids t) (kids u) i mt oX a b hua uQ fm.out;have ey:i<(kids t).length:=by rw[HM.out];exact ah
   have xG:i<(kids u).length:=by rw[ud.out];exact ah
   have pT:∀z,smT el er a b oX=(false,z)->R=(false,z):=λz hz=>by rw[<-HR.out];exact zmc el er (kids t) (kids u) i mt z ey xG (by rw[aI,hz])
   have bz:∀q,q<wr.heap.size->((wr.alloc (.cells #[.int .i64 K1,.string X1,.int .i64 Z1,.slice A1 n1 c1] 37)).drew).heap[q]?=wr.heap[q]?:=λq hq=>Below.heap_alloc _ _ _ hq;have iS:((wr.alloc (.cells #[.int .i64 K1,.string X1,.int .i64 Z1,.slice A1 n1 c1] 37)).drew).heap.size=wr.heap.size+1:=size_alloc _ _;have aq:=HC a b el er oX S Su _ _ ((wr.alloc (.cells #[.int .i64 K1,.string X1,.int .i64 Z1,.slice A1 n1 c1] 37)).drew) (by have:=HN.out;omega) h6 (HPI.out.keep λq hq=>bz q (HPI.out.lt q hq)) (aK.keep (λ_ h=>h) (λq hq=>bz q (by have:=(HS.out q hq).1;omega))) (wR.keep (λ_ h=>h) (λq hq=>bz q (by have:=(gC.out q hq).1;omega)))
    (λq hq=>⟨by have:=(HS.out q hq).1;omega,(HS.out q hq).2⟩) (λq hq=>⟨by have:=(gC.out q hq).1;omega,(gC.out q hq).2⟩) eS hnb (by omega) (by omega) (by omega)
   obtain⟨⟨q,z⟩,hqz⟩:∃p,smT el er a b oX=p:=⟨_,rfl⟩;rw[hqz]at aq aI
   have av:=CS aq;have dS:=CS aI;have HFL:=CS pT;have HQZ:=CS hqz;have ik:=zbV f0;have hgn:g'≠wr.heap.size:=by omega
   have hgP:g'<w.heap.size/\¬PM pb lb rb g':=gC.out g' oH;have K1B:Hid (Blk ((wr.alloc (.cells #[.int .i64 K1,.string X1,.int .i64 Z1,.slice A1 n1 c1] 37)).drew) wr.heap.size 37 #[.int .i64 K1,.string X1,.int .i64 Z1,.slice A1 n1 c1]):=CS (heap_alloc_new wr _);have U1B:Hid (Blk ((wr.alloc (.cells #[.int .i64 K1,.string X1,.int .i64 Z1,.slice A1 n1 c1] 37)).drew) (w.heap.size+1) 37 #[.int .i64 K',.string X',.int .i64 Z',.slice (some ⟨g',0,none⟩) m c']):=CS ((bz _ (by omega)).trans (L1.out.chg C1.out (λh=>by have:=aC.out _ h;omega)));have ck:Hid (∀W:World,Blk W wr.heap.size 37 #[.int .i64 K1,.string X1,.int .i64 Z1,.slice A1 n1 c1]->Blk W (w.heap.size+1) 37 #[.int .i64 K',.string X',.int .i64 Z',.slice (some ⟨g',0,none⟩) m c']->W.heap[g']?=wr.heap[g']? ->
     W.cell? ⟨wr.heap.size,0,none⟩=some (.int .i64 K1)/\W.cell? ⟨wr.heap.size,1,none⟩=some (.string X1)/\W.cell? ⟨wr.heap.size,2,none⟩=some (.int .i64 Z1)/\W.cell? ⟨wr.heap.size,3,none⟩=some (.slice A1 n1 c1)/\W.cell? ⟨w.heap.size+1,3,none⟩=some (.slice (some ⟨g',0,none⟩) m c') /\
     W.cell? ⟨g',i*4,none⟩=some (.int .i64 K2)/\W.cell? ⟨g',i*4+1,none⟩=some (.string X2)/\W.cell? ⟨g',i*4+2,none⟩=some (.int .i64 Z2)/\W.cell? ⟨g',i*4+3,none⟩=some (.slice A2 n2 c2)) :=
    CS λW b1 b2 hk=>⟨b1.cell 0,b1.cell 1,b1.cell 2,b1.cell 3,b2.cell 3,(World.cell?_of_block (w:=wr) (a:=⟨g',i*4,none⟩) hk).trans f0,(World.cell?_of_block (w:=wr) (a:=⟨g',i*4+1,none⟩) hk).trans f1,(World.cell?_of_block (w:=wr) (a:=⟨g',i*4+2,none⟩) hk).trans f2,(World.cell?_of_block (w:=wr) (a:=⟨g',i*4+3,none⟩) hk).trans f3⟩
   have oo:Hid (((wr.alloc (.cells #[.int .i64 K1,.string X1,.int .i64 Z1,.slice A1 n1 c1] 37)).drew).heap[g']?=wr.heap[g']?):=CS (bz g' ik);clear ic xA hua uQ aK wR eS hnb aI pT aq hqz ey xG f0 f1 f2 f3 qM;go_wp2_with fail
   go_region_held3 (λW=>W.cell? ⟨wr.heap.size,0,none⟩=some (.int .i64 K1)/\W.cell? ⟨wr.heap.size,1,none⟩=some (.string X1)/\W.cell? ⟨wr.heap.size,2,none⟩=some (.int .i64 Z1)/\W.cell? ⟨wr.heap.size,3,none⟩=some (.slice A1 n1 c1)/\W.cell? ⟨w.heap.size+1,3,none⟩=some (.slice (some ⟨g',0,none⟩) m c') /\
     W.cell? ⟨g',i*4,none⟩=some (.int .i64 K2)/\W.cell? ⟨g',i*4+1,none⟩=some (.string X2)/\W.cell? ⟨g',i*4+2,none⟩=some (.int .i64 Z2)/\W.cell? ⟨g',i*4+3,none⟩=some (.slice A2 n2 c2)) (first|(with_reducible exact ck.out _ K1B.out U1B.out oo.out)|(with_reducible exact ck.out _ K2B.out U2B.out vH.out))
    ((first|((with_reducible refine av.out.mono ?_);rintro e w5 ⟨rfl,bG,c5⟩;have K2B:=CS (K1B.out.chg c5 (λh=>by have:=aC.out _ h;omega));have U2B:=CS (U1B.out.chg c5 (λh=>by have:=aC.out _ h;omega));have vH:=CS ((c5.block g' (by omega) hgP.2).trans oo.out);have oQ:=CS bG;have C5:=CS c5;clear bG c5)))
   all_goals
    clear av
   have C6:=CS (((C1.out.alloc (.cells #[.int .i64 K1,.string X1,.int .i64 Z1,.slice A1 n1 c1] 37)).drew).trans C5.out);cases q with
   |true =>
    go_wp2_with fail
    go_roundg (m-(i+1))
    case measure=>omega
    case rel=>exact⟨i+1,z,rfl,by go_num,by omega,dS,oQ.out,C6.out⟩
   |false =>
    have HF:=CS (HFL.out z HQZ.out);go_wp2_with fail
    go_ret
    rw[HF.out]
    exact⟨rfl,oQ.out,(Chg.of_below LB.out).trans' C6.out (λg hg h=>h)⟩
  ·have aU:(kids t).take i=kids t:=AK (by have:=HM.out;omega)
   have ry:(kids u).take i=kids u:=AK (by have:=ud.out;omega);have eA:R=(true,oX):=by rw[<-HR.out,<-fm.out,aU,ry]
   have HF:=CS eA;clear aU ry eA;go_wp2_with fail
   go_ret
   rw[HF.out]
   exact⟨rfl,HPI.out,(Chg.of_below LB.out).trans' C1.out (λg hg h=>h)⟩
end Go.Proofs.YtfafilmklhnngaaGreatDoor
namespace Go.Proofs.YtfafilmklhnngaaGreatDoor
open Go.RowKit Lx Tx Go.Maps Go.WideMaps Go.Shelf
set_option maxRecDepth 100000
theorem znY(o:Option Nat):mkInt.valO o=.int .i64 ((o.getD 0:Nat):Int):=by cases o <;> rfl
theorem zkP(pb lb rb:Nat)(el er:List (Name × Nat))(mt:Nat)(K K' Z Z':Int)(X X':ByteArray)(A A':Option Addr)(m m' c c':Nat)(w:World)(hp:PairI pb lb rb el er mt w)(h:K≠K'\/m≠m'):Calls Tryz.prog 60 #[.pointer (some ⟨pb,0,none⟩),.agg #[.int .i64 K,.string X,.int .i64 Z,.slice A m c],.agg #[.int .i64 K',.string X',.int .i64 Z',.slice A' m' c']] w (SPst pb lb rb el er (false,mt) w):=by
 obtain⟨-,-,-,cj⟩:=zaZ w (.cells #[.int .i64 K,.string X,.int .i64 Z,.slice A m c] 37) (.cells #[.int .i64 K',.string X',.int .i64 Z',.slice A' m' c'] 37);have fD:=CS (hp.below cj);have LB:=CS cj;clear hp cj;by_cases hk:K=K'
 ·subst hk
  have hm:((m:Int) ==(m':Int))=false:=by rw[AG];intro e;simp at e;omega
  clear h;go_enter_defers Tryz.func60,Tryz.ntmps60
  go_wp2_with fail
  refine⟨_,results_tmp rfl _ _ _,rfl,fD.out,Chg.of_below LB.out⟩
 ·have fV:(K==K')=false:=by rw[AG];intro e;simp at e;exact hk e
  clear h hk;go_enter_defers Tryz.func60,Tryz.ntmps60
  go_wp2_with fail
  refine⟨_,results_tmp rfl _ _ _,rfl,fD.out,Chg.of_below LB.out⟩
theorem zme(pb lb rb:Nat)(el er:List (Name × Nat))(mt:Nat)(Z Z':Int)(X X':ByteArray)(A A':Option Addr)(m c c':Nat)(w:World)(hp:PairI pb lb rb el er mt w):Calls Tryz.prog 60 #[.pointer (some ⟨pb,0,none⟩),.agg #[.int .i64 2,.string X,.int .i64 Z,.slice A m c],.agg #[.int .i64 2,.string X',.int .i64 Z',.slice A' m c']] w (SPst pb lb rb el er (Z==Z',mt) w):=by
 obtain⟨-,-,-,cj⟩:=zaZ w (.cells #[.int .i64 2,.string X,.int .i64 Z,.slice A m c] 37) (.cells #[.int .i64 2,.string X',.int .i64 Z',.slice A' m c'] 37);have fD:=CS (hp.below cj);have LB:=CS cj;clear hp cj;obtain⟨q,hq⟩:∃q,(Z==Z')=q:=⟨_,rfl⟩;rw[hq]
 cases q
 all_goals
  go_enter_defers Tryz.func60,Tryz.ntmps60
  go_wp2_with fail
  refine⟨_,results_tmp rfl _ _ _,rfl,fD.out,Chg.of_below LB.out⟩
theorem zkQ(pb lb rb:Nat)(el er:List (Name × Nat))(mt:Nat)(Z Z':Int)(X X':ByteArray)(A A':Option Addr)(m c c':Nat)(w:World)(hp:PairI pb lb rb el er mt w)(hX:X.size<=24)(gM:X'.size<=24):Calls Tryz.prog 60 #[.pointer (some ⟨pb,0,none⟩),.agg #[.int .i64 1,.string X,.int .i64 Z,.slice A m c],.agg #[.int .i64 1,.string X',.int .i64 Z',.slice A' m c']] w
   (SPst pb lb rb el er (decide ((look X.data.toList el).getD 0=(look X'.data.toList er).getD 0/\(0<(look X.data.toList el).getD 0\/X.data.toList=X'.data.toList)),mt) w):=by
 obtain⟨l0,l1,ls,cj⟩:=zaZ w (.cells #[.int .i64 1,.string X,.int .i64 Z,.slice A m c] 37) (.cells #[.int .i64 1,.string X',.int .i64 Z',.slice A' m c'] 37);obtain⟨W2,jx⟩:∃W,(w.alloc (.cells #[.int .i64 1,.string X,.int .i64 Z,.slice A m c] 37)).alloc (.cells #[.int .i64 1,.string X',.int .i64 Z',.slice A' m c'] 37)=W:=⟨_,rfl⟩;rw[jx]at l0 l1 ls cj
 have fu:=hp.below cj;obtain⟨p0,p1,p2,p3,-⟩:=zaa (show Blk W2 w.heap.size 37 _ from l0);obtain⟨q0,q1,q2,q3,-⟩:=zaa (show Blk W2 (w.heap.size+1) 37 _ from l1);have z0:W2.cell? ⟨pb,0,none⟩=some (.map (some lb)):=fu.pr.cell 0;have z1:W2.cell? ⟨pb,1,none⟩=some (.map (some rb)):=fu.pr.cell 1;have sV:=(fu.le.keep (w':=W2.drew) rfl).get X (by unfold maxLen;omega);have oB:=(fu.ri.keep (w':=W2.drew) rfl).get X' (by unfold maxLen;omega);rw[znY]at sV oB
 obtain⟨l,hl⟩:∃l,(look X.data.toList el).getD 0=l:=⟨_,rfl⟩;obtain⟨r,hr⟩:∃r,(look X'.data.toList er).getD 0=r:=⟨_,rfl⟩;rw[hl]at sV ⊢
 rw[hr]at oB ⊢
 replace sV:(Instr.lookup 116 (.map (some lb)) (.string X) false).run Tryz.prog W2.drew=.ok (.int .i64 (l:Nat)) W2.drew:=sV;replace oB:(Instr.lookup 116 (.map (some rb)) (.string X') false).run Tryz.prog W2.drew=.ok (.int .i64 (r:Nat)) W2.drew:=oB;have hxx:(X.toList==X'.toList)=decide (X.data.toList=X'.data.toList):=by rw[Lib.toList_data,Lib.toList_data];exact BV.2 (by simp)
 obtain⟨q,hq⟩:∃q,decide (X.data.toList=X'.data.toList)=q:=⟨_,rfl⟩;rw[hq]at hxx
 have wQ:decide (l=r/\(0<l\/X.data.toList=X'.data.toList))=(decide (l=r) &&(decide (0<l)||q)):=by rw[Bool.decide_and,Bool.decide_or,hq]
 rw[wQ]
 have fD:=CS (fu.keep (w':=W2.drew) (λ_ _=>rfl));have LB:Hid (Below w.heap.size w W2.drew):=CS cj.drew;have ck:Hid (W2.drew.cell? ⟨w.heap.size,1,none⟩=some (.string X)/\W2.drew.cell? ⟨w.heap.size+1,1,none⟩=some (.string X')/\W2.drew.cell? ⟨pb,0,none⟩=some (.map (some lb))/\W2.drew.cell? ⟨pb,1,none⟩=some (.map (some rb))):=CS ⟨p1,q1,z0,z1⟩;clear hp fu l0 l1 ls cj hl hr hq wQ hX gM;by_cases gJ:l=r
 ·subst gJ
  have e1:decide (l=l)=true:=by simp
  rw[e1,Bool.true_and]
  by_cases h0:l=0
  ·subst h0
   rw[show(decide (0<0)||q)=q by simp]
   clear e1;cases q
   all_goals
    go_enter_defers Tryz.func60,Tryz.ntmps60
    go_wp2_with fail
    go_region_held3 (λW=>W.cell? ⟨w.heap.size,1,none⟩=some (.string X)/\W.cell? ⟨w.heap.size+1,1,none⟩=some (.string X')/\W.cell? ⟨pb,0,none⟩=some (.map (some lb))/\W.cell? ⟨pb,1,none⟩=some (.map (some rb))) (first|(with_reducible exact ck.out)) ((fail))
    all_goals
     go_wp2_with fail
     refine⟨_,results_tmp rfl _ _ _,rfl,fD.out,Chg.of_below LB.out⟩
  ·have wU:(0:Int)<(l:Int):=by omega
   rw[show(decide (0<l)||q)=true by rw[AN (by omega)];rfl]
   clear e1 h0;go_enter_defers Tryz.func60,Tryz.ntmps60
   go_wp2_with fail
   go_region_held3 (λW=>W.cell? ⟨w.heap.size,1,none⟩=some (.string X)/\W.cell? ⟨w.heap.size+1,1,none⟩=some (.string X')/\W.cell? ⟨pb,0,none⟩=some (.map (some lb))/\W.cell? ⟨pb,1,none⟩=some (.map (some rb))) (first|(with_reducible exact ck.out)) ((fail))
   all_goals
    go_wp2_with fail
    refine⟨_,results_tmp rfl _ _ _,rfl,fD.out,Chg.of_below LB.out⟩
 ·have e1:decide (l=r)=false:=by simp[gJ]
  rw[e1,Bool.false_and]
  have af:((l:Int) ==(r:Int))=false:=kF l r gJ;clear e1 gJ;go_enter_defers Tryz.func60,Tryz.ntmps60
  go_wp2_with fail
  go_region_held3 (λW=>W.cell? ⟨w.heap.size,1,none⟩=some (.string X)/\W.cell? ⟨w.heap.size+1,1,none⟩=some (.string X')/\W.cell? ⟨pb,0,none⟩=some (.map (some lb))/\W.cell? ⟨pb,1,none⟩=some (.map (some rb))) (first|(with_reducible exact ck.out)) ((fail))
  all_goals
   go_wp2_with fail
   refine⟨_,results_tmp rfl _ _ _,rfl,fD.out,Chg.of_below LB.out⟩
end Go.Proofs.YtfafilmklhnngaaGreatDoor
namespace Go.Proofs.YtfafilmklhnngaaGreatDoor
open Go.RowKit Lx Tx Go.Maps Go.WideMaps Go.Shelf
set_option maxRecDepth 100000
structure TwoOK (pb lb rb:Nat) (t u:Ty) (el er:List (Name × Nat)) (m:Nat) (S Su:Nat->Prop) (w:World):Prop where
 pi:PairI pb lb rb el er m w
 s:∀g,S g->g<w.heap.size/\¬PM pb lb rb g
 su:∀g,Su g->g<w.heap.size/\¬PM pb lb rb g
 nt:Nm t
 nu:Nm u
 l1:el.length+t.size<=500000000
 l2:er.length+t.size<=500000000
 l3:m+t.size<=1000000000
theorem zkR(n pb lb rb:Nat)(HC:zeV n pb lb rb)(cn dn:Name)(l r:List Ty)(el er:List (Name × Nat))(mt:Nat)(S Su:Nat->Prop)(v uv:Value)(w:World)(hn:(Ty.con cn l).size<=n+1)(h6:n<=100000000)(H:TwoOK pb lb rb (.con cn l) (.con dn r) el er mt S Su w)(hv:RdV S w (.con cn l) v)(hu:RdV Su w (.con dn r) uv)(gJ:l.length=r.length):Calls Tryz.prog 60 #[.pointer (some ⟨pb,0,none⟩),v,uv] w (SPst pb lb rb el er (smT el er (.con cn l) (.con dn r) mt) w):=by
 obtain⟨K,X,Z,A,m,c,rfl,hK,hX,-,hm,ha⟩:=hv.parts;obtain⟨K',X',Z',A',m',c',rfl,gP,gM,-,dC,bP⟩:=hu.parts;obtain rfl:m=m':=by have h1:l.length=m:=hm;have h2:r.length=m':=dC;omega
 obtain rfl:K=3:=hK;obtain rfl:K'=3:=gP;obtain⟨l0,l1,ls,cj⟩:=zaZ w (.cells #[.int .i64 3,.string X,.int .i64 Z,.slice A m c] 37) (.cells #[.int .i64 3,.string X',.int .i64 Z',.slice A' m c'] 37);obtain⟨W2,jx⟩:∃W,(w.alloc (.cells #[.int .i64 3,.string X,.int .i64 Z,.slice A m c] 37)).alloc (.cells #[.int .i64 3,.string X',.int .i64 Z',.slice A' m c'] 37)=W:=⟨_,rfl⟩;rw[jx]at l0 l1 ls cj
 obtain⟨p0,p1,p2,p3,-⟩:=zaa (show Blk W2 w.heap.size 37 _ from l0);obtain⟨q0,q1,q2,q3,-⟩:=zaa (show Blk W2 (w.heap.size+1) 37 _ from l1);have lP:(Ty.con cn l).size=zaf l+1:=by rw[zaj];rfl
 have aq:=zdK n pb lb rb HC (.con cn l) (.con dn r) el er mt S Su _ _ W2 hn h6 (H.pi.below cj) (hv.keep (λ_ h=>h) (λg hg=>cj.block g (H.s g hg).1)) (hu.keep (λ_ h=>h) (λg hg=>cj.block g (H.su g hg).1))
  (λg hg=>⟨by have:=(H.s g hg).1;omega,(H.s g hg).2⟩) (λg hg=>⟨by have:=(H.su g hg).1;omega,(H.su g hg).2⟩) H.nt H.nu (by have:=H.l1;show el.length+zaf l<=_;omega) (by have:=H.l2;show er.length+zaf l<=_;omega) (by have:=H.l3;show mt+zaf l<=_;omega) gJ
 have fD:=CS (H.pi.below cj);have LB:=CS cj;rw[zpY el er cn dn l r mt gJ]
 have hxx:(X.toList==X'.toList)=decide (cn=dn):=by
  rw[Lib.toList_data,Lib.toList_data,hX,gM]
  exact BV.2 (by simp[nmB])
 have av:Hid (Calls Tryz.prog 104 #[.pointer (some ⟨pb,0,none⟩),.agg #[.int .i64 3,.string X,.int .i64 Z,.slice A m c],.agg #[.int .i64 3,.string X',.int .i64 Z',.slice A' m c']] W2 (SPst pb lb rb el er (smL el er l r mt) W2)):=CS aq;clear hv hu hX gM hm dC ha bP l0 l1 ls cj aq lP H hn gJ;by_cases hc:cn=dn
 ·rw[Aq hc]
  rw[AN hc]at hxx
  obtain⟨⟨q,z⟩,hqz⟩:∃p,smL el er l r mt=p:=⟨_,rfl⟩;rw[hqz]at av ⊢
  clear hc hqz;go_enter_defers Tryz.func60,Tryz.ntmps60
  go_wp2_with fail
  refine av.out.mono ?_;rintro e w5 ⟨rfl,bG,c5⟩;have oQ:=CS bG;have C5:=CS c5;clear bG c5 av;cases q
  all_goals
   go_wp2_with fail
   refine⟨_,results_tmp rfl _ _ _,rfl,oQ.out,(Chg.of_below LB.out).trans' C5.out (λ_ _ h=>h)⟩
 ·rw[Am hc]
  rw[AQ hc]at hxx
  clear hc av;go_enter_defers Tryz.func60,Tryz.ntmps60
  go_wp2_with fail
  refine⟨_,results_tmp rfl _ _ _,rfl,fD.out,Chg.of_below LB.out⟩
theorem zmf(n pb lb rb:Nat)(HC:zeV n pb lb rb)(a b a' b':Ty)(el er:List (Name × Nat))(mt:Nat)(S Su:Nat->Prop)(v uv:Value)(w:World)(hn:(Ty.fn a b).size<=n+1)(h6:n<=100000000)(H:TwoOK pb lb rb (.fn a b) (.fn a' b') el er mt S Su w)(hv:RdV S w (.fn a b) v)(hu:RdV Su w (.fn a' b') uv):Calls Tryz.prog 60 #[.pointer (some ⟨pb,0,none⟩),v,uv] w (SPst pb lb rb el er (smT el er (.fn a b) (.fn a' b') mt) w):=by
 obtain⟨K,X,Z,A,m,c,rfl,hK,-,-,hm,ha⟩:=hv.parts;obtain⟨K',X',Z',A',m',c',rfl,gP,-,-,dC,bP⟩:=hu.parts;obtain rfl:m=2:=hm.symm;obtain rfl:m'=2:=dC.symm;obtain rfl:K=4:=hK;obtain rfl:K'=4:=gP;obtain⟨l0,l1,ls,cj⟩:=zaZ w (.cells #[.int .i64 4,.string X,.int .i64 Z,.slice A 2 c] 37) (.cells #[.int .i64 4,.string X',.int .i64 Z',.slice A' 2 c'] 37);obtain⟨W2,jx⟩:∃W,(w.alloc (.cells #[.int .i64 4,.string X,.int .i64 Z,.slice A 2 c] 37)).alloc (.cells #[.int .i64 4,.string X',.int .i64 Z',.slice A' 2 c'] 37)=W:=⟨_,rfl⟩;rw[jx]at l0 l1 ls cj
 obtain⟨p0,p1,p2,p3,-⟩:=zaa (show Blk W2 w.heap.size 37 _ from l0);obtain⟨q0,q1,q2,q3,-⟩:=zaa (show Blk W2 (w.heap.size+1) 37 _ from l1);have lP:(Ty.fn a b).size=zaf [a,b]+1:=by rw[zaj];rfl
 have aq:=zdK n pb lb rb HC (.fn a b) (.fn a' b') el er mt S Su _ _ W2 hn h6 (H.pi.below cj) (hv.keep (λ_ h=>h) (λg hg=>cj.block g (H.s g hg).1)) (hu.keep (λ_ h=>h) (λg hg=>cj.block g (H.su g hg).1))
  (λg hg=>⟨by have:=(H.s g hg).1;omega,(H.s g hg).2⟩) (λg hg=>⟨by have:=(H.su g hg).1;omega,(H.su g hg).2⟩) H.nt H.nu (by have:=H.l1;show el.length+zaf [a,b]<=_;omega) (by have:=H.l2;show er.length+zaf [a,b]<=_;omega) (by have:=H.l3;show mt+zaf [a,b]<=_;omega) rfl
 have LB:=CS cj;rw[zqk]
 have av:Hid (Calls Tryz.prog 104 #[.pointer (some ⟨pb,0,none⟩),.agg #[.int .i64 4,.string X,.int .i64 Z,.slice A 2 c],.agg #[.int .i64 4,.string X',.int .i64 Z',.slice A' 2 c']] W2 (SPst pb lb rb el er (smL el er [a,b] [a',b'] mt) W2)):=CS aq;clear hv hu hm dC ha bP l0 l1 ls cj aq lP H hn;obtain⟨⟨q,z⟩,hqz⟩:∃p,smL el er [a,b] [a',b'] mt=p:=⟨_,rfl⟩;rw[hqz]at av ⊢
 clear hqz;go_enter_defers Tryz.func60,Tryz.ntmps60
 go_wp2_with fail
 refine av.out.mono ?_;rintro e w5 ⟨rfl,bG,c5⟩;have oQ:=CS bG;have C5:=CS c5;clear bG c5 av;go_wp2_with fail
 refine⟨_,results_tmp rfl _ _ _,rfl,oQ.out,(Chg.of_below LB.out).trans' C5.out (λ_ _ h=>h)⟩
end Go.Proofs.YtfafilmklhnngaaGreatDoor
namespace Go.Proofs.YtfafilmklhnngaaGreatDoor
open Go.RowKit Lx Tx Go.Maps Go.WideMaps Go.Shelf
set_option maxRecDepth 100000
theorem zkS(n pb lb rb:Nat)(HC:zeV n pb lb rb)(x y:Name)(t1 u1:Ty)(el er:List (Name × Nat))(mt:Nat)(S Su:Nat->Prop)(v uv:Value)(w:World)(hn:(Ty.all x t1).size<=n+1)(h6:n<=100000000)(H:TwoOK pb lb rb (.all x t1) (.all y u1) el er mt S Su w)(hv:RdV S w (.all x t1) v)(hu:RdV Su w (.all y u1) uv):Calls Tryz.prog 60 #[.pointer (some ⟨pb,0,none⟩),v,uv] w (SPst pb lb rb el er (smT el er (.all x t1) (.all y u1) mt) w):=by
 obtain⟨K,X,Z,A,m,c,rfl,hK,hX,-,hm,ha⟩:=hv.parts;obtain⟨K',X',Z',A',m',c',rfl,gP,gM,-,dC,bP⟩:=hu.parts;obtain rfl:m=1:=hm.symm;obtain rfl:m'=1:=dC.symm;obtain rfl:K=5:=hK;obtain rfl:K'=5:=gP;have bT:X.size<=24:=by have:=zbo H.nt;rw[<-hX]at this;exact this
 have yn:X'.size<=24:=by have:=zbo H.nu;rw[<-gM]at this;exact this
 have vS:X.data.toList=x:=by rw[hX];rfl
 have hyl:X'.data.toList=y:=by rw[gM];rfl
 obtain⟨l0,l1,ls,cj⟩:=zaZ w (.cells #[.int .i64 5,.string X,.int .i64 Z,.slice A 1 c] 37) (.cells #[.int .i64 5,.string X',.int .i64 Z',.slice A' 1 c'] 37);obtain⟨W2,jx⟩:∃W,(w.alloc (.cells #[.int .i64 5,.string X,.int .i64 Z,.slice A 1 c] 37)).alloc (.cells #[.int .i64 5,.string X',.int .i64 Z',.slice A' 1 c'] 37)=W:=⟨_,rfl⟩;rw[jx]at l0 l1 ls cj
 have fu:=H.pi.below cj;have lP:(Ty.all x t1).size=zaf [t1]+1:=by rw[zaj];rfl
 obtain⟨p0,p1,p2,p3,-⟩:=zaa (show Blk W2 w.heap.size 37 _ from l0);obtain⟨q0,q1,q2,q3,-⟩:=zaa (show Blk W2 (w.heap.size+1) 37 _ from l1);have z0:W2.cell? ⟨pb,2,none⟩=some (.int .i64 (mt:Nat)):=fu.pr.cell 2;have z1:W2.frozen? ⟨pb,2,none⟩=false:=fu.pr.frozen 2;have fU:mt<=1000000000:=by have:=H.l3;omega
 obtain⟨W3,hW3⟩:∃W,W2.setCell ⟨pb,2,none⟩ (.int .i64 ((mt:Int)+1))=W:=⟨_,rfl⟩;have wT:Blk W3 pb 118 #[.map (some lb),.map (some rb),.int .i64 ((mt:Int)+1)]:=by rw[<-hW3];exact heap_setCell_same W2 pb 2 _ _ _ fu.pr
 have xP:∀q,q≠pb->W3.heap[q]?=W2.heap[q]?:=λq hq=>by rw[<-hW3];exact Below.heap_setCell W2 ⟨pb,2,none⟩ _ q hq
 have cY:W3.heap.size=w.heap.size+2:=by rw[<-hW3];simp;exact ls
 have kQ:∀g,PM pb lb rb g->g<w.heap.size:=H.pi.lt;have hpbl:pb<w.heap.size:=kQ _ (.inl rfl);have af:=H.pi.ne;have sU:MapE mkInt W3.drew lb el:=(fu.le.keep (xP _ af.1.symm)).keep rfl;have sw:MapE mkInt W3.drew rb er:=(fu.ri.keep (xP _ af.2.1.symm)).keep rfl;have jX:Chg (PM pb lb rb) w W3.drew:=by rw[<-hW3];exact(((Chg.of_below cj).setCell (p:=⟨pb,2,none⟩) (.inr (.inl rfl)) _)).drew
 have rM:Hid (Blk W3.drew pb 118 #[.map (some lb),.map (some rb),.int .i64 ((mt:Int)+1)]):=CS wT;have jz:Hid (Blk W3.drew w.heap.size 37 #[.int .i64 5,.string X,.int .i64 Z,.slice A 1 c]):=CS ((xP _ (by omega)).trans l0);have UB0:Hid (Blk W3.drew (w.heap.size+1) 37 #[.int .i64 5,.string X',.int .i64 Z',.slice A' 1 c']):=CS ((xP _ (by omega)).trans l1);have yR:Hid (∀W:World,Blk W pb 118 #[.map (some lb),.map (some rb),.int .i64 ((mt:Int)+1)]->Blk W w.heap.size 37 #[.int .i64 5,.string X,.int .i64 Z,.slice A 1 c] ->
  W.cell? ⟨pb,0,none⟩=some (.map (some lb))/\W.cell? ⟨w.heap.size,1,none⟩=some (.string X)/\W.cell? ⟨pb,2,none⟩=some (.int .i64 ((mt:Int)+1))):=CS λW h1 h2=>⟨h1.cell 0,h2.cell 1,h1.cell 2⟩
 have yQ:Hid (∀W:World,Blk W pb 118 #[.map (some lb),.map (some rb),.int .i64 ((mt:Int)+1)]->Blk W (w.heap.size+1) 37 #[.int .i64 5,.string X',.int .i64 Z',.slice A' 1 c'] ->
  W.cell? ⟨pb,1,none⟩=some (.map (some rb))/\W.cell? ⟨w.heap.size+1,1,none⟩=some (.string X')/\W.cell? ⟨pb,2,none⟩=some (.int .i64 ((mt:Int)+1))):=CS λW h1 h2=>⟨h1.cell 1,h2.cell 1,h1.cell 2⟩
 have pU:el.length<1000000000:=by have:=H.l1;omega
 have her:er.length<1000000000:=by have:=H.l2;omega
 have yk:X.size<=maxLen:=by unfold maxLen;omega
 have yj:X'.size<=maxLen:=by unfold maxLen;omega
 have yX:=CS yk;have yW:=CS yj;have zR:=CS pU;have HER:=CS her;have ui:=CS sU;have HRI:=CS sw;have ko:=CS jX;have HV:=CS hv;have HU:=CS hu;have HH:=CS H;have cH:=CS af;have rN:=CS vS;have HYL:=CS hyl;have HSK:=CS lP;have HN:=CS hn;have aC:=CS kQ;have rA:=sU.canon;have rz:=sw.canon;have me:=CS rA;have zT:=CS rz;have qO:W3.drew.heap.size=w.heap.size+2:=cY;rw[zpZ]
 obtain⟨⟨q,z⟩,hqz⟩:∃p,smL ((x,mt+1)::el) ((y,mt+1)::er) [t1] [u1] (mt+1)=p:=⟨_,rfl⟩;rw[hqz]
 have HQZ:=CS hqz;clear hv hu hX gM ha bP l0 l1 ls cj fu wT xP sU sw jX vS hyl hqz rA rz H lP hn kQ hm dC bT yn pU her yk yj af;go_enter_defers Tryz.func60,Tryz.ntmps60
 go_wp2_with fail
 go_region_held3 (λW=>W.cell? ⟨pb,0,none⟩=some (.map (some lb))/\W.cell? ⟨w.heap.size,1,none⟩=some (.string X)/\W.cell? ⟨pb,2,none⟩=some (.int .i64 ((mt:Int)+1))) (first|(with_reducible exact yR.out _ rM.out jz.out)|(with_reducible exact yR.out _ rL.out gR.out))
  ((first|((with_reducible refine(zfD lb el X (mt+1) ((mt:Int)+1) rfl W3.drew ui.out yX.out zR.out).mono ?_);rintro e w4 ⟨rfl,yJ,mp4,c4⟩;unfold zf3;have rL:=CS (rM.out.chg c4 (by have:=cH.out;unfold only;omega));have gR:=CS (jz.out.chg c4 (by have:=aC.out lb (.inr (.inl rfl));unfold only;omega));have uB:=CS yJ;have MP4:=CS mp4;have C4:=CS c4;clear yJ mp4 c4)))
 have en:=C4.out.size;rw[qO]at en
 have hrbl:rb<w.heap.size:=aC.out rb (.inr (.inr rfl));have hlbl:lb<w.heap.size:=aC.out lb (.inr (.inl rfl));have yS:Hid (Blk w4.drew pb 118 #[.map (some lb),.map (some rb),.int .i64 ((mt:Int)+1)]):=CS rL.out;have yP:Hid (Blk w4.drew (w.heap.size+1) 37 #[.int .i64 5,.string X',.int .i64 Z',.slice A' 1 c']):=CS (show Blk w4 _ _ _ from UB0.out.chg C4.out (by unfold only;omega));have RI4:Hid (MapE mkInt w4.drew rb er):=CS ((HRI.out.keep (C4.out.block _ (by rw[qO];omega) (by have:=cH.out;unfold only;omega))).keep rfl);go_wp2_with fail
 go_region_held3 (λW=>W.cell? ⟨pb,1,none⟩=some (.map (some rb))/\W.cell? ⟨w.heap.size+1,1,none⟩=some (.string X')/\W.cell? ⟨pb,2,none⟩=some (.int .i64 ((mt:Int)+1))) (first|(with_reducible exact yQ.out _ yS.out yP.out)|(with_reducible exact yQ.out _ PB2.out UB2.out))
  ((first|((with_reducible refine(zfD rb er X' (mt+1) ((mt:Int)+1) rfl w4.drew RI4.out yW.out HER.out).mono ?_);rintro e w5 ⟨rfl,yI,qF,c5⟩;unfold zf3;have PB2:=CS (yS.out.chg c5 (by have:=cH.out;unfold only;omega));have UB2:=CS (yP.out.chg c5 (by unfold only;omega));have Ag:=CS yI;have yT:=CS qF;have C5:=CS c5;clear yI qF c5)))
 have ss:w4.drew.heap.size=w4.heap.size:=rfl;have ej:=C5.out.size;rw[ss]at ej
 have tg:∀g,g<w4.heap.size->g≠rb->w5.heap[g]?=w4.heap[g]?:=λg h1 h2=>C5.out.block g h1 h2;have bG:PairI pb lb rb ((x,mt+1)::el) ((y,mt+1)::er) (mt+1) w5 :=
  ⟨PB2.out,by have:=MP4.out.keep (tg lb (by omega) cH.out.2.2);rw[rN.out]at this;exact this,by have:=yT.out;rw[HYL.out]at this;exact this,cH.out⟩
 have br:Chg (PM pb lb rb) w w5:=(ko.out.trans' C4.out (λg _ h=>.inr (.inl h))).trans' (b:=w4) ⟨C5.out.os,C5.out.tape,C5.out.output,C5.out.size,C5.out.block⟩ (λg _ h=>.inr (.inr h));have kV:Blk w5 w.heap.size 37 #[.int .i64 5,.string X,.int .i64 Z,.slice A 1 c]:=(tg _ (by omega) (by omega)).trans gR.out;obtain⟨a0,a1,a2,a3,-⟩:=zaa kV;obtain⟨b0,b1,b2,b3,-⟩:=zaa UB2.out;have aq:=zdK n pb lb rb HC (.all x t1) (.all y u1) ((x,mt+1)::el) ((y,mt+1)::er) (mt+1) S Su _ _ w5 HN.out h6 bG (HV.out.keep (λ_ h=>h) (λg hg=>br.block g (HH.out.s g hg).1 (HH.out.s g hg).2)) (HU.out.keep (λ_ h=>h) (λg hg=>br.block g (HH.out.su g hg).1 (HH.out.su g hg).2))
  (λg hg=>⟨by have:=(HH.out.s g hg).1;omega,(HH.out.s g hg).2⟩) (λg hg=>⟨by have:=(HH.out.su g hg).1;omega,(HH.out.su g hg).2⟩) HH.out.nt HH.out.nu (by have:=HH.out.l1;have:=HSK.out;show el.length+1+zaf [t1]<=_;omega) (by have:=HH.out.l2;have:=HSK.out;show er.length+1+zaf [t1]<=_;omega) (by have:=HH.out.l3;have:=HSK.out;show mt+1+zaf [t1]<=_;omega) rfl
 change Calls _ _ _ _ (SPst pb lb rb _ _ (smL ((x,mt+1)::el) ((y,mt+1)::er) [t1] [u1] (mt+1)) w5)at aq
 rw[HQZ.out]at aq
 have av:=CS aq;have HC5:=CS br;clear aq br bG kV;go_wp2_with fail
 refine av.out.mono ?_;rintro e w6 ⟨rfl,hp6,c6⟩;have dO:=c6.size;have Af:=CS (Ag.out.keep (w':=w6) (λk h1 h2=>c6.block k (by have:=Ag.out.2.2.2.lt;rw[ss]at *;omega) (λh=>by have:=aC.out k h;rw[ss]at *;omega)));have rZ:=CS (uB.out.keep (w':=w6) (λk h1 h2=>(c6.block k (by have:=uB.out.2.2.2.lt;rw[qO]at *;omega) (λh=>by have:=aC.out k h;rw[qO]at *;omega)).trans (tg k (by have:=uB.out.2.2.2.lt;rw[qO]at *;omega) (by rw[qO]at *;omega))));have sv:=hp6.ri;have mX:=hp6.le;rw[<-HYL.out]at sv
 rw[<-rN.out]at mX
 have HP6:=CS hp6;have C6:=CS c6;have HRI6:=CS sv;have zI:=CS mX;clear hp6 c6 sv mX av;go_wp2_with fail
 refine leaves_cons (f:=151) (args:=#[.pointer (some ⟨w4.heap.size+3,0,none⟩),.pointer (some ⟨w4.heap.size+2,0,none⟩),.pointer (some ⟨w4.heap.size,0,none⟩),.pointer (some ⟨w4.heap.size+1,0,none⟩)]) (by simp) (by simp[go_sem]) ?_;refine(zed w4.heap.size rb er X' (mt+1) .returning w6 Af.out HRI6.out zT.out yW.out HER.out).mono ?_;rintro e u' w7 ⟨rfl,rfl,m7,b7⟩;have kG:=b7.size;refine leaves_cons (f:=151) (args:=#[.pointer (some ⟨W3.heap.size+3,0,none⟩),.pointer (some ⟨W3.heap.size+2,0,none⟩),.pointer (some ⟨W3.heap.size,0,none⟩),.pointer (some ⟨W3.heap.size+1,0,none⟩)]) (by simp[settle]) (by simp[go_sem]) ?_;refine(zed W3.heap.size lb el X (mt+1) .returning w7 (rZ.out.keep (λk h1 h2=>b7.block k (by have:=rZ.out.2.2.2.lt;rw[qO]at *;omega) (by rw[qO]at *;unfold only;omega))) (zI.out.keep (b7.block _ zI.out.lt cH.out.2.2)) me.out yX.out zR.out).mono ?_;rintro e u' w8 ⟨rfl,rfl,m8,b8⟩;have hs8:=b8.size;have af:=cH.out;refine⟨_,results_tmp rfl _ _ _,rfl,⟨?_,m8,m7.keep (b8.block _ m7.lt (by unfold only;omega)),af⟩,?_⟩
 ·exact(HP6.out.pr.chg b7 (by unfold only;omega)).chg b8 (by unfold only;omega)
 ·exact((HC5.out.trans C6.out).trans' b7 (λg _ h=>.inr (.inr h))).trans' b8 (λg _ h=>.inr (.inl h))
set_option maxRecDepth 100000
theorem zpo(pb lb rb:Nat)(n:Nat):zeV n pb lb rb:=by
 induction n with
 |zero=>intro t u el er m S Su v uv w hn;rw[zaj]at hn;omega
 |succ n ih =>
  intro t u el er m S Su v uv w hn h6 hp hv hu hS bX lR cK h1 h2 h3;have h6':n<=100000000:=by omega
  by_cases hk:kd t≠kd u\/(kids t).length≠(kids u).length
  ·obtain⟨K,X,Z,A,m1,c,rfl,hK,-,-,hm,-⟩:=hv.parts
   obtain⟨K',X',Z',A',r9,c',rfl,gP,-,-,dC,-⟩:=hu.parts;rw[znX el er t u m hk]
   exact zkP pb lb rb el er m K K' Z Z' X X' A A' m1 r9 c c' w hp (by
    rcases hk with hk|hk
    ·left;rw[hK,gP];exact λe=>hk (by omega)
    ·right;omega)
  ·have H:TwoOK pb lb rb t u el er m S Su w:=⟨hp,hS,bX,lR,cK,h1,h2,h3⟩
   have bI:kd t=kd u:=Cm λe=>hk (.inl e);have cC:(kids t).length=(kids u).length:=Cm λe=>hk (.inr e);cases t with
   |var x =>
    cases u with
    |var y =>
     have hX:=zbo lR;have gM:=zbo cK;obtain⟨K,X,Z,A,m1,c,rfl,hK,hXX,-,hm,-⟩:=hv.parts;obtain⟨K',X',Z',A',r9,c',rfl,gP,ym,-,dC,-⟩:=hu.parts;obtain rfl:K=1:=hK;obtain rfl:K'=1:=gP;obtain rfl:m1=r9:=by have e1:0=m1:=hm;have e2:0=r9:=dC;omega
     rw[zmd]
     have:=zkQ pb lb rb el er m Z Z' X X' A A' m1 c c' w hp (by rw[hXX];exact hX) (by rw[ym];exact gM);rw[show X.data.toList=x by rw[hXX];rfl,show X'.data.toList=y by rw[ym];rfl]at this
     exact this
    |_=>simp[kd]at bI
   |mt k =>
    cases u with
    |mt j =>
     obtain⟨K,X,Z,A,m1,c,rfl,hK,-,hZ,hm,-⟩:=hv.parts;obtain⟨K',X',Z',A',r9,c',rfl,gP,-,hZ',dC,-⟩:=hu.parts;obtain rfl:K=2:=hK;obtain rfl:K'=2:=gP;obtain rfl:m1=r9:=by have e1:0=m1:=hm;have e2:0=r9:=dC;omega
     rw[zoL]
     have:=zme pb lb rb el er m Z Z' X X' A A' m1 c c' w hp;rw[show(Z==Z')=decide (k=j) by rw[hZ,hZ'];exact BV.2 (by simp[nn];omega)]at this
     exact this
    |_=>simp[kd]at bI
   |con cn l =>
    cases u with
    |con dn r=>exact zkR n pb lb rb ih cn dn l r el er m S Su v uv w hn h6' H hv hu cC
    |_=>simp[kd]at bI
   |fn a b =>
    cases u with
    |fn a' b'=>exact zmf n pb lb rb ih a b a' b' el er m S Su v uv w hn h6' H hv hu
    |_=>simp[kd]at bI
   |all x t1 =>
    cases u with
    |all y u1=>exact zkS n pb lb rb ih x y t1 u1 el er m S Su v uv w hn h6' H hv hu
    |_=>simp[kd]at bI
theorem zpp(t u:Ty)(S Su:Nat->Prop)(v uv:Value)(w:World)(hv:RdV S w t v)(hu:RdV Su w u uv)(hS:∀g,S g->g<w.heap.size)(bX:∀g,Su g->g<w.heap.size)(lR:Nm t)(cK:Nm u)(aD:t.size<=100000000):Calls Tryz.prog 22 #[v,uv] w λe w'=>e=.returned (.bool (smT [] [] t u 0).1)/\Below w.heap.size w w':=by
 obtain⟨K,X,Z,A,m,c,rfl,-,-,-,-,-⟩:=hv.parts;obtain⟨K',X',Z',A',m',c',rfl,-,-,-,-,-⟩:=hu.parts;have dY:∀w,(Instr.makeMap 116 none).run Tryz.prog w=.ok (.map (some w.heap.size)) (w.alloc (.map #[] 0)):=λ_=>rfl;obtain⟨l0,l1,l2,l3,ls,lb⟩:=zcU w (.cells #[.int .i64 K,.string X,.int .i64 Z,.slice A m c] 37) (.cells #[.int .i64 K',.string X',.int .i64 Z',.slice A' m' c'] 37) (.map #[] 0) (.map #[] 0);obtain⟨W4,iN⟩:∃W,(((w.alloc (.cells #[.int .i64 K,.string X,.int .i64 Z,.slice A m c] 37)).alloc (.cells #[.int .i64 K',.string X',.int .i64 Z',.slice A' m' c'] 37)).alloc (.map #[] 0)).alloc (.map #[] 0)=W:=⟨_,rfl⟩;rw[iN]at l0 l1 l2 l3 ls lb
 have bz:Below W4.heap.size W4 (W4.alloc (.cells #[.map (some (w.heap.size+1+1)),.map (some (w.heap.size+1+1+1)),.int .i64 0] 118)):=(Below.refl _ W4).alloc (Ai _) _;have ej:=size_alloc W4 (.cells #[.map (some (w.heap.size+1+1)),.map (some (w.heap.size+1+1+1)),.int .i64 0] 118);have oC:PairI (w.heap.size+4) (w.heap.size+1+1) (w.heap.size+1+1+1) [] [] 0 (W4.alloc (.cells #[.map (some (w.heap.size+1+1)),.map (some (w.heap.size+1+1+1)),.int .i64 0] 118)) :=
  ⟨by have:=heap_alloc_new W4 (.cells #[.map (some (w.heap.size+1+1)),.map (some (w.heap.size+1+1+1)),.int .i64 0] 118);rw[ls]at this;exact this,
   MapE.laid mkInt ((bz.block _ (by rw[ls];omega)).trans l2),MapE.laid mkInt ((bz.block _ (by rw[ls];omega)).trans l3),by omega⟩
 have aP:Below w.heap.size w (W4.alloc (.cells #[.map (some (w.heap.size+1+1)),.map (some (w.heap.size+1+1+1)),.int .i64 0] 118)):=lb.trans (bz.mono (by omega));have aq:=zpo (w.heap.size+4) (w.heap.size+1+1) (w.heap.size+1+1+1) t.size t u [] [] 0 S Su _ _ _ (Ai _) aD oC (hv.keep (λ_ h=>h) (λg hg=>aP.block g (hS g hg))) (hu.keep (λ_ h=>h) (λg hg=>aP.block g (bX g hg)))
  (λg hg=>by have:=hS g hg;exact⟨by omega,λh=>by rcases h with h|h|h <;> omega⟩) (λg hg=>by have:=bX g hg;exact⟨by omega,λh=>by rcases h with h|h|h <;> omega⟩) lR cK (by simp;omega) (by simp;omega) (by omega)
 have av:=CS aq;have mh:=CS aP;have LS:=CS ls;obtain⟨p0,p1,p2,p3,-⟩:=zaa (show Blk W4 w.heap.size 37 _ from l0);obtain⟨q0,q1,q2,q3,-⟩:=zaa (show Blk W4 (w.heap.size+1) 37 _ from l1);obtain⟨⟨q,z⟩,hqz⟩:∃p,smT [] [] t u 0=p:=⟨_,rfl⟩;rw[hqz]at av ⊢
 clear hv hu hS bX lR cK l0 l1 l2 l3 lb bz ej oC aP aq hqz;go_enter Tryz.func22,Tryz.ntmps22
 go_wp2_with fail
 first
  |refine av.out.mono ?_
  |(rw[LS.out];refine av.out.mono ?_)
 rintro e w6 ⟨rfl,-,c6⟩;have HB6:=CS (mh.out.trans (c6.toBelow (B:=w.heap.size) (by have:=LS.out;simp;omega) (λk hk h=>by rcases h with h|h|h <;> omega)));clear c6 av;go_wp2_with fail
 go_ret
 exact⟨rfl,HB6.out⟩
structure Twin (el er:List (Name × Nat)) (xs ys:List Name) (ns:List Nat) (m:Nat):Prop where
 hl:∀x,(look x el).getD 0=((idx x xs).map λi=>ns.getD i 0).getD 0
 hr:∀x,(look x er).getD 0=((idx x ys).map λi=>ns.getD i 0).getD 0
 lx:xs.length=ns.length
 ly:ys.length=ns.length
 nd:ns.Nodup
 po:∀n∈ns,0<n/\n<=m
theorem Twin.more {el er:List (Name × Nat)} {xs ys:List Name} {ns:List Nat} {m m':Nat}(h:Twin el er xs ys ns m)(hm:m<=m'):Twin el er xs ys ns m' :=
 {h with po:=λn hn=>⟨(h.po n hn).1,AB (h.po n hn).2 hm⟩ }
theorem zhu(el:List (Name × Nat))(xs:List Name)(ns:List Nat)(h:∀x,(look x el).getD 0=((idx x xs).map λi=>ns.getD i 0).getD 0)(x:Name)(k:Nat)(z:Name):(look z ((x,k)::el)).getD 0=((idx z (x::xs)).map λi=>(k::ns).getD i 0).getD 0:=by
 rw[look,idx]
 by_cases hz:x=z
 ·rw[Aq hz,Aq hz.symm];rfl
 ·rw[Am hz,Am (λe=>hz e.symm),h z]
  cases idx z xs <;> rfl
theorem Twin.cons {el er:List (Name × Nat)} {xs ys:List Name} {ns:List Nat} {m:Nat}(h:Twin el er xs ys ns m)(x y:Name):Twin ((x,m+1)::el) ((y,m+1)::er) (x::xs) (y::ys) ((m+1)::ns) (m+1) where
 hl:=zhu el xs ns h.hl x (m+1)
 hr:=zhu er ys ns h.hr y (m+1)
 lx:=by simp[h.lx]
 ly:=by simp[h.ly]
 nd:=by
  rw[A6]
  exact⟨λhm=>by have:=(h.po _ hm).2;omega,h.nd⟩
 po n hn:=by
  rcases An.1 hn with rfl|hn
  ·omega
  ·have:=h.po n hn;omega
theorem zkT(l:List Nat)(h:l.Nodup)(i j:Nat)(hi:i<l.length)(hj:j<l.length)(e:l.getD i 0=l.getD j 0):i=j:=by
 induction l generalizing i j with
 |nil=>simp at hi
 |cons a r ih =>
  rw[A6]at h
  have key:∀q,q<r.length->r.getD q 0∈r:=λq hq=>by rw[AO,Ak hq];exact Bd hq
  cases i with
  |zero =>
   cases j with
   |zero=>rfl
   |succ j=>exact(h.1 (by rw[show a=r.getD j 0 from e];exact key j (by simpa using hj))).elim
  |succ i =>
   cases j with
   |zero=>exact(h.1 (by rw[show a=r.getD i 0 from e.symm];exact key i (by simpa using hi))).elim
   |succ j=>rw[ih h.2 i j (by simpa using hi) (by simpa using hj) e]
theorem zgN(xs:List Name):(l:List Ty)->(dbL xs l).length=l.length
 |[]=>by rw[dbL];rfl
 |t::r=>by rw[dbL,Ao,Ao,zgN xs r]
mutual
theorem zgb:(t:Ty)->∀(u:Ty)(el er:List (Name × Nat))(xs ys:List Name)(ns:List Nat)(m:Nat),Twin el er xs ys ns m->((smT el er t u m).1=true↔db xs t=db ys u)
 |.var x,u,el,er,xs,ys,ns,m,h=>by
  cases u with
  |var y =>
   rw[zmd,db,db,h.hl,h.hr]
   show decide _=true↔_;rw[Cr]
   cases hi:idx x xs with
   |none =>
    cases hj:idx y ys with
    |none=>simp
    |some j =>
     have ah:=zeW y ys j hj;rw[h.ly]at ah
     have hp:=(h.po (ns.getD j 0) (by rw[AO,Ak ah];exact Bd ah)).1;show(0=ns.getD j 0/\(0<0\/x=y))↔Dt.fv x=Dt.bv j;constructor
     ·rintro⟨e,_⟩;omega
     ·intro e;cases e
   |some i =>
    have kR:=zeW x xs i hi;rw[h.lx]at kR
    have oC:=(h.po (ns.getD i 0) (by rw[AO,Ak kR];exact Bd kR)).1;cases hj:idx y ys with
    |none =>
     show(ns.getD i 0=0/\(0<ns.getD i 0\/x=y))↔Dt.bv i=Dt.fv y;constructor
     ·rintro⟨e,_⟩;omega
     ·intro e;cases e
    |some j =>
     have ah:=zeW y ys j hj;rw[h.ly]at ah
     show(ns.getD i 0=ns.getD j 0/\(0<ns.getD i 0\/x=y))↔Dt.bv i=Dt.bv j;constructor
     ·rintro⟨e,_⟩
      rw[zkT ns h.nd i j kR ah e]
     ·intro e
      injection e with e;subst e;exact⟨rfl,.inl oC⟩
  |mt k=>simp only[smT,db];cases idx x xs <;> simp
  |con c l=>simp only[smT,db];cases idx x xs <;> simp
  |fn a b=>simp only[smT,db];cases idx x xs <;> simp
  |all y s=>simp only[smT,db];cases idx x xs <;> simp
 |.mt n,u,el,er,xs,ys,ns,m,h=>by
  cases u with
  |mt k=>rw[zoL,db,db];simp
  |var y=>simp only[smT,db];cases idx y ys <;> simp
  |con c l=>simp[smT,db]
  |fn a b=>simp[smT,db]
  |all y s=>simp[smT,db]
 |.con c l,u,el,er,xs,ys,ns,m,h=>by
  cases u with
  |con d r =>
   rw[smT,db,db]
   by_cases hc:l.length=r.length/\c=d
   ·rw[Aq hc,zmg l r el er xs ys ns m h hc.1,hc.2]
    constructor
    ·intro e;rw[e]
    ·intro e;injection e
   ·rw[Am hc]
    constructor
    ·intro e;cases e
    ·intro e
     injection e with e1 e2;refine(hc ⟨?_,e1⟩).elim;have:=Az List.length e2;rwa [zgN,zgN]at this
  |var y=>simp only[smT,db];cases idx y ys <;> simp
  |mt k=>simp[smT,db]
  |fn a b=>simp[smT,db]
  |all y s=>simp[smT,db]
 |.fn a b,u,el,er,xs,ys,ns,m,h=>by
  cases u with
  |fn a' b' =>
   rw[smT,db,db]
   have h1:=zgb a a' el er xs ys ns m h;have hm:=(zdV a el er a' m).1;have h2:=zgb b b' el er xs ys ns (smT el er a a' m).2 (h.more hm);by_cases hq:(smT el er a a' m).1=true
   ·rw[Aq hq,h2,h1.1 hq]
    constructor
    ·intro e;rw[e]
    ·intro e;injection e
   ·rw[Am hq]
    constructor
    ·intro e;cases e
    ·intro e;injection e with e1 _;exact(hq (h1.2 e1)).elim
  |var y=>simp only[smT,db];cases idx y ys <;> simp
  |mt k=>simp[smT,db]
  |con c l=>simp[smT,db]
  |all y s=>simp[smT,db]
 |.all x t,u,el,er,xs,ys,ns,m,h=>by
  cases u with
  |all y s =>
   rw[smT,db,db,zgb t s _ _ (x::xs) (y::ys) ((m+1)::ns) (m+1) (h.cons x y)]
   constructor
   ·intro e;rw[e]
   ·intro e;injection e
  |var y=>simp only[smT,db];cases idx y ys <;> simp
  |mt k=>simp[smT,db]
  |con c l=>simp[smT,db]
  |fn a b=>simp[smT,db]
theorem zmg:(l:List Ty)->∀(r:List Ty)(el er:List (Name × Nat))(xs ys:List Name)(ns:List Nat)(m:Nat),Twin el er xs ys ns m->l.length=r.length->((smL el er l r m).1=true↔dbL xs l=dbL ys r)
 |[],r,el,er,xs,ys,ns,m,h,hl=>by
  cases r with
  |nil=>simp[smL,dbL]
  |cons b r=>simp at hl
 |a::l,r,el,er,xs,ys,ns,m,h,hl=>by
  cases r with
  |nil=>simp at hl
  |cons b r =>
   rw[smL,dbL,dbL]
   have h1:=zgb a b el er xs ys ns m h;have hm:=(zdV a el er b m).1;have h2:=zmg l r el er xs ys ns (smT el er a b m).2 (h.more hm) (by simpa using hl);by_cases hq:(smT el er a b m).1=true
   ·rw[Aq hq,h2,h1.1 hq]
    constructor
    ·intro e;rw[e]
    ·intro e;injection e
   ·rw[Am hq]
    constructor
    ·intro e;cases e
    ·intro e;injection e with e1 _;exact(hq (h1.2 e1)).elim
end
theorem same_iff(t u:Ty):(smT [] [] t u 0).1=true↔db [] t=db [] u :=
 zgb t u [] [] [] [] [] 0 ⟨λ_=>rfl,λ_=>rfl,rfl,rfl,Bw,λ_ h=>(AT h).elim⟩
end Go.Proofs.YtfafilmklhnngaaGreatDoor
