import Derived.Test.YtfafilmklhnngaaGreatDoorBiAD
import Derived.Test.YtfafilmklhnngaaGreatDoorBiZ
import Derived.Lib.SliceRun
set_option maxHeartbeats 12800000
namespace Go.Proofs.YtfafilmklhnngaaGreatDoor
open Go.RowKit Lx Tx Go.Maps Go.WideMaps Go.Shelf
set_option maxRecDepth 100000
theorem zix {w:World} {base b:Nat} {e:TypeId}(h:w.heap[b]?=some (.cells #[] e (0,0)))(hb:base<=b):w.ownsRow base e 4 (.slice (some ⟨b,0,none⟩) 0 0) 0 [] :=
 ⟨rfl,.inr ⟨b,0,#[],rfl,hb,h,Nat.le_refl _,by unfold maxLen;omega,rfl,rfl⟩⟩
theorem zhx(A:Option Addr)(m cp:Nat)(vs:List Value)(w:World)(h0:A=none->m=0)(hl:vs.length=m*4)(hc:∀ad,A=some ad->∀w':World,Below w.heap.size w w'->∀j u,vs[j]?=some u->w'.cell? (ad.add j)=some u)(h1:∀u∈vs,u.oneCell'=true)(hm:m<=1000000):Calls Tryz.prog 135 #[.slice A m cp] w λe w'=>∃A' c',e=.returned (.slice A' m c')/\w'.ownsRow w.heap.size 37 4 (.slice A' m c') m vs/\Below w.heap.size w w':=by
 obtain⟨i0,hi0,hz0,hz1,hz2⟩:=info_parts ziN;have HC:=hidE hc;have HL:=hidE hl;have H1:=hidE h1;clear hc hl h1;cases A with
 |none =>
  obtain rfl:=h0 rfl;have heq:(binOp .eql 35 (.slice none 0 cp) (.slice none 0 0)).run Tryz.prog w=.ok (.bool true) w:=Lib.run_eql_slice_nil w _ 37 none 0 cp 0 0 Tryz.underlying35;have hvs:Hid (vs=[]):=hidE (by have:=HL.out;simpa using this);go_enter Tryz.func135,Tryz.ntmps135
  go_wp2_with fail
  go_ret
  exact⟨none,0,rfl,⟨by rw[hvs.out];rfl,.inl ⟨rfl,rfl⟩⟩,Below.refl _ w⟩
 |some ad =>
  clear h0;have heq:(binOp .eql 35 (.slice (some ad) m cp) (.slice none 0 0)).run Tryz.prog w=.ok (.bool false) w:=Lib.run_eql_slice_nil w _ 37 (some ad) m cp 0 0 Tryz.underlying35;go_enter Tryz.func135,Tryz.ntmps135
  go_wp2_with (at_builtin;refine wpList_append_own_at _ rfl (.tmp 5) (.tmp 6) 35 rfl w.heap.size 37 i0 _ 4 56 Tryz.underlying35 hi0 hz0 hz1 hz2 rfl (by decide) _ 0 [] rfl (zix (alloc_at _ _ _ rfl) (Nat.le_refl _)) ad m cp vs rfl HL.out (HC.out ad rfl _ ((Below.refl _ w).alloc (Nat.le_refl _) _)) H1.out (by unfold maxLen;omega) (by omega) (by simp) ?_;intro v2 w5 hown3 hgrow _ hat3;obtain⟨A2,c2,rfl⟩:=zao hown3;have HO3:=hidE hown3;have HG3:=hidE hgrow;have HT3:=hidE hat3;clear hown3 hgrow hat3)
  go_ret
  rw[Nat.zero_add,List.nil_append]at HO3
  exact⟨A2,c2,rfl,HO3.out,((Below.refl _ w).alloc (Nat.le_refl _) _).grown HG3.out (by simp) (λk hk=>by injection hk with hk;rw[<-hk];exact Nat.le_refl _)⟩
end Go.Proofs.YtfafilmklhnngaaGreatDoor
namespace Go.Proofs.YtfafilmklhnngaaGreatDoor
open Go.RowKit Lx Tx Go.Maps Go.WideMaps Go.Shelf
set_option maxRecDepth 100000
mutual
def Tx.Ty.fas:Ty->Nat
 |.var _=>0
 |.mt _=>0
 |.con _ l=>fasL l
 |.fn a b=>a.fas+b.fas
 |.all _ t=>t.fas+1
def fasL:List Ty->Nat
 |[]=>0
 |t::r=>t.fas+fasL r
end
theorem zhy(t:Ty):t.fas=fasL (kids t)+(if kd t=5 then 1 else 0):=by
 cases t <;> rw[Ty.fas,kids] <;> simp[fasL,kd]
theorem zkR(l:List Ty)(t:Ty):fasL (l++[t])=fasL l+t.fas:=by
 induction l with
 |nil=>simp[fasL]
 |cons a r ih=>rw[List.cons_append,fasL,fasL,ih];omega
theorem zgA(l:List Ty)(i:Nat)(u:Ty)(hu:∃hi:i<l.length,l[i]=u):fasL (l.take (i+1))=fasL (l.take i)+u.fas:=by
 obtain⟨hi,rfl⟩:=hu;rw[zbS l i hi,zkR]
theorem zeo(l:List Ty)(i:Nat):fasL (l.take i)<=fasL l:=by
 induction l generalizing i with
 |nil=>simp
 |cons t r ih =>
  cases i with
  |zero=>simp[fasL]
  |succ i=>rw[List.take_succ_cons,fasL,fasL];have:=ih i;omega
section
variable {σ:Type}
mutual
def chg(bind:Name->σ->Name × σ)(leaf:Ty->Ty)(env:List (Name × Name)):Ty->σ->Ty × σ
 |.var x,s=>(((look x env).map Ty.var).getD (leaf (.var x)),s)
 |.mt n,s=>(leaf (.mt n),s)
 |.con c l,s=>(.con c (chgL bind leaf env l s).1,(chgL bind leaf env l s).2)
 |.fn a b,s=>(.fn (chg bind leaf env a s).1 (chg bind leaf env b (chg bind leaf env a s).2).1,(chg bind leaf env b (chg bind leaf env a s).2).2)
 |.all x t,s=>(.all (bind x s).1 (chg bind leaf ((x,(bind x s).1)::env) t (bind x s).2).1,(chg bind leaf ((x,(bind x s).1)::env) t (bind x s).2).2)
def chgL(bind:Name->σ->Name × σ)(leaf:Ty->Ty)(env:List (Name × Name)):List Ty->σ->List Ty × σ
 |[],s=>([],s)
 |t::r,s=>((chg bind leaf env t s).1::(chgL bind leaf env r (chg bind leaf env t s).2).1,(chgL bind leaf env r (chg bind leaf env t s).2).2)
end
theorem zdf(bind:Name->σ->Name × σ)(leaf:Ty->Ty)(env:List (Name × Name))(l:List Ty)(t:Ty)(s:σ):chgL bind leaf env (l++[t]) s=((chgL bind leaf env l s).1++[(chg bind leaf env t (chgL bind leaf env l s).2).1],(chg bind leaf env t (chgL bind leaf env l s).2).2):=by
 induction l generalizing s with
 |nil=>rw[List.nil_append,chgL,chgL,chgL];rfl
 |cons a r ih=>rw[List.cons_append,chgL,chgL,ih];rfl
theorem zcc(bind:Name->σ->Name × σ)(leaf:Ty->Ty)(env:List (Name × Name))(l:List Ty)(s:σ):(chgL bind leaf env l s).1.length=l.length:=by
 induction l generalizing s with
 |nil=>rw[chgL]
 |cons a r ih=>rw[chgL,List.length_cons,List.length_cons,ih]
structure InvC (I:Nat->σ->World->Prop) (K:Nat->Prop):Prop where
 mono:∀c c' s w,I c s w->c<=c'->I c' s w
 lt:∀c s w,I c s w->∀g,K g->g<w.heap.size
 keep:∀c s w w',I c s w->w.heap.size<=w'.heap.size->(∀g,K g->w'.heap[g]?=w.heap[g]?)->I c s w'
def zfv(kb:Nat)(cb:Array Value)(I:Nat->σ->World->Prop)(M:Nat->Prop)(bind:Name->σ->Name × σ):Prop :=
 ∀(c:Nat) (s:σ) (X:ByteArray) (w:World),I c s w->X.size<=24->c<10000000 ->
  Calls Tryz.prog kb (#[.string X]++cb) w λe w'=>e=.returned (.string ⟨(bind X.data.toList s).1.toArray⟩)/\I (c+1) (bind X.data.toList s).2 w'/\Chg M w w'
def zep(kl:Nat)(cl:Array Value)(I:Nat->σ->World->Prop)(M Su:Nat->Prop)(leaf:Ty->Ty):Prop :=
 ∀(c:Nat) (s:σ) (t:Ty) (S:Nat->Prop) (v:Value) (w:World),I c s w->RdV S w t v->(∀g,S g->g<w.heap.size)->kd t=1\/kd t=2->Nm t ->
  Calls Tryz.prog kl (#[v]++cl) w λe w'=>∃k x z a m p,e=.returned (.agg #[.int .i64 k,.string x,.int .i64 z,.slice a m p])/\RdV Su w' (leaf t) (.agg #[.int .i64 k,.string x,.int .i64 z,.slice a m p])/\I c s w'/\Chg M w w'
def CPst(mb:Nat)(I:Nat->σ->World->Prop)(M Su:Nat->Prop)(env:List (Name × Name))(c:Nat)(p:Ty × σ)(w:World)(e:Ending)(w':World):Prop :=
 ∃k x z a m q,e=.returned (.agg #[.int .i64 k,.string x,.int .i64 z,.slice a m q])/\RdV (λg=>Su g\/(w.heap.size<=g/\g<w'.heap.size)) w' p.1 (.agg #[.int .i64 k,.string x,.int .i64 z,.slice a m q])/\I c p.2 w'/\MapE mkTy w' mb env/\Chg (λg=>M g\/g=mb) w w'
def zjG(n kb kl:Nat)(cb cl:Array Value)(mb:Nat)(I:Nat->σ->World->Prop)(M Su:Nat->Prop)(bind:Name->σ->Name × σ)(leaf:Ty->Ty):Prop :=
 ∀(c:Nat) (s:σ) (env:List (Name × Name)) (t:Ty) (S:Nat->Prop) (v:Value) (w:World),t.size<=n->n<=1000000 ->
  I c s w->MapE mkTy w mb env->RdV S w t v->(∀g,S g->g<w.heap.size/\¬M g/\g≠mb)->Nm t->c+t.fas<=10000000->env.length+t.size<=100000000 ->
  Calls Tryz.prog 89 #[v,.map (some mb),fnV kb cb,fnV kl cl] w (CPst mb I M Su env (c+t.fas) (chg bind leaf env t s) w)
end
theorem zkS {σ:Type}(kb kl:Nat)(cb cl:Array Value)(mb:Nat)(I:Nat->σ->World->Prop)(K M Su:Nat->Prop)(bind:Name->σ->Name × σ)(leaf:Ty->Ty)(hI:InvC I K)(hMK:∀g,M g->K g)(hSu:∀g,Su g->K g)(hmb:¬K mb)
  (el:∀args w,(callFunc kl args).run Tryz.prog w=.ok (.enter kl args) w)(HL:zep kl cl I M Su leaf)
  (c:Nat)(s:σ)(env:List (Name × Name))(x:Name)(S:Nat->Prop)(v:Value)(w:World)(hi:I c s w)(hm:MapE mkTy w mb env)(hv:RdV S w (.var x) v)(hS:∀g,S g->g<w.heap.size)(hnm:Nm (.var x)):Calls Tryz.prog 89 #[v,.map (some mb),fnV kb cb,fnV kl cl] w (CPst mb I M Su env c (chg bind leaf env (.var x) s) w):=by
 obtain⟨k,X,Z,A,m,cp,rfl,hk,hX,hZ,hkm,-⟩:=hv.parts;have hml:=hm.lt;have hX24:=zbh hnm;rw[<-hX]at hX24
 have hxl:X.data.toList=x:=by rw[hX];rfl
 obtain⟨l0,l1,ls,lb⟩:=za2 w (.cells #[.int .i64 k,.string X,.int .i64 Z,.slice A m cp] 37) (.cells #[.int .i64 0,.string ⟨#[]⟩,.int .i64 0,.slice none 0 0] 37);have hlt:=hI.lt c s w hi;have hi2:=hI.keep c s w _ hi lb.size (λg hg=>lb.block g (hlt g hg));have hm2:=hm.keep (lb.block _ hml);have hlk:=hm2.getOk X (by unfold maxLen;omega);rw[ziS,hxl]at hlk
 have hv2:=hv.keep (λ_ h=>h) (λg hg=>lb.block g (hS g hg));rw[chg]
 obtain rfl:k=1:=hk;have HI:=hidE hi;have HM:=hidE hm;have HV:=hidE hv;have HLT:=hidE hlt;have HS:=hidE hS;have HNM:=hidE hnm;clear hi hm hv hX hi2 hm2 hv2 hlt hS ls lb l0 l1 hnm hZ hkm hxl hX24 hml;unfold fnV;cases hl:look x env with
 |some y =>
  rw[hl]at hlk
  replace hlk:(Instr.lookup 160 (.map (some mb)) (.string X) true).run Tryz.prog ((w.alloc (.cells #[.int .i64 1,.string X,.int .i64 Z,.slice A m cp] 37)).alloc (.cells #[.int .i64 0,.string ⟨#[]⟩,.int .i64 0,.slice none 0 0] 37))=.ok (.tuple #[.agg #[.int .i64 1,.string ⟨y.toArray⟩,.int .i64 0,.slice none 0 0],.bool true]) _:=hlk;clear hl;go_enter_defers Tryz.func89,Tryz.ntmps89
  go_wp2_with fail
  obtain⟨-,k1,-,ks,kb⟩:=zcE w (.cells #[.int .i64 1,.string X,.int .i64 Z,.slice A m cp] 37) (.cells #[.int .i64 1,.string ⟨y.toArray⟩,.int .i64 0,.slice none 0 0] 37) (.cells #[.int .i64 1,.string ⟨y.toArray⟩,.int .i64 0,.slice none 0 0] 37);refine⟨_,results_cell_row rfl _ _ (w.heap.size+1) 37 _ (0,0) _ rfl k1 Tryz.underlying37 rfl (by kernel_rfl),1,⟨y.toArray⟩,0,none,0,0,rfl,⟨none,0,rfl,trivial⟩,?_,?_,Chg.of_below kb⟩
  ·exact hI.mono _ _ _ _ (hI.keep _ _ _ _ HI.out kb.size (λg hg=>kb.block g (HLT.out g hg))) (by omega)
  ·exact HM.out.keep (kb.block _ HM.out.lt)
 |none =>
  rw[hl]at hlk
  replace hlk:(Instr.lookup 160 (.map (some mb)) (.string X) true).run Tryz.prog ((w.alloc (.cells #[.int .i64 1,.string X,.int .i64 Z,.slice A m cp] 37)).alloc (.cells #[.int .i64 0,.string ⟨#[]⟩,.int .i64 0,.slice none 0 0] 37))=.ok (.tuple #[.agg #[.int .i64 0,.string ⟨#[]⟩,.int .i64 0,.slice none 0 0],.bool false]) _:=hlk;clear hl;obtain⟨-,k1,-,ks,kb⟩:=zcE w (.cells #[.int .i64 1,.string X,.int .i64 Z,.slice A m cp] 37) (.cells #[.int .i64 0,.string ⟨#[]⟩,.int .i64 0,.slice none 0 0] 37) (.cells #[.int .i64 0,.string ⟨#[]⟩,.int .i64 0,.slice none 0 0] 37);have HCALL:=hidE (HL c s (.var x) S _ _ (hI.keep _ _ _ _ HI.out kb.size (λg hg=>kb.block g (HLT.out g hg))) (HV.out.keep (λ_ h=>h) (λg hg=>kb.block g (HS.out g hg))) (λg hg=>by have:=HS.out g hg;omega) (.inl rfl) HNM.out);have K1:=hidE k1;have KS:=hidE ks;have KB:=hidE kb;clear k1 ks kb;go_enter_defers Tryz.func89,Tryz.ntmps89
  go_wp2_with fail
  refine HCALL.out.mono ?_;rintro e w1 ⟨k',x',z',a',m',p',rfl,hr,hi1,c1⟩;have HR:=hidE hr;have HI1:=hidE hi1;have C1:=hidE c1;have hb1:=Blk.chg K1.out c1 (λh=>by have:=HLT.out _ (hMK _ h);omega);obtain⟨q0,q1,q2,q3,t0,t1,t2,t3,hlx⟩:=zaa hb1;have HB1:=hidE hb1;clear hr hi1 c1 hb1 HCALL;go_wp2_with fail
  have hb:=zae (.int .i64 k') (.string x') (.int .i64 z') (.slice a' m' p') HB1.out;have hsu:∀g,Su g->g≠w.heap.size+1:=λg hg=>by have:=HLT.out _ (hSu g hg);omega
  have hf:∀g,g≠w.heap.size+1->((((w1.setCell ⟨w.heap.size+1,0,none⟩ (.int .i64 k')).setCell ⟨w.heap.size+1,1,none⟩ (.string x')).setCell ⟨w.heap.size+1,2,none⟩ (.int .i64 z')).setCell ⟨w.heap.size+1,3,none⟩ (.slice a' m' p')).heap[g]?=w1.heap[g]?:=λg hg=>zat _ _ _ _ _ _ _ hg;have hsz:((((w1.setCell ⟨w.heap.size+1,0,none⟩ (.int .i64 k')).setCell ⟨w.heap.size+1,1,none⟩ (.string x')).setCell ⟨w.heap.size+1,2,none⟩ (.int .i64 z')).setCell ⟨w.heap.size+1,3,none⟩ (.slice a' m' p')).heap.size=w1.heap.size:=by simp
  refine⟨_,results_cell_row rfl _ _ (w.heap.size+1) 37 _ (0,0) _ rfl hb Tryz.underlying37 rfl (by kernel_rfl),k',x',z',a',m',p',rfl,?_,?_,?_,?_⟩
  ·exact HR.out.keep (λ_ h=>.inl h) (λg hg=>hf g (hsu g hg))
  ·exact hI.mono _ _ _ _ (hI.keep _ _ _ _ HI1.out (Nat.le_of_eq hsz.symm) (λg hg=>hf g (by have:=HLT.out g hg;omega))) (by omega)
  ·have hne:¬M mb:=λh=>hmb (hMK _ h)
   exact HM.out.keep ((hf mb (by have:=HM.out.lt;omega)).trans ((C1.out.block mb (by have:=HM.out.lt;have:=KS.out;omega) hne).trans (KB.out.block mb HM.out.lt)))
  ·exact((Chg.of_below KB.out).trans' C1.out (λg _ h=>.inl h)).set4 _ _ _ _ (by omega)
end Go.Proofs.YtfafilmklhnngaaGreatDoor
namespace Go.Proofs.YtfafilmklhnngaaGreatDoor
open Go.RowKit Lx Tx Go.Maps Go.WideMaps Go.Shelf
set_option maxRecDepth 100000
theorem zmF {σ:Type}(kb kl:Nat)(cb cl:Array Value)(mb:Nat)(I:Nat->σ->World->Prop)(K M Su:Nat->Prop)(bind:Name->σ->Name × σ)(leaf:Ty->Ty)(hI:InvC I K)(hMK:∀g,M g->K g)(hSu:∀g,Su g->K g)(hmb:¬K mb)
  (el:∀args w,(callFunc kl args).run Tryz.prog w=.ok (.enter kl args) w)(HL:zep kl cl I M Su leaf)
  (c:Nat)(s:σ)(env:List (Name × Name))(x:Nat)(S:Nat->Prop)(v:Value)(w:World)(hi:I c s w)(hm:MapE mkTy w mb env)(hv:RdV S w (.mt x) v)(hS:∀g,S g->g<w.heap.size)(hnm:Nm (.mt x)):Calls Tryz.prog 89 #[v,.map (some mb),fnV kb cb,fnV kl cl] w (CPst mb I M Su env c (chg bind leaf env (.mt x) s) w):=by
 obtain⟨k,X,Z,A,m,cp,rfl,hk,-,-,-,-⟩:=hv.parts;have hlt:=hI.lt c s w hi;rw[chg]
 obtain rfl:k=2:=hk;have HI:=hidE hi;have HM:=hidE hm;have HV:=hidE hv;have HLT:=hidE hlt;have HS:=hidE hS;have HNM:=hidE hnm;clear hi hm hv hlt hS hnm;unfold fnV;obtain⟨-,k1,ks,bl⟩:=za2 w (.cells #[.int .i64 2,.string X,.int .i64 Z,.slice A m cp] 37) (.cells #[.int .i64 0,.string ⟨#[]⟩,.int .i64 0,.slice none 0 0] 37);have HCALL:=hidE (HL c s (.mt x) S _ _ (hI.keep _ _ _ _ HI.out bl.size (λg hg=>bl.block g (HLT.out g hg))) (HV.out.keep (λ_ h=>h) (λg hg=>bl.block g (HS.out g hg))) (λg hg=>by have:=HS.out g hg;omega) (.inr rfl) HNM.out);have K1:=hidE k1;have KS:=hidE ks;have KB:=hidE bl;clear k1 ks bl;go_enter_defers Tryz.func89,Tryz.ntmps89
 go_wp2_with fail
 refine HCALL.out.mono ?_;rintro e w1 ⟨k',x',z',a',m',p',rfl,hr,hi1,c1⟩;have HR:=hidE hr;have HI1:=hidE hi1;have C1:=hidE c1;have hb1:=Blk.chg K1.out c1 (λh=>by have:=HLT.out _ (hMK _ h);omega);obtain⟨q0,q1,q2,q3,t0,t1,t2,t3,hlx⟩:=zaa hb1;have HB1:=hidE hb1;clear hr hi1 c1 hb1 HCALL;go_wp2_with fail
 have hb:=zae (.int .i64 k') (.string x') (.int .i64 z') (.slice a' m' p') HB1.out;have hsu:∀g,Su g->g≠w.heap.size+1:=λg hg=>by have:=HLT.out _ (hSu g hg);omega
 have hf:∀g,g≠w.heap.size+1->((((w1.setCell ⟨w.heap.size+1,0,none⟩ (.int .i64 k')).setCell ⟨w.heap.size+1,1,none⟩ (.string x')).setCell ⟨w.heap.size+1,2,none⟩ (.int .i64 z')).setCell ⟨w.heap.size+1,3,none⟩ (.slice a' m' p')).heap[g]?=w1.heap[g]?:=λg hg=>zat _ _ _ _ _ _ _ hg;have hsz:((((w1.setCell ⟨w.heap.size+1,0,none⟩ (.int .i64 k')).setCell ⟨w.heap.size+1,1,none⟩ (.string x')).setCell ⟨w.heap.size+1,2,none⟩ (.int .i64 z')).setCell ⟨w.heap.size+1,3,none⟩ (.slice a' m' p')).heap.size=w1.heap.size:=by simp
 refine⟨_,results_cell_row rfl _ _ (w.heap.size+1) 37 _ (0,0) _ rfl hb Tryz.underlying37 rfl (by kernel_rfl),k',x',z',a',m',p',rfl,?_,?_,?_,?_⟩
 ·exact HR.out.keep (λ_ h=>.inl h) (λg hg=>hf g (hsu g hg))
 ·exact hI.mono _ _ _ _ (hI.keep _ _ _ _ HI1.out (Nat.le_of_eq hsz.symm) (λg hg=>hf g (by have:=HLT.out g hg;omega))) (by omega)
 ·have hne:¬M mb:=λh=>hmb (hMK _ h)
  exact HM.out.keep ((hf mb (by have:=HM.out.lt;omega)).trans ((C1.out.block mb (by have:=HM.out.lt;have:=KS.out;omega) hne).trans (KB.out.block mb HM.out.lt)))
 ·exact((Chg.of_below KB.out).trans' C1.out (λg _ h=>.inl h)).set4 _ _ _ _ (by omega)
set_option maxRecDepth 100000
theorem zgB {S:Nat->Prop} {w:World} :(l:List Ty)->∀g o,RowT S w l g o->∃vs,TyRow S w l vs/\(∀j u,vs[j]?=some u->w.cell? ⟨g,o+j,none⟩=some u)/\∀u∈vs,u.oneCell'=true
 |[],g,o,_=>⟨[],by rw[TyRow],by simp,by simp⟩
 |t::r,g,o,h=>by
  rw[RowT]at h
  obtain⟨⟨A,c,h4,ha⟩,hr⟩:=h;obtain⟨vs,h1,h2,h3⟩:=zgB r g (o+4) hr;refine⟨tyV t A c++vs,by rw[TyRow];exact⟨A,c,vs,rfl,ha,h1⟩,λj u hj=>?_,λu hu=>?_⟩
  ·rcases Nat.lt_or_ge j 4 with hj4|hj4
   ·rw[List.getElem?_append_left (by show j<4;exact hj4)]at hj
    obtain⟨e0,e1,e2,e3⟩:=h4;match j,hj,hj4 with
    |0,hj,_=>injection hj with hj;rw[<-hj];exact e0
    |1,hj,_=>injection hj with hj;rw[<-hj];exact e1
    |2,hj,_=>injection hj with hj;rw[<-hj];exact e2
    |3,hj,_=>injection hj with hj;rw[<-hj];exact e3
   ·rw[List.getElem?_append_right (by show 4<=j;exact hj4)]at hj
    have:=h2 (j-4) u hj;rw[show o+4+(j-4)=o+j by omega]at this
    exact this
  ·rcases List.mem_append.1 hu with hu|hu
   ·simp only[tyV,List.mem_cons,List.not_mem_nil,or_false]at hu
    rcases hu with rfl|rfl|rfl|rfl <;> rfl
   ·exact h3 u hu
theorem RowT.cells {S S':Nat->Prop} {w w':World}(hS:∀g,S g->S' g)(hk:∀g,S g->w'.heap[g]?=w.heap[g]?):(l:List Ty)->∀g o,(∀j,j<l.length*4->w'.cell? ⟨g,o+j,none⟩=w.cell? ⟨g,o+j,none⟩)->RowT S w l g o->RowT S' w' l g o
 |[],g,o,_,_=>by rw[RowT];trivial
 |t::r,g,o,hc,h=>by
  rw[RowT]at h ⊢
  obtain⟨⟨A,c,⟨e0,e1,e2,e3⟩,ha⟩,hr⟩:=h;have hl:(t::r).length*4=r.length*4+4:=by rw[List.length_cons];omega
  refine⟨⟨A,c,⟨(hc 0 (by omega)).trans e0,(hc 1 (by omega)).trans e1,(hc 2 (by omega)).trans e2,(hc 3 (by omega)).trans e3⟩,ha.keep hS hk⟩,RowT.cells hS hk r g (o+4) (λj hj=>?_) hr⟩;have:=hc (j+4) (by omega);rw[show o+(j+4)=o+4+j by omega]at this
  exact this
def setO(w:World)(g o:Nat)(b0 b1 b2 b3:Value):World:=(((w.setCell ⟨g,o,none⟩ b0).setCell ⟨g,o+1,none⟩ b1).setCell ⟨g,o+2,none⟩ b2).setCell ⟨g,o+3,none⟩ b3
theorem zn4 {g o o':Nat}(h:o≠o'):(⟨g,o,none⟩:Addr)≠⟨g,o',none⟩:=λe=>h (by injection e)
theorem other(w:World)(g o o':Nat)(u:Value)(h:o≠o'):(w.setCell ⟨g,o,none⟩ u).cell? ⟨g,o',none⟩=w.cell? ⟨g,o',none⟩:=World.cell?_setCell_other _ _ _ _ (zn4 h)
theorem same(w:World)(a:Addr)(v u:Value)(h:w.cell? a=some u):(w.setCell a v).cell? a=some v:=World.cell?_setCell_same _ _ _ h
theorem zcS(w:World)(g o j:Nat)(b0 b1 b2 b3:Value)(hj:j<o\/o+4<=j):(setO w g o b0 b1 b2 b3).cell? ⟨g,j,none⟩=w.cell? ⟨g,j,none⟩ :=
 (other _ g (o+3) j _ (by omega)).trans ((other _ g (o+2) j _ (by omega)).trans ((other _ g (o+1) j _ (by omega)).trans (other _ g o j _ (by omega))))
theorem zjH(w:World)(g o:Nat)(b0 b1 b2 b3 a0 a1 a2 a3:Value)(h0:w.cell? ⟨g,o,none⟩=some a0)(h1:w.cell? ⟨g,o+1,none⟩=some a1)(h2:w.cell? ⟨g,o+2,none⟩=some a2)(h3:w.cell? ⟨g,o+3,none⟩=some a3):(setO w g o b0 b1 b2 b3).cell? ⟨g,o,none⟩=some b0/\(setO w g o b0 b1 b2 b3).cell? ⟨g,o+1,none⟩=some b1/\(setO w g o b0 b1 b2 b3).cell? ⟨g,o+2,none⟩=some b2/\(setO w g o b0 b1 b2 b3).cell? ⟨g,o+3,none⟩=some b3:=by
 refine⟨?_,?_,?_,?_⟩
 ·exact(other _ g (o+3) o _ (by omega)).trans ((other _ g (o+2) o _ (by omega)).trans ((other _ g (o+1) o _ (by omega)).trans (same _ _ _ _ h0)))
 ·exact(other _ g (o+3) (o+1) _ (by omega)).trans ((other _ g (o+2) (o+1) _ (by omega)).trans (same _ _ _ a1 ((other _ g o (o+1) _ (by omega)).trans h1)))
 ·exact(other _ g (o+3) (o+2) _ (by omega)).trans (same _ _ _ a2 ((other _ g (o+1) (o+2) _ (by omega)).trans ((other _ g o (o+2) _ (by omega)).trans h2)))
 ·exact same _ _ _ a3 ((other _ g (o+2) (o+3) _ (by omega)).trans ((other _ g (o+1) (o+3) _ (by omega)).trans ((other _ g o (o+3) _ (by omega)).trans h3)))
theorem zbo(w:World)(g o k:Nat)(b0 b1 b2 b3:Value)(hk:k≠g):(setO w g o b0 b1 b2 b3).heap[k]?=w.heap[k]?:=by
 unfold setO;exact(Below.heap_setCell _ ⟨g,o+3,none⟩ _ k hk).trans ((Below.heap_setCell _ ⟨g,o+2,none⟩ _ k hk).trans ((Below.heap_setCell _ ⟨g,o+1,none⟩ _ k hk).trans (Below.heap_setCell _ ⟨g,o,none⟩ _ k hk)))
theorem zcp(w:World)(g o:Nat)(b0 b1 b2 b3:Value):(setO w g o b0 b1 b2 b3).heap.size=w.heap.size:=by
 unfold setO;simp
theorem ziy(w:World)(g o:Nat)(a:Addr)(b0 b1 b2 b3:Value):(setO w g o b0 b1 b2 b3).frozen? a=w.frozen? a:=by
 unfold setO;simp
theorem Chg.setO {M:Nat->Prop} {w w':World} {g:Nat}(h:Chg M w w')(o:Nat)(b0 b1 b2 b3:Value)(hg:w.heap.size<=g\/M g):Chg M w (setO w' g o b0 b1 b2 b3) :=
 (((h.setCell (p:=⟨g,o,none⟩) hg _).setCell (p:=⟨g,o+1,none⟩) hg _).setCell (p:=⟨g,o+2,none⟩) hg _).setCell (p:=⟨g,o+3,none⟩) hg _
structure RowSt (R S:Nat->Prop) (w:World) (l done:List Ty) (g i:Nat):Prop where
 free:∀j,w.frozen? ⟨g,j,none⟩=false
 lt:g<w.heap.size
 new:RowT R w done g 0
 old:∀j (hj:j<l.length),i<=j->∃A c,Cell4 w l[j] A c g (j*4)/\Args S w l[j] A
theorem RowSt.keep {R R' S:Nat->Prop} {w w':World} {l done:List Ty} {g i:Nat}(h:RowSt R S w l done g i)(hR:∀g,R g->R' g)(hk:∀k,R k\/S k\/k=g->w'.heap[k]?=w.heap[k]?)(hs:w.heap.size<=w'.heap.size):RowSt R' S w' l done g i where
 free j:=(World.frozen?_of_block (hk g (.inr (.inr rfl)))).trans (h.free j)
 lt:=Nat.lt_of_lt_of_le h.lt hs
 new:=RowT.keep hR (λg hg=>hk g (.inl hg)) done g 0 (hk g (.inr (.inr rfl))) h.new
 old j hj hi:=by
  obtain⟨A,c,h1,h2⟩:=h.old j hj hi;exact⟨A,c,h1.keep (hk g (.inr (.inr rfl))),h2.keep (λ_ h=>h) (λg hg=>hk g (.inr (.inl hg)))⟩
theorem RowSt.put {R S:Nat->Prop} {w:World} {l done:List Ty} {g i:Nat} {u:Ty} {k z:Int} {x:ByteArray} {a:Option Addr} {m p:Nat}(h:RowSt R S w l done g i)(hi:i<l.length)(hd:done.length=i)(hr:RdV R w u (.agg #[.int .i64 k,.string x,.int .i64 z,.slice a m p]))(hRg:¬R g)(hSg:¬S g):RowSt R S (setO w g (i*4) (.int .i64 k) (.string x) (.int .i64 z) (.slice a m p)) l (done++[u]) g (i+1) where
 free j:=(ziy _ _ _ _ _ _ _ _).trans (h.free j)
 lt:=by rw[zcp];exact h.lt
 new:=by
  obtain⟨A0,c0,⟨e0,e1,e2,e3⟩,-⟩:=h.old i hi (Nat.le_refl _);obtain⟨f0,f1,f2,f3⟩:=zjH w g (i*4) (.int .i64 k) (.string x) (.int .i64 z) (.slice a m p) _ _ _ _ e0 e1 e2 e3;obtain⟨K,X,Z,A,n,c,hv,hK,hX,hZ,hn,ha⟩:=hr.parts;injection hv with hv;have hv:=congrArg Array.toList hv;simp only[List.cons.injEq,Value.int.injEq,Value.string.injEq,Value.slice.injEq,and_true,true_and]at hv;obtain⟨rfl,rfl,rfl,rfl,rfl,rfl⟩:=hv;subst hK;subst hX;subst hZ;subst hn;refine RowT.snoc done g 0 u a p (RowT.cells (λ_ h=>h) (λk hk=>zbo _ _ _ _ _ _ _ _ (λe=>hRg (by rw[<-e];exact hk))) done g 0 (λj hj=>zcS _ _ _ _ _ _ _ _ (by omega)) h.new) ?_ (ha.keep (λ_ h=>h) (λk hk=>zbo _ _ _ _ _ _ _ _ (λe=>hRg (by rw[<-e];exact hk))));rw[hd,Nat.zero_add]
  exact⟨f0,f1,f2,f3⟩
 old j hj hij:=by
  obtain⟨A,c,⟨e0,e1,e2,e3⟩,h2⟩:=h.old j hj (by omega);exact⟨A,c,⟨(zcS _ _ _ _ _ _ _ _ (by omega)).trans e0,(zcS _ _ _ _ _ _ _ _ (by omega)).trans e1,(zcS _ _ _ _ _ _ _ _ (by omega)).trans e2,(zcS _ _ _ _ _ _ _ _ (by omega)).trans e3⟩,
   h2.keep (λ_ h=>h) (λk hk=>zbo _ _ _ _ _ _ _ _ (λe=>hSg (by rw[<-e];exact hk)))⟩
set_option maxRecDepth 100000
theorem zfw {S:Nat->Prop} {w:World} {t:Ty} {A:Option Addr} {m:Nat}(h:Args S w t A)(hm:(kids t).length=m):∃vs,vs.length=m*4/\TyRow S w (kids t) vs/\(A=none->m=0)/\(∀u∈vs,u.oneCell'=true)/\∀ad,A=some ad->∀w':World,(∀k,S k->w'.heap[k]?=w.heap[k]?)->∀j u,vs[j]?=some u->w'.cell? (ad.add j)=some u:=by
 by_cases hk:kids t=[]
 ·rw[hk]at hm ⊢
  obtain rfl:m=0:=hm.symm;exact⟨[],rfl,by rw[TyRow],λ_=>rfl,by simp,by simp⟩
 ·obtain⟨g,hA,hg,hr⟩:=(zbO S w t A).1 h hk
  obtain⟨vs,h1,h2,h3⟩:=zgB (kids t) g 0 hr;refine⟨vs,by rw[TyRow.len _ _ h1,hm],h1,λe=>(by rw[hA]at e;cases e),h3,λad had w' hw j u hu=>?_⟩;rw[hA]at had
  injection had with had;rw[<-had,zbg]
  have:=h2 j u hu;rw[Nat.zero_add]at this
  exact(World.cell?_of_block (w:=w) (a:=⟨g,j,none⟩) (hw g hg)).trans this
theorem zgC {R S:Nat->Prop} {w:World} {l:List Ty} {vs:List Value} {B m c:Nat} {A:Option Addr}(h:w.ownsRow B 37 4 (.slice A m c) m vs)(hv:TyRow S w l vs):∃g,B<=g/\(0<m->A=some ⟨g,0,none⟩/\RowSt R S w l [] g 0):=by
 obtain⟨h0,h⟩:=h;rcases h with⟨_,h⟩|⟨g,cap,cur,hvv,hg,hb,h1,h2,h3,h4⟩
 ·exact⟨B,Nat.le_refl _,λh'=>by omega⟩
 ·injection hvv with hvv
  refine⟨g,hg,λ_=>⟨hvv,?_⟩⟩;have hc:∀j u,vs[j]?=some u->w.cell? ⟨g,0+j,none⟩=some u:=λj u hu=>by
   have hj:j<vs.length:=by
    refine Nat.lt_of_not_le λhl=>?_;rw[List.getElem?_eq_none hl]at hu
    cases hu
   rw[Nat.zero_add,cell_of_row w g j cur _ (0,0) hb,<-hu,<-h4,List.getElem?_take_of_lt (by omega)]
   simp
  have hr:=TyRow.row l vs 0 hv hc;exact⟨λj=>frozen_of_row w g j cur _ hb,lt_of_block hb,by rw[RowT];trivial,λj hj _=>by
   have:=RowT.at_ l g 0 j hj hr;rw[Nat.zero_add]at this
   exact this⟩
theorem zdR {w:World} {g g' o:Nat} {t:TypeId} {cs:Array Value} {b0 b1 b2 b3:Value}(h:Blk w g' t cs)(hne:g'≠g):Blk ((((w.setCell ⟨g,o,none⟩ b0).setCell ⟨g,o+1,none⟩ b1).setCell ⟨g,o+2,none⟩ b2).setCell ⟨g,o+3,none⟩ b3) g' t cs:=(zbo w g o g' b0 b1 b2 b3 hne).trans h
section
variable {σ:Type}
def HeadChg(mb:Nat)(I:Nat->σ->World->Prop)(M Su S:Nat->Prop)(bind:Name->σ->Name × σ)(leaf:Ty->Ty)(env:List (Name × Name))(l:List Ty)(c:Nat)(s:σ)(B g m:Nat)(w0:World)(gg:Nat)(vi:Value)(wr:World):Prop :=
 ∃i,gg=m-i/\vi=.int .i64 (i:Nat)/\i<=m/\I (c+fasL (l.take i)) (chgL bind leaf env (l.take i) s).2 wr/\MapE mkTy wr mb env /\
  (0<m->RowSt (λk=>Su k\/(B<=k/\k<wr.heap.size)) S wr l (chgL bind leaf env (l.take i) s).1 g i)/\Chg (λk=>M k\/k=mb\/k=g) w0 wr
end
theorem zn5 {σ:Type}(bind:Name->σ->Name × σ)(leaf:Ty->Ty)(env:List (Name × Name))(t:Ty)(s:σ)(h:kd t=3\/kd t=4):kd (chg bind leaf env t s).1=kd t/\nmB (chg bind leaf env t s).1=nmB t/\nn (chg bind leaf env t s).1=nn t/\kids (chg bind leaf env t s).1=(chgL bind leaf env (kids t) s).1/\(chg bind leaf env t s).2=(chgL bind leaf env (kids t) s).2:=by
 cases t with
 |var x=>simp[kd]at h
 |mt n=>simp[kd]at h
 |con d l=>rw[chg];exact⟨rfl,rfl,rfl,rfl,rfl⟩
 |fn a b=>rw[chg,kids];exact⟨rfl,rfl,rfl,rfl,rfl⟩
 |all x t=>simp[kd]at h
theorem zgD {σ:Type}(n kb kl:Nat)(cb cl:Array Value)(mb:Nat)(I:Nat->σ->World->Prop)(K M Su:Nat->Prop)(bind:Name->σ->Name × σ)(leaf:Ty->Ty)(hI:InvC I K)(hMK:∀g,M g->K g)(hSu:∀g,Su g->K g/\¬M g)(hmb:¬K mb)
  (HC:zjG n kb kl cb cl mb I M Su bind leaf)
  (c:Nat)(s:σ)(env:List (Name × Name))(t:Ty)(S:Nat->Prop)(v:Value)(w:World)(hk34:kd t=3\/kd t=4)(hn:t.size<=n+1)(h6:n<1000000)
  (hi:I c s w)(hm:MapE mkTy w mb env)(hv:RdV S w t v)(hS:∀g,S g->g<w.heap.size/\¬M g/\g≠mb)(hnm:Nm t)(hc:c+t.fas<=10000000)(hlen:env.length+t.size<=100000000):Calls Tryz.prog 89 #[v,.map (some mb),fnV kb cb,fnV kl cl] w (CPst mb I M Su env (c+t.fas) (chg bind leaf env t s) w):=by
 obtain⟨k,X,Z,A,m,cp,rfl,hk,hX,hZ,hkm,ha⟩:=hv.parts;have hsk:zah (kids t)+1=t.size:=by rw[zas t]
 have hfk:t.fas=fasL (kids t):=by rw[zhy t,if_neg (by omega),Nat.add_zero]
 have hm6:m<=n:=by have:=zbk t;omega
 have d1:((k:Int)==1)=false:=by rw[hk];exact kF _ 1 (by omega)
 have d2:((k:Int)==2)=false:=by rw[hk];exact kF _ 2 (by omega)
 have d5:((k:Int)==5)=false:=by rw[hk];exact kF _ 5 (by omega)
 obtain⟨vs,hvl,hvr,hv0,hv1,hvc⟩:=zfw ha hkm;obtain⟨-,-,ls,lb⟩:=za2 w (.cells #[.int .i64 k,.string X,.int .i64 Z,.slice A m cp] 37) (.cells #[.int .i64 0,.string ⟨#[]⟩,.int .i64 0,.slice none 0 0] 37);obtain⟨l0,l1,-,-⟩:=za2 w (.cells #[.int .i64 k,.string X,.int .i64 Z,.slice A m cp] 37) (.cells #[.int .i64 0,.string ⟨#[]⟩,.int .i64 0,.slice none 0 0] 37);have hcl:=zhx A m cp vs ((w.alloc (.cells #[.int .i64 k,.string X,.int .i64 Z,.slice A m cp] 37)).alloc (.cells #[.int .i64 0,.string ⟨#[]⟩,.int .i64 0,.slice none 0 0] 37)) hv0 hvl
  (λad had w' hw j u hu=>hvc ad had w' (λq hq=>(hw.block q (by have:=hS q hq;omega)).trans (lb.block q (hS q hq).1)) j u hu) hv1 (by omega)
 rw[ls]at hcl
 obtain⟨hr1,hr2,hr3,hr4,hr5⟩:=zn5 bind leaf env t s hk34;have HR1:=hidE hr1;have HR2:=hidE hr2;have HR3:=hidE hr3;have HR4:=hidE hr4;have HR5:=hidE hr5;have HK:=hidE hk;have HX:=hidE hX;have HZ:=hidE hZ;have HKM:=hidE hkm;have HS:=hidE hS;have HI:=hidE hi;have HM:=hidE hm;have HLT:=hidE (hI.lt c s w hi);have HNK:Hid (∀i (hi:i<(kids t).length),Nm (kids t)[i]):=hidE λi hi=>zco hnm i hi;have HCL:=hidE hcl;have HVR:=hidE hvr;have L0:=hidE l0;have L1:=hidE l1;have LB:=hidE lb;have LSZ:=hidE ls;have hml:=hm.lt;clear hr1 hr2 hr3 hr4 hr5 hk hX hZ hkm hS hi hm hnm hcl hvl hvr hv0 hv1 hvc l0 l1 ls lb hv ha hk34;unfold fnV;go_enter_defers Tryz.func89,Tryz.ntmps89
 go_wp2_with fail
 refine HCL.out.mono ?_;rintro e w3 ⟨A3,c3,rfl,hown,hbl⟩;have hs3:w.heap.size+2<=w3.heap.size:=Nat.le_trans (Nat.le_of_eq LSZ.out.symm) hbl.size;have hb0:=Blk.below L0.out hbl (by omega);have hb1:=Blk.below L1.out hbl (by omega);have hbel:=LB.out.trans (hbl.mono (by omega));obtain⟨g3,hg3,hrow⟩:=zgC (R:=λk=>Su k\/(w3.heap.size<=k/\k<w3.heap.size)) hown (HVR.out.keep (λ_ h=>h) (λq hq=>hbel.block q (HS.out q hq).1));obtain⟨p0,p1,p2,p3,s0,s1,s2,s3,hlx⟩:=zaa hb0;have HB0:=hidE hb0;have HB1:=hidE hb1;have BEL:=hidE hbel;have HROW:=hidE hrow;clear hown hb0 hb1 hbel hrow hbl HCL HVR;go_wp2_with fail
 have hw4:Blk (w3.setCell ⟨w.heap.size,3,none⟩ (.slice A3 m c3)) w.heap.size 37 #[.int .i64 k,.string X,.int .i64 Z,.slice A3 m c3]:=heap_setCell_same _ w.heap.size 3 _ _ (.slice A3 m c3) HB0.out;have hr4:Blk (w3.setCell ⟨w.heap.size,3,none⟩ (.slice A3 m c3)) (w.heap.size+1) 37 #[.int .i64 0,.string ⟨#[]⟩,.int .i64 0,.slice none 0 0]:=HB1.out.far (p:=⟨w.heap.size,3,none⟩) (Nat.succ_ne_self _) _;have hs4:(w3.setCell ⟨w.heap.size,3,none⟩ (.slice A3 m c3)).heap.size=w3.heap.size:=by simp
 have hk4:∀q,q<w.heap.size->(w3.setCell ⟨w.heap.size,3,none⟩ (.slice A3 m c3)).heap[q]?=w.heap[q]?:=λq hq=>(Below.heap_setCell w3 ⟨w.heap.size,3,none⟩ _ q (by show q≠w.heap.size;omega)).trans (BEL.out.block q hq);have hch4:Chg (λk=>M k\/k=mb) w (w3.setCell ⟨w.heap.size,3,none⟩ (.slice A3 m c3)):=(Chg.of_below BEL.out).setCell (p:=⟨w.heap.size,3,none⟩) (.inl (Nat.le_refl _)) _;have hi4:=hI.keep c s w _ HI.out (by rw[hs4];exact BEL.out.size) (λq hq=>hk4 q (HLT.out q hq));have hm4:=HM.out.keep (hk4 mb hml);have HW4:=hidE hw4;have HR4':=hidE hr4;have HK4:=hidE hk4;have HCH4:=hidE hch4;have HI4:=hidE hi4;have HM4:=hidE hm4;have HS4:=hidE hs4;have hbs:=BEL.out.size;have hst4:Hid (0<m->A3=some ⟨g3,0,none⟩/\RowSt (λk=>Su k\/(w3.heap.size<=k/\k<(w3.setCell ⟨w.heap.size,3,none⟩ (.slice A3 m c3)).heap.size)) S (w3.setCell ⟨w.heap.size,3,none⟩ (.slice A3 m c3)) (kids t) [] g3 0):=hidE λh0=>by
  obtain⟨x1,x2⟩:=HROW.out h0;refine⟨x1,x2.keep (λq hq=>by rw[hs4];exact hq) (λq hq=>Below.heap_setCell w3 ⟨w.heap.size,3,none⟩ _ q ?_) (by rw[hs4];exact Nat.le_refl _)⟩;show q≠w.heap.size;rcases hq with(hq|hq)|hq|hq
  ·have:=HLT.out q (hSu q hq).1;omega
  ·omega
  ·have:=(HS.out q hq).1;omega
  ·omega
 clear hw4 hr4 hk4 hch4 hi4 hm4 hs4 p0 p1 p2 p3 s0 s1 s2 s3;go_loopg [56] m (λgg vi wr=>HeadChg mb I M Su S bind leaf env (kids t) c s w3.heap.size g3 m (w3.setCell ⟨w.heap.size,3,none⟩ (.slice A3 m c3)) gg vi wr)
 case atStart =>
  exact⟨0,by omega,rfl,Nat.zero_le _,by rw[List.take_zero,fasL,chgL];exact HI4.out,HM4.out,λh0=>by rw[List.take_zero,chgL];exact(hst4.out h0).2,Chg.refl _ _⟩
 case round =>
  obtain⟨i,rfl,rfl,hi,i1,mp1,hrw,c1⟩:=hrel;have I1:=hidE i1;have MP1:=hidE mp1;have HRW:=hidE hrw;have C1:=hidE c1;have hsr:=c1.size;rw[HS4.out]at hsr
  have hnr:∀q,w.heap.size<=q->q<w.heap.size+2->wr.heap[q]? =(w3.setCell ⟨w.heap.size,3,none⟩ (.slice A3 m c3)).heap[q]?:=λq h1 h2=>c1.block q (by rw[HS4.out];omega) (λh=>by
   rcases h with h|h|h
   ·have:=HLT.out q (hMK q h);omega
   ·omega
   ·omega)
  have BN:=hidE (HW4.out.same (hnr _ (Nat.le_refl _) (by omega)));have BR:=hidE (HR4'.out.same (hnr _ (by omega) (by omega)));clear i1 mp1 hrw c1 hnr;by_cases hlt:i<m
  ·obtain⟨rfl,hst0⟩:=hst4.out (by omega)
   have hg3l:=hst0.lt;rw[HS4.out]at hg3l
   clear hst0;have hst:=HRW.out (by omega);have hil:i<(kids t).length:=by rw[HKM.out];exact hlt
   obtain⟨A1,q1,h4,harg⟩:=hst.old i hil (Nat.le_refl _);have hnu:=HNK.out i hil;have htk:(kids t).take (i+1)=(kids t).take i++[(kids t)[i]]:=List.take_succ_eq_append_getElem hil;have hsn:=zb4 (kids t) i (kids t)[i] ⟨hil,rfl⟩;have hsle:=zbw (kids t) (i+1);have hfn:=zgA (kids t) i (kids t)[i] ⟨hil,rfl⟩;have hfle:=zeo (kids t) (i+1);obtain⟨u,hu⟩:∃u,(kids t)[i]=u:=⟨_,rfl⟩;rw[hu]at h4 harg hnu htk hsn hfn
   have hszu:u.size<=n:=by omega
   have hrd:RdV S wr u (.agg #[.int .i64 (kd u:Nat),.string (nmB u),.int .i64 (nn u:Nat),.slice A1 (kids u).length q1]):=⟨A1,q1,rfl,harg⟩;obtain⟨e0,e1,e2,e3⟩:=h4;obtain⟨K1,hK1⟩:∃K1:Int,((kd u:Nat):Int)=K1:=⟨_,rfl⟩;obtain⟨X1,hX1⟩:∃X1,nmB u=X1:=⟨_,rfl⟩;obtain⟨Z1,hZ1⟩:∃Z1:Int,((nn u:Nat):Int)=Z1:=⟨_,rfl⟩;obtain⟨n1,hn1⟩:∃n1,(kids u).length=n1:=⟨_,rfl⟩;rw[hK1]at e0 hrd
   rw[hX1]at e1 hrd
   rw[hZ1]at e2 hrd
   rw[hn1]at e3 hrd
   have HTK:=hidE htk;have HSN:=hidE hfn;have hcall:=HC (c+fasL ((kids t).take i)) (chgL bind leaf env ((kids t).take i) s).2 env u S _ ((wr.alloc (.cells #[.int .i64 K1,.string X1,.int .i64 Z1,.slice A1 n1 q1] 37)).drew) hszu (by omega)
    (hI.keep _ _ _ _ I1.out (by show wr.heap.size<=(wr.alloc _).heap.size;simp) (λg hg=>Below.heap_alloc wr _ g (hI.lt _ _ _ I1.out g hg))) (MP1.out.keep (Below.heap_alloc wr _ mb MP1.out.lt)) (hrd.keep (λ_ h=>h) (λg hg=>Below.heap_alloc wr _ g (by have:=(HS.out g hg).1;omega)))
    (λg hg=>⟨by show g<(wr.alloc _).heap.size;have:=(HS.out g hg).1;simp;omega,(HS.out g hg).2⟩) hnu (by omega) (by omega)
   unfold fnV at hcall;have HCALL:=hidE hcall;have NB0:Hid (Blk ((wr.alloc (.cells #[.int .i64 K1,.string X1,.int .i64 Z1,.slice A1 n1 q1] 37)).drew) w.heap.size 37 #[.int .i64 k,.string X,.int .i64 Z,.slice (some ⟨g3,0,none⟩) m c3]):=hidE (Blk.alloc BN.out _);have PB0:Hid (Blk ((wr.alloc (.cells #[.int .i64 K1,.string X1,.int .i64 Z1,.slice A1 n1 q1] 37)).drew) wr.heap.size 37 #[.int .i64 K1,.string X1,.int .i64 Z1,.slice A1 n1 q1]):=hidE (heap_alloc_new wr _);have SOF:Hid (∀W:World,Blk W w.heap.size 37 #[.int .i64 k,.string X,.int .i64 Z,.slice (some ⟨g3,0,none⟩) m c3]->Blk W wr.heap.size 37 #[.int .i64 K1,.string X1,.int .i64 Z1,.slice A1 n1 q1] ->
    W.cell? ⟨w.heap.size,3,none⟩=some (.slice (some ⟨g3,0,none⟩) m c3)/\W.cell? ⟨wr.heap.size,0,none⟩=some (.int .i64 K1)/\W.cell? ⟨wr.heap.size,1,none⟩=some (.string X1)/\W.cell? ⟨wr.heap.size,2,none⟩=some (.int .i64 Z1)/\W.cell? ⟨wr.heap.size,3,none⟩=some (.slice A1 n1 q1)) :=
    hidE λW h1 h2=>⟨h1.cell 3,h2.cell 0,h2.cell 1,h2.cell 2,h2.cell 3⟩
   have HST:=hidE hst;have hgl:=hst.lt;have hneN:w.heap.size≠g3:=by omega
   have hneP:wr.heap.size≠g3:=by omega
   clear hst hrd hnu hcall hu hK1 hX1 hZ1 hn1 htk hsn hfn harg;go_wp2_with fail
   go_region_held3 (λW=>W.cell? ⟨w.heap.size,3,none⟩=some (.slice (some ⟨g3,0,none⟩) m c3)/\W.cell? ⟨wr.heap.size,0,none⟩=some (.int .i64 K1)/\W.cell? ⟨wr.heap.size,1,none⟩=some (.string X1)/\W.cell? ⟨wr.heap.size,2,none⟩=some (.int .i64 Z1)/\W.cell? ⟨wr.heap.size,3,none⟩=some (.slice A1 n1 q1)) (first|(with_reducible exact SOF.out _ NB0.out PB0.out)|(with_reducible exact SOF.out _ NB1.out PB1.out)|(with_reducible exact SOF.out _ (zdR NB1.out hneN) (zdR PB1.out hneP)))
    (((with_reducible refine HCALL.out.mono ?_);rintro e w5 ⟨k',x',z',a',m',p',rfl,hr5,hi5,hm5,c5⟩;have hn5:∀q,w.heap.size<=q->q<=wr.heap.size->w5.heap[q]? =(wr.alloc (.cells #[.int .i64 K1,.string X1,.int .i64 Z1,.slice A1 n1 q1] 37)).heap[q]?:=(λq h1 h2=>c5.block q (by show q<(wr.alloc _).heap.size;rw[size_alloc];omega) (λh=>by rcases h with h|h;(have:=HLT.out q (hMK q h);omega);omega));have NB1:=hidE (NB0.out.same (hn5 _ (Nat.le_refl _) (by omega)));have PB1:=hidE (PB0.out.same (hn5 _ (by omega) (Nat.le_refl _)));have hs5:wr.heap.size+1<=w5.heap.size:=(by have:=c5.size;rw[show((wr.alloc (.cells #[.int .i64 K1,.string X1,.int .i64 Z1,.slice A1 n1 q1] 37)).drew).heap.size=wr.heap.size+1 from size_alloc _ _]at this;exact this);have st5:=HST.out.keep (R':=λk=>Su k\/(w3.heap.size<=k/\k<w5.heap.size)) (w':=w5) (λq hq=>(by rcases hq with hq|hq;exact .inl hq;exact .inr ⟨hq.1,by omega⟩)) (λq hq=>(c5.block q (by show q<(wr.alloc _).heap.size;rw[size_alloc];rcases hq with(hq|hq)|hq|hq;(have:=HLT.out q (hSu q hq).1;omega);omega;(have:=(HS.out q hq).1;omega);omega) (by rcases hq with(hq|hq)|hq|hq;(exact λh=>by rcases h with h|h;exact(hSu q hq).2 h;exact hmb (by rw[<-h];exact(hSu q hq).1));(exact λh=>by rcases h with h|h;(have:=HLT.out q (hMK q h);omega);omega);(exact λh=>by rcases h with h|h;exact(HS.out q hq).2.1 h;exact(HS.out q hq).2.2 h);(exact λh=>by rcases h with h|h;(have:=HLT.out q (hMK q h);omega);omega))).trans (Below.heap_alloc wr _ q (by rcases hq with(hq|hq)|hq|hq;(have:=HLT.out q (hSu q hq).1;omega);omega;(have:=(HS.out q hq).1;omega);omega))) (by omega);obtain⟨A5,q5,⟨y0,y1,y2,y3⟩,-⟩:=st5.old i hil (Nat.le_refl _);have f0:=st5.free (i*4);have f1:=st5.free (i*4+1);have f2:=st5.free (i*4+2);have f3:=st5.free (i*4+3);have ST5:=hidE st5;have HR5:=hidE hr5;have HI5:=hidE hi5;have HM5:=hidE hm5;have C5:=hidE c5;clear st5 hr5 hi5 hm5 c5 hn5))
   all_goals
    go_wp2_with fail
    have hput:=RowSt.put ST5.out hil (by rw[zcc,List.length_take];omega) (HR5.out.keep (S':=λk=>Su k\/(w3.heap.size<=k/\k<w5.heap.size)) (λq hq=>by rcases hq with hq|hq;exact .inl hq;exact .inr ⟨by have h1:=hq.1;have h2:((wr.alloc (.cells #[.int .i64 K1,.string X1,.int .i64 Z1,.slice A1 n1 q1] 37)).drew).heap.size=wr.heap.size+1:=size_alloc _ _;omega,hq.2⟩) (λq _=>rfl)) (λh=>by rcases h with h|h;(have:=HLT.out _ (hSu _ h).1;omega);omega) (λh=>by have:=(HS.out _ h).1;omega);have HPUT:=hidE hput;clear hput;go_roundg (m-(i+1))
    case measure=>omega
    case rel =>
     have hfin:HeadChg mb I M Su S bind leaf env (kids t) c s w3.heap.size g3 m (w3.setCell ⟨w.heap.size,3,none⟩ (.slice (some ⟨g3,0,none⟩) m c3)) (m-(i+1)) (.int .i64 ((i+1:Nat):Int)) (setO w5 g3 (i*4) (.int .i64 k') (.string x') (.int .i64 z') (.slice a' m' p')):=by
      refine⟨i+1,rfl,rfl,by omega,?_,?_,λ_=>?_,?_⟩
      ·rw[HTK.out,zdf,<-HTK.out,HSN.out]
       have:=hI.keep _ _ _ (setO w5 g3 (i*4) (.int .i64 k') (.string x') (.int .i64 z') (.slice a' m' p')) HI5.out (by rw[zcp];exact Nat.le_refl _) (λq hq=>zbo _ _ _ _ _ _ _ _ (by have:=HLT.out q hq;omega));rw[Nat.add_assoc]at this
       exact this
      ·exact HM5.out.keep (zbo _ _ _ _ _ _ _ _ (by omega))
      ·rw[HTK.out,zdf]
       exact HPUT.out.keep (λq hq=>by rw[zcp];exact hq) (λ_ _=>rfl) (Nat.le_refl _)
      ·have h1:Chg (λk=>M k\/k=mb\/k=g3) (w3.setCell ⟨w.heap.size,3,none⟩ (.slice (some ⟨g3,0,none⟩) m c3)) w5:=((C1.out.alloc _).drew).trans' C5.out (λq _ h=>by
        rcases h with h|h
        ·exact .inl h
        ·exact .inr (.inl h))
       exact h1.setO _ _ _ _ _ (.inr (.inr (.inr rfl)))
     refine cast (congrArg (λv=>HeadChg mb I M Su S bind leaf env (kids t) c s w3.heap.size g3 m _ (m-(i+1)) v _) ?_) hfin;go_num
  ·have him:i=m:=by omega
   subst him;have hend:(kids t).take i=kids t:=List.take_of_length_le (by rw[HKM.out];exact Nat.le_refl _);have hi1:=I1.out;have hrw1:=HRW.out;rw[hend,<-HR5.out]at hi1
   rw[hend,<-HR4.out]at hrw1
   have HI1:=hidE hi1;have HRW1:=hidE hrw1;obtain⟨p0,p1,p2,p3,s0,s1,s2,s3,-⟩:=zaa BN.out;obtain⟨q0,q1,q2,q3,t0,t1,t2,t3,-⟩:=zaa BR.out;clear hi1 hrw1 hend;go_wp2_with fail
   have hb:=zae (.int .i64 k) (.string X) (.int .i64 Z) (.slice A3 i c3) BR.out;have hf:∀g,g≠w.heap.size+1->((((wr.setCell ⟨w.heap.size+1,0,none⟩ (.int .i64 k)).setCell ⟨w.heap.size+1,1,none⟩ (.string X)).setCell ⟨w.heap.size+1,2,none⟩ (.int .i64 Z)).setCell ⟨w.heap.size+1,3,none⟩ (.slice A3 i c3)).heap[g]?=wr.heap[g]?:=λg hg=>zat _ _ _ _ _ _ _ hg;have hsz:((((wr.setCell ⟨w.heap.size+1,0,none⟩ (.int .i64 k)).setCell ⟨w.heap.size+1,1,none⟩ (.string X)).setCell ⟨w.heap.size+1,2,none⟩ (.int .i64 Z)).setCell ⟨w.heap.size+1,3,none⟩ (.slice A3 i c3)).heap.size=wr.heap.size:=by simp
   refine⟨_,results_cell_row rfl _ _ (w.heap.size+1) 37 _ (0,0) _ rfl hb Tryz.underlying37 rfl (by kernel_rfl),k,X,Z,A3,i,c3,rfl,⟨A3,c3,?_,?_⟩,?_,?_,?_⟩
   ·rw[HR1.out,HR2.out,HR3.out,HR4.out,zcc,HKM.out,<-HK.out,<-HX.out,<-HZ.out]
   ·refine(zbO _ _ _ _).2 λhne=>?_
    have h0:0<i:=by
     refine Nat.pos_of_ne_zero λe=>hne ?_;rw[HR4.out]
     refine List.eq_nil_of_length_eq_zero ?_;rw[zcc,HKM.out,e]
    obtain⟨hA,h4⟩:=hst4.out h0;have hl4:=h4.lt;rw[HS4.out]at hl4
    have hrow:=HRW1.out h0;refine⟨g3,hA,.inr ⟨by omega,by rw[hsz];omega⟩,RowT.keep (λq hq=>by rw[hsz];rcases hq with hq|hq;exact .inl hq;exact .inr ⟨by omega,hq.2⟩) (λq hq=>hf q (by rcases hq with hq|hq;(have:=HLT.out q (hSu q hq).1;omega);omega)) _ _ _ (hf g3 (by omega)) hrow.new⟩
   ·refine hI.mono _ _ _ _ (hI.keep _ _ _ _ HI1.out (Nat.le_of_eq hsz.symm) (λq hq=>hf q (by have:=HLT.out q hq;omega))) (by omega)
   ·exact MP1.out.keep (hf mb (by omega))
   ·refine Chg.set4 (HCH4.out.trans' C1.out (λq hq h=>?_)) _ _ _ _ (Nat.le_succ _)
    rcases h with h|h|h
    ·exact .inl h
    ·exact .inr h
    ·omega
set_option maxRecDepth 100000
theorem zn6 {σ:Type}(bind:Name->σ->Name × σ)(leaf:Ty->Ty)(env:List (Name × Name))(t:Ty)(s:σ)(h:kd t=5):kd (chg bind leaf env t s).1=kd t/\nmB (chg bind leaf env t s).1=⟨(bind (nmB t).data.toList s).1.toArray⟩/\nn (chg bind leaf env t s).1=nn t/\kids (chg bind leaf env t s).1=(chgL bind leaf (((nmB t).data.toList,(bind (nmB t).data.toList s).1)::env) (kids t) (bind (nmB t).data.toList s).2).1 /\
   (chg bind leaf env t s).2=(chgL bind leaf (((nmB t).data.toList,(bind (nmB t).data.toList s).1)::env) (kids t) (bind (nmB t).data.toList s).2).2:=by
 cases t with
 |var x=>simp[kd]at h
 |mt n=>simp[kd]at h
 |con d l=>simp[kd]at h
 |fn a b=>simp[kd]at h
 |all x t=>rw[chg];exact⟨rfl,rfl,rfl,rfl,rfl⟩
theorem zkT {σ:Type}(n kb kl:Nat)(cb cl:Array Value)(mb:Nat)(I:Nat->σ->World->Prop)(K M Su:Nat->Prop)(bind:Name->σ->Name × σ)(leaf:Ty->Ty)(hI:InvC I K)(hMK:∀g,M g->K g)(hSu:∀g,Su g->K g/\¬M g)(hmb:¬K mb)
  (eb:∀args w,(callFunc kb args).run Tryz.prog w=.ok (.enter kb args) w)(HB:zfv kb cb I M bind)(HC:zjG n kb kl cb cl mb I M Su bind leaf)
  (c:Nat)(s:σ)(env:List (Name × Name))(t:Ty)(S:Nat->Prop)(v:Value)(w:World)(hk5:kd t=5)(hn:t.size<=n+1)(h6:n<1000000)
  (hi:I c s w)(hm:MapE mkTy w mb env)(hv:RdV S w t v)(hS:∀g,S g->g<w.heap.size/\¬M g/\g≠mb)(hnm:Nm t)(hc:c+t.fas<=10000000)(hlen:env.length+t.size<=100000000):Calls Tryz.prog 89 #[v,.map (some mb),fnV kb cb,fnV kl cl] w (CPst mb I M Su env (c+t.fas) (chg bind leaf env t s) w):=by
 obtain⟨k,X,Z,A,m,cp,rfl,hk,hX,hZ,hkm,ha⟩:=hv.parts;have hsk:zah (kids t)+1=t.size:=by rw[zas t]
 have hfk:t.fas=fasL (kids t)+1:=by rw[zhy t,if_pos (by omega)]
 have hm6:m<=n:=by have:=zbk t;omega
 have d1:((k:Int)==1)=false:=by rw[hk];exact kF _ 1 (by omega)
 have d2:((k:Int)==2)=false:=by rw[hk];exact kF _ 2 (by omega)
 have d5:((k:Int)==5)=true:=by rw[hk,hk5];rfl
 obtain⟨vs,hvl,hvr,hv0,hv1,hvc⟩:=zfw ha hkm;have hX24:X.size<=24:=by have:=zbh hnm;rw[<-hX]at this;exact this
 obtain⟨l0,l1,ls,lb⟩:=za2 w (.cells #[.int .i64 k,.string X,.int .i64 Z,.slice A m cp] 37) (.cells #[.int .i64 0,.string ⟨#[]⟩,.int .i64 0,.slice none 0 0] 37);have hlt0:=hI.lt c s w hi;have hbind:=HB c s X _ (hI.keep c s w _ hi lb.size (λg hg=>lb.block g (hlt0 g hg))) hX24 (by omega);obtain⟨hr1,hr2,hr3,hr4,hr5⟩:=zn6 bind leaf env t s hk5;rw[<-hX]at hr2 hr4 hr5
 obtain⟨y,hy⟩:∃y,(bind X.data.toList s).1=y:=⟨_,rfl⟩;obtain⟨s1,hs1⟩:∃s1,(bind X.data.toList s).2=s1:=⟨_,rfl⟩;rw[hy]at hr2
 rw[hy,hs1]at hr4 hr5 hbind
 obtain⟨Y,hY⟩:∃Y:ByteArray,(⟨y.toArray⟩:ByteArray)=Y:=⟨_,rfl⟩;have hYl:Y.data.toList=y:=by rw[<-hY]
 rw[hY]at hr2 hbind
 obtain⟨ev,hev⟩:∃ev,((X.data.toList,y)::env)=ev:=⟨_,rfl⟩;rw[hev]at hr4 hr5
 have hevl:ev.length=env.length+1:=by rw[<-hev];rfl
 have HEV:=hidE hev;have HR1:=hidE hr1;have HR2:=hidE hr2;have HR3:=hidE hr3;have HR4:=hidE hr4;have HR5:=hidE hr5;have HK:=hidE hk;have HX:=hidE hX;have HZ:=hidE hZ;have HKM:=hidE hkm;have HS:=hidE hS;have HM:=hidE hm;have HLT:=hidE (hI.lt c s w hi);have HNK:Hid (∀i (hi:i<(kids t).length),Nm (kids t)[i]):=hidE λi hi=>zco hnm i hi;have HVR:=hidE hvr;have HVC:=hidE hvc;have HV0:=hidE hv0;have HV1:=hidE hv1;have HVL:=hidE hvl;have L0:=hidE l0;have L1:=hidE l1;have LB:=hidE lb;have LSZ:=hidE ls;have HYL:=hidE hYl;have HBIND:=hidE hbind;have hml:=hm.lt;have HXm:Hid (X.size<=maxLen):=hidE (by unfold maxLen;omega);have HEL:Hid (env.length<1000000000):=hidE (by omega);clear hev hr1 hr2 hr3 hr4 hr5 hk hX hZ hkm hS hi hm hnm hvl hvr hv0 hv1 hvc l0 l1 ls lb hv ha hk5 hlt0 hbind hy hs1 hY hYl hX24;unfold fnV;go_enter_defers Tryz.func89,Tryz.ntmps89
 go_wp2_with fail
 refine HBIND.out.mono ?_;rintro e wb ⟨rfl,ib,cbb⟩;have hsb:w.heap.size+2<=wb.heap.size:=Nat.le_trans (Nat.le_of_eq LSZ.out.symm) cbb.size;have hne2:∀q,w.heap.size<=q->¬M q:=λq hq h=>by have:=HLT.out q (hMK q h);omega
 have hb0:=Blk.chg L0.out cbb (hne2 _ (Nat.le_refl _));have hb1:=Blk.chg L1.out cbb (hne2 _ (Nat.le_succ _));have hbm:wb.heap[mb]?=w.heap[mb]?:=(cbb.block mb (by rw[LSZ.out];omega) (λh=>hmb (hMK _ h))).trans (LB.out.block mb hml);have hch:=(Chg.of_below (M:=M) LB.out).trans' cbb (λq _ h=>h);obtain⟨p0,p1,p2,p3,u0,u1,u2,u3,hlx⟩:=zaa hb0;have NB0:Hid (Blk wb.drew w.heap.size 37 #[.int .i64 k,.string X,.int .i64 Z,.slice A m cp]):=hidE hb0;have MPB:Hid (MapE mkTy wb.drew mb env):=hidE (HM.out.keep hbm);have RB0:=hidE hb1;have IB:=hidE ib;have CHB:=hidE hch;have SOF:Hid (∀W:World,Blk W w.heap.size 37 #[.int .i64 k,.string X,.int .i64 Z,.slice A m cp]->W.cell? ⟨w.heap.size,1,none⟩=some (.string X)):=hidE λW h=>h.cell 1;clear hb0 hb1 hbm hch ib cbb HBIND;go_wp2_with fail
 go_region_held3 (λW=>W.cell? ⟨w.heap.size,1,none⟩=some (.string X)) (first|(with_reducible exact SOF.out _ NB0.out)|(with_reducible exact SOF.out _ NB1.out)|(with_reducible exact SOF.out _ NB2.out))
  ((first|((with_reducible refine(zeT Y wb.drew).mono ?_);rintro e w4 ⟨rfl,b4⟩;have NB1:=hidE (NB0.out.below b4 NB0.out.lt);have MP4:=hidE (MPB.out.keep (b4.block mb MPB.out.lt));have B4:=hidE b4;clear b4)|((with_reducible refine(zkQ mb env X Y w4 MP4.out HXm.out HEL.out).mono ?_);rintro e w5 ⟨rfl,cov,mp5,c5⟩;unfold zkP;have NB2:=hidE (NB1.out.chg c5 (by unfold only;omega));have COV:=hidE cov;have MP5:=hidE mp5;have C5:=hidE c5;clear cov mp5 c5)))
 have hs4:=B4.out.size;have hs5:=C5.out.size;replace hs4:wb.heap.size<=w4.heap.size:=hs4;have hRB5:Blk w5 (w.heap.size+1) 37 #[.int .i64 0,.string ⟨#[]⟩,.int .i64 0,.slice none 0 0]:=Blk.chg (Blk.below (w:=wb.drew) RB0.out B4.out (by show w.heap.size+1<wb.heap.size;omega)) C5.out (by unfold only;omega);have hb45:∀q,q<wb.heap.size->q≠mb->w5.heap[q]?=wb.heap[q]?:=λq h1 h2=>(C5.out.block q (by omega) h2).trans (B4.out.block q h1);have hI5:=hI.keep _ _ _ w5 IB.out (by omega) (λq hq=>hb45 q (by have:=HLT.out q hq;omega) (λe=>hmb (by rw[<-e];exact hq)));have hch5:Chg (λk=>M k\/k=mb) w w5:=((CHB.out.mono (λq _ h=>.inl h)).trans' (M1:=λ_=>False) (b:=wb) (c:=w4) ⟨B4.out.os,B4.out.tape,B4.out.output,B4.out.size,λq hq _=>B4.out.block q hq⟩ (λ_ _ h=>h.elim)).trans' C5.out (λq _ h=>.inr h);have hmp5:=MP5.out;rw[HYL.out,HEV.out]at hmp5
 obtain⟨p0,p1,p2,p3,u0,u1,u2,u3,-⟩:=zaa NB2.out;have NB6:=hidE (heap_setCell_same w5 w.heap.size 1 _ _ (.string Y) NB2.out);have hcl:=zhx A m cp vs (w5.setCell ⟨w.heap.size,1,none⟩ (.string Y)) HV0.out HVL.out
  (λad had w' hw j u hu=>HVC.out ad had w' (λq hq=>(hw.block q (by have:=(HS.out q hq).1;simp;omega)).trans ((Below.heap_setCell w5 ⟨w.heap.size,1,none⟩ _ q (by have:=(HS.out q hq).1;show q≠w.heap.size;omega)).trans (hch5.block q (HS.out q hq).1 (λh=>by rcases h with h|h;exact(HS.out q hq).2.1 h;exact(HS.out q hq).2.2 h)))) j u hu) HV1.out (by omega)
 have hs6:(w5.setCell ⟨w.heap.size,1,none⟩ (.string Y)).heap.size=w5.heap.size:=by simp
 rw[hs6]at hcl
 have HS6:=hidE hs6;have HCL:=hidE hcl;have RB5:=hidE hRB5;have I5:=hidE hI5;have CH5:=hidE hch5;have MPE:=hidE hmp5;clear hcl hRB5 hb45 hI5 hch5 hmp5 hs6;go_wp2_with fail
 refine HCL.out.mono ?_;rintro e w3 ⟨A3,c3,rfl,hown,hbl⟩;have hs3:w5.heap.size<=w3.heap.size:=Nat.le_trans (Nat.le_of_eq HS6.out.symm) hbl.size;have hb0:=Blk.below NB6.out hbl (by omega);have hb1:=Blk.below (RB5.out.far (p:=⟨w.heap.size,1,none⟩) (Nat.succ_ne_self _) (.string Y)) hbl (by omega);have hk3:∀q,q<w5.heap.size->q≠w.heap.size->w3.heap[q]?=w5.heap[q]?:=λq h1 h2=>(hbl.block q h1).trans (Below.heap_setCell w5 ⟨w.heap.size,1,none⟩ _ q h2);obtain⟨g3,hg3,hrow⟩:=zgC (R:=λk=>Su k\/(w3.heap.size<=k/\k<w3.heap.size)) hown (HVR.out.keep (λ_ h=>h) (λq hq=>(hk3 q (by have:=(HS.out q hq).1;omega) (by have:=(HS.out q hq).1;omega)).trans (CH5.out.block q (HS.out q hq).1 (λh=>by rcases h with h|h;exact(HS.out q hq).2.1 h;exact(HS.out q hq).2.2 h))));obtain⟨p0,p1,p2,p3,s0,s1',s2,s3,hlx⟩:=zaa hb0;have HB0:=hidE hb0;have HB1:=hidE hb1;have HK3:=hidE hk3;have CH3:=hidE ((CH5.out.setCell (p:=⟨w.heap.size,1,none⟩) (.inl (Nat.le_refl _)) (.string Y)).trans' (M1:=λ_=>False) (Chg.mono (Chg.of_below (M:=λ_=>False) (hbl.mono (Nat.le_of_eq HS6.out))) (λ_ _ h=>h)) (λ_ _ h=>h.elim));have HROW:=hidE hrow;clear hown hb0 hb1 hk3 hrow hbl HCL HVR;go_wp2_with fail
 have hw4:Blk (w3.setCell ⟨w.heap.size,3,none⟩ (.slice A3 m c3)) w.heap.size 37 #[.int .i64 k,.string Y,.int .i64 Z,.slice A3 m c3]:=heap_setCell_same _ w.heap.size 3 _ _ (.slice A3 m c3) HB0.out;have hr4:Blk (w3.setCell ⟨w.heap.size,3,none⟩ (.slice A3 m c3)) (w.heap.size+1) 37 #[.int .i64 0,.string ⟨#[]⟩,.int .i64 0,.slice none 0 0]:=HB1.out.far (p:=⟨w.heap.size,3,none⟩) (Nat.succ_ne_self _) _;have hs4':(w3.setCell ⟨w.heap.size,3,none⟩ (.slice A3 m c3)).heap.size=w3.heap.size:=by simp
 have hk4:∀q,q<w5.heap.size->q≠w.heap.size->(w3.setCell ⟨w.heap.size,3,none⟩ (.slice A3 m c3)).heap[q]?=w5.heap[q]?:=λq hq hne=>(Below.heap_setCell w3 ⟨w.heap.size,3,none⟩ _ q hne).trans (HK3.out q hq hne);have hch4:Chg (λk=>M k\/k=mb) w (w3.setCell ⟨w.heap.size,3,none⟩ (.slice A3 m c3)):=CH3.out.setCell (p:=⟨w.heap.size,3,none⟩) (.inl (Nat.le_refl _)) _;have hi4:=hI.keep _ _ _ _ I5.out (by rw[hs4'];exact hs3) (λq hq=>hk4 q (by have:=HLT.out q hq;omega) (by have:=HLT.out q hq;omega));have hm4:=MPE.out.keep (hk4 mb (by omega) (by omega));have hcov4:=hidE (COV.out.keep (λq h1 h2=>hk4 q (by have:=COV.out.2.2.2.lt;omega) (by omega)));have hcl4:=COV.out.2.2.2.lt;have HW4:=hidE hw4;have HR4':=hidE hr4;have HK4:=hidE hk4;have HCH4:=hidE hch4;have HI4:=hidE hi4;have HM4:=hidE hm4;have HS4:=hidE hs4';have hbs:w.heap.size<=w3.heap.size:=by omega
 have hst4:Hid (0<m->A3=some ⟨g3,0,none⟩/\RowSt (λk=>Su k\/(w3.heap.size<=k/\k<(w3.setCell ⟨w.heap.size,3,none⟩ (.slice A3 m c3)).heap.size)) S (w3.setCell ⟨w.heap.size,3,none⟩ (.slice A3 m c3)) (kids t) [] g3 0):=hidE λh0=>by
  obtain⟨x1,x2⟩:=HROW.out h0;refine⟨x1,x2.keep (λq hq=>by rw[hs4'];exact hq) (λq hq=>Below.heap_setCell w3 ⟨w.heap.size,3,none⟩ _ q ?_) (by rw[hs4'];exact Nat.le_refl _)⟩;show q≠w.heap.size;rcases hq with(hq|hq)|hq|hq
  ·have:=HLT.out q (hSu q hq).1;omega
  ·omega
  ·have:=(HS.out q hq).1;omega
  ·omega
 clear hw4 hr4 hk4 hch4 hi4 hm4 hs4' p0 p1 p2 p3 s0 s1' s2 s3;go_loopg [56] m (λgg vi wr=>HeadChg mb I M Su S bind leaf ev (kids t) (c+1) s1 w3.heap.size g3 m (w3.setCell ⟨w.heap.size,3,none⟩ (.slice A3 m c3)) gg vi wr)
 case atStart =>
  exact⟨0,by omega,rfl,Nat.zero_le _,by rw[List.take_zero,fasL,chgL];exact HI4.out,HM4.out,λh0=>by rw[List.take_zero,chgL];exact(hst4.out h0).2,Chg.refl _ _⟩
 case round =>
  obtain⟨i,rfl,rfl,hi,i1,mp1,hrw,c1⟩:=hrel;have I1:=hidE i1;have MP1:=hidE mp1;have HRW:=hidE hrw;have C1:=hidE c1;have hsr:=c1.size;rw[HS4.out]at hsr
  have hnr:∀q,w.heap.size<=q->q<w.heap.size+2->wr.heap[q]? =(w3.setCell ⟨w.heap.size,3,none⟩ (.slice A3 m c3)).heap[q]?:=λq h1 h2=>c1.block q (by rw[HS4.out];omega) (λh=>by
   rcases h with h|h|h
   ·have:=HLT.out q (hMK q h);omega
   ·omega
   ·omega)
  have BN:=hidE (HW4.out.same (hnr _ (Nat.le_refl _) (by omega)));have BR:=hidE (HR4'.out.same (hnr _ (by omega) (by omega)));clear i1 mp1 hrw c1 hnr;by_cases hlt:i<m
  ·obtain⟨rfl,hst0⟩:=hst4.out (by omega)
   have hg3l:=hst0.lt;rw[HS4.out]at hg3l
   clear hst0;have hst:=HRW.out (by omega);have hil:i<(kids t).length:=by rw[HKM.out];exact hlt
   obtain⟨A1,q1,h4,harg⟩:=hst.old i hil (Nat.le_refl _);have hnu:=HNK.out i hil;have htk:(kids t).take (i+1)=(kids t).take i++[(kids t)[i]]:=List.take_succ_eq_append_getElem hil;have hsn:=zb4 (kids t) i (kids t)[i] ⟨hil,rfl⟩;have hsle:=zbw (kids t) (i+1);have hfn:=zgA (kids t) i (kids t)[i] ⟨hil,rfl⟩;have hfle:=zeo (kids t) (i+1);obtain⟨u,hu⟩:∃u,(kids t)[i]=u:=⟨_,rfl⟩;rw[hu]at h4 harg hnu htk hsn hfn
   have hszu:u.size<=n:=by omega
   have hrd:RdV S wr u (.agg #[.int .i64 (kd u:Nat),.string (nmB u),.int .i64 (nn u:Nat),.slice A1 (kids u).length q1]):=⟨A1,q1,rfl,harg⟩;obtain⟨e0,e1,e2,e3⟩:=h4;obtain⟨K1,hK1⟩:∃K1:Int,((kd u:Nat):Int)=K1:=⟨_,rfl⟩;obtain⟨X1,hX1⟩:∃X1,nmB u=X1:=⟨_,rfl⟩;obtain⟨Z1,hZ1⟩:∃Z1:Int,((nn u:Nat):Int)=Z1:=⟨_,rfl⟩;obtain⟨n1,hn1⟩:∃n1,(kids u).length=n1:=⟨_,rfl⟩;rw[hK1]at e0 hrd
   rw[hX1]at e1 hrd
   rw[hZ1]at e2 hrd
   rw[hn1]at e3 hrd
   have HTK:=hidE htk;have HSN:=hidE hfn;have hcall:=HC (c+1+fasL ((kids t).take i)) (chgL bind leaf ev ((kids t).take i) s1).2 ev u S _ ((wr.alloc (.cells #[.int .i64 K1,.string X1,.int .i64 Z1,.slice A1 n1 q1] 37)).drew) hszu (by omega)
    (hI.keep _ _ _ _ I1.out (by show wr.heap.size<=(wr.alloc _).heap.size;simp) (λg hg=>Below.heap_alloc wr _ g (hI.lt _ _ _ I1.out g hg))) (MP1.out.keep (Below.heap_alloc wr _ mb MP1.out.lt)) (hrd.keep (λ_ h=>h) (λg hg=>Below.heap_alloc wr _ g (by have:=(HS.out g hg).1;omega)))
    (λg hg=>⟨by show g<(wr.alloc _).heap.size;have:=(HS.out g hg).1;simp;omega,(HS.out g hg).2⟩) hnu (by omega) (by omega)
   unfold fnV at hcall;have HCALL:=hidE hcall;have NB0:Hid (Blk ((wr.alloc (.cells #[.int .i64 K1,.string X1,.int .i64 Z1,.slice A1 n1 q1] 37)).drew) w.heap.size 37 #[.int .i64 k,.string Y,.int .i64 Z,.slice (some ⟨g3,0,none⟩) m c3]):=hidE (Blk.alloc BN.out _);have PB0:Hid (Blk ((wr.alloc (.cells #[.int .i64 K1,.string X1,.int .i64 Z1,.slice A1 n1 q1] 37)).drew) wr.heap.size 37 #[.int .i64 K1,.string X1,.int .i64 Z1,.slice A1 n1 q1]):=hidE (heap_alloc_new wr _);have SOF:Hid (∀W:World,Blk W w.heap.size 37 #[.int .i64 k,.string Y,.int .i64 Z,.slice (some ⟨g3,0,none⟩) m c3]->Blk W wr.heap.size 37 #[.int .i64 K1,.string X1,.int .i64 Z1,.slice A1 n1 q1] ->
    W.cell? ⟨w.heap.size,3,none⟩=some (.slice (some ⟨g3,0,none⟩) m c3)/\W.cell? ⟨wr.heap.size,0,none⟩=some (.int .i64 K1)/\W.cell? ⟨wr.heap.size,1,none⟩=some (.string X1)/\W.cell? ⟨wr.heap.size,2,none⟩=some (.int .i64 Z1)/\W.cell? ⟨wr.heap.size,3,none⟩=some (.slice A1 n1 q1)) :=
    hidE λW h1 h2=>⟨h1.cell 3,h2.cell 0,h2.cell 1,h2.cell 2,h2.cell 3⟩
   have HST:=hidE hst;have hgl:=hst.lt;have hneN:w.heap.size≠g3:=by omega
   have hneP:wr.heap.size≠g3:=by omega
   clear hst hrd hnu hcall hu hK1 hX1 hZ1 hn1 htk hsn hfn harg;go_wp2_with fail
   go_region_held3 (λW=>W.cell? ⟨w.heap.size,3,none⟩=some (.slice (some ⟨g3,0,none⟩) m c3)/\W.cell? ⟨wr.heap.size,0,none⟩=some (.int .i64 K1)/\W.cell? ⟨wr.heap.size,1,none⟩=some (.string X1)/\W.cell? ⟨wr.heap.size,2,none⟩=some (.int .i64 Z1)/\W.cell? ⟨wr.heap.size,3,none⟩=some (.slice A1 n1 q1)) (first|(with_reducible exact SOF.out _ NB0.out PB0.out)|(with_reducible exact SOF.out _ NB1.out PB1.out)|(with_reducible exact SOF.out _ (zdR NB1.out hneN) (zdR PB1.out hneP)))
    (((with_reducible refine HCALL.out.mono ?_);rintro e w5 ⟨k',x',z',a',m',p',rfl,hr5,hi5,hm5,c5⟩;have hn5:∀q,w.heap.size<=q->q<=wr.heap.size->w5.heap[q]? =(wr.alloc (.cells #[.int .i64 K1,.string X1,.int .i64 Z1,.slice A1 n1 q1] 37)).heap[q]?:=(λq h1 h2=>c5.block q (by show q<(wr.alloc _).heap.size;rw[size_alloc];omega) (λh=>by rcases h with h|h;(have:=HLT.out q (hMK q h);omega);omega));have NB1:=hidE (NB0.out.same (hn5 _ (Nat.le_refl _) (by omega)));have PB1:=hidE (PB0.out.same (hn5 _ (by omega) (Nat.le_refl _)));have hs5:wr.heap.size+1<=w5.heap.size:=(by have:=c5.size;rw[show((wr.alloc (.cells #[.int .i64 K1,.string X1,.int .i64 Z1,.slice A1 n1 q1] 37)).drew).heap.size=wr.heap.size+1 from size_alloc _ _]at this;exact this);have st5:=HST.out.keep (R':=λk=>Su k\/(w3.heap.size<=k/\k<w5.heap.size)) (w':=w5) (λq hq=>(by rcases hq with hq|hq;exact .inl hq;exact .inr ⟨hq.1,by omega⟩)) (λq hq=>(c5.block q (by show q<(wr.alloc _).heap.size;rw[size_alloc];rcases hq with(hq|hq)|hq|hq;(have:=HLT.out q (hSu q hq).1;omega);omega;(have:=(HS.out q hq).1;omega);omega) (by rcases hq with(hq|hq)|hq|hq;(exact λh=>by rcases h with h|h;exact(hSu q hq).2 h;exact hmb (by rw[<-h];exact(hSu q hq).1));(exact λh=>by rcases h with h|h;(have:=HLT.out q (hMK q h);omega);omega);(exact λh=>by rcases h with h|h;exact(HS.out q hq).2.1 h;exact(HS.out q hq).2.2 h);(exact λh=>by rcases h with h|h;(have:=HLT.out q (hMK q h);omega);omega))).trans (Below.heap_alloc wr _ q (by rcases hq with(hq|hq)|hq|hq;(have:=HLT.out q (hSu q hq).1;omega);omega;(have:=(HS.out q hq).1;omega);omega))) (by omega);obtain⟨A5,q5,⟨y0,y1,y2,y3⟩,-⟩:=st5.old i hil (Nat.le_refl _);have f0:=st5.free (i*4);have f1:=st5.free (i*4+1);have f2:=st5.free (i*4+2);have f3:=st5.free (i*4+3);have ST5:=hidE st5;have HR5:=hidE hr5;have HI5:=hidE hi5;have HM5:=hidE hm5;have C5:=hidE c5;clear st5 hr5 hi5 hm5 c5 hn5))
   all_goals
    go_wp2_with fail
    have hput:=RowSt.put ST5.out hil (by rw[zcc,List.length_take];omega) (HR5.out.keep (S':=λk=>Su k\/(w3.heap.size<=k/\k<w5.heap.size)) (λq hq=>by rcases hq with hq|hq;exact .inl hq;exact .inr ⟨by have h1:=hq.1;have h2:((wr.alloc (.cells #[.int .i64 K1,.string X1,.int .i64 Z1,.slice A1 n1 q1] 37)).drew).heap.size=wr.heap.size+1:=size_alloc _ _;omega,hq.2⟩) (λq _=>rfl)) (λh=>by rcases h with h|h;(have:=HLT.out _ (hSu _ h).1;omega);omega) (λh=>by have:=(HS.out _ h).1;omega);have HPUT:=hidE hput;clear hput;go_roundg (m-(i+1))
    case measure=>omega
    case rel =>
     have hfin:HeadChg mb I M Su S bind leaf ev (kids t) (c+1) s1 w3.heap.size g3 m (w3.setCell ⟨w.heap.size,3,none⟩ (.slice (some ⟨g3,0,none⟩) m c3)) (m-(i+1)) (.int .i64 ((i+1:Nat):Int)) (setO w5 g3 (i*4) (.int .i64 k') (.string x') (.int .i64 z') (.slice a' m' p')):=by
      refine⟨i+1,rfl,rfl,by omega,?_,?_,λ_=>?_,?_⟩
      ·rw[HTK.out,zdf,<-HTK.out,HSN.out]
       have:=hI.keep _ _ _ (setO w5 g3 (i*4) (.int .i64 k') (.string x') (.int .i64 z') (.slice a' m' p')) HI5.out (by rw[zcp];exact Nat.le_refl _) (λq hq=>zbo _ _ _ _ _ _ _ _ (by have:=HLT.out q hq;omega));rw[Nat.add_assoc]at this
       exact this
      ·exact HM5.out.keep (zbo _ _ _ _ _ _ _ _ (by omega))
      ·rw[HTK.out,zdf]
       exact HPUT.out.keep (λq hq=>by rw[zcp];exact hq) (λ_ _=>rfl) (Nat.le_refl _)
      ·have h1:Chg (λk=>M k\/k=mb\/k=g3) (w3.setCell ⟨w.heap.size,3,none⟩ (.slice (some ⟨g3,0,none⟩) m c3)) w5:=((C1.out.alloc _).drew).trans' C5.out (λq _ h=>by
        rcases h with h|h
        ·exact .inl h
        ·exact .inr (.inl h))
       exact h1.setO _ _ _ _ _ (.inr (.inr (.inr rfl)))
     refine cast (congrArg (λv=>HeadChg mb I M Su S bind leaf ev (kids t) (c+1) s1 w3.heap.size g3 m _ (m-(i+1)) v _) ?_) hfin;go_num
  ·have him:i=m:=by omega
   subst him;have hend:(kids t).take i=kids t:=List.take_of_length_le (by rw[HKM.out];exact Nat.le_refl _);have hi1:=I1.out;have hrw1:=HRW.out;rw[hend,<-HR5.out]at hi1
   rw[hend,<-HR4.out]at hrw1
   have HI1:=hidE hi1;have HRW1:=hidE hrw1;obtain⟨p0,p1,p2,p3,s0,s1',s2,s3,-⟩:=zaa BN.out;obtain⟨q0,q1,q2,q3,t0,t1,t2,t3,-⟩:=zaa BR.out;clear hi1 hrw1 hend;go_wp2_with fail
   have hb:=zae (.int .i64 k) (.string Y) (.int .i64 Z) (.slice A3 i c3) BR.out;have hf:∀g,g≠w.heap.size+1->((((wr.setCell ⟨w.heap.size+1,0,none⟩ (.int .i64 k)).setCell ⟨w.heap.size+1,1,none⟩ (.string Y)).setCell ⟨w.heap.size+1,2,none⟩ (.int .i64 Z)).setCell ⟨w.heap.size+1,3,none⟩ (.slice A3 i c3)).heap[g]?=wr.heap[g]?:=λg hg=>zat _ _ _ _ _ _ _ hg;have hsz:((((wr.setCell ⟨w.heap.size+1,0,none⟩ (.int .i64 k)).setCell ⟨w.heap.size+1,1,none⟩ (.string Y)).setCell ⟨w.heap.size+1,2,none⟩ (.int .i64 Z)).setCell ⟨w.heap.size+1,3,none⟩ (.slice A3 i c3)).heap.size=wr.heap.size:=by simp
   have hcanon:=HM.out.canon;have hmpw:=MP1.out.keep (hf mb (by omega));rw[<-HEV.out]at hmpw
   have hcovw:=hcov4.out.keep (w':=((((wr.setCell ⟨w.heap.size+1,0,none⟩ (.int .i64 k)).setCell ⟨w.heap.size+1,1,none⟩ (.string Y)).setCell ⟨w.heap.size+1,2,none⟩ (.int .i64 Z)).setCell ⟨w.heap.size+1,3,none⟩ (.slice A3 i c3))) (λq h1 h2=>(hf q (by omega)).trans (C1.out.block q (by rw[HS4.out];omega) (λh=>by
    rcases h with h|h|h
    ·have:=HLT.out q (hMK q h);omega
    ·omega
    ·omega)))
   refine leaves_cons (f:=171) (args:=#[.pointer (some ⟨w4.heap.size+4,0,none⟩),.pointer (some ⟨w4.heap.size+3,0,none⟩),.pointer (some ⟨w4.heap.size,0,none⟩),.pointer (some ⟨w4.heap.size+1,0,none⟩)]) (by simp) (by simp[go_sem]) ?_;refine(ziw w4.heap.size mb env X y .returning _ hcovw hmpw hcanon HXm.out HEL.out).mono ?_;rintro e u' wf ⟨rfl,rfl,mf,bf⟩;have hbf:=hb.chg bf (by unfold only;omega);have hff:∀q,q≠w.heap.size+1->q≠mb->q<wr.heap.size->wf.heap[q]?=wr.heap[q]?:=λq h1 h2 h3=>(bf.block q (by rw[hsz];exact h3) h2).trans (hf q h1);have hszf:wr.heap.size<=wf.heap.size:=by have:=bf.size;rw[hsz]at this;exact this
   refine⟨_,results_cell_row rfl _ _ (w.heap.size+1) 37 _ (0,0) _ rfl hbf Tryz.underlying37 rfl (by kernel_rfl),k,Y,Z,A3,i,c3,rfl,⟨A3,c3,?_,?_⟩,?_,mf,?_⟩
   ·rw[HR1.out,HR2.out,HR3.out,HR4.out,zcc,HKM.out,<-HK.out,<-HZ.out]
   ·refine(zbO _ _ _ _).2 λhne=>?_
    have h0:0<i:=by
     refine Nat.pos_of_ne_zero λe=>hne ?_;rw[HR4.out]
     refine List.eq_nil_of_length_eq_zero ?_;rw[zcc,HKM.out,e]
    obtain⟨hA,h4⟩:=hst4.out h0;have hl4:=h4.lt;rw[HS4.out]at hl4
    have hrow:=HRW1.out h0;refine⟨g3,hA,.inr ⟨by omega,by omega⟩,RowT.keep (λq hq=>by rcases hq with hq|hq;exact .inl hq;exact .inr ⟨by omega,by omega⟩) (λq hq=>by
     rcases hq with hq|hq
     ·have h1:=HLT.out q (hSu q hq).1
      exact hff q (by omega) (λe=>hmb (by rw[<-e];exact(hSu q hq).1)) (by omega)
     ·exact hff q (by omega) (by omega) hq.2) _ _ _ (hff g3 (by omega) (by omega) (by omega)) hrow.new⟩
   ·refine hI.mono _ _ _ _ (hI.keep _ _ _ _ HI1.out hszf (λq hq=>hff q (by have:=HLT.out q hq;omega) (λe=>hmb (by rw[<-e];exact hq)) (by have:=HLT.out q hq;omega))) (by omega)
   ·have h1:Chg (λk=>M k\/k=mb) w wr:=HCH4.out.trans' C1.out (λq hq h=>by
     rcases h with h|h|h
     ·exact .inl h
     ·exact .inr h
     ·omega)
    exact(h1.set4 (.int .i64 k) (.string Y) (.int .i64 Z) (.slice A3 i c3) (Nat.le_succ _)).trans' bf (λq _ h=>.inr h)
end Go.Proofs.YtfafilmklhnngaaGreatDoor
namespace Go.Proofs.YtfafilmklhnngaaGreatDoor
open Go.RowKit Lx Tx Go.Maps Go.WideMaps Go.Shelf
set_option maxRecDepth 100000
mutual
theorem zcT:(t:Ty)->t.fas<=t.size
 |.var x=>by rw[Ty.fas];exact Nat.zero_le _
 |.mt n=>by rw[Ty.fas];exact Nat.zero_le _
 |.con c l=>by rw[Ty.fas,zas];have:=zgE l;show fasL l<=zah l+1;omega
 |.fn a b=>by rw[Ty.fas,zas];have:=zcT a;have:=zcT b;simp[kids,zah];omega
 |.all x t=>by rw[Ty.fas,zas];have:=zcT t;simp[kids,zah];omega
theorem zgE:(l:List Ty)->fasL l<=zah l
 |[]=>by rw[fasL];exact Nat.zero_le _
 |t::r=>by rw[fasL,zah];have:=zcT t;have:=zgE r;omega
end
theorem zoK {σ:Type}(kb kl:Nat)(cb cl:Array Value)(mb:Nat)(I:Nat->σ->World->Prop)(K M Su:Nat->Prop)(bind:Name->σ->Name × σ)(leaf:Ty->Ty)(hI:InvC I K)(hMK:∀g,M g->K g)(hSu:∀g,Su g->K g/\¬M g)(hmb:¬K mb)
  (eb:∀args w,(callFunc kb args).run Tryz.prog w=.ok (.enter kb args) w)(el:∀args w,(callFunc kl args).run Tryz.prog w=.ok (.enter kl args) w)(HB:zfv kb cb I M bind)(HL:zep kl cl I M Su leaf)(n:Nat):zjG n kb kl cb cl mb I M Su bind leaf:=by
 induction n with
 |zero=>intro c s env t S v w hn;rw[zas]at hn;omega
 |succ n ih =>
  intro c s env t S v w hn h6 hi hm hv hS hnm hc hlen;cases t with
  |var x=>exact zkS kb kl cb cl mb I K M Su bind leaf hI hMK (λg hg=>(hSu g hg).1) hmb el HL c s env x S v w hi hm hv (λg hg=>(hS g hg).1) hnm
  |mt x=>exact zmF kb kl cb cl mb I K M Su bind leaf hI hMK (λg hg=>(hSu g hg).1) hmb el HL c s env x S v w hi hm hv (λg hg=>(hS g hg).1) hnm
  |con d l=>exact zgD n kb kl cb cl mb I K M Su bind leaf hI hMK hSu hmb ih c s env _ S v w (.inl rfl) hn (by omega) hi hm hv hS hnm hc hlen
  |fn a b=>exact zgD n kb kl cb cl mb I K M Su bind leaf hI hMK hSu hmb ih c s env _ S v w (.inr rfl) hn (by omega) hi hm hv hS hnm hc hlen
  |all x t=>exact zkT n kb kl cb cl mb I K M Su bind leaf hI hMK hSu hmb eb HB ih c s env _ S v w rfl hn (by omega) hi hm hv hS hnm hc hlen
def DPst {σ:Type}(I:Nat->σ->World->Prop)(M Su:Nat->Prop)(c:Nat)(p:Ty × σ)(w:World)(e:Ending)(w':World):Prop :=
 ∃k x z a m q,e=.returned (.agg #[.int .i64 k,.string x,.int .i64 z,.slice a m q])/\RdV (λg=>Su g\/(w.heap.size<=g/\g<w'.heap.size)) w' p.1 (.agg #[.int .i64 k,.string x,.int .i64 z,.slice a m q])/\I c p.2 w'/\Chg M w w'
theorem zjI {σ:Type}(kb kl:Nat)(cb cl:Array Value)(I:Nat->σ->World->Prop)(K M Su:Nat->Prop)(bind:Name->σ->Name × σ)(leaf:Ty->Ty)(hI:InvC I K)(hMK:∀g,M g->K g)(hSu:∀g,Su g->K g/\¬M g)
  (eb:∀args w,(callFunc kb args).run Tryz.prog w=.ok (.enter kb args) w)(el:∀args w,(callFunc kl args).run Tryz.prog w=.ok (.enter kl args) w)(HB:zfv kb cb I M bind)(HL:zep kl cl I M Su leaf)
  (c:Nat)(s:σ)(t:Ty)(S:Nat->Prop)(v:Value)(w:World)(hi:I c s w)(hv:RdV S w t v)(hS:∀g,S g->g<w.heap.size/\¬M g)(hnm:Nm t)(hsz:t.size<=1000000)(hc:c+t.fas<=10000000):Calls Tryz.prog 44 #[v,fnV kb cb,fnV kl cl] w (DPst I M Su (c+t.fas) (chg bind leaf [] t s) w):=by
 obtain⟨k,X,Z,A,m,cp,rfl,-,-,-,-,-⟩:=hv.parts;have hmm:∀w,(Instr.makeMap 160 none).run Tryz.prog w=.ok (.map (some w.heap.size)) (w.alloc (.map #[] 0)):=λ_=>rfl;obtain⟨l0,l1,l2,ls,lb⟩:=zcE w (.cells #[.int .i64 k,.string X,.int .i64 Z,.slice A m cp] 37) (.cells #[.int .i64 0,.string ⟨#[]⟩,.int .i64 0,.slice none 0 0] 37) (.map #[] 0);have hlt:=hI.lt c s w hi;have hcall:=zoK kb kl cb cl (w.heap.size+1+1) I K M Su bind leaf hI hMK hSu (λh=>by have:=hlt _ h;omega) eb el HB HL t.size c s [] t S _ _ (Nat.le_refl _) hsz (hI.keep _ _ _ _ hi lb.size (λg hg=>lb.block g (hlt g hg))) (MapE.laid mkTy l2)
  (hv.keep (λ_ h=>h) (λg hg=>lb.block g (hS g hg).1)) (λg hg=>⟨by have:=(hS g hg).1;omega,(hS g hg).2,by have:=(hS g hg).1;omega⟩) hnm hc (by simp;omega)
 unfold fnV at hcall;have HCALL:=hidE hcall;have L1:=hidE l1;have LS:=hidE ls;have LB:=hidE lb;have HLT:=hidE hlt;clear hi hv hS hnm l0 l1 l2 ls lb hlt hcall;unfold fnV;go_enter Tryz.func44,Tryz.ntmps44
 go_wp2_with fail
 refine HCALL.out.mono ?_;rintro e w1 ⟨k',x',z',a',m',p',rfl,hr,hi1,-,c1⟩;have hs1:=c1.size;rw[LS.out]at hs1
 have hb1:=Blk.chg L1.out c1 (λh=>by
  rcases h with h|h
  ·have:=HLT.out _ (hMK _ h);omega
  ·omega)
 obtain⟨q0,q1,q2,q3,t0,t1,t2,t3,hlx⟩:=zaa hb1;have HR:=hidE hr;have HI1:=hidE hi1;have C1:=hidE c1;have HB1:=hidE hb1;clear hr hi1 c1 hb1 HCALL;go_wp2_with fail
 have hb:=zae (.int .i64 k') (.string x') (.int .i64 z') (.slice a' m' p') HB1.out;have hf:∀g,g≠w.heap.size+1->((((w1.setCell ⟨w.heap.size+1,0,none⟩ (.int .i64 k')).setCell ⟨w.heap.size+1,1,none⟩ (.string x')).setCell ⟨w.heap.size+1,2,none⟩ (.int .i64 z')).setCell ⟨w.heap.size+1,3,none⟩ (.slice a' m' p')).heap[g]?=w1.heap[g]?:=λg hg=>zat _ _ _ _ _ _ _ hg;have hsz2:((((w1.setCell ⟨w.heap.size+1,0,none⟩ (.int .i64 k')).setCell ⟨w.heap.size+1,1,none⟩ (.string x')).setCell ⟨w.heap.size+1,2,none⟩ (.int .i64 z')).setCell ⟨w.heap.size+1,3,none⟩ (.slice a' m' p')).heap.size=w1.heap.size:=by simp
 refine bodyPost_ret (results_cell_row rfl _ _ (w.heap.size+1) 37 _ (0,0) _ rfl hb Tryz.underlying37 rfl (by kernel_rfl)) rfl ⟨k',x',z',a',m',p',rfl,?_,?_,?_⟩
 ·refine HR.out.keep (λq hq=>?_) (λq hq=>hf q ?_)
  ·rcases hq with hq|⟨h1,h2⟩
   ·exact .inl hq
   ·exact .inr ⟨by have:=LS.out;omega,by rw[hsz2];exact h2⟩
  ·rcases hq with hq|⟨h1,h2⟩
   ·have:=HLT.out q (hSu q hq).1;omega
   ·have:=LS.out;omega
 ·exact hI.keep _ _ _ _ HI1.out (Nat.le_of_eq hsz2.symm) (λq hq=>hf q (by have:=HLT.out q hq;omega))
 ·refine Chg.set4 ((Chg.of_below LB.out).trans' C1.out (λq hq h=>?_)) _ _ _ _ (Nat.le_succ _)
  rcases h with h|h
  ·exact h
  ·omega
section
variable {σ:Type}
theorem zkU(g:Ty->σ->σ)(env:List Name)(x:Name)(s:σ):atLeaf g env (.var x) s=if x∈env then s else g (.var x) s:=by
 show(if decide (x∉env)=true then g (.var x) s else s)=_;by_cases h:x∈env
 ·rw[if_pos h,if_neg (by simpa using h)]
 ·rw[if_neg h,if_pos (by simpa using h)]
theorem znw(g:Ty->σ->σ)(env:List Name)(n:Nat)(s:σ):atLeaf g env (.mt n) s=g (.mt n) s:=rfl
theorem zkV(g:Ty->σ->σ)(env:List Name)(c:Name)(l:List Ty)(s:σ):atLeaf g env (.con c l) s=s:=rfl
theorem znx(g:Ty->σ->σ)(env:List Name)(a b:Ty)(s:σ):atLeaf g env (.fn a b) s=s:=rfl
theorem zkW(g:Ty->σ->σ)(env:List Name)(x:Name)(t:Ty)(s:σ):atLeaf g env (.all x t) s=s:=rfl
end
mutual
theorem zcU:(t:Ty)->∀(env bound:List Name) s,(∀x,x∈bound↔x∈env)->thr (atLeaf noteVar) (λ_ _ s=>s) env t s=t.freeO bound s
 |.var x,env,bound,s,h=>by
  rw[thr,Ty.freeO,zkU]
  by_cases hx:x∈env
  ·rw[if_pos hx,if_pos ((h x).2 hx)]
  ·rw[if_neg hx,if_neg (λe=>hx ((h x).1 e))];rfl
 |.mt n,env,bound,s,h=>by rw[thr,Ty.freeO,znw];rfl
 |.con c l,env,bound,s,h=>by rw[thr,Ty.freeO,zkV];exact zgF l env bound s h
 |.fn a b,env,bound,s,h=>by rw[thr,Ty.freeO,znx,zcU a env bound s h];exact zcU b env bound _ h
 |.all x t,env,bound,s,h=>by
  rw[thr,Ty.freeO,zkW]
  exact zcU t (x::env) (bound++[x]) s (λy=>by rw[List.mem_append,List.mem_singleton,List.mem_cons,h y,or_comm])
theorem zgF:(l:List Ty)->∀(env bound:List Name) s,(∀x,x∈bound↔x∈env)->thrL (atLeaf noteVar) (λ_ _ s=>s) env l s=zct bound l s
 |[],env,bound,s,h=>by rw[thrL,zct]
 |t::r,env,bound,s,h=>by rw[thrL,zct,zcU t env bound s h,zgF r env bound _ h]
end
theorem zmG(t:Ty):za7 t=t.free:=zcU t [] [] [] (λ_=>Iff.rfl)
mutual
theorem zcq:(t:Ty)->∀(env:List Name) s,thr (atLeaf noteMt) (λ_ _ s=>s) env t s=t.metasO s
 |.var x,env,s=>by
  rw[thr,Ty.metasO,zkU]
  split <;> rfl
 |.mt n,env,s=>by rw[thr,Ty.metasO,znw];rfl
 |.con c l,env,s=>by rw[thr,Ty.metasO,zkV];exact zfx l env s
 |.fn a b,env,s=>by rw[thr,Ty.metasO,znx,zcq a env s];exact zcq b env _
 |.all x t,env,s=>by rw[thr,Ty.metasO,zkW];exact zcq t (x::env) s
theorem zfx:(l:List Ty)->∀(env:List Name) s,thrL (atLeaf noteMt) (λ_ _ s=>s) env l s=zbY l s
 |[],env,s=>by rw[thrL,zbY]
 |t::r,env,s=>by rw[thrL,zbY,zcq t env s,zfx r env]
end
theorem zkX(t:Ty):zb5 t=t.metas:=zcq t [] []
section
variable {σ:Type}
mutual
theorem zdt(P:σ->Prop)(fc fl:List Name->Ty->σ->σ)(hc:∀env u s,Nm u->P s->P (fc env u s))(hl:∀env u s,Nm u->P s->P (fl env u s)):(t:Ty)->∀env s,Nm t->P s->P (thr fc fl env t s)
 |.var x,env,s,hn,h=>by rw[thr];exact hl _ _ _ hn (hc _ _ _ hn h)
 |.mt n,env,s,hn,h=>by rw[thr];exact hl _ _ _ hn (hc _ _ _ hn h)
 |.con c l,env,s,hn,h=>by
  rw[thr]
  have hk:∀t∈l,Nm t:=by cases hn;assumption
  exact hl _ _ _ hn (zhz P fc fl hc hl l env _ hk (hc _ _ _ hn h))
 |.fn a b,env,s,hn,h=>by
  rw[thr]
  have hk:Nm a/\Nm b:=by cases hn;exact⟨by assumption,by assumption⟩
  exact hl _ _ _ hn (zdt P fc fl hc hl b env _ hk.2 (zdt P fc fl hc hl a env _ hk.1 (hc _ _ _ hn h)))
 |.all x t,env,s,hn,h=>by
  rw[thr]
  have hk:Nm t:=by cases hn;assumption
  exact hl _ _ _ hn (zdt P fc fl hc hl t _ _ hk (hc _ _ _ hn h))
theorem zhz(P:σ->Prop)(fc fl:List Name->Ty->σ->σ)(hc:∀env u s,Nm u->P s->P (fc env u s))(hl:∀env u s,Nm u->P s->P (fl env u s)):(l:List Ty)->∀env s,(∀t∈l,Nm t)->P s->P (thrL fc fl env l s)
 |[],env,s,_,h=>by rw[thrL];exact h
 |t::r,env,s,hn,h=>by
  rw[thrL]
  exact zhz P fc fl hc hl r env _ (λu hu=>hn u (List.mem_cons_of_mem _ hu)) (zdt P fc fl hc hl t env s (hn t List.mem_cons_self) h)
end
end
theorem zmH(x y:Name)(l:List Name):y∈addN x l↔y=x\/y∈l:=zmO x y l
def Short(s:List Name):Prop:=∀x∈s,x.length<=24
theorem zjJ {t:Ty} {s:List Name}(h:Nm t)(hs:Short s):Short (addN (nmB t).data.toList s):=λy hy=>by
 rcases(zmH _ _ _).1 hy with rfl|hy
 ·have:=zbh h
  exact this
 ·exact hs y hy
theorem zkY {t:Ty} {s:List Name}(h:Nm t)(hs:Short s):Short (noteVar t s):=by
 rcases zen t s with⟨_,e⟩|⟨_,e⟩ <;> rw[e]
 ·exact zjJ h hs
 ·exact hs
theorem ziz(t:Ty)(h:Nm t):Short (za7 t) :=
 zdt Short _ _ (λenv u s hu hs=>by unfold atLeaf;split;exact zkY hu hs;exact hs) (λ_ _ _ _ hs=>hs) t [] [] h (λ_ hx=>(List.not_mem_nil hx).elim)
def zdS(but:List Name)(_:Name)(k:Nat):Name × Nat:=(nm 120 (zaz 120 but k),zaz 120 but k+1)
mutual
theorem zcV(but:List Name):(t:Ty)->∀(env:List (Name × Name))(xs ys:List Name)(k:Nat),(∀x,look x env=(idx x xs).map λi=>ys.getD i [])->chg (zdS but) id env t k=numb 120 but xs ys t k
 |.var x,env,xs,ys,k,h=>by
  rw[chg,numb,h]
  cases idx x xs <;> rfl
 |.mt n,env,xs,ys,k,h=>by rw[chg,numb];rfl
 |.con c l,env,xs,ys,k,h=>by rw[chg,numb,zgG but l env xs ys k h]
 |.fn a b,env,xs,ys,k,h=>by rw[chg,numb,zcV but a env xs ys k h,zcV but b env xs ys _ h]
 |.all x t,env,xs,ys,k,h=>by
  rw[chg,numb]
  have:=zcV but t ((x,nm 120 (zaz 120 but k))::env) (x::xs) (nm 120 (zaz 120 but k)::ys) (zaz 120 but k+1) (λz=>by
   rw[look,idx]
   by_cases hz:x=z
   ·rw[if_pos hz,if_pos hz.symm];rfl
   ·rw[if_neg hz,if_neg (λe=>hz e.symm),h z]
    cases idx z xs <;> rfl)
  show(Ty.all (nm 120 (zaz 120 but k)) (chg (zdS but) id ((x,nm 120 (zaz 120 but k))::env) t (zaz 120 but k+1)).1,(chg (zdS but) id ((x,nm 120 (zaz 120 but k))::env) t (zaz 120 but k+1)).2)=_;rw[this]
theorem zgG(but:List Name):(l:List Ty)->∀(env:List (Name × Name))(xs ys:List Name)(k:Nat),(∀x,look x env=(idx x xs).map λi=>ys.getD i [])->chgL (zdS but) id env l k=zch 120 but xs ys l k
 |[],env,xs,ys,k,h=>by rw[chgL,zch]
 |t::r,env,xs,ys,k,h=>by rw[chgL,zch,zcV but t env xs ys k h,zgG but r env xs ys _ h]
end
theorem zcr(t:Ty):(chg (zdS (za7 t)) id [] t 0).1=t.canonT:=by
 rw[zcV (za7 t) t [] [] [] 0 (λ_=>rfl),zmG]
 rfl
theorem zdg(t:Ty)(h:Nm t)(hs:t.size<=1000000):Nm t.canonT:=by
 rw[zmP]
 exact zk8 _ (zdT [] t h) (zdv [] t) (zmR t hs)
section
variable {σ:Type}
mutual
theorem zbC(bind:Name->σ->Name × σ):(t:Ty)->∀env s,(chg bind id env t s).1.size=t.size
 |.var x,env,s=>by
  rw[chg]
  cases look x env <;> rfl
 |.mt n,env,s=>by rw[chg];rfl
 |.con c l,env,s=>by rw[chg,Ty.size,Ty.size,zgH bind l]
 |.fn a b,env,s=>by rw[chg,Ty.size,Ty.size,zbC bind a,zbC bind b]
 |.all x t,env,s=>by rw[chg,Ty.size,Ty.size,zbC bind t]
theorem zgH(bind:Name->σ->Name × σ):(l:List Ty)->∀env s,zah (chgL bind id env l s).1=zah l
 |[],env,s=>by rw[chgL]
 |t::r,env,s=>by rw[chgL,zah,zah,zbC bind t,zgH bind r]
end
end
theorem zjK(f n:Nat):(decF f n).length<=f:=by
 induction f generalizing n with
 |zero=>simp[decF]
 |succ f ih =>
  rw[decF]
  split
  ·simp
  ·have:=ih (n / 10)
   simp;exact this
mutual
theorem zbD:(t:Ty)->Nm t->t.print.length+6<=40*t.size/\(zaS t).length<=40*t.size+3
 |.var x,h=>by
  have h1:x.length<=24:=zbh h;rw[zbE _ (λy u e=>by cases e),Ty.print,Ty.size]
  simp;omega
 |.mt n,h=>by
  have h1:(dec n).length<=20:=zjK 20 n;rw[zbE _ (λy u e=>by cases e),Ty.print,Ty.size]
  simp;omega
 |.con c l,h=>by
  have h1:c.length<=24:=zbh h;have h2:=zfy l (by cases h;assumption);rw[zbE _ (λy u e=>by cases e),Ty.print,Ty.size]
  simp;omega
 |.fn a b,h=>by
  have hk:Nm a/\Nm b:=by cases h;exact⟨by assumption,by assumption⟩
  have h1:=(zbD a hk.1).1;have h2:=(zbD b hk.2).1;rw[zbE _ (λy u e=>by cases e),Ty.print,Ty.size]
  cases a.isFA <;> simp <;> omega
 |.all x t,h=>by
  have h1:x.length<=24:=zbh h;have h2:=(zbD t (by cases h;assumption)).2;rw[zcF,Ty.print,Ty.size]
  have hw:wForall.length=6:=rfl;simp only[List.length_append,List.length_cons,hw];omega
theorem zfy:(l:List Ty)->(∀t∈l,Nm t)->(zaF l).length<=40*zah l
 |[],_=>by rw[zaF];simp
 |t::r,h=>by
  have h1:=(zbD t (h t List.mem_cons_self)).1;have h2:=zfy r (λu hu=>h u (List.mem_cons_of_mem _ hu));rw[zaF,zah]
  cases t.big <;> simp <;> omega
end
structure CanI (lb nb sb mb cb:Nat) (but:List Name) (c:Nat) (k:Nat) (w:World):Prop where
 new:NewI 120 lb nb sb mb but k w
 cel:Blk w cb 40 #[newV lb nb sb]
 tab:Tab w
 len:k<=c*(but.length+1)
def CanK(lb nb sb mb cb:Nat)(g:Nat):Prop:=g=nb\/g=sb\/g=mb\/g=cb\/g=lb\/g=0
theorem CanI.inv(lb nb sb mb cb:Nat)(but:List Name):InvC (CanI lb nb sb mb cb but) (CanK lb nb sb mb cb) where
 mono c c' s w h hc:={ h with len:=Nat.le_trans h.len (Nat.mul_le_mul_right _ hc) }
 lt c s w h g hg:=by
  rcases hg with rfl|rfl|rfl|rfl|rfl|rfl
  ·exact h.new.num.lt
  ·exact h.new.cel.lt
  ·exact h.new.set.lt
  ·exact h.cel.lt
  ·exact h.new.let_.lt
  ·exact h.tab.lt
 keep c s w w' h _ hk :=
  {new:=h.new.keep (hk _ (.inr (.inr (.inr (.inr (.inl rfl)))))) (hk _ (.inl rfl)) (hk _ (.inr (.inl rfl))) (hk _ (.inr (.inr (.inl rfl))))
   cel:=h.cel.same (hk _ (.inr (.inr (.inr (.inl rfl)))))
   tab:=h.tab.keep (hk _ (.inr (.inr (.inr (.inr (.inr rfl))))))
   len:=h.len }
theorem zkZ(lb nb sb mb cb:Nat)(but:List Name)(h0:nb≠lb)(h1:nb≠sb)(h2:nb≠mb)(h3:nb≠0)(h4:nb≠cb)(hbut:but.length<=10000000):zfv 43 #[.pointer (some ⟨cb,0,none⟩)] (CanI lb nb sb mb cb but) (only nb) (zdS but):=by
 intro c k X w hi _ hc;obtain⟨hn,hcel,ht,hlen⟩:=hi;have hm:c*(but.length+1)<=10000000*10000001:=Nat.mul_le_mul (by omega) (by omega);obtain⟨_,hk1,hk2⟩:=zb6 120 but k (by omega);have hnew:=zoJ 120 lb nb sb mb but k w hn ht h0 h1 h2 h3 (by omega);obtain⟨x0,-,l0⟩:=zai hcel;have ek:∀args w,(callFunc 85 args).run Tryz.prog w=.ok (.enter 85 args) w:=enters_of Tryz.func85 (by kernel_rfl) rfl;have HN:=hidE hnew;have HC:=hidE hcel;have HT:=hidE ht;have HL:Hid (zaz 120 but k+1<=(c+1)*(but.length+1)):=hidE (by rw[Nat.add_mul];omega);clear hn hcel ht hlen hm hk1 hk2 hnew;unfold newV at x0;go_enter Tryz.func43,Tryz.ntmps43
 go_wp2_with fail
 refine HN.out.mono ?_;rintro e w1 ⟨rfl,n1,c1⟩;have HN1:=hidE n1;have C1:=hidE c1;clear n1 c1;go_wp2_with fail
 go_ret
 exact⟨rfl,⟨HN1.out,HC.out.chg C1.out (λh=>h4 h.symm),HT.out.keep (C1.out.block _ HT.out.lt (λh=>h3 h.symm)),HL.out⟩,C1.out⟩
theorem zmI {S S':Nat->Prop} {w w':World} {t:Ty} {v:Value}(h:RdV S w t v)(hk:kd t=1\/kd t=2):RdV S' w' t v:=by
 obtain⟨A,c,hv,-⟩:=h;refine⟨A,c,hv,?_⟩;cases t with
 |var x=>rw[Args];trivial
 |mt n=>rw[Args];trivial
 |con c l=>simp[kd]at hk
 |fn a b=>simp[kd]at hk
 |all x t=>simp[kd]at hk
theorem zk0 {σ:Type}(I:Nat->σ->World->Prop)(K M Su:Nat->Prop)(hI:InvC I K):zep 45 #[] I M Su id:=by
 intro c s t S v w hi hv hS hk hnm;obtain⟨k,X,Z,A,m,cp,rfl,-,-,-,-,-⟩:=hv.parts;obtain⟨-,l1,ls,lb⟩:=za2 w (.cells #[.int .i64 k,.string X,.int .i64 Z,.slice A m cp] 37) (.cells #[.int .i64 k,.string X,.int .i64 Z,.slice A m cp] 37);have HOUT:Hid (RdV Su ((w.alloc (.cells #[.int .i64 k,.string X,.int .i64 Z,.slice A m cp] 37)).alloc (.cells #[.int .i64 k,.string X,.int .i64 Z,.slice A m cp] 37)) (id t) (.agg #[.int .i64 k,.string X,.int .i64 Z,.slice A m cp])):=hidE (zmI hv hk);have HI:=hidE (hI.keep _ _ _ _ hi lb.size (λg hg=>lb.block g (hI.lt _ _ _ hi g hg)));have L1:=hidE l1;have LB:=hidE lb;clear hi hv hS hnm l1 ls lb;go_enter Tryz.func45,Tryz.ntmps45
 go_wp2_with fail
 exact bodyPost_ret (results_cell_row rfl _ _ (w.heap.size+1) 37 _ (0,0) _ rfl L1.out Tryz.underlying37 rfl (by kernel_rfl)) rfl ⟨k,X,Z,A,m,cp,rfl,HOUT.out,HI.out,Chg.of_below LB.out⟩
theorem zmJ(t:Ty)(S:Nat->Prop)(v:Value)(w:World)(hv:RdV S w t v)(hS:∀g,S g->g<w.heap.size)(hnm:Nm t)(hsz:t.size<=1000000)(ht:Tab w):Calls Tryz.prog 16 #[v] w λe w'=>e=.returned (.string ⟨t.canonT.print.toArray⟩)/\Below w.heap.size w w':=by
 obtain⟨K,X,Z,A,m,cp,rfl,-,-,-,-,-⟩:=hv.parts;have hmf:∀(fn:Fn) (first cap:Array Value) (w:World),(Instr.makeFunc fn first cap).run Tryz.prog w=.ok (.func fn first cap) w:=λ_ _ _ _=>rfl;have hal:Below w.heap.size w (w.alloc (.cells #[.int .i64 K,.string X,.int .i64 Z,.slice A m cp] 37)):=(Below.refl _ w).alloc (Nat.le_refl _) _;have hfr:=zn1 t S _ (w.alloc (.cells #[.int .i64 K,.string X,.int .i64 Z,.slice A m cp] 37)) (hv.keep (λ_ h=>h) (λg hg=>hal.block g (hS g hg))) (λg hg=>by have:=hS g hg;simp;omega) hnm hsz;rw[size_alloc]at hfr
 have HFR:=hidE hfr;have HBX:=hidE (heap_alloc_new w (.cells #[.int .i64 K,.string X,.int .i64 Z,.slice A m cp] 37));have HV:=hidE hv;have HS:=hidE hS;have HNM:=hidE hnm;have HT:=hidE ht;have HAL:=hidE hal;clear hv hS hnm ht hal hfr;go_enter Tryz.func16,Tryz.ntmps16
 go_wp2_with fail
 refine HFR.out.mono ?_;rintro e w1 ⟨A1,c1,rfl,hown,hl1,b1⟩;have hs1:w.heap.size+1<=w1.heap.size:=Nat.le_trans (Nat.le_of_eq (size_alloc w _).symm) b1.size;have HB1:=hidE (HAL.out.trans (b1.mono (Nat.le_succ _)));have HX1:=hidE (Blk.below HBX.out b1 (Nat.lt_succ_self _));have hrv:=RowV.of_own hown;obtain⟨n,hn⟩:∃n,(za7 t).length=n:=⟨_,rfl⟩;have hst:Hid (Calls Tryz.prog 41 #[.slice (some ⟨w1.heap.size,0,none⟩) 1 1] (w1.alloc (.cells #[.slice A1 n c1] 95)) λe w'=>e=.returned (.map (some (w1.heap.size+1)))/\MapE mkSet w' (w1.heap.size+1) (units (za7 t))/\Below (w1.heap.size+1) (w1.alloc (.cells #[.slice A1 n c1] 95)) w'):=hidE (by
  have h:=zoI [za7 t] w1.heap.size 1 (w1.alloc (.cells #[.slice A1 n c1] 95)) (λj hj=>by
   have hj0:j=0:=by simp at hj;omega
   subst hj0;refine⟨A1,c1,?_,?_⟩
   ·have:=Blk.cell (heap_alloc_new w1 (.cells #[.slice A1 n c1] 95)) 0
    rw[<-hn]at this ⊢
    exact this
   ·exact hrv.below ((Below.refl _ w1).alloc (Nat.le_refl _) _)) (by simp) (by intro x hx;exact ziz t HNM.out x (by simpa using hx)) (by simpa using(by omega:(za7 t).length<=10000000)) (by simp)
  simp only[List.flatten_cons,List.flatten_nil,List.append_nil,size_alloc]at h;exact h)
 rw[hn]
 clear hown b1 hrv HFR;go_wp2_with fail
 refine hst.out.mono ?_;rintro e w2 ⟨rfl,hm2,b2⟩;have hs2:=b2.size;rw[size_alloc]at hs2
 have hb12:Below w1.heap.size w1 w2:=((Below.refl _ w1).alloc (Nat.le_refl _) _).trans (b2.mono (Nat.le_succ _));have HX2:=hidE (HX1.out.below hb12 (by omega));have HB2:=hidE (HB1.out.trans (hb12.mono (by omega)));have hnw:=ziu 120 ⟨#[120]⟩ rfl (w1.heap.size+1) (za7 t) w2 hm2;have HNW:=hidE hnw;clear hm2 b2 hb12 hnw hst;go_wp2_with fail
 refine HNW.out.mono ?_;rintro e w3 ⟨rfl,hn3,b3⟩;have hs3:=b3.size;have HX3:=hidE (HX2.out.below b3 (by omega));obtain⟨p0,p1,p2,p3,u0,u1,u2,u3,hlx⟩:=zaa HX3.out;have HN3:=hidE hn3;have HB3:=hidE (HB2.out.trans (b3.mono (by omega)));clear hn3 b3 HNW;unfold newV;go_wp2_with fail
 have hbl:Below w3.heap.size w3 (w3.alloc (.cells #[newV w2.heap.size (w2.heap.size+2) (w2.heap.size+1)] 40)):=(Below.refl _ w3).alloc (Nat.le_refl _) _;have hb4:Below w.heap.size w (w3.alloc (.cells #[newV w2.heap.size (w2.heap.size+2) (w2.heap.size+1)] 40)):=HB3.out.alloc (by omega) _;have htl:=HT.out.lt;have ht4:Tab (w3.alloc (.cells #[newV w2.heap.size (w2.heap.size+2) (w2.heap.size+1)] 40)):=HT.out.below hb4;have hnl:=HN3.out.num.lt;have hchg:=zjI 43 45 #[.pointer (some ⟨w3.heap.size,0,none⟩)] #[] (CanI w2.heap.size (w2.heap.size+2) (w2.heap.size+1) (w1.heap.size+1) w3.heap.size (za7 t)) (CanK w2.heap.size (w2.heap.size+2) (w2.heap.size+1) (w1.heap.size+1) w3.heap.size) (only (w2.heap.size+2)) (λ_=>False) (zdS (za7 t)) id (CanI.inv _ _ _ _ _ _) (λg hg=>.inl hg) (λ_ h=>h.elim)
  (enters_of Tryz.func43 (by kernel_rfl) rfl) (enters_of Tryz.func45 (by kernel_rfl) rfl)
  (zkZ w2.heap.size (w2.heap.size+2) (w2.heap.size+1) (w1.heap.size+1) w3.heap.size (za7 t) (by omega) (by omega) (by omega) (by omega) (by omega) (by omega)) (zk0 _ _ _ _ (CanI.inv _ _ _ _ _ _))
  0 0 t S _ _ ⟨HN3.out.below hbl,heap_alloc_new w3 _,ht4,Nat.zero_le _⟩ (HV.out.keep (λ_ h=>h) (λg hg=>hb4.block g (HS.out g hg))) (λg hg=>⟨by have:=HS.out g hg;have:=hb4.size;omega,λh=>by have:=HS.out g hg;have h:g=w2.heap.size+2:=h;omega⟩) HNM.out hsz (by have:=zcT t;omega)
 unfold fnV newV at hchg;refine hchg.mono ?_;rintro e w5 ⟨k5,x5,z5,a5,m5,q5,rfl,hr5,hi5,cc5⟩;rw[zcr]at hr5
 have hs5:=cc5.size;have hB5:=hb4.trans (cc5.toBelow (B:=w.heap.size) (by have:=hb4.size;exact this) (λq hq h=>by have h:q=w2.heap.size+2:=h;omega));have hp:=zms t.canonT _ _ w5 (by rw[<-zcr,zbC];exact hsz) (zdg t HNM.out hsz) hr5 (λg hg=>by rcases hg with h|h;exact h.elim;exact h.2) hi5.tab (by
  have h1:=(zbD t.canonT (zdg t HNM.out hsz)).1;have h2:t.canonT.size=t.size:=by rw[<-zcr,zbC]
  omega)
 have HP:=hidE hp;have HB5:=hidE hB5;clear hp hB5 hs5 hr5 hi5 cc5 hchg ht4 hb4 hbl;go_wp2_with fail
 refine HP.out.mono ?_;rintro e w6 ⟨rfl,b6⟩;have HB6:=hidE (HB5.out.trans (b6.mono HB5.out.size));clear b6 HP;go_wp2_with fail
 go_ret
 exact⟨rfl,HB6.out⟩
structure Bx (N:Nat) (w:World) (g:Nat) (t:Ty) (K:Int) (X:ByteArray) (Z:Int) (A:Option Addr) (m c:Nat):Prop where
 blk:Blk w g 37 #[.int .i64 K,.string X,.int .i64 Z,.slice A m c]
 rd:RdV (λg=>g<N) w t (.agg #[.int .i64 K,.string X,.int .i64 Z,.slice A m c])
 lt:N<=w.heap.size
theorem Bx.below {N:Nat} {w w':World} {g:Nat} {t:Ty} {K:Int} {X:ByteArray} {Z:Int} {A:Option Addr} {m c:Nat}(h:Bx N w g t K X Z A m c)(hb:Below w.heap.size w w'):Bx N w' g t K X Z A m c :=
 ⟨h.blk.below hb h.blk.lt,h.rd.keep (λ_ h=>h) (λg hg=>hb.block g (Nat.lt_of_lt_of_le hg h.lt)),Nat.le_trans h.lt hb.size⟩
theorem Bx.cells {N:Nat} {w:World} {g:Nat} {t:Ty} {K:Int} {X:ByteArray} {Z:Int} {A:Option Addr} {m c:Nat}(h:Bx N w g t K X Z A m c):w.cell? ⟨g,0,none⟩=some (.int .i64 K)/\w.cell? ⟨g,1,none⟩=some (.string X)/\w.cell? ⟨g,2,none⟩=some (.int .i64 Z)/\w.cell? ⟨g,3,none⟩=some (.slice A m c):=⟨h.blk.cell 0,h.blk.cell 1,h.blk.cell 2,h.blk.cell 3⟩
theorem Bx.made {w:World} {t:Ty} {K:Int} {X:ByteArray} {Z:Int} {A:Option Addr} {m c:Nat}(h:RdV (λg=>g<w.heap.size) w t (.agg #[.int .i64 K,.string X,.int .i64 Z,.slice A m c])):Bx w.heap.size (w.alloc (.cells #[.int .i64 K,.string X,.int .i64 Z,.slice A m c] 37)) w.heap.size t K X Z A m c :=
 ⟨heap_alloc_new w _,h.keep (λ_ h=>h) (λg hg=>Below.heap_alloc w _ g hg),by simp⟩
def OkPst(t:Ty)(w:World)(e:Ending)(w':World):Prop :=
 ∃K X Z A m c,e=.returned (.tuple #[.agg #[.int .i64 K,.string X,.int .i64 Z,.slice A m c],.int .i64 0])/\RdV (λg=>g<w'.heap.size) w' t (.agg #[.int .i64 K,.string X,.int .i64 Z,.slice A m c])/\Below w.heap.size w w'
theorem zjR(s:ByteArray)(t:Ty)(h:parse s.data.toList=.ok t)(w:World)(hs:s.size<=maxLen):Calls Tryz.prog 18 #[.string s] w (OkPst t w):=by
 refine(zhm s w hs).mono ?_;rintro e w' ⟨hb,K,X,Z,A,m,c,⟨n,h0,hp,-⟩|⟨u,hp,he,hr⟩⟩
 ·rw[h]at hp;cases hp
 ·rw[h]at hp
  injection hp with hp;subst hp;exact⟨K,X,Z,A,m,c,he,hr.keep (λg hg=>hg.2) (λ_ _=>rfl),hb⟩
theorem zjS {s:List UInt8} {n:Nat}(h:parse s=.error n):n≠0:=by
 intro e;subst e;unfold parse at h;obtain⟨⟨ts,l,er⟩,hq⟩:∃p,zbb s=p:=⟨_,rfl⟩;rw[hq]at h
 cases er with
 |zero =>
  simp only at h;split at h
  ·split at h
   ·injection h with h;omega
   ·cases h
  ·injection h with h;omega
 |succ k =>
  simp at h
section
variable {N:Nat} {w:World} {g:Nat} {t:Ty} {K:Int} {X:ByteArray} {Z:Int} {A:Option Addr} {m c:Nat}
end
section
variable {N N':Nat} {w:World} {t u:Ty} {v uv:Value}
end
end Go.Proofs.YtfafilmklhnngaaGreatDoor
namespace Go.Proofs.YtfafilmklhnngaaGreatDoor
open Go.RowKit Lx Tx
set_option maxRecDepth 100000
section
variable (isP:Ty->Bool) (u:Ty) (but free:List Name)
end
section
variable {σ:Type}
end
end Go.Proofs.YtfafilmklhnngaaGreatDoor
namespace Go.Proofs.YtfafilmklhnngaaGreatDoor
open Go.RowKit Lx Tx Go.Maps Go.WideMaps Go.Shelf
set_option maxRecDepth 100000
def HeadSm(pb lb rb m:Nat)(el er:List (Name × Nat))(l r:List Ty)(mt:Nat)(w0:World)(gg:Nat)(vi:Value)(wr:World):Prop :=
 ∃i mt':Nat,gg=m-i/\vi=.int .i64 (i:Nat)/\i<=m/\Hid (smL el er (l.take i) (r.take i) mt=(true,mt'))/\PairI pb lb rb el er mt' wr/\Chg (PM pb lb rb) w0 wr
theorem zdk(n pb lb rb:Nat)(HC:zer n pb lb rb)(t u:Ty)(el er:List (Name × Nat))(mt:Nat)(S Su:Nat->Prop)(v uv:Value)(w:World)(hn:t.size<=n+1)(h6:n<=100000000)(hp:PairI pb lb rb el er mt w)(hv:RdV S w t v)(hu:RdV Su w u uv)
  (hS:∀g,S g->g<w.heap.size/\¬PM pb lb rb g)(hSu:∀g,Su g->g<w.heap.size/\¬PM pb lb rb g)(hnm:Nm t)(hnu:Nm u)(h1:el.length+zah (kids t)<=500000000)(h2:er.length+zah (kids t)<=500000000)(h3:mt+zah (kids t)<=1000000000)(hlen:(kids t).length=(kids u).length):Calls Tryz.prog 104 #[.pointer (some ⟨pb,0,none⟩),v,uv] w (SPst pb lb rb el er (smL el er (kids t) (kids u) mt) w):=by
 obtain⟨K,X,Z,A,m,c,rfl,-,-,-,hm,ha⟩:=hv.parts;obtain⟨K',X',Z',A',m',c',rfl,-,-,-,hm',ha'⟩:=hu.parts;obtain rfl:m=m':=by omega
 have hm6:m<=n:=by have:=zbk t;omega
 have hnk:∀i (hi:i<(kids t).length),Nm (kids t)[i]:=λi hi=>zco hnm i hi;have hnku:∀i (hi:i<(kids u).length),Nm (kids u)[i]:=λi hi=>zco hnu i hi;obtain⟨l0,l1,ls,lb2⟩:=za2 w (.cells #[.int .i64 K,.string X,.int .i64 Z,.slice A m c] 37) (.cells #[.int .i64 K',.string X',.int .i64 Z',.slice A' m c'] 37);obtain⟨W2,hW2⟩:∃W,(w.alloc (.cells #[.int .i64 K,.string X,.int .i64 Z,.slice A m c] 37)).alloc (.cells #[.int .i64 K',.string X',.int .i64 Z',.slice A' m c'] 37)=W:=⟨_,rfl⟩;rw[hW2]at l0 l1 ls lb2
 have HP2:=hidE (hp.below lb2);have hltp:∀g,PM pb lb rb g->g<w.heap.size:=hp.lt;obtain⟨p0,p1,p2,p3,-⟩:=zaa (show Blk W2 w.heap.size 37 _ from l0);have L1:Hid (Blk W2 (w.heap.size+1) 37 #[.int .i64 K',.string X',.int .i64 Z',.slice A' m c']):=hidE l1;have LS:=hidE ls;have LB:=hidE lb2;have HM:=hidE hm;have HM':=hidE hm';have HA:=hidE ha;have HA':=hidE ha';have HS:=hidE hS;have HSU:=hidE hSu;have HNK:=hidE hnk;have HNKU:=hidE hnku;have HLT:=hidE hltp;have HN:=hidE hn;obtain⟨R,hR⟩:∃R,smL el er (kids t) (kids u) mt=R:=⟨_,rfl⟩;have HR:=hidE hR;rw[hR]
 clear hv hu hm hm' ha ha' hS hSu hnm hnu hp l0 l1 ls lb2 hR hnk hnku hltp hlen hn;go_enter Tryz.func104,Tryz.ntmps104
 go_wp2_with fail
 go_loopg [12] m (λgg vi wr=>HeadSm pb lb rb m el er (kids t) (kids u) mt W2 gg vi wr)
 case atStart=>exact⟨0,mt,rfl,rfl,Nat.zero_le _,hidE (by rw[List.take_zero,smL]),HP2.out,Chg.refl _ _⟩
 case round =>
  obtain⟨i,mt',hgg,rfl,hi,htake,hpi,hc⟩:=hrel;have HTK:=hidE htake.out;have HPI:=hidE hpi;have C1:=hidE hc;have hs1:=hc.size;rw[LS.out]at hs1
  clear htake hpi hc;by_cases hlt:i<m
  ·have hkk:∀g,S g->wr.heap[g]?=w.heap[g]?:=λg hg=>(C1.out.block g (by have:=(HS.out g hg).1;rw[LS.out];omega) (HS.out g hg).2).trans (LB.out.block g (HS.out g hg).1)
   have hkk':∀g,Su g->wr.heap[g]?=w.heap[g]?:=λg hg=>(C1.out.block g (by have:=(HSU.out g hg).1;rw[LS.out];omega) (HSU.out g hg).2).trans (LB.out.block g (HSU.out g hg).1);obtain⟨g,a,K1,X1,Z1,A1,n1,c1,rfl,hg,e0,e1,e2,e3,hua,hrd,hsa⟩:=zbT HA.out HM.out hlt hkk;obtain⟨g',b,K2,X2,Z2,A2,n2,c2,rfl,hg',f0,f1,f2,f3,hub,hrd',-⟩:=zbT HA'.out HM'.out hlt hkk';have hna:Nm a:=by obtain⟨hi',rfl⟩:=List.getElem?_eq_some_iff.1 hua;exact HNK.out i hi'
   have hnb:Nm b:=by obtain⟨hi',rfl⟩:=List.getElem?_eq_some_iff.1 hub;exact HNKU.out i hi'
   have hsl:zah ((kids t).take i)+a.size<=zah (kids t):=by
    obtain⟨hi',rfl⟩:=List.getElem?_eq_some_iff.1 hua;have:=zb4 (kids t) i _ ⟨hi',rfl⟩;have:=zbw (kids t) (i+1);omega
   have hmt':mt'<=mt+zah ((kids t).take i):=by have:=(zf8 ((kids t).take i) el er ((kids u).take i) mt).2;rw[HTK.out]at this;exact this
   have hst:=zmK el er (kids t) (kids u) i mt mt' a b hua hub HTK.out;have hil:i<(kids t).length:=by rw[HM.out];exact hlt
   have hil':i<(kids u).length:=by rw[HM'.out];exact hlt
   have hfl:∀z,smT el er a b mt'=(false,z)->R=(false,z):=λz hz=>by rw[<-HR.out];exact zk2 el er (kids t) (kids u) i mt z hil hil' (by rw[hst,hz])
   have hal:∀q,q<wr.heap.size->((wr.alloc (.cells #[.int .i64 K1,.string X1,.int .i64 Z1,.slice A1 n1 c1] 37)).drew).heap[q]?=wr.heap[q]?:=λq hq=>Below.heap_alloc _ _ _ hq;have hsz1:((wr.alloc (.cells #[.int .i64 K1,.string X1,.int .i64 Z1,.slice A1 n1 c1] 37)).drew).heap.size=wr.heap.size+1:=size_alloc _ _;have hcall:=HC a b el er mt' S Su _ _ ((wr.alloc (.cells #[.int .i64 K1,.string X1,.int .i64 Z1,.slice A1 n1 c1] 37)).drew) (by have:=HN.out;omega) h6 (HPI.out.keep λq hq=>hal q (HPI.out.lt q hq)) (hrd.keep (λ_ h=>h) (λq hq=>hal q (by have:=(HS.out q hq).1;omega))) (hrd'.keep (λ_ h=>h) (λq hq=>hal q (by have:=(HSU.out q hq).1;omega)))
    (λq hq=>⟨by have:=(HS.out q hq).1;omega,(HS.out q hq).2⟩) (λq hq=>⟨by have:=(HSU.out q hq).1;omega,(HSU.out q hq).2⟩) hna hnb (by omega) (by omega) (by omega)
   obtain⟨⟨q,z⟩,hqz⟩:∃p,smT el er a b mt'=p:=⟨_,rfl⟩;rw[hqz]at hcall hst
   have HCALL:=hidE hcall;have HST:=hidE hst;have HFL:=hidE hfl;have HQZ:=hidE hqz;have hgl:=zbI f0;have hgn:g'≠wr.heap.size:=by omega
   have hgP:g'<w.heap.size/\¬PM pb lb rb g':=HSU.out g' hg';have K1B:Hid (Blk ((wr.alloc (.cells #[.int .i64 K1,.string X1,.int .i64 Z1,.slice A1 n1 c1] 37)).drew) wr.heap.size 37 #[.int .i64 K1,.string X1,.int .i64 Z1,.slice A1 n1 c1]):=hidE (heap_alloc_new wr _);have U1B:Hid (Blk ((wr.alloc (.cells #[.int .i64 K1,.string X1,.int .i64 Z1,.slice A1 n1 c1] 37)).drew) (w.heap.size+1) 37 #[.int .i64 K',.string X',.int .i64 Z',.slice (some ⟨g',0,none⟩) m c']):=hidE ((hal _ (by omega)).trans (L1.out.chg C1.out (λh=>by have:=HLT.out _ h;omega)));have SOF:Hid (∀W:World,Blk W wr.heap.size 37 #[.int .i64 K1,.string X1,.int .i64 Z1,.slice A1 n1 c1]->Blk W (w.heap.size+1) 37 #[.int .i64 K',.string X',.int .i64 Z',.slice (some ⟨g',0,none⟩) m c']->W.heap[g']?=wr.heap[g']? ->
     W.cell? ⟨wr.heap.size,0,none⟩=some (.int .i64 K1)/\W.cell? ⟨wr.heap.size,1,none⟩=some (.string X1)/\W.cell? ⟨wr.heap.size,2,none⟩=some (.int .i64 Z1)/\W.cell? ⟨wr.heap.size,3,none⟩=some (.slice A1 n1 c1)/\W.cell? ⟨w.heap.size+1,3,none⟩=some (.slice (some ⟨g',0,none⟩) m c') /\
     W.cell? ⟨g',i*4,none⟩=some (.int .i64 K2)/\W.cell? ⟨g',i*4+1,none⟩=some (.string X2)/\W.cell? ⟨g',i*4+2,none⟩=some (.int .i64 Z2)/\W.cell? ⟨g',i*4+3,none⟩=some (.slice A2 n2 c2)) :=
    hidE λW b1 b2 hk=>⟨b1.cell 0,b1.cell 1,b1.cell 2,b1.cell 3,b2.cell 3,(World.cell?_of_block (w:=wr) (a:=⟨g',i*4,none⟩) hk).trans f0,(World.cell?_of_block (w:=wr) (a:=⟨g',i*4+1,none⟩) hk).trans f1,(World.cell?_of_block (w:=wr) (a:=⟨g',i*4+2,none⟩) hk).trans f2,(World.cell?_of_block (w:=wr) (a:=⟨g',i*4+3,none⟩) hk).trans f3⟩
   have HG0:Hid (((wr.alloc (.cells #[.int .i64 K1,.string X1,.int .i64 Z1,.slice A1 n1 c1] 37)).drew).heap[g']?=wr.heap[g']?):=hidE (hal g' hgl);clear hkk hkk' hua hub hrd hrd' hna hnb hst hfl hcall hqz hil hil' f0 f1 f2 f3 hsa;go_wp2_with fail
   go_region_held3 (λW=>W.cell? ⟨wr.heap.size,0,none⟩=some (.int .i64 K1)/\W.cell? ⟨wr.heap.size,1,none⟩=some (.string X1)/\W.cell? ⟨wr.heap.size,2,none⟩=some (.int .i64 Z1)/\W.cell? ⟨wr.heap.size,3,none⟩=some (.slice A1 n1 c1)/\W.cell? ⟨w.heap.size+1,3,none⟩=some (.slice (some ⟨g',0,none⟩) m c') /\
     W.cell? ⟨g',i*4,none⟩=some (.int .i64 K2)/\W.cell? ⟨g',i*4+1,none⟩=some (.string X2)/\W.cell? ⟨g',i*4+2,none⟩=some (.int .i64 Z2)/\W.cell? ⟨g',i*4+3,none⟩=some (.slice A2 n2 c2)) (first|(with_reducible exact SOF.out _ K1B.out U1B.out HG0.out)|(with_reducible exact SOF.out _ K2B.out U2B.out HG2.out))
    ((first|((with_reducible refine HCALL.out.mono ?_);rintro e w5 ⟨rfl,hp5,c5⟩;have K2B:=hidE (K1B.out.chg c5 (λh=>by have:=HLT.out _ h;omega));have U2B:=hidE (U1B.out.chg c5 (λh=>by have:=HLT.out _ h;omega));have HG2:=hidE ((c5.block g' (by omega) hgP.2).trans HG0.out);have HP5:=hidE hp5;have C5:=hidE c5;clear hp5 c5)))
   all_goals
    clear HCALL
   have C6:=hidE (((C1.out.alloc (.cells #[.int .i64 K1,.string X1,.int .i64 Z1,.slice A1 n1 c1] 37)).drew).trans C5.out);cases q with
   |true =>
    go_wp2_with fail
    go_roundg (m-(i+1))
    case measure=>omega
    case rel=>exact⟨i+1,z,rfl,by go_num,by omega,HST,HP5.out,C6.out⟩
   |false =>
    have HF:=hidE (HFL.out z HQZ.out);go_wp2_with fail
    go_ret
    rw[HF.out]
    exact⟨rfl,HP5.out,(Chg.of_below LB.out).trans' C6.out (λg hg h=>h)⟩
  ·have hend:(kids t).take i=kids t:=List.take_of_length_le (by have:=HM.out;omega)
   have hend':(kids u).take i=kids u:=List.take_of_length_le (by have:=HM'.out;omega);have hfin:R=(true,mt'):=by rw[<-HR.out,<-HTK.out,hend,hend']
   have HF:=hidE hfin;clear hend hend' hfin;go_wp2_with fail
   go_ret
   rw[HF.out]
   exact⟨rfl,HPI.out,(Chg.of_below LB.out).trans' C1.out (λg hg h=>h)⟩
end Go.Proofs.YtfafilmklhnngaaGreatDoor
namespace Go.Proofs.YtfafilmklhnngaaGreatDoor
open Go.RowKit Lx Tx Go.Maps Go.WideMaps Go.Shelf
set_option maxRecDepth 100000
theorem zmM(o:Option Nat):mkInt.valO o=.int .i64 ((o.getD 0:Nat):Int):=by cases o <;> rfl
theorem zjM(pb lb rb:Nat)(el er:List (Name × Nat))(mt:Nat)(K K' Z Z':Int)(X X':ByteArray)(A A':Option Addr)(m m' c c':Nat)(w:World)(hp:PairI pb lb rb el er mt w)(h:K≠K'\/m≠m'):Calls Tryz.prog 60 #[.pointer (some ⟨pb,0,none⟩),.agg #[.int .i64 K,.string X,.int .i64 Z,.slice A m c],.agg #[.int .i64 K',.string X',.int .i64 Z',.slice A' m' c']] w (SPst pb lb rb el er (false,mt) w):=by
 obtain⟨-,-,-,lb2⟩:=za2 w (.cells #[.int .i64 K,.string X,.int .i64 Z,.slice A m c] 37) (.cells #[.int .i64 K',.string X',.int .i64 Z',.slice A' m' c'] 37);have HP2:=hidE (hp.below lb2);have LB:=hidE lb2;clear hp lb2;by_cases hk:K=K'
 ·subst hk
  have hm:((m:Int) ==(m':Int))=false:=by rw[Bool.eq_false_iff];intro e;simp at e;omega
  clear h;go_enter_defers Tryz.func60,Tryz.ntmps60
  go_wp2_with fail
  refine⟨_,results_tmp rfl _ _ _,rfl,HP2.out,Chg.of_below LB.out⟩
 ·have hk':(K==K')=false:=by rw[Bool.eq_false_iff];intro e;simp at e;exact hk e
  clear h hk;go_enter_defers Tryz.func60,Tryz.ntmps60
  go_wp2_with fail
  refine⟨_,results_tmp rfl _ _ _,rfl,HP2.out,Chg.of_below LB.out⟩
theorem zk4(pb lb rb:Nat)(el er:List (Name × Nat))(mt:Nat)(Z Z':Int)(X X':ByteArray)(A A':Option Addr)(m c c':Nat)(w:World)(hp:PairI pb lb rb el er mt w):Calls Tryz.prog 60 #[.pointer (some ⟨pb,0,none⟩),.agg #[.int .i64 2,.string X,.int .i64 Z,.slice A m c],.agg #[.int .i64 2,.string X',.int .i64 Z',.slice A' m c']] w (SPst pb lb rb el er (Z==Z',mt) w):=by
 obtain⟨-,-,-,lb2⟩:=za2 w (.cells #[.int .i64 2,.string X,.int .i64 Z,.slice A m c] 37) (.cells #[.int .i64 2,.string X',.int .i64 Z',.slice A' m c'] 37);have HP2:=hidE (hp.below lb2);have LB:=hidE lb2;clear hp lb2;obtain⟨q,hq⟩:∃q,(Z==Z')=q:=⟨_,rfl⟩;rw[hq]
 cases q
 all_goals
  go_enter_defers Tryz.func60,Tryz.ntmps60
  go_wp2_with fail
  refine⟨_,results_tmp rfl _ _ _,rfl,HP2.out,Chg.of_below LB.out⟩
theorem zjN(pb lb rb:Nat)(el er:List (Name × Nat))(mt:Nat)(Z Z':Int)(X X':ByteArray)(A A':Option Addr)(m c c':Nat)(w:World)(hp:PairI pb lb rb el er mt w)(hX:X.size<=24)(hX':X'.size<=24):Calls Tryz.prog 60 #[.pointer (some ⟨pb,0,none⟩),.agg #[.int .i64 1,.string X,.int .i64 Z,.slice A m c],.agg #[.int .i64 1,.string X',.int .i64 Z',.slice A' m c']] w
   (SPst pb lb rb el er (decide ((look X.data.toList el).getD 0=(look X'.data.toList er).getD 0/\(0<(look X.data.toList el).getD 0\/X.data.toList=X'.data.toList)),mt) w):=by
 obtain⟨l0,l1,ls,lb2⟩:=za2 w (.cells #[.int .i64 1,.string X,.int .i64 Z,.slice A m c] 37) (.cells #[.int .i64 1,.string X',.int .i64 Z',.slice A' m c'] 37);obtain⟨W2,hW2⟩:∃W,(w.alloc (.cells #[.int .i64 1,.string X,.int .i64 Z,.slice A m c] 37)).alloc (.cells #[.int .i64 1,.string X',.int .i64 Z',.slice A' m c'] 37)=W:=⟨_,rfl⟩;rw[hW2]at l0 l1 ls lb2
 have hp2:=hp.below lb2;obtain⟨p0,p1,p2,p3,-⟩:=zaa (show Blk W2 w.heap.size 37 _ from l0);obtain⟨q0,q1,q2,q3,-⟩:=zaa (show Blk W2 (w.heap.size+1) 37 _ from l1);have z0:W2.cell? ⟨pb,0,none⟩=some (.map (some lb)):=hp2.pr.cell 0;have z1:W2.cell? ⟨pb,1,none⟩=some (.map (some rb)):=hp2.pr.cell 1;have hl0:=(hp2.le.keep (w':=W2.drew) rfl).get X (by unfold maxLen;omega);have hr0:=(hp2.ri.keep (w':=W2.drew) rfl).get X' (by unfold maxLen;omega);rw[zmM]at hl0 hr0
 obtain⟨l,hl⟩:∃l,(look X.data.toList el).getD 0=l:=⟨_,rfl⟩;obtain⟨r,hr⟩:∃r,(look X'.data.toList er).getD 0=r:=⟨_,rfl⟩;rw[hl]at hl0 ⊢
 rw[hr]at hr0 ⊢
 replace hl0:(Instr.lookup 116 (.map (some lb)) (.string X) false).run Tryz.prog W2.drew=.ok (.int .i64 (l:Nat)) W2.drew:=hl0;replace hr0:(Instr.lookup 116 (.map (some rb)) (.string X') false).run Tryz.prog W2.drew=.ok (.int .i64 (r:Nat)) W2.drew:=hr0;have hxx:(X.toList==X'.toList)=decide (X.data.toList=X'.data.toList):=by rw[Lib.toList_data,Lib.toList_data];exact Bool.eq_iff_iff.2 (by simp)
 obtain⟨q,hq⟩:∃q,decide (X.data.toList=X'.data.toList)=q:=⟨_,rfl⟩;rw[hq]at hxx
 have hres:decide (l=r/\(0<l\/X.data.toList=X'.data.toList))=(decide (l=r) &&(decide (0<l)||q)):=by rw[Bool.decide_and,Bool.decide_or,hq]
 rw[hres]
 have HP2:=hidE (hp2.keep (w':=W2.drew) (λ_ _=>rfl));have LB:Hid (Below w.heap.size w W2.drew):=hidE lb2.drew;have SOF:Hid (W2.drew.cell? ⟨w.heap.size,1,none⟩=some (.string X)/\W2.drew.cell? ⟨w.heap.size+1,1,none⟩=some (.string X')/\W2.drew.cell? ⟨pb,0,none⟩=some (.map (some lb))/\W2.drew.cell? ⟨pb,1,none⟩=some (.map (some rb))):=hidE ⟨p1,q1,z0,z1⟩;clear hp hp2 l0 l1 ls lb2 hl hr hq hres hX hX';by_cases hlr:l=r
 ·subst hlr
  have e1:decide (l=l)=true:=by simp
  rw[e1,Bool.true_and]
  by_cases h0:l=0
  ·subst h0
   rw[show(decide (0<0)||q)=q by simp]
   clear e1;cases q
   all_goals
    go_enter_defers Tryz.func60,Tryz.ntmps60
    go_wp2_with fail
    go_region_held3 (λW=>W.cell? ⟨w.heap.size,1,none⟩=some (.string X)/\W.cell? ⟨w.heap.size+1,1,none⟩=some (.string X')/\W.cell? ⟨pb,0,none⟩=some (.map (some lb))/\W.cell? ⟨pb,1,none⟩=some (.map (some rb))) (first|(with_reducible exact SOF.out)) ((fail))
    all_goals
     go_wp2_with fail
     refine⟨_,results_tmp rfl _ _ _,rfl,HP2.out,Chg.of_below LB.out⟩
  ·have hpos:(0:Int)<(l:Int):=by omega
   rw[show(decide (0<l)||q)=true by rw[decide_eq_true (by omega)];rfl]
   clear e1 h0;go_enter_defers Tryz.func60,Tryz.ntmps60
   go_wp2_with fail
   go_region_held3 (λW=>W.cell? ⟨w.heap.size,1,none⟩=some (.string X)/\W.cell? ⟨w.heap.size+1,1,none⟩=some (.string X')/\W.cell? ⟨pb,0,none⟩=some (.map (some lb))/\W.cell? ⟨pb,1,none⟩=some (.map (some rb))) (first|(with_reducible exact SOF.out)) ((fail))
   all_goals
    go_wp2_with fail
    refine⟨_,results_tmp rfl _ _ _,rfl,HP2.out,Chg.of_below LB.out⟩
 ·have e1:decide (l=r)=false:=by simp[hlr]
  rw[e1,Bool.false_and]
  have hne:((l:Int) ==(r:Int))=false:=kF l r hlr;clear e1 hlr;go_enter_defers Tryz.func60,Tryz.ntmps60
  go_wp2_with fail
  go_region_held3 (λW=>W.cell? ⟨w.heap.size,1,none⟩=some (.string X)/\W.cell? ⟨w.heap.size+1,1,none⟩=some (.string X')/\W.cell? ⟨pb,0,none⟩=some (.map (some lb))/\W.cell? ⟨pb,1,none⟩=some (.map (some rb))) (first|(with_reducible exact SOF.out)) ((fail))
  all_goals
   go_wp2_with fail
   refine⟨_,results_tmp rfl _ _ _,rfl,HP2.out,Chg.of_below LB.out⟩
end Go.Proofs.YtfafilmklhnngaaGreatDoor
namespace Go.Proofs.YtfafilmklhnngaaGreatDoor
open Go.RowKit Lx Tx Go.Maps Go.WideMaps Go.Shelf
set_option maxRecDepth 100000
structure TwoOK (pb lb rb:Nat) (t u:Ty) (el er:List (Name × Nat)) (m:Nat) (S Su:Nat->Prop) (w:World):Prop where
 pi:PairI pb lb rb el er m w
 s:∀g,S g->g<w.heap.size/\¬PM pb lb rb g
 su:∀g,Su g->g<w.heap.size/\¬PM pb lb rb g
 nt:Nm t
 nu:Nm u
 l1:el.length+t.size<=500000000
 l2:er.length+t.size<=500000000
 l3:m+t.size<=1000000000
theorem zjO(n pb lb rb:Nat)(HC:zer n pb lb rb)(cn dn:Name)(l r:List Ty)(el er:List (Name × Nat))(mt:Nat)(S Su:Nat->Prop)(v uv:Value)(w:World)(hn:(Ty.con cn l).size<=n+1)(h6:n<=100000000)(H:TwoOK pb lb rb (.con cn l) (.con dn r) el er mt S Su w)(hv:RdV S w (.con cn l) v)(hu:RdV Su w (.con dn r) uv)(hlr:l.length=r.length):Calls Tryz.prog 60 #[.pointer (some ⟨pb,0,none⟩),v,uv] w (SPst pb lb rb el er (smT el er (.con cn l) (.con dn r) mt) w):=by
 obtain⟨K,X,Z,A,m,c,rfl,hK,hX,-,hm,ha⟩:=hv.parts;obtain⟨K',X',Z',A',m',c',rfl,hK',hX',-,hm',ha'⟩:=hu.parts;obtain rfl:m=m':=by have h1:l.length=m:=hm;have h2:r.length=m':=hm';omega
 obtain rfl:K=3:=hK;obtain rfl:K'=3:=hK';obtain⟨l0,l1,ls,lb2⟩:=za2 w (.cells #[.int .i64 3,.string X,.int .i64 Z,.slice A m c] 37) (.cells #[.int .i64 3,.string X',.int .i64 Z',.slice A' m c'] 37);obtain⟨W2,hW2⟩:∃W,(w.alloc (.cells #[.int .i64 3,.string X,.int .i64 Z,.slice A m c] 37)).alloc (.cells #[.int .i64 3,.string X',.int .i64 Z',.slice A' m c'] 37)=W:=⟨_,rfl⟩;rw[hW2]at l0 l1 ls lb2
 obtain⟨p0,p1,p2,p3,-⟩:=zaa (show Blk W2 w.heap.size 37 _ from l0);obtain⟨q0,q1,q2,q3,-⟩:=zaa (show Blk W2 (w.heap.size+1) 37 _ from l1);have hsk:(Ty.con cn l).size=zah l+1:=by rw[zas];rfl
 have hcall:=zdk n pb lb rb HC (.con cn l) (.con dn r) el er mt S Su _ _ W2 hn h6 (H.pi.below lb2) (hv.keep (λ_ h=>h) (λg hg=>lb2.block g (H.s g hg).1)) (hu.keep (λ_ h=>h) (λg hg=>lb2.block g (H.su g hg).1))
  (λg hg=>⟨by have:=(H.s g hg).1;omega,(H.s g hg).2⟩) (λg hg=>⟨by have:=(H.su g hg).1;omega,(H.su g hg).2⟩) H.nt H.nu (by have:=H.l1;show el.length+zah l<=_;omega) (by have:=H.l2;show er.length+zah l<=_;omega) (by have:=H.l3;show mt+zah l<=_;omega) hlr
 have HP2:=hidE (H.pi.below lb2);have LB:=hidE lb2;rw[zoL el er cn dn l r mt hlr]
 have hxx:(X.toList==X'.toList)=decide (cn=dn):=by
  rw[Lib.toList_data,Lib.toList_data,hX,hX']
  exact Bool.eq_iff_iff.2 (by simp[nmB])
 have HCALL:Hid (Calls Tryz.prog 104 #[.pointer (some ⟨pb,0,none⟩),.agg #[.int .i64 3,.string X,.int .i64 Z,.slice A m c],.agg #[.int .i64 3,.string X',.int .i64 Z',.slice A' m c']] W2 (SPst pb lb rb el er (smL el er l r mt) W2)):=hidE hcall;clear hv hu hX hX' hm hm' ha ha' l0 l1 ls lb2 hcall hsk H hn hlr;by_cases hc:cn=dn
 ·rw[if_pos hc]
  rw[decide_eq_true hc]at hxx
  obtain⟨⟨q,z⟩,hqz⟩:∃p,smL el er l r mt=p:=⟨_,rfl⟩;rw[hqz]at HCALL ⊢
  clear hc hqz;go_enter_defers Tryz.func60,Tryz.ntmps60
  go_wp2_with fail
  refine HCALL.out.mono ?_;rintro e w5 ⟨rfl,hp5,c5⟩;have HP5:=hidE hp5;have C5:=hidE c5;clear hp5 c5 HCALL;cases q
  all_goals
   go_wp2_with fail
   refine⟨_,results_tmp rfl _ _ _,rfl,HP5.out,(Chg.of_below LB.out).trans' C5.out (λ_ _ h=>h)⟩
 ·rw[if_neg hc]
  rw[decide_eq_false hc]at hxx
  clear hc HCALL;go_enter_defers Tryz.func60,Tryz.ntmps60
  go_wp2_with fail
  refine⟨_,results_tmp rfl _ _ _,rfl,HP2.out,Chg.of_below LB.out⟩
theorem zk5(n pb lb rb:Nat)(HC:zer n pb lb rb)(a b a' b':Ty)(el er:List (Name × Nat))(mt:Nat)(S Su:Nat->Prop)(v uv:Value)(w:World)(hn:(Ty.fn a b).size<=n+1)(h6:n<=100000000)(H:TwoOK pb lb rb (.fn a b) (.fn a' b') el er mt S Su w)(hv:RdV S w (.fn a b) v)(hu:RdV Su w (.fn a' b') uv):Calls Tryz.prog 60 #[.pointer (some ⟨pb,0,none⟩),v,uv] w (SPst pb lb rb el er (smT el er (.fn a b) (.fn a' b') mt) w):=by
 obtain⟨K,X,Z,A,m,c,rfl,hK,-,-,hm,ha⟩:=hv.parts;obtain⟨K',X',Z',A',m',c',rfl,hK',-,-,hm',ha'⟩:=hu.parts;obtain rfl:m=2:=hm.symm;obtain rfl:m'=2:=hm'.symm;obtain rfl:K=4:=hK;obtain rfl:K'=4:=hK';obtain⟨l0,l1,ls,lb2⟩:=za2 w (.cells #[.int .i64 4,.string X,.int .i64 Z,.slice A 2 c] 37) (.cells #[.int .i64 4,.string X',.int .i64 Z',.slice A' 2 c'] 37);obtain⟨W2,hW2⟩:∃W,(w.alloc (.cells #[.int .i64 4,.string X,.int .i64 Z,.slice A 2 c] 37)).alloc (.cells #[.int .i64 4,.string X',.int .i64 Z',.slice A' 2 c'] 37)=W:=⟨_,rfl⟩;rw[hW2]at l0 l1 ls lb2
 obtain⟨p0,p1,p2,p3,-⟩:=zaa (show Blk W2 w.heap.size 37 _ from l0);obtain⟨q0,q1,q2,q3,-⟩:=zaa (show Blk W2 (w.heap.size+1) 37 _ from l1);have hsk:(Ty.fn a b).size=zah [a,b]+1:=by rw[zas];rfl
 have hcall:=zdk n pb lb rb HC (.fn a b) (.fn a' b') el er mt S Su _ _ W2 hn h6 (H.pi.below lb2) (hv.keep (λ_ h=>h) (λg hg=>lb2.block g (H.s g hg).1)) (hu.keep (λ_ h=>h) (λg hg=>lb2.block g (H.su g hg).1))
  (λg hg=>⟨by have:=(H.s g hg).1;omega,(H.s g hg).2⟩) (λg hg=>⟨by have:=(H.su g hg).1;omega,(H.su g hg).2⟩) H.nt H.nu (by have:=H.l1;show el.length+zah [a,b]<=_;omega) (by have:=H.l2;show er.length+zah [a,b]<=_;omega) (by have:=H.l3;show mt+zah [a,b]<=_;omega) rfl
 have LB:=hidE lb2;rw[zo6]
 have HCALL:Hid (Calls Tryz.prog 104 #[.pointer (some ⟨pb,0,none⟩),.agg #[.int .i64 4,.string X,.int .i64 Z,.slice A 2 c],.agg #[.int .i64 4,.string X',.int .i64 Z',.slice A' 2 c']] W2 (SPst pb lb rb el er (smL el er [a,b] [a',b'] mt) W2)):=hidE hcall;clear hv hu hm hm' ha ha' l0 l1 ls lb2 hcall hsk H hn;obtain⟨⟨q,z⟩,hqz⟩:∃p,smL el er [a,b] [a',b'] mt=p:=⟨_,rfl⟩;rw[hqz]at HCALL ⊢
 clear hqz;go_enter_defers Tryz.func60,Tryz.ntmps60
 go_wp2_with fail
 refine HCALL.out.mono ?_;rintro e w5 ⟨rfl,hp5,c5⟩;have HP5:=hidE hp5;have C5:=hidE c5;clear hp5 c5 HCALL;go_wp2_with fail
 refine⟨_,results_tmp rfl _ _ _,rfl,HP5.out,(Chg.of_below LB.out).trans' C5.out (λ_ _ h=>h)⟩
end Go.Proofs.YtfafilmklhnngaaGreatDoor
namespace Go.Proofs.YtfafilmklhnngaaGreatDoor
open Go.RowKit Lx Tx Go.Maps Go.WideMaps Go.Shelf
set_option maxRecDepth 100000
theorem zjP(n pb lb rb:Nat)(HC:zer n pb lb rb)(x y:Name)(t1 u1:Ty)(el er:List (Name × Nat))(mt:Nat)(S Su:Nat->Prop)(v uv:Value)(w:World)(hn:(Ty.all x t1).size<=n+1)(h6:n<=100000000)(H:TwoOK pb lb rb (.all x t1) (.all y u1) el er mt S Su w)(hv:RdV S w (.all x t1) v)(hu:RdV Su w (.all y u1) uv):Calls Tryz.prog 60 #[.pointer (some ⟨pb,0,none⟩),v,uv] w (SPst pb lb rb el er (smT el er (.all x t1) (.all y u1) mt) w):=by
 obtain⟨K,X,Z,A,m,c,rfl,hK,hX,-,hm,ha⟩:=hv.parts;obtain⟨K',X',Z',A',m',c',rfl,hK',hX',-,hm',ha'⟩:=hu.parts;obtain rfl:m=1:=hm.symm;obtain rfl:m'=1:=hm'.symm;obtain rfl:K=5:=hK;obtain rfl:K'=5:=hK';have hX24:X.size<=24:=by have:=zbh H.nt;rw[<-hX]at this;exact this
 have hX24':X'.size<=24:=by have:=zbh H.nu;rw[<-hX']at this;exact this
 have hxl:X.data.toList=x:=by rw[hX];rfl
 have hyl:X'.data.toList=y:=by rw[hX'];rfl
 obtain⟨l0,l1,ls,lb2⟩:=za2 w (.cells #[.int .i64 5,.string X,.int .i64 Z,.slice A 1 c] 37) (.cells #[.int .i64 5,.string X',.int .i64 Z',.slice A' 1 c'] 37);obtain⟨W2,hW2⟩:∃W,(w.alloc (.cells #[.int .i64 5,.string X,.int .i64 Z,.slice A 1 c] 37)).alloc (.cells #[.int .i64 5,.string X',.int .i64 Z',.slice A' 1 c'] 37)=W:=⟨_,rfl⟩;rw[hW2]at l0 l1 ls lb2
 have hp2:=H.pi.below lb2;have hsk:(Ty.all x t1).size=zah [t1]+1:=by rw[zas];rfl
 obtain⟨p0,p1,p2,p3,-⟩:=zaa (show Blk W2 w.heap.size 37 _ from l0);obtain⟨q0,q1,q2,q3,-⟩:=zaa (show Blk W2 (w.heap.size+1) 37 _ from l1);have z0:W2.cell? ⟨pb,2,none⟩=some (.int .i64 (mt:Nat)):=hp2.pr.cell 2;have z1:W2.frozen? ⟨pb,2,none⟩=false:=hp2.pr.frozen 2;have hmt:mt<=1000000000:=by have:=H.l3;omega
 obtain⟨W3,hW3⟩:∃W,W2.setCell ⟨pb,2,none⟩ (.int .i64 ((mt:Int)+1))=W:=⟨_,rfl⟩;have hpr3:Blk W3 pb 118 #[.map (some lb),.map (some rb),.int .i64 ((mt:Int)+1)]:=by rw[<-hW3];exact heap_setCell_same W2 pb 2 _ _ _ hp2.pr
 have hf3:∀q,q≠pb->W3.heap[q]?=W2.heap[q]?:=λq hq=>by rw[<-hW3];exact Below.heap_setCell W2 ⟨pb,2,none⟩ _ q hq
 have hs3:W3.heap.size=w.heap.size+2:=by rw[<-hW3];simp;exact ls
 have hltp:∀g,PM pb lb rb g->g<w.heap.size:=H.pi.lt;have hpbl:pb<w.heap.size:=hltp _ (.inl rfl);have hne:=H.pi.ne;have hle3:MapE mkInt W3.drew lb el:=(hp2.le.keep (hf3 _ hne.1.symm)).keep rfl;have hri3:MapE mkInt W3.drew rb er:=(hp2.ri.keep (hf3 _ hne.2.1.symm)).keep rfl;have hc3:Chg (PM pb lb rb) w W3.drew:=by rw[<-hW3];exact(((Chg.of_below lb2).setCell (p:=⟨pb,2,none⟩) (.inr (.inl rfl)) _)).drew
 have PB0:Hid (Blk W3.drew pb 118 #[.map (some lb),.map (some rb),.int .i64 ((mt:Int)+1)]):=hidE hpr3;have NB0:Hid (Blk W3.drew w.heap.size 37 #[.int .i64 5,.string X,.int .i64 Z,.slice A 1 c]):=hidE ((hf3 _ (by omega)).trans l0);have UB0:Hid (Blk W3.drew (w.heap.size+1) 37 #[.int .i64 5,.string X',.int .i64 Z',.slice A' 1 c']):=hidE ((hf3 _ (by omega)).trans l1);have SOF1:Hid (∀W:World,Blk W pb 118 #[.map (some lb),.map (some rb),.int .i64 ((mt:Int)+1)]->Blk W w.heap.size 37 #[.int .i64 5,.string X,.int .i64 Z,.slice A 1 c] ->
  W.cell? ⟨pb,0,none⟩=some (.map (some lb))/\W.cell? ⟨w.heap.size,1,none⟩=some (.string X)/\W.cell? ⟨pb,2,none⟩=some (.int .i64 ((mt:Int)+1))):=hidE λW h1 h2=>⟨h1.cell 0,h2.cell 1,h1.cell 2⟩
 have SOF2:Hid (∀W:World,Blk W pb 118 #[.map (some lb),.map (some rb),.int .i64 ((mt:Int)+1)]->Blk W (w.heap.size+1) 37 #[.int .i64 5,.string X',.int .i64 Z',.slice A' 1 c'] ->
  W.cell? ⟨pb,1,none⟩=some (.map (some rb))/\W.cell? ⟨w.heap.size+1,1,none⟩=some (.string X')/\W.cell? ⟨pb,2,none⟩=some (.int .i64 ((mt:Int)+1))):=hidE λW h1 h2=>⟨h1.cell 1,h2.cell 1,h1.cell 2⟩
 have hel:el.length<1000000000:=by have:=H.l1;omega
 have her:er.length<1000000000:=by have:=H.l2;omega
 have hXm:X.size<=maxLen:=by unfold maxLen;omega
 have hXm':X'.size<=maxLen:=by unfold maxLen;omega
 have HXm:=hidE hXm;have HXm':=hidE hXm';have HEL:=hidE hel;have HER:=hidE her;have HLE:=hidE hle3;have HRI:=hidE hri3;have HC3:=hidE hc3;have HV:=hidE hv;have HU:=hidE hu;have HH:=hidE H;have HNE:=hidE hne;have HXL:=hidE hxl;have HYL:=hidE hyl;have HSK:=hidE hsk;have HN:=hidE hn;have HLT:=hidE hltp;have hcanl:=hle3.canon;have hcanr:=hri3.canon;have HCL:=hidE hcanl;have HCR:=hidE hcanr;have hsD:W3.drew.heap.size=w.heap.size+2:=hs3;rw[zoM]
 obtain⟨⟨q,z⟩,hqz⟩:∃p,smL ((x,mt+1)::el) ((y,mt+1)::er) [t1] [u1] (mt+1)=p:=⟨_,rfl⟩;rw[hqz]
 have HQZ:=hidE hqz;clear hv hu hX hX' ha ha' l0 l1 ls lb2 hp2 hpr3 hf3 hle3 hri3 hc3 hxl hyl hqz hcanl hcanr H hsk hn hltp hm hm' hX24 hX24' hel her hXm hXm' hne;go_enter_defers Tryz.func60,Tryz.ntmps60
 go_wp2_with fail
 go_region_held3 (λW=>W.cell? ⟨pb,0,none⟩=some (.map (some lb))/\W.cell? ⟨w.heap.size,1,none⟩=some (.string X)/\W.cell? ⟨pb,2,none⟩=some (.int .i64 ((mt:Int)+1))) (first|(with_reducible exact SOF1.out _ PB0.out NB0.out)|(with_reducible exact SOF1.out _ PB1.out NB1.out))
  ((first|((with_reducible refine(ze6 lb el X (mt+1) ((mt:Int)+1) rfl W3.drew HLE.out HXm.out HEL.out).mono ?_);rintro e w4 ⟨rfl,cov4,mp4,c4⟩;unfold zfs;have PB1:=hidE (PB0.out.chg c4 (by have:=HNE.out;unfold only;omega));have NB1:=hidE (NB0.out.chg c4 (by have:=HLT.out lb (.inr (.inl rfl));unfold only;omega));have COV4:=hidE cov4;have MP4:=hidE mp4;have C4:=hidE c4;clear cov4 mp4 c4)))
 have hs4:=C4.out.size;rw[hsD]at hs4
 have hrbl:rb<w.heap.size:=HLT.out rb (.inr (.inr rfl));have hlbl:lb<w.heap.size:=HLT.out lb (.inr (.inl rfl));have PB1':Hid (Blk w4.drew pb 118 #[.map (some lb),.map (some rb),.int .i64 ((mt:Int)+1)]):=hidE PB1.out;have UB1':Hid (Blk w4.drew (w.heap.size+1) 37 #[.int .i64 5,.string X',.int .i64 Z',.slice A' 1 c']):=hidE (show Blk w4 _ _ _ from UB0.out.chg C4.out (by unfold only;omega));have RI4:Hid (MapE mkInt w4.drew rb er):=hidE ((HRI.out.keep (C4.out.block _ (by rw[hsD];omega) (by have:=HNE.out;unfold only;omega))).keep rfl);go_wp2_with fail
 go_region_held3 (λW=>W.cell? ⟨pb,1,none⟩=some (.map (some rb))/\W.cell? ⟨w.heap.size+1,1,none⟩=some (.string X')/\W.cell? ⟨pb,2,none⟩=some (.int .i64 ((mt:Int)+1))) (first|(with_reducible exact SOF2.out _ PB1'.out UB1'.out)|(with_reducible exact SOF2.out _ PB2.out UB2.out))
  ((first|((with_reducible refine(ze6 rb er X' (mt+1) ((mt:Int)+1) rfl w4.drew RI4.out HXm'.out HER.out).mono ?_);rintro e w5 ⟨rfl,cov5,mp5,c5⟩;unfold zfs;have PB2:=hidE (PB1'.out.chg c5 (by have:=HNE.out;unfold only;omega));have UB2:=hidE (UB1'.out.chg c5 (by unfold only;omega));have COV5:=hidE cov5;have MP5:=hidE mp5;have C5:=hidE c5;clear cov5 mp5 c5)))
 have hsD4:w4.drew.heap.size=w4.heap.size:=rfl;have hs5:=C5.out.size;rw[hsD4]at hs5
 have hbl5:∀g,g<w4.heap.size->g≠rb->w5.heap[g]?=w4.heap[g]?:=λg h1 h2=>C5.out.block g h1 h2;have hp5:PairI pb lb rb ((x,mt+1)::el) ((y,mt+1)::er) (mt+1) w5 :=
  ⟨PB2.out,by have:=MP4.out.keep (hbl5 lb (by omega) HNE.out.2.2);rw[HXL.out]at this;exact this,by have:=MP5.out;rw[HYL.out]at this;exact this,HNE.out⟩
 have hc5:Chg (PM pb lb rb) w w5:=(HC3.out.trans' C4.out (λg _ h=>.inr (.inl h))).trans' (b:=w4) ⟨C5.out.os,C5.out.tape,C5.out.output,C5.out.size,C5.out.block⟩ (λg _ h=>.inr (.inr h));have hl5:Blk w5 w.heap.size 37 #[.int .i64 5,.string X,.int .i64 Z,.slice A 1 c]:=(hbl5 _ (by omega) (by omega)).trans NB1.out;obtain⟨a0,a1,a2,a3,-⟩:=zaa hl5;obtain⟨b0,b1,b2,b3,-⟩:=zaa UB2.out;have hcall:=zdk n pb lb rb HC (.all x t1) (.all y u1) ((x,mt+1)::el) ((y,mt+1)::er) (mt+1) S Su _ _ w5 HN.out h6 hp5 (HV.out.keep (λ_ h=>h) (λg hg=>hc5.block g (HH.out.s g hg).1 (HH.out.s g hg).2)) (HU.out.keep (λ_ h=>h) (λg hg=>hc5.block g (HH.out.su g hg).1 (HH.out.su g hg).2))
  (λg hg=>⟨by have:=(HH.out.s g hg).1;omega,(HH.out.s g hg).2⟩) (λg hg=>⟨by have:=(HH.out.su g hg).1;omega,(HH.out.su g hg).2⟩) HH.out.nt HH.out.nu (by have:=HH.out.l1;have:=HSK.out;show el.length+1+zah [t1]<=_;omega) (by have:=HH.out.l2;have:=HSK.out;show er.length+1+zah [t1]<=_;omega) (by have:=HH.out.l3;have:=HSK.out;show mt+1+zah [t1]<=_;omega) rfl
 change Calls _ _ _ _ (SPst pb lb rb _ _ (smL ((x,mt+1)::el) ((y,mt+1)::er) [t1] [u1] (mt+1)) w5)at hcall
 rw[HQZ.out]at hcall
 have HCALL:=hidE hcall;have HC5:=hidE hc5;clear hcall hc5 hp5 hl5;go_wp2_with fail
 refine HCALL.out.mono ?_;rintro e w6 ⟨rfl,hp6,c6⟩;have hs6:=c6.size;have COV5':=hidE (COV5.out.keep (w':=w6) (λk h1 h2=>c6.block k (by have:=COV5.out.2.2.2.lt;rw[hsD4]at *;omega) (λh=>by have:=HLT.out k h;rw[hsD4]at *;omega)));have COV4':=hidE (COV4.out.keep (w':=w6) (λk h1 h2=>(c6.block k (by have:=COV4.out.2.2.2.lt;rw[hsD]at *;omega) (λh=>by have:=HLT.out k h;rw[hsD]at *;omega)).trans (hbl5 k (by have:=COV4.out.2.2.2.lt;rw[hsD]at *;omega) (by rw[hsD]at *;omega))));have hri6:=hp6.ri;have hle6:=hp6.le;rw[<-HYL.out]at hri6
 rw[<-HXL.out]at hle6
 have HP6:=hidE hp6;have C6:=hidE c6;have HRI6:=hidE hri6;have HLE6:=hidE hle6;clear hp6 c6 hri6 hle6 HCALL;go_wp2_with fail
 refine leaves_cons (f:=151) (args:=#[.pointer (some ⟨w4.heap.size+3,0,none⟩),.pointer (some ⟨w4.heap.size+2,0,none⟩),.pointer (some ⟨w4.heap.size,0,none⟩),.pointer (some ⟨w4.heap.size+1,0,none⟩)]) (by simp) (by simp[go_sem]) ?_;refine(zdP w4.heap.size rb er X' (mt+1) .returning w6 COV5'.out HRI6.out HCR.out HXm'.out HER.out).mono ?_;rintro e u' w7 ⟨rfl,rfl,m7,b7⟩;have hs7:=b7.size;refine leaves_cons (f:=151) (args:=#[.pointer (some ⟨W3.heap.size+3,0,none⟩),.pointer (some ⟨W3.heap.size+2,0,none⟩),.pointer (some ⟨W3.heap.size,0,none⟩),.pointer (some ⟨W3.heap.size+1,0,none⟩)]) (by simp[settle]) (by simp[go_sem]) ?_;refine(zdP W3.heap.size lb el X (mt+1) .returning w7 (COV4'.out.keep (λk h1 h2=>b7.block k (by have:=COV4'.out.2.2.2.lt;rw[hsD]at *;omega) (by rw[hsD]at *;unfold only;omega))) (HLE6.out.keep (b7.block _ HLE6.out.lt HNE.out.2.2)) HCL.out HXm.out HEL.out).mono ?_;rintro e u' w8 ⟨rfl,rfl,m8,b8⟩;have hs8:=b8.size;have hne:=HNE.out;refine⟨_,results_tmp rfl _ _ _,rfl,⟨?_,m8,m7.keep (b8.block _ m7.lt (by unfold only;omega)),hne⟩,?_⟩
 ·exact(HP6.out.pr.chg b7 (by unfold only;omega)).chg b8 (by unfold only;omega)
 ·exact((HC5.out.trans C6.out).trans' b7 (λg _ h=>.inr (.inr h))).trans' b8 (λg _ h=>.inr (.inl h))
set_option maxRecDepth 100000
theorem zn8(pb lb rb:Nat)(n:Nat):zer n pb lb rb:=by
 induction n with
 |zero=>intro t u el er m S Su v uv w hn;rw[zas]at hn;omega
 |succ n ih =>
  intro t u el er m S Su v uv w hn h6 hp hv hu hS hSu hnt hnu h1 h2 h3;have h6':n<=100000000:=by omega
  by_cases hk:kd t≠kd u\/(kids t).length≠(kids u).length
  ·obtain⟨K,X,Z,A,m1,c,rfl,hK,-,-,hm,-⟩:=hv.parts
   obtain⟨K',X',Z',A',m1',c',rfl,hK',-,-,hm',-⟩:=hu.parts;rw[zmL el er t u m hk]
   exact zjM pb lb rb el er m K K' Z Z' X X' A A' m1 m1' c c' w hp (by
    rcases hk with hk|hk
    ·left;rw[hK,hK'];exact λe=>hk (by omega)
    ·right;omega)
  ·have H:TwoOK pb lb rb t u el er m S Su w:=⟨hp,hS,hSu,hnt,hnu,h1,h2,h3⟩
   have hk1:kd t=kd u:=Decidable.byContradiction λe=>hk (.inl e);have hk2:(kids t).length=(kids u).length:=Decidable.byContradiction λe=>hk (.inr e);cases t with
   |var x =>
    cases u with
    |var y =>
     have hX:=zbh hnt;have hX':=zbh hnu;obtain⟨K,X,Z,A,m1,c,rfl,hK,hXX,-,hm,-⟩:=hv.parts;obtain⟨K',X',Z',A',m1',c',rfl,hK',hXX',-,hm',-⟩:=hu.parts;obtain rfl:K=1:=hK;obtain rfl:K'=1:=hK';obtain rfl:m1=m1':=by have e1:0=m1:=hm;have e2:0=m1':=hm';omega
     rw[zk3]
     have:=zjN pb lb rb el er m Z Z' X X' A A' m1 c c' w hp (by rw[hXX];exact hX) (by rw[hXX'];exact hX');rw[show X.data.toList=x by rw[hXX];rfl,show X'.data.toList=y by rw[hXX'];rfl]at this
     exact this
    |_=>simp[kd]at hk1
   |mt k =>
    cases u with
    |mt j =>
     obtain⟨K,X,Z,A,m1,c,rfl,hK,-,hZ,hm,-⟩:=hv.parts;obtain⟨K',X',Z',A',m1',c',rfl,hK',-,hZ',hm',-⟩:=hu.parts;obtain rfl:K=2:=hK;obtain rfl:K'=2:=hK';obtain rfl:m1=m1':=by have e1:0=m1:=hm;have e2:0=m1':=hm';omega
     rw[zny]
     have:=zk4 pb lb rb el er m Z Z' X X' A A' m1 c c' w hp;rw[show(Z==Z')=decide (k=j) by rw[hZ,hZ'];exact Bool.eq_iff_iff.2 (by simp[nn];omega)]at this
     exact this
    |_=>simp[kd]at hk1
   |con cn l =>
    cases u with
    |con dn r=>exact zjO n pb lb rb ih cn dn l r el er m S Su v uv w hn h6' H hv hu hk2
    |_=>simp[kd]at hk1
   |fn a b =>
    cases u with
    |fn a' b'=>exact zk5 n pb lb rb ih a b a' b' el er m S Su v uv w hn h6' H hv hu
    |_=>simp[kd]at hk1
   |all x t1 =>
    cases u with
    |all y u1=>exact zjP n pb lb rb ih x y t1 u1 el er m S Su v uv w hn h6' H hv hu
    |_=>simp[kd]at hk1
theorem zn9(t u:Ty)(S Su:Nat->Prop)(v uv:Value)(w:World)(hv:RdV S w t v)(hu:RdV Su w u uv)(hS:∀g,S g->g<w.heap.size)(hSu:∀g,Su g->g<w.heap.size)(hnt:Nm t)(hnu:Nm u)(hsz:t.size<=100000000):Calls Tryz.prog 22 #[v,uv] w λe w'=>e=.returned (.bool (smT [] [] t u 0).1)/\Below w.heap.size w w':=by
 obtain⟨K,X,Z,A,m,c,rfl,-,-,-,-,-⟩:=hv.parts;obtain⟨K',X',Z',A',m',c',rfl,-,-,-,-,-⟩:=hu.parts;have hmm:∀w,(Instr.makeMap 116 none).run Tryz.prog w=.ok (.map (some w.heap.size)) (w.alloc (.map #[] 0)):=λ_=>rfl;obtain⟨l0,l1,l2,l3,ls,lb⟩:=zeG w (.cells #[.int .i64 K,.string X,.int .i64 Z,.slice A m c] 37) (.cells #[.int .i64 K',.string X',.int .i64 Z',.slice A' m' c'] 37) (.map #[] 0) (.map #[] 0);obtain⟨W4,hW4⟩:∃W,(((w.alloc (.cells #[.int .i64 K,.string X,.int .i64 Z,.slice A m c] 37)).alloc (.cells #[.int .i64 K',.string X',.int .i64 Z',.slice A' m' c'] 37)).alloc (.map #[] 0)).alloc (.map #[] 0)=W:=⟨_,rfl⟩;rw[hW4]at l0 l1 l2 l3 ls lb
 have hal:Below W4.heap.size W4 (W4.alloc (.cells #[.map (some (w.heap.size+1+1)),.map (some (w.heap.size+1+1+1)),.int .i64 0] 118)):=(Below.refl _ W4).alloc (Nat.le_refl _) _;have hs5:=size_alloc W4 (.cells #[.map (some (w.heap.size+1+1)),.map (some (w.heap.size+1+1+1)),.int .i64 0] 118);have hpi:PairI (w.heap.size+4) (w.heap.size+1+1) (w.heap.size+1+1+1) [] [] 0 (W4.alloc (.cells #[.map (some (w.heap.size+1+1)),.map (some (w.heap.size+1+1+1)),.int .i64 0] 118)) :=
  ⟨by have:=heap_alloc_new W4 (.cells #[.map (some (w.heap.size+1+1)),.map (some (w.heap.size+1+1+1)),.int .i64 0] 118);rw[ls]at this;exact this,
   MapE.laid mkInt ((hal.block _ (by rw[ls];omega)).trans l2),MapE.laid mkInt ((hal.block _ (by rw[ls];omega)).trans l3),by omega⟩
 have hb5:Below w.heap.size w (W4.alloc (.cells #[.map (some (w.heap.size+1+1)),.map (some (w.heap.size+1+1+1)),.int .i64 0] 118)):=lb.trans (hal.mono (by omega));have hcall:=zn8 (w.heap.size+4) (w.heap.size+1+1) (w.heap.size+1+1+1) t.size t u [] [] 0 S Su _ _ _ (Nat.le_refl _) hsz hpi (hv.keep (λ_ h=>h) (λg hg=>hb5.block g (hS g hg))) (hu.keep (λ_ h=>h) (λg hg=>hb5.block g (hSu g hg)))
  (λg hg=>by have:=hS g hg;exact⟨by omega,λh=>by rcases h with h|h|h <;> omega⟩) (λg hg=>by have:=hSu g hg;exact⟨by omega,λh=>by rcases h with h|h|h <;> omega⟩) hnt hnu (by simp;omega) (by simp;omega) (by omega)
 have HCALL:=hidE hcall;have HB5:=hidE hb5;have LS:=hidE ls;obtain⟨p0,p1,p2,p3,-⟩:=zaa (show Blk W4 w.heap.size 37 _ from l0);obtain⟨q0,q1,q2,q3,-⟩:=zaa (show Blk W4 (w.heap.size+1) 37 _ from l1);obtain⟨⟨q,z⟩,hqz⟩:∃p,smT [] [] t u 0=p:=⟨_,rfl⟩;rw[hqz]at HCALL ⊢
 clear hv hu hS hSu hnt hnu l0 l1 l2 l3 lb hal hs5 hpi hb5 hcall hqz;go_enter Tryz.func22,Tryz.ntmps22
 go_wp2_with fail
 first
  |refine HCALL.out.mono ?_
  |(rw[LS.out];refine HCALL.out.mono ?_)
 rintro e w6 ⟨rfl,-,c6⟩;have HB6:=hidE (HB5.out.trans (c6.toBelow (B:=w.heap.size) (by have:=LS.out;simp;omega) (λk hk h=>by rcases h with h|h|h <;> omega)));clear c6 HCALL;go_wp2_with fail
 go_ret
 exact⟨rfl,HB6.out⟩
structure Twin (el er:List (Name × Nat)) (xs ys:List Name) (ns:List Nat) (m:Nat):Prop where
 hl:∀x,(look x el).getD 0=((idx x xs).map λi=>ns.getD i 0).getD 0
 hr:∀x,(look x er).getD 0=((idx x ys).map λi=>ns.getD i 0).getD 0
 lx:xs.length=ns.length
 ly:ys.length=ns.length
 nd:ns.Nodup
 po:∀n∈ns,0<n/\n<=m
theorem Twin.more {el er:List (Name × Nat)} {xs ys:List Name} {ns:List Nat} {m m':Nat}(h:Twin el er xs ys ns m)(hm:m<=m'):Twin el er xs ys ns m' :=
 {h with po:=λn hn=>⟨(h.po n hn).1,Nat.le_trans (h.po n hn).2 hm⟩ }
theorem zgI(el:List (Name × Nat))(xs:List Name)(ns:List Nat)(h:∀x,(look x el).getD 0=((idx x xs).map λi=>ns.getD i 0).getD 0)(x:Name)(k:Nat)(z:Name):(look z ((x,k)::el)).getD 0=((idx z (x::xs)).map λi=>(k::ns).getD i 0).getD 0:=by
 rw[look,idx]
 by_cases hz:x=z
 ·rw[if_pos hz,if_pos hz.symm];rfl
 ·rw[if_neg hz,if_neg (λe=>hz e.symm),h z]
  cases idx z xs <;> rfl
theorem Twin.cons {el er:List (Name × Nat)} {xs ys:List Name} {ns:List Nat} {m:Nat}(h:Twin el er xs ys ns m)(x y:Name):Twin ((x,m+1)::el) ((y,m+1)::er) (x::xs) (y::ys) ((m+1)::ns) (m+1) where
 hl:=zgI el xs ns h.hl x (m+1)
 hr:=zgI er ys ns h.hr y (m+1)
 lx:=by simp[h.lx]
 ly:=by simp[h.ly]
 nd:=by
  rw[List.nodup_cons]
  exact⟨λhm=>by have:=(h.po _ hm).2;omega,h.nd⟩
 po n hn:=by
  rcases List.mem_cons.1 hn with rfl|hn
  ·omega
  ·have:=h.po n hn;omega
theorem zjQ(l:List Nat)(h:l.Nodup)(i j:Nat)(hi:i<l.length)(hj:j<l.length)(e:l.getD i 0=l.getD j 0):i=j:=by
 induction l generalizing i j with
 |nil=>simp at hi
 |cons a r ih =>
  rw[List.nodup_cons]at h
  have key:∀q,q<r.length->r.getD q 0∈r:=λq hq=>by rw[List.getD_eq_getElem?_getD,List.getElem?_eq_getElem hq];exact List.getElem_mem hq
  cases i with
  |zero =>
   cases j with
   |zero=>rfl
   |succ j=>exact(h.1 (by rw[show a=r.getD j 0 from e];exact key j (by simpa using hj))).elim
  |succ i =>
   cases j with
   |zero=>exact(h.1 (by rw[show a=r.getD i 0 from e.symm];exact key i (by simpa using hi))).elim
   |succ j=>rw[ih h.2 i j (by simpa using hi) (by simpa using hj) e]
theorem zf9(xs:List Name):(l:List Ty)->(dbL xs l).length=l.length
 |[]=>by rw[dbL];rfl
 |t::r=>by rw[dbL,List.length_cons,List.length_cons,zf9 xs r]
mutual
theorem zfB:(t:Ty)->∀(u:Ty)(el er:List (Name × Nat))(xs ys:List Name)(ns:List Nat)(m:Nat),Twin el er xs ys ns m->((smT el er t u m).1=true↔db xs t=db ys u)
 |.var x,u,el,er,xs,ys,ns,m,h=>by
  cases u with
  |var y =>
   rw[zk3,db,db,h.hl,h.hr]
   show decide _=true↔_;rw[decide_eq_true_iff]
   cases hi:idx x xs with
   |none =>
    cases hj:idx y ys with
    |none=>simp
    |some j =>
     have hlt:=zfE y ys j hj;rw[h.ly]at hlt
     have hp:=(h.po (ns.getD j 0) (by rw[List.getD_eq_getElem?_getD,List.getElem?_eq_getElem hlt];exact List.getElem_mem hlt)).1;show(0=ns.getD j 0/\(0<0\/x=y))↔Dt.fv x=Dt.bv j;constructor
     ·rintro⟨e,_⟩;omega
     ·intro e;cases e
   |some i =>
    have hlti:=zfE x xs i hi;rw[h.lx]at hlti
    have hpi:=(h.po (ns.getD i 0) (by rw[List.getD_eq_getElem?_getD,List.getElem?_eq_getElem hlti];exact List.getElem_mem hlti)).1;cases hj:idx y ys with
    |none =>
     show(ns.getD i 0=0/\(0<ns.getD i 0\/x=y))↔Dt.bv i=Dt.fv y;constructor
     ·rintro⟨e,_⟩;omega
     ·intro e;cases e
    |some j =>
     have hlt:=zfE y ys j hj;rw[h.ly]at hlt
     show(ns.getD i 0=ns.getD j 0/\(0<ns.getD i 0\/x=y))↔Dt.bv i=Dt.bv j;constructor
     ·rintro⟨e,_⟩
      rw[zjQ ns h.nd i j hlti hlt e]
     ·intro e
      injection e with e;subst e;exact⟨rfl,.inl hpi⟩
  |mt k=>simp only[smT,db];cases idx x xs <;> simp
  |con c l=>simp only[smT,db];cases idx x xs <;> simp
  |fn a b=>simp only[smT,db];cases idx x xs <;> simp
  |all y s=>simp only[smT,db];cases idx x xs <;> simp
 |.mt n,u,el,er,xs,ys,ns,m,h=>by
  cases u with
  |mt k=>rw[zny,db,db];simp
  |var y=>simp only[smT,db];cases idx y ys <;> simp
  |con c l=>simp[smT,db]
  |fn a b=>simp[smT,db]
  |all y s=>simp[smT,db]
 |.con c l,u,el,er,xs,ys,ns,m,h=>by
  cases u with
  |con d r =>
   rw[smT,db,db]
   by_cases hc:l.length=r.length/\c=d
   ·rw[if_pos hc,zk6 l r el er xs ys ns m h hc.1,hc.2]
    constructor
    ·intro e;rw[e]
    ·intro e;injection e
   ·rw[if_neg hc]
    constructor
    ·intro e;cases e
    ·intro e
     injection e with e1 e2;refine(hc ⟨?_,e1⟩).elim;have:=congrArg List.length e2;rwa [zf9,zf9]at this
  |var y=>simp only[smT,db];cases idx y ys <;> simp
  |mt k=>simp[smT,db]
  |fn a b=>simp[smT,db]
  |all y s=>simp[smT,db]
 |.fn a b,u,el,er,xs,ys,ns,m,h=>by
  cases u with
  |fn a' b' =>
   rw[smT,db,db]
   have h1:=zfB a a' el er xs ys ns m h;have hm:=(zdu a el er a' m).1;have h2:=zfB b b' el er xs ys ns (smT el er a a' m).2 (h.more hm);by_cases hq:(smT el er a a' m).1=true
   ·rw[if_pos hq,h2,h1.1 hq]
    constructor
    ·intro e;rw[e]
    ·intro e;injection e
   ·rw[if_neg hq]
    constructor
    ·intro e;cases e
    ·intro e;injection e with e1 _;exact(hq (h1.2 e1)).elim
  |var y=>simp only[smT,db];cases idx y ys <;> simp
  |mt k=>simp[smT,db]
  |con c l=>simp[smT,db]
  |all y s=>simp[smT,db]
 |.all x t,u,el,er,xs,ys,ns,m,h=>by
  cases u with
  |all y s =>
   rw[smT,db,db,zfB t s _ _ (x::xs) (y::ys) ((m+1)::ns) (m+1) (h.cons x y)]
   constructor
   ·intro e;rw[e]
   ·intro e;injection e
  |var y=>simp only[smT,db];cases idx y ys <;> simp
  |mt k=>simp[smT,db]
  |con c l=>simp[smT,db]
  |fn a b=>simp[smT,db]
theorem zk6:(l:List Ty)->∀(r:List Ty)(el er:List (Name × Nat))(xs ys:List Name)(ns:List Nat)(m:Nat),Twin el er xs ys ns m->l.length=r.length->((smL el er l r m).1=true↔dbL xs l=dbL ys r)
 |[],r,el,er,xs,ys,ns,m,h,hl=>by
  cases r with
  |nil=>simp[smL,dbL]
  |cons b r=>simp at hl
 |a::l,r,el,er,xs,ys,ns,m,h,hl=>by
  cases r with
  |nil=>simp at hl
  |cons b r =>
   rw[smL,dbL,dbL]
   have h1:=zfB a b el er xs ys ns m h;have hm:=(zdu a el er b m).1;have h2:=zk6 l r el er xs ys ns (smT el er a b m).2 (h.more hm) (by simpa using hl);by_cases hq:(smT el er a b m).1=true
   ·rw[if_pos hq,h2,h1.1 hq]
    constructor
    ·intro e;rw[e]
    ·intro e;injection e
   ·rw[if_neg hq]
    constructor
    ·intro e;cases e
    ·intro e;injection e with e1 _;exact(hq (h1.2 e1)).elim
end
theorem same_iff(t u:Ty):(smT [] [] t u 0).1=true↔db [] t=db [] u :=
 zfB t u [] [] [] [] [] 0 ⟨λ_=>rfl,λ_=>rfl,rfl,rfl,List.nodup_nil,λ_ h=>(List.not_mem_nil h).elim⟩
end Go.Proofs.YtfafilmklhnngaaGreatDoor
