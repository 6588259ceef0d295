import Derived.Test.YtfafilmklhnngaaGreatDoorBsAE
import Derived.Deep.CutRange
set_option maxHeartbeats 12800000
set_option maxRecDepth 100000
namespace Go.Proofs.YtfafilmklhnngaaGreatDoor
open Tryz
section
open Go.RowKit Lx Tx Go.Maps Go.WideMaps Go.Shelf
def Pt(w:World)(pb mb kl:Nat)(cl:Array Value)(vc vn:Value):Prop:=ar w pb 180 #[FL kl cl,.map (some mb),vc,vn]
section
variable {σ:Type}
def PI(kl:Nat)(cl:Array Value)(I:Nat->σ->World->Prop)(M Su:Nat->Prop)(place:Ty->Option Ty):Prop :=
 ∀(c:Nat) (s:σ) (t:Ty) (S:Nat->Prop) (v:Value) (w:World),I c s w->nc S w t v->(∀g,S g->g<w.heap.size)->kd t=1\/kd t=2->Nm t ->
  Calls prog kl (#[v]++cl) w λe w'=>∃k x z a m p q,e=.returned (.tuple #[.agg #[.int .i64 k,.string x,.int .i64 z,.slice a m p],.bool q])/\(q=true->∃u,place t=some u/\nc Su w' u (.agg #[.int .i64 k,.string x,.int .i64 z,.slice a m p]))/\(q=false->place t=none)/\I c s w'/\b_ M w w'
def IW(place:Ty->Option Ty)(t:Ty):Ty:=(place t).getD t
def O6(I:Nat->σ->World->Prop)(M Su:Nat->Prop)(place:Ty->Option Ty)(t:Ty)(c:Nat)(s:σ)(W0:World)(b:Nat)(q:Bool)(wx:World):Prop :=
 ∃k x z a m p,ar wx b 37 #[.int .i64 k,.string x,.int .i64 z,.slice a m p]/\W0.heap.size<=b/\(q=true->∃u,place t=some u/\nc Su wx u (.agg #[.int .i64 k,.string x,.int .i64 z,.slice a m p]))/\(q=false->place t=none)/\I c s wx/\b_ M W0 wx
theorem zom {I:Nat->σ->World->Prop} {K M Su:Nat->Prop} {place:Ty->Option Ty} {t:Ty} {c:Nat} {s:σ} {W0 W w1:World} {q:Bool} {k z:Int} {x:ByteArray} {a:Option Addr} {m p:Nat}(hI:Gt I K)(aO:∀g,Su g->K g)(h0:Below W0.heap.size W0 W)(c1:b_ M W w1)(hi:I c s w1)
  (h1:q=true->∃u,place t=some u/\nc Su w1 u (.agg #[.int .i64 k,.string x,.int .i64 z,.slice a m p]))(h2:q=false->place t=none):O6 I M Su place t c s W0 w1.heap.size q (w1.alloc (.cells #[.int .i64 k,.string x,.int .i64 z,.slice a m p] 37)):=by
 have af:=hI.lt _ _ _ hi;refine⟨k,x,z,a,m,p,BZ _ _,Cm h0.size c1.size,λh=>?_,h2,hI.al _ _ _ _ hi (by simp) (λg hg=>BX _ _ _ (af g hg)),((b_.c_ h0).trans c1).alloc _⟩;obtain⟨u,e1,e2⟩:=h1 h;exact⟨u,e1,e2.al (λ_ h=>h) (λg hg=>BX _ _ _ (af g (aO g hg)))⟩
theorem zon {I:Nat->σ->World->Prop} {K M Su:Nat->Prop} {place:Ty->Option Ty} {t:Ty} {c:Nat} {s:σ} {W0 W w1:World} {q:Bool} {k z:Int} {x:ByteArray} {a:Option Addr} {m p g:Nat}(hI:Gt I K)(aO:∀g,Su g->K g)(hK:∀g,K g->g<W0.heap.size)(hg:W0.heap.size<=g)(h0:Below W0.heap.size W0 W)(c1:b_ M W w1)(hi:I c s w1)
  (hz:ar w1 g 37 #[.int .i64 0,.string ⟨#[]⟩,.int .i64 0,.slice none 0 0])
  (h1:q=true->∃u,place t=some u/\nc Su w1 u (.agg #[.int .i64 k,.string x,.int .i64 z,.slice a m p]))(h2:q=false->place t=none):O6 I M Su place t c s W0 g q ((((w1.setCell ⟨g,0,none⟩ (.int .i64 k)).setCell ⟨g,1,none⟩ (.string x)).setCell ⟨g,2,none⟩ (.int .i64 z)).setCell ⟨g,3,none⟩ (.slice a m p)):=by
 refine⟨k,x,z,a,m,p,Fh _ _ _ _ hz,hg,λh=>?_,h2,hI.al _ _ _ _ hi (by simp) (λg' jN=>G3 _ _ _ _ _ _ _ (by have:=hK g' jN;omega)),((b_.c_ h0).trans c1).C_ _ _ _ _ hg⟩;obtain⟨u,e1,e2⟩:=h1 h;exact⟨u,e1,e2.al (λ_ h=>h) (λg' jN=>G3 _ _ _ _ _ _ _ (by have:=hK g' (aO g' jN);omega))⟩
end
theorem zrk {σ:Type}(bind:Name->σ->Name × σ)(leaf:Ty->Ty)(env:List (Name × Name))(t:Ty)(s:σ)(h:kd t=1\/kd t=2):iF bind leaf env t s=(if kd t=1 then((look (ER t).data.toList env).map Ty.var).getD (leaf t) else leaf t,s):=by
 cases t with
 |var x=>rw[iF];exact Cp (λz=>(z,s)) (Ch (show kd (Ty.var x)=1 from rfl)).symm
 |mt n=>rw[iF];exact Cp (λz=>(z,s)) (Cg (show ¬kd (Ty.mt n)=1 by simp[kd])).symm
 |h_ d l=>simp[kd]at h
 |fn a b=>simp[kd]at h
 |all x t=>simp[kd]at h
theorem Vw {σ:Type} {mb:Nat} {I:Nat->σ->World->Prop} {K M Su:Nat->Prop} {env:List (Name × Name)} {c:Nat} {O:Ty × σ} {w V:World} {g:Nat} {k z:Int} {x:ByteArray} {a:Option Addr} {m p:Nat}(hI:Gt I K)(aO:∀g,Su g->K g)(af:∀g,K g->g<w.heap.size)(hg:w.heap.size<=g)(bI:mb<w.heap.size)
  (hi:I c O.2 V)(hm:iT FE V mb env)(hc:b_ M w V)(hr:nc Su V O.1 (.agg #[.int .i64 k,.string x,.int .i64 z,.slice a m p])):Je mb I M Su env c O w (.returned (.agg #[.int .i64 k,.string x,.int .i64 z,.slice a m p])) ((((V.setCell ⟨g,0,none⟩ (.int .i64 k)).setCell ⟨g,1,none⟩ (.string x)).setCell ⟨g,2,none⟩ (.int .i64 z)).setCell ⟨g,3,none⟩ (.slice a m p)):=by
 have hf:∀q,q<w.heap.size->((((V.setCell ⟨g,0,none⟩ (.int .i64 k)).setCell ⟨g,1,none⟩ (.string x)).setCell ⟨g,2,none⟩ (.int .i64 z)).setCell ⟨g,3,none⟩ (.slice a m p)).heap[q]?=V.heap[q]?:=λq hq=>G3 _ _ _ _ _ _ _ (by omega);exact⟨k,x,z,a,m,p,rfl,hr.al (λ_ h=>.inl h) (λq hq=>hf q (af q (aO q hq))),hI.al _ _ _ _ hi (by simp) (λq hq=>hf q (af q hq)),hm.al (hf mb bI),(hc.C_ _ _ _ _ hg).mono (λ_ _ h=>.inl h)⟩
set_option maxRecDepth 2000 in
theorem zqt {σ:Type}(pb mb kl:Nat)(cl:Array Value)(vc vn:Value)(I:Nat->σ->World->Prop)(K M Su:Nat->Prop)(bind:Name->σ->Name × σ)(place:Ty->Option Ty)(hI:Gt I K)(aY:∀g,M g->K g)(aO:∀g,Su g->K g)(bI:¬K mb)
  (j7:K pb)(oz:¬M pb)(oy:∀c s w,I c s w->Pt w pb mb kl cl vc vn)(el:∀args w,(callFunc kl args).run prog w=.ok (.enter kl args) w)(HP:PI kl cl I M Su place)
  (c:Nat)(s:σ)(env:List (Name × Name))(t:Ty)(S:Nat->Prop)(v:Value)(w:World)(eA:kd t=1\/kd t=2)(hi:I c s w)(hm:iT FE w mb env)(hv:nc S w t v)(hS:∀g,S g->g<w.heap.size)(aw:Nm t):Calls prog 150 #[.pointer (some ⟨pb,0,none⟩),v] w (Je mb I M Su env c (iF bind (IW place) env t s) w):=by
 obtain⟨k,X,Z,A,m,cp,rfl,hk,hX,hZ,cG,-⟩:=hv.parts;obtain⟨l0,l1,ls,lb⟩:=IC w (.cells #[.int .i64 k,.string X,.int .i64 Z,.slice A m cp] 37) (.cells #[.int .i64 0,.string ⟨#[]⟩,.int .i64 0,.slice none 0 0] 37);have bA:X.size<=maxLen:=by
  have:(ER t).size<=24:=by
   rcases eA with h|h
   ·cases t with
    |var x=>exact J4 aw
    |_=>simp[kd]at h
   ·cases t with
    |mt n=>exact Cw _
    |_=>simp[kd]at h
  rw[<-hX]at this;unfold maxLen;omega
 have dK:=hm.lt;have af:=hI.lt c s w hi;have mR:=hI.al c s w _ hi lb.size (λg hg=>lb.block g (af g hg));have dj:=oy c s _ mR;have bL:=hm.al (lb.block _ dK);obtain⟨W0,hW⟩:∃W,(w.alloc (.cells #[.int .i64 k,.string X,.int .i64 Z,.slice A m cp] 37)).alloc (.cells #[.int .i64 0,.string ⟨#[]⟩,.int .i64 0,.slice none 0 0] 37)=W:=⟨_,rfl⟩;rw[hW]at l0 l1 ls lb mR dj bL;obtain⟨K5,X5,q5,mE,q6⟩:∃K5 X5 q5,(look X.data.toList env).isSome=q5/\(FE.J7 (look X.data.toList env)=.agg #[.int .i64 K5,.string X5,.int .i64 0,.slice none 0 0]/\∀y,look X.data.toList env=some y->K5=1/\X5=⟨y.toArray⟩):=by
  cases look X.data.toList env with
  |none=>exact⟨0,⟨#[]⟩,false,rfl,rfl,λy h=>by cases h⟩
  |some y=>exact⟨1,⟨y.toArray⟩,true,rfl,rfl,λz h=>by injection h with h;rw[h];exact⟨rfl,rfl⟩⟩
 obtain⟨q6,yY⟩:=q6;have bh:Hid (∀W,Below W0.heap.size W0 W->(λW=>W.cell? ⟨pb,1,none⟩=some (.map (some mb))/\W.cell? ⟨w.heap.size,1,none⟩=some (.string X)/\(Instr.lookup 160 (.map (some mb)) (.string X) true).run prog W=.ok (.tuple #[.agg #[.int .i64 K5,.string X5,.int .i64 0,.slice none 0 0],.bool q5]) W) W):=EP λW h=>by
  have h1:=(bL.al (h.block mb bL.lt)).He X bA;rw[q6,mE]at h1;exact⟨(h.cell (p:=⟨pb,1,none⟩) dj.lt).trans (ar.cell dj 1),(h.cell (p:=⟨w.heap.size,1,none⟩) (by show w.heap.size<_;omega)).trans (ar.cell l0 1),h1⟩
 have XM:Hid (∀W,Below W0.heap.size W0 W->(λW=>W.cell? ⟨pb,0,none⟩=some (FL kl cl)/\W.cell? ⟨w.heap.size,0,none⟩=some (.int .i64 k)/\W.cell? ⟨w.heap.size,1,none⟩=some (.string X)/\W.cell? ⟨w.heap.size,2,none⟩=some (.int .i64 Z)/\W.cell? ⟨w.heap.size,3,none⟩=some (.slice A m cp)) W):=EP λW h =>
  ⟨(h.cell (p:=⟨pb,0,none⟩) dj.lt).trans (ar.cell dj 0),(h.cell (p:=⟨w.heap.size,0,none⟩) (by show w.heap.size<_;omega)).trans (ar.cell l0 0),(h.cell (p:=⟨w.heap.size,1,none⟩) (by show w.heap.size<_;omega)).trans (ar.cell l0 1),(h.cell (p:=⟨w.heap.size,2,none⟩) (by show w.heap.size<_;omega)).trans (ar.cell l0 2),(h.cell (p:=⟨w.heap.size,3,none⟩) (by show w.heap.size<_;omega)).trans (ar.cell l0 3)⟩
 have cO:=hI.lt c s W0 mR;have fg:=hv.al (S':=S) (w':=W0) (λ_ h=>h) (λg hg=>lb.block g (hS g hg));have F1:=EP (λW (h:Below W0.heap.size W0 W)=>HP c s t S _ W (hI.al _ _ _ _ mR h.size (λg hg=>h.block g (cO g hg))) (fg.al (S':=S) (λ_ h=>h) (λg hg=>h.block g (by have:=hS g hg;omega))) (λg hg=>by have:=hS g hg;have:=h.size;omega) eA aw);have B0:Hid (Below W0.heap.size W0 W0.drew):=EP (Cc _ W0).drew;obtain⟨O,hO⟩:∃O,iF bind (IW place) env t s=O:=⟨_,rfl⟩;rw[hO];have HO:=EP hO;have HW:=EP hW;have L0:=EP l0;have L1:=EP l1;have LS:=EP ls;have LB:=EP lb;have Ut:=EP mR;have HM:=EP hm;have fo:=EP bL;have rX:=EP cO;have au:=EP af;have nU:=EP dK;have HV:=EP hv;have HS:=EP hS;have HK:=EP hk;have HX:=EP hX;have HZ:=EP hZ;have eT:=EP cG;have Bd:=EP mE;have vK:=EP yY;have Bq:=EP eA;have qh:pb≠W0.heap.size:=by have:=dj.lt;omega
 clear hi hm hv hS aw af l0 l1 ls lb mR dj bL cO fg hk hX hZ cG mE q6 yY eA hO bA dK;go_in;go_upto_region 1 with fail;clear hW;go_cut [5,6] from 9 (λs5 s6 wx=>s6=.bool q5/\Hid (∃b,s5=.pointer (some ⟨b,0,none⟩)/\ar wx b 37 #[.int .i64 K5,.string X5,.int .i64 0,.slice none 0 0]/\W0.heap.size<=b/\Below W0.heap.size W0 wx))
 case first =>
  go_region_held3 (λW=>W.cell? ⟨pb,1,none⟩=some (.map (some mb))/\W.cell? ⟨w.heap.size,1,none⟩=some (.string X)/\(Instr.lookup 160 (.map (some mb)) (.string X) true).run prog W=.ok (.tuple #[.agg #[.int .i64 K5,.string X5,.int .i64 0,.slice none 0 0],.bool q5]) W)
   (first|(with_reducible exact bh.o _ B0.o)|(refine bh.o _ ?_;repeat first|exact Cc _ _|(refine Below.alloc ?_ (by first|omega|(simp;done)|(simp;omega)) _)|(refine Below.drew ?_)))
   (fail)
  all_goals
   go_wp2_with fail;go_meet
   case rel=>exact⟨rfl,EP ⟨_,rfl,BZ _ _,BU _,((Cc _ W0).alloc (BU _) _).drew⟩⟩
 case rest =>
  rename World=>V1;obtain⟨rfl,Xn⟩:=hcut;obtain⟨b,rfl,aq,Zu,av⟩:=Xn.o;have qI:=av.size;have sh:=LS.o;have h0:=L0.o;have h1:=L1.o;have z3:ar V1 w.heap.size 37 #[.int .i64 k,.string X,.int .i64 Z,.slice A m cp]:=ar.below h0 av (by omega);have z4:ar V1 (w.heap.size+1) 37 #[.int .i64 0,.string ⟨#[]⟩,.int .i64 0,.slice none 0 0]:=ar.below h1 av (by omega);obtain⟨x0,x1,x2,x3,-,-,-,-,-⟩:=n_ z3;obtain⟨y0,y1,y2,y3,y4,y5,y6,y7,y8⟩:=n_ z4;obtain⟨p0,p1,p2,p3,-,-,-,-,-⟩:=n_ aq;have Z3:=EP z3;have Z4:=EP z4;have BK:=EP aq;have BLE:=EP Zu;have bc:=EP av;have Um:=EP (HO.o.symm.trans (zrk bind (IW place) env t s Bq.o));by_cases hA:kd t=1/\q5=true
  ·obtain⟨aU,rfl⟩:=hA
   have d1:((k:Int)==1)=true:=by rw[HK.o,aU];rfl
   obtain⟨y,hy⟩:=Option.isSome_iff_exists.1 Bd.o;obtain⟨rfl,rfl⟩:=vK.o y hy;have yF:O=(.var y,s):=by
    rw[Um.o,Ch aU,<-HX.o,hy];rfl
   have pP:=EP yF;clear Xn aq av z3 z4 Um yF aU hy vK Bd;go_wp2_with fail;try simp only[Exit.inBlock,Exit.then]
   refine Ce (CW rfl _ _ (w.heap.size+1) 37 _ (0,0) _ rfl (Fh (.int .i64 1) (.string ⟨y.toArray⟩) (.int .i64 0) (.slice none 0 0) Z4.o) underlying37 rfl (by kernel_rfl)) rfl ?_;exact Vw hI aO au.o (DZ _) nU.o (by rw[pP.o];exact hI.al _ _ _ _ Ut.o bc.o.size (λg hg=>bc.o.block g (rX.o g hg))) (fo.o.al (bc.o.block mb fo.o.lt)) (b_.c_ (LB.o.trans (bc.o.mono (by omega)))) (by rw[pP.o];exact⟨none,0,rfl,trivial⟩)
  ·have yF:O=(IW place t,s):=by
    rw[Um.o];by_cases aU:kd t=1
    ·rw[Ch aU]
     have hq0:q5=false:=by
      cases q5 with
      |true=>exact absurd ⟨aU,rfl⟩ hA
      |false=>rfl
     rw[hq0]at Bd;have sw:=Bd.o;rw[Option.isSome_eq_false_iff,Option.isNone_iff_eq_none]at sw;rw[<-HX.o,sw];rfl
    ·rw[Cg aU]
   have dq:(kd t=1/\q5=false)\/((k:Int)==1)=false:=by
    by_cases aU:kd t=1
    ·left
     cases q5 with
     |true=>exact absurd ⟨aU,rfl⟩ hA
     |false=>exact⟨aU,rfl⟩
    ·right
     rw[HK.o];exact kF _ 1 aU
   have pP:=EP yF;have HDQ:=EP dq;have BD:Hid (Below W0.heap.size W0 V1.drew):=EP bc.o.drew;have BA:Hid (Below W0.heap.size W0 (V1.alloc (.cells #[.int .i64 0,.string ⟨#[]⟩,.int .i64 0,.slice none 0 0] 37)).drew):=EP (bc.o.alloc qI _).drew;have wY:Hid (∀W':World,(∀g,g=pb\/g=w.heap.size->W'.heap[g]?=W0.heap[g]?)->(λW=>W.cell? ⟨pb,0,none⟩=some (FL kl cl)/\W.cell? ⟨w.heap.size,0,none⟩=some (.int .i64 k)/\W.cell? ⟨w.heap.size,1,none⟩=some (.string X)/\W.cell? ⟨w.heap.size,2,none⟩=some (.int .i64 Z)/\W.cell? ⟨w.heap.size,3,none⟩=some (.slice A m cp)) W'):=EP λW' h=>by
    obtain⟨t0,t1,t2,t3,t4⟩:=XM.o W0 (Cc _ _);exact⟨(Ck (w:=W0) (a:=⟨pb,0,none⟩) (h pb (.inl rfl))).trans t0,(Ck (w:=W0) (a:=⟨w.heap.size,0,none⟩) (h w.heap.size (.inr rfl))).trans t1,(Ck (w:=W0) (a:=⟨w.heap.size,1,none⟩) (h w.heap.size (.inr rfl))).trans t2,(Ck (w:=W0) (a:=⟨w.heap.size,2,none⟩) (h w.heap.size (.inr rfl))).trans t3,(Ck (w:=W0) (a:=⟨w.heap.size,3,none⟩) (h w.heap.size (.inr rfl))).trans t4⟩
   have GP:Hid (∀g,g=pb\/g=w.heap.size->g<W0.heap.size/\¬M g):=EP λg hg=>by
    rcases hg with rfl|rfl
    ·exact⟨rX.o _ j7,oz⟩
    ·exact⟨by omega,λh=>by have:=au.o _ (aY _ h);omega⟩
   obtain⟨g0,g1,g2,g3,g4⟩:=XM.o V1 av;clear Xn aq av z3 z4 Um yF hA vK Bd dq;go_upto_region 2 with fail
   go_cut [24] from 19 (λs24 wx=>s24=.bool false/\wx=V1)
   case first =>
    rcases HDQ.o with⟨-,rfl⟩|dk
    ·go_wp2_with fail
     go_meet
     case rel=>exact⟨rfl,rfl⟩
    ·cases q5 with
     |false =>
      go_wp2_with fail;go_meet
      case rel=>exact⟨rfl,rfl⟩
     |true =>
      go_wp2_with fail;go_meet
      case rel=>exact⟨rfl,rfl⟩
   case rest =>
    obtain⟨rfl,xQ⟩:=hcut;rw[xQ];clear xQ p0 p1 p2 p3 x0 x1 x2 x3 y0 y1 y2 y3 y4 y5 y6 y7 y8;unfold FL at wY g0;go_upto_region 4 with fail
    go_cut [7,8] from 26 (λs7 s8 wx=>Hid (∃b q,s7=.pointer (some ⟨b,0,none⟩)/\s8=.bool q/\O6 I M Su place t c s W0 b q wx))
    case first =>
     go_region_held3 (λW=>W.cell? ⟨pb,0,none⟩=some (.func (.func kl) #[] cl)/\W.cell? ⟨w.heap.size,0,none⟩=some (.int .i64 k)/\W.cell? ⟨w.heap.size,1,none⟩=some (.string X)/\W.cell? ⟨w.heap.size,2,none⟩=some (.int .i64 Z)/\W.cell? ⟨w.heap.size,3,none⟩=some (.slice A m cp))
      (first|(exact⟨g0,g1,g2,g3,g4⟩)|(exact wY.o _ UC.o)|(exact wY.o _ (λg hg=>(BX _ _ _ (GL1.o g hg)).trans (UC.o g hg)))|(exact wY.o _ (λg hg=>(G3 _ _ _ _ _ _ _ (GN1.o g hg)).trans (UC.o g hg)))|(exact wY.o _ (λg hg=>(BX _ _ _ (by have:=(GP.o g hg).1;omega)).trans (bc.o.block g (GP.o g hg).1))))
      ((first
       |((with_reducible refine(F1.o _ BD.o).mono ?_);rintro e w1 ⟨k',x',z',a',m',p',q',rfl,h1,h2,cf,c1⟩;have H1:=EP h1;have H2:=EP h2;have fH:=EP cf;have C1:=EP c1;have UC:Hid (∀g,g=pb\/g=w.heap.size->w1.heap[g]?=W0.heap[g]?):=EP (λg hg=>(C1.o.block g (Ci (GP.o g hg).1 BD.o.size) (GP.o g hg).2).trans (BD.o.block g (GP.o g hg).1));have GL1:Hid (∀g,g=pb\/g=w.heap.size->g<w1.heap.size):=EP (λg hg=>Ci (GP.o g hg).1 (Cm BD.o.size C1.o.size));clear h1 h2 cf c1)
       |((with_reducible refine(F1.o _ BA.o).mono ?_);rintro e w1 ⟨k',x',z',a',m',p',q',rfl,h1,h2,cf,c1⟩;have H1:=EP h1;have H2:=EP h2;have fH:=EP cf;have C1:=EP c1;have UC:Hid (∀g,g=pb\/g=w.heap.size->w1.heap[g]?=W0.heap[g]?):=EP (λg hg=>(C1.o.block g (Ci (GP.o g hg).1 BA.o.size) (GP.o g hg).2).trans (BA.o.block g (GP.o g hg).1));have GN1:Hid (∀g,g=pb\/g=w.heap.size->g≠V1.heap.size):=EP (λg hg=>by have:=(GP.o g hg).1;omega);have hz:ar w1 V1.heap.size 37 #[.int .i64 0,.string ⟨#[]⟩,.int .i64 0,.slice none 0 0]:=ar.iF (BZ V1 _) (w:=(V1.alloc (.cells #[.int .i64 0,.string ⟨#[]⟩,.int .i64 0,.slice none 0 0] 37)).drew) c1 (λh=>by have:=rX.o _ (aY _ h);omega);obtain⟨y0,y1,y2,y3,y4,y5,y6,y7,y8⟩:=n_ hz;have HZ1:=EP hz;clear h1 h2 cf c1 hz)))
     all_goals
      go_wp2_with fail;go_meet
      case rel=>first
       |(have sf:=HZ1.o;exact EP ⟨_,_,rfl,rfl,zon hI aO rX.o qI BA.o C1.o fH.o sf H1.o H2.o⟩)
       |exact EP ⟨_,_,rfl,rfl,zom hI aO BD.o C1.o fH.o H1.o H2.o⟩
    case rest =>
     obtain⟨b7,q7,rfl,rfl,k7,x7,z7,a7,m7,p7,fk,ar2,iC,fw,hi7,kP⟩:=hcut.o;have sA:¬M w.heap.size:=λh=>by have:=au.o _ (aY _ h);omega
     have hn4:¬M (w.heap.size+1):=λh=>by have:=au.o _ (aY _ h);omega
     have w3:=ar.iF h0 kP sA;have w4:=ar.iF h1 kP hn4;have sD:=fo.o.al (kP.block mb fo.o.lt (λh=>bI (aY _ h)));have sQ:b_ M w wc:=(b_.c_ LB.o).trans' kP (λ_ _ h=>h);obtain⟨x0,x1,x2,x3,-,-,-,-,-⟩:=n_ w3;obtain⟨y0,y1,y2,y3,y4,y5,y6,y7,y8⟩:=n_ w4;obtain⟨p0,p1,p2,p3,-,-,-,-,-⟩:=n_ fk;have W4:=EP w4;have Bi:=EP sD;have HC7:=EP sQ;have HI7:=EP hi7;have Yn:=EP iC;have Ym:=EP fw;clear hcut fk iC fw hi7 kP w3 w4 sD sQ F1 wY XM bh g0 g1 g2 g3 g4;cases q7 with
     |true =>
      obtain⟨u,tG,tF⟩:=Yn.o rfl;have kA:O=(u,s):=by rw[pP.o];unfold IW;rw[tG];rfl
      have iN:=EP kA;have HU2:=EP tF;clear tG tF kA;go_wp2_with fail;try simp only[Exit.inBlock,Exit.then]
      refine Ce (CW rfl _ _ (w.heap.size+1) 37 _ (0,0) _ rfl (Fh (.int .i64 k7) (.string x7) (.int .i64 z7) (.slice a7 m7 p7) W4.o) underlying37 rfl (by kernel_rfl)) rfl ?_;exact Vw hI aO au.o (DZ _) nU.o (by rw[iN.o];exact HI7.o) Bi.o HC7.o (by rw[iN.o];exact HU2.o)
     |false =>
      have hn:=Ym.o rfl;have kA:O=(t,s):=by rw[pP.o];unfold IW;rw[hn];rfl
      have iN:=EP kA;clear hn kA;go_wp2_with fail;try simp only[Exit.inBlock,Exit.then]
      refine Ce (CW rfl _ _ (w.heap.size+1) 37 _ (0,0) _ rfl (Fh (.int .i64 k) (.string X) (.int .i64 Z) (.slice A m cp) W4.o) underlying37 rfl (by kernel_rfl)) rfl ?_;exact Vw hI aO au.o (DZ _) nU.o (by rw[iN.o];exact HI7.o) Bi.o HC7.o (by rw[iN.o];exact zji HV.o Bq.o)
section
variable {σ:Type}
def UK(n pb mb:Nat)(I:Nat->σ->World->Prop)(M Su:Nat->Prop)(bind:Name->σ->Name × σ)(leaf:Ty->Ty)(G:Ty->Prop):Prop :=
 ∀(c:Nat) (s:σ) (env:List (Name × Name)) (t:Ty) (S:Nat->Prop) (v:Value) (w:World),G t->t.size<=n->n<=1000000000000 ->
  I c s w->iT FE w mb env->nc S w t v->(∀g,S g->g<w.heap.size/\¬M g/\g≠mb)->Nm t->c+t.E7<=10000000->env.length+t.size<=50000000000000 ->
  Calls prog 103 #[.pointer (some ⟨pb,0,none⟩),v] w (Je mb I M Su env (c+t.E7) (iF bind leaf env t s) w)
end
theorem zgI {σ:Type}(pb mb kl:Nat)(cl:Array Value)(vc vn:Value)(I:Nat->σ->World->Prop)(K M Su:Nat->Prop)(bind:Name->σ->Name × σ)(place:Ty->Option Ty)(hI:Gt I K)(aY:∀g,M g->K g)(aO:∀g,Su g->K g)(bI:¬K mb)
  (j7:K pb)(oz:¬M pb)(oy:∀c s w,I c s w->Pt w pb mb kl cl vc vn)(el:∀args w,(callFunc kl args).run prog w=.ok (.enter kl args) w)(HP:PI kl cl I M Su place)
  (c:Nat)(s:σ)(env:List (Name × Name))(t:Ty)(S:Nat->Prop)(v:Value)(w:World)(eA:kd t=1\/kd t=2)(hi:I c s w)(hm:iT FE w mb env)(hv:nc S w t v)(hS:∀g,S g->g<w.heap.size)(aw:Nm t):Calls prog 103 #[.pointer (some ⟨pb,0,none⟩),v] w (Je mb I M Su env (c+t.E7) (iF bind (IW place) env t s) w):=by
 obtain⟨k,X,Z,A,m,cp,rfl,hk,-,-,-,-⟩:=hv.parts;have af:=hI.lt c s w hi;have dK:=hm.lt;obtain⟨-,k1,ks,bl⟩:=IC w (.cells #[.int .i64 k,.string X,.int .i64 Z,.slice A m cp] 37) (.cells #[.int .i64 0,.string ⟨#[]⟩,.int .i64 0,.slice none 0 0] 37);have ak:=EP (zqt pb mb kl cl vc vn I K M Su bind place hI aY aO bI j7 oz oy el HP c s env t S _ _ eA (hI.al _ _ _ _ hi bl.size (λg hg=>bl.block g (af g hg))) (hm.al (bl.block _ dK)) (hv.al (S':=S) (λ_ h=>h) (λg hg=>bl.block g (hS g hg))) (λg hg=>by have:=hS g hg;omega) aw);obtain⟨O,hO⟩:∃O,iF bind (IW place) env t s=O:=⟨_,rfl⟩;rw[hO]at ak ⊢;have K1:=EP k1;have KS:=EP ks;have KB:=EP bl;have au:=EP af;have nU:=EP dK;clear hi hm hv hS aw k1 ks bl af dK hO;have d12:((k:Int)==1)=true\/(((k:Int)==1)=false/\((k:Int)==2)=true):=by
  rcases eA with h|h
  ·left;rw[hk,h];rfl
  ·right;rw[hk,h];exact⟨rfl,rfl⟩
 clear hk eA;rcases d12 with d1|⟨d1,d2⟩;all_goals
  go_enter_defers func103,ntmps103
  go_wp2_with fail;refine ak.o.mono ?_;rintro e w1 ⟨k',x',z',a',m',p',rfl,hr,cf,aT,c1⟩;have iY:¬(M (w.heap.size+1)\/w.heap.size+1=mb):=λh=>by
   rcases h with h|h
   ·have:=au.o _ (aY _ h);omega
   ·have:=nU.o;omega
  have av:=ar.iF K1.o c1 iY;obtain⟨q0,q1,q2,q3,t0,t1,t2,t3,dp⟩:=n_ av;have HR:=EP hr;have fH:=EP cf;have dP:=EP aT;have C1:=EP c1;have bc:=EP av;have aH:=c1.size;clear hr cf aT c1 av ak;go_wp2_with fail;have hb:=Fh (.int .i64 k') (.string x') (.int .i64 z') (.slice a' m' p') bc.o;have hf:∀g,g≠w.heap.size+1->((((w1.setCell ⟨w.heap.size+1,0,none⟩ (.int .i64 k')).setCell ⟨w.heap.size+1,1,none⟩ (.string x')).setCell ⟨w.heap.size+1,2,none⟩ (.int .i64 z')).setCell ⟨w.heap.size+1,3,none⟩ (.slice a' m' p')).heap[g]?=w1.heap[g]?:=λg hg=>G3 _ _ _ _ _ _ _ hg;have aA:((((w1.setCell ⟨w.heap.size+1,0,none⟩ (.int .i64 k')).setCell ⟨w.heap.size+1,1,none⟩ (.string x')).setCell ⟨w.heap.size+1,2,none⟩ (.int .i64 z')).setCell ⟨w.heap.size+1,3,none⟩ (.slice a' m' p')).heap.size=w1.heap.size:=by simp
  have hks:=KS.o;refine⟨_,CW rfl _ _ (w.heap.size+1) 37 _ (0,0) _ rfl hb underlying37 rfl (by kernel_rfl),k',x',z',a',m',p',rfl,?_,?_,?_,?_⟩
  ·refine HR.o.al (λq hq=>?_) (λq hq=>hf q ?_)
   ·rcases hq with hq|⟨h1,h2⟩
    ·exact .inl hq
    ·exact .inr ⟨by omega,by rw[aA];exact h2⟩
   ·rcases hq with hq|⟨h1,h2⟩
    ·have:=au.o q (aO q hq);omega
    ·omega
  ·exact hI.mono _ _ _ _ (hI.al _ _ _ _ fH.o (DD aA.symm) (λg hg=>hf g (by have:=au.o g hg;omega))) (by omega)
  ·exact dP.o.al (hf mb (by have:=nU.o;omega))
  ·exact((b_.c_ KB.o).trans' C1.o (λg _ h=>h)).C_ _ _ _ _ (by omega)
end
section
open Go.RowKit Lx Tx Go.Maps Go.WideMaps Go.Shelf
set_option maxRecDepth 100000
theorem zhK {σ:Type}(n pb mb:Nat)(I:Nat->σ->World->Prop)(K M Su:Nat->Prop)(bind:Name->σ->Name × σ)(leaf:Ty->Ty)(hI:Gt I K)(aY:∀g,M g->K g)(aO:∀g,Su g->K g/\¬M g)(bI:¬K mb)
  (G:Ty->Prop)(gC:∀t,G t->∀u∈kids t,G u)(HC:UK n pb mb I M Su bind leaf G)
  (c:Nat)(s:σ)(env:List (Name × Name))(t:Ty)(XB:G t)(S:Nat->Prop)(v:Value)(w:World)(gL:kd t=3\/kd t=4)(hn:t.size<=n+1)(h6:n<1000000000000)
  (hi:I c s w)(hm:iT FE w mb env)(hv:nc S w t v)(hS:∀g,S g->g<w.heap.size/\¬M g/\g≠mb)(aw:Nm t)(hc:c+t.E7<=10000000)(hlen:env.length+t.size<=50000000000000):Calls prog 103 #[.pointer (some ⟨pb,0,none⟩),v] w (Je mb I M Su env (c+t.E7) (iF bind leaf env t s) w):=by
 obtain⟨k,X,Z,A,m,cp,rfl,hk,hX,hZ,cG,ha⟩:=hv.parts;have lI:q_ (kids t)+1=t.size:=by rw[Gv t]
 have Xh:t.E7=C' (kids t):=by rw[Sr t,Cg (by omega),Nat.add_zero]
 have dI:m<=n:=by have:=LF t;omega
 have d1:((k:Int)==1)=false:=by rw[hk];exact kF _ 1 (by omega)
 have d2:((k:Int)==2)=false:=by rw[hk];exact kF _ 2 (by omega)
 have d5:((k:Int)==5)=false:=by rw[hk];exact kF _ 5 (by omega)
 obtain⟨vs,oe,od,jY,di,og⟩:=SI ha cG;obtain⟨-,-,ls,lb⟩:=IC w (.cells #[.int .i64 k,.string X,.int .i64 Z,.slice A m cp] 37) (.cells #[.int .i64 0,.string ⟨#[]⟩,.int .i64 0,.slice none 0 0] 37);obtain⟨l0,l1,-,-⟩:=IC w (.cells #[.int .i64 k,.string X,.int .i64 Z,.slice A m cp] 37) (.cells #[.int .i64 0,.string ⟨#[]⟩,.int .i64 0,.slice none 0 0] 37);have dN:=Ss A m cp vs ((w.alloc (.cells #[.int .i64 k,.string X,.int .i64 Z,.slice A m cp] 37)).alloc (.cells #[.int .i64 0,.string ⟨#[]⟩,.int .i64 0,.slice none 0 0] 37)) jY oe
  (λad nJ w' hw j u hu=>og ad nJ w' (λq hq=>(hw.block q (by have:=hS q hq;omega)).trans (lb.block q (hS q hq).1)) j u hu) di (by omega)
 rw[ls]at dN;obtain⟨bm,cD,gZ,dT,cW⟩:=zkH bind leaf env t s gL;have bW:=EP bm;have dY:=EP cD;have nA:=EP gZ;have iM:=EP dT;have ei:=EP cW;have HK:=EP hk;have HX:=EP hX;have HZ:=EP hZ;have eT:=EP cG;have HS:=EP hS;have HI:=EP hi;have HM:=EP hm;have au:=EP (hI.lt c s w hi);have ej:Hid (∀i (hi:i<(kids t).length),Nm (kids t)[i]):=EP λi hi=>Mc aw i hi;have jh:=EP dN;have pI:=EP od;have L0:=EP l0;have L1:=EP l1;have LB:=EP lb;have rG:=EP ls;have dK:=hm.lt;clear bm cD gZ dT cW hk hX hZ cG hS hi hm aw dN oe od jY di og l0 l1 ls lb hv ha gL;go_enter_defers func103,ntmps103
 go_wp2_with fail;refine jh.o.mono ?_;rintro e w3 ⟨A3,c3,rfl,aj,a8⟩;have dy:w.heap.size+2<=w3.heap.size:=Cm (DD rG.o.symm) a8.size;have aB:=ar.below L0.o a8 (by omega);have av:=ar.below L1.o a8 (by omega);have aI:=LB.o.trans (a8.mono (by omega));obtain⟨g3,fL,aE⟩:=SP (R:=λk=>Su k\/(w3.heap.size<=k/\k<w3.heap.size)) aj (pI.o.al (λ_ h=>h) (λq hq=>aI.block q (HS.o q hq).1));obtain⟨p0,p1,p2,p3,s0,s1,s2,s3,dp⟩:=n_ aB;have cK:=EP aB;have bc:=EP av;have jk:=EP aI;have eG:=EP aE;clear aj aB av aI aE a8 jh pI;go_wp2_with fail;have fp:ar (w3.setCell ⟨w.heap.size,3,none⟩ (.slice A3 m c3)) w.heap.size 37 #[.int .i64 k,.string X,.int .i64 Z,.slice A3 m c3]:=Cl _ w.heap.size 3 _ _ (.slice A3 m c3) cK.o;have dT:ar (w3.setCell ⟨w.heap.size,3,none⟩ (.slice A3 m c3)) (w.heap.size+1) 37 #[.int .i64 0,.string ⟨#[]⟩,.int .i64 0,.slice none 0 0]:=bc.o.I8 (p:=⟨w.heap.size,3,none⟩) (Em _) _;have dz:(w3.setCell ⟨w.heap.size,3,none⟩ (.slice A3 m c3)).heap.size=w3.heap.size:=by simp
 have fi:∀q,q<w.heap.size->(w3.setCell ⟨w.heap.size,3,none⟩ (.slice A3 m c3)).heap[q]?=w.heap[q]?:=λq hq=>(B8 w3 ⟨w.heap.size,3,none⟩ _ q (by show q≠w.heap.size;omega)).trans (jk.o.block q hq);have eR:b_ (λk=>M k\/k=mb) w (w3.setCell ⟨w.heap.size,3,none⟩ (.slice A3 m c3)):=(b_.c_ jk.o).setCell (p:=⟨w.heap.size,3,none⟩) (.inl (BU _)) _;have lR:=hI.al c s w _ HI.o (by rw[dz];exact jk.o.size) (λq hq=>fi q (au.o q hq));have lN:=HM.o.al (fi mb dK);have jf:=EP fp;have lg:=EP dT;have YD:=EP fi;have iO:=EP eR;have vO:=EP lR;have rW:=EP lN;have gD:=EP dz;have rr:=jk.o.size;have et:Hid (0<m->A3=some ⟨g3,0,none⟩/\F3 (λk=>Su k\/(w3.heap.size<=k/\k<(w3.setCell ⟨w.heap.size,3,none⟩ (.slice A3 m c3)).heap.size)) S (w3.setCell ⟨w.heap.size,3,none⟩ (.slice A3 m c3)) (kids t) [] g3 0):=EP λh0=>by
  obtain⟨x1,x2⟩:=eG.o h0;refine⟨x1,x2.al (λq hq=>by rw[dz];exact hq) (λq hq=>B8 w3 ⟨w.heap.size,3,none⟩ _ q ?_) (by rw[dz];exact BU _)⟩;show q≠w.heap.size;rcases hq with(hq|hq)|hq|hq
  ·have:=au.o q (aO q hq).1;omega
  ·omega
  ·have:=(HS.o q hq).1;omega
  ·omega
 clear fp dT fi eR lR lN dz p0 p1 p2 p3 s0 s1 s2 s3;go_loopg [55] m (λgg vi wr=>Fx mb I M Su S bind leaf env (kids t) c s w3.heap.size g3 m (w3.setCell ⟨w.heap.size,3,none⟩ (.slice A3 m c3)) gg vi wr);case atStart =>
  exact⟨0,by omega,rfl,Cw _,by rw[CK,C',D_];exact vO.o,rW.o,λh0=>by rw[CK,D_];exact(et.o h0).2,b_.refl _ _⟩
 case round =>
  obtain⟨i,rfl,rfl,hi,i1,gX,ot,c1⟩:=hrel;have I1:=EP i1;have gq:=EP gX;have pL:=EP ot;have C1:=EP c1;have fI:=c1.size;rw[gD.o]at fI;have fh:∀q,w.heap.size<=q->q<w.heap.size+2->wr.heap[q]? =(w3.setCell ⟨w.heap.size,3,none⟩ (.slice A3 m c3)).heap[q]?:=λq h1 h2=>c1.block q (by rw[gD.o];omega) (λh=>by
   rcases h with h|h|h
   ·have:=au.o q (aY q h);omega
   ·omega
   ·omega)
  have BN:=EP (jf.o.same (fh _ (BU _) (by omega)));have BR:=EP (lg.o.same (fh _ (by omega) (by omega)));clear i1 gX ot c1 fh;by_cases af:i<m
  ·obtain⟨rfl,eN⟩:=et.o (by omega)
   have kL:=eN.lt;rw[gD.o]at kL;clear eN;have aW:=pL.o (by omega);have bP:i<(kids t).length:=by rw[eT.o];exact af
   obtain⟨A1,q1,h4,eD⟩:=aW.GD i bP (BU _);have bT:=ej.o i bP;have zo:=gC t XB _ (CS bP);have ft:(kids t).take (i+1)=(kids t).take i++[(kids t)[i]]:=CV bP;have fu:=OE (kids t) i (kids t)[i] ⟨bP,rfl⟩;have oo:=OA (kids t) (i+1);have fC:=SQ (kids t) i (kids t)[i] ⟨bP,rfl⟩;have uG:=Tc (kids t) (i+1);obtain⟨u,hu⟩:∃u,(kids t)[i]=u:=⟨_,rfl⟩;rw[hu]at h4 eD bT ft fu fC zo;have dD:u.size<=n:=by omega
   have aG:nc S wr u (.agg #[.int .i64 (kd u:Nat),.string (ER u),.int .i64 (nn u:Nat),.slice A1 (kids u).length q1]):=⟨A1,q1,rfl,eD⟩;obtain⟨e0,e1,e2,e3⟩:=h4;obtain⟨K1,fM⟩:∃K1:Int,((kd u:Nat):Int)=K1:=⟨_,rfl⟩;obtain⟨X1,kU⟩:∃X1,ER u=X1:=⟨_,rfl⟩;obtain⟨Z1,py⟩:∃Z1:Int,((nn u:Nat):Int)=Z1:=⟨_,rfl⟩;obtain⟨n1,iY⟩:∃n1,(kids u).length=n1:=⟨_,rfl⟩;rw[fM]at e0 aG;rw[kU]at e1 aG;rw[py]at e2 aG;rw[iY]at e3 aG;have eF:=EP ft;have pJ:=EP fC;have ah:=HC (c+C' ((kids t).take i)) (D_ bind leaf env ((kids t).take i) s).2 env u S _ ((wr.alloc (.cells #[.int .i64 K1,.string X1,.int .i64 Z1,.slice A1 n1 q1] 37)).drew) zo dD (by omega)
    (hI.al _ _ _ _ I1.o (by show wr.heap.size<=(wr.alloc _).heap.size;simp) (λg hg=>BX wr _ g (hI.lt _ _ _ I1.o g hg))) (gq.o.al (BX wr _ mb gq.o.lt)) (aG.al (λ_ h=>h) (λg hg=>BX wr _ g (by have:=(HS.o g hg).1;omega)))
    (λg hg=>⟨by show g<(wr.alloc _).heap.size;have:=(HS.o g hg).1;simp;omega,(HS.o g hg).2⟩) bT (by omega) (by omega)
   have ak:=EP ah;have gR:Hid (ar ((wr.alloc (.cells #[.int .i64 K1,.string X1,.int .i64 Z1,.slice A1 n1 q1] 37)).drew) w.heap.size 37 #[.int .i64 k,.string X,.int .i64 Z,.slice (some ⟨g3,0,none⟩) m c3]):=EP (ar.alloc BN.o _);have lZ:Hid (ar ((wr.alloc (.cells #[.int .i64 K1,.string X1,.int .i64 Z1,.slice A1 n1 q1] 37)).drew) wr.heap.size 37 #[.int .i64 K1,.string X1,.int .i64 Z1,.slice A1 n1 q1]):=EP (BZ wr _);have bh:Hid (∀W:World,ar W w.heap.size 37 #[.int .i64 k,.string X,.int .i64 Z,.slice (some ⟨g3,0,none⟩) m c3]->ar W wr.heap.size 37 #[.int .i64 K1,.string X1,.int .i64 Z1,.slice A1 n1 q1] ->
    W.cell? ⟨w.heap.size,3,none⟩=some (.slice (some ⟨g3,0,none⟩) m c3)/\W.cell? ⟨wr.heap.size,0,none⟩=some (.int .i64 K1)/\W.cell? ⟨wr.heap.size,1,none⟩=some (.string X1)/\W.cell? ⟨wr.heap.size,2,none⟩=some (.int .i64 Z1)/\W.cell? ⟨wr.heap.size,3,none⟩=some (.slice A1 n1 q1)) :=
    EP λW h1 h2=>⟨h1.cell 3,h2.cell 0,h2.cell 1,h2.cell 2,h2.cell 3⟩
   have dv:=EP aW;have kK:=aW.lt;have kh:w.heap.size≠g3:=by omega
   have kg:wr.heap.size≠g3:=by omega
   clear aW aG bT ah hu fM kU py iY ft fu fC eD;go_wp2_with fail;go_region_held3 (λW=>W.cell? ⟨w.heap.size,3,none⟩=some (.slice (some ⟨g3,0,none⟩) m c3)/\W.cell? ⟨wr.heap.size,0,none⟩=some (.int .i64 K1)/\W.cell? ⟨wr.heap.size,1,none⟩=some (.string X1)/\W.cell? ⟨wr.heap.size,2,none⟩=some (.int .i64 Z1)/\W.cell? ⟨wr.heap.size,3,none⟩=some (.slice A1 n1 q1)) (first|(with_reducible exact bh.o _ gR.o lZ.o)|(with_reducible exact bh.o _ fN.o lY.o)|(with_reducible exact bh.o _ (NW fN.o kh) (NW lY.o kg)))
    (((with_reducible refine ak.o.mono ?_);rintro e w5 ⟨k',x',z',a',m',p',rfl,cW,lQ,fA,c5⟩;have fW:∀q,w.heap.size<=q->q<=wr.heap.size->w5.heap[q]? =(wr.alloc (.cells #[.int .i64 K1,.string X1,.int .i64 Z1,.slice A1 n1 q1] 37)).heap[q]?:=(λq h1 h2=>c5.block q (by show q<(wr.alloc _).heap.size;rw[size_alloc];omega) (λh=>by rcases h with h|h;(have:=au.o q (aY q h);omega);omega));have fN:=EP (gR.o.same (fW _ (BU _) (by omega)));have lY:=EP (lZ.o.same (fW _ (by omega) (BU _)));have eI:wr.heap.size+1<=w5.heap.size:=(by have:=c5.size;rw[show((wr.alloc (.cells #[.int .i64 K1,.string X1,.int .i64 Z1,.slice A1 n1 q1] 37)).drew).heap.size=wr.heap.size+1 from size_alloc _ _]at this;exact this);have eo:=dv.o.al (R':=λk=>Su k\/(w3.heap.size<=k/\k<w5.heap.size)) (w':=w5) (λq hq=>(by rcases hq with hq|hq;exact .inl hq;exact .inr ⟨hq.1,by omega⟩)) (λq hq=>(c5.block q (by show q<(wr.alloc _).heap.size;rw[size_alloc];rcases hq with(hq|hq)|hq|hq;(have:=au.o q (aO q hq).1;omega);omega;(have:=(HS.o q hq).1;omega);omega) (by rcases hq with(hq|hq)|hq|hq;(exact λh=>by rcases h with h|h;exact(aO q hq).2 h;exact bI (by rw[<-h];exact(aO q hq).1));(exact λh=>by rcases h with h|h;(have:=au.o q (aY q h);omega);omega);(exact λh=>by rcases h with h|h;exact(HS.o q hq).2.1 h;exact(HS.o q hq).2.2 h);(exact λh=>by rcases h with h|h;(have:=au.o q (aY q h);omega);omega))).trans (BX wr _ q (by rcases hq with(hq|hq)|hq|hq;(have:=au.o q (aO q hq).1;omega);omega;(have:=(HS.o q hq).1;omega);omega))) (by omega);obtain⟨A5,q5,⟨y0,y1,y2,y3⟩,-⟩:=eo.GD i bP (BU _);have f0:=eo.free (i*4);have f1:=eo.free (i*4+1);have f2:=eo.free (i*4+2);have f3:=eo.free (i*4+3);have vg:=EP eo;have ei:=EP cW;have vN:=EP lQ;have qy:=EP fA;have C5:=EP c5;clear eo cW lQ fA c5 fW))
   all_goals
    go_wp2_with fail;have cN:=F3.put vg.o bP (by rw[LW,DH];omega) (ei.o.al (S':=λk=>Su k\/(w3.heap.size<=k/\k<w5.heap.size)) (λq hq=>by rcases hq with hq|hq;exact .inl hq;exact .inr ⟨by have h1:=hq.1;have h2:((wr.alloc (.cells #[.int .i64 K1,.string X1,.int .i64 Z1,.slice A1 n1 q1] 37)).drew).heap.size=wr.heap.size+1:=size_alloc _ _;omega,hq.2⟩) (λq _=>rfl)) (λh=>by rcases h with h|h;(have:=au.o _ (aO _ h).1;omega);omega) (λh=>by have:=(HS.o _ h).1;omega);have lj:=EP cN;clear cN;go_roundg (m-(i+1));case measure=>omega
    case rel =>
     have eP:Fx mb I M Su S bind leaf env (kids t) c s w3.heap.size g3 m (w3.setCell ⟨w.heap.size,3,none⟩ (.slice (some ⟨g3,0,none⟩) m c3)) (m-(i+1)) (.int .i64 ((i+1:Nat):Int)) (FT w5 g3 (i*4) (.int .i64 k') (.string x') (.int .i64 z') (.slice a' m' p')):=by
      refine⟨i+1,rfl,rfl,by omega,?_,?_,λ_=>?_,?_⟩
      ·rw[eF.o,NZ,<-eF.o,pJ.o]
       have:=hI.al _ _ _ (FT w5 g3 (i*4) (.int .i64 k') (.string x') (.int .i64 z') (.slice a' m' p')) vN.o (by rw[MW];exact BU _) (λq hq=>LX _ _ _ _ _ _ _ _ (by have:=au.o q hq;omega));rw[DN]at this;exact this
      ·exact qy.o.al (LX _ _ _ _ _ _ _ _ (by omega))
      ·rw[eF.o,NZ]
       exact lj.o.al (λq hq=>by rw[MW];exact hq) (λ_ _=>rfl) (BU _)
      ·have h1:b_ (λk=>M k\/k=mb\/k=g3) (w3.setCell ⟨w.heap.size,3,none⟩ (.slice (some ⟨g3,0,none⟩) m c3)) w5:=((C1.o.alloc _).drew).trans' C5.o (λq _ h=>by
        rcases h with h|h
        ·exact .inl h
        ·exact .inr (.inl h))
       exact h1.FT _ _ _ _ _ (.inr (.inr (.inr rfl)))
     refine cast (Cp (λv=>Fx mb I M Su S bind leaf env (kids t) c s w3.heap.size g3 m _ (m-(i+1)) v _) ?_) eP;go_num
  ·have eB:i=m:=by omega
   subst eB;have aJ:(kids t).take i=kids t:=Cq (by rw[eT.o];exact BU _);have cf:=I1.o;have eu:=pL.o;rw[aJ,<-ei.o]at cf;rw[aJ,<-iM.o]at eu;have fH:=EP cf;have lf:=EP eu;obtain⟨p0,p1,p2,p3,s0,s1,s2,s3,-⟩:=n_ BN.o;obtain⟨q0,q1,q2,q3,t0,t1,t2,t3,-⟩:=n_ BR.o;clear cf eu aJ;go_wp2_with fail;have hb:=Fh (.int .i64 k) (.string X) (.int .i64 Z) (.slice A3 i c3) BR.o;have hf:∀g,g≠w.heap.size+1->((((wr.setCell ⟨w.heap.size+1,0,none⟩ (.int .i64 k)).setCell ⟨w.heap.size+1,1,none⟩ (.string X)).setCell ⟨w.heap.size+1,2,none⟩ (.int .i64 Z)).setCell ⟨w.heap.size+1,3,none⟩ (.slice A3 i c3)).heap[g]?=wr.heap[g]?:=λg hg=>G3 _ _ _ _ _ _ _ hg;have aA:((((wr.setCell ⟨w.heap.size+1,0,none⟩ (.int .i64 k)).setCell ⟨w.heap.size+1,1,none⟩ (.string X)).setCell ⟨w.heap.size+1,2,none⟩ (.int .i64 Z)).setCell ⟨w.heap.size+1,3,none⟩ (.slice A3 i c3)).heap.size=wr.heap.size:=by simp
   refine⟨_,CW rfl _ _ (w.heap.size+1) 37 _ (0,0) _ rfl hb underlying37 rfl (by kernel_rfl),k,X,Z,A3,i,c3,rfl,⟨A3,c3,?_,?_⟩,?_,?_,?_⟩
   ·rw[bW.o,dY.o,nA.o,iM.o,LW,eT.o,<-HK.o,<-HX.o,<-HZ.o]
   ·refine(M5 _ _ _ _).2 λai=>?_
    have h0:0<i:=by
     refine EO λe=>ai ?_;rw[iM.o]
     refine Cn ?_;rw[LW,eT.o,e]
    obtain⟨hA,h4⟩:=et.o h0;have lP:=h4.lt;rw[gD.o]at lP;have aE:=lf.o h0;refine⟨g3,hA,.inr ⟨by omega,by rw[aA];omega⟩,ur.al (λq hq=>by rw[aA];rcases hq with hq|hq;exact .inl hq;exact .inr ⟨by omega,hq.2⟩) (λq hq=>hf q (by rcases hq with hq|hq;(have:=au.o q (aO q hq).1;omega);omega)) _ _ _ (hf g3 (by omega)) aE.new⟩
   ·refine hI.mono _ _ _ _ (hI.al _ _ _ _ fH.o (DD aA.symm) (λq hq=>hf q (by have:=au.o q hq;omega))) (by omega)
   ·exact gq.o.al (hf mb (by omega))
   ·refine b_.C_ (iO.o.trans' C1.o (λq hq h=>?_)) _ _ _ _ (DZ _)
    rcases h with h|h|h
    ·exact .inl h
    ·exact .inr h
    ·omega
end
section
open Go.RowKit Lx Tx Go.Maps Go.WideMaps Go.Shelf
def UJ {σ:Type}(vc vn:Value)(I:Nat->σ->World->Prop)(M:Nat->Prop)(bind:Name->σ->Name × σ)(qD:Name->Bool):Prop :=
 (∀(c:Nat)(s:σ)(X:ByteArray)(w:World),I c s w->X.size<=24->(Instr.lookup 93 vc (.string X) true).run prog w=.ok (.tuple #[.agg #[],.bool (qD X.data.toList)]) w) /\
 (∀x s,qD x=false->bind x s=(x,s)) /\
 ∃kn cn,vn=FL kn cn/\(∀args w,(callFunc kn args).run prog w=.ok (.enter kn args) w)/\∀(c:Nat) (s:σ) (X:ByteArray) (w:World),I c s w->X.size<=24->c<10000000->qD X.data.toList=true ->
  Calls prog kn cn w λe w'=>e=.returned (.string ⟨(bind X.data.toList s).1.toArray⟩)/\I (c+1) (bind X.data.toList s).2 w'/\b_ M w w'
theorem zmq {σ:Type}(n pb mb kl:Nat)(cl:Array Value)(vc vn:Value)(qD:Name->Bool)(I:Nat->σ->World->Prop)(K M Su:Nat->Prop)(bind:Name->σ->Name × σ)(leaf:Ty->Ty)(hI:Gt I K)(aY:∀g,M g->K g)(aO:∀g,Su g->K g/\¬M g)(bI:¬K mb)
  (j7:K pb)(oy:∀c s w,I c s w->Pt w pb mb kl cl vc vn)(HB:UJ vc vn I M bind qD)(G:Ty->Prop)(gC:∀t,G t->∀u∈kids t,G u)(HC:UK n pb mb I M Su bind leaf G)
  (c:Nat)(s:σ)(env:List (Name × Name))(t:Ty)(XB:G t)(S:Nat->Prop)(v:Value)(w:World)(aM:kd t=5)(hn:t.size<=n+1)(h6:n<1000000000000)
  (hi:I c s w)(hm:iT FE w mb env)(hv:nc S w t v)(hS:∀g,S g->g<w.heap.size/\¬M g/\g≠mb)(aw:Nm t)(hc:c+t.E7<=10000000)(hlen:env.length+t.size<=50000000000000):Calls prog 103 #[.pointer (some ⟨pb,0,none⟩),v] w (Je mb I M Su env (c+t.E7) (iF bind leaf env t s) w):=by
 obtain⟨k,X,Z,A,m,cp,rfl,hk,hX,hZ,cG,ha⟩:=hv.parts;have lI:q_ (kids t)+1=t.size:=by rw[Gv t]
 have Xh:t.E7=C' (kids t)+1:=by rw[Sr t,Ch (by omega)]
 have dI:m<=n:=by have:=LF t;omega
 have d1:((k:Int)==1)=false:=by rw[hk];exact kF _ 1 (by omega)
 have d2:((k:Int)==2)=false:=by rw[hk];exact kF _ 2 (by omega)
 have d5:((k:Int)==5)=true:=by rw[hk,aM];rfl
 obtain⟨vs,oe,od,jY,di,og⟩:=SI ha cG;have bA:X.size<=24:=by have:=J4 aw;rw[<-hX]at this;exact this
 obtain⟨l0,l1,ls,lb⟩:=IC w (.cells #[.int .i64 k,.string X,.int .i64 Z,.slice A m cp] 37) (.cells #[.int .i64 0,.string ⟨#[]⟩,.int .i64 0,.slice none 0 0] 37);have oM:=hI.lt c s w hi;obtain⟨V0,rA⟩:∃W,(w.alloc (.cells #[.int .i64 k,.string X,.int .i64 Z,.slice A m cp] 37)).alloc (.cells #[.int .i64 0,.string ⟨#[]⟩,.int .i64 0,.slice none 0 0] 37)=W:=⟨_,rfl⟩;rw[rA]at l0 l1 ls lb;have zk:=hI.al c s w _ hi lb.size (λg hg=>lb.block g (oM g hg));obtain⟨jQ,TZ,kn,cn,rfl,en,Aw⟩:=HB;have yX:=jQ c s X _ zk bA;obtain⟨qc,tT⟩:∃q,qD X.data.toList=q:=⟨_,rfl⟩;rw[tT]at yX;have mF:=oy c s _ zk;have yS:=hI.lt c s _ zk;have uD:=hI.al c s _ (V0.alloc (.cells #[] 153)) zk (by simp) (λg hg=>BX _ _ _ (yS g hg));have yA:=oy c s _ uD;have eS:=λhq:qc=true=>Aw c s X _ uD bA (by omega) (tT.trans hq);have ru:qc=false->(bind X.data.toList s).1=X.data.toList/\(bind X.data.toList s).2=s:=λhq=>by rw[TZ _ s (tT.trans hq)];exact⟨rfl,rfl⟩
 have cp1:=ar.cell mF 1;have cp2:=ar.cell mF 2;have s9:=ar.cell yA 3;have cp4:=ar.cell mF 3;have cL:=mF.lt;unfold FL at s9 cp4;obtain⟨f0,f1,f2,f3,-,-,-,-,-⟩:=n_ l0;obtain⟨bm,cD,gZ,dT,cW⟩:=zkI bind leaf env t s aM;rw[<-hX]at cD dT cW;obtain⟨y,hy⟩:∃y,(bind X.data.toList s).1=y:=⟨_,rfl⟩;obtain⟨s1,aH⟩:∃s1,(bind X.data.toList s).2=s1:=⟨_,rfl⟩;rw[hy]at cD;rw[hy,aH]at dT cW eS ru;obtain⟨Y,hY⟩:∃Y:ByteArray,(⟨y.toArray⟩:ByteArray)=Y:=⟨_,rfl⟩;have zU:Y.data.toList=y:=by rw[<-hY]
 have hYX:qc=false->Y=X/\s1=s:=λhq=>⟨by rw[<-hY,(ru hq).1],(ru hq).2⟩;rw[hY]at cD eS
 obtain⟨ev,jy⟩:∃ev,((X.data.toList,y)::env)=ev:=⟨_,rfl⟩;rw[jy]at dT cW;have Zq:ev.length=env.length+1:=by rw[<-jy];rfl
 have BE:=EP jy;have bW:=EP bm;have dY:=EP cD;have nA:=EP gZ;have iM:=EP dT;have ei:=EP cW;have HK:=EP hk;have HX:=EP hX;have HZ:=EP hZ;have eT:=EP cG;have HS:=EP hS;have HM:=EP hm;have au:=EP (hI.lt c s w hi);have ej:Hid (∀i (hi:i<(kids t).length),Nm (kids t)[i]):=EP λi hi=>Mc aw i hi;have pI:=EP od;have Ya:=EP og;have Yd:=EP jY;have fO:=EP di;have X_:=EP oe;have L0:=EP l0;have L1:=EP l1;have LB:=EP lb;have rG:=EP ls;have xd:=EP zU;have jH:=EP eS;have rI:=EP hYX;have HIV:=EP uD;have HPT:=EP mF;have dK:=hm.lt;have ta:Hid (X.size<=maxLen):=EP (by unfold maxLen;omega);have tp:Hid (env.length<100000000000000):=EP (by omega);clear jy bm cD gZ dT cW hk hX hZ cG hS hi hm aw oe od jY di og l0 l1 ls lb hv ha aM oM eS ru hy aH hY zU bA hYX zk uD mF yA yS jQ TZ Aw tT;go_enter_defers func103,ntmps103
 go_upto_if 31 with fail
 go_cut [5] from 32 (λs5 wx=>s5=.string Y/\Hid (I (c+1) s1 wx/\b_ M V0 wx))
 case first =>
  cases qc with
  |true =>
   have HN:=EP (jH.o rfl);clear rA;go_wp2_with fail;refine HN.o.mono ?_;rintro e w2 ⟨rfl,ib,jR⟩;have IB:=EP ib;have CB:=EP jR;clear ib jR;go_wp2_with fail;go_meet
   case rel=>exact⟨rfl,EP ⟨IB.o,CB.o.pre⟩⟩
  |false =>
   obtain⟨rfl,rfl⟩:=rI.o rfl;clear rA;go_wp2_with fail;go_meet
   case rel=>exact⟨rfl,EP ⟨hI.mono _ _ _ _ HIV.o (DZ _),(b_.refl _ _).alloc _⟩⟩
 case rest =>
  rename World=>wb;obtain⟨rfl,hib⟩:=hcut;obtain⟨ib,jR⟩:=hib.o;have jm:w.heap.size+2<=wb.heap.size:=Cm (DD rG.o.symm) jR.size;have gK:∀q,w.heap.size<=q->¬M q:=λq hq h=>by have:=au.o q (aY q h);omega
  have aB:=ar.iF L0.o jR (gK _ (BU _));have av:=ar.iF L1.o jR (gK _ (DZ _));have pj:wb.heap[mb]?=w.heap[mb]?:=(jR.block mb (by rw[rG.o];omega) (λh=>bI (aY _ h))).trans (LB.o.block mb dK);have lT:=(b_.c_ (M:=M) LB.o).trans' jR (λq _ h=>h);have tV:=oy _ _ _ ib;obtain⟨p0,p1,p2,p3,u0,u1,u2,u3,dp⟩:=n_ aB;have NBW:Hid (ar wb w.heap.size 37 #[.int .i64 k,.string X,.int .i64 Z,.slice A m cp]):=EP aB;have Ug:Hid (iT FE wb.drew mb env):=EP (HM.o.al pj);have XP:=EP av;have IB:=EP ib;have YP:=EP lT;have PTB:=EP tV;have cq1:=ar.cell tV 1;have vR:Hid (Calls prog 133 #[.map (some mb),.string X,.agg #[.int .i64 1,.string Y,.int .i64 0,.slice none 0 0]] wb.drew λe w'=>e=.returned (RS wb.heap.size)/\La w' wb.heap.size mb X env/\iT FE w' mb ((X.data.toList,Y.data.toList)::env)/\b_ (only mb) wb w'):=EP (by
   refine(zh0 mb env X Y wb.drew Ug.o ta.o tp.o).mono ?_;rintro e w' ⟨h1,h2,h3,h4⟩;exact⟨h1,h2,h3,⟨h4.os,h4.tape,h4.output,h4.size,h4.block⟩⟩)
  have bh:Hid (∀W:World,W.heap[w.heap.size]?=wb.heap[w.heap.size]?->W.heap[pb]?=wb.heap[pb]?->W.cell? ⟨w.heap.size,1,none⟩=some (.string X)/\W.cell? ⟨pb,1,none⟩=some (.map (some mb))):=EP λW h1 h2=>⟨ar.cell (h1.trans NBW.o) 1,ar.cell (h2.trans PTB.o) 1⟩;have Y6:pb≠mb:=λe=>bI (by rw[<-e];exact j7);clear hib aB av pj lT ib jR jH tV rA yX cp1 cp2 s9 cp4 f0 f1 f2 f3;go_upto_region 10 with fail
  go_region_held3 (λW=>W.cell? ⟨w.heap.size,1,none⟩=some (.string X)/\W.cell? ⟨pb,1,none⟩=some (.map (some mb))) (first|(exact bh.o _ rfl rfl)|(exact bh.o _ fP.o cE.o))
   (((with_reducible refine vR.o.mono ?_);rintro e w5 ⟨rfl,ni,nX,c5⟩;unfold RS;have xc:=EP (NBW.o.iF c5 (by unfold only;omega));have fP:Hid (w5.heap[w.heap.size]?=wb.heap[w.heap.size]?):=EP (c5.block _ (by omega) (by unfold only;omega));have cE:Hid (w5.heap[pb]?=wb.heap[pb]?):=EP (c5.block _ PTB.o.lt (by unfold only;exact Y6));have nW:=EP ni;have vh:=EP nX;have C5:=EP c5;clear ni nX c5))
  have B4:Hid (Below wb.heap.size wb wb):=EP (Cc _ _);have dz:=B4.o.size;have eI:=C5.o.size;replace dz:wb.heap.size<=wb.heap.size:=dz;have pG:ar w5 (w.heap.size+1) 37 #[.int .i64 0,.string ⟨#[]⟩,.int .i64 0,.slice none 0 0]:=ar.iF (ar.below (w:=wb) XP.o B4.o (by show w.heap.size+1<wb.heap.size;omega)) C5.o (by unfold only;omega);have pv:∀q,q<wb.heap.size->q≠mb->w5.heap[q]?=wb.heap[q]?:=λq h1 h2=>(C5.o.block q (by omega) h2).trans (B4.o.block q h1);have Am:=hI.al _ _ _ w5 IB.o (by omega) (λq hq=>pv q (by have:=au.o q hq;omega) (λe=>bI (by rw[<-e];exact hq)));have kM:b_ (λk=>M k\/k=mb) w w5:=((YP.o.mono (λq _ h=>.inl h)).trans' (M1:=λ_=>False) (b:=wb) (c:=wb) ⟨B4.o.os,B4.o.tape,B4.o.output,B4.o.size,λq hq _=>B4.o.block q hq⟩ (λ_ _ h=>h.elim)).trans' C5.o (λq _ h=>.inr h);have kq:=vh.o;rw[xd.o,BE.o]at kq
  obtain⟨p0,p1,p2,p3,u0,u1,u2,u3,-⟩:=n_ xc.o;have XU:=EP (Cl w5 w.heap.size 1 _ _ (.string Y) xc.o);have dN:=Ss A m cp vs (w5.setCell ⟨w.heap.size,1,none⟩ (.string Y)) Yd.o X_.o
   (λad nJ w' hw j u hu=>Ya.o ad nJ w' (λq hq=>(hw.block q (by have:=(HS.o q hq).1;simp;omega)).trans ((B8 w5 ⟨w.heap.size,1,none⟩ _ q (by have:=(HS.o q hq).1;show q≠w.heap.size;omega)).trans (kM.block q (HS.o q hq).1 (λh=>by rcases h with h|h;exact(HS.o q hq).2.1 h;exact(HS.o q hq).2.2 h)))) j u hu) fO.o (by omega)
  have dS:(w5.setCell ⟨w.heap.size,1,none⟩ (.string Y)).heap.size=w5.heap.size:=by simp
  rw[dS]at dN;have dO:=EP dS;have jh:=EP dN;have XO:=EP pG;have I5:=EP Am;have BS:=EP kM;have XV:=EP kq;clear dN pG pv Am kM kq dS;go_wp2_with fail;refine jh.o.mono ?_;rintro e w3 ⟨A3,c3,rfl,aj,a8⟩;have dy:w5.heap.size<=w3.heap.size:=Cm (DD dO.o.symm) a8.size;have aB:=ar.below XU.o a8 (by omega);have av:=ar.below (XO.o.I8 (p:=⟨w.heap.size,1,none⟩) (Em _) (.string Y)) a8 (by omega);have fK:∀q,q<w5.heap.size->q≠w.heap.size->w3.heap[q]?=w5.heap[q]?:=λq h1 h2=>(a8.block q h1).trans (B8 w5 ⟨w.heap.size,1,none⟩ _ q h2);obtain⟨g3,fL,aE⟩:=SP (R:=λk=>Su k\/(w3.heap.size<=k/\k<w3.heap.size)) aj (pI.o.al (λ_ h=>h) (λq hq=>(fK q (by have:=(HS.o q hq).1;omega) (by have:=(HS.o q hq).1;omega)).trans (BS.o.block q (HS.o q hq).1 (λh=>by rcases h with h|h;exact(HS.o q hq).2.1 h;exact(HS.o q hq).2.2 h))));obtain⟨p0,p1,p2,p3,s0,xJ,s2,s3,dp⟩:=n_ aB;have cK:=EP aB;have bc:=EP av;have r6:=EP fK;have YQ:=EP ((BS.o.setCell (p:=⟨w.heap.size,1,none⟩) (.inl (BU _)) (.string Y)).trans' (M1:=λ_=>False) (b_.mono (b_.c_ (M:=λ_=>False) (a8.mono (DD dO.o))) (λ_ _ h=>h)) (λ_ _ h=>h.elim));have eG:=EP aE;clear aj aB av fK aE a8 jh pI;go_wp2_with fail
  have fp:ar (w3.setCell ⟨w.heap.size,3,none⟩ (.slice A3 m c3)) w.heap.size 37 #[.int .i64 k,.string Y,.int .i64 Z,.slice A3 m c3]:=Cl _ w.heap.size 3 _ _ (.slice A3 m c3) cK.o;have dT:ar (w3.setCell ⟨w.heap.size,3,none⟩ (.slice A3 m c3)) (w.heap.size+1) 37 #[.int .i64 0,.string ⟨#[]⟩,.int .i64 0,.slice none 0 0]:=bc.o.I8 (p:=⟨w.heap.size,3,none⟩) (Em _) _;have fS:(w3.setCell ⟨w.heap.size,3,none⟩ (.slice A3 m c3)).heap.size=w3.heap.size:=by simp
  have fi:∀q,q<w5.heap.size->q≠w.heap.size->(w3.setCell ⟨w.heap.size,3,none⟩ (.slice A3 m c3)).heap[q]?=w5.heap[q]?:=λq hq ai=>(B8 w3 ⟨w.heap.size,3,none⟩ _ q ai).trans (r6.o q hq ai);have eR:b_ (λk=>M k\/k=mb) w (w3.setCell ⟨w.heap.size,3,none⟩ (.slice A3 m c3)):=YQ.o.setCell (p:=⟨w.heap.size,3,none⟩) (.inl (BU _)) _;have lR:=hI.al _ _ _ _ I5.o (by rw[fS];exact dy) (λq hq=>fi q (by have:=au.o q hq;omega) (by have:=au.o q hq;omega));have lN:=XV.o.al (fi mb (by omega) (by omega));have oZ:=EP (nW.o.al (λq h1 h2=>fi q (by have:=nW.o.2.2.2.lt;omega) (by omega)));have Zr:=nW.o.2.2.2.lt;have jf:=EP fp;have lg:=EP dT;have YD:=EP fi;have iO:=EP eR;have vO:=EP lR;have rW:=EP lN;have gD:=EP fS;have rr:w.heap.size<=w3.heap.size:=by omega
  have et:Hid (0<m->A3=some ⟨g3,0,none⟩/\F3 (λk=>Su k\/(w3.heap.size<=k/\k<(w3.setCell ⟨w.heap.size,3,none⟩ (.slice A3 m c3)).heap.size)) S (w3.setCell ⟨w.heap.size,3,none⟩ (.slice A3 m c3)) (kids t) [] g3 0):=EP λh0=>by
   obtain⟨x1,x2⟩:=eG.o h0;refine⟨x1,x2.al (λq hq=>by rw[fS];exact hq) (λq hq=>B8 w3 ⟨w.heap.size,3,none⟩ _ q ?_) (by rw[fS];exact BU _)⟩;show q≠w.heap.size;rcases hq with(hq|hq)|hq|hq
   ·have:=au.o q (aO q hq).1;omega
   ·omega
   ·have:=(HS.o q hq).1;omega
   ·omega
  clear fp dT fi eR lR lN fS p0 p1 p2 p3 s0 xJ s2 s3;go_loopg [55] m (λgg vi wr=>Fx mb I M Su S bind leaf ev (kids t) (c+1) s1 w3.heap.size g3 m (w3.setCell ⟨w.heap.size,3,none⟩ (.slice A3 m c3)) gg vi wr);case atStart =>
   exact⟨0,by omega,rfl,Cw _,by rw[CK,C',D_];exact vO.o,rW.o,λh0=>by rw[CK,D_];exact(et.o h0).2,b_.refl _ _⟩
  case round =>
   obtain⟨i,rfl,rfl,hi,i1,gX,ot,c1⟩:=hrel;have I1:=EP i1;have gq:=EP gX;have pL:=EP ot;have C1:=EP c1;have fI:=c1.size;rw[gD.o]at fI;have fh:∀q,w.heap.size<=q->q<w.heap.size+2->wr.heap[q]? =(w3.setCell ⟨w.heap.size,3,none⟩ (.slice A3 m c3)).heap[q]?:=λq h1 h2=>c1.block q (by rw[gD.o];omega) (λh=>by
    rcases h with h|h|h
    ·have:=au.o q (aY q h);omega
    ·omega
    ·omega)
   have BN:=EP (jf.o.same (fh _ (BU _) (by omega)));have BR:=EP (lg.o.same (fh _ (by omega) (by omega)));clear i1 gX ot c1 fh;by_cases af:i<m
   ·obtain⟨rfl,eN⟩:=et.o (by omega)
    have kL:=eN.lt;rw[gD.o]at kL;clear eN;have aW:=pL.o (by omega);have bP:i<(kids t).length:=by rw[eT.o];exact af
    obtain⟨A1,q1,h4,eD⟩:=aW.GD i bP (BU _);have bT:=ej.o i bP;have zo:=gC t XB _ (CS bP);have ft:(kids t).take (i+1)=(kids t).take i++[(kids t)[i]]:=CV bP;have fu:=OE (kids t) i (kids t)[i] ⟨bP,rfl⟩;have oo:=OA (kids t) (i+1);have fC:=SQ (kids t) i (kids t)[i] ⟨bP,rfl⟩;have uG:=Tc (kids t) (i+1);obtain⟨u,hu⟩:∃u,(kids t)[i]=u:=⟨_,rfl⟩;rw[hu]at h4 eD bT ft fu fC zo;have dD:u.size<=n:=by omega
    have aG:nc S wr u (.agg #[.int .i64 (kd u:Nat),.string (ER u),.int .i64 (nn u:Nat),.slice A1 (kids u).length q1]):=⟨A1,q1,rfl,eD⟩;obtain⟨e0,e1,e2,e3⟩:=h4;obtain⟨K1,fM⟩:∃K1:Int,((kd u:Nat):Int)=K1:=⟨_,rfl⟩;obtain⟨X1,kU⟩:∃X1,ER u=X1:=⟨_,rfl⟩;obtain⟨Z1,py⟩:∃Z1:Int,((nn u:Nat):Int)=Z1:=⟨_,rfl⟩;obtain⟨n1,iY⟩:∃n1,(kids u).length=n1:=⟨_,rfl⟩;rw[fM]at e0 aG;rw[kU]at e1 aG;rw[py]at e2 aG;rw[iY]at e3 aG;have eF:=EP ft;have pJ:=EP fC;have ah:=HC (c+1+C' ((kids t).take i)) (D_ bind leaf ev ((kids t).take i) s1).2 ev u S _ ((wr.alloc (.cells #[.int .i64 K1,.string X1,.int .i64 Z1,.slice A1 n1 q1] 37)).drew) zo dD (by omega)
     (hI.al _ _ _ _ I1.o (by show wr.heap.size<=(wr.alloc _).heap.size;simp) (λg hg=>BX wr _ g (hI.lt _ _ _ I1.o g hg))) (gq.o.al (BX wr _ mb gq.o.lt)) (aG.al (λ_ h=>h) (λg hg=>BX wr _ g (by have:=(HS.o g hg).1;omega)))
     (λg hg=>⟨by show g<(wr.alloc _).heap.size;have:=(HS.o g hg).1;simp;omega,(HS.o g hg).2⟩) bT (by omega) (by omega)
    have ak:=EP ah;have gR:Hid (ar ((wr.alloc (.cells #[.int .i64 K1,.string X1,.int .i64 Z1,.slice A1 n1 q1] 37)).drew) w.heap.size 37 #[.int .i64 k,.string Y,.int .i64 Z,.slice (some ⟨g3,0,none⟩) m c3]):=EP (ar.alloc BN.o _);have lZ:Hid (ar ((wr.alloc (.cells #[.int .i64 K1,.string X1,.int .i64 Z1,.slice A1 n1 q1] 37)).drew) wr.heap.size 37 #[.int .i64 K1,.string X1,.int .i64 Z1,.slice A1 n1 q1]):=EP (BZ wr _);have bh:Hid (∀W:World,ar W w.heap.size 37 #[.int .i64 k,.string Y,.int .i64 Z,.slice (some ⟨g3,0,none⟩) m c3]->ar W wr.heap.size 37 #[.int .i64 K1,.string X1,.int .i64 Z1,.slice A1 n1 q1] ->
     W.cell? ⟨w.heap.size,3,none⟩=some (.slice (some ⟨g3,0,none⟩) m c3)/\W.cell? ⟨wr.heap.size,0,none⟩=some (.int .i64 K1)/\W.cell? ⟨wr.heap.size,1,none⟩=some (.string X1)/\W.cell? ⟨wr.heap.size,2,none⟩=some (.int .i64 Z1)/\W.cell? ⟨wr.heap.size,3,none⟩=some (.slice A1 n1 q1)) :=
     EP λW h1 h2=>⟨h1.cell 3,h2.cell 0,h2.cell 1,h2.cell 2,h2.cell 3⟩
    have dv:=EP aW;have kK:=aW.lt;have kh:w.heap.size≠g3:=by omega
    have kg:wr.heap.size≠g3:=by omega
    clear aW aG bT ah hu fM kU py iY ft fu fC eD;go_wp2_with fail;go_region_held3 (λW=>W.cell? ⟨w.heap.size,3,none⟩=some (.slice (some ⟨g3,0,none⟩) m c3)/\W.cell? ⟨wr.heap.size,0,none⟩=some (.int .i64 K1)/\W.cell? ⟨wr.heap.size,1,none⟩=some (.string X1)/\W.cell? ⟨wr.heap.size,2,none⟩=some (.int .i64 Z1)/\W.cell? ⟨wr.heap.size,3,none⟩=some (.slice A1 n1 q1)) (first|(with_reducible exact bh.o _ gR.o lZ.o)|(with_reducible exact bh.o _ fN.o lY.o)|(with_reducible exact bh.o _ (NW fN.o kh) (NW lY.o kg)))
     (((with_reducible refine ak.o.mono ?_);rintro e w5 ⟨k',x',z',a',m',p',rfl,cW,lQ,fA,c5⟩;have fW:∀q,w.heap.size<=q->q<=wr.heap.size->w5.heap[q]? =(wr.alloc (.cells #[.int .i64 K1,.string X1,.int .i64 Z1,.slice A1 n1 q1] 37)).heap[q]?:=(λq h1 h2=>c5.block q (by show q<(wr.alloc _).heap.size;rw[size_alloc];omega) (λh=>by rcases h with h|h;(have:=au.o q (aY q h);omega);omega));have fN:=EP (gR.o.same (fW _ (BU _) (by omega)));have lY:=EP (lZ.o.same (fW _ (by omega) (BU _)));have eI:wr.heap.size+1<=w5.heap.size:=(by have:=c5.size;rw[show((wr.alloc (.cells #[.int .i64 K1,.string X1,.int .i64 Z1,.slice A1 n1 q1] 37)).drew).heap.size=wr.heap.size+1 from size_alloc _ _]at this;exact this);have eo:=dv.o.al (R':=λk=>Su k\/(w3.heap.size<=k/\k<w5.heap.size)) (w':=w5) (λq hq=>(by rcases hq with hq|hq;exact .inl hq;exact .inr ⟨hq.1,by omega⟩)) (λq hq=>(c5.block q (by show q<(wr.alloc _).heap.size;rw[size_alloc];rcases hq with(hq|hq)|hq|hq;(have:=au.o q (aO q hq).1;omega);omega;(have:=(HS.o q hq).1;omega);omega) (by rcases hq with(hq|hq)|hq|hq;(exact λh=>by rcases h with h|h;exact(aO q hq).2 h;exact bI (by rw[<-h];exact(aO q hq).1));(exact λh=>by rcases h with h|h;(have:=au.o q (aY q h);omega);omega);(exact λh=>by rcases h with h|h;exact(HS.o q hq).2.1 h;exact(HS.o q hq).2.2 h);(exact λh=>by rcases h with h|h;(have:=au.o q (aY q h);omega);omega))).trans (BX wr _ q (by rcases hq with(hq|hq)|hq|hq;(have:=au.o q (aO q hq).1;omega);omega;(have:=(HS.o q hq).1;omega);omega))) (by omega);obtain⟨A5,q5,⟨y0,y1,y2,y3⟩,-⟩:=eo.GD i bP (BU _);have f0:=eo.free (i*4);have f1:=eo.free (i*4+1);have f2:=eo.free (i*4+2);have f3:=eo.free (i*4+3);have vg:=EP eo;have ei:=EP cW;have vN:=EP lQ;have qy:=EP fA;have C5:=EP c5;clear eo cW lQ fA c5 fW))
    all_goals
     go_wp2_with fail;have cN:=F3.put vg.o bP (by rw[LW,DH];omega) (ei.o.al (S':=λk=>Su k\/(w3.heap.size<=k/\k<w5.heap.size)) (λq hq=>by rcases hq with hq|hq;exact .inl hq;exact .inr ⟨by have h1:=hq.1;have h2:((wr.alloc (.cells #[.int .i64 K1,.string X1,.int .i64 Z1,.slice A1 n1 q1] 37)).drew).heap.size=wr.heap.size+1:=size_alloc _ _;omega,hq.2⟩) (λq _=>rfl)) (λh=>by rcases h with h|h;(have:=au.o _ (aO _ h).1;omega);omega) (λh=>by have:=(HS.o _ h).1;omega);have lj:=EP cN;clear cN;go_roundg (m-(i+1));case measure=>omega
     case rel =>
      have eP:Fx mb I M Su S bind leaf ev (kids t) (c+1) s1 w3.heap.size g3 m (w3.setCell ⟨w.heap.size,3,none⟩ (.slice (some ⟨g3,0,none⟩) m c3)) (m-(i+1)) (.int .i64 ((i+1:Nat):Int)) (FT w5 g3 (i*4) (.int .i64 k') (.string x') (.int .i64 z') (.slice a' m' p')):=by
       refine⟨i+1,rfl,rfl,by omega,?_,?_,λ_=>?_,?_⟩
       ·rw[eF.o,NZ,<-eF.o,pJ.o]
        have:=hI.al _ _ _ (FT w5 g3 (i*4) (.int .i64 k') (.string x') (.int .i64 z') (.slice a' m' p')) vN.o (by rw[MW];exact BU _) (λq hq=>LX _ _ _ _ _ _ _ _ (by have:=au.o q hq;omega));rw[DN]at this;exact this
       ·exact qy.o.al (LX _ _ _ _ _ _ _ _ (by omega))
       ·rw[eF.o,NZ]
        exact lj.o.al (λq hq=>by rw[MW];exact hq) (λ_ _=>rfl) (BU _)
       ·have h1:b_ (λk=>M k\/k=mb\/k=g3) (w3.setCell ⟨w.heap.size,3,none⟩ (.slice (some ⟨g3,0,none⟩) m c3)) w5:=((C1.o.alloc _).drew).trans' C5.o (λq _ h=>by
         rcases h with h|h
         ·exact .inl h
         ·exact .inr (.inl h))
        exact h1.FT _ _ _ _ _ (.inr (.inr (.inr rfl)))
      refine cast (Cp (λv=>Fx mb I M Su S bind leaf ev (kids t) (c+1) s1 w3.heap.size g3 m _ (m-(i+1)) v _) ?_) eP;go_num
   ·have eB:i=m:=by omega
    subst eB;have aJ:(kids t).take i=kids t:=Cq (by rw[eT.o];exact BU _);have cf:=I1.o;have eu:=pL.o;rw[aJ,<-ei.o]at cf;rw[aJ,<-iM.o]at eu;have fH:=EP cf;have lf:=EP eu;obtain⟨p0,p1,p2,p3,s0,xJ,s2,s3,-⟩:=n_ BN.o;obtain⟨q0,q1,q2,q3,t0,t1,t2,t3,-⟩:=n_ BR.o;clear cf eu aJ;go_wp2_with fail;have hb:=Fh (.int .i64 k) (.string Y) (.int .i64 Z) (.slice A3 i c3) BR.o;have hf:∀g,g≠w.heap.size+1->((((wr.setCell ⟨w.heap.size+1,0,none⟩ (.int .i64 k)).setCell ⟨w.heap.size+1,1,none⟩ (.string Y)).setCell ⟨w.heap.size+1,2,none⟩ (.int .i64 Z)).setCell ⟨w.heap.size+1,3,none⟩ (.slice A3 i c3)).heap[g]?=wr.heap[g]?:=λg hg=>G3 _ _ _ _ _ _ _ hg;have aA:((((wr.setCell ⟨w.heap.size+1,0,none⟩ (.int .i64 k)).setCell ⟨w.heap.size+1,1,none⟩ (.string Y)).setCell ⟨w.heap.size+1,2,none⟩ (.int .i64 Z)).setCell ⟨w.heap.size+1,3,none⟩ (.slice A3 i c3)).heap.size=wr.heap.size:=by simp
    have kN:=HM.o.canon;have oJ:=gq.o.al (hf mb (by omega));rw[<-BE.o]at oJ;have oY:=oZ.o.al (w':=((((wr.setCell ⟨w.heap.size+1,0,none⟩ (.int .i64 k)).setCell ⟨w.heap.size+1,1,none⟩ (.string Y)).setCell ⟨w.heap.size+1,2,none⟩ (.int .i64 Z)).setCell ⟨w.heap.size+1,3,none⟩ (.slice A3 i c3))) (λq h1 h2=>(hf q (by omega)).trans (C1.o.block q (by rw[gD.o];omega) (λh=>by
     rcases h with h|h|h
     ·have:=au.o q (aY q h);omega
     ·omega
     ·omega)))
    refine leaves_cons (f:=171) (args:=#[.pointer (some ⟨wb.heap.size+4,0,none⟩),.pointer (some ⟨wb.heap.size+3,0,none⟩),.pointer (some ⟨wb.heap.size,0,none⟩),.pointer (some ⟨wb.heap.size+1,0,none⟩)]) (by simp) (by simp[go_sem]) ?_;refine(zgc wb.heap.size mb env X y .returning _ oY oJ kN ta.o tp.o).mono ?_;rintro e u' wf ⟨rfl,rfl,mf,bf⟩;have fE:=hb.iF bf (by unfold only;omega);have rk:∀q,q≠w.heap.size+1->q≠mb->q<wr.heap.size->wf.heap[q]?=wr.heap[q]?:=λq h1 h2 h3=>(bf.block q (by rw[aA];exact h3) h2).trans (hf q h1);have om:wr.heap.size<=wf.heap.size:=by have:=bf.size;rw[aA]at this;exact this
    refine⟨_,CW rfl _ _ (w.heap.size+1) 37 _ (0,0) _ rfl fE underlying37 rfl (by kernel_rfl),k,Y,Z,A3,i,c3,rfl,⟨A3,c3,?_,?_⟩,?_,mf,?_⟩
    ·rw[bW.o,dY.o,nA.o,iM.o,LW,eT.o,<-HK.o,<-HZ.o]
    ·refine(M5 _ _ _ _).2 λai=>?_
     have h0:0<i:=by
      refine EO λe=>ai ?_;rw[iM.o]
      refine Cn ?_;rw[LW,eT.o,e]
     obtain⟨hA,h4⟩:=et.o h0;have lP:=h4.lt;rw[gD.o]at lP;have aE:=lf.o h0;refine⟨g3,hA,.inr ⟨by omega,by omega⟩,ur.al (λq hq=>by rcases hq with hq|hq;exact .inl hq;exact .inr ⟨by omega,by omega⟩) (λq hq=>by
      rcases hq with hq|hq
      ·have h1:=au.o q (aO q hq).1
       exact rk q (by omega) (λe=>bI (by rw[<-e];exact(aO q hq).1)) (by omega)
      ·exact rk q (by omega) (by omega) hq.2) _ _ _ (rk g3 (by omega) (by omega) (by omega)) aE.new⟩
    ·refine hI.mono _ _ _ _ (hI.al _ _ _ _ fH.o om (λq hq=>rk q (by have:=au.o q hq;omega) (λe=>bI (by rw[<-e];exact hq)) (by have:=au.o q hq;omega))) (by omega)
    ·have h1:b_ (λk=>M k\/k=mb) w wr:=iO.o.trans' C1.o (λq hq h=>by
      rcases h with h|h|h
      ·exact .inl h
      ·exact .inr h
      ·omega)
     exact(h1.C_ (.int .i64 k) (.string Y) (.int .i64 Z) (.slice A3 i c3) (DZ _)).trans' bf (λq _ h=>.inr h)
end
section
open Go.RowKit Lx Tx Go.Maps Go.WideMaps Go.Shelf
set_option maxRecDepth 100000
theorem zmr {σ:Type}(pb mb kl:Nat)(cl:Array Value)(vc vn:Value)(qD:Name->Bool)(I:Nat->σ->World->Prop)(K M Su:Nat->Prop)(bind:Name->σ->Name × σ)(place:Ty->Option Ty)(hI:Gt I K)(aY:∀g,M g->K g)(aO:∀g,Su g->K g/\¬M g)(bI:¬K mb)
  (j7:K pb)(oz:¬M pb)(oy:∀c s w,I c s w->Pt w pb mb kl cl vc vn)(el:∀args w,(callFunc kl args).run prog w=.ok (.enter kl args) w)(HP:PI kl cl I M Su place)(G:Ty->Prop)(gC:∀t,G t->∀u∈kids t,G u)(HB:∀t,G t->kd t=5->UJ vc vn I M bind qD)(n:Nat):UK n pb mb I M Su bind (IW place) G:=by
 induction n with
 |zero=>intro c s env t S v w _ hn;rw[Gv]at hn;omega
 |succ n ih =>
  intro c s env t S v w hG hn h6 hi hm hv hS aw hc hlen;cases t with
  |var x=>exact zgI pb mb kl cl vc vn I K M Su bind place hI aY (λg hg=>(aO g hg).1) bI j7 oz oy el HP c s env _ S v w (.inl rfl) hi hm hv (λg hg=>(hS g hg).1) aw
  |mt x=>exact zgI pb mb kl cl vc vn I K M Su bind place hI aY (λg hg=>(aO g hg).1) bI j7 oz oy el HP c s env _ S v w (.inr rfl) hi hm hv (λg hg=>(hS g hg).1) aw
  |h_ d l=>exact zhK n pb mb I K M Su bind (IW place) hI aY aO bI G gC ih c s env _ hG S v w (.inl rfl) hn (by omega) hi hm hv hS aw hc hlen
  |fn a b=>exact zhK n pb mb I K M Su bind (IW place) hI aY aO bI G gC ih c s env _ hG S v w (.inr rfl) hn (by omega) hi hm hv hS aw hc hlen
  |all x t=>exact zmq n pb mb kl cl vc vn qD I K M Su bind (IW place) hI aY aO bI j7 oy (HB _ hG rfl) G gC ih c s env _ hG S v w rfl hn (by omega) hi hm hv hS aw hc hlen
end
end Go.Proofs.YtfafilmklhnngaaGreatDoor
