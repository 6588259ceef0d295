import Derived.Test.YtfafilmklhnngaaGreatDoorBsAF
import Derived.Test.YtfafilmklhnngaaGreatDoorBsAG
set_option maxHeartbeats 12800000
set_option maxRecDepth 100000
namespace Go.Proofs.YtfafilmklhnngaaGreatDoor
open Tryz
section
open Go.RowKit Lx Tx Go.Maps Go.WideMaps Go.Shelf
set_option maxRecDepth 100000
theorem zf1(t:Ty)(h:Nm t):∀x∈Fu t,x.length<=24:=Wo t h
theorem zms(t:Ty)(A1:Option Addr)(n c1:Nat)(w1:World)(Tn:IJ w1 (.slice A1 n c1) (FQ (Fu t)))(hn:(Fu t).length=n)(aw:Nm t)(hs:t.size<=1000000000000):Calls prog 41 #[.slice (some ⟨w1.heap.size,0,none⟩) 1 1] (w1.alloc (.cells #[.slice A1 n c1] 95)) λe w'=>e=.returned (.map (some (w1.heap.size+1)))/\iT mkSet w' (w1.heap.size+1) (kj (Fu t))/\Below (w1.heap.size+1) (w1.alloc (.cells #[.slice A1 n c1] 95)) w':=by
 have gO:=SO t;have h:=zkE [Fu t] w1.heap.size 1 (w1.alloc (.cells #[.slice A1 n c1] 95)) (λj hj=>by
  have kH:j=0:=by simp at hj;omega
  subst kH;refine⟨A1,c1,?_,?_⟩
  ·have:=ar.cell (BZ w1 (.cells #[.slice A1 n c1] 95)) 0
   rw[<-hn]at this ⊢;exact this
  ·show IJ _ (.slice A1 (Fu t).length c1) _
   rw[hn];exact Tn.below ((Cc _ w1).alloc (BU _) _)) (by simp) (by intro x hx;exact Wo t aw x (by simpa using hx)) (by simpa using(by omega:(Fu t).length<=8000000000000)) (by simp)
 simp only[DY,List.flatten_nil,CJ,size_alloc]at h;exact h
section
variable {σ:Type}
def Fo(place:Ty->Option Ty)(t:Ty):List Name:=match place t with|some u=>Fu u|none=>[]
def OO(I:Nat->σ->World->Prop)(kl:Nat)(cl:Array Value)(gp gm fb:Nat)(L:List Name)(c:Nat)(s:σ)(w:World):Prop :=
 I c s w/\ar w gp 115 #[FL kl cl]/\ar w gm 93 #[.map (some fb)]/\iT mkSet w fb (kj L)
end
set_option maxRecDepth 2000 in
theorem zkt {σ:Type}(kl:Nat)(cl:Array Value)(gp gm fb:Nat)(I:Nat->σ->World->Prop)(K M Su:Nat->Prop)(place:Ty->Option Ty)(hI:Gt I K)(aY:∀g,M g->K g)(aO:∀g,Su g->K g)(ik:¬K fb)(hgp:¬M gp)(hgm:¬M gm)(hpf:gp≠fb)(iZ:gm≠fb)
  (el:∀args w,(callFunc kl args).run prog w=.ok (.enter kl args) w)(HP:PI kl cl I M Su place)(iV:∀t u,place t=some u->Nm u/\u.size<=1000000000000)
  (c:Nat)(s:σ)(L:List Name)(t:Ty)(k:Int)(X:ByteArray)(Z:Int)(w:World)(eA:kd t=1\/kd t=2)(hv:nc (λ_=>False) w t (.agg #[.int .i64 k,.string X,.int .i64 Z,.slice none 0 0]))(aw:Nm t)(hi:OO I kl cl gp gm fb L c s w)(hL:∀x∈L,x.length<=24)(hLl:L.length<=90000000):Calls prog 147 #[.agg #[.int .i64 k,.string X,.int .i64 Z,.slice none 0 0],.pointer (some ⟨gp,0,none⟩),.pointer (some ⟨gm,0,none⟩)] w λe w'=>e=.returned (.tuple #[])/\OO I kl cl gp gm fb (L++Fo place t) c s w'/\b_ (λg=>M g\/g=fb) w w':=by
 obtain⟨bK,wB,oL,sM⟩:=hi;have af:=hI.lt _ _ _ bK;have cL:=wB.lt;have dK:=oL.lt;have gO:=sM.lt;obtain⟨V0,rA⟩:∃W,w.alloc (.cells #[.int .i64 k,.string X,.int .i64 Z,.slice none 0 0] 37)=W:=⟨_,rfl⟩;have aB:Below w.heap.size w V0:=rA▸(Cc _ w).alloc (BU _) _;have h3:ar V0 w.heap.size 37 #[.int .i64 k,.string X,.int .i64 Z,.slice none 0 0]:=rA▸BZ _ _;have uD:=hI.al _ _ _ V0 bK aB.size (λg hg=>aB.block g (af g hg));have ah:=HP c s t (λ_=>False) _ V0 uD (hv.al (λ_ h=>h) (λ_ h=>h.elim)) (λ_ h=>h.elim) eA aw;have jr:=wB.below aB cL;have cp:=ar.cell jr 0;unfold FL at cp;obtain⟨f0,f1,f2,f3,-,-,-,-,-⟩:=n_ h3;have ak:=EP ah;have HF:=EP sM;have xq:=EP jr;have Yw:=EP oL;have cK:=EP aB;have au:=EP af;have rP:=EP iV;have HL:=EP hL;have H3:=EP h3;have mA:V0.heap.size=w.heap.size+1:=by rw[<-rA];simp
 have ar8:=EP mA;clear bK wB oL sM af aB h3 uD ah jr iV hL hv aw eA mA;go_in;go_wp2_with fail;clear rA;refine ak.o.mono ?_;rintro e w1 ⟨k1,x1,z1,a1,m1,p1,q1,rfl,iC,fw,cf,c1⟩;have Uc:b_ M w w1:=(b_.c_ cK.o).trans' c1 (λ_ _ h=>h);have zG:iT mkSet w1 fb (kj L):=HF.o.al (Uc.block fb gO (λh=>ik (aY _ h)));have zq:ar w1 gp 115 #[FL kl cl]:=ar.iF xq.o c1 hgp;have zr:ar w1 gm 93 #[.map (some fb)]:=Yw.o.iF Uc hgm;have C1:=EP Uc;have BC:=EP zG;have fH:=EP cf;have YJ:=EP zq;have xy:=EP zr;have ey:=hI.lt _ _ _ cf;have lA:=EP ey;clear c1 Uc zG cf zq zr ey ak f0 f1 f2 f3 H3 xq cp;cases q1 with
 |false =>
  have hn:Fo place t=[]:=by unfold Fo;rw[fw rfl]
  have HN:=EP hn;clear iC fw hn;go_wp2_with fail;first|go_end0|refine Ce (CQ rfl _ _ _) rfl ?_
  refine⟨rfl,⟨hI.al _ _ _ _ fH.o (by simp) (λg hg=>BX _ _ _ (lA.o g hg)),YJ.o.alloc _,xy.o.alloc _,?_⟩,(C1.o.alloc _).mono (λ_ _ h=>.inl h)⟩;rw[HN.o,CJ];exact BC.o.al (BX _ _ _ BC.o.lt)
 |true =>
  obtain⟨u,hu,hur⟩:=iC rfl;obtain⟨bT,j6⟩:=rP.o t u hu;have aN:Fo place t=Fu u:=by unfold Fo;rw[hu]
  obtain⟨V1,uU⟩:∃W,w1.alloc (.cells #[.int .i64 k1,.string x1,.int .i64 z1,.slice a1 m1 p1] 37)=W:=⟨_,rfl⟩;have av:Below w1.heap.size w1 V1:=uU▸(Cc _ w1).alloc (BU _) _;have h4:ar V1 w1.heap.size 37 #[.int .i64 k1,.string x1,.int .i64 z1,.slice a1 m1 p1]:=uU▸BZ _ _;have aH:V1.heap.size=w1.heap.size+1:=by rw[<-uU];simp
  obtain⟨n,hn⟩:∃n,(Fu u).length=n:=⟨_,rfl⟩;have ah:=Vp u (λg=>K g) _ V1.drew (hur.al (S':=λg=>K g) (λg hg=>aO g hg) (λg hg=>av.block g (lA.o g (aO g hg)))) (λg hg=>by have:=lA.o g hg;have:=av.size;show g<V1.heap.size;omega) bT j6;rw[hn]at ah;have F1:=EP ah;have bh:Hid (∀W:World,(∀g,g=gm\/g=w1.heap.size->W.heap[g]?=V1.heap[g]?)->(λW=>W.cell? ⟨gm,0,none⟩=some (.map (some fb))/\W.cell? ⟨w1.heap.size,0,none⟩=some (.int .i64 k1)/\W.cell? ⟨w1.heap.size,1,none⟩=some (.string x1)/\W.cell? ⟨w1.heap.size,2,none⟩=some (.int .i64 z1)/\W.cell? ⟨w1.heap.size,3,none⟩=some (.slice a1 m1 p1)) W):=EP λW hW=>by
   have z:ar W gm 93 #[.map (some fb)]:=(xy.o.below av xy.o.lt).same (hW gm (.inl rfl));have y:ar W w1.heap.size 37 #[.int .i64 k1,.string x1,.int .i64 z1,.slice a1 m1 p1]:=h4.same (hW _ (.inr rfl));exact⟨ar.cell z 0,ar.cell y 0,ar.cell y 1,ar.cell y 2,ar.cell y 3⟩
  have GP:Hid (∀g,g=gm\/g=w1.heap.size->g<V1.heap.size/\g≠fb):=EP λg hg=>by
   have:=BC.o.lt;have:=xy.o.lt;rcases hg with rfl|rfl
   ·exact⟨by omega,iZ⟩
   ·exact⟨by omega,by omega⟩
  have fO:=EP uU;have bc:=EP av;have fP:=EP aH;have aah:=EP aN;have HU:=EP (⟨bT,j6⟩:Nm u/\u.size<=1000000000000);have HN:=EP hn;have YK:=EP (BC.o.al (av.block fb BC.o.lt));clear iC fw hu hur bT j6 aN av h4 aH hn ah;go_upto_region 3 with fail
  clear uU;go_region_held3 (λW=>W.cell? ⟨gm,0,none⟩=some (.map (some fb))/\W.cell? ⟨w1.heap.size,0,none⟩=some (.int .i64 k1)/\W.cell? ⟨w1.heap.size,1,none⟩=some (.string x1)/\W.cell? ⟨w1.heap.size,2,none⟩=some (.int .i64 z1)/\W.cell? ⟨w1.heap.size,3,none⟩=some (.slice a1 m1 p1))
   (first|(with_reducible exact bh.o _ GK4.o)|(with_reducible exact bh.o _ GK3.o)|(with_reducible exact bh.o _ GK2.o)|(exact bh.o _ (λg hg=>(BX _ _ _ (GL2.o g hg)).trans (GK2.o g hg)))|(exact bh.o _ (λg hg=>rfl)))
   ((first
    |((with_reducible refine F1.o.mono ?_);rintro e w2 ⟨A2,c2,rfl,Ts,ez,b2⟩;have GK2:Hid (∀g,g=gm\/g=w1.heap.size->w2.heap[g]?=V1.heap[g]?):=EP (λg hg=>b2.block g (GP.o g hg).1);have GL2:Hid (∀g,g=gm\/g=w1.heap.size->g<w2.heap.size):=EP (λg hg=>Ci (GP.o g hg).1 b2.size);have B2:Hid (Below V1.heap.size V1 w2):=EP ((Cc _ V1).drew.trans b2);have R2:=EP (IJ.Jy Ts);clear Ts ez b2)
    |((with_reducible refine(zms u A2 n c2 w2 R2.o HN.o HU.o.1 HU.o.2).mono ?_);rintro e w3 ⟨rfl,wF,b3⟩;have B3:Hid (Below V1.heap.size V1 w3):=EP ((B2.o.alloc B2.o.size _).trans (b3.mono (by have:=B2.o.size;omega)));have GK3:Hid (∀g,g=gm\/g=w1.heap.size->w3.heap[g]?=V1.heap[g]?):=EP (λg hg=>B3.o.block g (GP.o g hg).1);have Bj:=EP wF;clear wF b3)
    |((with_reducible refine(zj4 L (Fu u) fb (w2.heap.size+1) w3 (YK.o.al (B3.o.block fb YK.o.lt)) Bj.o (by have:=YK.o.lt;have:=B2.o.size;omega) HL.o (zf1 u HU.o.1) (by have:=SO u;have:=HU.o.2;omega)).mono ?_);rintro e w4 ⟨rfl,lN,c4⟩;have GK4:Hid (∀g,g=gm\/g=w1.heap.size->w4.heap[g]?=V1.heap[g]?):=EP (λg hg=>(c4.block g (Ci (GP.o g hg).1 B3.o.size) (GP.o g hg).2).trans (B3.o.block g (GP.o g hg).1));have rW:=EP lN;have C4:=EP c4;clear lN c4)))
  all_goals
   go_wp2_with fail;first|go_end0|refine Ce (CQ rfl _ _ _) rfl ?_
   have hA4:b_ (λg=>M g\/g=fb) w1 w4:=((b_.c_ bc.o).Jz B3.o bc.o.size).trans' C4.o (λ_ _ h=>.inr h);have k4:∀g,g<w1.heap.size->g≠fb->w4.heap[g]?=w1.heap[g]?:=λg hg ai=>(C4.o.block g (Ci hg (Cm bc.o.size B3.o.size)) ai).trans ((B3.o.block g (Ci hg bc.o.size)).trans (bc.o.block g hg));refine⟨rfl,⟨hI.al _ _ _ _ fH.o hA4.size (λg hg=>k4 g (lA.o g hg) (λe=>ik (e▸hg))),YJ.o.same (k4 _ YJ.o.lt hpf),xy.o.same (k4 _ xy.o.lt iZ),?_⟩,(C1.o.mono (λ_ _ h=>.inl h)).trans' hA4 (λ_ _ h=>h)⟩;rw[aah.o]
   exact rW.o
set_option maxRecDepth 100000
theorem ziU {w:World} {B n cp k:Nat} {A:Option Addr} {e:TypeId} {xs:List Value} {u:Value}(h:w.ownsRow B e 1 (.slice A n cp) n xs)(hu:xs[k]?=some u):∃g,A=some ⟨g,0,none⟩/\B<=g/\g<w.heap.size/\∀W:World,W.heap[g]?=w.heap[g]?->W.cell? ⟨g,k,none⟩=some u:=by
 have hc:=λg hg=>h.cells (g:=g) hg;have af:=h.lt;have hl:=h.1;have hk:=(Cj.1 hu).1;rcases h.2 with⟨h0,h1⟩|⟨g,cap,cur,hv,hB,_⟩
 ·omega
 ·injection hv with h1 h2 h3
  subst h1;have aN:(⟨g,0,none⟩:Addr).add k=⟨g,k,none⟩:=by unfold Addr.add;split <;> simp_all
  have h4:=hc g rfl k u hu;rw[aN]at h4;exact⟨g,rfl,hB,(af g rfl).2,λW hW=>(Ck (w:=w) (a:=⟨g,k,none⟩) hW).trans h4⟩
theorem zqu(t:Ty)(h:Nm t):∀x∈Fu t,Nm (.var x) :=
 Ox (λs=>∀x∈s,Nm (.var x)) _ _ (λenv u s hu hs=>by
  unfold Ff;split
  ·cases u with
   |var y =>
    intro x hx;rcases(zjh _ _ _).1 hx with rfl|hx
    ·exact hu
    ·exact hs x hx
   |_=>exact hs
  ·exact hs) (λ_ _ _ _ hs=>hs) t [] [] h (λ_ hx=>(CI hx).elim)
theorem zoo(t:Ty)(h:Nm t):∀n∈Ig t,Nm (.mt n) :=
 Ox (λs=>∀x∈s,Nm (.mt x)) _ _ (λenv u s hu hs=>by
  unfold Ff;split
  ·cases u with
   |mt y =>
    intro x hx;have ep:x∈FJ y s:=hx;unfold FJ at ep;split at ep
    ·exact hs x ep
    ·rcases Cr.1 ep with h|h
     ·exact hs x h
     ·rw[Cx.1 h];exact hu
   |_=>exact hs
  ·exact hs) (λ_ _ _ _ hs=>hs) t [] [] h (λ_ hx=>(CI hx).elim)
theorem zhL {α:Type}(f:α->List Name)(l:List α)(i:Nat)(hi:i<l.length):(l.take (i+1)).flatMap f=(l.take i).flatMap f++f l[i]:=by
 rw[CV hi,EG];simp
theorem ze9 {α:Type}(f:α->List Name)(l:List α)(i:Nat):((l.take i).flatMap f).length<=(l.flatMap f).length:=by
 have h:l.flatMap f=(l.take i).flatMap f++(l.drop i).flatMap f:=by rw[<-EG,Ex]
 rw[h,Cb];omega
section
variable {σ:Type}
def p_(place:Ty->Option Ty)(t:Ty):List Name:=(Fu t).flatMap (λx=>Fo place (.var x))++(Ig t).flatMap (λn=>Fo place (.mt n))
theorem QL {place:Ty->Option Ty}(h:∀t u,place t=some u->Nm u/\u.size<=1000000000000)(t:Ty):∀x∈Fo place t,x.length<=24:=by
 unfold Fo;cases e:place t with
 |none=>intro x hx;cases hx
 |some u=>exact zf1 u (h t u e).1
theorem QK {α:Type} {f:α->List Name}(h:∀a,∀x∈f a,x.length<=24)(l:List α):∀x∈l.flatMap f,x.length<=24:=λx hx=>by
 obtain⟨a,_,hx⟩:=D5.1 hx;exact h a x hx
theorem ziV {place:Ty->Option Ty}(h:∀t u,place t=some u->Nm u/\u.size<=1000000000000)(t:Ty):∀x∈p_ place t,x.length<=24:=λx hx=>by
 rcases Cr.1 hx with hx|hx
 ·exact QK (λ_=>QL h _) _ x hx
 ·exact QK (λ_=>QL h _) _ x hx
def zmt {α:Type}(I:Nat->σ->World->Prop)(kl:Nat)(cl:Array Value)(gp gm fb:Nat)(pre:List Name)(f:α->List Name)(l:List α)(n c:Nat)(s:σ)(M:Nat->Prop)(w0:World)(gg:Nat)(vi:Value)(wr:World):Prop :=
 ∃i,gg=n-i/\vi=.int .i64 (i:Nat)/\i<=n/\OO I kl cl gp gm fb (pre++(l.take i).flatMap f) c s wr/\b_ (λg=>M g\/g=fb) w0 wr
end
theorem ziW {σ:Type}(kl:Nat)(cl:Array Value)(I:Nat->σ->World->Prop)(K M Su:Nat->Prop)(place:Ty->Option Ty)(hI:Gt I K)(aY:∀g,M g->K g)(aO:∀g,Su g->K g)
  (el:∀args w,(callFunc kl args).run prog w=.ok (.enter kl args) w)(HP:PI kl cl I M Su place)(iV:∀t u,place t=some u->Nm u/\u.size<=1000000000000)
  (c:Nat)(s:σ)(t:Ty)(S:Nat->Prop)(v:Value)(w:World)(hi:I c s w)(hv:nc S w t v)(hS:∀g,S g->g<w.heap.size/\¬M g)(aw:Nm t)(aA:t.size<=1000000)(br:(p_ place t).length<=90000000):Calls prog 100 #[v,FL kl cl] w λe w'=>e=.returned (.map (some (w.heap.size+2)))/\iT mkSet w' (w.heap.size+2) (kj (p_ place t))/\I c s w'/\b_ M w w':=by
 obtain⟨K0,X,Z,A,m,cp,rfl,-,-,-,-,-⟩:=hv.parts;have af:=hI.lt _ _ _ hi;have iZ:∀(fn:Fn) (first cap:Array Value) (w:World),(Instr.makeFunc fn first cap).run prog w=.ok (.func fn first cap) w:=λ_ _ _ _=>rfl;have dU:∀w,(Instr.makeMap 93 none).run prog w=.ok (.map (some w.heap.size)) (w.alloc (.map #[] 0)):=λ_=>rfl;obtain⟨l0,l1,l2,l3,ls,lb⟩:=MS w (.cells #[.int .i64 K0,.string X,.int .i64 Z,.slice A m cp] 37) (.cells #[.func (.func kl) #[] cl] 115) (.map #[] 0) (.cells #[.map (some (w.heap.size+1+1))] 93);obtain⟨W4,jB⟩:∃W,(((w.alloc (.cells #[.int .i64 K0,.string X,.int .i64 Z,.slice A m cp] 37)).alloc (.cells #[.func (.func kl) #[] cl] 115)).alloc (.map #[] 0)).alloc (.cells #[.map (some (w.heap.size+1+1))] 93)=W:=⟨_,rfl⟩;rw[jB]at l0 l1 l2 l3 ls lb
 obtain⟨p0,p1,p2,p3,-⟩:=n_ (show ar W4 w.heap.size 37 _ from l0);have gd:=zqS t S _ W4 (hv.al (λ_ h=>h) (λg hg=>lb.block g (hS g hg).1)) (λg hg=>by have:=(hS g hg).1;omega) aw aA;obtain⟨n,hn⟩:∃n,(Fu t).length=n:=⟨_,rfl⟩;rw[hn]at gd;have iI:OO I kl cl (w.heap.size+1) (w.heap.size+1+1+1) (w.heap.size+1+1) [] c s W4:=⟨hI.al _ _ _ _ hi lb.size (λg hg=>lb.block g (af g hg)),l1,l3,iT.laid mkSet l2⟩;have hKg:∀g,w.heap.size<=g->¬K g:=λg hg h=>by have:=af g h;omega
 have ym:∀i,((Fu t).take i |>.flatMap (λx=>Fo place (.var x))).length<=90000000:=λi=>by
  have:=ze9 (λx=>Fo place (.var x)) (Fu t) i;unfold p_ at br;rw[Cb]at br;omega
 have yk:∀i,((Fu t).flatMap (λx=>Fo place (.var x))++((Ig t).take i).flatMap (λx=>Fo place (.mt x))).length<=90000000:=λi=>by
  have:=ze9 (λx=>Fo place (.mt x)) (Ig t) i;unfold p_ at br;rw[Cb]at br ⊢;omega
 have yg:∀i,∀x∈(Fu t).take i |>.flatMap (λx=>Fo place (.var x)),x.length<=24:=λi=>QK (λ_=>QL iV _) _;have yf:∀i,∀x∈(Fu t).flatMap (λx=>Fo place (.var x))++((Ig t).take i).flatMap (λx=>Fo place (.mt x)),x.length<=24:=λi x hx=>by
  rcases Cr.1 hx with hx|hx
  ·exact QK (λ_=>QL iV _) _ x hx
  ·exact QK (λ_=>QL iV _) _ x hx
 have hNf:=zqu t aw;have Ag:=zoo t aw;have tn:=EP gd;have HN:=EP hn;have Uv:=EP iI;have rZ:=EP hKg;have bW:=EP ym;have dY:=EP yk;have fP:=EP yg;have cE:=EP yf;have HNF:=EP hNf;have bQ:=EP Ag;have jf:=EP jB;have LS:=EP ls;have LB:=EP lb;have L0:=EP l0;have HV:=EP hv;have HS:=EP hS;have Uo:=EP aw;have au:=EP af;have rP:=EP iV;clear gd hn iI hKg ym yk yg yf hNf Ag ls lb l0 l1 l2 l3 hv hS aw af hi br iV;unfold FL;go_in;go_upto_region 3 with fail;clear jB;go_wp2_with fail;refine tn.o.mono ?_;rintro e w5 ⟨A5,cp5,rfl,ic,fW,b5⟩;have zC:OO I kl cl (w.heap.size+1) (w.heap.size+1+1+1) (w.heap.size+1+1) [] c s w5:=by
  obtain⟨i0,i1,i2,i3⟩:=Uv.o;have qZ:=LS.o;exact⟨hI.al _ _ _ _ i0 b5.size (λg hg=>b5.block g (by have:=au.o g hg;omega)),i1.below b5 (by omega),i2.below b5 (by omega),i3.al (b5.block _ (by omega))⟩
 have B5:=EP b5;have O5:=EP ic;have FR5:=EP zC;clear tn zC b5 ic p0 p1 p2 p3;go_wp2_with fail;go_loopg [16] n (λgg vi wr=>zmt I kl cl (w.heap.size+1) (w.heap.size+1+1+1) (w.heap.size+1+1) [] (λx=>Fo place (.var x)) (Fu t) n c s M w5 gg vi wr)
 case atStart =>
  exact⟨0,rfl,rfl,Cw _,by rw[CK];exact FR5.o,b_.refl _ _⟩
 case round =>
  obtain⟨i,rfl,rfl,Fw,iI,hc⟩:=hrel;rw[Cu]at iI;have FR:=EP iI;have HC:=EP hc;clear iI hc;by_cases af:i<n
  ·have eY:i<(Fu t).length:=by rw[HN.o];exact af
   obtain⟨g,rfl,aS,gM,fL⟩:=ziU O5.o (zkA (Fu t) i eY);have qZ:=LS.o;have e0:=fL wr (HC.o.block g gM (λh=>h.elim (λh=>rZ.o g (by omega) (aY _ h)) (λh=>by omega)));have ah:=zkt kl cl (w.heap.size+1) (w.heap.size+1+1+1) (w.heap.size+1+1) I K M Su place hI aY aO (rZ.o _ (by omega)) (λh=>rZ.o _ (by omega) (aY _ h)) (λh=>rZ.o _ (by omega) (aY _ h)) (by omega) (by omega) el HP rP.o c s _ (.var (Fu t)[i]) 1 ⟨(Fu t)[i].toArray⟩ 0 wr (.inl rfl) ⟨none,0,rfl,trivial⟩ (HNF.o _ (CS eY)) FR.o (fP.o i) (bW.o i);have lL:=zhL (λx=>Fo place (.var x)) (Fu t) i eY;obtain⟨X5,hX5⟩:∃X,(⟨(Fu t)[i].toArray⟩:ByteArray)=X:=⟨_,rfl⟩;rw[hX5]at ah e0;have ak:=EP ah;have pS:=EP lL;clear ah lL hX5 fL;go_wp2_with fail;refine ak.o.mono ?_;rintro e w6 ⟨rfl,zB,c6⟩;have FR6:=EP zB;have HC6:=EP (HC.o.trans c6);clear zB c6 ak;go_wp2_with fail;go_roundg (n-(i+1))
   case measure=>omega
   case rel =>
    refine⟨i+1,rfl,by go_num,by omega,?_,HC6.o⟩;rw[Cu,pS.o];exact FR6.o
  ·have Zi:i=n:=by omega
   have gO:((Fu t).take i).flatMap (λx=>Fo place (.var x))=(Fu t).flatMap (λx=>Fo place (.var x)):=by rw[Cq (by rw[HN.o];omega)]
   have FRe:Hid (OO I kl cl (w.heap.size+1) (w.heap.size+1+1+1) (w.heap.size+1+1) ((Fu t).flatMap (λx=>Fo place (.var x))) c s wr):=by rw[<-gO];exact FR
   have sQ:b_ (λg=>M g\/g=w.heap.size+1+1) W4 wr:=(b_.c_ B5.o).trans' HC.o (λ_ _ h=>h);have qZ:=LS.o;have h0:ar wr w.heap.size 37 #[.int .i64 K0,.string X,.int .i64 Z,.slice A m cp]:=ar.iF L0.o sQ (λh=>h.elim (λh=>rZ.o _ (BU _) (aY _ h)) (λh=>by omega));obtain⟨q0,q1,q2,q3,-⟩:=n_ h0;have cY:=zpa t S _ wr (HV.o.al (λ_ h=>h) (λg hg=>(sQ.block g (by have:=(HS.o g hg).1;omega) (λh=>h.elim (HS.o g hg).2 (λh=>by have:=(HS.o g hg).1;omega))).trans (LB.o.block g (HS.o g hg).1))) (λg hg=>by have:=(HS.o g hg).1;have:=sQ.size;omega) Uo.o aA;obtain⟨n2,lM⟩:∃n,(Ig t).length=n:=⟨_,rfl⟩;rw[lM]at cY;have nB:=EP cY;have rU:=EP lM;have Ux:=EP sQ;clear cY lM sQ h0 gO Zi;go_wp2_with fail;refine nB.o.mono ?_;rintro e w7 ⟨A7,cp7,rfl,ho7,wD,b7⟩;have zA:OO I kl cl (w.heap.size+1) (w.heap.size+1+1+1) (w.heap.size+1+1) ((Fu t).flatMap (λx=>Fo place (.var x))) c s w7:=by
    obtain⟨i0,i1,i2,i3⟩:=FRe.o;have qZ:=LS.o;have aA:=Ux.o.size;exact⟨hI.al _ _ _ _ i0 b7.size (λg hg=>b7.block g (by have:=au.o g hg;omega)),i1.below b7 (by omega),i2.below b7 (by omega),i3.al (b7.block _ (by omega))⟩
   have B7:=EP b7;have O7:=EP ho7;have FR7:=EP zA;clear nB zA b7 ho7 q0 q1 q2 q3;go_wp2_with fail;go_loopg [28] n2 (λgg vi wr=>zmt I kl cl (w.heap.size+1) (w.heap.size+1+1+1) (w.heap.size+1+1) ((Fu t).flatMap (λx=>Fo place (.var x))) (λx=>Fo place (.mt x)) (Ig t) n2 c s M w7 gg vi wr)
   case atStart =>
    exact⟨0,rfl,rfl,Cw _,by rw[CK,List.flatMap_nil,CJ];exact FR7.o,b_.refl _ _⟩
   case round =>
    obtain⟨j,rfl,rfl,qj,iI,hc⟩:=hrel;have FRz:=EP iI;have YM:=EP hc;clear iI hc;have arx:w.heap.size+4<=w7.heap.size:=by have:=Ux.o.size;have:=B7.o.size;omega
    by_cases cO:j<n2
    ·have eY:j<(Ig t).length:=by rw[rU.o];exact cO
     obtain⟨g,rfl,aS,gM,fL⟩:=ziU O7.o (zqI (Ig t) j eY);have wJ:w.heap.size+4<=g:=by have:=Ux.o.size;omega
     have e0:=fL wr (YM.o.block g gM (λh=>h.elim (λh=>rZ.o g (by omega) (aY _ h)) (λh=>by omega)));have ah:=zkt kl cl (w.heap.size+1) (w.heap.size+1+1+1) (w.heap.size+1+1) I K M Su place hI aY aO (rZ.o _ (by omega)) (λh=>rZ.o _ (by omega) (aY _ h)) (λh=>rZ.o _ (by omega) (aY _ h)) (by omega) (by omega) el HP rP.o c s _ (.mt (Ig t)[j]) 2 ⟨#[]⟩ ((Ig t)[j]:Nat) wr (.inr rfl) ⟨none,0,rfl,trivial⟩ (bQ.o _ (CS eY)) FRz.o (cE.o j) (dY.o j);have lL:=zhL (λx=>Fo place (.mt x)) (Ig t) j eY;obtain⟨z5,xM⟩:∃z,(Ig t)[j]=z:=⟨_,rfl⟩;rw[xM]at ah e0 lL;have ak:=EP ah;have pS:=EP lL;clear ah lL xM fL;go_wp2_with fail;refine ak.o.mono ?_;rintro e w8 ⟨rfl,zw,c8⟩;have FR8:=EP zw;have HC8:=EP (YM.o.trans c8);clear zw c8 ak;go_wp2_with fail;go_roundg (n2-(j+1))
     case measure=>omega
     case rel =>
      refine⟨j+1,rfl,by go_num,by omega,?_,HC8.o⟩;rw[pS.o,<-DC];exact FR8.o
    ·have aJ:(Fu t).flatMap (λx=>Fo place (.var x))++((Ig t).take j).flatMap (λx=>Fo place (.mt x))=p_ place t:=by rw[Cq (by rw[rU.o];omega)];rfl
     have aR:=EP aJ;obtain⟨i0,i1,i2,i3⟩:=FRz.o;obtain⟨x0,-,-⟩:=GG i2;have I0:=EP i0;have I3:=EP i3;clear aJ i0 i1 i2 i3;go_wp2_with fail;go_ret
     refine⟨rfl,by rw[<-aR.o];exact I3.o,I0.o,?_⟩;exact(b_.c_ LB.o).trans' (Ux.o.trans' ((b_.c_ B7.o).trans' YM.o (λ_ _ h=>h)) (λ_ _ h=>h)) (λg hg h=>h.elim (λh=>h) (λh=>by omega))
end
section
open Go.RowKit Lx Tx Go.Maps Go.WideMaps Go.Shelf
def Ie(cat iv:List Name)(x:Name)(k:Nat):Name × Nat:=if x∈cat then(nm 120 (FY 120 iv k),FY 120 iv k+1) else(x,k)
def UY(kl:Nat)(cl:Array Value)(J:World->Prop)(Su:Nat->Prop)(place:Ty->Option Ty):Prop :=
 ∀(t:Ty) (S:Nat->Prop) (v:Value) (w:World),J w->nc S w t v->(∀g,S g->g<w.heap.size)->kd t=1\/kd t=2->Nm t ->
  Calls prog kl (#[v]++cl) w λe w'=>∃k x z a m p q,e=.returned (.tuple #[.agg #[.int .i64 k,.string x,.int .i64 z,.slice a m p],.bool q])/\(q=true->∃u,place t=some u/\nc Su w' u (.agg #[.int .i64 k,.string x,.int .i64 z,.slice a m p]))/\(q=false->place t=none)/\Below w.heap.size w w'
structure Kept (J:World->Prop) (KJ:Nat->Prop):Prop where
 lt:∀w,J w->∀g,KJ g->g<w.heap.size
 al:∀w w',J w->w.heap.size<=w'.heap.size->(∀g,KJ g->w'.heap[g]?=w.heap[g]?)->J w'
theorem Kept.below {J:World->Prop} {KJ:Nat->Prop}(h:Kept J KJ) {w w':World}(hj:J w)(hb:Below w.heap.size w w'):J w':=h.al w w' hj hb.size (λg hg=>hb.block g (h.lt w hj g hg))
theorem VS {σ:Type} {kl:Nat} {cl:Array Value} {J:World->Prop} {Su:Nat->Prop} {place:Ty->Option Ty}(h:UY kl cl J Su place)(I:Nat->σ->World->Prop)(K M:Nat->Prop)(hI:Gt I K)(hJ:∀c s w,I c s w->J w):PI kl cl I M Su place:=by
 intro c s t S v w hi hv hS hk hn;refine(h t S v w (hJ _ _ _ hi) hv hS hk hn).mono ?_;rintro e w' ⟨k,x,z,a,m,p,q,he,h1,h2,hb⟩;exact⟨k,x,z,a,m,p,q,he,h1,h2,hI.al _ _ _ _ hi hb.size (λg hg=>hb.block g (hI.lt _ _ _ hi g hg)),b_.c_ hb⟩
structure Rm (J:World->Prop) (Su:Nat->Prop) (pb mb kl:Nat) (cl:Array Value) (vc vn:Value) (c:Nat) (k:Nat) (w:World):Prop where
 jj:J w
 su:∀g,Su g->g<w.heap.size
 pt:Pt w pb mb kl cl vc vn
def Rs(KJ Su:Nat->Prop)(pb:Nat)(g:Nat):Prop:=g=pb\/KJ g\/Su g
theorem Rm.inv {J:World->Prop} {KJ Su:Nat->Prop}(hJ:Kept J KJ)(pb mb kl:Nat)(cl:Array Value)(vc vn:Value):Gt (Rm J Su pb mb kl cl vc vn) (Rs KJ Su pb) where
 mono c c' s w h _:={ h with }
 lt c s w h g hg:=by
  rcases hg with rfl|hg|hg
  ·exact ar.lt h.pt
  ·exact hJ.lt w h.jj g hg
  ·exact h.su g hg
 al c s w w' h hs hk:=⟨hJ.al w w' h.jj hs (λg hg=>hk g (.inr (.inl hg))),λg hg=>Ci (h.su g hg) hs,ar.same h.pt (hk _ (.inl rfl))⟩
structure Oc (J:World->Prop) (Su:Nat->Prop) (pb mb kl:Nat) (cl:Array Value) (fb cb lb nb sb:Nat) (cat iv:List Name) (c:Nat) (k:Nat) (w:World):Prop where
 jj:J w
 su:∀g,Su g->g<w.heap.size
 pt:Pt w pb mb kl cl (.map (some fb)) (G4 lb nb sb)
 ca:iT mkSet w fb (kj cat)
 new:Hs 120 lb nb sb cb iv k w
 tab:FO w
 len:k<=c*(iv.length+1)
def LN(KJ Su:Nat->Prop)(pb fb cb lb nb sb:Nat)(g:Nat):Prop:=g=pb\/g=fb\/g=cb\/g=lb\/g=nb\/g=sb\/g=0\/KJ g\/Su g
theorem Oc.inv {J:World->Prop} {KJ Su:Nat->Prop}(hJ:Kept J KJ)(pb mb kl:Nat)(cl:Array Value)(fb cb lb nb sb:Nat)(cat iv:List Name):Gt (Oc J Su pb mb kl cl fb cb lb nb sb cat iv) (LN KJ Su pb fb cb lb nb sb) where
 mono c c' s w h hc:={ h with len:=Cm h.len (Nat.mul_le_mul_right _ hc) }
 lt c s w h g hg:=by
  rcases hg with rfl|rfl|rfl|rfl|rfl|rfl|rfl|hg|hg
  ·exact ar.lt h.pt
  ·exact h.ca.lt
  ·exact h.new.set.lt
  ·exact h.new.let_.lt
  ·exact h.new.num.lt
  ·exact h.new.LH.lt
  ·exact h.tab.lt
  ·exact hJ.lt w h.jj g hg
  ·exact h.su g hg
 al c s w w' h hs hk:=by
  have k:∀g,LN KJ Su pb fb cb lb nb sb g->w'.heap[g]?=w.heap[g]?:=hk;unfold LN at k;exact
   {jj:=hJ.al w w' h.jj hs (λg hg=>k g (by simp[hg]))
    su:=λg hg=>Ci (h.su g hg) hs
    pt:=ar.same h.pt (k _ (by simp))
    ca:=h.ca.al (k _ (by simp))
    new:=h.new.al (k _ (by simp)) (k _ (by simp)) (k _ (by simp)) (k _ (by simp))
    tab:=h.tab.al (k _ (by simp))
    len:=h.len }
theorem zqv(lb nb sb:Nat):G4 lb nb sb=FL 85 #[.pointer (some ⟨lb,0,none⟩),.pointer (some ⟨nb,0,none⟩),.pointer (some ⟨sb,0,none⟩)]:=rfl
theorem Oc.bind {J:World->Prop} {KJ Su:Nat->Prop}(hJ:Kept J KJ)(pb mb kl:Nat)(cl:Array Value)(fb cb lb nb sb:Nat)(cat iv:List Name)(h0:nb≠lb)(h1:nb≠sb)(h2:nb≠cb)(h3:nb≠0)(h4:nb≠pb)(h5:nb≠fb)(h6:¬KJ nb)(aru:iv.length<=95000000):UJ (.map (some fb)) (G4 lb nb sb) (Oc J Su pb mb kl cl fb cb lb nb sb cat iv) (only nb) (Ie cat iv) (λx=>decide (x∈cat)):=by
 refine⟨λc s X w hi hX=>?_,λx s hx=>?_,_,_,zqv lb nb sb,enters_of func85 (by kernel_rfl) rfl,λc s X w hi hX hc Fw=>?_⟩
 ·have h:=hi.ca.He X (by unfold maxLen;omega)
  rw[QV]at h;show _=Result.ok (Value.tuple #[Value.agg #[],Value.bool (decide (X.data.toList∈cat))]) w;by_cases hx:X.data.toList∈cat
  ·rw[Ch hx]at h
   rw[CD hx];exact h
  ·rw[Cg hx]at h
   rw[CF hx];exact h
 ·unfold Ie
  rw[Cg (EK hx)]
 ·have hm:c*(iv.length+1)<=10000000*95000001:=Ek (by omega) (by omega)
  have hl:=hi.len;obtain⟨_,aU,bZ⟩:=MX 120 iv s (by omega);refine(zm1 120 lb nb sb cb iv s w hi.new hi.tab h0 h1 h2 h3 (by omega)).mono ?_;rintro e w1 ⟨rfl,n1,c1⟩;have hb:Ie cat iv X.data.toList s=(nm 120 (FY 120 iv s),FY 120 iv s+1):=by unfold Ie;rw[Ch (DB Fw)]
  rw[hb];have k:∀g,g<w.heap.size->g≠nb->w1.heap[g]?=w.heap[g]?:=λg hg hn=>c1.block g hg hn;refine⟨rfl,{ jj:=hJ.al w w1 hi.jj c1.size (λg hg=>k g (hJ.lt w hi.jj g hg) (λe=>h6 (e▸hg))),su:=λg hg=>Ci (hi.su g hg) c1.size,pt:=ar.same hi.pt (k _ (ar.lt hi.pt) (λe=>h4 e.symm)),ca:=hi.ca.al (k _ hi.ca.lt (λe=>h5 e.symm)),new:=n1,tab:=hi.tab.al (k _ hi.tab.lt (λe=>h3 e.symm)),len:=?_ },c1⟩;show FY 120 iv s+1<=(c+1)*(iv.length+1);rw[Cy]
  omega
def J8(place:Ty->Option Ty)(t:Ty):Ty:=(iF (Ie (p_ place t) (p_ place t++Gq t)) (IW place) [] t 0).1
def ZL(Su:Nat->Prop)(t:Ty)(w:World)(e:Ending)(w':World):Prop :=
 ∃k x z a m q,e=.returned (.agg #[.int .i64 k,.string x,.int .i64 z,.slice a m q])/\nc (λg=>Su g\/(w.heap.size<=g/\g<w'.heap.size)) w' t (.agg #[.int .i64 k,.string x,.int .i64 z,.slice a m q])/\Below w.heap.size w w'
theorem zqw {w:World} {g:Nat} {t:TypeId} {a0 a1 a2 a3:Value}(b:Value)(h:ar w g t #[a0,a1,a2,a3]):ar (w.setCell ⟨g,2,none⟩ b) g t #[a0,a1,b,a3]:=Cl _ g 2 _ t b h
theorem zqx {w:World} {g:Nat} {t:TypeId} {a0 a1 a2 a3:Value}(b:Value)(h:ar w g t #[a0,a1,a2,a3]):ar (w.setCell ⟨g,3,none⟩ b) g t #[a0,a1,a2,b]:=Cl _ g 3 _ t b h
theorem zop(t:Ty)(h:t.r_=false):∀u∈kids t,u.r_=false:=by
 intro u hu;obtain⟨i,hi,rfl⟩:=CN.1 hu;rw[V5,DV]at h;cases e:(kids t)[i].r_ with
 |false=>rfl
 |true=>rw[zh8 _ i hi e]at h;exact absurd h.2 (by simp)
theorem zoq(t:Ty)(h:t.r_=false):kd t≠5:=by
 intro e;rw[V5,e]at h;simp at h
mutual
theorem QE:(t:Ty)->t.r_=false->t.E7=0
 |.var x,_=>by rw[Ty.E7]
 |.mt n,_=>by rw[Ty.E7]
 |.h_ c l,h=>by rw[Ty.r_]at h;rw[Ty.E7];exact zhM l h
 |.fn a b,h=>by
  rw[Ty.r_,DV]at h;rw[Ty.E7,QE a h.1,QE b h.2]
 |.all x t,h=>by rw[Ty.r_]at h;cases h
theorem zhM:(l:List Ty)->IU l=false->C' l=0
 |[],_=>by rw[C']
 |t::r,h=>by
  rw[IU,DV]at h;rw[C',QE t h.1,zhM r h.2]
end
def O0(w:World)(Su:Nat->Prop)(R:Ty)(W:World)(e:Ending)(w':World):Prop :=
 ∃k x z a m q,e=.returned (.agg #[.int .i64 k,.string x,.int .i64 z,.slice a m q])/\nc (λg=>Su g\/(w.heap.size+4<=g/\g<w'.heap.size)) w' R (.agg #[.int .i64 k,.string x,.int .i64 z,.slice a m q])/\b_ (λg=>w.heap.size+2<=g) W w'
theorem zku {σ:Type} {mb c:Nat} {I:Nat->σ->World->Prop} {M Su:Nat->Prop} {env:List (Name × Name)} {O:Ty × σ} {R:Ty} {w W w':World} {e:Ending}(hR:O.1=R)(hs:w.heap.size+4<=W.heap.size)(hM:∀g,M g\/g=mb->w.heap.size+2<=g)(h:Je mb I M Su env c O W e w'):O0 w Su R W e w':=by
 obtain⟨k,x,z,a,m,q,he,hr,-,-,hc⟩:=h;subst hR;exact⟨k,x,z,a,m,q,he,hr.al (λg hg=>hg.elim .inl (λhg=>.inr ⟨by omega,hg.2⟩)) (λ_ _=>rfl),hc.mono (λg _ hg=>hM g hg)⟩
theorem zor(kl:Nat)(cl:Array Value)(J:World->Prop)(KJ Su:Nat->Prop)(place:Ty->Option Ty)(hJ:Kept J KJ)(el:∀args w,(callFunc kl args).run prog w=.ok (.enter kl args) w)(HP:UY kl cl J Su place)(iV:∀t u,place t=some u->Nm u/\u.size<=1000000000000)
  (t:Ty)(S:Nat->Prop)(v:Value)(w:World)(hj:J w)(j6:∀g,Su g->g<w.heap.size)(hv:nc S w t v)(hS:∀g,S g->g<w.heap.size)(aw:Nm t)(aA:t.size<=1000000000000)(br:t.r_=true->t.size<=1000000/\(p_ place t).length<=90000000)(ht:FO w):Calls prog 57 #[v,FL kl cl] w (ZL Su (J8 place t) w):=by
 obtain⟨K0,X,Z,A,m,cp,rfl,-,-,-,-,-⟩:=hv.parts;have dU:∀w,(Instr.makeMap 160 none).run prog w=.ok (.map (some w.heap.size)) (w.alloc (.map #[] 0)):=λ_=>rfl;have tI:=ht.lt;have sG:=hJ.lt w hj;obtain⟨l0,l1,l2,l3,ls,lb⟩:=MS w (.cells #[.int .i64 K0,.string X,.int .i64 Z,.slice A m cp] 37) (.cells #[.int .i64 0,.string ⟨#[]⟩,.int .i64 0,.slice none 0 0] 37) (.map #[] 0) (.cells #[.func (.func kl) #[] cl,.map (some (w.heap.size+1+1)),.map none,.nilFunc] 180);obtain⟨W4,jB⟩:∃W,(((w.alloc (.cells #[.int .i64 K0,.string X,.int .i64 Z,.slice A m cp] 37)).alloc (.cells #[.int .i64 0,.string ⟨#[]⟩,.int .i64 0,.slice none 0 0] 37)).alloc (.map #[] 0)).alloc (.cells #[.func (.func kl) #[] cl,.map (some (w.heap.size+1+1)),.map none,.nilFunc] 180)=W:=⟨_,rfl⟩;rw[jB]at l0 l1 l2 l3 ls lb
 obtain⟨p0,p1,p2,p3,-⟩:=n_ (show ar W4 w.heap.size 37 _ from l0);have my:=hv.al (S':=S) (w':=W4) (λ_ h=>h) (λg hg=>lb.block g (hS g hg));have wz:=Vo t S _ W4 aA my (λg hg=>by have:=hS g hg;omega);have uC:J W4:=hJ.below hj lb;have xX:FO W4:=ht.below lb;have xp:=EP wz;have L0:Hid (ar W4 w.heap.size 37 #[.int .i64 K0,.string X,.int .i64 Z,.slice A m cp]):=EP l0;have L1:Hid (ar W4 (w.heap.size+1) 37 #[.int .i64 0,.string ⟨#[]⟩,.int .i64 0,.slice none 0 0]):=EP l1;have L2:=EP l2;have L3:Hid (ar W4 (w.heap.size+1+1+1) 180 #[FL kl cl,.map (some (w.heap.size+1+1)),.map none,.nilFunc]):=EP l3;have LS:=EP ls;have LB:=EP lb;have YE:=EP uC;have AV:=EP xX;have vr:=EP my;have HS:=EP hS;have l9:=EP j6;have Us:=EP sG;have bQ:=EP aw;have rP:=EP iV;obtain⟨q,hq⟩:∃q,t.r_=q:=⟨_,rfl⟩;rw[hq]at xp;have HQ:=EP hq;obtain⟨R,hR⟩:∃R,J8 place t=R:=⟨_,rfl⟩;rw[hR];have HR:=EP hR;have jf:=EP jB;clear jB hv hj j6 hS aw ht iV my wz uC xX l0 l1 l2 l3 ls lb sG hq hR;unfold FL;go_in;go_upto_region 2 with fail;rw[jf.o];go_wp2_with fail;refine xp.o.mono ?_;rintro e w5 ⟨rfl,b5⟩;have eI:=b5.size;have B5:=EP b5;clear xp b5 p0 p1 p2 p3;go_upto_if 11 with fail
 go_cut [6] from 12 (λ_ wx=>Hid (b_ (only (w.heap.size+1+1+1)) W4 wx/\Calls prog 103 #[.pointer (some ⟨w.heap.size+1+1+1,0,none⟩),.agg #[.int .i64 K0,.string X,.int .i64 Z,.slice A m cp]] wx (O0 w Su R wx)))
 case first =>
  have hj5:J w5:=hJ.al _ _ YE.o eI (λg hg=>B5.o.block g (hJ.lt _ YE.o g hg));have xZ:∀g,Su g->g<w5.heap.size:=λg hg=>by have:=l9.o g hg;have:=LS.o;omega
  have hv5:=vr.o.al (S':=S) (w':=w5) (λ_ h=>h) (λg hg=>B5.o.block g (by have:=HS.o g hg;have:=LS.o;omega));have HJ5:=EP hj5;have AY:=EP xZ;have HV5:=EP hv5;clear hj5 xZ hv5;cases q with
  |false =>
   go_wp2_with fail;go_meet
   case rel =>
    have qZ:=LS.o;have cN:=zmr (w.heap.size+1+1+1) (w.heap.size+1+1) kl cl (.map none) .nilFunc (λ_=>false) (Rm J Su (w.heap.size+1+1+1) (w.heap.size+1+1) kl cl (.map none) .nilFunc) (Rs KJ Su (w.heap.size+1+1+1)) (λ_=>False) Su (Ie (p_ place t) (p_ place t++Gq t)) place (Rm.inv hJ _ _ _ _ _ _) (λ_ h=>h.elim) (λg hg=>⟨.inr (.inr hg),λh=>h⟩)
     (λh=>by
       rcases h with h|h|h;· omega
       ·have:=Us.o _ h;omega
       ·have:=l9.o _ h;omega) (.inl rfl) (λh=>h) (λc s w h=>h.pt) el (VS HP _ _ _ (Rm.inv hJ _ _ _ _ _ _) (λ_ _ _ h=>h.jj)) (λt=>t.r_=false) zop (λt h h5=>absurd h5 (zoq t h)) t.size 0 0 [] t S _ w5 HQ.o (BU _) aA
     ⟨HJ5.o,AY.o,ar.below L3.o B5.o (by omega)⟩ (iT.laid FE ((B5.o.block _ (by omega)).trans L2.o)) HV5.o (λg hg=>⟨by have:=HS.o g hg;omega,λh=>h,by have:=HS.o g hg;omega⟩) bQ.o (by have:=QE t HQ.o;omega) (by simp;omega)
    refine EP ⟨b_.c_ B5.o,cN.mono λe w' h=>zku HR.o (by omega) (λg hg=>?_) h⟩;rcases hg with hg|hg
    ·exact hg.elim
    ·omega
  |true =>
   have qZ:=LS.o;replace aA:t.size<=1000000:=(br HQ.o).1;replace br:(p_ place t).length<=90000000:=(br HQ.o).2;have hinv:Gt (λ(_:Nat) (_:Unit) w=>J w/\∀g,Su g->g<w.heap.size) (λg=>KJ g\/Su g) :=
    ⟨λ_ _ _ _ h _=>h,λ_ _ w h g hg=>hg.elim (hJ.lt w h.1 g) (h.2 g),λ_ _ w w' h hs hk=>⟨hJ.al w w' h.1 hs (λg hg=>hk g (.inl hg)),λg hg=>Ci (h.2 g hg) hs⟩⟩
   have wM:=ziW kl cl (λ(_:Nat) (_:Unit) w=>J w/\∀g,Su g->g<w.heap.size) (λg=>KJ g\/Su g) (λ_=>False) Su place hinv (λ_ h=>h.elim) (λ_ h=>.inr h) el (VS HP _ _ _ hinv (λ_ _ _ h=>h.1)) rP.o 0 () t S _ w5 ⟨HJ5.o,AY.o⟩ HV5.o (λg hg=>⟨by have:=HS.o g hg;omega,λh=>h⟩) bQ.o aA br;have h05:=ar.below L0.o B5.o (by omega);obtain⟨p0,p1,p2,p3,-⟩:=n_ h05;have HCS:Hid (∀x∈p_ place t,x.length<=24):=EP (ziV rP.o t);obtain⟨C,hC⟩:∃C,p_ place t=C:=⟨_,rfl⟩;have HC:=EP hC;rw[hC]at wM br HCS;have nV:=EP wM;have ma:=EP br;clear wM hC br h05;unfold FL at nV;go_wp2_with fail;refine nV.o.mono ?_;rintro e w6 ⟨rfl,dI,-,c6⟩;have dS:=c6.size;have jz:Below W4.heap.size W4 w6:=B5.o.trans (c6.toBelow eI (λ_ _ h=>h));have ew:=ar.below L3.o jz (by omega);obtain⟨-,y1,y2,y3,z0,z1,z2,z3,cL⟩:=n_ ew;have HM6:=EP dI;have B6:=EP jz;have PB6:=EP ew;clear dI c6 jz ew nV p0 p1 p2 p3;go_wp2_with fail;obtain⟨V6,wR⟩:∃W,w6.setCell ⟨w.heap.size+1+1+1,2,none⟩ (.map (some (w5.heap.size+2)))=W:=⟨_,rfl⟩;rw[wR];have jL:V6.heap.size=w6.heap.size:=by rw[<-wR];simp
   have tZ:ar V6 (w.heap.size+1+1+1) 180 #[FL kl cl,.map (some (w.heap.size+1+1)),.map (some (w5.heap.size+2)),.nilFunc]:=wR▸zqw _ PB6.o;have kP:b_ (only (w.heap.size+1+1+1)) W4 V6:=by rw[<-wR];exact(b_.c_ (M:=only (w.heap.size+1+1+1)) B6.o).setCell (p:=⟨w.heap.size+1+1+1,2,none⟩) (.inr rfl) _
   have sD:iT mkSet V6 (w5.heap.size+2) (kj C):=HM6.o.al (by rw[<-wR];exact B8 w6 ⟨w.heap.size+1+1+1,2,none⟩ _ _ (by show w5.heap.size+2≠w.heap.size+1+1+1;omega));have xo:=EP jL;have arN:=sD.lt;have ahd:w6.heap.size<=V6.heap.size:=DD jL.symm;have dN:=ziT C (w5.heap.size+2) V6 sD;clear wR y1 y2 y3 z0 z1 z2 z3 jL;refine dN.mono ?_;rintro e w7 ⟨rfl,W5,b7⟩;have WM:=b7.size;have arZ:=W5.lt;have TE:b_ (only (w.heap.size+1+1+1)) W4 w7:=kP.below b7;have h07:=ar.iF L0.o TE (by unfold only;omega);obtain⟨p0,p1,p2,p3,-⟩:=n_ h07;have hv7:=vr.o.al (S':=S) (w':=w7) (λ_ h=>h) (λg hg=>TE.block g (by have:=HS.o g hg;omega) (by have:=HS.o g hg;unfold only;omega));have iW:=ziR t.size t S _ V6.heap.size C w7 (BU _) aA hv7 (λg hg=>⟨by have:=HS.o g hg;omega,by have:=HS.o g hg;omega⟩) bQ.o W5 (by have:=ma.o;omega);have Uo:=EP iW;have PB7:=EP (tZ.below b7 tZ.lt);have Bi:=EP (sD.al (b7.block _ sD.lt));have C8:=EP TE;clear tZ kP sD dN W5 b7 TE h07 hv7 iW;go_wp2_with fail;refine Uo.o.mono ?_;rintro e w8 ⟨rfl,hm9,c9⟩;have hs9:=c9.size;have yK:=zgb 120 ⟨#[120]⟩ rfl V6.heap.size (C++Gq t) w8 hm9;have Bf:=EP yK;have PB8:=EP (PB7.o.iF c9 (by unfold only;omega));have HM8:=EP (Bi.o.al (c9.block _ Bi.o.lt (by unfold only;omega)));have C9:=EP (C8.o.trans' c9 (λg hg h=>by have h:g=V6.heap.size:=h;omega));clear hm9 c9 yK Uo p0 p1 p2 p3;go_wp2_with fail;refine Bf.o.mono ?_;rintro e w9 ⟨rfl,yN,b9⟩;have arC:=b9.size;have tY:=PB8.o.below b9 PB8.o.lt;obtain⟨-,y1,y2,y3,z0,z1,z2,z3,arI⟩:=n_ tY;have HN9:=EP yN;have PB9:=EP tY;have Uq:=EP (HM8.o.al (b9.block _ HM8.o.lt));have C10:=EP (C9.o.below b9);clear yN tY b9 Bf;unfold G4;go_wp2_with fail;go_meet
   case rel =>
    obtain⟨V9,Ac⟩:∃W,w9.setCell ⟨w.heap.size+1+1+1,3,none⟩ (G4 w8.heap.size (w8.heap.size+2) (w8.heap.size+1))=W:=⟨_,rfl⟩;have jL:=xo.o;have arB:V9.heap.size=w9.heap.size:=by rw[<-Ac];simp
    have k9:∀g,g≠w.heap.size+1+1+1->V9.heap[g]?=w9.heap[g]?:=λg hg=>by rw[<-Ac];exact B8 w9 ⟨w.heap.size+1+1+1,3,none⟩ _ _ hg
    have Y8:ar V9 (w.heap.size+1+1+1) 180 #[FL kl cl,.map (some (w.heap.size+1+1)),.map (some (w5.heap.size+2)),G4 w8.heap.size (w8.heap.size+2) (w8.heap.size+1)]:=Ac▸zqx _ PB9.o;have Xo:b_ (only (w.heap.size+1+1+1)) W4 V9:=by rw[<-Ac];exact C10.o.setCell (p:=⟨w.heap.size+1+1+1,3,none⟩) (.inr rfl) _
    show Hid (b_ (only (w.heap.size+1+1+1)) W4 (w9.setCell ⟨w.heap.size+1+1+1,3,none⟩ (G4 w8.heap.size (w8.heap.size+2) (w8.heap.size+1)))/\Calls prog 103 #[.pointer (some ⟨w.heap.size+1+1+1,0,none⟩),.agg #[.int .i64 K0,.string X,.int .i64 Z,.slice A m cp]] (w9.setCell ⟨w.heap.size+1+1+1,3,none⟩ (G4 w8.heap.size (w8.heap.size+2) (w8.heap.size+1))) (O0 w Su R (w9.setCell ⟨w.heap.size+1+1+1,3,none⟩ (G4 w8.heap.size (w8.heap.size+2) (w8.heap.size+1)))));rw[Ac];have kV:∀g,g<w.heap.size->V9.heap[g]?=W4.heap[g]?:=λg hg=>Xo.block g (by omega) (by unfold only;omega);have fV:Hs 120 w8.heap.size (w8.heap.size+2) (w8.heap.size+1) V6.heap.size (C++Gq t) 0 V9:=HN9.o.al (k9 _ (by omega)) (k9 _ (by omega)) (k9 _ (by omega)) (k9 _ (by omega));have WX:=fV.num.lt;have hjV:J V9:=hJ.al W4 V9 YE.o (by omega) (λg hg=>kV g (Us.o g hg));have fD:iT mkSet V9 (w5.heap.size+2) (kj C):=Uq.o.al (k9 _ (by omega));have gH:FO V9:=AV.o.al (kV _ tI);have hlen:(C++Gq t).length<=95000000:=by rw[Cb,Oy];have:=ma.o;omega
    have cN:=zmr (w.heap.size+1+1+1) (w.heap.size+1+1) kl cl (.map (some (w5.heap.size+2))) (G4 w8.heap.size (w8.heap.size+2) (w8.heap.size+1)) (λx=>decide (x∈C)) (Oc J Su (w.heap.size+1+1+1) (w.heap.size+1+1) kl cl (w5.heap.size+2) V6.heap.size w8.heap.size (w8.heap.size+2) (w8.heap.size+1) C (C++Gq t)) (LN KJ Su (w.heap.size+1+1+1) (w5.heap.size+2) V6.heap.size w8.heap.size (w8.heap.size+2) (w8.heap.size+1)) (only (w8.heap.size+2)) Su (Ie C (C++Gq t)) place (Oc.inv hJ _ _ _ _ _ _ _ _ _ _ _) (λg hg=>by have hg:g=w8.heap.size+2:=hg;unfold LN;simp[hg]) (λg hg=>⟨by unfold LN;simp[hg],λh=>by have h:g=w8.heap.size+2:=h;have:=l9.o g hg;omega⟩)
     (λh=>by
      rcases h with h|h|h|h|h|h|h|h|h
      ·omega
      ·omega
      ·omega
      ·omega
      ·omega
      ·omega
      ·omega
      ·have:=Us.o _ h;omega
      ·have:=l9.o _ h;omega) (.inl rfl) (λh=>by have h:w.heap.size+1+1+1=w8.heap.size+2:=h;omega) (λc s w h=>h.pt) el (VS HP _ _ _ (Oc.inv hJ _ _ _ _ _ _ _ _ _ _ _) (λ_ _ _ h=>h.jj)) (λ_=>True) (λ_ _ _ _=>trivial) (λ_ _ _=>Oc.bind hJ _ _ _ _ _ _ _ _ _ _ _ (by omega) (by omega) (by omega) (by omega) (by omega) (by omega) (λh=>by have:=Us.o _ h;omega) hlen) t.size 0 0 [] t S _ V9 trivial (BU _) (by omega)
     ⟨hjV,λg hg=>by have:=l9.o g hg;omega,Y8,fD,fV,gH,Cw _⟩ (iT.laid FE ((Xo.block _ (by omega) (by unfold only;omega)).trans L2.o)) (vr.o.al (S':=S) (λ_ h=>h) (λg hg=>kV g (HS.o g hg))) (λg hg=>⟨by have:=HS.o g hg;omega,λh=>by have h:g=w8.heap.size+2:=h;have:=HS.o g hg;omega,by have:=HS.o g hg;omega⟩) bQ.o (by have:=Ov t;omega) (by simp;omega)
    have hR:(iF (Ie C (C++Gq t)) (IW place) [] t 0).1=R:=by rw[<-HC.o];exact HR.o
    refine EP ⟨Xo,cN.mono λe w' h=>zku hR (by omega) (λg hg=>?_) h⟩;rcases hg with hg|hg
    ·have hg:g=w8.heap.size+2:=hg;omega
    ·omega
 case rest =>
  obtain⟨hc,ah⟩:=hcut.o;have qZ:=LS.o;have sk:=hc.size;have h0:=ar.iF L0.o hc (by unfold only;omega);obtain⟨p0,p1,p2,p3,-⟩:=n_ h0;have HC:=EP hc;have ak:=EP ah;clear hcut hc ah h0;go_wp2_with fail;refine ak.o.mono ?_;rintro e w9 ⟨k',x',z',a',m',q',rfl,hr,c9⟩;have hs9:=c9.size;have h1:ar w9 (w.heap.size+1) 37 #[.int .i64 0,.string ⟨#[]⟩,.int .i64 0,.slice none 0 0]:=ar.iF (ar.iF L1.o HC.o (by unfold only;omega)) c9 (by omega);obtain⟨i0,i1,i2,i3,i4,i5,i6,i7,i8⟩:=n_ h1;have K5:=EP h1;have rM:=EP hr;have C9:=EP c9;clear h1 hr c9 ak p0 p1 p2 p3;go_wp2_with fail;have hb:=Fh (.int .i64 k') (.string x') (.int .i64 z') (.slice a' m' q') K5.o;have hf:∀g,g≠w.heap.size+1->((((w9.setCell ⟨w.heap.size+1,0,none⟩ (.int .i64 k')).setCell ⟨w.heap.size+1,1,none⟩ (.string x')).setCell ⟨w.heap.size+1,2,none⟩ (.int .i64 z')).setCell ⟨w.heap.size+1,3,none⟩ (.slice a' m' q')).heap[g]?=w9.heap[g]?:=λg hg=>G3 _ _ _ _ _ _ _ hg;have hfs:((((w9.setCell ⟨w.heap.size+1,0,none⟩ (.int .i64 k')).setCell ⟨w.heap.size+1,1,none⟩ (.string x')).setCell ⟨w.heap.size+1,2,none⟩ (.int .i64 z')).setCell ⟨w.heap.size+1,3,none⟩ (.slice a' m' q')).heap.size=w9.heap.size:=by simp
  refine Ce (CW rfl _ _ (w.heap.size+1) 37 _ (0,0) _ rfl hb underlying37 rfl (by kernel_rfl)) rfl ⟨k',x',z',a',m',q',rfl,?_,?_⟩
  ·refine rM.o.al (λg h=>?_) (λg h=>hf g ?_)
   ·rcases h with h|h
    ·exact .inl h
    ·exact .inr ⟨by omega,by rw[hfs];exact h.2⟩
   ·rcases h with h|h
    ·have:=l9.o g h;omega
    ·omega
  ·refine GH ?_ _ _ _ _ (by omega)
   exact(LB.o.trans (HC.o.toBelow (B:=w.heap.size) (by omega) (λk hk h=>by have h:k=w.heap.size+1+1+1:=h;omega))).trans (C9.o.toBelow (B:=w.heap.size) (by omega) (λk hk h=>by omega))
structure TV where
 k:Int
 x:ByteArray
 z:Int
 a:Option Addr
 m:Nat
 p:Nat
def TV.val(v:TV):Value:=.agg #[.int .i64 v.k,.string v.x,.int .i64 v.z,.slice v.a v.m v.p]
def TV.zero:TV:=⟨0,⟨#[]⟩,0,none,0,0⟩
theorem TV.val_inj {v u:TV}(h:v.val=u.val):v=u:=by
 cases v;cases u;unfold TV.val at h;injection h with h;have h:=Cp Array.toList h;simp only[DF,Value.int.injEq,Value.string.injEq,Value.slice.injEq,and_true,true_and]at h;obtain⟨rfl,rfl,rfl,rfl,rfl,rfl⟩:=h;rfl
def Nk:Option Addr->DataW Unit
 |none=>.nil
 |some ⟨b,o,none⟩=>.agg [.lit (.int .i64 (b:Nat)),.lit (.int .i64 (o:Nat))]
 |some ⟨b,o,some s⟩=>.agg [.lit (.int .i64 (b:Nat)),.lit (.int .i64 (o:Nat)),.lit (.int .i64 (s:Nat))]
theorem zos(a b:Option Addr)(h:Nk a=Nk b):a=b:=by
 rcases a with - |⟨a1,a2,- | a3⟩ <;> rcases b with - |⟨b1,b2,- | b3⟩ <;> simp[Nk]at h ⊢
 ·omega
 ·omega
def TV.enc(v:TV):DataW Unit:=.agg [.lit (.int .i64 v.k),.lit (.string v.x.data.toList),.lit (.int .i64 v.z),Nk v.a,.lit (.int .i64 (v.m:Nat)),.lit (.int .i64 (v.p:Nat))]
theorem TV.Nz {v u:TV}(h:v.enc=u.enc):v=u:=by
 obtain⟨k,⟨⟨x⟩⟩,z,a,m,p⟩:=v;obtain⟨k',⟨⟨x'⟩⟩,z',a',m',p'⟩:=u;simp[TV.enc]at h;obtain⟨rfl,rfl,rfl,h4,h5,h6⟩:=h;have h5:m=m':=by omega
 have h6:p=p':=by omega
 rw[zos _ _ h4,h5,h6]
open Classical in
noncomputable def GZ (v:Value):Option (DataW Unit × List MemPlace):=if h:∃u:TV,v=u.val then some (h.choose.enc,[]) else none
theorem zf2(u:TV):GZ u.val=some (u.enc,[]):=by
 have h:∃u':TV,u.val=u'.val:=⟨u,rfl⟩;unfold GZ;rw[dif_pos h,<-TV.val_inj h.choose_spec]
theorem zf3 {x:Value} {v:TV} {ps:List MemPlace}(h:GZ x=some (v.enc,ps)):x=v.val:=by
 unfold GZ at h;split at h
 ·rename_i hx
  injection h with h;injection h with h _;rw[<-TV.Nz h]
  exact hx.choose_spec
 ·cases h
def MKJ(S:Nat->Prop)(fb mb:Nat)(g:Nat):Prop:=g=fb\/g=mb\/S g
def Iv {V:Type}(x:Nat):List (Nat × V)->Option V
 |[]=>none
 |p::r=>if p.1=x then some p.2 else Iv x r
def Jr:List (Nat × TV)->DataW Unit
 |[]=>.map []
 |p::r=>(Jr r).put (.int .i64 p.1) p.2.enc
theorem SM:∀r,Tidy (Jr r)
 |[]=>tidy_empty
 |_::r=>(SM r).put (P7 _) _
theorem ziy:∀r,Maps.size (Jr r)<=r.length
 |[]=>by simp[Jr,Maps.size]
 |_::r=>by
  have:=ziy r;rw[Jr,size_put (SM r),Ca];split <;> omega
theorem zjV(x:Nat):∀r,Maps.has (Jr r) (.int .i64 x)=(Iv x r).isSome
 |[]=>rfl
 |p::r=>by
  rw[Jr,Iv];by_cases h:p.1=x
  ·rw[Ch h,<-h,has_put_same (SM r).isMap (P7 _)];rfl
  ·rw[Cg h,has_put_other (λe=>h (by injection e with _ e;omega)),zjV x r]
theorem zkZ(x:Nat)(z:DataW Unit):∀r,(Jr r).atKey (.int .i64 x) z=((Iv x r).map TV.enc).getD z
 |[]=>rfl
 |p::r=>by
  rw[Jr,Iv];by_cases h:p.1=x
  ·rw[Ch h,<-h,atKey_put_same (SM r).isMap (P7 _)];rfl
  ·rw[Cg h,atKey_put_other (λe=>h (by injection e with _ e;omega)),zkZ x z r]
def Ia(w:World)(b:Nat)(r:List (Nat × TV)):Prop:=∃n,n<=r.length/\w.ownsMap prog 3 GZ b n (Jr r)
theorem zrH {w:World} {b n:Nat} {D:DataW Unit}(h:w.ownsMap prog 3 GZ b n D):w.ownsMap prog 3 GZ b (Maps.size D) D:=by
 obtain⟨es,clock,hb,F,_,rfl⟩:=h;exact⟨es,clock,hb,F,by simp[Maps.size,length_sorted],rfl⟩
theorem Ia.lt {w:World} {b:Nat} {r:List (Nat × TV)}(h:Ia w b r):b<w.heap.size:=by obtain⟨_,_,h⟩:=h;exact h.lt
theorem Ia.al {w w':World} {b:Nat} {r:List (Nat × TV)}(h:Ia w b r)(hk:w'.heap[b]?=w.heap[b]?):Ia w' b r:=by
 obtain⟨n,hn,es,clock,hb,F,hs,hD⟩:=h;exact⟨n,hn,es,clock,hk.trans hb,F,hs,hD⟩
def Ro:Option TV->Value
 |none=>TV.zero.val
 |some v=>v.val
theorem Ia.He {w:World} {b:Nat} {r:List (Nat × TV)}(h:Ia w b r)(x:Nat)(hx:x<=999999):(Instr.lookup 109 (.map (some b)) (.int .i64 x) true).run prog w=.ok (.tuple #[Ro (Iv x r),.bool (Iv x r).isSome]) w:=by
 obtain⟨n,_,h⟩:=h;obtain⟨v,ps,aC,hv⟩:=h.look_ok Is underlying109 (z:=TV.zero.val) (by kernel_rfl) (zd:=TV.zero.enc) (zp:=[]) (zf2 _) (Kd x hx);rw[aC,zjV];rw[zkZ]at hv;cases hl:Iv x r with
 |none=>rw[hl]at hv;rw[zf3 hv];rfl
 |some u=>rw[hl]at hv;rw[zf3 hv];rfl
def Gs(S:Nat->Prop)(w:World):List (Nat × Ty)->List (Nat × TV)->Prop
 |[],[]=>True
 |(x,t)::r,(y,v)::q=>x=y/\nc S w t v.val/\Gs S w r q
 |_,_=>False
theorem Gs.al {S S':Nat->Prop} {w w':World}(hS:∀g,S g->S' g)(hk:∀g,S g->w'.heap[g]?=w.heap[g]?):∀(r:List (Nat × Ty))(q:List (Nat × TV)),Gs S w r q->Gs S' w' r q
 |[],[],_=>trivial
 |(x,t)::r,(y,v)::q,h=>by
  rw[Gs]at h ⊢;exact⟨h.1,h.2.1.al hS hk,Gs.al hS hk r q h.2.2⟩
 |[],_::_,h=>h.elim
 |_::_,[],h=>h.elim
theorem Gs.found {S:Nat->Prop} {w:World}(x:Nat):∀(r:List (Nat × Ty))(q:List (Nat × TV)),Gs S w r q ->
  (Iv x r=none/\Iv x q=none)\/∃t v,Iv x r=some t/\Iv x q=some v/\nc S w t v.val
 |[],[],_=>.inl ⟨rfl,rfl⟩
 |(y,t)::r,(z,v)::q,h=>by
  rw[Gs]at h;obtain⟨rfl,h1,h2⟩:=h;rw[Iv,Iv];by_cases hy:y=x
  ·rw[Ch hy,Ch hy];exact .inr ⟨t,v,rfl,rfl,h1⟩
  ·rw[Cg hy,Cg hy];exact Gs.found x r q h2
 |[],_::_,h=>h.elim
 |_::_,[],h=>h.elim
def LO(S:Nat->Prop)(w:World)(b:Nat)(r:List (Nat × Ty)):Prop:=∃q,Ia w b q/\Gs S w r q
theorem LO.lt {S:Nat->Prop} {w:World} {b:Nat} {r:List (Nat × Ty)}(h:LO S w b r):b<w.heap.size:=by obtain⟨_,h,_⟩:=h;exact h.lt
theorem LO.al {S S':Nat->Prop} {w w':World} {b:Nat} {r:List (Nat × Ty)}(h:LO S w b r)(hS:∀g,S g->S' g)(hb:w'.heap[b]?=w.heap[b]?)(hk:∀g,S g->w'.heap[g]?=w.heap[g]?):LO S' w' b r:=by
 obtain⟨q,h1,h2⟩:=h;exact⟨q,h1.al hb,Gs.al hS hk r q h2⟩
def JG(r:List (Nat × Ty)):Ty->Option Ty
 |.mt n=>Iv n r
 |_=>none
def TJ(S:Nat->Prop)(fb mb:Nat)(r:List (Nat × Ty))(w:World):Prop:=ar w fb 109 #[.map (some mb)]/\LO S w mb r/\∀g,S g->g<w.heap.size
theorem TJ.kept(S:Nat->Prop)(fb mb:Nat)(r:List (Nat × Ty)):Kept (TJ S fb mb r) (MKJ S fb mb) where
 lt w h g hg:=by
  obtain⟨h1,h2,h3⟩:=h;rcases hg with rfl|rfl|hg
  ·exact h1.lt
  ·exact h2.lt
  ·exact h3 g hg
 al w w' h hs hk:=by
  obtain⟨h1,h2,h3⟩:=h;exact⟨h1.same (hk _ (.inl rfl)),h2.al (λ_ h=>h) (hk _ (.inr (.inl rfl))) (λg hg=>hk g (.inr (.inr hg))),λg hg=>Ci (h3 g hg) hs⟩
end
section
open Go.RowKit Lx Tx Go.Maps Go.WideMaps Go.Shelf
set_option maxRecDepth 100000
theorem zpY(S:Nat->Prop)(fb mb:Nat)(r:List (Nat × Ty)):UY 58 #[.pointer (some ⟨fb,0,none⟩)] (TJ S fb mb r) S (JG r):=by
 intro t St v w hj hv TO eA aw;obtain⟨k,X,Z,A,m,cp,rfl,hk,hX,hZ,cG,-⟩:=hv.parts;have zg:=(TJ.kept S fb mb r).al;have hlj:=(TJ.kept S fb mb r).lt w hj;obtain⟨l0,l1,ls,lb⟩:=IC w (.cells #[.int .i64 k,.string X,.int .i64 Z,.slice A m cp] 37) (.cells #[.int .i64 0,.string ⟨#[]⟩,.int .i64 0,.slice none 0 0] 37);obtain⟨W2,iL⟩:∃W,(w.alloc (.cells #[.int .i64 k,.string X,.int .i64 Z,.slice A m cp] 37)).alloc (.cells #[.int .i64 0,.string ⟨#[]⟩,.int .i64 0,.slice none 0 0] 37)=W:=⟨_,rfl⟩;rw[iL]at l0 l1 ls lb;have rj:=zg w W2 hj lb.size (λg hg=>lb.block g (hlj g hg));obtain⟨aV,⟨q,iC,fw⟩,aZ⟩:=rj;have hN6:nn t<=999999:=by cases aw <;> first|exact Cw _|assumption
 have bw:=iC.He (nn t) hN6;obtain⟨V,qb,hV,WR,hqf⟩:∃(V:TV) (qb:Bool),(Ro (Iv (nn t) q)=V.val/\(Iv (nn t) q).isSome=qb)/\(qb=true->∃u,Iv (nn t) r=some u/\nc S W2 u V.val)/\(qb=false->Iv (nn t) r=none):=by
  rcases Gs.found (nn t) r q fw with⟨h1,h2⟩|⟨u,V,h1,h2,h3⟩
  ·rw[h1,h2];exact⟨TV.zero,false,⟨rfl,rfl⟩,(λh=>absurd h (by simp)),λ_=>rfl⟩
  ·rw[h1,h2];exact⟨V,true,⟨rfl,rfl⟩,(λ_=>⟨u,rfl,h3⟩),(λh=>absurd h (by simp))⟩
 rw[hV.1,hV.2]at bw;obtain⟨k',x',z',a',m',p'⟩:=V;unfold TV.val at bw WR;rw[<-hZ]at bw;replace bw:(Instr.lookup 109 (.map (some mb)) (.int .i64 Z) true).run prog W2=.ok (.tuple #[.agg #[.int .i64 k',.string x',.int .i64 z',.slice a' m' p'],.bool qb]) W2:=bw;obtain⟨e0,e1,e2,e3,e4,e5,e6,e7,e8⟩:=n_ (show ar W2 w.heap.size 37 _ from l0);obtain⟨o0,o1,o2⟩:=GG aV;have HK:=EP hk;have HX:=EP hX;have eT:=EP cG;have xg:=EP iL;have HQT:=EP WR;have HQF:=EP hqf;have LB:=EP lb;have LS:=EP ls;have L1:=EP l1;have cE:=EP aZ;have HSJ:=EP hj.2.2;have L0:=EP l0;clear hk hX hZ cG iL WR hqf lb ls l0 l1 aZ hj hv TO aw hlj aV iC fw hN6 hV zg;go_in;go_upto_region 1 with fail;rw[xg.o];go_upto_region 2 with fail;obtain⟨V3,TM⟩:∃W,W2.alloc (.cells #[.int .i64 k',.string x',.int .i64 z',.slice a' m' p'] 37)=W:=⟨_,rfl⟩;rw[TM];have jA:Below W2.heap.size W2 V3:=TM▸(Cc _ W2).alloc (BU _) _;have h5:ar V3 W2.heap.size 37 #[.int .i64 k',.string x',.int .i64 z',.slice a' m' p']:=TM▸BZ _ _;have qZ:=LS.o;have h1:ar V3 (w.heap.size+1) 37 #[.int .i64 0,.string ⟨#[]⟩,.int .i64 0,.slice none 0 0]:=ar.below (w:=W2) L1.o jA (by omega);have h0:ar V3 w.heap.size 37 #[.int .i64 k,.string X,.int .i64 Z,.slice A m cp]:=ar.below (w:=W2) L0.o jA (by omega);obtain⟨c0,c1,c2,c3,-⟩:=n_ h5;obtain⟨y0,y1,y2,y3,z0,z1,z2,z3,Tj⟩:=n_ h1;obtain⟨f0,-⟩:=n_ h0;have K1:=EP h1;have gF:=EP jA;have j8:∀g,g≠w.heap.size+1->((((V3.setCell ⟨w.heap.size+1,0,none⟩ (.int .i64 k')).setCell ⟨w.heap.size+1,1,none⟩ (.string x')).setCell ⟨w.heap.size+1,2,none⟩ (.int .i64 z')).setCell ⟨w.heap.size+1,3,none⟩ (.slice a' m' p')).drew.heap[g]?=V3.heap[g]?:=λg hg=>G3 _ _ _ _ _ _ _ hg;have aI:Below w.heap.size w ((((V3.setCell ⟨w.heap.size+1,0,none⟩ (.int .i64 k')).setCell ⟨w.heap.size+1,1,none⟩ (.string x')).setCell ⟨w.heap.size+1,2,none⟩ (.int .i64 z')).setCell ⟨w.heap.size+1,3,none⟩ (.slice a' m' p')).drew:=(GH (LB.o.trans (jA.mono (by omega))) _ _ _ _ (by omega)).drew;have lv:=EP j8;have aF:=EP aI;have xn:=EP qZ;have ig:∀q',q'=(qb &&(k:Int)==2)->(q'=true->∃u,JG r t=some u/\nc S ((((V3.setCell ⟨w.heap.size+1,0,none⟩ (.int .i64 k')).setCell ⟨w.heap.size+1,1,none⟩ (.string x')).setCell ⟨w.heap.size+1,2,none⟩ (.int .i64 z')).setCell ⟨w.heap.size+1,3,none⟩ (.slice a' m' p')).drew u (.agg #[.int .i64 k',.string x',.int .i64 z',.slice a' m' p']))/\(q'=false->JG r t=none):=by
  intro q' fx;subst fx;have hk:=HK.o;cases t with
  |var x =>
   have d1:((k:Int)==2)=false:=by rw[hk];rfl
   rw[d1,Bool.and_false];exact⟨λh=>absurd h (by simp),λ_=>rfl⟩
  |mt n =>
   have d1:((k:Int)==2)=true:=by rw[hk];rfl
   rw[d1,Bool.and_true];refine⟨λhq=>?_,λhq=>HQF.o hq⟩;obtain⟨u,h1,h2⟩:=HQT.o hq;refine⟨u,h1,h2.al (λ_ h=>h) (λg hg=>(lv.o g ?_).trans (gF.o.block g (cE.o g hg)))⟩;have:=HSJ.o g hg;omega
  |h_ c l=>simp[kd]at eA
  |fn a b=>simp[kd]at eA
  |all x t=>simp[kd]at eA
 have YC:=EP ig;clear TM jA h5 qZ h1 h0 j8 aI ig HQT HQF bw;cases qb with
 |false =>
  go_region
  all_goals
   go_wp2_with fail;try simp only[Exit.inBlock,Exit.then]
   refine Ce (FC rfl _ _ (w.heap.size+1) 37 _ (0,0) _ rfl (Fh _ _ _ _ K1.o).drew underlying37 rfl (by kernel_rfl)) rfl ?_;obtain⟨g1,g2⟩:=YC.o false (by simp);exact⟨k',x',z',a',m',p',false,rfl,g1,g2,aF.o⟩
 |true =>
  cases hd:((k:Int)==2) with
  |false =>
   go_region
   all_goals
    go_wp2_with fail;try simp only[Exit.inBlock,Exit.then]
    refine Ce (FC rfl _ _ (w.heap.size+1) 37 _ (0,0) _ rfl (Fh _ _ _ _ K1.o).drew underlying37 rfl (by kernel_rfl)) rfl ?_;obtain⟨g1,g2⟩:=YC.o false (by rw[hd];rfl);exact⟨k',x',z',a',m',p',false,rfl,g1,g2,aF.o⟩
  |true =>
   go_region
   all_goals
    go_wp2_with fail;try simp only[Exit.inBlock,Exit.then]
    refine Ce (FC rfl _ _ (w.heap.size+1) 37 _ (0,0) _ rfl (Fh _ _ _ _ K1.o).drew underlying37 rfl (by kernel_rfl)) rfl ?_;obtain⟨g1,g2⟩:=YC.o true (by rw[hd];rfl);exact⟨k',x',z',a',m',p',true,rfl,g1,g2,aF.o⟩
set_option maxRecDepth 100000
theorem Kn.Pa:(t:Ty)->∀but:List Name,(∀x∈Gq t,x∈but)->Kn but t:=by
 intro t;refine Ty.rec (motive_1:=λt=>∀but:List Name,(∀x∈Gq t,x∈but)->Kn but t) (motive_2:=λl=>∀but:List Name,(∀x∈FB l,x∈but)->K_ but l) ?_ ?_ ?_ ?_ ?_ ?_ ?_ t
 ·intro x but h;rw[Kn];exact h x (by rw[Gq];exact Cx.2 rfl)
 ·intro n but h;rw[Kn];trivial
 ·intro c l ih but h;rw[Kn];exact ih but (λx hx=>h x (by rw[Gq];exact Cf _ hx))
 ·intro a b dC dR but h;rw[Kn]
  exact⟨dC but (λx hx=>h x (by rw[Gq];exact Cf _ (CZ _ hx))),dR but (λx hx=>h x (by rw[Gq];exact Cf _ (CP _ hx)))⟩
 ·intro x t ih but h;rw[Kn]
  exact⟨h x (by rw[Gq];exact Cs ..),ih but (λy hy=>h y (by rw[Gq];exact Cf _ hy))⟩
 ·intro but _;rw[K_];trivial
 ·intro a r dC Wz but h;rw[K_]
  exact⟨dC but (λx hx=>h x (by rw[FB];exact CZ _ hx)),Wz but (λx hx=>h x (by rw[FB];exact CP _ hx))⟩
def Fp(place:Ty->Option Ty)(x:Name):Dt:=db [] (IW place (.var x))
def Gp(place:Ty->Option Ty)(n:Nat):Dt:=db [] (IW place (.mt n))
def O8(place:Ty->Option Ty)(cat:List Name)(x:Name):Prop:=∀u,place (.var x)=some u->∀z,k_ z (db [] u)->z∈cat
def O9(place:Ty->Option Ty)(cat:List Name)(n:Nat):Prop:=∀u,place (.mt n)=some u->∀z,k_ z (db [] u)->z∈cat
def zrJ(place:Ty->Option Ty)(but ys:List Name)(d:Dt)(k f:Nat)(r:Ty × Nat):Prop :=
 db ys r.1=Bx (Fp place) (Gp place) d/\k<=r.2/\r.2<=k+f*(but.length+1)
def zrl(place:Ty->Option Ty)(but ys:List Name)(d:List Dt)(k f:Nat)(r:List Ty × Nat):Prop :=
 Fz ys r.1=JF (Fp place) (Gp place) d/\k<=r.2/\r.2<=k+f*(but.length+1)
mutual
theorem PY(place:Ty->Option Ty)(cat but:List Name)(ik:∀x∈cat,x∈but):(t:Ty)->∀(env:List (Name × Name))(xs ys:List Name)(k:Nat),
  Ren but env xs ys k->Kn but t->(∀y∈ys,y∉cat)->(∀x,k_ x (db xs t)->O8 place cat x)->(∀n,a_ n (db xs t)->O9 place cat n)->k+(t.E7+1)*(but.length+1)<10 ^ 15 ->
  zrJ place but ys (db xs t) k t.E7 (iF (Ie cat but) (IW place) env t k)
 |.var x,env,xs,ys,k,hr,hn,hp,hv,_,_=>by
  rw[Kn]at hn;rw[db]at hv;rw[iF,hr.lk,Ty.E7,db];refine⟨?_,BU _,D4 _ _⟩;cases hi:idx x xs with
  |some i =>
   show db ys (.var (ys.getD i []))=_;rw[db,(hr.hit x hn i hi).2,Bx]
  |none =>
   rw[hi]at hv;have hv:=hv x (by rw[k_]);show db ys (IW place (.var x))=_;rw[Bx,Fp];unfold IW;cases hq:place (.var x) with
   |some u=>exact zjt ys u (λz hz hm=>hp z hm (hv u hq z hz))
   |none =>
    show db ys (.var x)=db [] (.var x);rw[db,db,(Sp x ys).2 (hr.miss x hn hi)];rfl
 |.mt n,env,xs,ys,k,hr,hn,hp,_,hm,_=>by
  rw[db]at hm;have hm:=hm n (by rw[a_]);rw[iF,Ty.E7,db];refine⟨?_,BU _,D4 _ _⟩;rw[Bx,Gp];show db ys (IW place (.mt n))=_;unfold IW;cases hq:place (.mt n) with
  |some u=>exact zjt ys u (λz hz cQ=>hp z cQ (hm u hq z hz))
  |none=>show db ys (.mt n)=db [] (.mt n);rw[db,db]
 |.h_ c l,env,xs,ys,k,hr,hn,hp,hv,hm,hb=>by
  rw[Kn]at hn;rw[db]at hv hm;rw[Ty.E7]at hb ⊢;obtain⟨h1,h3,h4⟩:=zhN place cat but ik l env xs ys k hr hn hp (λx hx=>hv x (by rw[k_];exact hx)) (λx hx=>hm x (by rw[a_];exact hx)) hb;rw[iF,db];exact⟨by show db ys (.h_ c _)=_;rw[db,Bx,h1],h3,h4⟩
 |.fn a b,env,xs,ys,k,hr,hn,hp,hv,hm,hb=>by
  rw[Kn]at hn;rw[db]at hv hm;rw[Ty.E7]at hb ⊢;have e:(a.E7+b.E7+1)*(but.length+1)=a.E7*(but.length+1)+(b.E7+1)*(but.length+1):=by rw[<-Cy,DN]
  have e3:(b.E7+1)*(but.length+1)=b.E7*(but.length+1)+(but.length+1):=by rw[Cy,Da]
  have e4:(a.E7+1)*(but.length+1)=a.E7*(but.length+1)+(but.length+1):=by rw[Cy,Da]
  obtain⟨h1,h3,h4⟩:=PY place cat but ik a env xs ys k hr hn.1 hp (λx hx=>hv x (by rw[k_];exact .inl hx)) (λx hx=>hm x (by rw[a_];exact .inl hx)) (by omega);obtain⟨j1,j3,j4⟩:=PY place cat but ik b env xs ys _ (hr.more but h3) hn.2 hp (λx hx=>hv x (by rw[k_];exact .inr hx)) (λx hx=>hm x (by rw[a_];exact .inr hx)) (by omega);rw[iF,db];refine⟨by show db ys (.fn _ _)=_;rw[db,Bx,h1,j1],Cm h3 j3,Cm j4 ?_⟩;rw[Cy];omega
 |.all x t,env,xs,ys,k,hr,hn,hp,hv,hm,hb=>by
  rw[Kn]at hn;rw[db]at hv hm;rw[Ty.E7]at hb ⊢;have e4:(t.E7+1+1)*(but.length+1)=t.E7*(but.length+1)+(but.length+1)+(but.length+1):=by rw[Cy,Cy,Da]
  have e5:(t.E7+1)*(but.length+1)=t.E7*(but.length+1)+(but.length+1):=by rw[Cy,Da]
  have jK:∀y,k_ y (db (x::xs) t)->O8 place cat y:=λy hy=>hv y (by rw[k_];exact hy);have cQ:∀y,a_ y (db (x::xs) t)->O9 place cat y:=λy hy=>hm y (by rw[a_];exact hy);rw[iF,db]
  by_cases hc:x∈cat
  ·have gQ:Ie cat but x k=(nm 120 (FY 120 but k),FY 120 but k+1):=by unfold Ie;rw[Ch hc]
   rw[gQ];obtain⟨n0,n1,n2⟩:=MX 120 but k (by omega);obtain⟨h1,h3,h4⟩:=PY place cat but ik t _ (x::xs) (nm 120 (FY 120 but k)::ys) (FY 120 but k+1) (hr.fresh but x (by omega)) hn.2 (λy hy=>by
    rcases Cd.1 hy with rfl|hy
    ·exact λhm=>n0 (ik _ hm)
    ·exact hp y hy) jK cQ (by omega)
   exact⟨by show db ys (.all _ _)=_;rw[db,Bx,h1],Cm (by omega) h3,Cm h4 (by omega)⟩
  ·have gQ:Ie cat but x k=(x,k):=by unfold Ie;rw[Cg hc]
   rw[gQ];obtain⟨h1,h3,h4⟩:=PY place cat but ik t _ (x::xs) (x::ys) k (hr.al but x hn.1) hn.2 (λy hy=>by
    rcases Cd.1 hy with rfl|hy
    ·exact hc
    ·exact hp y hy) jK cQ (by omega)
   exact⟨by show db ys (.all _ _)=_;rw[db,Bx,h1],Cm (by omega) h3,Cm h4 (by omega)⟩
theorem zhN(place:Ty->Option Ty)(cat but:List Name)(ik:∀x∈cat,x∈but):(l:List Ty)->∀(env:List (Name × Name))(xs ys:List Name)(k:Nat),
  Ren but env xs ys k->K_ but l->(∀y∈ys,y∉cat)->(∀x,Ko x (Fz xs l)->O8 place cat x)->(∀n,Lm n (Fz xs l)->O9 place cat n)->k+(C' l+1)*(but.length+1)<10 ^ 15 ->
  zrl place but ys (Fz xs l) k (C' l) (D_ (Ie cat but) (IW place) env l k)
 |[],env,xs,ys,k,_,_,_,_,_,_=>by
  rw[D_,Fz,C'];exact⟨by show Fz ys []=_;rw[Fz,JF],BU _,D4 _ _⟩
 |a::b,env,xs,ys,k,hr,hn,hp,hv,hm,hb=>by
  rw[K_]at hn;rw[Fz]at hv hm;rw[C']at hb ⊢;have e:(a.E7+C' b+1)*(but.length+1)=a.E7*(but.length+1)+(C' b+1)*(but.length+1):=by rw[<-Cy,DN]
  have e3:(C' b+1)*(but.length+1)=C' b*(but.length+1)+(but.length+1):=by rw[Cy,Da]
  have e4:(a.E7+1)*(but.length+1)=a.E7*(but.length+1)+(but.length+1):=by rw[Cy,Da]
  obtain⟨h1,h3,h4⟩:=PY place cat but ik a env xs ys k hr hn.1 hp (λx hx=>hv x (by rw[Ko];exact .inl hx)) (λx hx=>hm x (by rw[Lm];exact .inl hx)) (by omega);obtain⟨j1,j3,j4⟩:=zhN place cat but ik b env xs ys _ (hr.more but h3) hn.2 hp (λx hx=>hv x (by rw[Ko];exact .inr hx)) (λx hx=>hm x (by rw[Lm];exact .inr hx)) (by omega);rw[D_,Fz];refine⟨by show Fz ys (_::_)=_;rw[Fz,JF,h1,j1],Cm h3 j3,Cm j4 ?_⟩;rw[Cy];omega
end
theorem zle(u:Ty)(n:Nat):n∈Ig u↔a_ n (db [] u):=by
 rw[zh5];show n∈u.z_ []↔_;rw[QG [] u,MI];simp
theorem zkv {place:Ty->Option Ty} {t u:Ty}(h:place t=some u) {z:Name}(hz:k_ z (db [] u)):z∈Fo place t:=by
 unfold Fo;rw[h];exact(zia u z).2 hz
theorem zot(place:Ty->Option Ty)(t:Ty)(hb:0+(t.E7+1)*((p_ place t++Gq t).length+1)<10 ^ 15):db [] (J8 place t)=Bx (Fp place) (Gp place) (db [] t):=by
 refine(PY place (p_ place t) (p_ place t++Gq t) (λx hx=>CZ _ hx) t [] [] [] 0 (Ren.nil _) (Kn.Pa t _ (λx hx=>CP _ hx)) (λy hy=>(CI hy).elim) (λx hx u hu z hz=>?_) (λn hx u hu z hz=>?_) ?_).1
 ·exact CZ _ (D5.2 ⟨x,(zia t x).2 hx,zkv hu hz⟩)
 ·exact CP _ (D5.2 ⟨n,(zle t n).2 hx,zkv hu hz⟩)
 ·exact hb
theorem zou(place:Ty->Option Ty)(t:Ty)(ht:t.size<=1000000)(hr:(p_ place t).length<=90000000):0+(t.E7+1)*((p_ place t++Gq t).length+1)<10 ^ 15:=by
 have h1:=Ov t;have h2:=Oy t;have h3:(t.E7+1)*((p_ place t++Gq t).length+1)<=1000001*91000001:=Ek (by omega) (by rw[Cb];omega);omega
theorem zmu(place:Ty->Option Ty)(t:Ty)(hp:t.r_=false)(ht:t.size<=1000000000000)(hr:(p_ place t).length<=90000000000000):0+(t.E7+1)*((p_ place t++Gq t).length+1)<10 ^ 15:=by
 have h1:=QE t hp;have h2:=Oy t;rw[h1,Cb];omega
set_option maxRecDepth 100000
theorem zlf(free but:List Name)(x:Name)(s:Nat):(Ie free but x s).1=x/\(Ie free but x s).2=s\/(Ie free but x s).1=nm 120 (FY 120 but s)/\(Ie free but x s).2=FY 120 but s+1:=by
 unfold Ie;split
 ·exact .inr ⟨rfl,rfl⟩
 ·exact .inl ⟨rfl,rfl⟩
mutual
theorem Qw(free but:List Name)(leaf:Ty->Ty)(hl:∀t,kd t=1\/kd t=2->Nm t->Nm (leaf t)):(t:Ty)->∀(env:List (Name × Name))(s:Nat),(∀p∈env,Gd 1 p.2)->Nm t->s+(t.E7+1)*(but.length+1)<10 ^ 15 ->
  Nm (iF (Ie free but) leaf env t s).1/\(iF (Ie free but) leaf env t s).2<=s+t.E7*(but.length+1)
 |.var x,env,s,he,hn,hb=>by
  rw[iF];refine⟨?_,D4 _ _⟩;cases h:look x env with
  |none=>exact hl _ (.inl rfl) hn
  |some y =>
   obtain⟨p,hp,rfl⟩:=zjk x y env h;exact .var _ (he p hp)
 |.mt n,env,s,he,hn,hb=>by rw[iF];exact⟨hl _ (.inr rfl) hn,D4 _ _⟩
 |.h_ c l,env,s,he,hn,hb=>by
  rw[iF];rw[Ty.E7]at hb ⊢;cases hn with
  |h_ _ _ hc hk =>
   obtain⟨h1,h2⟩:=ziY free but leaf hl l env s he hk hb;exact⟨.h_ c _ hc h1,h2⟩
 |.fn a b,env,s,he,hn,hb=>by
  rw[iF];rw[Ty.E7]at hb ⊢;have e:(a.E7+b.E7+1)*(but.length+1)=a.E7*(but.length+1)+(b.E7+1)*(but.length+1):=by rw[<-Cy,DN]
  have e3:(b.E7+1)*(but.length+1)=b.E7*(but.length+1)+(but.length+1):=by rw[Cy,Da]
  have e4:(a.E7+1)*(but.length+1)=a.E7*(but.length+1)+(but.length+1):=by rw[Cy,Da]
  cases hn with
  |fn _ _ ha aV =>
   obtain⟨h1,h2⟩:=Qw free but leaf hl a env s he ha (by omega);obtain⟨j1,j2⟩:=Qw free but leaf hl b env (iF (Ie free but) leaf env a s).2 he aV (by omega);exact⟨.fn _ _ h1 j1,Cm j2 (by rw[Cy];omega)⟩
 |.all x t,env,s,he,hn,hb=>by
  rw[iF];rw[Ty.E7]at hb ⊢;have e4:(t.E7+1+1)*(but.length+1)=t.E7*(but.length+1)+(but.length+1)+(but.length+1):=by rw[Cy,Cy,Da]
  have e5:(t.E7+1)*(but.length+1)=t.E7*(but.length+1)+(but.length+1):=by rw[Cy,Da]
  obtain⟨_,n1,n2⟩:=MX 120 but s (by omega);cases hn with
  |all _ _ hx ht =>
   have hg:Gd 1 (Ie free but x s).1/\(Ie free but x s).2<=s+(but.length+1):=by
    rcases zlf free but x s with⟨e1,e2⟩|⟨e1,e2⟩
    ·exact⟨by rw[e1];exact hx,by omega⟩
    ·exact⟨by rw[e1];exact UL _ (by omega),by omega⟩
   obtain⟨h1,h2⟩:=Qw free but leaf hl t ((x,(Ie free but x s).1)::env) (Ie free but x s).2 (λp hp=>by
    rcases Cd.1 hp with rfl|hp
    ·exact hg.1
    ·exact he p hp) ht (by omega)
   exact⟨.all _ _ hg.1 h1,Cm h2 (by omega)⟩
theorem ziY(free but:List Name)(leaf:Ty->Ty)(hl:∀t,kd t=1\/kd t=2->Nm t->Nm (leaf t)):(l:List Ty)->∀(env:List (Name × Name))(s:Nat),(∀p∈env,Gd 1 p.2)->(∀t∈l,Nm t)->s+(C' l+1)*(but.length+1)<10 ^ 15 ->
  (∀t∈(D_ (Ie free but) leaf env l s).1,Nm t)/\(D_ (Ie free but) leaf env l s).2<=s+C' l*(but.length+1)
 |[],env,s,he,hn,hb=>by rw[D_];exact⟨λt ht=>(CI ht).elim,D4 _ _⟩
 |a::b,env,s,he,hn,hb=>by
  rw[D_];rw[C']at hb ⊢;have e:(a.E7+C' b+1)*(but.length+1)=a.E7*(but.length+1)+(C' b+1)*(but.length+1):=by rw[<-Cy,DN]
  have e3:(C' b+1)*(but.length+1)=C' b*(but.length+1)+(but.length+1):=by rw[Cy,Da]
  have e4:(a.E7+1)*(but.length+1)=a.E7*(but.length+1)+(but.length+1):=by rw[Cy,Da]
  obtain⟨h1,h2⟩:=Qw free but leaf hl a env s he (hn a Cs) (by omega);obtain⟨j1,j2⟩:=ziY free but leaf hl b env (iF (Ie free but) leaf env a s).2 he (λt ht=>hn t (Cf _ ht)) (by omega);refine⟨λt ht=>?_,Cm j2 (by rw[Cy];omega)⟩;rcases Cd.1 ht with rfl|ht
  ·exact h1
  ·exact j1 t ht
end
theorem zov(place:Ty->Option Ty)(t:Ty)(hb:0+(t.E7+1)*((p_ place t++Gq t).length+1)<10 ^ 15)(hn:Nm t)(hp:∀t u,place t=some u->Nm u):Nm (J8 place t):=by
 unfold J8;refine(Qw _ _ _ (λl _ hl=>?_) t [] 0 (λ_ h=>(CI h).elim) hn ?_).1
 ·unfold IW
  cases h:place l with
  |none=>exact hl
  |some u=>exact hp l u h
 ·exact hb
theorem zmv(l:Ty)(hk:kd l=1\/kd l=2):l.size=1:=by
 cases l with
 |var x=>rw[Gv];simp[kids,q_]
 |mt n=>rw[Gv];simp[kids,q_]
 |h_ c l=>simp[kd]at hk
 |fn a b=>simp[kd]at hk
 |all x t=>simp[kd]at hk
theorem zmw(place:Ty->Option Ty)(t:Ty)(B:Nat)(hB:1<=B)(hp:∀t u,place t=some u->u.size<=B):(J8 place t).size<=t.size*B:=by
 unfold J8;refine QO _ _ B hB (λl hk=>?_) t [] 0;unfold IW;cases h:place l with
 |none=>have:=zmv l hk;show l.size<=B;omega
 |some u=>exact hp l u h
end
end Go.Proofs.YtfafilmklhnngaaGreatDoor
