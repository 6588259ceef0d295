import Derived.Test.YtfafilmklhnngaaGreatDoorBzA
import Derived.Test.YtfafilmklhnngaaGreatDoorBsAN
import Derived.Deep.Cut
import Derived.Deep.CutRange
set_option maxHeartbeats 12800000
set_option maxRecDepth 100000
namespace Go.Proofs.YtfafilmklhnngaaGreatDoor
open Tryz
section
open Go.RowKit Lx Tx Go.Maps Go.WideMaps Go.Shelf
set_option maxRecDepth 100000
theorem nearL_take {L:List Nat} {k x:Nat}(h:L[k]?=some x)(h0:nearL (L.take k)=true)(hx:x<400000):nearL (L.take (k+1))=true:=by
 unfold nearL at h0 ⊢;rw[D9,h,List.all_append,h0];simpa using hx
theorem nearL_not {L:List Nat} {k x:Nat}(h:L[k]?=some x)(hx:400000<=x):nearL L=false:=by
 unfold nearL;rw[List.all_eq_false];exact⟨x,CG h,by simpa using hx⟩
theorem nearQ_take {ts:List (Ty × Ty)} {i:Nat} {t u:Ty}(h:ts[i]?=some (t,u))(h0:nearQ (ts.take i)=true)(hx:nearL (t.RA++u.RA)=true):nearQ (ts.take (i+1))=true:=by
 unfold nearQ at h0 ⊢;rw[D9,h,List.all_append,h0];simpa using hx
theorem nearQ_not {ts:List (Ty × Ty)} {i:Nat} {t u:Ty}(h:ts[i]?=some (t,u))(hx:nearL (t.RA++u.RA)=false):nearQ ts=false:=by
 unfold nearQ;rw[List.all_eq_false];exact⟨(t,u),CG h,by simpa using hx⟩
theorem u4_near(S:Nat->Prop)(ts:List (Ty × Ty))(A:Option Addr)(c1:Nat)(w:World)(hE:Hg S w ts A)(hS:∀g,S g->g<w.heap.size)(iD:IM ts)(h8:ts.length<=8):Calls prog 28 #[.slice A ts.length c1] w λe w'=>e=.returned (.bool (nearQ ts))/\Below w.heap.size w w':=by
 obtain⟨N,hN⟩:∃n,ts.length=n:=⟨_,rfl⟩;have r8:=EP hE;have nz:=EP hS;have HOK:=EP iD;have HN:=EP hN;have hN8:N<=8:=by omega
 obtain⟨qr,hqr⟩:∃q,nearQ ts=q:=⟨_,rfl⟩;have HQR:=EP hqr;rw[hN,hqr];clear hE hS iD h8 hN hqr;go_in;go_wp2_with fail;go_loopg [3] N (λgg vi wr=>∃i,gg=N-i/\vi=.int .i64 (i:Nat)/\i<=N/\Hid (nearQ (ts.take i)=true/\Below w.heap.size w wr))
 case atStart=>exact⟨0,rfl,rfl,Cw _,EP ⟨rfl,Cc _ _⟩⟩
 case round =>
  obtain⟨i,rfl,rfl,hi,aW⟩:=hrel;by_cases af:i<N
  ·obtain⟨⟨t,u⟩,hp⟩:∃p,ts[i]?=some p:=⟨_,BY (by rw[HN.o];exact af)⟩;obtain⟨hq,bwQ9⟩:=aW.o;obtain⟨g,K,X,Z,At,m,c,K',X',Z',Au,m',c',rfl,hg,r1,r2,q⟩:=r8.o.Lv nz.o hp;have dH:(t,u)∈ts:=CG hp;obtain⟨n1,n2,s1,s2⟩:=HOK.o t u dH;obtain⟨nLQ9,hnL⟩:∃n,t.RA.length=n:=⟨_,rfl⟩;obtain⟨nRQ9,hnR⟩:∃n,u.RA.length=n:=⟨_,rfl⟩;obtain⟨L1,rE⟩:∃L,t.RA=L:=⟨_,rfl⟩;obtain⟨L2,hL2⟩:∃L,u.RA=L:=⟨_,rfl⟩;have BW:=EP bwQ9;have HQ:=EP hq;have B0:Hid (Below wr.heap.size wr wr.drew):=EP (Cc _ wr).drew;have M1:=EP (λW (h:Below wr.heap.size wr W)=>by have:=rn_mets (r1.below (FZ bwQ9 h)) n1 (by omega) wr.heap.size nLQ9 h.size hnL;rw[rE]at this;exact this);have M2:=EP (λW (h:Below wr.heap.size wr W)=>by have:=rn_mets (r2.below (FZ bwQ9 h)) n2 (by omega) wr.heap.size nRQ9 h.size hnR;rw[hL2]at this;exact this);have wZ:Hid (∀W,Below wr.heap.size wr W->(λW=>W.cell? ⟨g,i*8,none⟩=some (.int .i64 K)/\W.cell? ⟨g,i*8+1,none⟩=some (.string X)/\W.cell? ⟨g,i*8+2,none⟩=some (.int .i64 Z)/\W.cell? ⟨g,i*8+3,none⟩=some (.slice At m c)/\W.cell? ⟨g,i*8+4,none⟩=some (.int .i64 K')/\W.cell? ⟨g,i*8+4+1,none⟩=some (.string X')/\W.cell? ⟨g,i*8+4+2,none⟩=some (.int .i64 Z')/\W.cell? ⟨g,i*8+4+3,none⟩=some (.slice Au m' c')) W):=EP λW h=>q W (FZ bwQ9 h);obtain⟨i0,bK,cj,bS,bC⟩:=Dx zo8;have eF:Hid (nearL (L1++L2)=true->nearQ (ts.take (i+1))=true):=EP λh=>nearQ_take hp hq (by rw[rE,hL2];exact h);have gw:Hid (nearL (L1++L2)=false->qr=false):=EP λh=>by rw[<-HQR.o];exact nearQ_not hp (by rw[rE,hL2];exact h)
   clear hp bwQ9 r1 r2 q hnL hnR rE hL2 aW hq n1 n2 s1 s2 dH hg;go_upto_region 4 with fail
   go_cut [4] from 12 to 35 (λs4Q9 wx=>∃A8 c8,s4Q9=.slice A8 (nLQ9+nRQ9) c8/\Hid (MetR wx (L1++L2) (nLQ9+nRQ9) A8/\nLQ9+nRQ9<=4000000/\Below wr.heap.size wr wx))
   case first =>
    go_region_held3 (λW=>W.cell? ⟨g,i*8,none⟩=some (.int .i64 K)/\W.cell? ⟨g,i*8+1,none⟩=some (.string X)/\W.cell? ⟨g,i*8+2,none⟩=some (.int .i64 Z)/\W.cell? ⟨g,i*8+3,none⟩=some (.slice At m c)/\W.cell? ⟨g,i*8+4,none⟩=some (.int .i64 K')/\W.cell? ⟨g,i*8+4+1,none⟩=some (.string X')/\W.cell? ⟨g,i*8+4+2,none⟩=some (.int .i64 Z')/\W.cell? ⟨g,i*8+4+3,none⟩=some (.slice Au m' c')) (first|(with_reducible exact wZ.o _ B0.o))
     ((first
      |((with_reducible refine(M1.o _ B0.o).mono ?_);rintro e w9 ⟨a9,q9,rfl,cV,b9⟩;(try replace R2:=EP (R2.o.below b9));have R1:=EP cV;replace B0:=EP (FZ B0.o b9);clear cV b9)
      |((with_reducible refine(M2.o _ B0.o).mono ?_);rintro e w9 ⟨a9,q9,rfl,cV,b9⟩;(try replace R1:=EP (R1.o.below b9));have R2:=EP cV;replace B0:=EP (FZ B0.o b9);clear cV b9)
      |(refine step_append_two (by rfl) _ _ _ (by rfl) wr.heap.size 3 i0 _ 8 underlying61 bK cj bS bC rfl _ _ nLQ9 nRQ9 (Jo L1) (Jo L2) (by rfl) (by rfl) R1.o.1 R2.o.1 (one_intV L2) (by unfold maxLen;have:=R1.o.2;have:=R2.o.2;omega) (by have:=R1.o.2;have:=R2.o.2;omega) B0.o.size ?_;intro a9 q9 w9 cV b9;have R3:=EP (show MetR w9 (L1++L2) (nLQ9+nRQ9) a9 from MetR.Jy (by rw[show Jo (L1++L2)=Jo L1++Jo L2 from Dn];exact cV));have R4:=EP (show nLQ9+nRQ9<=4000000 by have:=R1.o.2;have:=R2.o.2;omega);replace B0:=EP (B0.o.trans b9);clear cV b9)))
    all_goals
     go_wp2_with fail;go_meet
     case rel=>exact⟨_,_,rfl,EP ⟨R3.o,R4.o,B0.o⟩⟩
   case rest =>
    obtain⟨A8,c8,rfl,hx⟩:=hcut;obtain⟨n,hn⟩:∃n,nLQ9+nRQ9=n:=⟨_,rfl⟩;obtain⟨L,hL⟩:∃l,L1++L2=l:=⟨_,rfl⟩;rw[hn,hL]at hx;rw[hL]at eF gw;obtain⟨W5,hn8,jb⟩:=hx.o;have HM8:=EP W5;have BW8:Hid (Below w.heap.size w wc):=EP (BW.o.trans (jb.mono BW.o.size));rw[hn];clear hx W5 jb hn hL BW M1 M2 wZ B0 bK cj bS bC;go_wp2_with fail;go_loopg [5] n (λgg vi wkQ9=>∃k,gg=n-k/\vi=.int .i64 (k:Nat)/\k<=n/\Hid (nearL (L.take k)=true)/\wkQ9=wc)
    case atStart=>exact⟨0,rfl,rfl,Cw _,EP rfl,rfl⟩
    case round =>
     obtain⟨k,rfl,rfl,hk,WX,rfl⟩:=hrel;by_cases bw:k<n
     ·obtain⟨oO,hm⟩:=HM8.o;obtain⟨g8,rfl,TE⟩:=hm (by omega);obtain⟨x,hx⟩:∃x:Nat,L[k]?=some x:=⟨_,BY (by omega)⟩;have x0:=TE k x hx;by_cases h4:x<400000
      ·have pS:=EP (nearL_take hx WX.o h4);have hge:¬(400000:Int)<=((x:Nat):Int):=by omega
       clear hx hm TE oO WX h4;go_wp2_with fail;go_roundg (n-(k+1))
       case measure=>omega
       case rel=>exact⟨k+1,rfl,by go_num,by omega,pS,rfl⟩
      ·have HNF:=gw.o (nearL_not hx (by omega));have hge:(400000:Int)<=((x:Nat):Int):=by omega
       have HQF:=EP HNF;clear hx hm TE oO WX h4 HNF;go_wp2_with fail;go_ret
       have hq:=HQF.o;subst hq;exact⟨rfl,BW8.o⟩
     ·have cA:k=n:=by omega
      subst cA;have gy:Hid (nearL L=true):=EP (by
       have h:=WX.o;rwa [Cq (by rw[HM8.o.1];exact BU _)]at h)
      have pS:=EP (eF.o gy.o);clear WX;go_wp2_with fail;go_roundg (N-(i+1))
      case measure=>omega
      case rel=>exact⟨i+1,rfl,by go_num,by omega,EP ⟨pS.o,BW8.o⟩⟩
  ·have wI:i=N:=by omega
   subst wI;obtain⟨hq,bwQ9⟩:=aW.o;rw[Cq (by rw[HN.o];exact BU _),HQR.o]at hq;have BW:=EP bwQ9;have HQ:=EP hq;clear aW hq bwQ9;go_wp2_with fail;go_ret
   have hq:=HQ.o;subst hq;exact⟨rfl,BW.o⟩
end
section
open Go.RowKit Lx Tx Go.Maps Go.WideMaps Go.Shelf
def FilP(g:Nat)(T:Ty)(W:World)(e:Ending)(W':World):Prop :=
 ∃k x z a m q,e=.returned (.agg #[.int .i64 k,.string x,.int .i64 z,.slice a m q])/\nc (λb=>b≠g/\b<W'.heap.size) W' T (.agg #[.int .i64 k,.string x,.int .i64 z,.slice a m q])/\Below W.heap.size W W'
theorem EqR.at {g i:Nat} {w:World} {ts:List (Ty × Ty)} {t u:Ty}(h:EqR g w ts)(hi:ts[i]?=some (t,u)):∃K X Z A m c K' X' Z' A' m' c',
  nc (λb=>b≠g/\b<w.heap.size) w t (.agg #[.int .i64 K,.string X,.int .i64 Z,.slice A m c])/\nc (λb=>b≠g/\b<w.heap.size) w u (.agg #[.int .i64 K',.string X',.int .i64 Z',.slice A' m' c']) /\
  (∀W:World,W.heap[g]?=w.heap[g]?->W.cell? ⟨g,i*8,none⟩=some (.int .i64 K)/\W.cell? ⟨g,i*8+1,none⟩=some (.string X)/\W.cell? ⟨g,i*8+2,none⟩=some (.int .i64 Z)/\W.cell? ⟨g,i*8+3,none⟩=some (.slice A m c)) /\
  (∀W:World,W.heap[g]?=w.heap[g]?->W.cell? ⟨g,i*8+4,none⟩=some (.int .i64 K')/\W.cell? ⟨g,i*8+4+1,none⟩=some (.string X')/\W.cell? ⟨g,i*8+4+2,none⟩=some (.int .i64 Z')/\W.cell? ⟨g,i*8+4+3,none⟩=some (.slice A' m' c')) /\
  ∀(W:World),W.heap[g]?=w.heap[g]?->∀j,W.frozen? ⟨g,j,none⟩=false:=by
 obtain⟨g',At,ct,Au,cu,e,-,h1,h2,h3,h4⟩:=h.eqs i t u hi;injection e with e;injection e with e;subst e;exact⟨_,_,_,At,_,ct,_,_,_,Au,_,cu,⟨At,ct,rfl,h2⟩,⟨Au,cu,rfl,h4⟩,λW hW=>h1.al hW,λW hW=>h3.al hW,λW hW j=>(World.frozen?_of_block hW).trans (h.free j)⟩
def KbQ9(g:Nat)(w w':World):Prop:=w.heap.size<=w'.heap.size/\∀b,b≠g->b<w.heap.size->w'.heap[b]?=w.heap[b]?
theorem KbQ9.refl(g:Nat)(w:World):KbQ9 g w w:=⟨BU _,λ_ _ _=>rfl⟩
theorem KbQ9.trans {g:Nat} {a b c:World}(h:KbQ9 g a b)(h':KbQ9 g b c):KbQ9 g a c:=⟨Cm h.1 h'.1,λk hk hl=>(h'.2 k hk (Ci hl h.1)).trans (h.2 k hk hl)⟩
theorem KbQ9.c_ {g:Nat} {a b:World}(h:Below a.heap.size a b):KbQ9 g a b:=⟨h.size,λk _ hl=>h.block k hl⟩
theorem KbQ9.cell {g:Nat} {a b:World}(h:KbQ9 g a b) {k j:Nat} {v:Value}(hk:k≠g)(hc:a.cell? ⟨k,j,none⟩=some v):b.cell? ⟨k,j,none⟩=some v:=(Ck (w:=a) (a:=⟨k,j,none⟩) (h.2 k hk (World.block_lt_of_cell? _ _ hc))).trans hc
def FarP(S:Nat->Prop)(N:Nat)(T:Ty)(W:World)(e:Ending)(W':World):Prop :=
 ∃k x z a m q,e=.returned (.agg #[.int .i64 k,.string x,.int .i64 z,.slice a m q])/\nc (λb=>S b\/(N<=b/\b<W'.heap.size)) W' T (.agg #[.int .i64 k,.string x,.int .i64 z,.slice a m q])/\Below W.heap.size W W'
theorem far_at {S:Nat->Prop} {N:Nat} {W:World} {t:Ty} {v:Value} {x:Nat}(hv:nc (λb=>S b\/(N<=b/\b<W.heap.size)) W t v)(hS:∀b,S b->b<N)(hN:N<=W.heap.size)(hn:Nm t)(hs:t.size<=120)(hx:x<400000)(ht:FO W):Calls prog 27 #[v,.int .i64 (x:Nat),.agg #[.int .i64 2,.string ⟨#[]⟩,.int .i64 (IntKind.i64.wrap (((x:Nat):Int)+500000)),.slice none 0 0]] W (FarP S N (far1 x t) W):=by
 have e0:IntKind.i64.wrap (((x:Nat):Int)+500000)=((x+500000:Nat):Int):=by
  rw[IntKind.wrap_i64];omega
 rw[e0];refine(tc_Fill t (.mt (x+500000)) (x:Nat) _ (λ_=>False) v _ W hv (zrW _ W (x+500000)) (λb h=>?_) (λ_ h=>h.elim) hn (.mt _ (by omega)) (by omega) (by rw[size_mt];omega) ht).mono ?_
 ·rcases h with h|h
  ·exact Ci (hS b h) hN
  ·exact h.2
 ·rintro e w' ⟨k,y,z,a,m,q,rfl,hr,hb⟩;have aA:=hb.size;refine⟨k,y,z,a,m,q,rfl,hr.al (λb hb=>?_) (λ_ _=>rfl),hb⟩;rcases hb with h|h|h
  ·rcases h with h|h
   ·exact .inl h
   ·exact .inr ⟨h.1,by have:=h.2;omega⟩
  ·exact h.elim
  ·exact .inr ⟨by omega,h.2⟩
def FarJ(S:Nat->Prop)(N:Nat)(t:Ty)(L:List Nat)(w w3:World)(k:Nat)(wr:World):Prop :=
 ∃K X Z A m c,ar wr N 37 #[.int .i64 K,.string X,.int .i64 Z,.slice A m c]/\ar wr (N+1) 37 #[.int .i64 0,.string ⟨#[]⟩,.int .i64 0,.slice none 0 0] /\
  nc (λb=>S b\/(N+2<=b/\b<wr.heap.size)) wr (farN (L.take k) t) (.agg #[.int .i64 K,.string X,.int .i64 Z,.slice A m c])/\KbQ9 N w3 wr/\Below N w wr
theorem u4_far(S:Nat->Prop)(t:Ty)(v:Value)(w:World)(hv:nc S w t v)(hS:∀g,S g->g<w.heap.size)(hn:Nm t)(hs:t.size<=120)(hm:∀m∈t.RA,m<400000)(ht:FO w):Calls prog 29 #[v] w (FarP S w.heap.size (farT t) w):=by
 obtain⟨K,X,Z,A,m,c,rfl,-,-,-,-,-⟩:=hv.parts;obtain⟨l0,l1,ls,lb⟩:=IC w (.cells #[.int .i64 K,.string X,.int .i64 Z,.slice A m c] 37) (.cells #[.int .i64 0,.string ⟨#[]⟩,.int .i64 0,.slice none 0 0] 37);obtain⟨W2,iL⟩:∃W,(w.alloc (.cells #[.int .i64 K,.string X,.int .i64 Z,.slice A m c] 37)).alloc (.cells #[.int .i64 0,.string ⟨#[]⟩,.int .i64 0,.slice none 0 0] 37)=W:=⟨_,rfl⟩;rw[iL]at l0 l1 ls lb;obtain⟨L,hL⟩:∃L,t.RA=L:=⟨_,rfl⟩;obtain⟨n,fy⟩:∃n,t.RA.length=n:=⟨_,rfl⟩;obtain⟨p0,p1,p2,p3,-⟩:=n_ (show ar W2 w.heap.size 37 _ from l0);have fg:nc S W2 t (.agg #[.int .i64 K,.string X,.int .i64 Z,.slice A m c]):=hv.al (λ_ h=>h) (λg hg=>lb.block g (hS g hg));have ov:I9 W2 t (.agg #[.int .i64 K,.string X,.int .i64 Z,.slice A m c]):=fg.al (λg hg=>by have:=hS g hg;omega) (λ_ _=>rfl);have ie:=rn_mets ov hn (by omega) W2.heap.size n (BU _) fy;rw[hL]at ie hm;have hLn:L.length=n:=by rw[<-hL];exact fy
 have HMT:=EP ie;have xg:=EP iL;have HL:=EP hL;have qz:=EP hLn;have HM:=EP hm;have bQ:=EP hn;have l7:=EP fg;have HS:=EP hS;have HT:=EP ht;have L0:Hid (ar W2 w.heap.size 37 #[.int .i64 K,.string X,.int .i64 Z,.slice A m c]):=EP l0;have L1:Hid (ar W2 (w.heap.size+1) 37 #[.int .i64 0,.string ⟨#[]⟩,.int .i64 0,.slice none 0 0]):=EP l1;have LS:=EP ls;have LB:=EP lb;clear hv hS hn hm ht iL fg ov ie hL fy hLn l0 l1 ls lb;go_in;go_upto_region 1 with fail;rw[xg.o];go_wp2_with fail;refine HMT.o.mono ?_;rintro e w3 ⟨A8,c8,rfl,ho8,jA⟩;have yP:=MetR.Jy ho8.1;have qZ:=LS.o;have h0:FarJ S w.heap.size t L w w3 0 w3:=by
  refine⟨K,X,Z,A,m,c,ar.below L0.o jA (by omega),ar.below L1.o jA (by omega),?_,KbQ9.refl _ _,LB.o.trans (jA.mono (by omega))⟩;exact l7.o.al (λ_ h=>.inl h) (λg hg=>jA.block g (by have:=HS.o g hg;omega))
 have Yv:Hid (0<n->∃g8,A8=some ⟨g8,0,none⟩/\g8≠w.heap.size/\∀W,KbQ9 w.heap.size w3 W->∀(k x:Nat),L[k]?=some x->W.cell? ⟨g8,k,none⟩=some (.int .i64 (x:Nat))):=EP λh0=>by
  obtain⟨g8,e8,h8⟩:=yP.2 h0;have ai:g8≠w.heap.size:=by have:=(ho8.1.lt g8 (by rw[e8];rfl)).1;omega
  exact⟨g8,e8,ai,λW hW k x hx=>hW.cell ai (h8 k x hx)⟩
 have H0:=EP h0;have lM:n<=2000000:=ho8.2;clear ho8 jA yP h0 HMT p0 p1 p2 p3;go_wp2_with fail;go_loopg [4] n (λgg vi wkQ9=>∃k,gg=n-k/\vi=.int .i64 (k:Nat)/\k<=n/\Hid (FarJ S w.heap.size t L w w3 k wkQ9))
 case atStart=>exact⟨0,rfl,rfl,Cw _,H0⟩
 case round =>
  obtain⟨k,rfl,rfl,hk,hj⟩:=hrel;obtain⟨K1,X1,Z1,At,m1,c1,dA,hrs,aG,jM,bG⟩:=hj.o;by_cases bw:k<n
  ·obtain⟨g8,rfl,hne8,TE⟩:=Yv.o (by omega);obtain⟨x,hx⟩:∃x:Nat,L[k]?=some x:=⟨_,BY (by rw[qz.o];exact bw)⟩;have x0:=TE wr jM k x hx;have hx4:=HM.o x (CG hx);have hLk:∀y∈L.take k,y<400000:=λy hy=>HM.o y (List.mem_of_mem_take hy);obtain⟨nt1,nt2,-⟩:=farN_facts (L.take k) hLk t bQ.o hs;have lL:farN (L.take (k+1)) t=far1 x (farN (L.take k) t):=by
    rw[<-farN_snoc,D9,hx];rfl
   have arw:w.heap.size+2<=wr.heap.size:=by have:=hrs.lt;omega
   have nR:Hid (∀W,Below wr.heap.size wr W->FO W):=EP λW hW=>HT.o.below (bG.trans (hW.mono (by omega)));have F1:Hid (∀W,Below wr.heap.size wr W->Calls prog 27 #[.agg #[.int .i64 K1,.string X1,.int .i64 Z1,.slice At m1 c1],.int .i64 (x:Nat),.agg #[.int .i64 2,.string ⟨#[]⟩,.int .i64 (IntKind.i64.wrap (((x:Nat):Int)+500000)),.slice none 0 0]] W (FarP S (w.heap.size+2) (farN (L.take (k+1)) t) W)):=EP λW hW=>by
    rw[lL];refine far_at (aG.al (λb hb=>?_) (λb hb=>hW.block b ?_)) (λb hb=>by have:=HS.o b hb;omega) (Cm arw hW.size) nt1 nt2 hx4 (nR.o W hW)
    ·rcases hb with h|h
     ·exact .inl h
     ·exact .inr ⟨h.1,Ci h.2 hW.size⟩
    ·rcases hb with h|h
     ·have:=HS.o b h;omega
     ·exact h.2
   have iQ:=EP dA;have Uk:=EP hrs;have HKB:=EP jM;have gV:=EP bG;have Z7:=EP arw;have B0:Hid (Below wr.heap.size wr wr.drew):=EP (Cc _ wr).drew;obtain⟨z0,z1,z2,z3,-⟩:=n_ dA;have aQ:¬(9223372036854775807:Int)<((x:Nat):Int)+500000:=by omega
   clear hj dA hrs aG jM bG hx TE hLk nt1 nt2 lL arw nR hne8;go_upto_region 5 with fail
   go_region_law (go_simp;(with_reducible refine(F1.o _ B0.o).mono ?_);rintro e w9 ⟨k9,y9Q9,s9Q9,a9,m9,p9Q9,rfl,cV,cM⟩;have HR9:=EP cV;have B9:=EP (FZ B0.o cM);obtain⟨d0,d1,d2,d3,f0,f1,f2,f3,fl⟩:=n_ (ar.below iQ.o B9.o iQ.o.lt);clear cV cM)
   all_goals
    go_wp2_with fail;go_roundg (n-(k+1))
    case measure=>omega
    case rel =>
     refine⟨k+1,rfl,by go_num,by omega,EP ⟨k9,y9Q9,s9Q9,a9,m9,p9Q9,Fh _ _ _ _ (ar.below iQ.o B9.o iQ.o.lt),?_,?_,?_,?_⟩⟩
     ·exact ar.same (ar.below Uk.o B9.o Uk.o.lt) (G3 _ _ _ _ _ _ _ (by omega))
     ·refine HR9.o.al (λb hb=>?_) (λb hb=>G3 _ _ _ _ _ _ _ ?_)
      ·rcases hb with h|h
       ·exact .inl h
       ·exact .inr ⟨h.1,by simpa using h.2⟩
      ·rcases hb with h|h
       ·have:=HS.o b h;omega
       ·omega
     ·refine(HKB.o.trans (KbQ9.c_ B9.o)).trans ⟨by simp,λb hb hl=>G3 _ _ _ _ _ _ _ hb⟩
     ·exact GH (gV.o.trans (B9.o.mono (by have:=Z7.o;omega))) _ _ _ _ (BU _)
  ·have cA:k=n:=by omega
   subst cA;rw[Cq (by rw[qz.o];exact BU _)]at aG;obtain⟨z0,z1,z2,z3,-⟩:=n_ dA;obtain⟨y0,y1,y2,y3,f0,f1,f2,f3,fl⟩:=n_ hrs;have cg:=EP aG;have Uk:=EP hrs;have gV:=EP bG;clear hj dA hrs aG jM bG;go_upto_region 6 with fail
   go_wp2_with fail;obtain⟨V,hV⟩:∃V,((((wr.setCell ⟨w.heap.size+1,0,none⟩ (.int .i64 K1)).setCell ⟨w.heap.size+1,1,none⟩ (.string X1)).setCell ⟨w.heap.size+1,2,none⟩ (.int .i64 Z1)).setCell ⟨w.heap.size+1,3,none⟩ (.slice At m1 c1))=V:=⟨_,rfl⟩;have hVb:ar V (w.heap.size+1) 37 #[.int .i64 K1,.string X1,.int .i64 Z1,.slice At m1 c1]:=hV▸Fh _ _ _ _ Uk.o;have hVk:∀g,g≠w.heap.size+1->V.heap[g]?=wr.heap[g]?:=λg hg=>hV▸G3 _ _ _ _ _ _ _ hg;have hVs:V.heap.size=wr.heap.size:=by rw[<-hV];simp
   have z8:Below w.heap.size w V:=hV▸GH gV.o _ _ _ _ (by omega);try rw[hV]
   try simp only[Exit.inBlock,Exit.then]
   refine Ce (CW rfl _ _ (w.heap.size+1) 37 _ (0,0) _ rfl hVb underlying37 rfl (by kernel_rfl)) rfl ⟨K1,X1,Z1,At,m1,c1,rfl,?_,z8⟩;unfold farT;rw[HL.o];refine cg.o.al (λb hb=>?_) (λb hb=>hVk b ?_)
   ·rcases hb with h|h
    ·exact .inl h
    ·exact .inr ⟨by omega,by rw[hVs];exact h.2⟩
   ·rcases hb with h|h
    ·have:=HS.o b h;omega
    ·omega
def mixF(i:Nat)(ts:List (Ty × Ty)):List (Ty × Ty):=(ts.take i).map farP++ts.drop i
theorem mixF_zero(ts:List (Ty × Ty)):mixF 0 ts=ts:=by simp[mixF]
theorem mixF_all(ts:List (Ty × Ty)):mixF ts.length ts=ts.map farP:=by simp[mixF]
theorem mixF_len(i:Nat)(ts:List (Ty × Ty)):(mixF i ts).length=ts.length:=by
 unfold mixF;rw[Cb,CE,DH,Dk];omega
theorem mixF_at {i:Nat} {ts:List (Ty × Ty)} {p:Ty × Ty}(h:ts[i]?=some p):(mixF i ts)[i]?=some p:=by
 have hl:=(Cj.1 h).1;unfold mixF;rw[Db (by rw[CE,DH];omega),CE,DH,List.getElem?_drop];rw[show i+(i-min i ts.length)=i by omega];exact h
theorem mixF_set {i:Nat} {ts:List (Ty × Ty)} {p:Ty × Ty}(h:ts[i]?=some p):(mixF i ts).set i (farP p)=mixF (i+1) ts:=by
 obtain⟨hl,e⟩:=Cj.1 h;unfold mixF;rw[List.set_append_right _ _ (by rw[CE,DH];omega),CE,DH,show i-min i ts.length=0 by omega,DL hl,List.set_cons_zero,CV hl,Dn,CA,List.map_nil,e,DC,List.singleton_append]
theorem mixF_sat {i:Nat} {ts:List (Ty × Ty)} {p:Ty × Ty}(q:Ty × Ty)(h:ts[i]?=some p):((mixF i ts).set i q)[i]?=some q:=by
 rw[List.getElem?_set_self];rw[mixF_len];exact(Cj.1 h).1
def RfS(N:Nat)(A:Option Addr)(w0:World)(qs:List (Ty × Ty))(wr:World):Prop :=
 Below w0.heap.size w0 wr/\qs.length=N/\(0<N->∃g,A=some ⟨g,0,none⟩/\w0.heap.size<=g/\EqR g wr qs)
theorem far_side {g:Nat} {W:World} {t:Ty} {v:Value}(hv:nc (λb=>b≠g/\b<W.heap.size) W t v)(hg:g<W.heap.size)(hn:Nm t)(hs:t.size<=120)(hm:∀m∈t.RA,m<400000)(ht:FO W):Calls prog 29 #[v] W (FilP g (farT t) W):=by
 refine(u4_far _ t v W hv (λ_ h=>h.2) hn hs hm ht).mono ?_;rintro e w' ⟨k,y,z,a,m,q,rfl,hr,hb⟩;have aA:=hb.size;refine⟨k,y,z,a,m,q,rfl,hr.al (λb hb=>?_) (λ_ _=>rfl),hb⟩;rcases hb with h|h
 ·exact⟨h.1,by have:=h.2;omega⟩
 ·exact⟨by omega,h.2⟩
def SrcR(w:World)(u:Value)(m size:Nat)(ys:List Value):Prop :=
 ys.length=m*size/\((u=.slice none 0 0/\m=0)\/∃g cap,u=.slice (some ⟨g,0,none⟩) m cap/\∀j y,ys[j]?=some y->w.cell? ⟨g,j,none⟩=some y)
theorem SrcR.Jy {w:World} {N size m:Nat} {e:TypeId} {u:Value} {ys:List Value}(h:w.ownsRow N e size u m ys):SrcR w u m size ys:=by
 refine⟨h.1,?_⟩;rcases h.2 with⟨rfl,rfl⟩|⟨g,cap,cur,rfl,_⟩
 ·exact .inl ⟨rfl,rfl⟩
 ·refine .inr ⟨g,cap,rfl,λj y hy=>?_⟩;have:=h.cells (g:=g) rfl j y hy;rwa [Q_]at this
theorem wpList_append_any {P:Program} {ops:Array Oper} {rest:List Oper} {o:Oper} {a:Act} {w:World} {Q:Exit->Act->World->Prop}(oV:o.guard=none)(s x:Operand)(t:TypeId)
  (ho:o.op=.call { callee:=.builtin .append,args:=#[s,x],argTypes:=#[t,t] })
  (N:Nat)(e:TypeId)(i:TypeInfo)(z:Value)(size bytes:Nat)(ht:P.underlying t=some (.slice e))(hi:P.info? e=some i)(hz:i.zero=some z)
  (hsize:i.size=size)(hby:i.bytes=bytes)(hzs:z.cells.size=size)(aA:0<size)
  (v u:Value)(n m:Nat)(xs ys:List Value)(hs:a.eval s=v)(hx:a.eval x=u)(hv:w.ownsRow N e size v n xs)(hu:SrcR w u m size ys)(h1:∀y∈ys,y.oneCell'=true)
  (h63:n+m<=maxLen)(hbytes:(n+m)*bytes<=140737488355328)(hN:N<=w.heap.size)
  (h:∀A c w',w'.ownsRow N e size (.slice A (n+m) c) (n+m) (xs++ys)->Below N w w'->wpList P ops Q rest (a.put o.dst (.slice A (n+m) c)) w'):wpList P ops Q (o::rest) a w:=by
 refine wpList_plain oV λK hK=>?_;obtain⟨hl,⟨rfl,rfl⟩|⟨g,cap,rfl,hc⟩⟩:=hu
 ·have aC:=run_append_owned_none (P:=P) (w:=w) N t o.type e i size ht hi v n xs hv;have hys:ys=[]:=List.length_eq_zero_iff.1 (by omega);subst hys;obtain⟨A,c,rfl⟩:=GS hv;have hk:=h A c w (by rw[CJ];exact hv) (Cc _ w);unfold Oper.wp execOp;simp only[ho,resolve,invoke,builtin,Sem.run_bind,Sem.run_pure,Result.andThen_ok,List.map_toArray,CA,List.map_nil,hs,hx,aC];exact hK _ _ hk
 ·obtain⟨v',w',hr,h2,h3,-,-⟩:=run_append_own_at (P:=P) (w:=w) N t o.type e i z size bytes ht hi hz hsize hby hzs aA v n xs hv ⟨g,0,none⟩ m cap ys hl
   (λj y hy=>by rw[Q_];exact hc j y hy) h1 h63 hbytes hN
  obtain⟨A,c,rfl⟩:=GS h2;have hk:=h A c w' h2 (Below.grown (Cc _ w) h3 hN (λk hk=>(hv.lt k hk).1));unfold Oper.wp execOp;simp only[ho,resolve,invoke,builtin,Sem.run_bind,Sem.run_pure,Result.andThen_ok,List.map_toArray,CA,List.map_nil,hs,hx,hr];exact hK _ _ hk
theorem eqs_cells {S:Nat->Prop} {w:World} {g:Nat} :(ts:List (Ty × Ty))->(o:Nat)->(∀i t u,ts[i]?=some (t,u)->∃At ct Au cu,F7 w t At ct g (o+i*8)/\j_ S w t At/\F7 w u Au cu g (o+i*8+4)/\j_ S w u Au) ->
  ∃vs,fs S w (LD ts) vs/\vs.length=ts.length*8/\∀j y,vs[j]?=some y->w.cell? ⟨g,o+j,none⟩=some y
 |[],o,_=>⟨[],by show fs S w [] [];rw[fs],rfl,λj y h=>by simp at h⟩
 |(t,u)::r,o,h=>by
  obtain⟨At,ct,Au,cu,⟨c0,c1,c2,c3⟩,ha,⟨d0,d1,d2,d3⟩,hu⟩:=h 0 t u rfl;obtain⟨vs,h1,h2,h3⟩:=eqs_cells r (o+8) λi t' u' hi=>by
   obtain⟨a1,a2,a3,a4,b1,b2,b3,b4⟩:=h (i+1) t' u' (by simpa using hi);have e:o+(i+1)*8=o+8+i*8:=by omega
   rw[e]at b1 b3;exact⟨a1,a2,a3,a4,b1,b2,b3,b4⟩
  refine⟨Hx t At ct++(Hx u Au cu++vs),?_,?_,λj y hy=>?_⟩
  ·show fs S w (t::u::LD r) _;rw[fs];refine⟨At,ct,_,rfl,ha,?_⟩;rw[fs];exact⟨Au,cu,vs,rfl,hu,h1⟩
  ·rw[Cb,Cb,h2,Ca];show 4+(4+_)=_;omega
  ·simp only[Nat.zero_mul,Nat.add_zero]at c0 c1 c2 c3 d0 d1 d2 d3;match j,hy with
   |0,hy=>injection hy with hy;subst hy;exact c0
   |1,hy=>injection hy with hy;subst hy;exact c1
   |2,hy=>injection hy with hy;subst hy;exact c2
   |3,hy=>injection hy with hy;subst hy;exact c3
   |4,hy=>injection hy with hy;subst hy;exact d0
   |5,hy=>injection hy with hy;subst hy;exact d1
   |6,hy=>injection hy with hy;subst hy;exact d2
   |7,hy=>injection hy with hy;subst hy;exact d3
   |j+8,hy =>
    have:=h3 j y hy;rw[show o+(j+8)=o+8+j by omega];exact this
theorem Hg.cells {S:Nat->Prop} {w:World} {g:Nat} {ts:List (Ty × Ty)}(h:Hg S w ts (some ⟨g,0,none⟩)):∃vs,fs S w (LD ts) vs/\vs.length=ts.length*8/\∀j y,vs[j]?=some y->w.cell? ⟨g,j,none⟩=some y:=by
 obtain⟨vs,h1,h2,h3⟩:=eqs_cells ts 0 λi t u hi=>by
  obtain⟨g',At,ct,Au,cu,e,-,a1,a2,a3,a4⟩:=h i t u hi;injection e with e;injection e with e;subst e;rw[Dm]
  exact⟨At,ct,Au,cu,a1,a2,a3,a4⟩
 exact⟨vs,h1,h2,λj y hy=>by have:=h3 j y hy;rwa [Dm]at this⟩
theorem uc_few {S:Nat->Prop} {qs:List (Ty × Ty)} {A:Option Addr} {m c:Nat} {w:World}(iD:IM qs)(h16:qs.length<=16)(h:Hg S w qs A)(hS:∀g,S g->g<w.heap.size)(hm:qs.length=m):Calls prog 14 #[.slice A m c] w (Ib qs w):=by
 subst hm;exact zjD S qs A c w h hS (λt u ht=>by obtain⟨a,b,d,e⟩:=iD t u ht;exact⟨a,b,by omega,by omega⟩) (by omega) (by have:=UW qs iD;omega) zil
theorem owns_emptyK {w:World} {base b:Nat} {e:TypeId}(h:w.heap[b]?=some (.cells #[] e (0,0)))(hb:base<=b):w.ownsRow base e 5 (.slice (some ⟨b,0,none⟩) 0 0) 0 [] :=
 ⟨rfl,.inr ⟨b,0,#[],rfl,hb,h,BU _,by unfold maxLen;omega,rfl,rfl⟩⟩
theorem m_.app {S:Nat->Prop} {w:World} {l':List (Nat × Ty)} {Te:List Value}(h':m_ S w l' Te):(l:List (Nat × Ty))->∀vs,m_ S w l vs->m_ S w (l++l') (vs++Te)
 |[],vs,h=>by
  rw[m_]at h;subst h;exact h'
 |(n,t)::r,vs,h=>by
  rw[m_]at h;obtain⟨A,c,rest,rfl,h1,h2⟩:=h;rw[Co,m_];exact⟨A,c,rest++Te,by rw[DC],h1,m_.app h' r rest h2⟩
theorem one_knRow {S:Nat->Prop} {w:World} :(l:List (Nat × Ty))->∀vs,m_ S w l vs->∀y∈vs,y.oneCell'=true
 |[],vs,h=>by rw[m_]at h;subst h;intro y hy;cases hy
 |(n,t)::r,vs,h=>by
  rw[m_]at h;obtain⟨A,c,rest,rfl,h1,h2⟩:=h;intro y hy;rcases Cr.1 hy with hy|hy
  ·unfold KW Hx at hy;simp at hy;rcases hy with rfl|rfl|rfl|rfl|rfl <;> rfl
  ·exact one_knRow r rest h2 y hy
theorem knsV_app {S T:Nat->Prop} {B:Nat} {w:World} {l l':List (Nat × Ty)} {v:Value} {n:Nat} {vs Te:List Value}(h1:m_ S w l vs)(h2:m_ T w l' Te)(hn:(l++l').length=n)(ho:w.ownsRow B 39 5 v n (vs++Te)):Ij (λg=>S g\/T g) B w (l++l') v:=by
 subst hn;exact⟨_,ho,m_.app (m_.al (λ_ h=>.inr h) (λ_ _=>rfl) _ _ h2) _ _ (m_.al (λ_ h=>.inl h) (λ_ _=>rfl) _ _ h1)⟩
theorem tell_two {l l':List (Nat × Ty)}(h:Hr l)(h':Hr l'):(l++l').length<=1000/\∀e∈l++l',e.1<=999999/\OV e.2:=by
 have a:=h.len;have b:=h'.len;refine⟨by rw[Cb];omega,λe he=>?_⟩;rcases Cr.1 he with he|he
 ·exact h.tell.2 e he
 ·exact h'.tell.2 e he
theorem kn1:(prog.info? 39).map (λi=>(i.zero,i.size,i.bytes))=some (some (.agg #[.int .i64 0,.int .i64 0,.string ⟨#[]⟩,.int .i64 0,.slice none 0 0]),5,64):=by kernel_rfl
def ResU(ts:List (Ty × Ty))(w':World)(V:Value)(z:Int)(o:Nat ⊕ Sb):Prop :=
 (∃f,Fc f (Fy ts) .mt=some o)/\((∃m:Nat,o=.inl m/\(m=40\/m=41\/m=42\/m=43)/\V=.slice none 0 0/\z=(m:Nat)) \/
  ∃k l T B A c,o=.inr k/\z=0/\V=.slice A l.length c/\Ij T B w' l V/\Told k l/\∀g,T g->g<w'.heap.size)
theorem Ib.res {ts:List (Ty × Ty)} {w:World} {e:Ending} {w':World}(h:Ib ts w e w'):∃V z o,e=.returned (.tuple #[V,.int .i64 z])/\ResU ts w' V z o/\Below w.heap.size w w':=by
 obtain⟨f,o,hf,hb,⟨m,rfl,hm,rfl⟩|⟨k,v,l,T,rfl,rfl,hK,hT,wS⟩⟩:=h
 ·exact⟨_,_,_,rfl,⟨⟨f,hf⟩,.inl ⟨m,rfl,zkR f _ _ m hf,rfl,rfl⟩⟩,hb⟩
 ·obtain⟨A,c,rfl⟩:=hK.shape;exact⟨_,_,_,rfl,⟨⟨f,hf⟩,.inr ⟨k,l,T,_,A,c,rfl,rfl,rfl,hK,hT,λg hg=>(wS g hg).2⟩⟩,hb⟩
theorem err_ne {m:Nat}(h:m=40\/m=41\/m=42\/m=43):(((m:Nat):Int) != 0)=true:=by rcases h with rfl|rfl|rfl|rfl <;> rfl
theorem eqOK_app {a b:List (Ty × Ty)}(h:IM a)(h':IM b):IM (a++b):=λt u ht=>(Cr.1 ht).elim (h t u) (h' t u)
end
end Go.Proofs.YtfafilmklhnngaaGreatDoor
