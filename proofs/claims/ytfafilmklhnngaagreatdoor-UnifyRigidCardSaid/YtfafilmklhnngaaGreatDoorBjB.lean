import Derived.Test.YtfafilmklhnngaaGreatDoorBjA
import Derived.Test.YtfafilmklhnngaaGreatDoorBsAQ
import Derived.Test.YtfafilmklhnngaaGreatDoorBsAS
import Derived.Test.YtfafilmklhnngaaGreatDoorBsAI
import Derived.Test.YtfafilmklhnngaaGreatDoorCards
import Derived.Test.YtfafilmklhnngaaGreatDoorTie
import Derived.SevenTiedAt
import Derived.Deep.Cut
import Derived.Deep.CutRange
set_option maxHeartbeats 12800000
set_option maxRecDepth 100000
namespace Go.Proofs.YtfafilmklhnngaaGreatDoor.unifyRigid
open Go.Proofs.Tryz
open Go.ChangeShapes Go.WideShapes Go.ChangeAt Go.RowKit Lx Tx Go.Shelf
open Go.ChangeMaps (open_string shut_string)
def RgS(N:Nat)(A:Option Addr)(w0:World)(qs:List (Ty × Ty))(wr:World):Prop :=
 Below w0.heap.size w0 wr/\qs.length=N/\(0<N->∃g,A=some ⟨g,0,none⟩/\w0.heap.size<=g/\EqR g wr qs)
theorem set_same {α:Type} {l:List α} {i:Nat} {p:α}(h:l[i]?=some p):l.set i p=l:=by
 refine Ev λj=>?_;by_cases e:j=i
 ·subst e;rw[List.getElem?_set_self (Cj.1 h).1,h]
 ·rw[List.getElem?_set_ne (λh=>e h.symm)]
theorem mixp_at {i:Nat} {ts:List (Ty × Ty)} {p:Ty × Ty}(q:Ty × Ty)(h:ts[i]?=some p):((mix i ts).set i q)[i]?=some q:=by
 rw[List.getElem?_set_self];rw[mix_len];exact(Cj.1 h).1
theorem walk(ls:List (ByteArray × ByteArray))(A0:Option Addr)(c0:Nat)(w:World)(ht:FO w)(hl:Gb w ls A0)(hs:∀p∈ls,p.1.size<=maxLen/\p.2.size<=maxLen):Calls prog 9 #[.slice A0 ls.length c0] w λe w'=>e=.returned (.bool true)/\Below w.heap.size w w':=by
 obtain⟨n0,fy⟩:∃n,ls.length=n:=⟨_,rfl⟩;have tu:=EP (Vf w ht);have cg:=EP (λ(W:World) (hW:Below w.heap.size w W)=>Qo ls A0 c0 W (λi p hi=>by
  obtain⟨a,e,h1,h2,h3⟩:=hl i p hi;have hb:∀k,(a.add k).block=a.block:=λk=>by unfold Addr.add;split <;> rfl
  exact⟨a,e,Ci h1 hW.size,(hW.cell (p:=a.add (i*2)) (by rw[hb];exact h1)).trans h2,(hW.cell (p:=a.add (i*2+1)) (by rw[hb];exact h1)).trans h3⟩) hs)
 rw[fy]at cg ⊢;have HT:=EP ht;clear ht hl hs;go_in;go_wp2_with fail;refine tu.o.mono ?_;rintro e wa ⟨rfl,ba⟩;have BA:=EP ba;clear ba tu;go_wp2_with fail;refine(cg.o _ BA.o).mono ?_;rintro e w1 ⟨b1,⟨h0,rfl⟩|⟨ts,v1,v2,S,jZ,rfl,hE⟩⟩
 ·go_wp2_with fail;go_ret
  exact⟨rfl,BA.o.trans (b1.mono BA.o.size)⟩
 obtain⟨A,c1,rfl⟩:=hE.shape;obtain⟨tI,ht8,iD⟩:=zgh jZ;obtain⟨N,hN⟩:∃n,ts.length=n:=⟨_,rfl⟩;have B1:Hid (Below w.heap.size w w1):=EP (BA.o.trans (b1.mono BA.o.size));have dv:Hid (RgS N A w (mix 0 ts) w1):=EP ⟨B1.o,by rw[mix_len,hN],λh0=>by
  obtain⟨g,e,hB,hR⟩:=hE.eqR (by omega);exact⟨g,e,Cm BA.o.size hB,by rw[mix_zero];exact hR⟩⟩
 have HOK:=EP iD;have HN:=EP hN;have hN8:N<=8:=by omega
 rw[hN];clear hE jZ tI ht8 iD b1 BA cg hN B1;go_wp2_with fail;go_loopg [7,8] N (λgg v7 vi wr=>∃i,gg=N-i/\vi=.int .i64 (i:Nat)/\i<=N/\v7=.bool (allB i ts)/\Hid (RgS N A w (mix i ts) wr))
 case atStart=>exact⟨0,rfl,rfl,Cw _,by rw[allB_zero],dv⟩
 case round =>
  obtain⟨i,rfl,rfl,hi,rfl,aW⟩:=hrel;obtain⟨qaQ9,Tp⟩:∃q,allB i ts=q:=⟨_,rfl⟩;rw[Tp];have HQA:=EP Tp;clear Tp;by_cases af:i<N
  ·obtain⟨⟨t,u⟩,hp⟩:∃p,ts[i]?=some p:=⟨_,BY (by rw[HN.o];exact af)⟩;obtain⟨bwQ9,-,hg⟩:=aW.o;obtain⟨g,rfl,hwg,hR⟩:=hg (by omega);have HP:=EP hp;have HTU:=EP (HOK.o t u (CG hp));obtain⟨K,X,Z,At,m,c,K',X',Z',Au,m',c',r1,r2,q1,q2,-⟩:=hR.at (mix_at hp);obtain⟨nLQ9,hnL⟩:∃n,t.RA.length=n:=⟨_,rfl⟩;obtain⟨nRQ9,hnR⟩:∃n,u.RA.length=n:=⟨_,rfl⟩;obtain⟨L1,rE⟩:∃L,t.RA=L:=⟨_,rfl⟩;obtain⟨L2,hL2⟩:∃L,u.RA=L:=⟨_,rfl⟩;have BW:=EP bwQ9;have HR:=EP hR;have kK:=hR.lt;have B0:Hid (Below wr.heap.size wr wr.drew):=EP (Cc _ wr).drew;have hrn1:I9 wr t (.agg #[.int .i64 K,.string X,.int .i64 Z,.slice At m c]):=r1.al (λ_ h=>h.2) (λ_ _=>rfl);have hrn2:I9 wr u (.agg #[.int .i64 K',.string X',.int .i64 Z',.slice Au m' c']):=r2.al (λ_ h=>h.2) (λ_ _=>rfl);have M1:=EP (λW (h:Below wr.heap.size wr W)=>by have:=rn_mets (hrn1.below h) HTU.o.1 (by have:=HTU.o.2.2.1;omega) wr.heap.size nLQ9 h.size hnL;rw[rE]at this;exact this);have M2:=EP (λW (h:Below wr.heap.size wr W)=>by have:=rn_mets (hrn2.below h) HTU.o.2.1 (by have:=HTU.o.2.2.2;omega) wr.heap.size nRQ9 h.size hnR;rw[hL2]at this;exact this);have wZ:Hid (∀W,Below wr.heap.size wr W->(λW=>W.cell? ⟨g,i*8,none⟩=some (.int .i64 K)/\W.cell? ⟨g,i*8+1,none⟩=some (.string X)/\W.cell? ⟨g,i*8+2,none⟩=some (.int .i64 Z)/\W.cell? ⟨g,i*8+3,none⟩=some (.slice At m c)/\W.cell? ⟨g,i*8+4,none⟩=some (.int .i64 K')/\W.cell? ⟨g,i*8+4+1,none⟩=some (.string X')/\W.cell? ⟨g,i*8+4+2,none⟩=some (.int .i64 Z')/\W.cell? ⟨g,i*8+4+3,none⟩=some (.slice Au m' c')) W):=EP λW h=>by
    obtain⟨a0,a1,a2,a3⟩:=q1 W (h.block g kK);obtain⟨b0,b1,b2,b3⟩:=q2 W (h.block g kK);exact⟨a0,a1,a2,a3,b0,b1,b2,b3⟩
   obtain⟨i0,bK,cj,bS,bC⟩:=Dx zo8;have Yy:Hid (t.RA++u.RA=L1++L2):=EP (by rw[rE,hL2]);clear hp bwQ9 hg hR r1 r2 q1 q2 hrn1 hrn2 hnL hnR rE hL2 aW;go_upto_region 9 with fail
   go_cut [9] from 31 to 101 (λs9Q9 wx=>∃A8 c8,s9Q9=.slice A8 (nLQ9+nRQ9) c8/\Hid (MetR wx (L1++L2) (nLQ9+nRQ9) A8/\nLQ9+nRQ9<=4000000/\Below wr.heap.size wr wx/\∀b,A8=some ⟨b,0,none⟩->wr.heap.size<=b))
   case first =>
    go_region_held3 (λW=>W.cell? ⟨g,i*8,none⟩=some (.int .i64 K)/\W.cell? ⟨g,i*8+1,none⟩=some (.string X)/\W.cell? ⟨g,i*8+2,none⟩=some (.int .i64 Z)/\W.cell? ⟨g,i*8+3,none⟩=some (.slice At m c)/\W.cell? ⟨g,i*8+4,none⟩=some (.int .i64 K')/\W.cell? ⟨g,i*8+4+1,none⟩=some (.string X')/\W.cell? ⟨g,i*8+4+2,none⟩=some (.int .i64 Z')/\W.cell? ⟨g,i*8+4+3,none⟩=some (.slice Au m' c')) (first|(with_reducible exact wZ.o _ B0.o))
     ((first
      |((with_reducible refine(M1.o _ B0.o).mono ?_);rintro e w9 ⟨a9,q9,rfl,cV,b9⟩;(try replace R2:=EP (R2.o.below b9));have R1:=EP cV;replace B0:=EP (FZ B0.o b9);clear cV b9)
      |((with_reducible refine(M2.o _ B0.o).mono ?_);rintro e w9 ⟨a9,q9,rfl,cV,b9⟩;(try replace R1:=EP (R1.o.below b9));have R2:=EP cV;replace B0:=EP (FZ B0.o b9);clear cV b9)
      |(refine step_append_two (by rfl) _ _ _ (by rfl) wr.heap.size 3 i0 _ 8 underlying61 bK cj bS bC rfl _ _ nLQ9 nRQ9 (Jo L1) (Jo L2) (by rfl) (by rfl) R1.o.1 R2.o.1 (one_intV L2) (by unfold maxLen;have:=R1.o.2;have:=R2.o.2;omega) (by have:=R1.o.2;have:=R2.o.2;omega) B0.o.size ?_;intro a9 q9 w9 cV b9;have R3:=EP (show MetR w9 (L1++L2) (nLQ9+nRQ9) a9 from MetR.Jy (by rw[show Jo (L1++L2)=Jo L1++Jo L2 from Dn];exact cV));have R5:Hid (∀b,a9=some ⟨b,0,none⟩->wr.heap.size<=b):=EP (λb e=>(cV.lt b (by rw[e];rfl)).1);have R4:=EP (show nLQ9+nRQ9<=4000000 by have:=R1.o.2;have:=R2.o.2;omega);replace B0:Hid (Below wr.heap.size wr w9):=EP (B0.o.trans b9);clear R1 R2 cV b9)))
    all_goals
     go_wp2_with fail;go_meet
     case rel=>exact⟨_,_,rfl,EP ⟨R3.o,R4.o,B0.o,R5.o⟩⟩
   case rest =>
    obtain⟨A8,c8,rfl,hx⟩:=hcut;obtain⟨n,hn⟩:∃n,nLQ9+nRQ9=n:=⟨_,rfl⟩;obtain⟨L,hL⟩:∃l,L1++L2=l:=⟨_,rfl⟩;rw[hn,hL]at hx;rw[hL]at Yy;obtain⟨W5,hn8,jb,wK⟩:=hx.o;have Yv:Hid (0<n->∃g8,A8=some ⟨g8,0,none⟩/\g8≠g/\∀W,KbQ9 g wc W->∀(k x:Nat),L[k]?=some x->W.cell? ⟨g8,k,none⟩=some (.int .i64 (x:Nat))):=EP λh0=>by
     obtain⟨g8,e8,h8⟩:=W5.2 h0;have ai:g8≠g:=by have:=wK g8 e8;omega
     exact⟨g8,e8,ai,λW hW k x hx=>hW.cell ai (h8 k x hx)⟩
    have HL8:Hid (∀x∈L,x<=999999):=EP λx hx=>by
     rw[<-Yy.o]at hx;exact(Cr.1 hx).elim (metas_small HTU.o.1 x) (metas_small HTU.o.2.1 x)
    have qz:Hid (L.length=n):=EP W5.1;have HR8:Hid (EqR g wc ((mix i ts).set i (fil2 L 0 (t,u)))):=EP (by
     rw[show fil2 L 0 (t,u)=(t,u) by unfold fil2 fillN;simp];have e:(mix i ts).set i (t,u)=mix i ts:=set_same (mix_at HP.o);rw[e];exact HR.o.below jb)
    have BW8:Hid (Below w.heap.size w wc):=EP (BW.o.trans (jb.mono BW.o.size));rw[hn];clear hx W5 jb wK hn hL HR BW M1 M2 wZ B0 bK cj bS bC kK;go_wp2_with fail;go_loopg [10] n (λgg vi wkQ9=>∃k,gg=n-k/\vi=.int .i64 (k:Nat)/\k<=n/\Hid (Below w.heap.size w wkQ9/\KbQ9 g wc wkQ9/\EqR g wkQ9 ((mix i ts).set i (fil2 L k (t,u)))))
    case atStart=>exact⟨0,rfl,rfl,Cw _,EP ⟨BW8.o,KbQ9.refl _ _,HR8.o⟩⟩
    case round =>
     obtain⟨k,rfl,rfl,hk,aW⟩:=hrel;obtain⟨bG,aq,hRk⟩:=aW.o;by_cases bw:k<n
     ·obtain⟨g8,rfl,hne8,TE⟩:=Yv.o (by omega);have kE:k<L.length:=by rw[qz.o];exact bw
      obtain⟨x,hx⟩:∃x:Nat,L[k]?=some x:=⟨_,BY kE⟩;have x0:=TE wr aq k x hx;have hx6:=HL8.o x (CG hx);have HM8:Hid (∀W,KbQ9 g wr W->W.cell? ⟨g8,k,none⟩=some (.int .i64 (x:Nat))):=EP λW hW=>hW.cell hne8 x0;have gV:=EP bG;have sI:=hRk.lt;have HX:=EP (zow x wr (by omega));have hdl:=U0 x hx6;obtain⟨PX,TR⟩:∃PX:ByteArray,(⟨(dec x).toArray⟩:ByteArray)=PX:=⟨_,rfl⟩;rw[TR]at HX
      have ar3:PX.size<=24:=by rw[<-TR];show(dec x).toArray.size<=_;rw[CY];omega
      have HCX:Hid ((⟨(67::dec x).toArray⟩:ByteArray) = { data:=#[67] }++PX):=EP (by rw[<-TR];simp[ByteArray.ext_iff]);have av:¬9223372036854775807<1+PX.size:=by omega
      have iu:=EP aq;have HRK:=EP hRk;have xe:=EP hx;clear aW aq hRk TE kE hx hdl TR bG hne8;go_wp2_with fail;refine HX.o.mono ?_;rintro e w5 ⟨rfl,b5⟩;go_upto_region 14 with fail
      obtain⟨Y,hY⟩:∃Y:ByteArray,({ data:=#[67] } : ByteArray)++PX=Y:=⟨_,rfl⟩;rw[hY]at HCX ⊢;obtain⟨V,hV⟩:∃V,w5.alloc (.cells #[.int .i64 3,.string Y,.int .i64 0,.slice none 0 0] 37)=V:=⟨_,rfl⟩;have dA:ar (w5.alloc (.cells #[.int .i64 3,.string Y,.int .i64 0,.slice none 0 0] 37)) w5.heap.size 37 #[.int .i64 3,.string Y,.int .i64 0,.slice none 0 0]:=BZ _ _;have hbV:Below wr.heap.size wr (w5.alloc (.cells #[.int .i64 3,.string Y,.int .i64 0,.slice none 0 0] 37)):=b5.alloc b5.size _;rw[hV]at dA hbV ⊢;obtain⟨tkQ9,ft⟩:∃t',fillN (L.take k) t=t':=⟨_,rfl⟩;obtain⟨ukQ9,huk⟩:∃t',fillN (L.take k) u=t':=⟨_,rfl⟩;have uH:fil2 L k (t,u)=(tkQ9,ukQ9):=by rw[<-ft,<-huk];rfl
      have BC:Hid (fil2 L (k+1) (t,u)=(fill1 x tkQ9,fill1 x ukQ9)):=EP (by
       rw[<-ft,<-huk,<-fillN_snoc,<-fillN_snoc];unfold fil2;rw[D9,xe.o];rfl)
      have hLk:∀y∈L.take k,y<=999999:=λy hy=>HL8.o y (List.mem_of_mem_take hy);obtain⟨nt1,nt2,-⟩:=fillN_facts (L.take k) hLk t HTU.o.1 HTU.o.2.2.1;obtain⟨nu1,nu2,-⟩:=fillN_facts (L.take k) hLk u HTU.o.2.1 HTU.o.2.2.2;rw[ft]at nt1 nt2
      rw[huk]at nu1 nu2;have HRV:=HRK.o.below hbV;rw[uH]at HRV;have bz:=mixp_at (tkQ9,ukQ9) HP.o;have hgV:=HRV.lt;have vT:Hid (Below w.heap.size w V):=EP (gV.o.trans (hbV.mono gV.o.size));have HTV:Hid (∀W,Below V.heap.size V W->FO W):=EP λW hW=>HT.o.below (vT.o.trans (hW.mono vT.o.size));have rS:=EP (And.intro nu1 nu2);have HBV:=EP hbV;have HRV2:=EP HRV;have gG:=EP bz;have iQ:=EP dA;have Uq:Hid (∀W,KbQ9 g V W->W.cell? ⟨g8,k,none⟩=some (.int .i64 (x:Nat))):=EP λW hW=>HM8.o W ((KbQ9.c_ hbV).trans hW);have ud:w5.heap.size≠g:=by have:=b5.size;omega
      obtain⟨K,X,Z,At,m,c,K',X',Z',Au,m',c',r1,r2,q1,q2,q3⟩:=HRV.at bz;have F1:Hid (∀W,Below V.heap.size V W->Calls prog 27 #[.agg #[.int .i64 K,.string X,.int .i64 Z,.slice At m c],.int .i64 (x:Nat),.agg #[.int .i64 3,.string Y,.int .i64 0,.slice none 0 0]] W (FilP g (fill1 x tkQ9) W)):=EP λW hW=>by
       have:=fill_at (x:=x) (r1.al (S':=λb=>b≠g/\b<W.heap.size) (w':=W) (λb hb=>⟨hb.1,Ci hb.2 hW.size⟩) (λb hb=>hW.block b hb.2)) (Ci hgV hW.size) nt1 nt2 hx6 (HTV.o W hW);rw[HCX.o]at this;exact this
      have Q1:Hid (∀W,Below V.heap.size V W->W.cell? ⟨g,i*8,none⟩=some (.int .i64 K)/\W.cell? ⟨g,i*8+1,none⟩=some (.string X)/\W.cell? ⟨g,i*8+2,none⟩=some (.int .i64 Z)/\W.cell? ⟨g,i*8+3,none⟩=some (.slice At m c)):=EP λW hW=>q1 W (hW.block g hgV);have Q3:Hid (∀W,Below V.heap.size V W->g<W.heap.size/\∀j,W.frozen? ⟨g,j,none⟩=false):=EP λW hW=>⟨Ci hgV hW.size,q3 W (hW.block g hgV)⟩;have B0:Hid (Below V.heap.size V V.drew):=EP (Cc _ V).drew;obtain⟨z0,z1,z2,z3⟩:=Q1.o V (Cc _ _);have x1:=Uq.o V (KbQ9.refl _ _);obtain⟨p0,p1,p2,p3,-⟩:=n_ dA;clear dA hbV hV hY ft huk uH hLk nt1 nt2 nu1 nu2 HRV bz r1 r2 q1 q2 q3 x0 HX b5 av ar3;go_cut [11] from 57 to 86 (λs11 wx=>s11=.pointer (some ⟨w5.heap.size,0,none⟩)/\Hid (ar wx w5.heap.size 37 #[.int .i64 3,.string Y,.int .i64 0,.slice none 0 0]/\KbQ9 g V wx/\Below w.heap.size w wx/\EqR g wx ((mix i ts).set i (fill1 x tkQ9,ukQ9))))
      case first =>
       go_region_law (go_simp;(with_reducible refine(F1.o _ B0.o).mono ?_);rintro e w9 ⟨k9,y9Q9,s9Q9,a9,m9,p9Q9,rfl,cV,cM⟩;have HR9:=EP cV;have B9:=EP (FZ B0.o cM);obtain⟨d0,d1,d2,d3⟩:=Q1.o _ B9.o;obtain⟨d4,Xf⟩:=Q3.o _ B9.o;have d5:=Xf (i*8);have d6:=Xf (i*8+1);have d7:=Xf (i*8+2);have d8:=Xf (i*8+3);clear cV cM Xf)
       all_goals
        go_wp2_with fail;go_meet
        case rel =>
         refine⟨rfl,EP ⟨?_,(KbQ9.c_ B9.o).FT _ _ _ _ _,below_setO (vT.o.trans (B9.o.mono vT.o.size)) hwg _ _ _ _,?_⟩⟩
         ·exact(LX _ _ _ _ _ _ _ _ ud).trans (iQ.o.below B9.o iQ.o.lt)
         ·have h:=(HRV2.o.below B9.o).setL gG.o HR9.o;rw[List.set_set]at h;exact h
      case rest =>
       obtain⟨rfl,Xn⟩:=hcut;obtain⟨dA,dL,bG,hRx⟩:=Xn.o;have uQ:=mixp_at (fill1 x tkQ9,ukQ9) HP.o;have hgx:=hRx.lt;have HBW3:=EP bG;have HTX:Hid (∀W,Below wc.heap.size wc W->FO W):=EP λW hW=>HT.o.below (HBW3.o.trans (hW.mono HBW3.o.size));have HRX:=EP hRx;have HAT2:=EP uQ;have YA:Hid (KbQ9 g _ wc):=EP (iu.o.trans ((KbQ9.c_ HBV.o).trans dL));have x1:=Uq.o wc dL;obtain⟨nu1,nu2⟩:=rS.o;obtain⟨K1,X1,Z1,At1,m1,Uc,K2,X2,Z2,Au2,m2,c2,r1,r2,q1,q2,q3⟩:=hRx.at uQ;have F2Q9:Hid (∀W,Below wc.heap.size wc W->Calls prog 27 #[.agg #[.int .i64 K2,.string X2,.int .i64 Z2,.slice Au2 m2 c2],.int .i64 (x:Nat),.agg #[.int .i64 3,.string Y,.int .i64 0,.slice none 0 0]] W (FilP g (fill1 x ukQ9) W)):=EP λW hW=>by
        have:=fill_at (x:=x) (r2.al (S':=λb=>b≠g/\b<W.heap.size) (w':=W) (λb hb=>⟨hb.1,Ci hb.2 hW.size⟩) (λb hb=>hW.block b hb.2)) (Ci hgx hW.size) nu1 nu2 hx6 (HTX.o W hW);rw[HCX.o]at this;exact this
       have Q2:Hid (∀W,Below wc.heap.size wc W->W.cell? ⟨g,i*8+4,none⟩=some (.int .i64 K2)/\W.cell? ⟨g,i*8+4+1,none⟩=some (.string X2)/\W.cell? ⟨g,i*8+4+2,none⟩=some (.int .i64 Z2)/\W.cell? ⟨g,i*8+4+3,none⟩=some (.slice Au2 m2 c2)):=EP λW hW=>q2 W (hW.block g hgx);have Q4:Hid (∀W,Below wc.heap.size wc W->g<W.heap.size/\∀j,W.frozen? ⟨g,j,none⟩=false):=EP λW hW=>⟨Ci hgx hW.size,q3 W (hW.block g hgx)⟩;have B2:Hid (Below wc.heap.size wc wc.drew):=EP (Cc _ wc).drew;obtain⟨z0,z1,z2,z3⟩:=Q2.o wc (Cc _ _);obtain⟨p0,p1,p2,p3,-⟩:=n_ dA;clear dA dL bG hRx uQ Xn r1 r2 q1 q2 q3 nu1 nu2 F1 Q1 Q3 B0 rS HRV2 gG iQ Uq HM8 HTV vT gV HRK HCX;go_wp2_with fail
       go_region_law (go_simp;(with_reducible refine(F2Q9.o _ B2.o).mono ?_);rintro e w9 ⟨k9,y9Q9,s9Q9,a9,m9,p9Q9,rfl,cV,cM⟩;have HR9:=EP cV;have B9:=EP (FZ B2.o cM);obtain⟨d0,d1,d2,d3⟩:=Q2.o _ B9.o;obtain⟨d4,Xf⟩:=Q4.o _ B9.o;have d5:=Xf (i*8+4);have d6:=Xf (i*8+4+1);have d7:=Xf (i*8+4+2);have d8:=Xf (i*8+4+3);clear cV cM Xf)
       all_goals
        go_wp2_with fail;go_roundg (n-(k+1))
        case measure=>omega
        case rel =>
         refine⟨k+1,rfl,by go_num,by omega,EP ⟨below_setO (HBW3.o.trans (B9.o.mono HBW3.o.size)) hwg _ _ _ _,YA.o.trans ((KbQ9.c_ B9.o).FT _ _ _ _ _),?_⟩⟩;rw[BC.o];have h:=(HRX.o.below B9.o).setR HAT2.o HR9.o;rw[List.set_set]at h;exact h
     ·have cA:k=n:=by omega
      subst cA;have eP:(mix i ts).set i (fil2 L k (t,u))=mix (i+1) ts:=by
       rw[<-mix_set HP.o];unfold fil2 fillP;rw[Cq (by rw[qz.o];exact BU _),<-Yy.o]
      obtain⟨bG,-,hRk⟩:=aW.o;rw[eP]at hRk;have bF:(mix (i+1) ts)[i]?=some (fillP (t,u)):=by rw[<-mix_set HP.o];exact mixp_at _ HP.o
      obtain⟨a1,a2,a3,a4,-,-⟩:=fillP_rig HTU.o;have ef:=allB_succ HP.o;obtain⟨T1,gA⟩:∃T,(fillP (t,u)).1=T:=⟨_,rfl⟩;obtain⟨T2,pB⟩:∃T,(fillP (t,u)).2=T:=⟨_,rfl⟩;have tX:fillP (t,u)=(T1,T2):=by rw[<-gA,<-pB]
      rw[gA]at a1 a3;rw[pB]at a2 a4;rw[tX]at bF ef;rw[HQA.o]at ef;obtain⟨qs,tS⟩:∃q,samB (T1,T2)=q:=⟨_,rfl⟩;rw[tS]at ef;obtain⟨K1,X1,Z1,At1,m1,Uc,K2,X2,Z2,Au2,m2,c2,r1,r2,q1,q2,-⟩:=hRk.at bF;have hgx:=hRk.lt;have HSM:Hid (∀W,Below wr.heap.size wr W->Calls prog 22 #[.agg #[.int .i64 K1,.string X1,.int .i64 Z1,.slice At1 m1 Uc],.agg #[.int .i64 K2,.string X2,.int .i64 Z2,.slice Au2 m2 c2]] W λe w'=>e=.returned (.bool qs)/\Below W.heap.size W w'):=EP λW hW=>by
       have:=tc_Same T1 T2 (λb=>b≠g/\b<wr.heap.size) (λb=>b≠g/\b<wr.heap.size) _ _ W (r1.al (λ_ h=>h) (λb hb=>hW.block b hb.2)) (r2.al (λ_ h=>h) (λb hb=>hW.block b hb.2)) (λb hb=>Ci hb.2 hW.size) (λb hb=>Ci hb.2 hW.size) a1 a2 (by omega);rw[show(t_ [] [] T1 T2 0).1=qs from tS]at this;exact this
      have SO8:Hid (∀W,Below wr.heap.size wr W->(λW=>W.cell? ⟨g,i*8,none⟩=some (.int .i64 K1)/\W.cell? ⟨g,i*8+1,none⟩=some (.string X1)/\W.cell? ⟨g,i*8+2,none⟩=some (.int .i64 Z1)/\W.cell? ⟨g,i*8+3,none⟩=some (.slice At1 m1 Uc)/\W.cell? ⟨g,i*8+4,none⟩=some (.int .i64 K2)/\W.cell? ⟨g,i*8+4+1,none⟩=some (.string X2)/\W.cell? ⟨g,i*8+4+2,none⟩=some (.int .i64 Z2)/\W.cell? ⟨g,i*8+4+3,none⟩=some (.slice Au2 m2 c2)) W):=EP λW h=>by
       obtain⟨a0,a1,a2,a3⟩:=q1 W (h.block g hgx);obtain⟨b0,b1,b2,b3⟩:=q2 W (h.block g hgx);exact⟨a0,a1,a2,a3,b0,b1,b2,b3⟩
      have gV:=EP bG;have HRK:=EP hRk;have Uy:=EP ef;have B0:Hid (Below wr.heap.size wr wr.drew):=EP (Cc _ wr).drew;clear bG hRk ef bF aW eP tX gA pB tS r1 r2 q1 q2 hgx a1 a2 a3 a4 Yv HL8;go_wp2_with fail;go_region_held3 (λW=>W.cell? ⟨g,i*8,none⟩=some (.int .i64 K1)/\W.cell? ⟨g,i*8+1,none⟩=some (.string X1)/\W.cell? ⟨g,i*8+2,none⟩=some (.int .i64 Z1)/\W.cell? ⟨g,i*8+3,none⟩=some (.slice At1 m1 Uc)/\W.cell? ⟨g,i*8+4,none⟩=some (.int .i64 K2)/\W.cell? ⟨g,i*8+4+1,none⟩=some (.string X2)/\W.cell? ⟨g,i*8+4+2,none⟩=some (.int .i64 Z2)/\W.cell? ⟨g,i*8+4+3,none⟩=some (.slice Au2 m2 c2)) (first|(with_reducible exact SO8.o _ B0.o))
       (((with_reducible refine(HSM.o _ B0.o).mono ?_);rintro e Td ⟨rfl,b11⟩;replace B0:=EP (B0.o.trans (b11.mono B0.o.size));clear b11))
      all_goals
       cases qaQ9 <;>(
        go_wp2_with fail;go_roundg (N-(i+1))
        case measure=>omega
        case rel=>exact⟨i+1,rfl,by go_num,by omega,by rw[Uy.o];rfl,EP ⟨gV.o.trans (B0.o.mono gV.o.size),by rw[mix_len,HN.o],λ_=>⟨g,rfl,hwg,HRK.o.below B0.o⟩⟩⟩)
  ·have wI:i=N:=by omega
   subst wI;obtain⟨bG,-,hg⟩:=aW.o;obtain⟨S',pF,hEq⟩:∃S':Nat->Prop,(∀b,S' b->b<wr.heap.size)/\Hg S' wr (ts.map fillP) A:=by
    by_cases h0:0<i
    ·obtain⟨g,rfl,-,hR⟩:=hg h0;have h:=hR.eqs;have hm:mix i ts=ts.map fillP:=by rw[<-HN.o];exact mix_all ts
     rw[hm]at h;exact⟨_,λb hb=>hb.2,h⟩
    ·refine⟨λ_=>False,λ_ h=>h.elim,λj t u hj=>?_⟩;have:ts=[]:=Cn (by rw[HN.o];omega);rw[this]at hj;simp at hj
   have fR:=uc_rig (c:=c1) hEq pF HOK.o (by rw[HN.o];exact hN8);rw[HN.o]at fR;rw[HQA.o]at fR;have kZ:=EP fR;have gV:=EP bG;clear fR bG hg aW hEq pF;go_wp2_with fail;refine kZ.o.mono ?_;rintro e w9 ⟨A9,c9,er,rfl,cM,hq⟩;have B9:=EP (gV.o.trans (cM.mono gV.o.size));clear cM;rcases hq with⟨rfl,rfl⟩|⟨rfl,rfl⟩
   ·go_wp2_with fail;go_ret
    exact⟨rfl,B9.o⟩
   ·go_wp2_with fail;go_ret
    exact⟨rfl,B9.o⟩
theorem lifted(os:Os)(started:os.Started)(H:Type)(enc:TypeId × Value->H):ReturnsInHanded {} Tryz.checked os 9 .any (λw args=>(Rows.unifyRigidSpec.pre enc prog Tryz.f9 Rows.unifyRigidRow.domain false w args/\laidMetH prog E6 w)/\sizedMet enc prog Tryz.f9 (OpenSpec.ofChange Rows.unifyRigidSpec) false w args)
   (Rows.unifyRigidSpec.post enc prog Tryz.f9 false true false false):=by
 refine returnsInHanded_of_change_and (C:=Tryz.checked) (X:=λw _=>laidMetH prog E6 w) (λ_ _ _ hh h=>h.of_heap hh) OQ started (by kernel_rfl) func9
  (ChangeSpec.witness_shaped (enc:=enc) (C:=Tryz.checked) (os:=os) (X:=λw _=>laidMetH prog E6 w) false (World.laidAll prog os E6) #[.slice none 0 0] 8 (World.laidAll_os _ _ _)
   (Wg os) (by kernel_rfl) (by kernel_rfl) (by kernel_rfl)
   (VQ os _)) ?_
 intro W base args ds gs before ff hW hc _ hL _;have fq:∀(j:Nat) t v,Tryz.f9.params[j]?=some t->args[j]?=some v->Value.okWide prog W .any base t v:=ff;have nL:=hW;obtain⟨p,q,s4,hV,rfl,_,_⟩:=hW;have hA:DataW.TrodAll enc prog W 0 (λ_=>true) true Tryz.f9.params.toList args.toList ds p:=s4;rw[params9]at hA fq;obtain⟨v0,vs0,d0,ds0,p0,q0,oW,rfl,rfl,h0,r0⟩:=trodAll_cons hA;obtain⟨rfl,rfl,rfl⟩:=trodAll_nil r0;obtain rfl:args=#[v0]:=by cases args;simp_all
 obtain⟨rfl,rfl⟩:=trodVars_none hV;obtain⟨A9,nv,cv,rfl⟩:=okWide_slice QZ (fq 0 22 v0 rfl rfl);obtain⟨ls,rfl,bD,aA,sB⟩:=SD h0;clear s4 ff;simp only[CJ]at nL;have af:∀x∈p0,x.block<W.heap.size:=λx hx=>by simpa using nL.lt x (by simpa using hx)
 refine(walk ls A9 cv W (Wk hL) bD aA).mono λe W' ⟨he,hg⟩=>?_;subst he;have ha:=(trodAll_cons_mk (Below.trod RL (by kernel_rfl) (DB (by kernel_rfl)) h0 hg af) trodAll_mk0);simp only[CJ]at ha;exact⟨_,rfl,_,_,_,[],p0,[],nL,trodAll_cons_mk (shut_bool underlying4 _) trodAll_mk0,ha,rfl,hg.frame _,λh=>by cases h⟩
theorem over:Rows.unifyRigidRow.holds Tryz.pinned (OpenSpec.ofChange Rows.unifyRigidSpec) :=
 OpenClaim.holds_of_wide 9 Tryz.f9 rfl rfl rfl rfl rfl rfl rfl ⟨rfl,rfl,rfl,rfl,rfl⟩ rfl rfl rfl rfl rfl (by kernel_rfl) func9 (by kernel_rfl)
  (DB (by kernel_rfl)) (by unfold Func.isWrapper;first|(rw[Ch (by decide +kernel)];kernel_rfl)|(rw[Cg (by decide +kernel)];exact⟨rfl,rfl⟩))
  (λos started H enc _=>lifted os started H enc)
theorem proved:Rows.UnifyRigidCardSaid :=
 Claim7.holds_tied_plain_at .later [] [.data,.data,.data,.sentinel,.sentinel] true _ true
  over (λ_ h=>by cases h) (by kernel_rfl) (λ_ h=>by cases h) unifyRigid_row_tie rfl ⟨rfl,rfl⟩ (by kernel_rfl) rfl
  (λf fn hf fC=>by
   obtain rfl:f=9:=Dz ((show prog.funcNamed "savant/savantlaw04.UnifyRigid" = some 9 by kernel_rfl).symm.trans hf) |>.symm;obtain rfl:fn=Tryz.f9:=(Dz (func9.symm.trans fC)).symm;exact⟨by kernel_rfl,λj t ht=>by
    rw[params9]at ht;have hm:t∈[22]:=by
     simpa using Array.mem_of_getElem? ht
    have aK:([22].all λu=>!prog.wantsStandIn u)=true:=by kernel_rfl
    exact(show prog.wantsStandIn t=false by simpa using Eo.1 aK t hm)⟩)
  (by kernel_rfl)
#print axioms proved
end Go.Proofs.YtfafilmklhnngaaGreatDoor.unifyRigid
