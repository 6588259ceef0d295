import Derived.Test.YtfafilmklhnngaaGreatDoorBkAQ
import Derived.Test.YtfafilmklhnngaaGreatDoorBkAN
import Derived.Test.YtfafilmklhnngaaGreatDoorBkAG
import Derived.Test.YtfafilmklhnngaaGreatDoorCards
import Derived.Test.YtfafilmklhnngaaGreatDoorTie
import Derived.SevenTiedAt
set_option maxHeartbeats 12800000
namespace Go.Proofs.YtfafilmklhnngaaGreatDoor.unifyRigid
open Go.ChangeShapes Go.WideShapes Go.ChangeAt Go.RowKit Lx Tx Go.Shelf
open Go.ChangeMaps (open_string shut_string)
set_option maxRecDepth 100000
def RgS(N:Nat)(A:Option Addr)(w0:World)(qs:List (Ty × Ty))(wr:World):Prop :=
 Below w0.heap.size w0 wr/\qs.length=N/\(0<N->∃g,A=some ⟨g,0,none⟩/\w0.heap.size<=g/\EqR g wr qs)
theorem zos {α:Type} {l:List α} {i:Nat} {p:α}(h:l[i]?=some p):l.set i p=l:=by
 refine Ck λj=>?_;by_cases e:j=i
 ·subst e
  rw[List.getElem?_set_self (Aw.1 h).1,h]
 ·rw[List.getElem?_set_ne (λh=>e h.symm)]
theorem zgR {i:Nat} {ts:List (Ty × Ty)} {p:Ty × Ty}(q:Ty × Ty)(h:ts[i]?=some p):((mix i ts).set i q)[i]?=some q:=by
 rw[List.getElem?_set_self]
 rw[zgS]
 exact(Aw.1 h).1
theorem walk(ls:List (ByteArray × ByteArray))(A0:Option Addr)(c0:Nat)(w:World)(ht:Tab w)(hl:LinesAt w ls A0)(hs:∀p∈ls,p.1.size<=maxLen/\p.2.size<=maxLen):Calls Tryz.prog 9 #[.slice A0 ls.length c0] w λe w'=>e=.returned (.bool true)/\Below w.heap.size w w':=by
 obtain⟨n0,gI⟩:∃n,ls.length=n:=⟨_,rfl⟩;have HAW:=CS (zop w ht);have cF:=CS (λ(W:World) (hW:Below w.heap.size w W)=>zj1 ls A0 c0 W (λi p hi=>by
  obtain⟨a,e,h1,h2,h3⟩:=hl i p hi;have hb:∀k,(a.add k).block=a.block:=λk=>by unfold Addr.add;split <;> rfl
  exact⟨a,e,As h1 hW.size,(hW.cell (p:=a.add (i*2)) (by rw[hb];exact h1)).trans h2,(hW.cell (p:=a.add (i*2+1)) (by rw[hb];exact h1)).trans h3⟩) hs)
 rw[gI]at cF ⊢
 have HT:=CS ht;clear ht hl hs;go_enter Tryz.func9,Tryz.ntmps9
 go_wp2_with fail
 refine HAW.out.mono ?_;rintro e wa ⟨rfl,ba⟩;have BA:=CS ba;clear ba HAW;go_wp2_with fail
 refine(cF.out _ BA.out).mono ?_;rintro e w1 ⟨b1,⟨h0,rfl⟩|⟨ts,v1,v2,S,pk,rfl,hE⟩⟩
 ·go_wp2_with fail
  go_ret
  exact⟨rfl,BA.out.trans (b1.mono BA.out.size)⟩
 obtain⟨A,c1,rfl⟩:=hE.shape;obtain⟨pq,ht8,fT⟩:=zfA pk;obtain⟨N,hN⟩:∃n,ts.length=n:=⟨_,rfl⟩;have B1:Hid (Below w.heap.size w w1):=CS (BA.out.trans (b1.mono BA.out.size));have dS:Hid (RgS N A w (mix 0 ts) w1):=CS ⟨B1.out,by rw[zgS,hN],λh0=>by
  obtain⟨g,e,hB,hR⟩:=hE.eqR (by omega);exact⟨g,e,AB BA.out.size hB,by rw[zou];exact hR⟩⟩
 have HOK:=CS fT;have HN:=CS hN;have hN8:N<=8:=by omega
 rw[hN]
 clear hE pk pq ht8 fT b1 BA cF hN B1;go_wp2_with fail
 go_loopg [7,8] N (λgg v7 vi wr=>∃i,gg=N-i/\vi=.int .i64 (i:Nat)/\i<=N/\v7=.bool (allB i ts)/\Hid (RgS N A w (mix i ts) wr))
 case atStart=>exact⟨0,rfl,rfl,AV _,by rw[zmM],dS⟩
 case round =>
  obtain⟨i,rfl,rfl,hi,rfl,aI⟩:=hrel;obtain⟨qa,qS⟩:∃q,allB i ts=q:=⟨_,rfl⟩;rw[qS]
  have HQA:=CS qS;clear qS;by_cases ah:i<N
  ·obtain⟨⟨t,u⟩,hp⟩:∃p,ts[i]?=some p:=⟨_,Ak (by rw[HN.out];exact ah)⟩
   obtain⟨bw,-,hg⟩:=aI.out;obtain⟨g,rfl,vV,hR⟩:=hg (by omega);have HP:=CS hp;have lI:=CS (HOK.out t u (AX hp));obtain⟨K,X,Z,At,m,c,K',X',Z',Au,m',c',r1,r2,q1,q2,-⟩:=hR.at (zmL hp);obtain⟨nL,hnL⟩:∃n,t.metas.length=n:=⟨_,rfl⟩;obtain⟨nR,hnR⟩:∃n,u.metas.length=n:=⟨_,rfl⟩;obtain⟨L1,lD⟩:∃L,t.metas=L:=⟨_,rfl⟩;obtain⟨L2,hL2⟩:∃L,u.metas=L:=⟨_,rfl⟩;have BW:=CS bw;have HR:=CS hR;have ik:=hR.lt;have B0:Hid (Below wr.heap.size wr wr.drew):=CS (Below.refl _ wr).drew;have wL:RdN wr t (.agg #[.int .i64 K,.string X,.int .i64 Z,.slice At m c]):=r1.keep (λ_ h=>h.2) (λ_ _=>rfl);have wK:RdN wr u (.agg #[.int .i64 K',.string X',.int .i64 Z',.slice Au m' c']):=r2.keep (λ_ h=>h.2) (λ_ _=>rfl);have M1:=CS (λW (h:Below wr.heap.size wr W)=>by have:=zj2 (wL.below h) lI.out.1 (by have:=lI.out.2.2.1;omega) wr.heap.size nL h.size hnL;rw[lD]at this;exact this);have M2:=CS (λW (h:Below wr.heap.size wr W)=>by have:=zj2 (wK.below h) lI.out.2.1 (by have:=lI.out.2.2.2;omega) wr.heap.size nR h.size hnR;rw[hL2]at this;exact this);have SO7:Hid (∀W,Below wr.heap.size wr W->(λW=>W.cell? ⟨g,i*8,none⟩=some (.int .i64 K)/\W.cell? ⟨g,i*8+1,none⟩=some (.string X)/\W.cell? ⟨g,i*8+2,none⟩=some (.int .i64 Z)/\W.cell? ⟨g,i*8+3,none⟩=some (.slice At m c)/\W.cell? ⟨g,i*8+4,none⟩=some (.int .i64 K')/\W.cell? ⟨g,i*8+4+1,none⟩=some (.string X')/\W.cell? ⟨g,i*8+4+2,none⟩=some (.int .i64 Z')/\W.cell? ⟨g,i*8+4+3,none⟩=some (.slice Au m' c')) W):=CS λW h=>by
    obtain⟨a0,a1,a2,a3⟩:=q1 W (h.block g ik);obtain⟨b0,b1,b2,b3⟩:=q2 W (h.block g ik);exact⟨a0,a1,a2,a3,b0,b1,b2,b3⟩
   obtain⟨i0,bm,bO,bD,bj⟩:=info_parts zeg;have uh:Hid (t.metas++u.metas=L1++L2):=CS (by rw[lD,hL2]);clear hp bw hg hR r1 r2 q1 q2 wL wK hnL hnR lD hL2 aI;go_upto_region 9 with fail
   go_cut [9] from 31 to 101 (λs9 wx=>∃A8 c8,s9=.slice A8 (nL+nR) c8/\Hid (MetR wx (L1++L2) (nL+nR) A8/\nL+nR<=4000000/\Below wr.heap.size wr wx/\∀b,A8=some ⟨b,0,none⟩->wr.heap.size<=b))
   case first =>
    go_region_held3 (λW=>W.cell? ⟨g,i*8,none⟩=some (.int .i64 K)/\W.cell? ⟨g,i*8+1,none⟩=some (.string X)/\W.cell? ⟨g,i*8+2,none⟩=some (.int .i64 Z)/\W.cell? ⟨g,i*8+3,none⟩=some (.slice At m c)/\W.cell? ⟨g,i*8+4,none⟩=some (.int .i64 K')/\W.cell? ⟨g,i*8+4+1,none⟩=some (.string X')/\W.cell? ⟨g,i*8+4+2,none⟩=some (.int .i64 Z')/\W.cell? ⟨g,i*8+4+3,none⟩=some (.slice Au m' c')) (first|(with_reducible exact SO7.out _ B0.out))
     ((first
      |((with_reducible refine(M1.out _ B0.out).mono ?_);rintro e w9 ⟨a9,q9,rfl,ft,b9⟩;(try replace R2:=CS (R2.out.below b9));have R1:=CS ft;replace B0:=CS (zes B0.out b9);clear ft b9)
      |((with_reducible refine(M2.out _ B0.out).mono ?_);rintro e w9 ⟨a9,q9,rfl,ft,b9⟩;(try replace R1:=CS (R1.out.below b9));have R2:=CS ft;replace B0:=CS (zes B0.out b9);clear ft b9)
      |(refine zgt (by rfl) _ _ _ (by rfl) wr.heap.size 3 i0 _ 8 Tryz.underlying61 bm bO bD bj rfl _ _ nL nR (intV L1) (intV L2) (by rfl) (by rfl) R1.out.1 R2.out.1 (znA L2) (by unfold maxLen;have:=R1.out.2;have:=R2.out.2;omega) (by have:=R1.out.2;have:=R2.out.2;omega) B0.out.size ?_;intro a9 q9 w9 ft b9;have R3:=CS (show MetR w9 (L1++L2) (nL+nR) a9 from MetR.of_own (by rw[show intV (L1++L2)=intV L1++intV L2 from Bl];exact ft));have R5:Hid (∀b,a9=some ⟨b,0,none⟩->wr.heap.size<=b):=CS (λb e=>(ft.lt b (by rw[e];rfl)).1);have R4:=CS (show nL+nR<=4000000 by have:=R1.out.2;have:=R2.out.2;omega);replace B0:Hid (Below wr.heap.size wr w9):=CS (B0.out.trans b9);clear R1 R2 ft b9)))
    all_goals
     go_wp2_with fail
     go_meet
     case rel=>exact⟨_,_,rfl,CS ⟨R3.out,R4.out,B0.out,R5.out⟩⟩
   case rest =>
    obtain⟨A8,c8,rfl,hx⟩:=hcut;obtain⟨n,hn⟩:∃n,nL+nR=n:=⟨_,rfl⟩;obtain⟨L,hL⟩:∃l,L1++L2=l:=⟨_,rfl⟩;rw[hn,hL]at hx
    rw[hL]at uh
    obtain⟨sM,hn8,fA,pR⟩:=hx.out;have HMR:Hid (0<n->∃g8,A8=some ⟨g8,0,none⟩/\g8≠g/\∀W,Kb g wc W->∀(k x:Nat),L[k]?=some x->W.cell? ⟨g8,k,none⟩=some (.int .i64 (x:Nat))):=CS λh0=>by
     obtain⟨g8,e8,h8⟩:=sM.2 h0;have af:g8≠g:=by have:=pR g8 e8;omega
     exact⟨g8,e8,af,λW hW k x hx=>hW.cell af (h8 k x hx)⟩
    have HL8:Hid (∀x∈L,x<=999999):=CS λx hx=>by
     rw[<-uh.out]at hx
     exact(AA.1 hx).elim (zcC lI.out.1 x) (zcC lI.out.2.1 x)
    have lK:Hid (L.length=n):=CS sM.1;have HR8:Hid (EqR g wc ((mix i ts).set i (fil2 L 0 (t,u)))):=CS (by
     rw[show fil2 L 0 (t,u)=(t,u) by unfold fil2 zbz;simp]
     have e:(mix i ts).set i (t,u)=mix i ts:=zos (zmL HP.out);rw[e]
     exact HR.out.below fA)
    have BW8:Hid (Below w.heap.size w wc):=CS (BW.out.trans (fA.mono BW.out.size));rw[hn]
    clear hx sM fA pR hn hL HR BW M1 M2 SO7 B0 bm bO bD bj ik;go_wp2_with fail
    go_loopg [10] n (λgg vi wk=>∃k,gg=n-k/\vi=.int .i64 (k:Nat)/\k<=n/\Hid (Below w.heap.size w wk/\Kb g wc wk/\EqR g wk ((mix i ts).set i (fil2 L k (t,u)))))
    case atStart=>exact⟨0,rfl,rfl,AV _,CS ⟨BW8.out,Kb.refl _ _,HR8.out⟩⟩
    case round =>
     obtain⟨k,rfl,rfl,hk,aI⟩:=hrel;obtain⟨dM,an,qc⟩:=aI.out;by_cases bV:k<n
     ·obtain⟨g8,rfl,xe,hc8⟩:=HMR.out (by omega)
      have gK:k<L.length:=by rw[lK.out];exact bV
      obtain⟨x,hx⟩:∃x:Nat,L[k]?=some x:=⟨_,Ak gK⟩;have x0:=hc8 wr an k x hx;have uN:=HL8.out x (AX hx);have HM8:Hid (∀W,Kb g wr W->W.cell? ⟨g8,k,none⟩=some (.int .i64 (x:Nat))):=CS λW hW=>hW.cell xe x0;have mg:=CS dM;have hgr:=qc.lt;have HX:=CS (zh6 x wr (by omega));have hdl:=zfh x uN;obtain⟨PX,qd⟩:∃PX:ByteArray,(⟨(dec x).toArray⟩:ByteArray)=PX:=⟨_,rfl⟩;rw[qd]at HX
      have yv:PX.size<=24:=by rw[<-qd];show(dec x).toArray.size<=_;rw[Bf];omega
      have HCX:Hid ((⟨(67::dec x).toArray⟩:ByteArray) = { data:=#[67] }++PX):=CS (by rw[<-qd];simp[ByteArray.ext_iff]);have aw:¬9223372036854775807<1+PX.size:=by omega
      have eJ:=CS an;have HRK:=CS qc;have rN:=CS hx;clear aI an qc hc8 gK hx hdl qd dM xe;go_wp2_with fail
      refine HX.out.mono ?_;rintro e w5 ⟨rfl,b5⟩;go_upto_region 14 with fail
      obtain⟨Y,hY⟩:∃Y:ByteArray,({ data:=#[67] } : ByteArray)++PX=Y:=⟨_,rfl⟩;rw[hY]at HCX ⊢
      obtain⟨V,hV⟩:∃V,w5.alloc (.cells #[.int .i64 3,.string Y,.int .i64 0,.slice none 0 0] 37)=V:=⟨_,rfl⟩;have fy:Blk (w5.alloc (.cells #[.int .i64 3,.string Y,.int .i64 0,.slice none 0 0] 37)) w5.heap.size 37 #[.int .i64 3,.string Y,.int .i64 0,.slice none 0 0]:=heap_alloc_new _ _;have vd:Below wr.heap.size wr (w5.alloc (.cells #[.int .i64 3,.string Y,.int .i64 0,.slice none 0 0] 37)):=b5.alloc b5.size _;rw[hV]at fy vd ⊢
      obtain⟨tk,iE⟩:∃t',zbz (L.take k) t=t':=⟨_,rfl⟩;obtain⟨uk,huk⟩:∃t',zbz (L.take k) u=t':=⟨_,rfl⟩;have lf:fil2 L k (t,u)=(tk,uk):=by rw[<-iE,<-huk];rfl
      have HF1:Hid (fil2 L (k+1) (t,u)=(zbK x tk,zbK x uk)):=CS (by
       rw[<-iE,<-huk,<-zgw,<-zgw]
       unfold fil2;rw[B8,rN.out]
       rfl)
      have hLk:∀y∈L.take k,y<=999999:=λy hy=>HL8.out y (List.mem_of_mem_take hy);obtain⟨nt1,nt2,-⟩:=zbZ (L.take k) hLk t lI.out.1 lI.out.2.2.1;obtain⟨uE,uD,-⟩:=zbZ (L.take k) hLk u lI.out.2.1 lI.out.2.2.2;rw[iE]at nt1 nt2
      rw[huk]at uE uD
      have zo:=HRK.out.below vd;rw[lf]at zo
      have bF:=zgR (tk,uk) HP.out;have hgV:=zo.lt;have ow:Hid (Below w.heap.size w V):=CS (mg.out.trans (vd.mono mg.out.size));have HTV:Hid (∀W,Below V.heap.size V W->Tab W):=CS λW hW=>HT.out.below (ow.out.trans (hW.mono ow.out.size));have iP:=CS (And.intro uE uD);have HBV:=CS vd;have zn:=CS zo;have fq:=CS bF;have oU:=CS fy;have qw:Hid (∀W,Kb g V W->W.cell? ⟨g8,k,none⟩=some (.int .i64 (x:Nat))):=CS λW hW=>HM8.out W ((Kb.of_below vd).trans hW);have mR:w5.heap.size≠g:=by have:=b5.size;omega
      obtain⟨K,X,Z,At,m,c,K',X',Z',Au,m',c',r1,r2,q1,q2,q3⟩:=zo.at bF;have F1:Hid (∀W,Below V.heap.size V W->Calls Tryz.prog 27 #[.agg #[.int .i64 K,.string X,.int .i64 Z,.slice At m c],.int .i64 (x:Nat),.agg #[.int .i64 3,.string Y,.int .i64 0,.slice none 0 0]] W (FilP g (zbK x tk) W)):=CS λW hW=>by
       have:=zj7 (x:=x) (r1.keep (S':=λb=>b≠g/\b<W.heap.size) (w':=W) (λb hb=>⟨hb.1,As hb.2 hW.size⟩) (λb hb=>hW.block b hb.2)) (As hgV hW.size) nt1 nt2 uN (HTV.out W hW);rw[HCX.out]at this
       exact this
      have Q1:Hid (∀W,Below V.heap.size V W->W.cell? ⟨g,i*8,none⟩=some (.int .i64 K)/\W.cell? ⟨g,i*8+1,none⟩=some (.string X)/\W.cell? ⟨g,i*8+2,none⟩=some (.int .i64 Z)/\W.cell? ⟨g,i*8+3,none⟩=some (.slice At m c)):=CS λW hW=>q1 W (hW.block g hgV);have Q3:Hid (∀W,Below V.heap.size V W->g<W.heap.size/\∀j,W.frozen? ⟨g,j,none⟩=false):=CS λW hW=>⟨As hgV hW.size,q3 W (hW.block g hgV)⟩;have B0:Hid (Below V.heap.size V V.drew):=CS (Below.refl _ V).drew;obtain⟨z0,z1,z2,z3⟩:=Q1.out V (Below.refl _ _);have x1:=qw.out V (Kb.refl _ _);obtain⟨p0,p1,p2,p3,-⟩:=zaa fy;clear fy vd hV hY iE huk lf hLk nt1 nt2 uE uD zo bF r1 r2 q1 q2 q3 x0 HX b5 aw yv;go_cut [11] from 57 to 86 (λs11 wx=>s11=.pointer (some ⟨w5.heap.size,0,none⟩)/\Hid (Blk wx w5.heap.size 37 #[.int .i64 3,.string Y,.int .i64 0,.slice none 0 0]/\Kb g V wx/\Below w.heap.size w wx/\EqR g wx ((mix i ts).set i (zbK x tk,uk))))
      case first =>
       go_region_law (go_simp;(with_reducible refine(F1.out _ B0.out).mono ?_);rintro e w9 ⟨k9,y9,s9,a9,m9,p9,rfl,ft,bM⟩;have zs:=CS ft;have B9:=CS (zes B0.out bM);obtain⟨d0,d1,d2,d3⟩:=Q1.out _ B9.out;obtain⟨d4,jq⟩:=Q3.out _ B9.out;have d5:=jq (i*8);have d6:=jq (i*8+1);have d7:=jq (i*8+2);have d8:=jq (i*8+3);clear ft bM jq)
       all_goals
        go_wp2_with fail
        go_meet
        case rel =>
         refine⟨rfl,CS ⟨?_,(Kb.of_below B9.out).setO _ _ _ _ _,zgv (ow.out.trans (B9.out.mono ow.out.size)) vV _ _ _ _,?_⟩⟩
         ·exact(za7 _ _ _ _ _ _ _ _ mR).trans (oU.out.below B9.out oU.out.lt)
         ·have h:=(zn.out.below B9.out).setL fq.out zs.out
          rw[List.set_set]at h
          exact h
      case rest =>
       obtain⟨rfl,hcx⟩:=hcut;obtain⟨fy,cO,dM,hRx⟩:=hcx.out;have jv:=zgR (zbK x tk,uk) HP.out;have rk:=hRx.lt;have qC:=CS dM;have HTX:Hid (∀W,Below wc.heap.size wc W->Tab W):=CS λW hW=>HT.out.below (qC.out.trans (hW.mono qC.out.size));have HRX:=CS hRx;have HAT2:=CS jv;have zK:Hid (Kb g _ wc):=CS (eJ.out.trans ((Kb.of_below HBV.out).trans cO));have x1:=qw.out wc cO;obtain⟨uE,uD⟩:=iP.out;obtain⟨K1,X1,Z1,At1,m1,c1',K2,X2,Z2,vM,m2,c2,r1,r2,q1,q2,q3⟩:=hRx.at jv;have F2:Hid (∀W,Below wc.heap.size wc W->Calls Tryz.prog 27 #[.agg #[.int .i64 K2,.string X2,.int .i64 Z2,.slice vM m2 c2],.int .i64 (x:Nat),.agg #[.int .i64 3,.string Y,.int .i64 0,.slice none 0 0]] W (FilP g (zbK x uk) W)):=CS λW hW=>by
        have:=zj7 (x:=x) (r2.keep (S':=λb=>b≠g/\b<W.heap.size) (w':=W) (λb hb=>⟨hb.1,As hb.2 hW.size⟩) (λb hb=>hW.block b hb.2)) (As rk hW.size) uE uD uN (HTX.out W hW);rw[HCX.out]at this
        exact this
       have Q2:Hid (∀W,Below wc.heap.size wc W->W.cell? ⟨g,i*8+4,none⟩=some (.int .i64 K2)/\W.cell? ⟨g,i*8+4+1,none⟩=some (.string X2)/\W.cell? ⟨g,i*8+4+2,none⟩=some (.int .i64 Z2)/\W.cell? ⟨g,i*8+4+3,none⟩=some (.slice vM m2 c2)):=CS λW hW=>q2 W (hW.block g rk);have Q4:Hid (∀W,Below wc.heap.size wc W->g<W.heap.size/\∀j,W.frozen? ⟨g,j,none⟩=false):=CS λW hW=>⟨As rk hW.size,q3 W (hW.block g rk)⟩;have B2:Hid (Below wc.heap.size wc wc.drew):=CS (Below.refl _ wc).drew;obtain⟨z0,z1,z2,z3⟩:=Q2.out wc (Below.refl _ _);obtain⟨p0,p1,p2,p3,-⟩:=zaa fy;clear fy cO dM hRx jv hcx r1 r2 q1 q2 q3 uE uD F1 Q1 Q3 B0 iP zn fq oU qw HM8 HTV ow mg HRK HCX;go_wp2_with fail
       go_region_law (go_simp;(with_reducible refine(F2.out _ B2.out).mono ?_);rintro e w9 ⟨k9,y9,s9,a9,m9,p9,rfl,ft,bM⟩;have zs:=CS ft;have B9:=CS (zes B2.out bM);obtain⟨d0,d1,d2,d3⟩:=Q2.out _ B9.out;obtain⟨d4,jq⟩:=Q4.out _ B9.out;have d5:=jq (i*8+4);have d6:=jq (i*8+4+1);have d7:=jq (i*8+4+2);have d8:=jq (i*8+4+3);clear ft bM jq)
       all_goals
        go_wp2_with fail
        go_roundg (n-(k+1))
        case measure=>omega
        case rel =>
         refine⟨k+1,rfl,by go_num,by omega,CS ⟨zgv (qC.out.trans (B9.out.mono qC.out.size)) vV _ _ _ _,zK.out.trans ((Kb.of_below B9.out).setO _ _ _ _ _),?_⟩⟩;rw[HF1.out]
         have h:=(HRX.out.below B9.out).setR HAT2.out zs.out;rw[List.set_set]at h
         exact h
     ·have bW:k=n:=by omega
      subst bW;have eA:(mix i ts).set i (fil2 L k (t,u))=mix (i+1) ts:=by
       rw[<-zj6 HP.out]
       unfold fil2 zaV;rw[AK (by rw[lK.out];exact Ai _),<-uh.out]
      obtain⟨dM,-,qc⟩:=aI.out;rw[eA]at qc
      have aS:(mix (i+1) ts)[i]?=some (zaV (t,u)):=by rw[<-zj6 HP.out];exact zgR _ HP.out
      obtain⟨a1,a2,a3,a4,-,-⟩:=ze2 lI.out;have bz:=zmN HP.out;obtain⟨T1,nM⟩:∃T,(zaV (t,u)).1=T:=⟨_,rfl⟩;obtain⟨T2,hT2⟩:∃T,(zaV (t,u)).2=T:=⟨_,rfl⟩;have oD:zaV (t,u)=(T1,T2):=by rw[<-nM,<-hT2]
      rw[nM]at a1 a3
      rw[hT2]at a2 a4
      rw[oD]at aS bz
      rw[HQA.out]at bz
      obtain⟨qs,qR⟩:∃q,samB (T1,T2)=q:=⟨_,rfl⟩;rw[qR]at bz
      obtain⟨K1,X1,Z1,At1,m1,c1',K2,X2,Z2,vM,m2,c2,r1,r2,q1,q2,-⟩:=qc.at aS;have rk:=qc.lt;have HSM:Hid (∀W,Below wr.heap.size wr W->Calls Tryz.prog 22 #[.agg #[.int .i64 K1,.string X1,.int .i64 Z1,.slice At1 m1 c1'],.agg #[.int .i64 K2,.string X2,.int .i64 Z2,.slice vM m2 c2]] W λe w'=>e=.returned (.bool qs)/\Below W.heap.size W w'):=CS λW hW=>by
       have:=zpp T1 T2 (λb=>b≠g/\b<wr.heap.size) (λb=>b≠g/\b<wr.heap.size) _ _ W (r1.keep (λ_ h=>h) (λb hb=>hW.block b hb.2)) (r2.keep (λ_ h=>h) (λb hb=>hW.block b hb.2)) (λb hb=>As hb.2 hW.size) (λb hb=>As hb.2 hW.size) a1 a2 (by omega);rw[show(smT [] [] T1 T2 0).1=qs from qR]at this
       exact this
      have SO8:Hid (∀W,Below wr.heap.size wr W->(λW=>W.cell? ⟨g,i*8,none⟩=some (.int .i64 K1)/\W.cell? ⟨g,i*8+1,none⟩=some (.string X1)/\W.cell? ⟨g,i*8+2,none⟩=some (.int .i64 Z1)/\W.cell? ⟨g,i*8+3,none⟩=some (.slice At1 m1 c1')/\W.cell? ⟨g,i*8+4,none⟩=some (.int .i64 K2)/\W.cell? ⟨g,i*8+4+1,none⟩=some (.string X2)/\W.cell? ⟨g,i*8+4+2,none⟩=some (.int .i64 Z2)/\W.cell? ⟨g,i*8+4+3,none⟩=some (.slice vM m2 c2)) W):=CS λW h=>by
       obtain⟨a0,a1,a2,a3⟩:=q1 W (h.block g rk);obtain⟨b0,b1,b2,b3⟩:=q2 W (h.block g rk);exact⟨a0,a1,a2,a3,b0,b1,b2,b3⟩
      have mg:=CS dM;have HRK:=CS qc;have z6:=CS bz;have B0:Hid (Below wr.heap.size wr wr.drew):=CS (Below.refl _ wr).drew;clear dM qc bz aS aI eA oD nM hT2 qR r1 r2 q1 q2 rk a1 a2 a3 a4 HMR HL8;go_wp2_with fail
      go_region_held3 (λW=>W.cell? ⟨g,i*8,none⟩=some (.int .i64 K1)/\W.cell? ⟨g,i*8+1,none⟩=some (.string X1)/\W.cell? ⟨g,i*8+2,none⟩=some (.int .i64 Z1)/\W.cell? ⟨g,i*8+3,none⟩=some (.slice At1 m1 c1')/\W.cell? ⟨g,i*8+4,none⟩=some (.int .i64 K2)/\W.cell? ⟨g,i*8+4+1,none⟩=some (.string X2)/\W.cell? ⟨g,i*8+4+2,none⟩=some (.int .i64 Z2)/\W.cell? ⟨g,i*8+4+3,none⟩=some (.slice vM m2 c2)) (first|(with_reducible exact SO8.out _ B0.out))
       (((with_reducible refine(HSM.out _ B0.out).mono ?_);rintro e w11 ⟨rfl,b11⟩;replace B0:=CS (B0.out.trans (b11.mono B0.out.size));clear b11))
      all_goals
       cases qa <;>(
        go_wp2_with fail
        go_roundg (N-(i+1))
        case measure=>omega
        case rel=>exact⟨i+1,rfl,by go_num,by omega,by rw[z6.out];rfl,CS ⟨mg.out.trans (B0.out.mono mg.out.size),by rw[zgS,HN.out],λ_=>⟨g,rfl,vV,HRK.out.below B0.out⟩⟩⟩)
  ·have hiN:i=N:=by omega
   subst hiN;obtain⟨dM,-,hg⟩:=aI.out;obtain⟨S',jZ,hEq⟩:∃S':Nat->Prop,(∀b,S' b->b<wr.heap.size)/\EqsAt S' wr (ts.map zaV) A:=by
    by_cases h0:0<i
    ·obtain⟨g,rfl,-,hR⟩:=hg h0
     have h:=hR.eqs;have hm:mix i ts=ts.map zaV:=by rw[<-HN.out];exact zpG ts
     rw[hm]at h
     exact⟨_,λb hb=>hb.2,h⟩
    ·refine⟨λ_=>False,λ_ h=>h.elim,λj t u hj=>?_⟩
     have:ts=[]:=AD (by rw[HN.out];omega);rw[this]at hj
     simp at hj
   have wm:=zp6 (c:=c1) hEq jZ HOK.out (by rw[HN.out];exact hN8);rw[HN.out]at wm
   rw[HQA.out]at wm
   have tJ:=CS wm;have mg:=CS dM;clear wm dM hg aI hEq jZ;go_wp2_with fail
   refine tJ.out.mono ?_;rintro e w9 ⟨A9,c9,er,rfl,bM,hq⟩;have B9:=CS (mg.out.trans (bM.mono mg.out.size));clear bM;rcases hq with⟨rfl,rfl⟩|⟨rfl,rfl⟩
   ·go_wp2_with fail
    go_ret
    exact⟨rfl,B9.out⟩
   ·go_wp2_with fail
    go_ret
    exact⟨rfl,B9.out⟩
theorem lifted(os:Os)(started:os.Started)(H:Type)(enc:TypeId × Value->H):ReturnsInHanded {} Tryz.checked os 9 .any (λw args=>(Rows.unifyRigidSpec.pre enc Tryz.prog Tryz.f9 Rows.unifyRigidRow.domain false w args/\laidMetH Tryz.prog theLaid w)/\sizedMet enc Tryz.prog Tryz.f9 (OpenSpec.ofChange Rows.unifyRigidSpec) false w args)
   (Rows.unifyRigidSpec.post enc Tryz.prog Tryz.f9 false true false false):=by
 refine returnsInHanded_of_change_and (C:=Tryz.checked) (X:=λw _=>laidMetH Tryz.prog theLaid w) (λ_ _ _ hh h=>h.of_heap hh) ownK started (by kernel_rfl) Tryz.func9
  (ChangeSpec.witness_shaped (enc:=enc) (C:=Tryz.checked) (os:=os) (X:=λw _=>laidMetH Tryz.prog theLaid w) false (World.laidAll Tryz.prog os theLaid) #[.slice none 0 0] 8 (World.laidAll_os _ _ _)
   (ziV os) (by kernel_rfl) (by kernel_rfl) (by kernel_rfl)
   (zmD os _)) ?_
 intro W base args ds gs before qH hW hc _ hL _;have mw:∀(j:Nat) t v,Tryz.f9.params[j]?=some t->args[j]?=some v->Value.okWide Tryz.prog W .any base t v:=qH;have hW':=hW;obtain⟨p,q,hA0,hV,rfl,_,_⟩:=hW;have hA:DataW.TrodAll enc Tryz.prog W 0 (λ_=>true) true Tryz.f9.params.toList args.toList ds p:=hA0;rw[Tryz.params9]at hA mw
 obtain⟨v0,vs0,d0,ds0,p0,q0,uY,rfl,rfl,h0,r0⟩:=trodAll_cons hA;obtain⟨rfl,rfl,rfl⟩:=trodAll_nil r0;obtain rfl:args=#[v0]:=by cases args;simp_all
 obtain⟨rfl,rfl⟩:=trodVars_none hV;obtain⟨A9,nv,cv,rfl⟩:=okWide_slice zhJ (mw 0 22 v0 rfl rfl);obtain⟨ls,rfl,bC,aD,sG⟩:=zk9 h0;clear hA0 qH;simp only[AU]at hW';have ah:∀x∈p0,x.block<W.heap.size:=λx hx=>by simpa using hW'.lt x (by simpa using hx)
 refine(walk ls A9 cv W (zjE hL) bC aD).mono λe W' ⟨he,hg⟩=>?_;subst he;have ha:=(trodAll_cons_mk (Below.trod zqn (by kernel_rfl) (Cj (by kernel_rfl)) h0 hg ah) trodAll_mk0);simp only[AU]at ha;exact⟨_,rfl,_,_,_,[],p0,[],hW',trodAll_cons_mk (shut_bool Tryz.underlying4 _) trodAll_mk0,ha,rfl,hg.frame _,λh=>by cases h⟩
theorem over:Rows.unifyRigidRow.holds Tryz.pinned (OpenSpec.ofChange Rows.unifyRigidSpec) :=
 OpenClaim.holds_of_wide 9 Tryz.f9 rfl rfl rfl rfl rfl rfl rfl ⟨rfl,rfl,rfl,rfl,rfl⟩ rfl rfl rfl rfl rfl (by kernel_rfl) Tryz.func9 (by kernel_rfl)
  (Cj (by kernel_rfl)) (by unfold Func.isWrapper;first|(rw[Aq (by decide +kernel)];kernel_rfl)|(rw[Am (by decide +kernel)];exact⟨rfl,rfl⟩))
  (λos started H enc _=>lifted os started H enc)
theorem proved:Rows.UnifyRigidCardSaid :=
 Claim7.holds_tied_plain_at .later [] [.data,.data,.data,.sentinel,.sentinel] true _ true
  over (λ_ h=>by cases h) (by kernel_rfl) (λ_ h=>by cases h) unifyRigid_row_tie rfl ⟨rfl,rfl⟩ (by kernel_rfl) rfl
  (λf fn hf nj=>by
   obtain rfl:f=9:=CG ((show Tryz.prog.funcNamed "savant/savantlaw04.UnifyRigid" = some 9 by kernel_rfl).symm.trans hf) |>.symm;obtain rfl:fn=Tryz.f9:=(CG (Tryz.func9.symm.trans nj)).symm;exact⟨by kernel_rfl,λj t ht=>by
    rw[Tryz.params9]at ht
    have hm:t∈[22]:=by
     simpa using Array.mem_of_getElem? ht
    have aL:([22].all λu=>!Tryz.prog.wantsStandIn u)=true:=by kernel_rfl
    exact(show Tryz.prog.wantsStandIn t=false by simpa using CD.1 aL t hm)⟩)
  (by kernel_rfl)
#print axioms proved
end Go.Proofs.YtfafilmklhnngaaGreatDoor.unifyRigid
