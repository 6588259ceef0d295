import Derived.Test.YtfafilmklhnngaaGreatDoorBzB
import Derived.Test.YtfafilmklhnngaaGreatDoorBsAQ
import Derived.Test.YtfafilmklhnngaaGreatDoorBsAI
import Derived.Test.YtfafilmklhnngaaGreatDoorCards
import Derived.Test.YtfafilmklhnngaaGreatDoorTie
import Derived.SevenTiedAt
set_option maxHeartbeats 12800000
set_option maxRecDepth 100000
namespace Go.Proofs.YtfafilmklhnngaaGreatDoor.unifyApart
open Go.Proofs.Tryz
open Go.ChangeShapes Go.WideShapes Go.ChangeAt Go.RowKit Lx Tx Go.Shelf
open Go.ChangeMaps (open_string shut_string)
set_option maxRecDepth 100000
theorem walk(ls:List (ByteArray × ByteArray))(A0:Option Addr)(c0:Nat)(ms:List (ByteArray × ByteArray))(A9:Option Addr)(c9:Nat)(w:World)(ht:FO w)(hl:Gb w ls A0)(hs:∀p∈ls,p.1.size<=maxLen/\p.2.size<=maxLen)(ez:Gb w ms A9)(aZ:∀p∈ms,p.1.size<=maxLen/\p.2.size<=maxLen):Calls prog 11 #[.slice A0 ls.length c0,.slice A9 ms.length c9] w λe w'=>e=.returned (.bool true)/\Below w.heap.size w w':=by
 obtain⟨n0,fy⟩:∃n,ls.length=n:=⟨_,rfl⟩;obtain⟨n9,yN⟩:∃n,ms.length=n:=⟨_,rfl⟩;have tu:=EP (Vf w ht);have cg:=EP (λ(W:World) (hW:Below w.heap.size w W)=>Qo ls A0 c0 W (Wh hl hW) hs);have Bc:=EP (λ(W:World) (hW:Below w.heap.size w W)=>Qo ms A9 c9 W (Wh ez hW) aZ);rw[fy]at cg ⊢;rw[yN]at Bc ⊢;have HT:=EP ht;obtain⟨q4,WV⟩:∃q,decide ((4:Int)<((n0:Nat):Int))=q:=⟨_,rfl⟩;obtain⟨q5,mE⟩:∃q,decide ((4:Int)<((n9:Nat):Int))=q:=⟨_,rfl⟩;clear ht hl hs ez aZ fy yN;go_in;go_wp2_with fail;refine tu.o.mono ?_;rintro e wa ⟨rfl,ba⟩;have BA:=EP ba;clear ba tu;go_wp2_with fail;refine(cg.o _ BA.o).mono ?_;rintro e w1 ⟨b1,tQ⟩;have B1:Hid (Below w.heap.size w w1):=EP (FZ BA.o b1);clear b1 cg BA;rcases tQ with⟨h0,rfl⟩|⟨ts,v1,v2,S,jZ,rfl,hE⟩
 ·go_wp2_with fail;refine(Bc.o _ B1.o).mono ?_;rintro e w2 ⟨b2,iA⟩;have B2:Hid (Below w.heap.size w w2):=EP (FZ B1.o b2);clear b2 Bc;rcases iA with⟨h0,rfl⟩|⟨jX,v3,v4,S2,tH,rfl,Aq⟩;all_goals
   go_wp2_with fail;go_ret
   exact⟨rfl,B2.o⟩
 go_wp2_with fail;refine(Bc.o _ B1.o).mono ?_;rintro e w2 ⟨b2,iA⟩;have B2:Hid (Below w.heap.size w w2):=EP (FZ B1.o b2);have B12:=EP b2;clear b2 Bc;rcases iA with⟨h0,rfl⟩|⟨jX,v3,v4,S2,tH,rfl,Aq⟩
 ·go_wp2_with fail;go_ret
  exact⟨rfl,B2.o⟩
 cases q4 with
 |true =>
  go_wp2_with fail;go_ret
  exact⟨rfl,B2.o⟩
 |false =>
 cases q5 with
 |true =>
  go_wp2_with fail;go_ret
  exact⟨rfl,B2.o⟩
 |false =>
 obtain⟨A,c1,rfl⟩:=hE.shape;obtain⟨Ab,cb,rfl⟩:=Aq.shape;have na:=SJ jZ;have uZ:=SJ tH;obtain⟨N,hN⟩:∃n,ts.length=n:=⟨_,rfl⟩;obtain⟨N2,TX⟩:∃n,jX.length=n:=⟨_,rfl⟩;have nz:Hid (∀g,S g->g<w1.heap.size):=EP (by
  obtain⟨_,_,_,_,_,_,h5⟩:=hE;exact λg hg=>(h5 g hg).2.1)
 have cE:Hid (∀g,S2 g->g<w2.heap.size):=EP (by
  obtain⟨_,_,_,_,_,_,h5⟩:=Aq;exact λg hg=>(h5 g hg).2.1)
 have r8:=EP hE.Jv.1;have BF:=EP Aq.Jv.1;obtain⟨BrQ9,Ul⟩:∃B,Hid (Kb S B w1 ts (.slice A ts.length c1)):=by
  obtain⟨gW,lD,h1,h2,-⟩:=hE;exact⟨_,EP ⟨gW,h1,h2⟩⟩
 have HRB:Hid (N2=0->Ab=none/\cb=0\/∃g,Ab=some ⟨g,0,none⟩):=EP λh0=>by
  obtain⟨gW,lD,h1,h2,-⟩:=Aq;rcases h1.2 with⟨e,_⟩|⟨g,cap,cur,e,_⟩
  ·injection e with e1 e2 e3
   exact .inl ⟨e1,e3⟩
  ·injection e with e1 e2 e3
   exact .inr ⟨g,e1⟩
 have HER:Hid (0<jX.length->∃g,Ab=some ⟨g,0,none⟩/\w1.heap.size<=g/\EqR g w2 jX):=EP λh=>Aq.eqR h;have jV:=EP na;have Uw:=EP uZ;rw[hN]at Ul
 have HN:=EP hN;have rU:=EP TX;have hN8:N<=8:=by rw[<-hN];exact na.len
 have ar6:N2<=8:=by rw[<-TX];exact uZ.len
 have AS:Hid (∀W,Below w1.heap.size w1 W->FO W):=EP λW hW=>HT.o.below (FZ B1.o hW);have fJ:=u4_near S ts A c1 w2 (r8.o.below nz.o B12.o) (λg hg=>Ci (nz.o g hg) B12.o.size) na.ok na.len;have HNB:=EP (λ(W:World) (hW:Below w2.heap.size w2 W)=>u4_near S2 jX Ab cb W (BF.o.below cE.o hW) (λg hg=>Ci (cE.o g hg) hW.size) Uw.o.ok Uw.o.len);rw[hN]at fJ
 rw[TX]at HNB;obtain⟨qaQ9,Tp⟩:∃q,nearQ ts=q:=⟨_,rfl⟩;obtain⟨qb,hqb⟩:∃q,nearQ jX=q:=⟨_,rfl⟩;rw[Tp]at fJ;rw[hqb]at HNB;have HNA:=EP fJ;have HQA:=EP Tp;have HQB:=EP hqb;obtain⟨i0,bK,cj,bS,bC⟩:=Dx znG;obtain⟨j0,kH,wm,lE,mq⟩:=Dx kn1;rw[hN,TX];clear hE Aq jZ tH na uZ hN TX fJ Tp hqb BF;go_wp2_with fail;refine HNA.o.mono ?_;rintro e w3 ⟨rfl,b3⟩;have B23:=EP b3;clear b3 HNA;go_wp2_with fail;refine(HNB.o _ B23.o).mono ?_;rintro e w4 ⟨rfl,b4⟩;have B24:=EP (FZ B23.o b4);have B4:=EP (FZ B2.o B24.o);clear b4 HNB;cases qaQ9 with
 |false =>
  go_wp2_with fail;go_ret
  exact⟨rfl,B4.o⟩
 |true =>
 cases qb with
 |false =>
  go_wp2_with fail;go_ret
  exact⟨rfl,B4.o⟩
 |true =>
 have dv:Hid (RfS N2 Ab w1 (mixF 0 jX) w4):=EP ⟨FZ B12.o B24.o,by rw[mixF_len];exact rU.o,λh0=>by
  obtain⟨g,e,hB,hR⟩:=HER.o (by rw[rU.o];exact h0);exact⟨g,e,hB,by rw[mixF_zero];exact hR.below B24.o⟩⟩
 clear HER;go_wp2_with fail;go_loopg [14] N2 (λgg vi wr=>∃i,gg=N2-i/\vi=.int .i64 (i:Nat)/\i<=N2/\Hid (RfS N2 Ab w1 (mixF i jX) wr))
 case atStart=>exact⟨0,rfl,rfl,Cw _,dv⟩
 case round =>
  obtain⟨i,rfl,rfl,hi,aW⟩:=hrel;by_cases af:i<N2
  ·obtain⟨⟨t,u⟩,hp⟩:∃p,jX[i]?=some p:=⟨_,BY (by rw[rU.o];exact af)⟩;obtain⟨bwQ9,-,hg⟩:=aW.o;obtain⟨g,rfl,hwg,hR⟩:=hg (by omega);have HP:=EP hp;have dH:=CG hp;obtain⟨n1,n2,s1,s2⟩:=Uw.o.ok t u dH;obtain⟨m1,m2⟩:=nearQ_mem HQB.o dH;have bz:=mixF_at hp;obtain⟨K,X,Z,At,m,c,K',X',Z',Au,m',c',r1,r2,q1,q2,q3⟩:=hR.at bz;have kK:=hR.lt;have BW:=EP bwQ9;have HR:=EP hR;have gG:=EP bz;have F1:=EP (far_side r1 kK n1 s1 m1 (AS.o wr bwQ9));have HU:=EP (And.intro n2 (And.intro s2 m2));have HFP:Hid (farP (t,u)=(farT t,farT u)):=EP rfl;obtain⟨T1,gA⟩:∃T,farT t=T:=⟨_,rfl⟩;obtain⟨T2,pB⟩:∃T,farT u=T:=⟨_,rfl⟩;rw[gA]at F1 HFP;rw[pB]at HFP;have nR:=EP pB;obtain⟨z0,z1,z2,z3⟩:=q1 wr rfl;have Q1:=EP q1;have Q3:=EP q3;clear hp dH n1 n2 s1 s2 m1 m2 bwQ9 hg hR bz r1 r2 q1 q2 q3 gA pB aW;go_wp2_with fail;refine F1.o.mono ?_;rintro e w9 ⟨k9,y9Q9,s9Q9,a9,m9,p9Q9,rfl,cV,b9⟩;have HR9:=EP cV;have B9:=EP b9;obtain⟨d0,d1,d2,d3⟩:=Q1.o _ (b9.block g kK);have Xf:=Q3.o _ (b9.block g kK);have d4:g<w9.heap.size:=Ci kK b9.size;have d5:=Xf (i*8);have d6:=Xf (i*8+1);have d7:=Xf (i*8+2);have d8:=Xf (i*8+3);clear cV b9 Xf F1 z0 z1 z2 z3;go_upto_region 14 with fail
   obtain⟨V,hV⟩:∃V,FT w9 g (i*8) (.int .i64 k9) (.string y9Q9) (.int .i64 s9Q9) (.slice a9 m9 p9Q9)=V:=⟨_,rfl⟩;have hRV:EqR g V ((mixF i jX).set i (T1,u)):=by
    rw[<-hV];exact(HR.o.below B9.o).setL gG.o HR9.o
   have hBV:Below w1.heap.size w1 V:=by
    rw[<-hV];exact below_setO (FZ BW.o B9.o) hwg _ _ _ _
   unfold FT at hV;rw[hV];have uQ:=mixF_sat (T1,u) HP.o;obtain⟨K1,X1,Z1,At1,m1,Uc,K2,X2,Z2,Au2,m2,c2,r1,r2,q1,q2,q3⟩:=hRV.at uQ;have hgV:=hRV.lt;have F2Q9:=EP (far_side r2 hgV HU.o.1 HU.o.2.1 HU.o.2.2 (AS.o V hBV));rw[nR.o]at F2Q9;have HRV:=EP hRV;have HBV:=EP hBV;have HAT2:=EP uQ;obtain⟨z0,z1,z2,z3⟩:=q2 V rfl;have Q2:=EP q2;have Q4:=EP q3;clear hV hRV hBV uQ r1 r2 q1 q2 q3 d0 d1 d2 d3 d4 d5 d6 d7 d8 HR9 HR gG Q1 Q3;go_wp2_with fail;refine F2Q9.o.mono ?_;rintro e w8 ⟨k8,y8,s8,a8Q9,m8,p8Q9,rfl,hr8,b8⟩;have HR8:=EP hr8;have B8Q9:=EP b8;obtain⟨d0,d1,d2,d3⟩:=Q2.o _ (b8.block g hgV);have Xf:=Q4.o _ (b8.block g hgV);have d4:g<w8.heap.size:=Ci hgV b8.size;have d5:=Xf (i*8+4);have d6:=Xf (i*8+4+1);have d7:=Xf (i*8+4+2);have d8:=Xf (i*8+4+3);clear hr8 b8 Xf F2Q9 z0 z1 z2 z3;go_wp2_with fail;go_roundg (N2-(i+1))
   case measure=>omega
   case rel =>
    refine⟨i+1,rfl,by go_num,by omega,EP ⟨below_setO (o:=i*8+4) (FZ HBV.o B8Q9.o) hwg (.int .i64 k8) (.string y8) (.int .i64 s8) (.slice a8Q9 m8 p8Q9),by rw[mixF_len];exact rU.o,λ_=>⟨g,rfl,hwg,?_⟩⟩⟩;have h:=(HRV.o.below B8Q9.o).setR HAT2.o HR8.o;rw[List.set_set,<-HFP.o,mixF_set HP.o]at h;exact h
  ·have wI:i=N2:=by omega
   subst wI;obtain⟨bG,-,hg⟩:=aW.o;have sB:mixF i jX=jX.map farP:=by rw[<-rU.o];exact mixF_all jX
   rw[sB]at hg;obtain⟨hFB,hFK⟩:=far_big Uw.o HQB.o;obtain⟨tfQ9,htf⟩:∃l,jX.map farP=l:=⟨_,rfl⟩;rw[htf]at hg hFB hFK;have tI:tfQ9.length=i:=by rw[<-htf,CE];exact rU.o
   have HF2:=EP hFB;have HFK:=EP hFK;have xj:=EP tI;have gV:=EP bG;obtain⟨S',rL,HEF,vsB,HKB,Ur,jT⟩:∃S':Nat->Prop,Hid (∀b,S' b->b<wr.heap.size)/\Hid (Hg S' wr tfQ9 Ab)/\∃vs,Hid (fs S' wr (LD tfQ9) vs)/\Hid (vs.length=i*8)/\Hid ((Ab=none/\cb=0/\i=0)\/∃g,Ab=some ⟨g,0,none⟩/\(0<i->g<wr.heap.size)/\∀j y,vs[j]?=some y->wr.cell? ⟨g,j,none⟩=some y):=by
    by_cases h0:0<i
    ·obtain⟨g,rfl,-,hR⟩:=hg h0;obtain⟨vs,h1,h2,h3⟩:=hR.eqs.cells;exact⟨_,EP λb hb=>hb.2,EP hR.eqs,vs,EP h1,EP (by rw[h2,tI]),EP (.inr ⟨g,rfl,λ_=>hR.lt,h3⟩)⟩
    ·have bK:i=0:=by omega
     have htn:tfQ9=[]:=Cn (by omega);refine⟨λ_=>False,EP λ_ h=>h.elim,EP λj t u hj=>?_,[],EP ?_,EP (by simp;omega),EP ?_⟩
     ·rw[htn]at hj;simp at hj
     ·rw[htn];show fs _ _ [] [];rw[fs]
     ·rcases HRB.o bK with⟨h1,h2⟩|⟨g,h1⟩
      ·exact .inl ⟨h1,h2,bK⟩
      ·exact .inr ⟨g,h1,λh=>absurd h h0,λj y hy=>by simp at hy⟩
   have fR:=uc_few (m:=N) (c:=c1) jV.o.ok (by rw[HN.o];omega) (r8.o.below nz.o bG) (λg hg=>Ci (nz.o g hg) bG.size) HN.o;have kZ:=EP fR;have AQ:=EP (λ(W:World) (hW:Below wr.heap.size wr W)=>uc_few (m:=i) (c:=cb) HF2.o.ok (by rw[xj.o];omega) (HEF.o.below rL.o hW) (λg hg=>Ci (rL.o g hg) hW.size) xj.o);clear aW bG hg sB htf hFB hFK tI fR af hi HRB;go_wp2_with fail;refine kZ.o.mono ?_;intro e w5 fR;obtain⟨V1,z1,o1,rfl,bm,b5⟩:=fR.res;have B5:=EP b5;have bW:=EP bm;clear b5 kZ fR bm;go_wp2_with fail;refine(AQ.o _ B5.o).mono ?_;intro e w6 xU;obtain⟨V2,z2,o2,rfl,cD,b6⟩:=xU.res;have B56:=EP b6;have B6:=EP (FZ B5.o b6);have dY:=EP cD;have BW6:Hid (Below w1.heap.size w1 w6):=EP (FZ gV.o B6.o);obtain⟨vsA,oAQ9,kAQ9⟩:=Ul.o.below nz.o BW6.o;rw[HN.o]at oAQ9;have HEMP:=EP (owns_empty8 (base:=w6.heap.size) (BZ w6 (.cells #[] 52)) (BU _));have HA0:=EP (SrcR.Jy (World.ownsRow.alloc oAQ9 (.cells #[] 52)));have HKA:=EP kAQ9;have HOA:=EP (one_tyRow _ _ kAQ9);have HOB:=EP (one_tyRow _ _ HKB.o);have xn:Hid (w6.heap.size<=(w6.alloc (.cells #[] 52)).heap.size):=EP (by simp);have qB:Hid (Below w6.heap.size w6 (w6.alloc (.cells #[] 52))):=EP ((Cc _ w6).alloc (BU _) _);have HSB7:Hid (∀W,Below w6.heap.size w6 W->SrcR W (.slice Ab i cb) i 8 vsB):=EP λW hW=>by
    refine⟨Ur.o,?_⟩;rcases jT.o with⟨h1,h2,h3⟩|⟨g,h1,h2,h3⟩
    ·exact .inl ⟨by rw[h1,h2,h3],h3⟩
    ·refine .inr ⟨g,cb,by rw[h1],λj y hy=>?_⟩;have bK:0<i:=by
      have h4:=(Cj.1 hy).1;rw[Ur.o]at h4;omega
     exact((FZ B6.o hW).cell (p:=⟨g,j,none⟩) (h2 bK)).trans (h3 j y hy)
   clear b6 xU cD oAQ9 kAQ9 Ul AQ;go_wp2_with (at_builtin;first|(refine wpList_append_any rfl (.tmp 101) (.tmp 102) 24 rfl w6.heap.size 52 i0 _ 8 112 underlying24 bK cj bS bC rfl (by decide) _ _ 0 N [] vsA rfl rfl HEMP.o HA0.o HOA.o (by unfold maxLen;omega) (by omega) xn.o ?_;intro A6Q9 c6 w7 dF jz;simp only[Dm,Cu]at dF ⊢;have YN:Hid (Below w6.heap.size w6 w7):=EP (qB.o.trans jz);have pQ:=EP dF;have bc:=EP (HSB7.o _ YN.o);have dO:Hid (w6.heap.size<=w7.heap.size):=EP YN.o.size;clear dF jz)|(refine wpList_append_any rfl (.tmp 103) (.tmp 104) 24 rfl w6.heap.size 52 i0 _ 8 112 underlying24 bK cj bS bC rfl (by decide) _ _ N i vsA vsB rfl rfl pQ.o bc.o HOB.o (by unfold maxLen;omega) (by omega) dO.o ?_;intro A7 c7 w8 oC fk;have HB7:Hid (Below w6.heap.size w6 w8):=EP (YN.o.trans fk);have HO7:=EP oC;clear oC fk));have hlen:(ts++tfQ9).length=N+i:=by rw[Cb,HN.o,xj.o]
   have aE:=rowE_app (fs.al (λ_ h=>h) (λg hg=>HB7.o.block g (Ci (nz.o g hg) BW6.o.size)) _ _ HKA.o) (fs.al (λ_ h=>h) (λg hg=>(FZ B6.o HB7.o).block g (rL.o g hg)) _ _ HKB.o) hlen HO7.o;have wv:=uc_few (c:=c7) (eqOK_app jV.o.ok HF2.o.ok) (by rw[hlen];omega) aE.Jv (λg hg=>hg.elim (λh=>Ci (nz.o g h) (FZ BW6.o HB7.o).size) (λh=>Ci (rL.o g h) (FZ B6.o HB7.o).size)) hlen;have HUB:=EP wv;clear hlen aE wv HO7 pQ bc HA0 HEMP HSB7 jT Ur HOA HOB;refine HUB.o.mono ?_;intro e w9 wv;obtain⟨V3,z3,o3,rfl,gZ,b9⟩:=wv.res;have B69:=EP (FZ HB7.o b9);have B9:=EP (FZ B1.o (FZ BW6.o B69.o));have nA:=EP gZ;obtain⟨⟨f1,zG⟩,bj⟩:=bW.o;obtain⟨⟨f2,TC⟩,cH⟩:=dY.o;obtain⟨⟨f3,zF⟩,kQ⟩:=nA.o;have hboth:=unF_both (λn=>n<400000) (λn=>500000<=n) (λn m h1 h2=>Ci h1 (Cm (by omega) h2)) zG TC zF (near_kn HQA.o) HFK.o;clear b9 wv gZ HUB nA;rcases hboth with⟨m,rfl,rfl⟩|⟨k1,rfl,⟨m,rfl,rfl⟩|⟨k2,k,rfl,rfl,htold⟩⟩
   ·rcases bj with⟨m1,e1,h4,rfl,rfl⟩|⟨_,_,_,_,_,_,e1,_⟩
    ·injection e1 with e1
     subst e1;rcases kQ with⟨m3,e3,h43,rfl,rfl⟩|⟨_,_,_,_,_,_,e3,_⟩
     ·injection e3 with e3
      subst e3;have ai:=err_ne h4;clear cH zG TC zF h4 h43;go_wp2_with fail;go_ret
      exact⟨rfl,B9.o⟩
     ·cases e3
    ·cases e1
   ·rcases bj with⟨m1,e1,_⟩|⟨k1',l1,T1,Ba1,Ak,ck,e1,rfl,rfl,fM,gA,av⟩
    ·cases e1
    rcases cH with⟨m2,e2,h4,rfl,rfl⟩|⟨_,_,_,_,_,_,e2,_⟩
    ·injection e2 with e2
     subst e2;rcases kQ with⟨m3,e3,h43,rfl,rfl⟩|⟨_,_,_,_,_,_,e3,_⟩
     ·injection e3 with e3
      subst e3;have ai:=err_ne h4;clear fM gA av zG TC zF h4 h43 e1;go_wp2_with fail;go_ret
      exact⟨rfl,B9.o⟩
     ·cases e3
    ·cases e2
   ·rcases bj with⟨m1,e1,_⟩|⟨k1',l1,T1,Ba1,Ak,ck,e1,rfl,rfl,fM,gA,av⟩
    ·cases e1
    rcases cH with⟨m2,e2,_⟩|⟨k2',l2,T2,Ba2,Al,cl,e2,rfl,rfl,hK2,pB,aV⟩
    ·cases e2
    rcases kQ with⟨m3,e3,_⟩|⟨k3',l3,T3,Ba3,AmQ9,cm,e3,rfl,rfl,hK3,mX,jA⟩
    ·cases e3
    injection e1 with e1;injection e2 with e2;injection e3 with e3;subst e1 e2 e3;have hT1B:=zp9 jV.o zG gA;have hT2B:=zp9 HF2.o TC pB;have iH:=mX.uniq (htold l1 l2 gA pB);subst iH;obtain⟨NK,mY⟩:∃n,l1.length=n:=⟨_,rfl⟩;obtain⟨NL,TW⟩:∃n,l2.length=n:=⟨_,rfl⟩;have hK24:NK<=24:=by rw[<-mY];exact hT1B.len
    have hL24:NL<=24:=by rw[<-TW];exact hT2B.len
    have hl12:(l1++l2).length=NK+NL:=by rw[Cb,mY,TW]
    have B59:=EP (FZ B56.o B69.o);obtain⟨va,ova,kva⟩:=fM.below av B59.o;obtain⟨vbQ9,ovb,kvb⟩:=hK2.below aV B69.o;rw[mY]at ova ⊢;rw[TW]at ovb ⊢;rw[hl12]at hK3 ⊢;have HTL2:=EP (tell_two hT1B hT2B);have HL12:=EP hl12;have HEMP:=EP (owns_emptyK (base:=w9.heap.size) (BZ w9 (.cells #[] 39)) (BU _));have HA0:=EP (SrcR.Jy (World.ownsRow.alloc ova (.cells #[] 39)));have sd:=EP ovb;have HKA2:=EP kva;have HKB2:=EP kvb;have HOA:=EP (one_knRow _ _ kva);have HOB:=EP (one_knRow _ _ kvb);have HSZ2:Hid (w9.heap.size<=(w9.alloc (.cells #[] 39)).heap.size):=EP (by simp);have HBA2:Hid (Below w9.heap.size w9 (w9.alloc (.cells #[] 39))):=EP ((Cc _ w9).alloc (BU _) _);have HT1S:Hid (∀g,T1 g->g<w9.heap.size):=EP λg hg=>Ci (av g hg) B59.o.size;have HT2S:Hid (∀g,T2 g->g<w9.heap.size):=EP λg hg=>Ci (aV g hg) B69.o.size;have r6:=EP hK3;have HT3S:=EP jA;have HT9:Hid (∀W,Below w9.heap.size w9 W->FO W):=EP λW hW=>AS.o W (FZ (FZ BW6.o B69.o) hW);obtain⟨TXQ9,hTX⟩:∃X:ByteArray,(⟨(dec 0++JE (l1++l2)).toArray⟩:ByteArray)=X:=⟨_,rfl⟩;have HTX:=EP hTX;have HTELL:Hid (∀W,Below w9.heap.size w9 W->Calls prog 24 #[.slice AmQ9 (NK+NL) cm,.int .i64 0] W λe w'=>e=.returned (.string TXQ9)/\Below W.heap.size W w'):=EP λW hW=>by
     have h:=zpJ 0 (l1++l2) T3 _ _ W (HT9.o W hW) (r6.o.below HT3S.o hW) (λg hg=>Ci (HT3S.o g hg) hW.size) HTL2.o (by omega);rw[HTX.o]at h;exact h
    clear zG TC zF fM hK2 hK3 gA pB mX av aV jA hT1B hT2B htold ova ovb kva kvb hTX hl12 mY TW bW dY;go_wp2_with (at_builtin;first|(refine wpList_append_any rfl (.tmp 125) (.tmp 126) 28 rfl w9.heap.size 39 j0 _ 5 64 underlying28 kH wm lE mq rfl (by decide) _ _ 0 NK [] va rfl rfl HEMP.o HA0.o HOA.o (by unfold maxLen;omega) (by omega) HSZ2.o ?_;intro A6Q9 c6 w10 dF jz;simp only[Dm,Cu]at dF ⊢;have YN:Hid (Below w9.heap.size w9 w10):=EP (HBA2.o.trans jz);have pQ:=EP dF;have bc:=EP (SrcR.Jy (FN sd.o YN.o));have dO:Hid (w9.heap.size<=w10.heap.size):=EP YN.o.size;clear dF jz)|(refine wpList_append_any rfl (.tmp 127) (.tmp 128) 28 rfl w9.heap.size 39 j0 _ 5 64 underlying28 kH wm lE mq rfl (by decide) _ _ NK NL va vbQ9 rfl rfl pQ.o bc.o HOB.o (by unfold maxLen;omega) (by omega) dO.o ?_;intro A7 c7 Td oC fk;have HB8:Hid (Below w9.heap.size w9 Td):=EP (YN.o.trans fk);have HO7:=EP oC;clear oC fk));have cA:=knsV_app (m_.al (λ_ h=>h) (λg hg=>HB8.o.block g (HT1S.o g hg)) _ _ HKA2.o) (m_.al (λ_ h=>h) (λg hg=>HB8.o.block g (HT2S.o g hg)) _ _ HKB2.o) HL12.o HO7.o;have tI:=zpJ 0 (l1++l2) _ _ _ Td (HT9.o Td HB8.o) cA (λg hg=>hg.elim (λh=>Ci (HT1S.o g h) HB8.o.size) (λh=>Ci (HT2S.o g h) HB8.o.size)) HTL2.o (by omega);rw[HTX.o]at tI;have HTA:=EP tI;clear cA tI HO7 pQ bc HA0 HEMP sd HKA2 HKB2 HOA HOB;refine HTA.o.mono ?_;rintro e w12 ⟨rfl,b12⟩;have B12':=EP (FZ HB8.o b12);clear b12 HTA;go_wp2_with fail;refine(HTELL.o _ B12'.o).mono ?_;rintro e w13 ⟨rfl,b13⟩;have B13:=EP (FZ B9.o (FZ B12'.o b13));clear b13;go_wp2_with fail;go_ret
    exact⟨rfl,B13.o⟩
theorem lifted(os:Os)(started:os.Started)(H:Type)(enc:TypeId × Value->H):ReturnsInHanded {} Tryz.checked os 11 .any (λw args=>(Rows.unifyApartSpec.pre enc prog Tryz.f11 Rows.unifyApartRow.domain false w args/\laidMetH prog E6 w)/\sizedMet enc prog Tryz.f11 (OpenSpec.ofChange Rows.unifyApartSpec) false w args)
   (Rows.unifyApartSpec.post enc prog Tryz.f11 false true false false):=by
 refine returnsInHanded_of_change_and (C:=Tryz.checked) (X:=λw _=>laidMetH prog E6 w) (λ_ _ _ hh h=>h.of_heap hh) OQ started (by kernel_rfl) func11
  (ChangeSpec.witness_shaped (enc:=enc) (C:=Tryz.checked) (os:=os) (X:=λw _=>laidMetH prog E6 w) false (World.laidAll prog os E6) #[.slice none 0 0,.slice none 0 0] 8 (World.laidAll_os _ _ _)
   (Wg os) (by kernel_rfl) (by kernel_rfl) (by kernel_rfl)
   (VQ os _)) ?_
 intro W base args ds gs before ff hW hc _ hL _;have fq:∀(j:Nat) t v,Tryz.f11.params[j]?=some t->args[j]?=some v->Value.okWide prog W .any base t v:=ff;have nL:=hW;obtain⟨p,q,s4,hV,rfl,_,_⟩:=hW;have hA:DataW.TrodAll enc prog W 0 (λ_=>true) true Tryz.f11.params.toList args.toList ds p:=s4;rw[params11]at hA fq;obtain⟨v0,vs0,d0,ds0,p0,q0,oW,rfl,rfl,h0,r0⟩:=trodAll_cons hA;obtain⟨v1,gW,d1,ds1,p1,q1,aS,rfl,rfl,h1,r1⟩:=trodAll_cons r0;obtain⟨rfl,rfl,rfl⟩:=trodAll_nil r1;subst aS;obtain rfl:args=#[v0,v1]:=by cases args;simp_all
 obtain⟨rfl,rfl⟩:=trodVars_none hV;obtain⟨A0,n0,c0,rfl⟩:=okWide_slice QZ (fq 0 22 v0 rfl rfl);obtain⟨ls0,rfl,la0,sz0,mx0⟩:=SD h0;obtain⟨A1,n1,c1,rfl⟩:=okWide_slice QZ (fq 1 22 v1 rfl rfl);obtain⟨ls1,rfl,la1,sz1,mx1⟩:=SD h1;clear s4 ff;simp only[CJ]at nL;have lt0:∀x∈p0,x.block<W.heap.size:=λx hx=>by simpa using nL.lt x (by simp[hx])
 have lt1:∀x∈p1,x.block<W.heap.size:=λx hx=>by simpa using nL.lt x (by simp[hx])
 refine(walk ls0 A0 c0 ls1 A1 c1 W (Wk hL) la0 sz0 la1 sz1).mono λe W' ⟨he,hg⟩=>?_;subst he;have ha:=(trodAll_cons_mk (Below.trod RL (by kernel_rfl) (DB (by kernel_rfl)) h0 hg lt0) (trodAll_cons_mk (Below.trod RL (by kernel_rfl) (DB (by kernel_rfl)) h1 hg lt1) trodAll_mk0));simp only[CJ]at ha;exact⟨_,rfl,_,_,_,[],p0++p1,[],nL,trodAll_cons_mk (shut_bool underlying4 _) trodAll_mk0,ha,rfl,hg.frame _,λh=>by cases h⟩
theorem over:Rows.unifyApartRow.holds Tryz.pinned (OpenSpec.ofChange Rows.unifyApartSpec) :=
 OpenClaim.holds_of_wide 11 Tryz.f11 rfl rfl rfl rfl rfl rfl rfl ⟨rfl,rfl,rfl,rfl,rfl⟩ rfl rfl rfl rfl rfl (by kernel_rfl) func11 (by kernel_rfl)
  (DB (by kernel_rfl)) (by unfold Func.isWrapper;first|(rw[Ch (by decide +kernel)];kernel_rfl)|(rw[Cg (by decide +kernel)];exact⟨rfl,rfl⟩))
  (λos started H enc _=>lifted os started H enc)
theorem proved:Rows.UnifyApartCardSaid :=
 Claim7.holds_tied_plain_at .later [] [.data,.data,.data,.sentinel,.sentinel] true _ true
  over (λ_ h=>by cases h) (by kernel_rfl) (λ_ h=>by cases h) unifyApart_row_tie rfl ⟨rfl,rfl⟩ (by kernel_rfl) rfl
  (λf fn hf fC=>by
   obtain rfl:f=11:=Dz ((show prog.funcNamed "savant/savantlaw04.UnifyApart" = some 11 by kernel_rfl).symm.trans hf) |>.symm;obtain rfl:fn=Tryz.f11:=(Dz (func11.symm.trans fC)).symm;exact⟨by kernel_rfl,λj t ht=>by
    rw[params11]at ht;have hm:t∈[22,22]:=by
     simpa using Array.mem_of_getElem? ht
    have aK:([22,22].all λu=>!prog.wantsStandIn u)=true:=by kernel_rfl
    exact(show prog.wantsStandIn t=false by simpa using Eo.1 aK t hm)⟩)
  (by kernel_rfl)
#print axioms proved
end Go.Proofs.YtfafilmklhnngaaGreatDoor.unifyApart
