import Derived.Test.YtfafilmklhnngaaGreatDoorByA
import Derived.Test.YtfafilmklhnngaaGreatDoorBsAQ
import Derived.Test.YtfafilmklhnngaaGreatDoorBsAI
import Derived.Test.YtfafilmklhnngaaGreatDoorCards
import Derived.Test.YtfafilmklhnngaaGreatDoorTie
import Derived.SevenTiedAt
import Derived.Deep.Cut
import Derived.Deep.CutRange
set_option maxHeartbeats 12800000
set_option maxRecDepth 100000
namespace Go.Proofs.YtfafilmklhnngaaGreatDoor.Ky
open Go.Proofs.Tryz
open Go.ChangeShapes Go.WideShapes Go.ChangeAt Go.RowKit Lx Tx Go.Shelf
open Go.ChangeMaps (open_string shut_string)
def zrY(S:Nat->Prop)(B:Nat)(ts:List (Ty × Ty))(w1:World)(N gg:Nat)(v7 v8:Value)(wr:World):Prop :=
 ∃k z,gg=N-k/\v8=.int .i64 z/\z=((N-k:Nat):Int)-1/\k<=N/\Kb S B wr ((IT ts).take k) v7/\Below B w1 wr
structure Two (l:List (Nat × Ty)) (A:Option Addr) (n c:Nat) (w5:World) (v1 v2:Value) (T1 T2:Ty):Prop where
 one:∀W,Below w5.heap.size w5 W->Calls prog 20 #[.slice A n c,v1] W (L_ T1 W)
 two:∀W,Below w5.heap.size w5 W->Calls prog 20 #[.slice A n c,v2] W (L_ T2 W)
 same:∀W p p',I9 W T1 p->I9 W T2 p'->Calls prog 22 #[p,p'] W λe w'=>e=.returned (.bool true)/\Below W.heap.size W w'
theorem znM {S:Nat->Prop} {l:List (Nat × Ty)} {A:Option Addr} {n c:Nat} {w5:World} {v1 v2:Value} {t u:Ty}(h:Hr l)(hn:l.length=n)(hk:Hz S w5 l A)(hS:∀g,S g->g<w5.heap.size)(ht:FO w5)(n1:Nm t)(n2:Nm u)(s1:t.size<=120)(s2:u.size<=120)(r1:I9 w5 t v1)(r2:I9 w5 u v2)(he:db [] (FM l t)=db [] (FM l u)):Two l A n c w5 v1 v2 (FM l t) (FM l u):=by
 have st:Fj t:=⟨n1,.inl s1⟩;have su:Fj u:=⟨n2,.inl s2⟩;subst hn;exact⟨λW hW=>Hz.apply h st hk hS r1 ht hW,λW hW=>Hz.apply h su hk hS r2 ht hW,λW p p' hp bY=>R6 hp bY (MV h st) (MV h su) (by have:=Sw h s1;omega) he⟩
theorem walk(ls:List (ByteArray × ByteArray))(A0:Option Addr)(c0:Nat)(w:World)(ht:FO w)(hl:Gb w ls A0)(hs:∀p∈ls,p.1.size<=maxLen/\p.2.size<=maxLen):Calls prog 7 #[.slice A0 ls.length c0] w λe w'=>e=.returned (.bool true)/\Below w.heap.size w w':=by
 obtain⟨n0,fy⟩:∃n,ls.length=n:=⟨_,rfl⟩;have tu:=EP (Vf w ht);have cg:=EP (λ(W:World) (hW:Below w.heap.size w W)=>Qo ls A0 c0 W (Wh hl hW) hs);rw[fy]at cg ⊢;have HT:=EP ht;clear ht hl hs fy;go_in;go_wp2_with fail;refine tu.o.mono ?_;rintro e wa ⟨rfl,ba⟩;have BA:=EP ba;clear ba tu;go_wp2_with fail;refine(cg.o _ BA.o).mono ?_;rintro e w1 ⟨b1,⟨h0,rfl⟩|⟨ts,v1,v2,S,jZ,rfl,hE⟩⟩
 ·go_wp2_with fail;go_ret
  exact⟨rfl,BA.o.trans (b1.mono BA.o.size)⟩
 obtain⟨A,c1,rfl⟩:=hE.shape;have na:=SJ jZ;obtain⟨N,hN⟩:∃n,ts.length=n:=⟨_,rfl⟩;have B1:Hid (Below w.heap.size w w1):=EP (BA.o.trans (b1.mono BA.o.size));have r8:=EP hE.Jv.1;have nz:Hid (∀g,S g->g<w1.heap.size):=EP (by
  obtain⟨_,_,_,_,_,_,h5⟩:=hE;exact λg hg=>(h5 g hg).2.1)
 have jV:=EP na;have HN:=EP hN;have hN8:N<=8:=by rw[<-hN];exact na.len
 have AS:Hid (∀W,Below w1.heap.size w1 W->FO W):=EP λW hW=>HT.o.below (FZ B1.o hW);obtain⟨i0,bK,cj,bS,bC⟩:=Dx znG;rw[hN]
 clear hE jZ na b1 BA cg hN;go_wp2_with fail;go_loopg [7,8] N (λgg v7 v8 wr=>zrY S w1.heap.size ts w1 N gg v7 v8 wr)
 case atStart=>exact⟨0,_,rfl,rfl,by omega,Cw _,Kb.nil _ _ _,Cc _ _⟩
 case round =>
  obtain⟨k,z,rfl,rfl,hz,hk,aE,bG⟩:=hrel;by_cases af:k<N
  ·obtain⟨i,hi⟩:∃i,i+k+1=N:=⟨N-k-1,by omega⟩;obtain rfl:z=((i:Nat):Int):=by omega
   obtain⟨⟨t,u⟩,hp⟩:∃p,ts[i]?=some p:=⟨_,BY (by rw[HN.o];omega)⟩;obtain⟨g,At,ct,Au,cu,rfl,hg,⟨x0,x1,x2,x3⟩,bz,⟨y0,y1,y2,y3⟩,Ri⟩:=r8.o i t u hp;have hc:∀j v,w1.cell? ⟨g,j,none⟩=some v->wr.cell? ⟨g,j,none⟩=some v:=λj v h=>(bG.cell (p:=⟨g,j,none⟩) hg).trans h;have d0:=hc _ _ x0;have d1:=hc _ _ x1;have d2:=hc _ _ x2;have d3:=hc _ _ x3;have e0:=hc _ _ y0;have e1:=hc _ _ y1;have e2:=hc _ _ y2;have e3:=hc _ _ y3;have gG:Hid (j_ S wr t At):=EP (bz.al (λ_ h=>h) (λk hk=>bG.block k (nz.o k hk)));have HAU:Hid (j_ S wr u Au):=EP (Ri.al (λ_ h=>h) (λk hk=>bG.block k (nz.o k hk)));have HTQ:Hid ((IT ts).take (k+1)=(IT ts).take k++[(u,t)]):=EP (zqd hp HN.o hi);have bw:((IT ts).take k).length=k:=by rw[DH,S8,HN.o];omega
   obtain⟨gW,o1,k1⟩:=aE;obtain⟨A3,c3,rfl⟩:=GS o1;rw[bw]at o1 ⊢;have HLK:=EP bw;have O1:=EP o1;have YB:=EP k1;have az:=EP (World.ownsRow.alloc (w:=wr.drew) o1 (.cells #[.int .i64 (kd u:Nat),.string (ER u),.int .i64 (nn u:Nat),.slice Au (kids u).length cu,.int .i64 (kd t:Nat),.string (ER t),.int .i64 (nn t:Nat),.slice At (kids t).length ct] 52));have dJ:Hid (∀j v,[Value.int .i64 (kd u:Nat),.string (ER u),.int .i64 (nn u:Nat),.slice Au (kids u).length cu,.int .i64 (kd t:Nat),.string (ER t),.int .i64 (nn t:Nat),.slice At (kids t).length ct][j]?=some v->(wr.drew.alloc (.cells #[.int .i64 (kd u:Nat),.string (ER u),.int .i64 (nn u:Nat),.slice Au (kids u).length cu,.int .i64 (kd t:Nat),.string (ER t),.int .i64 (nn t:Nat),.slice At (kids t).length ct] 52)).cell? ((⟨wr.heap.size,0,none⟩:Addr).add j)=some v):=EP (World.news_of_block (BZ wr.drew _));have iN:Hid (w1.heap.size<=wr.heap.size):=EP bG.size;have gV:=EP bG;have hge:¬((i:Nat):Int)<0:=by omega
   have wI:i<N:=by omega
   clear hp hg x0 x1 x2 x3 y0 y1 y2 y3 bz Ri hc bw o1 k1 bG hz;go_upto_region 9 with fail
   go_region_law (refine step_append_lies _ (by rfl) _ _ _ (by rfl) w1.heap.size 52 i0 _ 8 112 underlying24 bK cj bS bC rfl (by decide) _ k gW (by rfl) az.o ⟨wr.heap.size,0,none⟩ 1 1 [.int .i64 (kd u:Nat),.string (ER u),.int .i64 (nn u:Nat),.slice Au (kids u).length cu,.int .i64 (kd t:Nat),.string (ER t),.int .i64 (nn t:Nat),.slice At (kids t).length ct] rfl rfl dJ.o (by intro v hv;simp at hv;rcases hv with rfl|rfl|rfl|rfl|rfl|rfl|rfl|rfl <;> rfl) (by omega) (by unfold maxLen;omega) (by omega) (by have:=iN.o;simp;omega) _ rfl ?_;intro g9 c9 w9 dm ae bz uq;have rR:=EP dm;have nD:=EP ae;clear dm ae bz)
   all_goals
    go_wp2_with fail;go_roundg (N-(k+1))
    case measure=>omega
    case rel =>
     obtain⟨h1,h2⟩:=zn8 nz.o iN.o (by rw[HLK.o];exact O1.o) YB.o HAU.o gG.o nD.o (by rw[HLK.o];exact rR.o);exact⟨k+1,_,rfl,rfl,by omega,by omega,by rw[HTQ.o];exact h1,gV.o.trans h2⟩
  ·have W_:k=N:=by omega
   subst W_;obtain rfl:z = -1:=by omega
   have ft:(IT ts).take k=IT ts:=Cq (by rw[S8,HN.o];exact BU _);rw[ft]at aE;obtain⟨Ab,cb,rfl⟩:=aE.shape;have BF:=EP aE.Jv;have rJ:Hid (∀g,S g->g<wr.heap.size):=EP λg hg=>Ci (nz.o g hg) bG.size;have fR:=Wa (c:=c1) (r8.o.below nz.o bG) rJ.o jV.o;have AQ:=EP (λ(W:World) (hW:Below wr.heap.size wr W)=>Wa (c:=cb) (BF.o.below rJ.o hW) (λg hg=>Ci (rJ.o g hg) hW.size) jV.o.Nc);rw[HN.o]at fR
   have cO:(IT ts).length=k:=by rw[S8];exact HN.o
   rw[cO]at AQ ⊢;have kZ:=EP fR;have gV:=EP bG;have vL:=EP cO;clear ft aE bG fR cO af hz;go_wp2_with fail;refine kZ.o.mono ?_;intro e w5 fR;obtain⟨b5,fR⟩:=fR.cases jV.o;have B5:=EP b5;clear b5 kZ;rcases fR with⟨m,hm,⟨f,hf⟩,rfl⟩|⟨f,κ,l,T,Ak,ck,hf,hT,qu,rfl,hK,sX⟩
   ·go_wp2_with fail;refine(AQ.o _ B5.o).mono ?_;intro e w6 xU;obtain⟨b6,⟨m',cQ,⟨f',nI⟩,rfl⟩|⟨f',κ',l',T',Ak',ck',nI,nM,uV,rfl,gB,uX⟩⟩:=xU.cases jV.o.Nc
    ·have B6:=EP (FZ B1.o (FZ gV.o (FZ B5.o b6)));have q1:(((m:Nat):Int)==0)=false:=by rcases hm with rfl|rfl|rfl|rfl <;> rfl
     have q2:(((m':Nat):Int)==0)=false:=by rcases cQ with rfl|rfl|rfl|rfl <;> rfl
     clear b6 hm cQ hf nI xU AQ;go_wp2_with fail;go_loopg [13] k (λgg vi wx=>∃r:Nat,gg=k-r/\vi=.int .i64 (r:Nat)/\r<=k/\Hid (Below w.heap.size w wx))
     case atStart=>exact⟨0,rfl,rfl,Cw _,B6⟩
     case round =>
      obtain⟨r,rfl,rfl,hr,dA⟩:=hrel;by_cases gz:r<k
      ·go_wp2_with fail;go_ret
       exact⟨rfl,dA.o⟩
      ·have WN:r=k:=by omega
       subst WN;go_wp2_with fail;go_ret
       exact⟨rfl,dA.o⟩
    ·exfalso
     rcases VV hf nI VK with⟨k1,k2,e1,e2,-⟩|⟨m1,m2,e1,e2⟩
     ·cases e1
     ·cases e2
   obtain⟨NK,mY⟩:∃n,l.length=n:=⟨_,rfl⟩;have ej:=EP mY;have im:=EP qu;have HK:=EP hK;have qA:=EP sX;have HF:=EP hf;have tb:=EP hT;rw[mY];clear mY qu hK sX hf hT;go_wp2_with fail;refine(AQ.o _ B5.o).mono ?_;intro e w6 xU;obtain⟨b6,⟨m',cQ,⟨f',nI⟩,rfl⟩|⟨f',κ',l',T',Ak',ck',nI,nM,uV,rfl,gB,uX⟩⟩:=xU.cases jV.o.Nc
   ·exfalso
    rcases VV HF.o nI VK with⟨k1,k2,e1,e2,-⟩|⟨m1,m2,e1,e2⟩
    ·cases e2
    ·cases e1
   obtain⟨NL,TW⟩:∃n,l'.length=n:=⟨_,rfl⟩;obtain⟨iC,fw,iJ⟩:(∀p∈Fy ts,ap κ' p.1=ap κ' p.2)/\(∀p∈Fy (IT ts),ap κ p.1=ap κ p.2)/\∀l l',Told κ l->Told κ' l'->l.length=l'.length:=by
    rcases VV HF.o nI VK with⟨k1,k2,e1,e2,h1,h2,h3⟩|⟨m1,m2,e1,e2⟩
    ·injection e1 with e1
     injection e2 with e2;subst e1 e2;exact⟨h1,h2,h3⟩
    ·cases e1
   have wQ:NL=NK:=by rw[<-TW,<-ej.o];exact(iJ l l' tb.o nM).symm
   subst wQ;have B56:=EP b6;have B6:=EP (FZ B1.o (FZ gV.o (FZ B5.o b6)));have YR:=EP (FZ gV.o (FZ B5.o b6));have Yn:=EP iC;have Ym:=EP fw;have pT:=EP TW;have AU:=EP uV;have Bs:=EP gB;have Z_:=EP uX;have HF':=EP nI;have ZQ:=EP nM;have HT6:Hid (FO w6):=EP (AS.o w6 YR.o);have HE6:Hid (Hg S w6 ts A):=EP (r8.o.below nz.o YR.o);have HE7:Hid (Hg S w6 (IT ts) Ab):=EP (BF.o.below rJ.o (FZ B5.o b6));have dO:Hid (∀g,S g->g<w6.heap.size):=EP λg hg=>Ci (nz.o g hg) YR.o.size;have HK6:Hid (Hz T w6 l Ak):=EP (HK.o.below qA.o b6);have Z9:Hid (∀g,T g->g<w6.heap.size):=EP λg hg=>Ci (qA.o g hg) b6.size;have HOT:Hid (IM (IT ts)):=EP jV.o.Nc.ok;rw[TW]
   clear b6 iC fw iJ TW uV gB uX nI nM xU AQ BF r8 rJ;go_wp2_with fail;go_loopg [13] k (λgg vi wx=>∃r:Nat,gg=k-r/\vi=.int .i64 (r:Nat)/\r<=k/\Hid (Below w6.heap.size w6 wx))
   case atStart=>exact⟨0,rfl,rfl,Cw _,EP (Cc _ _)⟩
   case round =>
    obtain⟨r,rfl,rfl,hr,dA⟩:=hrel;by_cases gz:r<k
    ·obtain⟨⟨t,u⟩,hp⟩:∃p,ts[r]?=some p:=⟨_,BY (by rw[HN.o];exact gz)⟩;obtain⟨⟨t2,u2⟩,dj⟩:∃p,(IT ts)[r]?=some p:=⟨_,BY (by rw[vL.o];exact gz)⟩;obtain⟨g,K,X,Z,At,m,c,K',X',Z',Au,m',c',rfl,hg,r1,r2,q⟩:=HE6.o.Lv dO.o hp;obtain⟨g',J,Y,Q,Bt,p,d,J',Y',Q',Bu,p',d',rfl,jN,s1,s2,qq⟩:=HE7.o.Lv dO.o dj;have aT:(t,u)∈ts:=CG hp;have bL:(t2,u2)∈IT ts:=CG dj;obtain⟨n1,n2,z1,z2⟩:=jV.o.ok t u aT;obtain⟨n3,n4,z3,z4⟩:=HOT.o t2 u2 bL;have D1:=znM (c:=ck') AU.o pT.o Bs.o Z_.o HT6.o n1 n2 z1 z2 r1 r2 (zj0 AU.o HF'.o ZQ.o jV.o.ok Yn.o t u aT);have D2:=znM (c:=ck) im.o ej.o HK6.o Z9.o HT6.o n3 n4 z3 z4 s1 s2 (zj0 im.o HF.o tb.o HOT.o Ym.o t2 u2 bL);have BW:=EP (λW (h:Below wr.heap.size wr W)=>FZ dA.o h);have C1:=EP (λW (h:Below wr.heap.size wr W)=>D1.one W (BW.o W h));have C2:=EP (λW (h:Below wr.heap.size wr W)=>D1.two W (BW.o W h));have C3:=EP D1.same;have E1:=EP (λW (h:Below wr.heap.size wr W)=>D2.one W (BW.o W h));have E2:=EP (λW (h:Below wr.heap.size wr W)=>D2.two W (BW.o W h));have E3:=EP D2.same;have wZ:Hid (∀W,Below wr.heap.size wr W->(λW=>W.cell? ⟨g,r*8,none⟩=some (.int .i64 K)/\W.cell? ⟨g,r*8+1,none⟩=some (.string X)/\W.cell? ⟨g,r*8+2,none⟩=some (.int .i64 Z)/\W.cell? ⟨g,r*8+3,none⟩=some (.slice At m c)/\W.cell? ⟨g,r*8+4,none⟩=some (.int .i64 K')/\W.cell? ⟨g,r*8+4+1,none⟩=some (.string X')/\W.cell? ⟨g,r*8+4+2,none⟩=some (.int .i64 Z')/\W.cell? ⟨g,r*8+4+3,none⟩=some (.slice Au m' c')) W):=EP λW h=>q W (BW.o W h);have SO8:Hid (∀W,Below wr.heap.size wr W->(λW=>W.cell? ⟨g',r*8,none⟩=some (.int .i64 J)/\W.cell? ⟨g',r*8+1,none⟩=some (.string Y)/\W.cell? ⟨g',r*8+2,none⟩=some (.int .i64 Q)/\W.cell? ⟨g',r*8+3,none⟩=some (.slice Bt p d)/\W.cell? ⟨g',r*8+4,none⟩=some (.int .i64 J')/\W.cell? ⟨g',r*8+4+1,none⟩=some (.string Y')/\W.cell? ⟨g',r*8+4+2,none⟩=some (.int .i64 Q')/\W.cell? ⟨g',r*8+4+3,none⟩=some (.slice Bu p' d')) W):=EP λW h=>qq W (BW.o W h);have B0:Hid (Below wr.heap.size wr wr.drew):=EP (Cc _ wr).drew;have iQ:=EP dA.o;obtain⟨T1,gA⟩:∃T,FM l' t=T:=⟨_,rfl⟩;obtain⟨T2,pB⟩:∃T,FM l' u=T:=⟨_,rfl⟩;obtain⟨T3,mX⟩:∃T,FM l t2=T:=⟨_,rfl⟩;obtain⟨T4,hT4⟩:∃T,FM l u2=T:=⟨_,rfl⟩;rw[gA]at C1 C3
     rw[pB]at C2 C3;rw[mX]at E1 E3;rw[hT4]at E2 E3;clear hp dj r1 r2 s1 s2 q qq aT bL n1 n2 n3 n4 z1 z2 z3 z4 D1 D2 dA gA pB mX hT4 BW hg jN;go_upto_region 17 with fail
     go_cut [14] from 83 to 118 (λs14 wx=>s14=.bool true/\Hid (Below wr.heap.size wr wx))
     case first =>
      go_region_held3 (λW=>W.cell? ⟨g,r*8,none⟩=some (.int .i64 K)/\W.cell? ⟨g,r*8+1,none⟩=some (.string X)/\W.cell? ⟨g,r*8+2,none⟩=some (.int .i64 Z)/\W.cell? ⟨g,r*8+3,none⟩=some (.slice At m c)/\W.cell? ⟨g,r*8+4,none⟩=some (.int .i64 K')/\W.cell? ⟨g,r*8+4+1,none⟩=some (.string X')/\W.cell? ⟨g,r*8+4+2,none⟩=some (.int .i64 Z')/\W.cell? ⟨g,r*8+4+3,none⟩=some (.slice Au m' c')) (first|(with_reducible exact wZ.o _ B0.o))
       ((first
        |((with_reducible refine(C1.o _ B0.o).mono ?_);rintro e w9 ⟨k1,x1,z1,a1,m1,q1,rfl,cV,b9⟩;(try replace R2:=EP (R2.o.below b9));have R1:=EP cV;replace B0:=EP (FZ B0.o b9);clear cV b9)
        |((with_reducible refine(C2.o _ B0.o).mono ?_);rintro e w9 ⟨k2,x2,z2,a2,m2,q2,rfl,cV,b9⟩;(try replace R1:=EP (R1.o.below b9));have R2:=EP cV;replace B0:=EP (FZ B0.o b9);clear cV b9)
        |((with_reducible refine(C3.o _ _ _ R1.o R2.o).mono ?_);rintro e w9 ⟨rfl,b9⟩;replace B0:=EP (FZ B0.o b9);clear b9 R1 R2)))
      all_goals
       go_wp2_with fail;go_meet
       case rel=>exact⟨rfl,B0⟩
     case rest =>
      obtain⟨rfl,hbc⟩:=hcut;have B9:Hid (Below wr.heap.size wr wc.drew):=EP hbc.o.drew;clear hbc B0 C1 C2 C3 wZ;go_upto_region 18 with fail
      go_region_held3 (λW=>W.cell? ⟨g',r*8,none⟩=some (.int .i64 J)/\W.cell? ⟨g',r*8+1,none⟩=some (.string Y)/\W.cell? ⟨g',r*8+2,none⟩=some (.int .i64 Q)/\W.cell? ⟨g',r*8+3,none⟩=some (.slice Bt p d)/\W.cell? ⟨g',r*8+4,none⟩=some (.int .i64 J')/\W.cell? ⟨g',r*8+4+1,none⟩=some (.string Y')/\W.cell? ⟨g',r*8+4+2,none⟩=some (.int .i64 Q')/\W.cell? ⟨g',r*8+4+3,none⟩=some (.slice Bu p' d')) (first|(with_reducible exact SO8.o _ B9.o))
       ((first
        |((with_reducible refine(E1.o _ B9.o).mono ?_);rintro e w9 ⟨k1,x1,z1,a1,m1,q1,rfl,cV,b9⟩;(try replace R2:=EP (R2.o.below b9));have R1:=EP cV;replace B9:=EP (FZ B9.o b9);clear cV b9)
        |((with_reducible refine(E2.o _ B9.o).mono ?_);rintro e w9 ⟨k2,x2,z2,a2,m2,q2,rfl,cV,b9⟩;(try replace R1:=EP (R1.o.below b9));have R2:=EP cV;replace B9:=EP (FZ B9.o b9);clear cV b9)
        |((with_reducible refine(E3.o _ _ _ R1.o R2.o).mono ?_);rintro e w9 ⟨rfl,b9⟩;replace B9:=EP (FZ B9.o b9);clear b9 R1 R2)))
      all_goals
       go_wp2_with fail;go_roundg (k-(r+1))
       case measure=>omega
       case rel=>exact⟨r+1,rfl,by go_num,by omega,EP (FZ iQ.o B9.o)⟩
    ·have WN:r=k:=by omega
     subst WN;have iQ:=EP dA.o;clear dA;go_wp2_with fail;go_ret
     exact⟨rfl,FZ B6.o iQ.o⟩
theorem lifted(os:Os)(started:os.Started)(H:Type)(enc:TypeId × Value->H):ReturnsInHanded {} Tryz.checked os 7 .any (λw args=>(Rows.unifyTurnedSpec.pre enc prog Tryz.f7 Rows.unifyTurnedRow.domain false w args/\laidMetH prog E6 w)/\sizedMet enc prog Tryz.f7 (OpenSpec.ofChange Rows.unifyTurnedSpec) false w args)
   (Rows.unifyTurnedSpec.post enc prog Tryz.f7 false true false false):=by
 refine returnsInHanded_of_change_and (C:=Tryz.checked) (X:=λw _=>laidMetH prog E6 w) (λ_ _ _ hh h=>h.of_heap hh) OQ started (by kernel_rfl) func7
  (ChangeSpec.witness_shaped (enc:=enc) (C:=Tryz.checked) (os:=os) (X:=λw _=>laidMetH prog E6 w) false (World.laidAll prog os E6) #[.slice none 0 0] 8 (World.laidAll_os _ _ _)
   (Wg os) (by kernel_rfl) (by kernel_rfl) (by kernel_rfl)
   (VQ os _)) ?_
 intro W base args ds gs before ff hW hc _ hL _;have fq:∀(j:Nat) t v,Tryz.f7.params[j]?=some t->args[j]?=some v->Value.okWide prog W .any base t v:=ff;have nL:=hW;obtain⟨p,q,s4,hV,rfl,_,_⟩:=hW;have hA:DataW.TrodAll enc prog W 0 (λ_=>true) true Tryz.f7.params.toList args.toList ds p:=s4;rw[params7]at hA fq;obtain⟨v0,vs0,d0,ds0,p0,q0,oW,rfl,rfl,h0,r0⟩:=trodAll_cons hA;obtain⟨rfl,rfl,rfl⟩:=trodAll_nil r0;obtain rfl:args=#[v0]:=by cases args;simp_all
 obtain⟨rfl,rfl⟩:=trodVars_none hV;obtain⟨A9,nv,cv,rfl⟩:=okWide_slice QZ (fq 0 22 v0 rfl rfl);obtain⟨ls,rfl,bD,aA,sB⟩:=SD h0;clear s4 ff;simp only[CJ]at nL;have af:∀x∈p0,x.block<W.heap.size:=λx hx=>by simpa using nL.lt x (by simpa using hx)
 refine(walk ls A9 cv W (Wk hL) bD aA).mono λe W' ⟨he,hg⟩=>?_;subst he;have ha:=(trodAll_cons_mk (Below.trod RL (by kernel_rfl) (DB (by kernel_rfl)) h0 hg af) trodAll_mk0);simp only[CJ]at ha;exact⟨_,rfl,_,_,_,[],p0,[],nL,trodAll_cons_mk (shut_bool underlying4 _) trodAll_mk0,ha,rfl,hg.frame _,λh=>by cases h⟩
theorem over:Rows.unifyTurnedRow.holds Tryz.pinned (OpenSpec.ofChange Rows.unifyTurnedSpec) :=
 OpenClaim.holds_of_wide 7 Tryz.f7 rfl rfl rfl rfl rfl rfl rfl ⟨rfl,rfl,rfl,rfl,rfl⟩ rfl rfl rfl rfl rfl (by kernel_rfl) func7 (by kernel_rfl)
  (DB (by kernel_rfl)) (by unfold Func.isWrapper;first|(rw[Ch (by decide +kernel)];kernel_rfl)|(rw[Cg (by decide +kernel)];exact⟨rfl,rfl⟩))
  (λos started H enc _=>lifted os started H enc)
theorem proved:Rows.UnifyTurnedCardSaid :=
 Claim7.holds_tied_plain_at .later [] [.data,.data,.data,.sentinel,.sentinel] true _ true
  over (λ_ h=>by cases h) (by kernel_rfl) (λ_ h=>by cases h) unifyTurned_row_tie rfl ⟨rfl,rfl⟩ (by kernel_rfl) rfl
  (λf fn hf fC=>by
   obtain rfl:f=7:=Dz ((show prog.funcNamed "savant/savantlaw04.UnifyTurned" = some 7 by kernel_rfl).symm.trans hf) |>.symm;obtain rfl:fn=Tryz.f7:=(Dz (func7.symm.trans fC)).symm;exact⟨by kernel_rfl,λj t ht=>by
    rw[params7]at ht;have hm:t∈[22]:=by
     simpa using Array.mem_of_getElem? ht
    have aK:([22].all λu=>!prog.wantsStandIn u)=true:=by kernel_rfl
    exact(show prog.wantsStandIn t=false by simpa using Eo.1 aK t hm)⟩)
  (by kernel_rfl)
#print axioms proved
end Go.Proofs.YtfafilmklhnngaaGreatDoor.Ky
