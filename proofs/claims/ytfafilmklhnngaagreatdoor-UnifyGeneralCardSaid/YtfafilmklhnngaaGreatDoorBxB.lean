import Derived.Test.YtfafilmklhnngaaGreatDoorBxA
import Derived.Test.YtfafilmklhnngaaGreatDoorBsAQ
import Derived.Test.YtfafilmklhnngaaGreatDoorBsAI
import Derived.Test.YtfafilmklhnngaaGreatDoorCards
import Derived.Test.YtfafilmklhnngaaGreatDoorTie
import Derived.SevenTiedAt
import Derived.Deep.Cut
import Derived.Deep.CutRange
set_option maxHeartbeats 12800000
set_option maxRecDepth 100000
namespace Go.Proofs.YtfafilmklhnngaaGreatDoor.Ki
open Go.Proofs.Tryz
open Go.ChangeShapes Go.WideShapes Go.ChangeAt Go.RowKit Lx Tx Go.Shelf
theorem zrE:(prog.info? 39).map (λi=>(i.zero,i.size,i.bytes))=some (some (.agg #[.int .i64 0,.int .i64 0,.string ⟨#[]⟩,.int .i64 0,.slice none 0 0]),5,64):=by kernel_rfl
def zrX(S:Nat->Prop)(B:Nat)(ts:List (Ty × Ty))(w4:World)(N gg:Nat)(v12 Wu:Value)(wr:World):Prop :=
 ∃i,gg=N-i/\Wu=.int .i64 (i:Nat)/\i<=N/\RowK S B wr (Kp (ts.take i)) 39 v12/\Below B w4 wr
def zqn(s:List (Nat × Ty))(ts:List (Ty × Ty))(i:Nat):Prop:=∀j t u,j<i->ts[j]?=some (t,u)->ap (kf s) (db [] t)=ap (kf s) (db [] u)
theorem walk(ls:List (ByteArray × ByteArray))(A0:Option Addr)(c0:Nat)(ms:List (ByteArray × ByteArray))(A9:Option Addr)(c9:Nat)(w:World)(ht:FO w)(hl:Gb w ls A0)(hs:∀p∈ls,p.1.size<=maxLen/\p.2.size<=maxLen)(ez:Gb w ms A9)(aZ:∀p∈ms,p.1.size<=maxLen/\p.2.size<=maxLen):Calls prog 6 #[.slice A0 ls.length c0,.slice A9 ms.length c9] w λe w'=>e=.returned (.bool true)/\Below w.heap.size w w':=by
 generalize fy:ls.length=n0;generalize yN:ms.length=n9;have tu:=EP (Vf w ht);have cg:=EP (λ(W:World) (hW:Below w.heap.size w W)=>Qo ls A0 c0 W (Wh hl hW) hs);have Bc:=EP (λ(W:World) (hW:Below w.heap.size w W)=>Qo ms A9 c9 W (Wh ez hW) aZ);rw[fy]at cg;rw[yN]at Bc;have HT:=EP ht;clear ht hl hs ez aZ fy yN;go_in;go_wp2_with fail;refine tu.o.mono ?_;rintro e wa ⟨rfl,ba⟩;have BA:=EP ba;clear ba tu;go_wp2_with fail;refine(cg.o _ BA.o).mono ?_;rintro e w1 ⟨b1,tQ⟩;have B1:Hid (Below w.heap.size w w1):=EP (FZ BA.o b1);clear b1 cg BA;rcases tQ with⟨h0,rfl⟩|⟨ts,v1,v2,S,jZ,rfl,hE⟩
 ·go_wp2_with fail;refine(Bc.o _ B1.o).mono ?_;rintro e w2 ⟨b2,iA⟩;have B2:Hid (Below w.heap.size w w2):=EP (FZ B1.o b2);clear b2 Bc;rcases iA with⟨h0,rfl⟩|⟨jX,v3,v4,S2,tH,rfl,Aq⟩;all_goals
   go_wp2_with fail;go_ret
   exact⟨rfl,B2.o⟩
 go_wp2_with fail;refine(Bc.o _ B1.o).mono ?_;rintro e w2 ⟨b2,iA⟩;have B2:Hid (Below w.heap.size w w2):=EP (FZ B1.o b2);have B12:=EP b2;clear b2 Bc;rcases iA with⟨h0,rfl⟩|⟨jX,v3,v4,S2,tH,rfl,Aq⟩
 ·go_wp2_with fail;go_ret
  exact⟨rfl,B2.o⟩
 obtain⟨A,c1,rfl⟩:=hE.shape;obtain⟨Ab,cb,rfl⟩:=Aq.shape;have na:=SJ jZ;have uZ:=SJ tH;generalize hN:ts.length=N;generalize TX:jX.length=N2;have nz:Hid (∀g,S g->g<w1.heap.size):=EP (let⟨_,_,_,_,_,_,h⟩:=hE;λg y=>(h g y).2.1);have cE:Hid (∀g,S2 g->g<w2.heap.size):=EP (let⟨_,_,_,_,_,_,h⟩:=Aq;λg y=>(h g y).2.1);have r8:=EP hE.Jv.1;have BF:=EP Aq.Jv.1;have jV:=EP na;have Uw:=EP uZ;have HN:=EP hN;have rU:=EP TX;have hN8:N<=8:=by rw[<-hN];exact na.len
 have ar6:N2<=8:=by rw[<-TX];exact uZ.len
 have AS:Hid (∀W,Below w2.heap.size w2 W->FO W):=EP λW hW=>HT.o.below (FZ B2.o hW);obtain⟨i0,bK,cj,bS,bC⟩:=Dx zrE
 clear hE Aq jZ tH na uZ hN TX;go_wp2_with fail;go_loopg [12,13] N2 (λgg v12 Wu wr=>zrX S2 w2.heap.size jX w2 N2 gg v12 Wu wr)
 case atStart=>exact⟨0,rfl,rfl,Cw _,RowK.nil _ _ _ _,Cc _ _⟩
 case round =>
  obtain⟨i,rfl,rfl,hi,aU,bG⟩:=hrel;by_cases af:i<N2
  ·obtain⟨⟨tt,u⟩,hp⟩:∃p,jX[i]?=some p:=⟨_,BY (by rw[rU.o];exact af)⟩;obtain⟨g,At,ct,Au,cu,rfl,hg,⟨x0,x1,x2,x3⟩,-,⟨y0,y1,y2,y3⟩,Ri⟩:=BF.o i tt u hp;have hc:∀(W:World),Below w2.heap.size w2 W->∀j v,w2.cell? ⟨g,j,none⟩=some v->W.cell? ⟨g,j,none⟩=some v:=λW hW j v h=>(hW.cell (p:=⟨g,j,none⟩) hg).trans h;generalize jr:(((kd tt:Nat):Int)==2)=p1;generalize dj:decide (((nn tt:Nat):Int)<(100000:Int))=p2;generalize qU:u.r_=p3;have aW:=zqb hp;have HQ:Hid (LK (tt,u)=((p1&&p2) && !p3)):=EP (by
    have h1:p1=decide (kd tt=2):=by rw[<-jr,DM];simp;omega
    have h2:p2=decide (nn tt<100000):=by rw[<-dj,DM];simp;omega
    unfold LK;rw[zk1,h1,h2,<-qU])
   have dv:=EP aW;have me:=EP aU;have gV:=EP bG;have ji:=EP λW (hW:Below w2.heap.size w2 W)=>let h:=λj v=>hc W hW j v;And.intro (h _ _ x0)<|And.intro (h _ _ x2)<|And.intro (h _ _ y0)<|And.intro (h _ _ y1)<|And.intro (h _ _ y2) (h _ _ y3)
   have HA1:Hid (∀W:World,Below w2.heap.size w2 W->j_ S2 W u Au):=EP λW hW=>Ri.al (λ_ h=>h) (λk hk=>hW.block k (cE.o k hk));have j6:u.size<=120:=(Uw.o.ok tt u (CG hp)).2.2.2;have yw:nc S2 wr u (.agg #[.int .i64 (kd u:Nat),.string (ER u),.int .i64 (nn u:Nat),.slice Au (kids u).length cu]):=⟨Au,cu,rfl,HA1.o wr bG⟩;have wz:=zqW u S2 _ wr (by omega) yw (λk hk=>Ci (cE.o k hk) bG.size);rw[qU]at wz
   have xp:=EP wz;have bw:=Cm (zk2 (jX.take i)) (List.length_take_le i jX);generalize wC:(Kp (jX.take i)).length=nk;have ej:=EP wC;rw[wC]at bw;obtain⟨d0,d1,d2,d3,d4,d5⟩:=ji.o wr bG;clear hp aW aU bG x0 x1 x2 x3 y0 y1 y2 y3 Ri hg hc wC j6 yw wz qU;go_wp2_with fail;refine xp.o.mono ?_;rintro e w3 ⟨rfl,b3⟩;have vX:Hid (Below w2.heap.size w2 w3):=EP (FZ gV.o b3);have r6:Hid (RowK S2 w2.heap.size w3 (Kp (jX.take i)) 39 u12):=EP (by
    obtain⟨vs,o1,k1⟩:=me.o;exact⟨vs,GF o1 (λk hk=>b3.block k (s_ o1 k hk).2.1),m_.al (λ_ h=>h) (λk hk=>b3.block k (Ci (cE.o k hk) gV.o.size)) _ _ k1⟩)
   obtain⟨d0,d1,d2,d3,d4,d5⟩:=ji.o w3 vX.o;clear b3 xp me gV;have bN:((p1&&p2) && !p3)=false->Hid (Kp (jX.take (i+1))=Kp (jX.take i)):=λh=>EP (by rw[dv.o,HQ.o,h];rfl);have cw:((p1&&p2) && !p3)=true->Hid (Kp (jX.take (i+1))=Kp (jX.take i)++[(nn tt,u)]):=λh=>EP (by rw[dv.o,HQ.o,h];rfl);rcases p1 with _|_;rotate_left;rcases p2 with _|_;rotate_left;rcases p3 with _|_
   ·have HR:=cw rfl;obtain⟨gW,o1,k1⟩:=r6.o;obtain⟨A3,c3,rfl⟩:=GS o1;rw[ej.o]at o1;have O1:=EP o1;have YB:=EP k1;have az:=EP (World.ownsRow.alloc (w:=w3.drew) o1 (.cells #[.int .i64 (nn tt:Nat),.int .i64 (kd u:Nat),.string (ER u),.int .i64 (nn u:Nat),.slice Au (kids u).length cu] 39));have iN:Hid (w2.heap.size<=w3.heap.size):=EP vX.o.size;clear dv HQ bN cw o1 k1 r6;rw[ej.o];go_upto_region 12 with fail;go_region_law (refine step_append_lies _ (by rfl) _ _ _ (by rfl) w2.heap.size 39 i0 _ 5 64 underlying28 bK cj bS bC rfl (by decide) _ nk gW (by rfl) az.o ⟨w3.heap.size,0,none⟩ 1 1 [.int .i64 (nn tt:Nat),.int .i64 (kd u:Nat),.string (ER u),.int .i64 (nn u:Nat),.slice Au (kids u).length cu] rfl rfl (World.news_of_block (BZ _ _)) (by intro v hv;simp at hv;rcases hv with rfl|rfl|rfl|rfl|rfl <;> rfl) (by omega) (by unfold maxLen;omega) (by omega) (by have:=iN.o;simp;omega) _ rfl ?_;intro g9 c9 w9 dm ae bz uq;have rR:=EP dm;have nD:=EP ae;clear dm ae bz)
    all_goals
     go_wp2_with fail;go_roundg (N2-(i+1))
     case measure=>omega
     case rel =>
      obtain⟨h1,h2,-⟩:=zn7 cE.o iN.o (by rw[ej.o];exact O1.o) YB.o (HA1.o _ vX.o) nD.o (by rw[ej.o];exact rR.o);exact⟨i+1,rfl,by go_num,by omega,by rw[HR.o];exact h1,vX.o.trans h2⟩
   all_goals
    have HR:=bN rfl;clear dv HQ bN cw;go_wp2_with fail;go_roundg (N2-(i+1))
    case measure=>omega
    case rel=>exact⟨i+1,rfl,by go_num,by omega,by rw[HR.o];exact r6.o,vX.o⟩
  ·have wI:i=N2:=by omega
   subst wI;have ft:jX.take i=jX:=Cq (by rw[rU.o];exact BU _);rw[ft]at aU;generalize hs:Kp jX=s;have hSB:Hr s:=by rw[<-hs];exact zrh Uw.o.ok Uw.o.len
   have sV:∀e∈s,e.2.size<=120:=λe he=>by rw[<-hs]at he;exact(ziB Uw.o.ok e he).2.2.2
   rw[hs]at aU;obtain⟨As,cs,rfl⟩:=aU.shape;have AX:=EP aU.Wy;generalize iX:s.length=ns;have Up:=EP iX;have jT:=EP hSB;have ahh:=EP sV;have gV:=EP bG;clear ft hs hSB sV aU iX bG hi af;go_wp2_with fail;go_loopg [15] N (λgg vi wx=>∃j,gg=N-j/\vi=.int .i64 (j:Nat)/\j<=N/\zqn s ts j/\Hid (Hz S2 wx s As/\Below w2.heap.size w2 wx))
   case atStart=>exact⟨0,rfl,rfl,Cw _,(λj _ _ h=>absurd h (Nat.not_lt_zero _)),EP ⟨AX.o,gV.o⟩⟩
   case round =>
    obtain⟨j,rfl,rfl,hj,hh,jM⟩:=hrel;have HH:=EP hh;clear hh;by_cases Nj:j<N
    ·obtain⟨⟨t,u⟩,hp⟩:∃p,ts[j]?=some p:=⟨_,BY (by rw[HN.o];exact Nj)⟩;obtain⟨g,K,X,Z,At,m,c,K',X',Z',Au,m',c',rfl,hg,r1,r2,q⟩:=r8.o.Lv nz.o hp;obtain⟨uA,bG⟩:=jM.o;have jl:Below w1.heap.size w1 wr:=FZ B12.o bG;have dH:(t,u)∈ts:=CG hp;obtain⟨n1,n2,s1,s2⟩:=jV.o.ok t u dH;have st:Fj t:=⟨n1,.inl s1⟩;have su:Fj u:=⟨n2,.inl s2⟩;have TP:∀g,S2 g->g<wr.heap.size:=λg hg=>Ci (cE.o g hg) bG.size;have C1:=EP λW (hW:Below wr.heap.size wr W)=>Hz.apply (c:=cs) jT.o st uA TP (r1.below jl) (AS.o wr bG) hW
     have C2:=EP λW (hW:Below wr.heap.size wr W)=>Hz.apply (c:=cs) jT.o su uA TP (r2.below jl) (AS.o wr bG) hW
     generalize tS:(t_ [] [] (FM s t) (FM s u) 0).1=qs;have WU:qs=true↔db [] (FM s t)=db [] (FM s u):=by rw[<-tS];exact JA _ _
     have C3:=EP λW p p' (hp:I9 W (FM s t) p) (bY:I9 W (FM s u) p')=>
      zpG hp bY (MV jT.o st) (MV jT.o su) (by have:=Sw jT.o s1;omega) qs WU
     have pS:Hid (qs=true->zqn s ts (j+1)):=EP λh j' t' u' kI bY=>by
      rcases Eb j' j with h1|h1
      ·exact HH.o j' t' u' h1 bY
      ·have e:j'=j:=by omega
       subst e;rw[hp]at bY;injection bY with bY;injection bY with e1 e2;subst e1 e2;exact(Vz jT.o st su).1 (WU.1 h)
     have wZ:=EP λW (h:Below wr.heap.size wr W)=>q W (FZ jl h);have B0:Hid (Below wr.heap.size wr wr.drew):=EP (Cc _ wr).drew;have HKB:Hid (∀W,Below wr.heap.size wr W->Hz S2 W s As/\Below w2.heap.size w2 W):=EP λW hW=>⟨uA.below TP hW,FZ bG hW⟩;generalize gA:FM s t=T1 at C1 C3;generalize pB:FM s u=T2 at C2 C3;rw[Up.o]at C1 C2;clear hp r1 r2 q dH n1 n2 s1 s2 st su jM uA bG TP gA pB hg tS WU jl;go_wp2_with fail;go_region_held3 (λW=>W.cell? ⟨g,j*8,none⟩=some (.int .i64 K)/\W.cell? ⟨g,j*8+1,none⟩=some (.string X)/\W.cell? ⟨g,j*8+2,none⟩=some (.int .i64 Z)/\W.cell? ⟨g,j*8+3,none⟩=some (.slice At m c)/\W.cell? ⟨g,j*8+4,none⟩=some (.int .i64 K')/\W.cell? ⟨g,j*8+4+1,none⟩=some (.string X')/\W.cell? ⟨g,j*8+4+2,none⟩=some (.int .i64 Z')/\W.cell? ⟨g,j*8+4+3,none⟩=some (.slice Au m' c')) (first|(with_reducible exact wZ.o _ B0.o))
      ((first
       |((with_reducible refine(C1.o _ B0.o).mono ?_);rintro e w9 ⟨_,_,_,_,_,_,rfl,cV,b9⟩;(try replace R2:=EP (R2.o.below b9));have R1:=EP cV;replace B0:=EP (FZ B0.o b9);clear cV b9)
       |((with_reducible refine(C2.o _ B0.o).mono ?_);rintro e w9 ⟨_,_,_,_,_,_,rfl,cV,b9⟩;(try replace R1:=EP (R1.o.below b9));have R2:=EP cV;replace B0:=EP (FZ B0.o b9);clear cV b9)
       |((with_reducible refine(C3.o _ _ _ R1.o R2.o).mono ?_);rintro e w9 ⟨rfl,b9⟩;replace B0:=EP (FZ B0.o b9);clear b9 R1 R2)))
     all_goals
      cases qs with
      |false =>
       go_wp2_with fail;go_ret
       exact⟨rfl,FZ B2.o (HKB.o _ B0.o).2⟩
      |true =>
       go_wp2_with fail;go_roundg (N-(j+1))
       case measure=>omega
       case rel=>exact⟨j+1,rfl,by go_num,by omega,pS.o (by first|rfl|trivial),EP (HKB.o _ B0.o)⟩
    ·have Xc:j=N:=by omega
     subst Xc;have aK:∀t u,(t,u)∈ts->ap (kf s) (db [] t)=ap (kf s) (db [] u):=λt u ht=>by
      obtain⟨i',fB,e⟩:=CN.1 ht;exact HH.o i' t u (by rw[<-HN.o];exact fB) (by rw[BY fB,e])
     obtain⟨uA,bG⟩:=jM.o;have jl:Below w1.heap.size w1 wr:=FZ B12.o bG;have fR:=Wa (c:=c1) (r8.o.below nz.o jl) (λg hg=>Ci (nz.o g hg) jl.size) jV.o;rw[HN.o]at fR;have kZ:=EP fR;have gy:=EP aK;have HKW:=EP uA;have vT:=EP bG;clear aK jM uA bG jl fR hj Nj HH;go_wp2_with fail;refine kZ.o.mono ?_;intro e w5 fR;obtain⟨b5,⟨m,hm,⟨f,hf⟩,rfl⟩|⟨f,k,l,T,Ak,ck,hf,hT,qu,rfl,hK,sX⟩⟩:=fR.cases jV.o
     ·exfalso
      obtain⟨k,hk,-⟩:=zhl (s:=s) jT.o.r_ gy.o hf;cases hk
     obtain⟨k',fj,bp⟩:=zhl (s:=s) jT.o.r_ gy.o hf;injection fj with fj;subst fj;generalize mY:l.length=NK;have Ah:NK<=24:=by rw[<-mY];exact qu.len
     have B5:Hid (Below w2.heap.size w2 w5):=EP (FZ vT.o b5);have rJ:∀g,S2 g->g<wr.heap.size:=λg hg=>Ci (cE.o g hg) vT.o.size;have AW:Hid (Hz S2 w5 s As):=EP (HKW.o.below rJ b5);have HS5:Hid (∀g,S2 g->g<w5.heap.size):=EP λg hg=>Ci (rJ g hg) b5.size;have xk:Hid (FO w5):=EP (AS.o w5 B5.o);have ej:=EP mY;have im:=EP qu;have HK:=EP hK;have qA:=EP sX;have HF:=EP hf;have tb:=EP hT;have HAB:=EP bp
     clear mY qu hK sX hf hT fR b5 kZ bp rJ HKW vT;go_wp2_with fail;go_loopg [19] NK (λgg vi wx=>∃r,gg=NK-r/\vi=.int .i64 (r:Nat)/\r<=NK/\Hid (Below w5.heap.size w5 wx))
     case atStart=>exact⟨0,rfl,rfl,Cw _,EP (Cc _ _)⟩
     case round =>
      obtain⟨r,rfl,rfl,hr,dA⟩:=hrel;by_cases Zc:r<NK
      ·obtain⟨⟨n,t⟩,hp⟩:∃p,l[r]?=some p:=⟨_,BY (by rw[ej.o];exact Zc)⟩;obtain⟨g,K,X,Z,At,m,c,rfl,hg,r1,q⟩:=HK.o.XK qA.o hp;have dH:(n,t)∈l:=CG hp;obtain⟨sm,st,heq⟩:=zjZ jT.o im.o HF.o tb.o HAB.o n t dH;have jI:Hid (∀W,Below wr.heap.size wr W->Below w5.heap.size w5 W):=EP (λW h=>FZ dA.o h);have C1:=EP λW (hW:Below wr.heap.size wr W)=>Hz.apply (c:=cs) jT.o sm AW.o HS5.o (zrW _ _ n) xk.o (jI.o W hW)
       have C2:=EP λW (hW:Below wr.heap.size wr W)=>Hz.apply (c:=cs) jT.o st AW.o HS5.o r1 xk.o (jI.o W hW)
       have C3:=EP λW p p' (hp:I9 W (FM s (.mt n)) p) (bY:I9 W (FM s t) p')=>
        R6 hp bY (MV jT.o sm) (MV jT.o st) (by have:=Sw (t:=.mt n) jT.o (by rw[Ty.size];omega);omega) heq
       have SO5:=EP λW (h:Below wr.heap.size wr W)=>q W (jI.o W h);have B0:Hid (Below wr.heap.size wr wr.drew):=EP (Cc _ wr).drew;have iQ:=EP dA.o;generalize gA:FM s (.mt n)=T1 at C1 C3;generalize pB:FM s t=T2 at C2 C3;rw[Up.o]at C1 C2;clear hp r1 q dH sm st heq dA gA pB jI hg;go_wp2_with fail;go_region_held3 (λW=>W.cell? ⟨g,r*5,none⟩=some (.int .i64 (n:Nat))/\W.cell? ⟨g,r*5+1,none⟩=some (.int .i64 K)/\W.cell? ⟨g,r*5+1+1,none⟩=some (.string X)/\W.cell? ⟨g,r*5+1+2,none⟩=some (.int .i64 Z)/\W.cell? ⟨g,r*5+1+3,none⟩=some (.slice At m c)) (first|(with_reducible exact SO5.o _ B0.o))
        ((first
         |((with_reducible refine(C1.o _ B0.o).mono ?_);rintro e w9 ⟨_,_,_,_,_,_,rfl,cV,b9⟩;(try replace R2:=EP (R2.o.below b9));have R1:=EP cV;replace B0:=EP (FZ B0.o b9);clear cV b9)
         |((with_reducible refine(C2.o _ B0.o).mono ?_);rintro e w9 ⟨_,_,_,_,_,_,rfl,cV,b9⟩;(try replace R1:=EP (R1.o.below b9));have R2:=EP cV;replace B0:=EP (FZ B0.o b9);clear cV b9)
         |((with_reducible refine(C3.o _ _ _ R1.o R2.o).mono ?_);rintro e w9 ⟨rfl,b9⟩;replace B0:=EP (FZ B0.o b9);clear b9 R1 R2)))
       all_goals
        go_wp2_with fail;go_roundg (NK-(r+1))
        case measure=>omega
        case rel=>exact⟨r+1,rfl,by go_num,by omega,EP (FZ iQ.o B0.o)⟩
      ·have WQ:r=NK:=by omega
       subst WQ;have iQ:=EP dA.o;clear dA;go_wp2_with fail;go_ret
       exact⟨rfl,FZ B2.o (FZ B5.o iQ.o)⟩
theorem lifted(os:Os)(started:os.Started)(H:Type)(enc:TypeId × Value->H):ReturnsInHanded {} Tryz.checked os 6 .any (λw args=>(Rows.unifyGeneralSpec.pre enc prog Tryz.f6 Rows.unifyGeneralRow.domain false w args/\laidMetH prog E6 w)/\sizedMet enc prog Tryz.f6 (OpenSpec.ofChange Rows.unifyGeneralSpec) false w args)
   (Rows.unifyGeneralSpec.post enc prog Tryz.f6 false true false false):=by
 refine returnsInHanded_of_change_and (C:=Tryz.checked) (X:=λw _=>laidMetH prog E6 w) (λ_ _ _ hh h=>h.of_heap hh) OQ started (by kernel_rfl) func6
  (ChangeSpec.witness_shaped (enc:=enc) (C:=Tryz.checked) (os:=os) (X:=λw _=>laidMetH prog E6 w) false (World.laidAll prog os E6) #[.slice none 0 0,.slice none 0 0] 8 (World.laidAll_os _ _ _)
   (Wg os) (by kernel_rfl) (by kernel_rfl) (by kernel_rfl)
   (VQ os _)) ?_
 intro W base args ds gs before ff hW hc _ hL _;have fq:∀(j:Nat) t v,Tryz.f6.params[j]?=some t->args[j]?=some v->Value.okWide prog W .any base t v:=ff;have nL:=hW;obtain⟨p,q,s4,hV,rfl,_,_⟩:=hW;have hA:DataW.TrodAll enc prog W 0 (λ_=>true) true Tryz.f6.params.toList args.toList ds p:=s4;rw[params6]at hA fq;obtain⟨v0,vs0,d0,ds0,p0,q0,oW,rfl,rfl,h0,r0⟩:=trodAll_cons hA;obtain⟨v1,gW,d1,ds1,p1,q1,aS,rfl,rfl,h1,r1⟩:=trodAll_cons r0;obtain⟨rfl,rfl,rfl⟩:=trodAll_nil r1;subst aS;obtain rfl:args=#[v0,v1]:=by cases args;simp_all
 obtain⟨rfl,rfl⟩:=trodVars_none hV;obtain⟨A0,n0,c0,rfl⟩:=okWide_slice QZ (fq 0 22 v0 rfl rfl);obtain⟨ls0,rfl,la0,sz0,mx0⟩:=SD h0;obtain⟨A1,n1,c1,rfl⟩:=okWide_slice QZ (fq 1 22 v1 rfl rfl);obtain⟨ls1,rfl,la1,sz1,mx1⟩:=SD h1;clear s4 ff;simp only[CJ]at nL;have lt0:∀x∈p0,x.block<W.heap.size:=λx hx=>by simpa using nL.lt x (by simp[hx])
 have lt1:∀x∈p1,x.block<W.heap.size:=λx hx=>by simpa using nL.lt x (by simp[hx])
 refine(walk ls0 A0 c0 ls1 A1 c1 W (Wk hL) la0 sz0 la1 sz1).mono λe W' ⟨he,hg⟩=>?_;subst he;have ha:=(trodAll_cons_mk (Below.trod RL (by kernel_rfl) (DB (by kernel_rfl)) h0 hg lt0) (trodAll_cons_mk (Below.trod RL (by kernel_rfl) (DB (by kernel_rfl)) h1 hg lt1) trodAll_mk0));simp only[CJ]at ha;exact⟨_,rfl,_,_,_,[],p0++p1,[],nL,trodAll_cons_mk (shut_bool underlying4 _) trodAll_mk0,ha,rfl,hg.frame _,λh=>by cases h⟩
theorem over:Rows.unifyGeneralRow.holds Tryz.pinned (OpenSpec.ofChange Rows.unifyGeneralSpec) :=
 OpenClaim.holds_of_wide 6 Tryz.f6 rfl rfl rfl rfl rfl rfl rfl ⟨rfl,rfl,rfl,rfl,rfl⟩ rfl rfl rfl rfl rfl (by kernel_rfl) func6 (by kernel_rfl)
  (DB (by kernel_rfl)) (by unfold Func.isWrapper;first|(rw[Ch (by decide +kernel)];kernel_rfl)|(rw[Cg (by decide +kernel)];exact⟨rfl,rfl⟩))
  (λos started H enc _=>lifted os started H enc)
theorem proved:Rows.UnifyGeneralCardSaid :=
 Claim7.holds_tied_plain_at .later [] [.data,.data,.data,.sentinel,.sentinel] true _ true
  over (λ_ h=>by cases h) (by kernel_rfl) (λ_ h=>by cases h) unifyGeneral_row_tie rfl ⟨rfl,rfl⟩ (by kernel_rfl) rfl
  (λf fn hf fC=>by
   obtain rfl:f=6:=Dz ((show prog.funcNamed "savant/savantlaw04.UnifyGeneral" = some 6 by kernel_rfl).symm.trans hf) |>.symm;obtain rfl:fn=Tryz.f6:=(Dz (func6.symm.trans fC)).symm;exact⟨by kernel_rfl,λj t ht=>by
    rw[params6]at ht;have hm:t∈[22,22]:=by
     simpa using Array.mem_of_getElem? ht
    have aK:([22,22].all λu=>!prog.wantsStandIn u)=true:=by kernel_rfl
    exact(show prog.wantsStandIn t=false by simpa using Eo.1 aK t hm)⟩)
  (by kernel_rfl)
#print axioms proved
end Go.Proofs.YtfafilmklhnngaaGreatDoor.Ki
