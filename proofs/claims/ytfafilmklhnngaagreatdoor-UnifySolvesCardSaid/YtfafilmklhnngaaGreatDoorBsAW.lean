import Derived.Test.YtfafilmklhnngaaGreatDoorBsAV
import Derived.Test.YtfafilmklhnngaaGreatDoorBsAQ
import Derived.Test.YtfafilmklhnngaaGreatDoorBsAI
import Derived.Test.YtfafilmklhnngaaGreatDoorCards
import Derived.Test.YtfafilmklhnngaaGreatDoorTie
import Derived.SevenTiedAt
set_option maxHeartbeats 12800000
set_option maxRecDepth 100000
namespace Go.Proofs.YtfafilmklhnngaaGreatDoor.Kz
open Go.Proofs.Tryz
open Go.ChangeShapes Go.WideShapes Go.ChangeAt Go.RowKit Lx Tx Go.Shelf
open Go.ChangeMaps (open_string shut_string)
set_option maxRecDepth 100000
theorem walk(ls:List (ByteArray × ByteArray))(A0:Option Addr)(c0:Nat)(w:World)(ht:FO w)(hl:Gb w ls A0)(hs:∀p∈ls,p.1.size<=maxLen/\p.2.size<=maxLen):Calls prog 5 #[.slice A0 ls.length c0] w λe w'=>e=.returned (.bool true)/\Below w.heap.size w w':=by
 obtain⟨n0,fy⟩:∃n,ls.length=n:=⟨_,rfl⟩;have tu:=EP (Vf w ht);have cg:=EP (λ(W:World) (hW:Below w.heap.size w W)=>Qo ls A0 c0 W (λi p hi=>by
  obtain⟨a,e,h1,h2,h3⟩:=hl i p hi;have hb:∀k,(a.add k).block=a.block:=λk=>by unfold Addr.add;split <;> rfl
  exact⟨a,e,Ci h1 hW.size,(hW.cell (p:=a.add (i*2)) (by rw[hb];exact h1)).trans h2,(hW.cell (p:=a.add (i*2+1)) (by rw[hb];exact h1)).trans h3⟩) hs)
 rw[fy]at cg ⊢;have HT:=EP ht;clear ht hl hs;go_in;go_wp2_with fail;refine tu.o.mono ?_;rintro e wa ⟨rfl,ba⟩;have BA:=EP ba;clear ba tu;go_wp2_with fail;refine(cg.o _ BA.o).mono ?_;rintro e w1 ⟨b1,⟨h0,rfl⟩|⟨ts,v1,v2,S,jZ,rfl,hE⟩⟩
 ·go_wp2_with fail
  go_ret
  exact⟨rfl,BA.o.trans (b1.mono BA.o.size)⟩
 obtain⟨A,c1,rfl⟩:=hE.shape;have na:=SJ jZ;obtain⟨N,hN⟩:∃n,ts.length=n:=⟨_,rfl⟩;have B1:Hid (Below w.heap.size w w1):=EP (BA.o.trans (b1.mono BA.o.size));have fR:=zjJ hE na.ok na.len;rw[hN]at fR;have kZ:=EP fR;have r8:=EP hE.Jv.1;have nz:Hid (∀g,S g->g<w1.heap.size):=EP (by
  obtain⟨_,_,_,_,_,_,h5⟩:=hE;exact λg hg=>(h5 g hg).2.1)
 have jV:=EP na;have HN:=EP hN;have hN8:N<=8:=by rw[<-hN];exact na.len
 rw[hN];clear hE jZ na b1 BA cg hN fR;go_wp2_with fail;refine kZ.o.mono ?_;intro e w5 fR;obtain⟨b5,⟨m,hm,-,rfl⟩|⟨f,k,l,T,Ak,ck,hf,hT,qu,rfl,hK,sX⟩⟩:=fR.cases jV.o
 ·have B5:Hid (Below w.heap.size w w5):=EP (B1.o.trans (b5.mono B1.o.size))
  clear b5 fR kZ;rcases hm with rfl|rfl|rfl|rfl;all_goals
   go_wp2_with fail;go_ret
   exact⟨rfl,B5.o⟩
 obtain⟨NK,mY⟩:∃n,l.length=n:=⟨_,rfl⟩;have Ah:NK<=24:=by rw[<-mY];exact qu.len
 have B5:Hid (Below w.heap.size w w5):=EP (B1.o.trans (b5.mono B1.o.size));have YS:=EP b5;have ej:=EP mY;have im:=EP qu;have HK:=EP hK;have qA:=EP sX;have HF:=EP hf;have tb:=EP hT;have xk:Hid (FO w5):=EP (HT.o.below B5.o);rw[mY];clear mY qu hK sX hf hT fR b5 kZ;go_wp2_with fail;go_loopg [9] N (λgg vi wr=>∃i,gg=N-i/\vi=.int .i64 (i:Nat)/\i<=N/\Hid (Below w5.heap.size w5 wr))
 case atStart=>exact⟨0,rfl,rfl,Cw _,EP (Cc _ _)⟩
 case round =>
  obtain⟨i,rfl,rfl,hi,bG⟩:=hrel;by_cases af:i<N
  ·obtain⟨⟨t,u⟩,hp⟩:∃p,ts[i]?=some p:=⟨_,BY (by rw[HN.o];exact af)⟩
   obtain⟨g,K,X,Z,At,m,c,K',X',Z',Au,m',c',rfl,hg,r1,r2,q⟩:=r8.o.Lv nz.o hp;have dH:(t,u)∈ts:=CG hp;obtain⟨n1,n2,s1,s2⟩:=jV.o.ok t u dH;have st:Fj t:=⟨n1,.inl s1⟩;have su:Fj u:=⟨n2,.inl s2⟩;have jI:Hid (∀W,Below wr.heap.size wr W->Below w5.heap.size w5 W):=EP (λW h=>FZ bG.o h);have C1:Hid (∀W,Below wr.heap.size wr W->Calls prog 20 #[.slice Ak NK ck,.agg #[.int .i64 K,.string X,.int .i64 Z,.slice At m c]] W (L_ (FM l t) W)):=EP λW hW=>by
    have h:=Hz.apply (c:=ck) im.o st HK.o qA.o (r1.below YS.o) xk.o (jI.o W hW);rwa [ej.o]at h
   have C2:Hid (∀W,Below wr.heap.size wr W->Calls prog 20 #[.slice Ak NK ck,.agg #[.int .i64 K',.string X',.int .i64 Z',.slice Au m' c']] W (L_ (FM l u) W)):=EP λW hW=>by
    have h:=Hz.apply (c:=ck) im.o su HK.o qA.o (r2.below YS.o) xk.o (jI.o W hW);rwa [ej.o]at h
   have C3:Hid (∀W p p',I9 W (FM l t) p->I9 W (FM l u) p'->Calls prog 22 #[p,p'] W λe w'=>e=.returned (.bool true)/\Below W.heap.size W w'):=EP λW p p' hp bY =>
    R6 hp bY (MV im.o st) (MV im.o su) (by have:=Sw im.o s1;omega) (zn6 im.o HF.o tb.o jV.o.ok t u dH)
   have wZ:Hid (∀W,Below wr.heap.size wr W->(λW=>W.cell? ⟨g,i*8,none⟩=some (.int .i64 K)/\W.cell? ⟨g,i*8+1,none⟩=some (.string X)/\W.cell? ⟨g,i*8+2,none⟩=some (.int .i64 Z)/\W.cell? ⟨g,i*8+3,none⟩=some (.slice At m c)/\W.cell? ⟨g,i*8+4,none⟩=some (.int .i64 K')/\W.cell? ⟨g,i*8+4+1,none⟩=some (.string X')/\W.cell? ⟨g,i*8+4+2,none⟩=some (.int .i64 Z')/\W.cell? ⟨g,i*8+4+3,none⟩=some (.slice Au m' c')) W):=EP λW h=>q W (FZ YS.o (jI.o W h));have B0:Hid (Below wr.heap.size wr wr.drew):=EP (Cc _ wr).drew;have gV:=EP bG.o;obtain⟨T1,gA⟩:∃T,FM l t=T:=⟨_,rfl⟩;obtain⟨T2,pB⟩:∃T,FM l u=T:=⟨_,rfl⟩;rw[gA]at C1 C3
   rw[pB]at C2 C3;clear hp r1 r2 q dH n1 n2 s1 s2 st su bG gA pB jI hg;go_wp2_with fail;go_region_held3 (λW=>W.cell? ⟨g,i*8,none⟩=some (.int .i64 K)/\W.cell? ⟨g,i*8+1,none⟩=some (.string X)/\W.cell? ⟨g,i*8+2,none⟩=some (.int .i64 Z)/\W.cell? ⟨g,i*8+3,none⟩=some (.slice At m c)/\W.cell? ⟨g,i*8+4,none⟩=some (.int .i64 K')/\W.cell? ⟨g,i*8+4+1,none⟩=some (.string X')/\W.cell? ⟨g,i*8+4+2,none⟩=some (.int .i64 Z')/\W.cell? ⟨g,i*8+4+3,none⟩=some (.slice Au m' c')) (first|(with_reducible exact wZ.o _ B0.o))
    ((first
     |((with_reducible refine(C1.o _ B0.o).mono ?_);rintro e w9 ⟨k1,x1,z1,a1,m1,q1,rfl,cV,b9⟩;(try replace R2:=EP (R2.o.below b9));have R1:=EP cV;replace B0:=EP (FZ B0.o b9);clear cV b9)
     |((with_reducible refine(C2.o _ B0.o).mono ?_);rintro e w9 ⟨k2,x2,z2,a2,m2,q2,rfl,cV,b9⟩;(try replace R1:=EP (R1.o.below b9));have R2:=EP cV;replace B0:=EP (FZ B0.o b9);clear cV b9)
     |((with_reducible refine(C3.o _ _ _ R1.o R2.o).mono ?_);rintro e w9 ⟨rfl,b9⟩;replace B0:=EP (FZ B0.o b9);clear b9 R1 R2)))
   all_goals
    go_wp2_with fail;go_roundg (N-(i+1))
    case measure=>omega
    case rel=>exact⟨i+1,rfl,by go_num,by omega,EP (FZ gV.o B0.o)⟩
  ·have wI:i=N:=by omega
   subst wI;have gV:=EP bG.o;clear bG;go_wp2_with fail;go_loopg [11] NK (λgg vi wx=>∃j,gg=NK-j/\vi=.int .i64 (j:Nat)/\j<=NK/\Hid (Below w5.heap.size w5 wx))
   case atStart=>exact⟨0,rfl,rfl,Cw _,EP gV.o⟩
   case round =>
    obtain⟨j,rfl,rfl,hj,dA⟩:=hrel;by_cases Nj:j<NK
    ·obtain⟨⟨n,t⟩,hp⟩:∃p,l[j]?=some p:=⟨_,BY (by rw[ej.o];exact Nj)⟩
     obtain⟨g,K,X,Z,At,m,c,rfl,hg,r1,q⟩:=HK.o.XK qA.o hp;have dH:(n,t)∈l:=CG hp;obtain⟨st,e1,e2⟩:=zqa im.o HF.o tb.o n t dH;have cL:t.r_=false:=im.o.r_ _ dH;have aA:=st.le;have HQ:=EP q;have jI:Hid (∀W,Below wr.heap.size wr W->Below w5.heap.size w5 W):=EP (λW h=>FZ dA.o h);have C1:Hid (∀W,Below wr.heap.size wr W->Calls prog 20 #[.slice (some ⟨g,0,none⟩) NK ck,.agg #[.int .i64 K,.string X,.int .i64 Z,.slice At m c]] W (L_ (FM l t) W)):=EP λW hW=>by
      have h:=Hz.apply (c:=ck) im.o st HK.o qA.o r1 xk.o (jI.o W hW);rwa [ej.o]at h
     have C3:Hid (∀W p,Below wr.heap.size wr W->I9 W (FM l t) p->Calls prog 22 #[p,.agg #[.int .i64 K,.string X,.int .i64 Z,.slice At m c]] W λe w'=>e=.returned (.bool true)/\Below W.heap.size W w'):=EP λW p hW hp =>
      R6 hp (r1.below (jI.o W hW)) (MV im.o st) st.1 (by omega) e1
     have C4:Hid (∀W,Below wr.heap.size wr W->Calls prog 23 #[.agg #[.int .i64 K,.string X,.int .i64 Z,.slice At m c]] W λe w'=>e=.returned (.bool false)/\Below W.heap.size W w'):=EP λW hW=>by
      have h:=Vo t _ _ W (by omega) (r1.below (jI.o W hW)) (λ_ h=>h);rwa [cL]at h
     have SO4:Hid (∀W,Below wr.heap.size wr W->(λW=>W.cell? ⟨g,j*5+1,none⟩=some (.int .i64 K)/\W.cell? ⟨g,j*5+1+1,none⟩=some (.string X)/\W.cell? ⟨g,j*5+1+2,none⟩=some (.int .i64 Z)/\W.cell? ⟨g,j*5+1+3,none⟩=some (.slice At m c)) W):=EP λW h=>by
      obtain⟨-,q1,q2,q3,q4⟩:=HQ.o W (jI.o W h);exact⟨q1,q2,q3,q4⟩
     have MT:Hid (∀W,Below wr.heap.size wr W->W.cell? ⟨g,j*5,none⟩=some (.int .i64 (n:Nat))):=EP λW h=>(HQ.o W (jI.o W h)).1;have MP:Hid (∀i,j=i+1->∃n0:Nat,n0<n/\∀W,Below wr.heap.size wr W->W.cell? ⟨g,i*5,none⟩=some (.int .i64 (n0:Nat))):=EP λi hi=>by
      obtain⟨⟨n0,t0⟩,wB⟩:∃p,l[i]?=some p:=⟨_,BY (by rw[ej.o];omega)⟩;obtain⟨g0,_,_,_,_,_,_,e0,_,_,q0⟩:=HK.o.XK qA.o wB;injection e0 with e0;injection e0 with e0 _ _;subst e0;refine⟨n0,?_,λW h=>(q0 W (jI.o W h)).1⟩;have oi:=tb.o.up;rw[List.pairwise_iff_getElem]at oi
      obtain⟨cf,e1⟩:=Cj.1 wB;obtain⟨mR,e2⟩:=Cj.1 hp;have h:=oi i j (by rw[CE];exact cf) (by rw[CE];exact mR) (by omega);rw[D6,D6,e1,e2]at h;exact h
     have B0:Hid (Below wr.heap.size wr wr.drew):=EP (Cc _ wr).drew;have iQ:=EP dA.o;obtain⟨T1,gA⟩:∃T,FM l t=T:=⟨_,rfl⟩;rw[gA]at C1 C3;clear hp r1 q dH st e1 e2 cL aA dA gA jI hg HQ;go_wp2_with fail;go_region_held3 (λW=>W.cell? ⟨g,j*5+1,none⟩=some (.int .i64 K)/\W.cell? ⟨g,j*5+1+1,none⟩=some (.string X)/\W.cell? ⟨g,j*5+1+2,none⟩=some (.int .i64 Z)/\W.cell? ⟨g,j*5+1+3,none⟩=some (.slice At m c)) (first|(with_reducible exact SO4.o _ B0.o))
      ((first
       |((with_reducible refine(C1.o _ B0.o).mono ?_);rintro e w9 ⟨k1,x1,z1,a1,m1,q1,rfl,cV,b9⟩;have R1:=EP cV;replace B0:=EP (FZ B0.o b9);clear cV b9)
       |((with_reducible refine(C3.o _ _ B0.o R1.o).mono ?_);rintro e w9 ⟨rfl,b9⟩;replace B0:=EP (FZ B0.o b9);clear b9 R1)))
     all_goals
      obtain⟨z0,z1,z2,z3⟩:=SO4.o _ B0.o;go_wp2_with fail;refine(C4.o _ B0.o).mono ?_;rintro e Td ⟨rfl,b11⟩;replace B0:=EP (FZ B0.o b11);clear b11 z0 z1 z2 z3;go_upto_region 19 with fail
      rcases j with _|j
      ·go_quiet (fail)
       go_wp2_with fail;go_roundg (NK-(0+1))
       case measure=>omega
       case rel=>exact⟨0+1,rfl,by go_num,by omega,EP (FZ iQ.o (B0.o.trans ⟨rfl,rfl,rfl,BU _,λ_ _=>rfl⟩))⟩
      ·obtain⟨n0,fy,eL⟩:=MP.o j rfl
       have y0:=eL _ B0.o;have y1:=MT.o _ B0.o;have wH:(((j+1:Nat)):Int)-1=((j:Nat):Int):=by omega
       have hgt:¬((n:Nat):Int)<=((n0:Nat):Int):=by omega
       clear eL;go_quiet (fail);go_wp2_with fail;go_roundg (NK-(j+1+1))
       case measure=>omega
       case rel=>exact⟨j+1+1,rfl,by go_num,by omega,EP (FZ iQ.o (B0.o.trans ⟨rfl,rfl,rfl,BU _,λ_ _=>rfl⟩))⟩
    ·have Xc:j=NK:=by omega
     subst Xc;have iQ:=EP dA.o;clear dA;go_wp2_with fail;go_ret
     exact⟨rfl,B5.o.trans (iQ.o.mono B5.o.size)⟩
theorem lifted(os:Os)(started:os.Started)(H:Type)(enc:TypeId × Value->H):ReturnsInHanded {} Tryz.checked os 5 .any (λw args=>(Rows.unifySolvesSpec.pre enc prog Tryz.f5 Rows.unifySolvesRow.domain false w args/\laidMetH prog E6 w)/\sizedMet enc prog Tryz.f5 (OpenSpec.ofChange Rows.unifySolvesSpec) false w args)
   (Rows.unifySolvesSpec.post enc prog Tryz.f5 false true false false):=by
 refine returnsInHanded_of_change_and (C:=Tryz.checked) (X:=λw _=>laidMetH prog E6 w) (λ_ _ _ hh h=>h.of_heap hh) OQ started (by kernel_rfl) func5
  (ChangeSpec.witness_shaped (enc:=enc) (C:=Tryz.checked) (os:=os) (X:=λw _=>laidMetH prog E6 w) false (World.laidAll prog os E6) #[.slice none 0 0] 8 (World.laidAll_os _ _ _)
   (Wg os) (by kernel_rfl) (by kernel_rfl) (by kernel_rfl)
   (VQ os _)) ?_
 intro W base args ds gs before ff hW hc _ hL _;have fq:∀(j:Nat) t v,Tryz.f5.params[j]?=some t->args[j]?=some v->Value.okWide prog W .any base t v:=ff;have nL:=hW;obtain⟨p,q,s4,hV,rfl,_,_⟩:=hW;have hA:DataW.TrodAll enc prog W 0 (λ_=>true) true Tryz.f5.params.toList args.toList ds p:=s4;rw[params5]at hA fq;obtain⟨v0,vs0,d0,ds0,p0,q0,oW,rfl,rfl,h0,r0⟩:=trodAll_cons hA;obtain⟨rfl,rfl,rfl⟩:=trodAll_nil r0;obtain rfl:args=#[v0]:=by cases args;simp_all
 obtain⟨rfl,rfl⟩:=trodVars_none hV;obtain⟨A9,nv,cv,rfl⟩:=okWide_slice QZ (fq 0 22 v0 rfl rfl);obtain⟨ls,rfl,bD,aA,sB⟩:=SD h0;clear s4 ff;simp only[CJ]at nL;have af:∀x∈p0,x.block<W.heap.size:=λx hx=>by simpa using nL.lt x (by simpa using hx)
 refine(walk ls A9 cv W (Wk hL) bD aA).mono λe W' ⟨he,hg⟩=>?_;subst he;have ha:=(trodAll_cons_mk (Below.trod RL (by kernel_rfl) (DB (by kernel_rfl)) h0 hg af) trodAll_mk0);simp only[CJ]at ha;exact⟨_,rfl,_,_,_,[],p0,[],nL,trodAll_cons_mk (shut_bool underlying4 _) trodAll_mk0,ha,rfl,hg.frame _,λh=>by cases h⟩
theorem over:Rows.unifySolvesRow.holds Tryz.pinned (OpenSpec.ofChange Rows.unifySolvesSpec) :=
 OpenClaim.holds_of_wide 5 Tryz.f5 rfl rfl rfl rfl rfl rfl rfl ⟨rfl,rfl,rfl,rfl,rfl⟩ rfl rfl rfl rfl rfl (by kernel_rfl) func5 (by kernel_rfl)
  (DB (by kernel_rfl)) (by unfold Func.isWrapper;first|(rw[Ch (by decide +kernel)];kernel_rfl)|(rw[Cg (by decide +kernel)];exact⟨rfl,rfl⟩))
  (λos started H enc _=>lifted os started H enc)
theorem proved:Rows.UnifySolvesCardSaid :=
 Claim7.holds_tied_plain_at .later [] [.data,.data,.data,.sentinel,.sentinel] true _ true
  over (λ_ h=>by cases h) (by kernel_rfl) (λ_ h=>by cases h) unifySolves_row_tie rfl ⟨rfl,rfl⟩ (by kernel_rfl) rfl
  (λf fn hf fC=>by
   obtain rfl:f=5:=Dz ((show prog.funcNamed "savant/savantlaw04.UnifySolves" = some 5 by kernel_rfl).symm.trans hf) |>.symm;obtain rfl:fn=Tryz.f5:=(Dz (func5.symm.trans fC)).symm;exact⟨by kernel_rfl,λj t ht=>by
    rw[params5]at ht;have hm:t∈[22]:=by
     simpa using Array.mem_of_getElem? ht
    have aK:([22].all λu=>!prog.wantsStandIn u)=true:=by kernel_rfl
    exact(show prog.wantsStandIn t=false by simpa using Eo.1 aK t hm)⟩)
  (by kernel_rfl)
#print axioms proved
end Go.Proofs.YtfafilmklhnngaaGreatDoor.Kz
