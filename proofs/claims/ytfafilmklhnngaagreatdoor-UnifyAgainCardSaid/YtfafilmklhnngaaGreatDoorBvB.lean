import Derived.Test.YtfafilmklhnngaaGreatDoorBvA
import Derived.Test.YtfafilmklhnngaaGreatDoorBsAQ
import Derived.Test.YtfafilmklhnngaaGreatDoorBsAI
import Derived.Test.YtfafilmklhnngaaGreatDoorCards
import Derived.Test.YtfafilmklhnngaaGreatDoorTie
import Derived.SevenTiedAt
import Derived.Deep.Cut
import Derived.Deep.CutRange
set_option maxHeartbeats 12800000
set_option maxRecDepth 100000
namespace Go.Proofs.YtfafilmklhnngaaGreatDoor.unifyAgain
open Go.Proofs.Tryz
open Go.ChangeShapes Go.WideShapes Go.ChangeAt Go.RowKit Lx Tx Go.Shelf
open Go.ChangeMaps (open_string shut_string)
def zrR(S:Nat->Prop)(B:Nat)(l:List (Nat × Ty))(w5:World)(NK gg:Nat)(v9 v10:Value)(wr:World):Prop :=
 ∃i,gg=NK-i/\v10=.int .i64 (i:Nat)/\i<=NK/\Kb S B wr (eqsOf (l.take i)) v9/\Below B w5 wr
theorem walk(ls:List (ByteArray × ByteArray))(A0:Option Addr)(c0:Nat)(w:World)(ht:FO w)(hl:Gb w ls A0)(hs:∀p∈ls,p.1.size<=maxLen/\p.2.size<=maxLen):Calls prog 8 #[.slice A0 ls.length c0] w λe w'=>e=.returned (.bool true)/\Below w.heap.size w w':=by
 obtain⟨n0,fy⟩:∃n,ls.length=n:=⟨_,rfl⟩;have tu:=EP (Vf w ht);have cg:=EP (λ(W:World) (hW:Below w.heap.size w W)=>Qo ls A0 c0 W (Wh hl hW) hs);rw[fy]at cg ⊢;have HT:=EP ht;clear ht hl hs fy;go_in;go_wp2_with fail;refine tu.o.mono ?_;rintro e wa ⟨rfl,ba⟩;have BA:=EP ba;clear ba tu;go_wp2_with fail;refine(cg.o _ BA.o).mono ?_;rintro e w1 ⟨b1,⟨h0,rfl⟩|⟨ts,v1,v2,S,jZ,rfl,hE⟩⟩
 ·go_wp2_with fail
  go_ret
  exact⟨rfl,BA.o.trans (b1.mono BA.o.size)⟩
 obtain⟨A,c1,rfl⟩:=hE.shape;have na:=SJ jZ;obtain⟨N,hN⟩:∃n,ts.length=n:=⟨_,rfl⟩;have B1:Hid (Below w.heap.size w w1):=EP (BA.o.trans (b1.mono BA.o.size));have nz:Hid (∀g,S g->g<w1.heap.size):=EP (by
  obtain⟨_,_,_,_,_,_,h5⟩:=hE;exact λg hg=>(h5 g hg).2.1)
 obtain⟨BrQ9,Bc⟩:∃B,Hid (Kb S B w1 ts (.slice A ts.length c1)):=by
  obtain⟨gW,lD,h1,h2,-⟩:=hE;exact⟨_,EP ⟨gW,h1,h2⟩⟩
 have fR:=zjJ hE na.ok na.len;rw[hN]at fR Bc;have kZ:=EP fR;have jV:=EP na;have HN:=EP hN;have hN8:N<=8:=by rw[<-hN];exact na.len
 have AS:Hid (∀W,Below w1.heap.size w1 W->FO W):=EP λW hW=>HT.o.below (FZ B1.o hW);obtain⟨i0,bK,cj,bS,bC⟩:=Dx znG;rw[hN]
 clear hE jZ na b1 BA cg hN fR;go_wp2_with fail;refine kZ.o.mono ?_;rintro e w5 ⟨f,o,hf,aQ,⟨m,rfl,hm,rfl⟩|⟨k,v,l,T,rfl,rfl,hK,hT,wS⟩⟩
 ·have lN:=zkR f _ _ m hf
  have B5:Hid (Below w.heap.size w w5):=EP (FZ B1.o aQ);clear aQ hf hm kZ;rcases lN with rfl|rfl|rfl|rfl;all_goals
   go_wp2_with fail;go_ret
   exact⟨rfl,B5.o⟩
 obtain⟨Ak,ck,rfl⟩:=hK.shape;have qu:=zp9 jV.o hf hT;have YS:=EP aQ;have rY:=EP hK;have HK:=EP hK.Wy;have qA:Hid (∀g,T g->g<w5.heap.size):=EP λg hg=>(wS g hg).2;obtain⟨NK,mY⟩:∃n,l.length=n:=⟨_,rfl⟩;have Ah:NK<=24:=by rw[<-mY];exact qu.len
 have im:=EP qu;have HF:=EP hf;have tb:=EP hT;have ej:=EP mY;rw[mY]at rY ⊢;clear aQ hK qu hf hT mY wS kZ;go_wp2_with fail;go_loopg [9,10] NK (λgg v9 v10 wr=>zrR T w5.heap.size l w5 NK gg v9 v10 wr)
 case atStart=>exact⟨0,rfl,rfl,Cw _,Kb.nil _ _ _,Cc _ _⟩
 case round =>
  obtain⟨i,rfl,rfl,hi,aE,bG⟩:=hrel;by_cases af:i<NK
  ·obtain⟨⟨n,t⟩,hp⟩:∃p,l[i]?=some p:=⟨_,BY (by rw[ej.o];exact af)⟩
   obtain⟨g,At,ct,rfl,hg,bz,x0,x1,x2,x3,x4⟩:=HK.o i n t hp;have hc:∀j v,w5.cell? ⟨g,j,none⟩=some v->wr.cell? ⟨g,j,none⟩=some v:=λj v h=>(bG.cell (p:=⟨g,j,none⟩) hg).trans h;have d0:=hc _ _ x0;have d1:wr.cell? ⟨g,i*5+1,none⟩=some (.int .i64 (kd t:Nat)):=hc _ _ x1;have d2:wr.cell? ⟨g,i*5+1+1,none⟩=some (.string (ER t)):=hc _ _ x2;have d3:wr.cell? ⟨g,i*5+1+2,none⟩=some (.int .i64 (nn t:Nat)):=hc _ _ x3;have d4:wr.cell? ⟨g,i*5+1+3,none⟩=some (.slice At (kids t).length ct):=hc _ _ x4;have gG:Hid (j_ T wr t At):=EP (bz.al (λ_ h=>h) (λk hk=>bG.block k (qA.o k hk)));have eF:Hid (eqsOf (l.take (i+1))=eqsOf (l.take i)++[(.mt n,t)]):=EP (eqsOf_take hp);have bw:(eqsOf (l.take i)).length=i:=by rw[eqsOf_len,DH,ej.o];omega
   obtain⟨gW,o1,k1⟩:=aE;obtain⟨A3,c3,rfl⟩:=GS o1;rw[bw]at o1 ⊢;have HLK:=EP bw;have O1:=EP o1;have YB:=EP k1;have az:=EP (World.ownsRow.alloc (w:=wr.drew) o1 (.cells #[.int .i64 2,.string ⟨#[]⟩,.int .i64 (n:Nat),.slice none 0 0,.int .i64 (kd t:Nat),.string (ER t),.int .i64 (nn t:Nat),.slice At (kids t).length ct] 52));have dJ:Hid (∀j v,[Value.int .i64 2,.string ⟨#[]⟩,.int .i64 (n:Nat),.slice none 0 0,.int .i64 (kd t:Nat),.string (ER t),.int .i64 (nn t:Nat),.slice At (kids t).length ct][j]?=some v->(wr.drew.alloc (.cells #[.int .i64 2,.string ⟨#[]⟩,.int .i64 (n:Nat),.slice none 0 0,.int .i64 (kd t:Nat),.string (ER t),.int .i64 (nn t:Nat),.slice At (kids t).length ct] 52)).cell? ((⟨wr.heap.size,0,none⟩:Addr).add j)=some v):=EP (World.news_of_block (BZ wr.drew _));have iN:Hid (w5.heap.size<=wr.heap.size):=EP bG.size;have gV:=EP bG;clear hp hg x0 x1 x2 x3 x4 bz hc bw o1 k1 bG;go_upto_region 12 with fail
   go_region_law (refine step_append_lies _ (by rfl) _ _ _ (by rfl) w5.heap.size 52 i0 _ 8 112 underlying24 bK cj bS bC rfl (by decide) _ i gW (by rfl) az.o ⟨wr.heap.size,0,none⟩ 1 1 [.int .i64 2,.string ⟨#[]⟩,.int .i64 (n:Nat),.slice none 0 0,.int .i64 (kd t:Nat),.string (ER t),.int .i64 (nn t:Nat),.slice At (kids t).length ct] rfl rfl dJ.o (by intro v hv;simp at hv;rcases hv with rfl|rfl|rfl|rfl|rfl|rfl|rfl|rfl <;> rfl) (by omega) (by unfold maxLen;omega) (by omega) (by have:=iN.o;simp;omega) _ rfl ?_;intro g9 c9 w9 dm ae bz uq;have rR:=EP dm;have nD:=EP ae;clear dm ae bz)
   all_goals
    go_wp2_with fail;go_roundg (NK-(i+1))
    case measure=>omega
    case rel =>
     obtain⟨h1,h2⟩:=zn8 (t:=.mt n) (At:=none) (ct:=0) qA.o iN.o (by rw[HLK.o];exact O1.o) YB.o (by rw[j_];trivial) gG.o nD.o (by rw[HLK.o];exact rR.o);exact⟨i+1,rfl,by go_num,by omega,by rw[eF.o];exact h1,gV.o.trans h2⟩
  ·have wI:i=NK:=by omega
   subst wI;have ft:l.take i=l:=Cq (by rw[ej.o];exact BU _);rw[ft]at aE;obtain⟨Ab,cb,rfl⟩:=aE.shape;have HEQ:=EP aE.Jv;have hle:(eqsOf l).length=i:=by rw[eqsOf_len];exact ej.o
   rw[hle]at aE ⊢;have vJ:=EP hle;have gV:=EP bG;have pL:=EP aE;have jl:Below w1.heap.size w1 wr:=FZ YS.o bG;have Ul:=EP (Bc.o.below nz.o jl);have fm:=EP jl;have rJ:Hid (∀g,S g\/T g->g<wr.heap.size):=EP λg hg=>hg.elim (λh=>Ci (nz.o g h) jl.size) (λh=>Ci (qA.o g h) bG.size);have HTr:Hid (∀g,T g->g<wr.heap.size):=EP λg hg=>rJ.o g (.inr hg);clear ft aE bG hle jl af hi;obtain⟨vsA,oAQ9,kAQ9⟩:=Ul.o;obtain⟨vsB,oBQ9,kBQ9⟩:=pL.o;rw[HN.o]at oAQ9
   rw[vJ.o]at oBQ9;have HEMP:=EP (owns_empty8 (base:=wr.heap.size) (BZ wr (.cells #[] 52)) (BU _));have HA0:=EP (World.ownsRow.alloc oAQ9 (.cells #[] 52));have cK:=EP oBQ9;have HKA:=EP kAQ9;have HKB:=EP kBQ9;have HOA:=EP (one_tyRow _ _ kAQ9);have HOB:=EP (one_tyRow _ _ kBQ9);have xn:Hid (wr.heap.size<=(wr.alloc (.cells #[] 52)).heap.size):=EP (by simp);have qB:Hid (Below wr.heap.size wr (wr.alloc (.cells #[] 52))):=EP ((Cc _ wr).alloc (BU _) _);obtain⟨TXQ9,hTX⟩:∃X:ByteArray,(⟨(dec 0++JE l).toArray⟩:ByteArray)=X:=⟨_,rfl⟩;have HTX:=EP hTX;have HTELL:Hid (∀W,Below w5.heap.size w5 W->Calls prog 24 #[.slice Ak i ck,.int .i64 0] W λe w'=>e=.returned (.string TXQ9)/\Below W.heap.size W w'):=EP λW hW=>by
    have h:=zpJ 0 l T _ _ W (AS.o W (FZ YS.o hW)) (rY.o.below qA.o hW) (λg hg=>Ci (qA.o g hg) hW.size) im.o.tell (by omega);rw[HTX.o]at h;exact h
   clear oAQ9 oBQ9 kAQ9 kBQ9 hTX Ul pL rY;go_wp2_with (at_builtin;first|(refine wpList_append_src rfl (.tmp 57) (.tmp 58) 24 rfl wr.heap.size BrQ9 52 i0 _ 8 112 underlying24 bK cj bS bC rfl (by decide) _ _ 0 N [] vsA rfl rfl HEMP.o HA0.o HOA.o (by unfold maxLen;omega) (by omega) xn.o ?_;intro A6Q9 c6 w6 dF jz;simp only[Dm,Cu]at dF ⊢;have YN:Hid (Below wr.heap.size wr w6):=EP (qB.o.trans jz);have pQ:=EP dF;have bc:=EP (FN cK.o YN.o);have dO:Hid (wr.heap.size<=w6.heap.size):=EP YN.o.size;clear dF jz)|(refine wpList_append_src rfl (.tmp 59) (.tmp 60) 24 rfl wr.heap.size w5.heap.size 52 i0 _ 8 112 underlying24 bK cj bS bC rfl (by decide) _ _ N i vsA vsB rfl rfl pQ.o bc.o HOB.o (by unfold maxLen;omega) (by omega) dO.o ?_;intro A7 c7 w7 oC fk;have HB7:Hid (Below wr.heap.size wr w7):=EP (YN.o.trans fk);have HO7:=EP oC;clear oC fk));have hlen:(ts++eqsOf l).length=N+i:=by rw[Cb,HN.o,vJ.o]
   have aE:=rowE_app (fs.al (λ_ h=>h) (λg hg=>HB7.o.block g (rJ.o g (.inl hg))) _ _ HKA.o) (fs.al (λ_ h=>h) (λg hg=>HB7.o.block g (HTr.o g hg)) _ _ HKB.o) hlen HO7.o;have fR:=uc_again (c:=c7) jV.o.ok jV.o.len im.o aE.Jv (λg hg=>Ci (rJ.o g hg) HB7.o.size) hlen;have AQ:=EP fR;clear hlen aE fR HO7 pQ bc HA0 HEMP;refine AQ.o.mono ?_;rintro e w8 ⟨f',o',nI,jb,⟨m,rfl,hm,rfl⟩|⟨k',v',l',T',rfl,rfl,gB,nM,hTb'⟩⟩
   ·exfalso
    have:=unF_again HF.o tb.o nI;cases this
   have ig:=unF_again HF.o tb.o nI;injection ig with ig;subst ig;have yW:=nM.uniq tb.o;subst yW;obtain⟨A8,c8,rfl⟩:=gB.shape;rw[ej.o]at gB ⊢
   have BW8:Hid (Below w5.heap.size w5 w8):=EP (FZ (FZ gV.o HB7.o) jb);have eT:=EP gB;have HKT:Hid (∀g,T' g->g<w8.heap.size):=EP λg hg=>(hTb' g hg).2;have HTELM:Hid (∀W,Below w8.heap.size w8 W->Calls prog 24 #[.slice A8 i c8,.int .i64 0] W λe w'=>e=.returned (.string TXQ9)/\Below W.heap.size W w'):=EP λW hW=>by
    have h:=zpJ 0 l' T' _ _ W (AS.o W (FZ YS.o (FZ BW8.o hW))) (eT.o.below HKT.o hW) (λg hg=>Ci (HKT.o g hg) hW.size) im.o.tell (by omega);rw[HTX.o]at h;exact h
   have HB8:Hid (Below wr.heap.size wr w8):=EP (FZ HB7.o jb);clear jb nI nM hTb' gB AQ;go_wp2_with fail;refine(HTELL.o _ BW8.o).mono ?_;rintro e w9 ⟨rfl,cM⟩;have B89:=EP cM;clear cM;go_wp2_with fail;refine(HTELM.o _ B89.o).mono ?_;rintro e w10 ⟨rfl,hb10⟩;have BW10:Hid (Below wr.heap.size wr w10):=EP (FZ (FZ HB8.o B89.o) hb10);have wv:=uc_again (ts:=[]) (m:=i) (c:=cb) (λ_ _ h=>by cases h) (by simp) im.o (HEQ.o.below HTr.o BW10.o) (λg hg=>Ci (HTr.o g hg) BW10.o.size) vJ.o;have HUB:=EP wv;clear hb10 wv;go_wp2_with fail;refine HUB.o.mono ?_;rintro e Td ⟨f2,o2,TC,hb11,lU⟩;obtain⟨k2,bZ,iJ⟩:=unF_alone HF.o tb.o TC;rcases lU with⟨m,e1,-⟩|⟨k3,v3,l3,T3,e1,rfl,hK3,mX,-⟩
   ·rw[bZ]at e1;cases e1
   rw[bZ]at e1;injection e1 with e1;subst e1;obtain⟨A3,c3,rfl⟩:=hK3.shape;have iH:=iJ l3 mX;rw[ej.o]at iH
   have HB11:=EP (FZ B1.o (FZ fm.o (FZ BW10.o hb11)));rw[iH];clear bZ iJ hK3 mX iH hb11 TC HUB;go_wp2_with fail;go_ret
   exact⟨rfl,HB11.o⟩
theorem lifted(os:Os)(started:os.Started)(H:Type)(enc:TypeId × Value->H):ReturnsInHanded {} Tryz.checked os 8 .any (λw args=>(Rows.unifyAgainSpec.pre enc prog Tryz.f8 Rows.unifyAgainRow.domain false w args/\laidMetH prog E6 w)/\sizedMet enc prog Tryz.f8 (OpenSpec.ofChange Rows.unifyAgainSpec) false w args)
   (Rows.unifyAgainSpec.post enc prog Tryz.f8 false true false false):=by
 refine returnsInHanded_of_change_and (C:=Tryz.checked) (X:=λw _=>laidMetH prog E6 w) (λ_ _ _ hh h=>h.of_heap hh) OQ started (by kernel_rfl) func8
  (ChangeSpec.witness_shaped (enc:=enc) (C:=Tryz.checked) (os:=os) (X:=λw _=>laidMetH prog E6 w) false (World.laidAll prog os E6) #[.slice none 0 0] 8 (World.laidAll_os _ _ _)
   (Wg os) (by kernel_rfl) (by kernel_rfl) (by kernel_rfl)
   (VQ os _)) ?_
 intro W base args ds gs before ff hW hc _ hL _;have fq:∀(j:Nat) t v,Tryz.f8.params[j]?=some t->args[j]?=some v->Value.okWide prog W .any base t v:=ff;have nL:=hW;obtain⟨p,q,s4,hV,rfl,_,_⟩:=hW;have hA:DataW.TrodAll enc prog W 0 (λ_=>true) true Tryz.f8.params.toList args.toList ds p:=s4;rw[params8]at hA fq;obtain⟨v0,vs0,d0,ds0,p0,q0,oW,rfl,rfl,h0,r0⟩:=trodAll_cons hA;obtain⟨rfl,rfl,rfl⟩:=trodAll_nil r0;obtain rfl:args=#[v0]:=by cases args;simp_all
 obtain⟨rfl,rfl⟩:=trodVars_none hV;obtain⟨A9,nv,cv,rfl⟩:=okWide_slice QZ (fq 0 22 v0 rfl rfl);obtain⟨ls,rfl,bD,aA,sB⟩:=SD h0;clear s4 ff;simp only[CJ]at nL;have af:∀x∈p0,x.block<W.heap.size:=λx hx=>by simpa using nL.lt x (by simpa using hx)
 refine(walk ls A9 cv W (Wk hL) bD aA).mono λe W' ⟨he,hg⟩=>?_;subst he;have ha:=(trodAll_cons_mk (Below.trod RL (by kernel_rfl) (DB (by kernel_rfl)) h0 hg af) trodAll_mk0);simp only[CJ]at ha;exact⟨_,rfl,_,_,_,[],p0,[],nL,trodAll_cons_mk (shut_bool underlying4 _) trodAll_mk0,ha,rfl,hg.frame _,λh=>by cases h⟩
theorem over:Rows.unifyAgainRow.holds Tryz.pinned (OpenSpec.ofChange Rows.unifyAgainSpec) :=
 OpenClaim.holds_of_wide 8 Tryz.f8 rfl rfl rfl rfl rfl rfl rfl ⟨rfl,rfl,rfl,rfl,rfl⟩ rfl rfl rfl rfl rfl (by kernel_rfl) func8 (by kernel_rfl)
  (DB (by kernel_rfl)) (by unfold Func.isWrapper;first|(rw[Ch (by decide +kernel)];kernel_rfl)|(rw[Cg (by decide +kernel)];exact⟨rfl,rfl⟩))
  (λos started H enc _=>lifted os started H enc)
theorem proved:Rows.UnifyAgainCardSaid :=
 Claim7.holds_tied_plain_at .later [] [.data,.data,.data,.sentinel,.sentinel] true _ true
  over (λ_ h=>by cases h) (by kernel_rfl) (λ_ h=>by cases h) unifyAgain_row_tie rfl ⟨rfl,rfl⟩ (by kernel_rfl) rfl
  (λf fn hf fC=>by
   obtain rfl:f=8:=Dz ((show prog.funcNamed "savant/savantlaw04.UnifyAgain" = some 8 by kernel_rfl).symm.trans hf) |>.symm;obtain rfl:fn=Tryz.f8:=(Dz (func8.symm.trans fC)).symm;exact⟨by kernel_rfl,λj t ht=>by
    rw[params8]at ht;have hm:t∈[22]:=by
     simpa using Array.mem_of_getElem? ht
    have aK:([22].all λu=>!prog.wantsStandIn u)=true:=by kernel_rfl
    exact(show prog.wantsStandIn t=false by simpa using Eo.1 aK t hm)⟩)
  (by kernel_rfl)
#print axioms proved
end Go.Proofs.YtfafilmklhnngaaGreatDoor.unifyAgain
