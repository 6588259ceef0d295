import Derived.Test.YtknkclefoiohpaaGreatDoorKaAI
import Derived.Deep.CutRange
set_option maxHeartbeats 12800000
namespace Go.Proofs.YtknkclefoiohpaaGreatDoor
open Go.RowKit Lx Tx Sx
set_option maxRecDepth 100000
def letP(P1:Option (List Tok)):Option (List Tok):=if isO 6 [58] P1=true then((nxO 6 [58] P1).bind typ).map (·.2) else P1
def letA(f:Nat)(P2:Option (List Tok)):Option (Ex × List Tok):=(nxO 6 [61] P2).bind (rdE f)
def letB(f:Nat)(P2:Option (List Tok)):Option (Ex × List Tok):=(nxO 3 wIn ((letA f P2).map (·.2))).bind (rdE f)
theorem zn1(f:Nat)(l:List Tok):(letF f l).map (·.2)=(letB f (letP (nxO 1 [] (some l)))).map (·.2) /\
  ∀x r,letF f l=some (x,r)->∃t a b ra,x=.lt (txO (some l)) t a b/\letA f (letP (nxO 1 [] (some l)))=some (a,ra)/\letB f (letP (nxO 1 [] (some l)))=some (b,r) /\
   (isO 6 [58] (nxO 1 [] (some l))=true->∃t' rt,(nxO 6 [58] (nxO 1 [] (some l))).bind typ=some (t',rt)/\t=some t')/\(isO 6 [58] (nxO 1 [] (some l))=false->t=none):=by
 have key:∀(t:Option Ty) (p:Option (List Tok)),(letO f (txO (some l)) t p).map (·.2)=(letB f p).map (·.2)/\∀x r,letO f (txO (some l)) t p=some (x,r)->∃a b ra,x=.lt (txO (some l)) t a b/\letA f p=some (a,ra)/\letB f p=some (b,r):=by
  intro t p;refine⟨zmh f _ t p,λx r h=>?_⟩;obtain⟨a,b,ra,h1,h2,h3⟩:=zkA h;exact⟨a,b,ra,h1,h2,by rw[letB,letA,h2];exact h3⟩
 rw[zpN]
 obtain⟨P1,jl⟩:∃P,nxO 1 [] (some l)=P:=⟨_,rfl⟩;rw[jl,letP]
 by_cases hq:isO 6 [58] P1=true
 ·rw[ud hq,ud hq]
  cases hT:(nxO 6 [58] P1).bind typ with
  |none=>exact⟨rfl,λx r h=>by cases h⟩
  |some y =>
   rw[uE,uq]
   obtain⟨k1,k2⟩:=key (some y.1) (some y.2);refine⟨k1,λx r h=>?_⟩;obtain⟨a,b,ra,h1,h2,h3⟩:=k2 x r h;exact⟨_,a,b,ra,h1,h2,h3,λ_=>⟨y.1,y.2,rfl,rfl⟩,λh=>by rw[hq]at h;cases h⟩
 ·rw[ue hq,ue hq]
  obtain⟨k1,k2⟩:=key none P1;refine⟨k1,λx r h=>?_⟩;obtain⟨a,b,ra,h1,h2,h3⟩:=k2 x r h;exact⟨_,a,b,ra,h1,h2,h3,λh=>absurd h hq,λ_=>rfl⟩
theorem zn2(f:Nat)(l:List Tok)(h:isO 3 wLet (some l)=true):rdE (f+2) l=letF f l.tail:=by
 have h3:isHd l 3 wLet=true:=by rw[<-zba _ _ (by decide)];exact h
 have h6:¬isHd l 6 [92]=true:=by
  intro h';simp only[isHd,vV,wE]at h3 h';omega
 rw[zcE,ue h6,ud h3,zhD]
structure LetM (ts:List Tok) (w:World) (ge:Nat) (X:ByteArray) (P1:Option (List Tok)) (q:Bool) (zk:Int) (K:Int) (S:ByteArray) (Z:Int) (T:Option Addr) (m c:Nat) (wx:World):Prop where
 p:PAt ts (letP P1) zk
 e:Blk wx ge 48 #[.int .i64 5,.string X,.bool q,.int .i64 K,.string S,.int .i64 Z,.slice T m c,.slice none 0 0,.slice none 0 0]
 r:Blk wx w.heap.size 48 #[.int .i64 0,.string ⟨#[]⟩,.bool false,.int .i64 0,.string ⟨#[]⟩,.int .i64 0,.slice none 0 0,.slice none 0 0,.slice none 0 0]
 b:Below w.heap.size w wx
 t1:q=true->∀t rt,(nxO 6 [58] P1).bind typ=some (t,rt)->TyL (λg=>ge<g/\g<wx.heap.size) wx (some t) [.int .i64 K,.string S,.int .i64 Z,.slice T m c]
 t0:q=false->TyL (λg=>ge<g/\g<wx.heap.size) wx none [.int .i64 K,.string S,.int .i64 Z,.slice T m c]
theorem LetM.below {ts:List Tok} {w:World} {ge:Nat} {X:ByteArray} {P1:Option (List Tok)} {q:Bool} {zk K:Int} {S:ByteArray} {Z:Int} {T:Option Addr} {m c:Nat} {wx wy:World}(h:LetM ts w ge X P1 q zk K S Z T m c wx)(hb:Below wx.heap.size wx wy):LetM ts w ge X P1 q zk K S Z T m c wy :=
 ⟨h.p,h.e.below hb h.e.lt,h.r.below hb h.r.lt,h.b.trans (hb.mono h.b.size),λhq t rt ht=>(h.t1 hq t rt ht).keep (λg hg=>⟨hg.1,by have:=hb.size;omega⟩) (λg hg=>hb.block g hg.2),λhq=>(h.t0 hq).keep (λg hg=>⟨hg.1,by have:=hb.size;omega⟩) (λg hg=>hb.block g hg.2)⟩
theorem zh6(f:Nat)(ts:List Tok)(v:Value)(hG:AllG ts)(hn:ts.length<=100000)(IH:Rd8 ts v (f+1))(w:World)(i:Nat)(hv:RdT w v ts)(hq:isO 3 wLet (some (ts.drop i))=true)(hf:3*(ts.drop i).length+3<=f+2):Calls Tryz.prog 44 #[v,.int .i64 (i:Nat)] w (XP8 ts w (rdE (f+2) (ts.drop i))):=by
 have ah:=zch (by decide) hq;have fI:PAt ts (some (ts.drop i)) (i:Nat):=PAt.some_ ts i (by omega);obtain⟨fV,-,-⟩:=zbd (by decide) fI hq;have e1:nxO 3 wLet (some (ts.drop i))=some (ts.drop i).tail:=by rw[nxO,hq,ud rfl];rfl
 rw[e1]at fV
 have ft:(ts.drop i).tail.length+1=(ts.drop i).length:=by
  obtain⟨l,h1,h2,h3,-⟩:=za1 (by decide) e1;injection h1 with h1;subst h1;omega
 have ku:isO 6 [92] (some (ts.drop i))=false:=by
  rw[uY]
  intro h';rw[zba _ _ (by decide)]at hq h'
  simp only[isHd,vV,wE]at hq h';omega
 have eE:Hid (∀W,Below w.heap.size w W->Calls Tryz.prog 34 #[v,.int .i64 (i:Nat),.int .i64 6,.string ⟨#[92]⟩] W λe w'=>e=.returned (.bool false)/\W=w'):=wJ λW hb=>by
  have:=zaY v ts _ _ 6 ⟨#[92]⟩ 6 rfl (by decide) W (hv.below hb) fI;rwa [show(⟨#[92]⟩:ByteArray).data.toList=[92] from rfl,ku]at this
 have js:Hid (∀W,Below w.heap.size w W->Calls Tryz.prog 34 #[v,.int .i64 (i:Nat),.int .i64 3,.string ⟨#[108,101,116]⟩] W λe w'=>e=.returned (.bool true)/\W=w'):=wJ λW hb=>by
  have:=zaY v ts _ _ 3 ⟨#[108,101,116]⟩ 3 rfl (by decide) W (hv.below hb) fI;rwa [show(⟨#[108,101,116]⟩:ByteArray).data.toList=wLet from rfl,hq]at this
 obtain⟨O,hO⟩:∃O,rdE (f+2) (ts.drop i)=O:=⟨_,rfl⟩;rw[hO]
 rw[zn2 f _ hq]at hO
 obtain⟨iD,il⟩:=zn1 f (ts.drop i).tail;rw[hO]at iD il
 have mf:=wJ (λW (hb:Below w.heap.size w W)=>zaL v ts _ _ 1 ⟨#[]⟩ 1 rfl (by decide) W (hv.below hb) hn fV);have fY:=wJ (λW (hb:Below w.heap.size w W)=>zcN v ts _ _ W (hv.below hb) fV);obtain⟨P1,jl⟩:∃P,nxO 1 [] (some (ts.drop i).tail)=P:=⟨_,rfl⟩;obtain⟨X,hX⟩:∃X:ByteArray,⟨(txO (some (ts.drop i).tail)).toArray⟩=X:=⟨_,rfl⟩;have dQ:txO (some (ts.drop i).tail)=X.data.toList:=by rw[<-hX]
 rw[jl,dQ]at il
 rw[jl]at iD
 rw[hX]at fY
 have eJ:∀r,P1=some r->3*r.length+3<=f:=λr hr=>by
  obtain⟨l2,eY,-,h5,-⟩:=za1 (by decide) (jl.trans hr);injection eY with eY;subst eY;omega
 have rK:∀z,PAt ts P1 z->∀r,letP P1=some r->AllG r/\3*r.length+3<=f:=λz hz r hr=>by
  rw[letP]at hr
  by_cases hc:isO 6 [58] P1=true
  ·rw[ud hc]at hr
   cases hT:(nxO 6 [58] P1).bind typ with
   |none=>rw[hT]at hr;cases hr
   |some y =>
    rw[hT]at hr
    replace hr:y.2=r:=by injection hr
    subst hr;cases hN:nxO 6 [58] P1 with
    |none=>rw[hN]at hT;cases hT
    |some r1 =>
     rw[hN,uE]at hT
     obtain⟨l,hl,h2,h3,-⟩:=za1 (by decide) hN;have g1:AllG r1:=by rw[<-h2];exact AllG.tail' (hz.good hG l hl)
     obtain⟨-,g2,h4⟩:=zbC g1 hT;have:=eJ l hl;exact⟨g2,by omega⟩
  ·rw[ue hc]at hr
   exact⟨hz.good hG r hr,eJ r hr⟩
 have lF:∀z,PAt ts P1 z->∀r,nxO 6 [61] (letP P1)=some r->AllG r/\3*r.length+3<=f:=λz hz r hr=>by
  obtain⟨l,hl,h2,h3,-⟩:=za1 (by decide) hr;obtain⟨g1,h4⟩:=rK z hz l hl;exact⟨by rw[<-h2];exact AllG.tail' g1,by omega⟩
 have oq:∀z,PAt ts P1 z->∀r,nxO 3 wIn ((letA f (letP P1)).map (·.2))=some r->3*r.length+3<=f:=λz hz r hr=>by
  obtain⟨l,hl,h2,h3,-⟩:=za1 (by decide) hr;cases hA:letA f (letP P1) with
  |none=>rw[hA]at hl;cases hl
  |some y =>
   rw[hA]at hl
   replace hl:y.2=l:=by injection hl
   subst hl;rw[letA]at hA
   cases hN:nxO 6 [61] (letP P1) with
   |none=>rw[hN]at hA;cases hA
   |some r1 =>
    rw[hN,uE]at hA
    obtain⟨g1,h4⟩:=lF z hz r1 hN;have:=(zbZ f r1 y.1 y.2 g1 hA).2;omega
 have lk:=wJ jl;have nZ:=wJ iD;have kV:=wJ il;have HLA:=wJ lF;have p6:=wJ oq;have HV:=wJ hv;have bq:=wJ IH;have HG:=wJ hG;have hi9:(i:Int)<100000:=by omega
 obtain⟨W0,ai⟩:∃W,w.alloc (.cells #[.int .i64 0,.string ⟨#[]⟩,.bool false,.int .i64 0,.string ⟨#[]⟩,.int .i64 0,.slice none 0 0,.slice none 0 0,.slice none 0 0] 48)=W:=⟨_,rfl⟩;have fX:Below w.heap.size w W0:=ai▸(ua _ w).alloc (tV _) _;have eI:w.heap.size+1<=W0.heap.size/\W0.heap.size<=w.heap.size+1:=by rw[<-ai];simp
 have aa:Blk W0 w.heap.size 48 #[.int .i64 0,.string ⟨#[]⟩,.bool false,.int .i64 0,.string ⟨#[]⟩,.int .i64 0,.slice none 0 0,.slice none 0 0,.slice none 0 0]:=ai▸tW _ _;have cM:=wJ fX;have aE:=wJ aa;clear hv hq hf IH ah fI fV e1 ft jl hX dQ eJ rK lF oq hO fX aa iD il ku hG;go_enter Tryz.func44,Tryz.ntmps44
 go_wp2_with fail
 try rw[ai]
 refine(eE.out _ cM.out).mono ?_;rintro e w1 ⟨rfl,rfl⟩;clear eE ai;go_wp2_with fail
 refine(js.out _ cM.out).mono ?_;rintro e w1 ⟨rfl,rfl⟩;clear js;go_wp2_with fail
 refine(fY.out _ cM.out).mono ?_;rintro e w1 ⟨rfl,rfl⟩;clear fY;obtain⟨W1,aL⟩:∃W,W0.alloc (.cells #[.int .i64 5,.string X,.bool false,.int .i64 0,.string ⟨#[]⟩,.int .i64 0,.slice none 0 0,.slice none 0 0,.slice none 0 0] 48)=W:=⟨_,rfl⟩;have aN:Below W0.heap.size W0 W1:=aL▸(ua _ W0).alloc (tV _) _;have bj:W0.heap.size+1<=W1.heap.size/\W1.heap.size<=W0.heap.size+1:=by rw[<-aL];simp
 have sj:Blk W1 W0.heap.size 48 #[.int .i64 5,.string X,.bool false,.int .i64 0,.string ⟨#[]⟩,.int .i64 0,.slice none 0 0,.slice none 0 0,.slice none 0 0]:=aL▸tW _ _;have aJ:=wJ (cM.out.trans (aN.mono (by omega)));have dO:=wJ (aE.out.below aN (by omega));have mY:=wJ sj;have ki:=wJ aL;clear aN sj aL aE;go_upto_region 9 with fail
 rw[ki.out]
 clear ki;go_wp2_with fail
 refine(mf.out _ aJ.out).mono ?_;rintro e w1 ⟨rfl,za,rfl,dr⟩;replace dr:=(show(⟨#[]⟩:ByteArray).data.toList=[] from rfl)▸dr;rw[lk.out]at dr
 have nI:=wJ dr;have jU:=wJ (zaY v ts P1 za 6 ⟨#[58]⟩ 6 rfl (by decide) W1 (HV.out.below aJ.out) dr);have pz:=dr.lo;obtain⟨q,hq⟩:∃q,isO 6 [58] P1=q:=⟨_,rfl⟩;rw[show(⟨#[58]⟩:ByteArray).data.toList=[58] from rfl,hq]at jU
 have HQ:=wJ hq;clear dr mf hq;go_wp2_with fail
 refine jU.out.mono ?_;rintro e w1 ⟨rfl,rfl⟩;clear jU;obtain⟨W2,bL⟩:∃W,W1.setCell ⟨W0.heap.size,2,none⟩ (.bool q)=W:=⟨_,rfl⟩;have bo:W1.heap.size<=W2.heap.size/\W2.heap.size<=W1.heap.size:=by rw[<-bL];simp
 have ij:Blk W2 W0.heap.size 48 #[.int .i64 5,.string X,.bool q,.int .i64 0,.string ⟨#[]⟩,.int .i64 0,.slice none 0 0,.slice none 0 0,.slice none 0 0]:=bL▸uk _ _ 2 _ _ _ mY.out;have ar:Hid (Below w.heap.size w W2):=wJ (bL▸aJ.out.setCell (p:=⟨W0.heap.size,2,none⟩) (by simp;omega) _);have fh:Hid (Blk W2 w.heap.size 48 #[.int .i64 0,.string ⟨#[]⟩,.bool false,.int .i64 0,.string ⟨#[]⟩,.int .i64 0,.slice none 0 0,.slice none 0 0,.slice none 0 0]):=wJ (dO.out.same (bL▸tY _ ⟨W0.heap.size,2,none⟩ _ _ (by simp;omega)));have lr:=wJ ij;have im:=wJ bL;obtain⟨⟨g0,g1,g2,g3,g4,g5,g6,g7,g8⟩,⟨z0,z1,z2,z3,z4,z5,z6,z7,z8⟩,hle⟩:=zab mY.out;clear ij bL;go_upto_region 11 with fail
 rw[im.out]
 clear im g0 g1 g2 g3 g4 g5 g6 g7 g8 z0 z1 z2 z3 z4 z5 z6 z7 z8 mY dO;obtain⟨⟨g0,g1,g2,g3,g4,g5,g6,g7,g8⟩,⟨z0,z1,z2,z3,z4,z5,z6,z7,z8⟩,hle⟩:=zab lr.out;go_upto_if 72 with fail
 go_cut [12] from 73 to 80 (λs12 wx=>∃zk K S Z T m c,s12=.int .i64 zk/\Hid (LetM ts w W0.heap.size X P1 q zk K S Z T m c wx)/\W2.heap.size<=wx.heap.size)
 case first =>
  cases q with
  |false =>
   go_wp2_with fail
   go_meet
   case rel =>
    refine⟨za,0,⟨#[]⟩,0,none,0,0,rfl,wJ ⟨?_,lr.out,fh.out,ar.out,(λh=>by cases h),(λ_=>⟨none,0,rfl,trivial⟩)⟩,tV _⟩;rw[letP,HQ.out,ue (by decide)];exact nI.out
  |true =>
   obtain⟨dP,hza0,hza1⟩:=zbd (by decide) nI.out HQ.out;have HT:=wJ (zfk v ts _ (za+1) W2 (HV.out.below ar.out) HG.out hn dP);clear dP;go_wp2_with fail
   refine HT.out.mono ?_;rintro e w3 ⟨b3,tK,tX,tZ,tA,tm,tc,zt,rfl,lz,jw⟩;have eA:=b3.size;have he3:=lr.out.below b3 (by omega);obtain⟨⟨g0,g1,g2,g3,g4,g5,g6,g7,g8⟩,⟨z0,z1,z2,z3,z4,z5,z6,z7,z8⟩,hle⟩:=zab he3;have HE3:=wJ he3;have bR:=wJ (fh.out.below b3 (by omega));have bU:=wJ (ar.out.trans (b3.mono (by omega)));have l9:=wJ lz;have nL:=wJ jw;clear he3 b3 lz jw HT;go_wp2_with fail
   go_meet
   case rel =>
    have hz:∀x:World,((((w3.setCell ⟨W0.heap.size,3,none⟩ (.int .i64 tK)).setCell ⟨W0.heap.size,4,none⟩ (.string tX)).setCell ⟨W0.heap.size,5,none⟩ (.int .i64 tZ)).setCell ⟨W0.heap.size,6,none⟩ (.slice tA tm tc))=x->x.heap.size=w3.heap.size:=λx h=>by rw[<-h];simp
    refine⟨zt,tK,tX,tZ,tA,tm,tc,rfl,wJ ⟨?_,zeo _ _ _ _ HE3.out,bR.out.same (zdm _ _ _ _ _ _ _ (by omega)),zeF bU.out _ _ _ _ (by omega),(λ_ t rt ht=>?_),(λh=>by cases h)⟩,by rw[hz _ rfl];exact eA⟩
    ·rw[letP,HQ.out,ud rfl];exact l9.out
    ·obtain⟨A',a',cd,jK⟩:=nL.out t rt ht
     injection cd with cd;have cd:=uC Array.toList cd;simp only[vH,Value.int.injEq,Value.string.injEq,Value.slice.injEq,wz,wj]at cd;obtain⟨rfl,rfl,rfl,rfl,rfl,rfl⟩:=cd;exact⟨tA,tc,rfl,Args.keep (λg hg=>⟨by omega,by rw[hz _ rfl];exact hg.2⟩) (λg hg=>zdm _ _ _ _ _ _ _ (by omega)) _ _ jK⟩
 case rest =>
  rename World=>V0;obtain⟨zk,K,S,Z,T,m,c,rfl,ky,hsv⟩:=hcut;clear g0 g1 g2 g3 g4 g5 g6 g7 g8 z0 z1 z2 z3 z4 z5 z6 z7 z8 lr fh ar;have fE:=wJ ky.out;have me:=wJ (zaL v ts (letP P1) zk 6 ⟨#[61]⟩ 6 rfl (by decide) V0 (HV.out.below ky.out.b) hn ky.out.p);clear ky;go_wp2_with fail
  refine me.out.mono ?_;rintro e w4 ⟨rfl,zq,rfl,hzq⟩;replace hzq:=(show(⟨#[61]⟩:ByteArray).data.toList=[61] from rfl)▸hzq;have hR:=bq.out f (by omega) V0 _ zq (HV.out.below fE.out.b) hzq (λr hr=>(HLA.out za nI.out r hr).2);rw[show(nxO 6 [61] (letP P1)).bind (rdE f)=letA f (letP P1) from rfl]at hR
  obtain⟨MA,hMA⟩:∃M,letA f (letP P1)=M:=⟨_,rfl⟩;rw[hMA]at hR
  have qP:=wJ hMA;have HR:=wJ hR;clear hzq hR hMA me;go_wp2_with fail
  refine HR.out.mono ?_;rintro e w5 ⟨b5,cs,ze,bA,rfl,iN,au⟩;obtain⟨ck,cx,ct,cK,cX,cZ,cB,cm,cq,aU,aR,aS,aT,aP,aQ,rfl⟩:=bA;have ee:=b5.size;obtain⟨W5,cW⟩:∃W,w5.alloc (.cells #[.int .i64 ck,.string cx,.bool ct,.int .i64 cK,.string cX,.int .i64 cZ,.slice cB cm cq,.slice aU aR aS,.slice aT aP aQ] 48)=W:=⟨_,rfl⟩;have aX:Below w5.heap.size w5 W5:=cW▸(ua _ w5).alloc (tV _) _;have rE:w5.heap.size+1<=W5.heap.size/\W5.heap.size<=w5.heap.size+1:=by rw[<-cW];simp
  have az:Blk W5 w5.heap.size 48 #[.int .i64 ck,.string cx,.bool ct,.int .i64 cK,.string cX,.int .i64 cZ,.slice cB cm cq,.slice aU aR aS,.slice aT aP aQ]:=cW▸tW _ _;have nQ:=wJ (fE.out.below (b5.trans (aX.mono ee)));have bc:=wJ az;have gB:Hid (∀y r,MA=some (y,r)->pcE.Cs (λg=>W0.heap.size<g/\g<w5.heap.size) W5 y [.int .i64 ck,.string cx,.bool ct,.int .i64 cK,.string cX,.int .i64 cZ,.slice cB cm cq,.slice aU aR aS,.slice aT aP aQ]):=wJ λy r ho=>pcE.keep (λg hg=>⟨by omega,hg.2⟩) (λg hg=>aX.block g hg.2) (au y r ho);have jS:=wJ (zaL v ts (MA.map (·.2)) ze 3 ⟨#[105,110]⟩ 3 rfl (by decide) W5 (HV.out.below nQ.out.b) hn iN);have s6:=wJ cW;clear b5 aX az iN au HR cW fE;go_upto_region 14 with fail
  rw[s6.out]
  clear s6;go_wp2_with fail
  refine jS.out.mono ?_;rintro e w6 ⟨rfl,zr,rfl,gC⟩;replace gC:PAt ts (nxO 3 wIn (MA.map (·.2))) zr:=gC;have hR:=bq.out f (by omega) W5 _ zr (HV.out.below nQ.out.b) gC (λr hr=>by rw[<-qP.out]at hr;exact p6.out za nI.out r hr);rw[<-qP.out,show(nxO 3 wIn ((letA f (letP P1)).map (·.2))).bind (rdE f)=letB f (letP P1) from rfl]at hR
  obtain⟨MB,hMB⟩:∃M,letB f (letP P1)=M:=⟨_,rfl⟩;rw[hMB]at hR
  have tu:=wJ hMB;have HR:=wJ hR;clear gC hR hMB jS;go_wp2_with fail
  refine HR.out.mono ?_;rintro e w7 ⟨b7,ds,zl,bA,rfl,dW,iU⟩;obtain⟨dk,dx,dt,dK,dX,dZ,dB,dm,dq,dp,df,dh,dj,cY,dc,rfl⟩:=bA;have hs7:=b7.size;obtain⟨W7,sE⟩:∃W,w7.alloc (.cells #[.int .i64 dk,.string dx,.bool dt,.int .i64 dK,.string dX,.int .i64 dZ,.slice dB dm dq,.slice dp df dh,.slice dj cY dc] 48)=W:=⟨_,rfl⟩;have aX:Below w7.heap.size w7 W7:=sE▸(ua _ w7).alloc (tV _) _;have hsW7:w7.heap.size+1<=W7.heap.size/\W7.heap.size<=w7.heap.size+1:=by rw[<-sE];simp
  have la:Blk W7 w7.heap.size 48 #[.int .i64 dk,.string dx,.bool dt,.int .i64 dK,.string dX,.int .i64 dZ,.slice dB dm dq,.slice dp df dh,.slice dj cY dc]:=sE▸tW _ _;have dY:Below W5.heap.size W5 W7:=b7.trans (aX.mono hs7);have mV:=wJ (nQ.out.below dY);have tH:=wJ (bc.out.below dY (by omega));have HBY:=wJ la;have HCX:Hid (∀y r,MA=some (y,r)->pcE.Cs (λg=>W0.heap.size<g/\g<w5.heap.size) W7 y [.int .i64 ck,.string cx,.bool ct,.int .i64 cK,.string cX,.int .i64 cZ,.slice cB cm cq,.slice aU aR aS,.slice aT aP aQ]):=wJ λy r ho=>pcE.keep (λ_ h=>h) (λg hg=>dY.block g (by have:=hg.2;omega)) (gB.out y r ho);have HCY:Hid (∀y r,MB=some (y,r)->pcE.Cs (λg=>W0.heap.size<g/\g<w7.heap.size) W7 y [.int .i64 dk,.string dx,.bool dt,.int .i64 dK,.string dX,.int .i64 dZ,.slice dB dm dq,.slice dp df dh,.slice dj cY dc]):=wJ λy r ho=>pcE.keep (λg hg=>⟨by omega,hg.2⟩) (λg hg=>aX.block g hg.2) (iU y r ho);have kN:=wJ dW;have HW7:=wJ sE;clear b7 aX la dY dW iU HR sE nQ bc gB;go_upto_region 15 with fail
  rw[HW7.out]
  clear HW7;obtain⟨W8,fQ⟩:∃W,(W7.setCell ⟨W0.heap.size,7,none⟩ (.slice (some ⟨W7.heap.size,0,none⟩) 2 2)).alloc (.cells #[.int .i64 ck,.string cx,.bool ct,.int .i64 cK,.string cX,.int .i64 cZ,.slice cB cm cq,.slice aU aR aS,.slice aT aP aQ,.int .i64 dk,.string dx,.bool dt,.int .i64 dK,.string dX,.int .i64 dZ,.slice dB dm dq,.slice dp df dh,.slice dj cY dc] 48)=W:=⟨_,rfl⟩;have hs8:W7.heap.size+1<=W8.heap.size/\W8.heap.size<=W7.heap.size+1:=by rw[<-fQ];simp
  have qv:∀k,k<W7.heap.size->k≠W0.heap.size->W8.heap[k]?=W7.heap[k]?:=λk h1 h2=>fQ▸(uc _ _ _ (by simp;exact h1)).trans (tY _ ⟨W0.heap.size,7,none⟩ _ k h2);have he8:Blk W8 W0.heap.size 48 #[.int .i64 5,.string X,.bool q,.int .i64 K,.string S,.int .i64 Z,.slice T m c,.slice (some ⟨W7.heap.size,0,none⟩) 2 2,.slice none 0 0]:=fQ▸Blk.alloc (uk _ _ 7 _ _ _ mV.out.e) _;have hn8:Blk W8 W7.heap.size 48 #[.int .i64 ck,.string cx,.bool ct,.int .i64 cK,.string cX,.int .i64 cZ,.slice cB cm cq,.slice aU aR aS,.slice aT aP aQ,.int .i64 dk,.string dx,.bool dt,.int .i64 dK,.string dX,.int .i64 dZ,.slice dB dm dq,.slice dp df dh,.slice dj cY dc]:=fQ▸alloc_at _ _ _ (by simp);have kU:Hid (Below w.heap.size w W8):=wJ (fQ▸(mV.out.b.setCell (p:=⟨W0.heap.size,7,none⟩) (by simp;omega) _).alloc (by simp;omega) _);have HR8:Hid (Blk W8 w.heap.size 48 #[.int .i64 0,.string ⟨#[]⟩,.bool false,.int .i64 0,.string ⟨#[]⟩,.int .i64 0,.slice none 0 0,.slice none 0 0,.slice none 0 0]):=wJ (mV.out.r.same (qv _ (by omega) (by omega)));have HCX8:Hid (∀y r,MA=some (y,r)->pcE.Cs (λg=>W0.heap.size<g/\g<w5.heap.size) W8 y [.int .i64 ck,.string cx,.bool ct,.int .i64 cK,.string cX,.int .i64 cZ,.slice cB cm cq,.slice aU aR aS,.slice aT aP aQ]):=wJ λy r ho=>pcE.keep (λ_ h=>h) (λg hg=>qv g (by have:=hg.2;omega) (by have:=hg.1;omega)) (HCX.out y r ho);have HCY8:Hid (∀y r,MB=some (y,r)->pcE.Cs (λg=>W0.heap.size<g/\g<w7.heap.size) W8 y [.int .i64 dk,.string dx,.bool dt,.int .i64 dK,.string dX,.int .i64 dZ,.slice dB dm dq,.slice dp df dh,.slice dj cY dc]):=wJ λy r ho=>pcE.keep (λ_ h=>h) (λg hg=>qv g (by have:=hg.2;omega) (by have:=hg.1;omega)) (HCY.out y r ho);have nM:Hid (q=true->∀t rt,(nxO 6 [58] P1).bind typ=some (t,rt)->TyL (λg=>W0.heap.size<g/\g<W7.heap.size) W8 (some t) [.int .i64 K,.string S,.int .i64 Z,.slice T m c]):=wJ λhq t rt ht=>(mV.out.t1 hq t rt ht).keep (λ_ h=>h) (λg hg=>qv g hg.2 (by have:=hg.1;omega));have mU:Hid (q=false->TyL (λg=>W0.heap.size<g/\g<W7.heap.size) W8 none [.int .i64 K,.string S,.int .i64 Z,.slice T m c]):=wJ λhq=>(mV.out.t0 hq).keep (λ_ h=>h) (λg hg=>qv g hg.2 (by have:=hg.1;omega));have HE8:=wJ he8;have HN8:=wJ hn8;have HW8:=wJ fQ;obtain⟨⟨g0,g1,g2,g3,g4,g5,g6,g7,g8⟩,⟨z0,z1,z2,z3,z4,z5,z6,z7,z8⟩,hle⟩:=zab mV.out.e;obtain⟨⟨x0,x1,x2,x3,x4,x5,x6,x7,x8⟩,-,ic⟩:=zab tH.out;obtain⟨⟨y0,y1,y2,y3,y4,y5,y6,y7,y8⟩,-,nl⟩:=zab HBY.out;clear he8 hn8 fQ qv mV tH HBY HCX HCY;go_upto_region 16 with fail
  rw[HW8.out]
  clear HW8 g0 g1 g2 g3 g4 g5 g6 g7 g8 z0 z1 z2 z3 z4 z5 z6 z7 z8 x0 x1 x2 x3 x4 x5 x6 x7 x8 y0 y1 y2 y3 y4 y5 y6 y7 y8;obtain⟨⟨g0,g1,g2,g3,g4,g5,g6,g7,g8⟩,-,-⟩:=zab HE8.out;obtain⟨⟨y0,y1,y2,y3,y4,y5,y6,y7,y8⟩,⟨z0,z1,z2,z3,z4,z5,z6,z7,z8⟩,nl⟩:=zab HR8.out;go_wp2_with fail
  try simp only[Exit.inBlock,Exit.then]
  refine ub (zaa rfl _ _ w.heap.size 48 _ (0,0) _ rfl (zah _ _ _ _ _ _ _ _ _ HR8.out) Tryz.underlying48 rfl (by kernel_rfl)) rfl ?_;refine zbF kU.out ?_ (λy r ho=>?_)
  ·rw[nZ.out,tu.out];exact kN.out
  ·obtain⟨t,a,b,ra,rfl,h1,h2,h3,h4⟩:=kV.out y r ho
   rw[qP.out]at h1
   rw[tu.out]at h2
   have hty:TyL (λg=>W0.heap.size<g/\g<W7.heap.size) W8 t [.int .i64 K,.string S,.int .i64 Z,.slice T m c]/\q=toE (.lt X.data.toList t a b):=by
    cases hq:q with
    |true =>
     obtain⟨t',rt,h5,rfl⟩:=h3 (by rw[HQ.out,hq]);exact⟨nM.out hq t' rt h5,rfl⟩
    |false =>
     obtain rfl:=h4 (by rw[HQ.out,hq]);exact⟨mU.out hq,rfl⟩
   obtain⟨⟨TA,ta,mH,oH⟩,hqt⟩:=hty;refine⟨⟨TA,ta,some ⟨W7.heap.size,0,none⟩,0,none,0⟩,by simp only[exC,tyE,mH,<-hqt];simp[kdE,nmE,zac,zad,Sx.strV],oH.keep (λg hg=>⟨by omega,by omega⟩) (λ_ _=>rfl),?_⟩;rw[ExIn]
   exact⟨_,rfl,⟨by omega,by omega⟩,zc2 (pcE.keep (S':=λg=>W0.heap.size<g/\g<w7.heap.size) (λg hg=>⟨hg.1,by have:=hg.2;omega⟩) (λ_ _=>rfl) (HCX8.out a ra h1)) (HCY8.out b r h2) (λg hg=>⟨by omega,by omega⟩) (λ_ _=>rfl) HN8.out⟩
end Go.Proofs.YtknkclefoiohpaaGreatDoor
namespace Go.Proofs.YtknkclefoiohpaaGreatDoor
open Go.RowKit Lx Tx Sx
set_option maxRecDepth 100000
theorem zb8 {α:Type}(rd:Nat->List Tok->Option (α × List Tok))(f:Nat)(l:List Tok):sepM rd (f+1) l=match rd (f+1) l with
  |none=>none
  |some y=>if isO 6 [59] (some y.2)=true then(sepM rd f y.2.tail).map λz=>(y.1::z.1,z.2) else some ([y.1],y.2):=by
 rw[sepM]
 cases rd (f+1) l with
 |none=>rfl
 |some y =>
  simp only;rw[zba _ _ (by decide)]
  by_cases h:isHd y.2 6 [59]=true
  ·rw[ud h,zaC,ud (show semB y.2=true from h),sepM]
  ·rw[ue h,zaC,ue (show ¬semB y.2=true from h)];rfl
def choP(M:Option (Ex × List Tok)):Option (List Tok):=nxO 6 [123] (nxO 3 wOf (M.map (·.2)))
theorem zn3(f:Nat)(l:List Tok):(isO 6 [125] (choP (rdE (f+1) l))=true->∃y ry,rdE (f+1) l=some (y,ry)/\choF f l=(nxO 6 [125] (choP (rdE (f+1) l))).map λr=>(.cs y [],r)) /\
  (isO 6 [125] (choP (rdE (f+1) l))=false->(choF f l).map (·.2)=nxO 6 [125] (((choP (rdE (f+1) l)).bind (sepM rdAlt f)).map (·.2)) /\
   ∀x r,choF f l=some (x,r)->∃y ry gv ra,rdE (f+1) l=some (y,ry)/\(choP (rdE (f+1) l)).bind (sepM rdAlt f)=some (gv,ra)/\x=.cs y gv):=by
 rw[choF]
 cases rdE (f+1) l with
 |none=>exact⟨(λh=>by cases h),λ_=>⟨rfl,λx r h=>by cases h⟩⟩
 |some y =>
  simp only;rw[choP,uq,zaP 3 _ (by decide)]
  by_cases h1:isHd y.2 3 wOf=true
  ·rw[ud h1,ud h1,zaP 6 [123] (by decide),brF]
   by_cases h2:isHd y.2.tail 6 [123]=true
   ·rw[ud h2,ud h2,zba _ _ (by decide),zaP 6 [125] (by decide)]
    by_cases h3:isHd y.2.tail.tail 6 [125]=true
    ·rw[ud h3,ud h3]
     exact⟨λ_=>⟨y.1,y.2,rfl,rfl⟩,λh=>by rw[h3]at h;cases h⟩
    ·rw[ue h3]
     refine⟨λh=>absurd h h3,λ_=>?_⟩;rw[uE]
     cases sepM rdAlt f y.2.tail.tail with
     |none=>exact⟨rfl,λx r h=>by cases h⟩
     |some z =>
      simp only;rw[uq,zaP 6 [125] (by decide)]
      by_cases h4:isHd z.2 6 [125]=true
      ·rw[ud h4,ud h4]
       refine⟨rfl,λx r h=>?_⟩;simp only[uq,um,uw]at h;exact⟨y.1,y.2,z.1,z.2,rfl,rfl,h.1.symm⟩
      ·rw[ue h4,ue h4]
       exact⟨rfl,λx r h=>by cases h⟩
   ·rw[ue h2,ue h2]
    exact⟨(λh=>by cases h),λ_=>⟨rfl,λx r h=>by cases h⟩⟩
  ·rw[ue h1,ue h1]
   exact⟨(λh=>by cases h),λ_=>⟨rfl,λx r h=>by cases h⟩⟩
theorem zmj(f:Nat)(l:List Tok)(h:isO 3 wCase (some l)=true):rdE (f+3) l=choF f l.tail:=by
 have h3:isHd l 3 wCase=true:=by rw[<-zba _ _ (by decide)];exact h
 have h6:¬isHd l 6 [92]=true:=by
  intro h';simp only[isHd,vV,wE]at h3 h';omega
 have hl:¬isHd l 3 wLet=true:=by
  intro h';simp only[isHd,vV,wE]at h3 h';have:=h3.2.symm.trans h'.2;simp[wCase,wLet]at this
 rw[zcE,ue h6,ue hl,ud h3,zgd]
def altB(f:Nat)(P:Option (List Tok)):Option (Ex × List Tok):=(nxO 6 [45,62] (nsR (nxO 2 [] P))).bind (rdE f)
theorem zpP(f:Nat)(l:List Tok):rdAlt f l=(altB f (some l)).map λz=>(.mk (txO (some l)) (nsO (nxO 2 [] (some l))) z.1,z.2):=by
 rw[zhF,altB,zcO]
 by_cases h:(hd l).kind=2
 ·rw[ud h,ud h,nsR,uq,zaP _ _ (by decide)]
  by_cases h2:isHd (vars l.tail).2 6 [45,62]=true
  ·rw[ud h2,ud h2];rfl
  ·rw[ue h2,ue h2];rfl
 ·rw[ue h,ue h];rfl
theorem zg0(l:List Tok):(vars l).2.length<=l.length:=by
 induction l with
 |nil=>simp[vars]
 |cons t r ih =>
  rw[vars]
  by_cases h:t.kind=1
  ·rw[ud h];simp only[ui];omega
  ·rw[ue h];exact tV _
theorem zkB {l:List Tok}(h:AllG l):AllG (vars l).2:=by
 induction l with
 |nil=>simpa[vars] using h
 |cons t r ih =>
  rw[vars]
  by_cases ht:t.kind=1
  ·rw[ud ht];exact ih h.tail
  ·rw[ue ht];exact h
theorem ziE {P:Option (List Tok)} {r:List Tok}(h:nxO 6 [45,62] (nsR (nxO 2 [] P))=some r):∃l,P=some l/\r.length+2<=l.length/\(AllG l->AllG r):=by
 obtain⟨l1,h1,h2,h3,-⟩:=za1 (by decide) h;cases hN:nxO 2 [] P with
 |none=>rw[hN]at h1;cases h1
 |some l2 =>
  rw[hN,nsR,uq]at h1
  injection h1 with h1;obtain⟨l3,h4,h5,h6,-⟩:=za1 (by decide) hN;have:=zg0 l2;rw[h1]at this
  refine⟨l3,h4,by omega,λhg=>?_⟩;rw[<-h2]
  refine AllG.tail' ?_;rw[<-h1]
  refine zkB ?_;rw[<-h5]
  exact AllG.tail' hg
theorem BuiltG.low {α:Type} {P:Pc α} {b B:Nat} {e:TypeId} {w w':World} {l:List α} {v:Value}(h:BuiltG P B e w l v)(hc:Chg (only b) w w')(hb:b<B):BuiltG P B e w' l v:=by
 obtain⟨vs,h1,h2⟩:=h;have hs:=hc.size;exact⟨vs,zcg h1 hc hb,RowG.keep (λg hg=>⟨⟨hg.1.1,by have:=hg.1.2;omega⟩,hg.2⟩) (λg hg=>hc.block g hg.1.2 (by have:=hg.1.1;unfold only;omega)) l vs h2⟩
theorem zkC:(Tryz.prog.info? 110).map (λi=>(i.zero,i.size,i.bytes))=some (some (.agg #[.string ⟨#[]⟩,.slice none 0 0,.int .i64 0,.string ⟨#[]⟩,.bool false,.int .i64 0,.string ⟨#[]⟩,.int .i64 0,.slice none 0 0,.slice none 0 0,.slice none 0 0]),11,176):=by kernel_rfl
theorem zg1 {B:Nat} {w w':World} {g:Nat}(h:Below B w w')(hg:B<=g)(b2 b3 b4 b5 b6 b7 b8 b9 cr:Value):Below B w (((((((((w'.setCell ⟨g,2,none⟩ b2).setCell ⟨g,3,none⟩ b3).setCell ⟨g,4,none⟩ b4).setCell ⟨g,5,none⟩ b5).setCell ⟨g,6,none⟩ b6).setCell ⟨g,7,none⟩ b7).setCell ⟨g,8,none⟩ b8).setCell ⟨g,9,none⟩ b9).setCell ⟨g,10,none⟩ cr) :=
 ((((((((h.setCell (p:=⟨g,2,none⟩) hg b2).setCell (p:=⟨g,3,none⟩) hg b3).setCell (p:=⟨g,4,none⟩) hg b4).setCell (p:=⟨g,5,none⟩) hg b5).setCell (p:=⟨g,6,none⟩) hg b6).setCell (p:=⟨g,7,none⟩) hg b7).setCell (p:=⟨g,8,none⟩) hg b8).setCell (p:=⟨g,9,none⟩) hg b9).setCell (p:=⟨g,10,none⟩) hg cr
end Go.Proofs.YtknkclefoiohpaaGreatDoor
namespace Go.Proofs.YtknkclefoiohpaaGreatDoor
open Go.RowKit Lx Tx Sx
set_option maxRecDepth 100000
def choC(ks:Value)(A:Option Addr)(n c:Nat):Array Value:=#[.int .i64 6,.string ⟨#[]⟩,.bool false,.int .i64 0,.string ⟨#[]⟩,.int .i64 0,.slice none 0 0,ks,.slice A n c]
def ChoH(ts:List Tok)(f:Nat)(SO:Option (List Al × List Tok))(W2:World)(ge:Nat)(ks:Value)(gg:Nat)(vk vq:Value)(wr:World):Prop :=
 ∃(zk:Int) (qm:Bool) (P:Option (List Tok)) (A:Option Addr) (n c:Nat),gg=(if qm=true then P.elim 0 List.length+1 else 0)/\vk=.int .i64 zk/\vq=.bool qm/\PAt ts P zk/\Hid (Blk wr ge 48 (choC ks A n c))/\Hid (Chg (only ge) W2 wr) /\
  Hid (qm=true->∃r f' done,P=some r/\f'<=f/\3*r.length+3<=f'/\n=done.length/\done.length+r.length<=ts.length/\SO=(sepM rdAlt f' r).map (λy=>(done++y.1,y.2))/\BuiltG pcA (ge+1) 110 wr done (.slice A n c)) /\
  Hid (qm=false->SO.map (·.2)=P/\∀l rl,SO=some (l,rl)->n=l.length/\BuiltG pcA (ge+1) 110 wr l (.slice A n c))
theorem zpc {S:Nat->Prop} {w:World} {c:Nm} {vs:List Nm} {b:Ex} {V:Option Addr} {v:Nat} {cs:List Value}(hv:vs.length<=v)(hV:NmsIn S w vs V)(hb:pcE.Cs S w b cs):pcA.Cs S w (.mk c vs b) ([Sx.strV c,.slice V vs.length v]++cs):=by
 obtain⟨P,rfl,h1,h2⟩:=hb;exact⟨V,⟨v,hv⟩,P,rfl,hV,h1,h2⟩
set_option maxRecDepth 10000000 in
theorem zjq(f:Nat)(ts:List Tok)(v:Value)(hG:AllG ts)(hn:ts.length<=100000)(IH:Rd8 ts v (f+2))(w:World)(i:Nat)(hv:RdT w v ts)(hq:isO 3 wCase (some (ts.drop i))=true)(hf:3*(ts.drop i).length+3<=f+3):Calls Tryz.prog 44 #[v,.int .i64 (i:Nat)] w (XP8 ts w (rdE (f+3) (ts.drop i))):=by
 obtain⟨i0,bJ,bO,bz,bE⟩:=vz zkC;have ah:=zch (by decide) hq;have fI:PAt ts (some (ts.drop i)) (i:Nat):=PAt.some_ ts i (by omega);obtain⟨fV,-,-⟩:=zbd (by decide) fI hq;have e1:nxO 3 wCase (some (ts.drop i))=some (ts.drop i).tail:=by rw[nxO,hq,ud rfl];rfl
 rw[e1]at fV
 have ft:(ts.drop i).tail.length+1=(ts.drop i).length:=by
  obtain⟨l,h1,h2,h3,-⟩:=za1 (by decide) e1;injection h1 with h1;subst h1;omega
 have ku:isO 6 [92] (some (ts.drop i))=false:=by
  rw[uY]
  intro h';rw[zba _ _ (by decide)]at hq h'
  simp only[isHd,vV,wE]at hq h';omega
 have hql:isO 3 wLet (some (ts.drop i))=false:=by
  rw[uY]
  intro h';rw[zba _ _ (by decide)]at hq h'
  simp only[isHd,vV,wE]at hq h';have:=hq.2.symm.trans h'.2;simp[wCase,wLet]at this
 have eE:Hid (∀W,Below w.heap.size w W->Calls Tryz.prog 34 #[v,.int .i64 (i:Nat),.int .i64 6,.string ⟨#[92]⟩] W λe w'=>e=.returned (.bool false)/\W=w'):=wJ λW hb=>by
  have:=zaY v ts _ _ 6 ⟨#[92]⟩ 6 rfl (by decide) W (hv.below hb) fI;rwa [show(⟨#[92]⟩:ByteArray).data.toList=[92] from rfl,ku]at this
 have js:Hid (∀W,Below w.heap.size w W->Calls Tryz.prog 34 #[v,.int .i64 (i:Nat),.int .i64 3,.string ⟨#[108,101,116]⟩] W λe w'=>e=.returned (.bool false)/\W=w'):=wJ λW hb=>by
  have:=zaY v ts _ _ 3 ⟨#[108,101,116]⟩ 3 rfl (by decide) W (hv.below hb) fI;rwa [show(⟨#[108,101,116]⟩:ByteArray).data.toList=wLet from rfl,hql]at this
 have tv:Hid (∀W,Below w.heap.size w W->Calls Tryz.prog 34 #[v,.int .i64 (i:Nat),.int .i64 3,.string ⟨#[99,97,115,101]⟩] W λe w'=>e=.returned (.bool true)/\W=w'):=wJ λW hb=>by
  have:=zaY v ts _ _ 3 ⟨#[99,97,115,101]⟩ 3 rfl (by decide) W (hv.below hb) fI;rwa [show(⟨#[99,97,115,101]⟩:ByteArray).data.toList=wCase from rfl,hq]at this
 obtain⟨O,hO⟩:∃O,rdE (f+3) (ts.drop i)=O:=⟨_,rfl⟩;rw[hO]
 rw[zmj f _ hq]at hO
 obtain⟨iD,il⟩:=zn3 f (ts.drop i).tail;have hR:=λW (hb:Below w.heap.size w W)=>IH (f+1) (by omega) W _ _ (hv.below hb) fV (λr h=>by injection h with h;subst h;omega);rw[uE]at hR
 have dE:AllG (ts.drop i).tail:=AllG.tail' (λx hx=>hG x (List.mem_of_mem_drop hx));obtain⟨M,hM⟩:∃M,rdE (f+1) (ts.drop i).tail=M:=⟨_,rfl⟩;have eJ:∀r,choP M=some r->3*r.length+3<=f/\r.length<=ts.length:=λr hr=>by
  obtain⟨l,h1,h2,h3,-⟩:=za1 (by decide) hr;obtain⟨l',h4,h5,h6,-⟩:=za1 (by decide) h1;cases hM':M with
  |none=>rw[hM']at h4;cases h4
  |some y =>
   rw[hM']at h4
   replace h4:y.2=l':=by injection h4
   have:=(zbZ (f+1) _ y.1 y.2 dE (hM.trans hM')).2;have:=uR (i:=i) (l:=ts);rw[h4]at *
   omega
 rw[hM]at iD il hR
 rw[hO]at iD il
 have nZ:=wJ iD;have kV:=wJ il;have HLP:=wJ eJ;have HV:=wJ hv;have bq:=wJ IH;have HG:=wJ hG;have HR:=wJ hR;have hi9:(i:Int)<100000:=by omega
 obtain⟨W0,ai⟩:∃W,w.alloc (.cells #[.int .i64 0,.string ⟨#[]⟩,.bool false,.int .i64 0,.string ⟨#[]⟩,.int .i64 0,.slice none 0 0,.slice none 0 0,.slice none 0 0] 48)=W:=⟨_,rfl⟩;have fX:Below w.heap.size w W0:=ai▸(ua _ w).alloc (tV _) _;have eI:w.heap.size+1<=W0.heap.size/\W0.heap.size<=w.heap.size+1:=by rw[<-ai];simp
 have aa:Blk W0 w.heap.size 48 #[.int .i64 0,.string ⟨#[]⟩,.bool false,.int .i64 0,.string ⟨#[]⟩,.int .i64 0,.slice none 0 0,.slice none 0 0,.slice none 0 0]:=ai▸tW _ _;have cM:=wJ fX;have aE:=wJ aa;clear hv hq hf IH ah fI fV e1 ft hO fX aa iD il ku hG hM hR hql dE eJ;go_enter Tryz.func44,Tryz.ntmps44
 go_wp2_with fail
 try rw[ai]
 refine(eE.out _ cM.out).mono ?_;rintro e w1 ⟨rfl,rfl⟩;clear eE ai;go_wp2_with fail
 refine(js.out _ cM.out).mono ?_;rintro e w1 ⟨rfl,rfl⟩;clear js;go_wp2_with fail
 refine(tv.out _ cM.out).mono ?_;rintro e w1 ⟨rfl,rfl⟩;clear tv;go_wp2_with fail
 refine(HR.out _ cM.out).mono ?_;rintro e w1 ⟨b1,cs,ze,bA,rfl,iN,au⟩;obtain⟨ck,cx,ct,cK,cX,cZ,cB,cm,cq,aU,aR,aS,aT,aP,aQ,rfl⟩:=bA;have bj:=b1.size;obtain⟨W1,aL⟩:∃W,w1.alloc (.cells #[.int .i64 ck,.string cx,.bool ct,.int .i64 cK,.string cX,.int .i64 cZ,.slice cB cm cq,.slice aU aR aS,.slice aT aP aQ] 48)=W:=⟨_,rfl⟩;have aX:Below w1.heap.size w1 W1:=aL▸(ua _ w1).alloc (tV _) _;have ph:w1.heap.size+1<=W1.heap.size/\W1.heap.size<=w1.heap.size+1:=by rw[<-aL];simp
 have az:Blk W1 w1.heap.size 48 #[.int .i64 ck,.string cx,.bool ct,.int .i64 cK,.string cX,.int .i64 cZ,.slice cB cm cq,.slice aU aR aS,.slice aT aP aQ]:=aL▸tW _ _;have aJ:=wJ (cM.out.trans ((b1.mono (by omega)).trans (aX.mono (by omega))));have dO:=wJ ((aE.out.below b1 (by omega)).below aX (by omega));have bc:=wJ az;have gB:Hid (∀y r,M=some (y,r)->pcE.Cs (λg=>w.heap.size<g/\g<w1.heap.size) W1 y [.int .i64 ck,.string cx,.bool ct,.int .i64 cK,.string cX,.int .i64 cZ,.slice cB cm cq,.slice aU aR aS,.slice aT aP aQ]):=wJ λy r ho=>pcE.keep (λg hg=>⟨by omega,hg.2⟩) (λg hg=>aX.block g hg.2) (au y r ho);have me:=wJ (zaL v ts (M.map (·.2)) ze 3 ⟨#[111,102]⟩ 3 rfl (by decide) W1 (HV.out.below aJ.out) hn iN);have ki:=wJ aL;clear b1 aX az iN au HR aL aE;go_upto_region 20 with fail
 rw[ki.out]
 clear ki;go_wp2_with fail
 refine me.out.mono ?_;rintro e w2 ⟨rfl,za,rfl,dr⟩;replace dr:PAt ts (nxO 3 wOf (M.map (·.2))) za:=dr;have jS:=wJ (zaL v ts _ za 6 ⟨#[123]⟩ 6 rfl (by decide) W1 (HV.out.below aJ.out) hn dr);clear dr me;go_wp2_with fail
 refine jS.out.mono ?_;rintro e w2 ⟨rfl,zk,rfl,jt⟩;replace jt:PAt ts (choP M) zk:=jt;have kh:=wJ jt;have pz:=jt.lo;clear jt jS;obtain⟨W2,bL⟩:∃W,(W1.alloc (.cells #[.int .i64 ck,.string cx,.bool ct,.int .i64 cK,.string cX,.int .i64 cZ,.slice cB cm cq,.slice aU aR aS,.slice aT aP aQ] 48)).alloc (.cells (choC (.slice (some ⟨W1.heap.size,0,none⟩) 1 1) none 0 0) 48)=W:=⟨_,rfl⟩;have aA:Below W1.heap.size W1 W2:=bL▸((ua _ W1).alloc (tV _) _).alloc (by simp) _;have bo:W1.heap.size+2<=W2.heap.size/\W2.heap.size<=W1.heap.size+2:=by rw[<-bL];simp
 have ie:Blk W2 W1.heap.size 48 #[.int .i64 ck,.string cx,.bool ct,.int .i64 cK,.string cX,.int .i64 cZ,.slice cB cm cq,.slice aU aR aS,.slice aT aP aQ]:=bL▸Blk.below (tW W1 _) ((ua _ _).alloc (tV _) _) (by simp);have ij:Blk W2 (W1.heap.size+1) 48 (choC (.slice (some ⟨W1.heap.size,0,none⟩) 1 1) none 0 0):=bL▸zaA _ _ _ _ rfl;have ar:=wJ (aJ.out.trans (aA.mono (by omega)));have fh:=wJ (dO.out.below aA (by omega));have p7:=wJ ie;have lr:=wJ ij;have mq:Hid (∀y r,M=some (y,r)->pcE.Cs (λg=>w.heap.size<g/\g<w1.heap.size) W2 y [.int .i64 ck,.string cx,.bool ct,.int .i64 cK,.string cX,.int .i64 cZ,.slice cB cm cq,.slice aU aR aS,.slice aT aP aQ]):=wJ λy r ho=>pcE.keep (λ_ h=>h) (λg hg=>aA.block g (by have:=hg.2;omega)) (gB.out y r ho);have jU:=wJ (zaY v ts (choP M) zk 6 ⟨#[125]⟩ 6 rfl (by decide) W2 (HV.out.below ar.out) kh.out);obtain⟨q,hq⟩:∃q,isO 6 [125] (choP M)=q:=⟨_,rfl⟩;rw[show(⟨#[125]⟩:ByteArray).data.toList=[125] from rfl,hq]at jU
 have HQ:=wJ hq;obtain⟨⟨g0,g1,g2,g3,g4,g5,g6,g7,g8⟩,-,bB⟩:=zab bc.out;unfold choC at bL;have im:=wJ bL;clear aA ie ij bL hq gB dO bc;go_upto_region 22 with fail
 rw[im.out]
 clear im g0 g1 g2 g3 g4 g5 g6 g7 g8;go_wp2_with fail
 refine jU.out.mono ?_;rintro e w3 ⟨rfl,rfl⟩;clear jU;obtain⟨ge,qt⟩:∃g,W1.heap.size+1=g:=⟨_,rfl⟩;rw[qt]at lr ⊢
 cases q with
 |true =>
  obtain⟨y,ry,qE,lS⟩:=nZ.out HQ.out;obtain⟨dP,hzk0,hzk1⟩:=zbd (by decide) kh.out HQ.out;have lp:=wJ lS;have iH:=wJ qE;have jP:=wJ dP;have he:=lr.out;unfold choC at he;obtain⟨⟨g0,g1,g2,g3,g4,g5,g6,g7,g8⟩,-,bB⟩:=zab he;obtain⟨⟨y0,y1,y2,y3,y4,y5,y6,y7,y8⟩,⟨z0,z1,z2,z3,z4,z5,z6,z7,z8⟩,nl⟩:=zab fh.out;clear qE lS dP he;go_wp2_with fail
  try simp only[Exit.inBlock,Exit.then]
  refine ub (zaa rfl _ _ w.heap.size 48 _ (0,0) _ rfl (zah _ _ _ _ _ _ _ _ _ fh.out) Tryz.underlying48 rfl (by kernel_rfl)) rfl ?_;refine zbF ar.out ?_ (λx r ho=>?_)
  ·rw[lp.out,vJ]
   have:=jP.out;cases hN:nxO 6 [125] (choP M) with
   |none=>rw[hN]at this;exact this
   |some r=>rw[hN]at this;exact this
  ·rw[lp.out]at ho
   cases hN:nxO 6 [125] (choP M) with
   |none=>rw[hN]at ho;cases ho
   |some r1 =>
    rw[hN]at ho
    simp only[uq,um,uw]at ho;obtain⟨rfl,-⟩:=ho;refine⟨⟨none,0,some ⟨W1.heap.size,0,none⟩,0,none,0⟩,by simp[exC,kdE,nmE,toE,tyE,tyC,zac,zad,Sx.strV],trivial,?_⟩;rw[ExIn]
    exact⟨⟨_,rfl,⟨by omega,by omega⟩,zcf (mq.out y ry iH.out) (λg hg=>⟨by omega,by omega⟩) (λ_ _=>rfl) p7.out⟩,λh=>absurd rfl h⟩
 |false =>
  obtain⟨SO,ld⟩:∃S,(choP M).bind (sepM rdAlt f)=S:=⟨_,rfl⟩;have hA:=kV.out HQ.out;rw[ld]at hA
  have qj:=wJ hA;have pW:=wJ ld;obtain⟨qm,kr⟩:∃q,decide (0<=zk)=q:=⟨_,rfl⟩;have HQM:=wJ kr;clear hA ld nZ kV;have ey:Hid (ChoH ts f SO W2 ge (.slice (some ⟨W1.heap.size,0,none⟩) 1 1) (if qm=true then(choP M).elim 0 List.length+1 else 0) (.int .i64 zk) (.bool qm) W2):=wJ (by
   refine⟨zk,qm,choP M,none,0,0,rfl,rfl,rfl,kh.out,wJ lr.out,wJ (Chg.refl _ _),wJ (λhq=>?_),wJ (λhq=>?_)⟩
   ·rcases kh.out with⟨-,hz⟩|⟨k,hk,hz,hp⟩
    ·rw[hz]at kr;rw[hq]at kr;simp at kr
    ·obtain⟨h1,h2⟩:=HLP.out _ hp
     exact⟨_,f,[],hp,tV _,h1,rfl,by simp,by rw[<-pW.out,hp,uE];simp,BuiltG.nil _ _ _ _⟩
   ·rcases kh.out with⟨hp,-⟩|⟨k,hk,hz,-⟩
    ·rw[<-pW.out,hp]
     exact⟨rfl,λl rl h=>by cases h⟩
    ·rw[hz,hq]at kr;simp at kr)
  have hge3:W1.heap.size+1<=ge/\ge<=W1.heap.size+1:=by omega
  clear qt lr;go_wp2_with fail
  go_loopg [19,22] (if qm=true then(choP M).elim 0 List.length+1 else 0) (λgg vk vq wr=>ChoH ts f SO W2 ge (.slice (some ⟨W1.heap.size,0,none⟩) 1 1) gg vk vq wr)
  case atStart=>exact ey.out
  case round =>
   obtain⟨zr,qr,P,A,n,c,rfl,rfl,rfl,gC,hE,hC,hT,hF⟩:=hrel;have dw:=hC.out.size;have hlz:=gC.lo;clear ey;cases qr with
   |false =>
    obtain⟨bj,bo⟩:=hF.out rfl;have ez:=wJ bj;have gJ:=wJ bo;have pS:=wJ gC;have cN:Below w.heap.size w wr:=ar.out.trans (hC.out.toBelow (by omega) (λk hk=>by unfold only;omega));have ed:=wJ cN;have ef:=wJ (fh.out.same (hC.out.block _ (by omega) (by unfold only;omega)));have HKR:=wJ (p7.out.same (hC.out.block _ (by omega) (by unfold only;omega)));have HCR:Hid (∀y r,M=some (y,r)->pcE.Cs (λg=>w.heap.size<g/\g<w1.heap.size) wr y [.int .i64 ck,.string cx,.bool ct,.int .i64 cK,.string cX,.int .i64 cZ,.slice cB cm cq,.slice aU aR aS,.slice aT aP aQ]):=wJ λy r ho=>pcE.keep (λ_ h=>h) (λg hg=>hC.out.block g (by have:=hg.2;omega) (by have:=hg.2;unfold only;omega)) (mq.out y r ho);have he:=hE.out;unfold choC at he;have HNZ:=wJ (λW (hb:Below w.heap.size w W)=>zaL v ts P zr 6 ⟨#[125]⟩ 6 rfl (by decide) W (HV.out.below hb) hn pS.out);obtain⟨⟨g0,g1,g2,g3,g4,g5,g6,g7,g8⟩,-,bB⟩:=zab he;obtain⟨⟨y0,y1,y2,y3,y4,y5,y6,y7,y8⟩,⟨z0,z1,z2,z3,z4,z5,z6,z7,z8⟩,nl⟩:=zab ef.out;clear bj bo gC hT hF he cN;go_wp2_with fail
    go_region_with (go_at_call 83;(with_reducible refine(HNZ.out _ (by first|exact ed.out|exact ed.out.drew)).mono ?_);rintro e w3 ⟨rfl,z9,rfl,ju⟩;have tj:=wJ ju;clear ju)
    all_goals
     go_wp2_with fail
     refine ub (zaa rfl _ _ w.heap.size 48 _ (0,0) _ rfl (zah _ _ _ _ _ _ _ _ _ ef.out).drew Tryz.underlying48 rfl (by kernel_rfl)) rfl ?_;refine XP8.drew (zbF ed.out ?_ (λx r ho=>?_))
     ·rw[qj.out.1,ez.out];exact tj.out
     ·obtain⟨y,ry,gv,ra,h1,h2,rfl⟩:=qj.out.2 x r ho
      obtain⟨h3,h4⟩:=gJ.out gv ra h2;obtain⟨-,h5⟩:=h4.lst;refine⟨⟨none,0,some ⟨W1.heap.size,0,none⟩,0,A,c⟩,by simp[exC,kdE,nmE,toE,tyE,tyC,zac,zad,Sx.strV,h3],trivial,?_⟩;rw[ExIn]
      refine⟨⟨_,rfl,⟨by omega,by omega⟩,zcf (HCR.out y ry h1) (λg hg=>⟨by omega,by omega⟩) (λ_ _=>rfl) HKR.out⟩,λhl=>?_⟩;obtain⟨g,rfl,hg,aH⟩:=h5 hl;exact⟨g,rfl,⟨by omega,hg.2⟩,AlsIn.keep (λg hg=>⟨by omega,hg.2⟩) (λ_ _=>rfl) gv g 0 rfl ((zhG gv g 0).1 aH)⟩
   |true =>
    obtain⟨r,f',done,rfl,hff,mA,kx,iV,jk,sM⟩:=hT.out rfl;obtain⟨f1,rfl⟩:∃f1,f'=f1+1:=⟨f'-1,by omega⟩;have oS:=wJ jk;obtain⟨vs,ae,ao⟩:=sM;rw[<-kx]at ae
    replace ae:wr.ownsRow (ge+1) 110 11 (.slice A n c) n vs:=ae;have aM:=wJ ae;have av:=wJ ao;have cN:Below w.heap.size w wr:=ar.out.trans (hC.out.toBelow (by omega) (λk hk=>by unfold only;omega));have ed:=wJ cN;have pS:=wJ gC;have fY:=wJ (zcN v ts _ zr wr (HV.out.below cN) gC);obtain⟨X,hX⟩:∃X:ByteArray,⟨(txO (some r)).toArray⟩=X:=⟨_,rfl⟩;have HX:Hid (txO (some r)=X.data.toList):=wJ (by rw[<-hX]);rw[hX]at fY
    obtain⟨WA,lQ⟩:∃W,wr.alloc (.cells #[.string X,.slice none 0 0,.int .i64 0,.string ⟨#[]⟩,.bool false,.int .i64 0,.string ⟨#[]⟩,.int .i64 0,.slice none 0 0,.slice none 0 0,.slice none 0 0] 110)=W:=⟨_,rfl⟩;have kb:Below wr.heap.size wr WA:=lQ▸(ua _ wr).alloc (tV _) _;have hsA:wr.heap.size+1<=WA.heap.size/\WA.heap.size<=wr.heap.size+1:=by rw[<-lQ];simp
    have sy:Blk WA wr.heap.size 110 #[.string X,.slice none 0 0,.int .i64 0,.string ⟨#[]⟩,.bool false,.int .i64 0,.string ⟨#[]⟩,.int .i64 0,.slice none 0 0,.slice none 0 0,.slice none 0 0]:=lQ▸tW _ _;have fU:=wJ kb;have mw:=wJ sy;have me:=wJ (zaL v ts _ zr 2 ⟨#[]⟩ 2 rfl (by decide) WA (HV.out.below (cN.trans (kb.mono (by have:=cN.size;omega)))) hn gC);have qn:=cN.size;have nK:=wJ lQ;have gM:=wJ (And.intro kx iV);clear lQ kb sy jk ae ao cN gC hT hF hX kx iV;go_upto_region 28 with(refine fY.out.mono ?_;rintro e w3 ⟨rfl,rfl⟩)
    rw[nK.out]
    clear nK fY;go_wp2_with fail
    refine me.out.mono ?_;rintro e w3 ⟨rfl,za,rfl,dr⟩;replace dr:PAt ts (nxO 2 [] (some r)) za:=dr;have e7:=wJ (zgZ v ts _ za WA (HV.out.below (ed.out.trans (fU.out.mono qn))) hn dr);clear dr me;go_wp2_with fail
    refine e7.out.mono ?_;rintro e w2 ⟨b2,V,vc,zn,rfl,qk,pe,dv⟩;have iI:=b2.size;obtain⟨vl,gl⟩:∃l,nsO (nxO 2 [] (some r))=l:=⟨_,rfl⟩;obtain⟨vn,dU⟩:∃n,vl.length=n:=⟨_,rfl⟩;rw[gl]at dv
    rw[gl]at pe
    have s9:=wJ pe;clear pe;rw[gl,dU]
    obtain⟨WB,ke⟩:∃W,w2.setCell ⟨wr.heap.size,1,none⟩ (.slice V vn vc)=W:=⟨_,rfl⟩;have hsB:w2.heap.size<=WB.heap.size/\WB.heap.size<=w2.heap.size:=by rw[<-ke];simp
    have sx:Blk WB wr.heap.size 110 #[.string X,.slice V vn vc,.int .i64 0,.string ⟨#[]⟩,.bool false,.int .i64 0,.string ⟨#[]⟩,.int .i64 0,.slice none 0 0,.slice none 0 0,.slice none 0 0]:=ke▸uk _ _ 1 _ _ _ (mw.out.below b2 (by omega));have pL:Below wr.heap.size wr WB:=ke▸(fU.out.trans (b2.mono (by omega))).setCell (p:=⟨wr.heap.size,1,none⟩) (by simp) _;have s7:Hid (NmsIn (λg=>wr.heap.size<g/\g<WB.heap.size) WB vl V):=wJ (dv.keep (λg hg=>⟨by omega,by omega⟩) (λg hg=>ke▸tY _ ⟨wr.heap.size,1,none⟩ _ _ (by simp;omega)));have s8:=wJ gl;have jq:=wJ dU;have nJ:=wJ ke;have jW:=wJ pL;have qX:=wJ sx;have tn:=wJ (zaL v ts _ zn 6 ⟨#[45,62]⟩ 6 rfl (by decide) WB (HV.out.below (ed.out.trans (pL.mono qn))) hn qk);have qy:=mw.out.below b2 (by omega);obtain⟨⟨g0,g1,g2,g3,g4,g5,g6,g7,g8,g9,ga⟩,⟨z0,z1,z2,z3,z4,z5,z6,z7,z8,z9,za'⟩,ou⟩:=zaO qy;clear b2 dv qk ke pL sx gl dU qy e7 mw;go_upto_region 30 with fail
    rw[nJ.out]
    clear nJ g0 g1 g2 g3 g4 g5 g6 g7 g8 g9 ga z0 z1 z2 z3 z4 z5 z6 z7 z8 z9 za';go_wp2_with fail
    refine tn.out.mono ?_;rintro e w3 ⟨rfl,zb,rfl,fH⟩;replace fH:PAt ts (nxO 6 [45,62] (nsR (nxO 2 [] (some r)))) zb:=fH;have hR:=bq.out (f1+1) (by omega) WB _ zb (HV.out.below (ed.out.trans (jW.out.mono qn))) fH (λr' h=>by obtain⟨l,h1,h2,-⟩:=ziE h;injection h1 with h1;subst h1;omega);rw[show(nxO 6 [45,62] (nsR (nxO 2 [] (some r)))).bind (rdE (f1+1))=altB (f1+1) (some r) from rfl]at hR
    obtain⟨B,hB⟩:∃B,altB (f1+1) (some r)=B:=⟨_,rfl⟩;rw[hB]at hR
    have gj:=wJ hB;have HR:=wJ hR;clear fH hR hB tn;go_wp2_with fail
    refine HR.out.mono ?_;rintro e w4 ⟨b4,ds,zl,bA,rfl,dW,iU⟩;obtain⟨dk,dx,dt,dK,dX,dZ,dB,dm,dq,dp,df,dh,dj,cY,dc,rfl⟩:=bA;have kp:=b4.size;have pN:=qX.out.below b4 (by omega);obtain⟨WC,kB⟩:∃W,(((((((((w4.setCell ⟨wr.heap.size,2,none⟩ (.int .i64 dk)).setCell ⟨wr.heap.size,3,none⟩ (.string dx)).setCell ⟨wr.heap.size,4,none⟩ (.bool dt)).setCell ⟨wr.heap.size,5,none⟩ (.int .i64 dK)).setCell ⟨wr.heap.size,6,none⟩ (.string dX)).setCell ⟨wr.heap.size,7,none⟩ (.int .i64 dZ)).setCell ⟨wr.heap.size,8,none⟩ (.slice dB dm dq)).setCell ⟨wr.heap.size,9,none⟩ (.slice dp df dh)).setCell ⟨wr.heap.size,10,none⟩ (.slice dj cY dc))=W:=⟨_,rfl⟩;have hsC:w4.heap.size<=WC.heap.size/\WC.heap.size<=w4.heap.size:=by rw[<-kB,zeP];omega
    have sv:Blk WC wr.heap.size 110 #[.string X,.slice V vn vc,.int .i64 dk,.string dx,.bool dt,.int .i64 dK,.string dX,.int .i64 dZ,.slice dB dm dq,.slice dp df dh,.slice dj cY dc]:=kB▸zfu _ _ _ _ _ _ _ _ _ pN;have qu:∀k,k≠wr.heap.size->WC.heap[k]?=w4.heap[k]?:=λk hk=>kB▸zfv _ _ _ _ _ _ _ _ _ _ _ _ hk;have pK:Below wr.heap.size wr WC:=kB▸zg1 (jW.out.trans (b4.mono (by omega))) (tV _) _ _ _ _ _ _ _ _ _;have HPC:Hid (∀y rb,B=some (y,rb)->pcA.Cs (λg=>wr.heap.size<=g/\g<WC.heap.size) WC (.mk X.data.toList vl y) [.string X,.slice V vn vc,.int .i64 dk,.string dx,.bool dt,.int .i64 dK,.string dX,.int .i64 dZ,.slice dB dm dq,.slice dp df dh,.slice dj cY dc]):=wJ λy rb ho=>by
     have h1:=pcE.keep (S':=λg=>wr.heap.size<=g/\g<WC.heap.size) (λg hg=>⟨by omega,by omega⟩) (λg hg=>qu g (by omega)) (iU y rb ho);have h2:NmsIn (λg=>wr.heap.size<=g/\g<WC.heap.size) WC vl V:=s7.out.keep (λg hg=>⟨by omega,by omega⟩) (λg hg=>(qu g (by omega)).trans (b4.block g hg.2));have h3:=zpc (c:=X.data.toList) (v:=vc) s9.out h2 h1;rw[jq.out]at h3
     simpa[Sx.strV] using h3
    have qT:Hid (Blk WC ge 48 (choC (.slice (some ⟨W1.heap.size,0,none⟩) 1 1) A n c)):=wJ (hE.out.below pK (by omega));have qf:=wJ pK;have HAC:=wJ sv;have kN:=wJ dW;have sY:=wJ kB;obtain⟨⟨g0,g1,g2,g3,g4,g5,g6,g7,g8,g9,ga⟩,⟨z0,z1,z2,z3,z4,z5,z6,z7,z8,z9,za'⟩,ou⟩:=zaO pN;clear b4 iU dW kB pK sv qu pN HR s7 qX jW;go_upto_region 31 with fail
    rw[sY.out]
    clear sY g0 g1 g2 g3 g4 g5 g6 g7 g8 g9 ga z0 z1 z2 z3 z4 z5 z6 z7 z8 z9 za';have ma:=wJ ((own_below aM.out qf.out).alloc (.cells #[.string X,.slice V vn vc,.int .i64 dk,.string dx,.bool dt,.int .i64 dK,.string dX,.int .i64 dZ,.slice dB dm dq,.slice dp df dh,.slice dj cY dc] 110));have hec:=qT.out;unfold choC at hec;obtain⟨⟨g0,g1,g2,g3,g4,g5,g6,g7,g8⟩,-,bB⟩:=zab hec;obtain⟨⟨y0,y1,y2,y3,y4,y5,y6,y7,y8,y9,ya⟩,-,ou⟩:=zaO HAC.out;have pw:n<=100000:=by have:=gM.out;omega
    have oL:=aM.out.lt;have bY:=wJ oL;clear hec oL;go_wp2_with (at_builtin;refine uP _ rfl (.tmp 156) (.tmp 158) 46 rfl (ge+1) 110 i0 _ 11 176 Tryz.underlying46 bJ bO bz bE rfl (by decide) _ n vs rfl ma.out ⟨WC.heap.size,0,none⟩ 1 1 [.string X,.slice V vn vc,.int .i64 dk,.string dx,.bool dt,.int .i64 dK,.string dX,.int .i64 dZ,.slice dB dm dq,.slice dp df dh,.slice dj cY dc] rfl rfl (zao _ _ _ _ rfl) (by intro u hu;simp at hu;rcases hu with rfl|rfl|rfl|rfl|rfl|rfl|rfl|rfl|rfl|rfl|rfl <;> rfl) (by unfold maxLen;omega) (by omega) (by simp;omega) ?_;intro v2 w5 aI ab _ cv;obtain⟨A2,c2,rfl⟩:=zat aI;have eU:=wJ aI;have cQ:=wJ ab;have fZ:=wJ cv;clear aI ab cv;have ka:=(qT.out.alloc (.cells #[.string X,.slice V vn vc,.int .i64 dk,.string dx,.bool dt,.int .i64 dK,.string dX,.int .i64 dZ,.slice dB dm dq,.slice dp df dh,.slice dj cY dc] 110)).grown cQ.out (λe=>by have:=bY.out _ e.symm;omega);have tD:=wJ ka;unfold choC at ka;obtain⟨⟨m0,m1,m2,m3,m4,m5,m6,m7,m8⟩,⟨o0,o1,o2,o3,o4,o5,o6,o7,o8⟩,pA⟩:=zab ka;clear ka)
    obtain⟨W6,fo⟩:∃W,w5.setCell ⟨ge,8,none⟩ (.slice A2 (n+1) c2)=W:=⟨_,rfl⟩;have ee:=cQ.out.size;simp at ee;have pj:w5.heap.size<=W6.heap.size/\W6.heap.size<=w5.heap.size:=by rw[<-fo];simp
    have qb:Hid (Blk W6 ge 48 (choC (.slice (some ⟨W1.heap.size,0,none⟩) 1 1) A2 (n+1) c2)):=wJ (fo▸uk _ _ 8 _ _ _ tD.out);have mC:Chg (only ge) w5 W6:=fo▸(Chg.refl (only ge) w5).setCell (p:=⟨ge,8,none⟩) (.inr rfl) _;have kS:Hid (Chg (only ge) W2 W6):=wJ (((hC.out.trans (Chg.of_below qf.out)).alloc _ |>.grown cQ.out (λk hk=>by have:=bY.out _ hk;exact .inl (by omega))).trans mC);have mr:Hid (∀y rb,B=some (y,rb)->BuiltG pcA (ge+1) 110 W6 (done++[.mk X.data.toList vl y]) (.slice A2 (n+1) c2)):=wJ λy rb ho=>by
     have h1:=BuiltG.next (P:=pcA) (b:=ge) (w:=wr) (w1:=WC) (by omega) (by omega) (by rw[<-gM.out.1];exact aM.out) av.out (ChR.of_below qf.out) (HPC.out y rb ho) ((ua _ WC).alloc (tV _) _) (by rw[<-gM.out.1];exact eU.out) cQ.out fZ.out;exact h1.low mC (by omega)
    have sN:Below w.heap.size w W6:=ar.out.trans (kS.out.toBelow (by omega) (λk hk=>by unfold only;omega));have mh:=wJ (zaY v ts _ zl 6 ⟨#[59]⟩ 6 rfl (by decide) W6 (HV.out.below sN) kN.out);have oQ:=wJ fo;clear fo mC sN g0 g1 g2 g3 g4 g5 g6 g7 g8 y0 y1 y2 y3 y4 y5 y6 y7 y8 y9 ya m0 m1 m2 m3 m4 m5 m6 m7 m8 o0 o1 o2 o3 o4 o5 o6 o7 o8;obtain⟨qs,j5⟩:∃q,isO 6 [59] (B.map (·.2))=q:=⟨_,rfl⟩;rw[show(⟨#[59]⟩:ByteArray).data.toList=[59] from rfl,j5]at mh
    have iZ:=wJ j5;have oU:Hid (rdAlt (f1+1) r=B.map λz=>(.mk X.data.toList vl z.1,z.2)):=wJ (by rw[zpP,gj.out,HX.out,s8.out]);have p6:Hid (∀y rb,B=some (y,rb)->rb.length+3<=r.length):=wJ λy rb ho=>by
     rw[<-gj.out,altB]at ho
     cases hN:nxO 6 [45,62] (nsR (nxO 2 [] (some r))) with
     |none=>rw[hN]at ho;cases ho
     |some r' =>
      rw[hN,uE]at ho
      obtain⟨l,h1,h2,h3⟩:=ziE hN;injection h1 with h1;subst h1;have:=(zbZ (f1+1) r' y rb (h3 (pS.out.good HG.out _ rfl)) ho).2;omega
    clear j5;go_wp2_with fail
    try rw[oQ.out]
    refine mh.out.mono ?_;rintro e w7 ⟨rfl,rfl⟩;clear mh oQ;cases qs with
    |true =>
     obtain⟨dP,q8,pc⟩:=zbd (by decide) kN.out iZ.out;obtain⟨⟨y,rb⟩,hB⟩:∃u,B=some u:=by
      cases hB:B with
      |none=>have:=iZ.out;rw[hB]at this;cases this
      |some u=>exact⟨u,rfl⟩
     have hH:nxO 6 [59] (B.map (·.2))=some rb.tail:=by
      have:=iZ.out;rw[hB]at this ⊢
      rw[nxO,this,ud rfl];rfl
     rw[hH]at dP
     have nt:=p6.out y rb hB;have ru:rb.tail.length+1<=rb.length\/rb=[]:=by cases rb <;> simp
     have ru:rb.tail.length<=rb.length:=by simp
     have jP:=wJ dP;have cR:Hid (∃r' f' done',some rb.tail=some r'/\f'<=f/\3*r'.length+3<=f'/\n+1=done'.length/\done'.length+r'.length<=ts.length/\SO=(sepM rdAlt f' r').map (λy=>(done'++y.1,y.2))/\BuiltG pcA (ge+1) 110 W6 done' (.slice A2 (n+1) c2)):=wJ (by
      refine⟨rb.tail,f1,done++[.mk X.data.toList vl y],rfl,by omega,by omega,by rw[uf,<-gM.out.1];rfl,by have:=gM.out.2;rw[uf,we];omega,?_,mr.out y rb hB⟩;rw[oS.out,zb8,oU.out,hB]
      have lV:isO 6 [59] (some rb)=true:=by have:=iZ.out;rw[hB]at this;exact this
      simp only[uq,lV,wA,vJ];congr 1
      funext z
      simp)
     clear dP hB hH;go_wp2_with fail
     go_roundg (rb.tail.length+1)
     case measure=>simp;omega
     case rel=>exact⟨zl+1,true,some rb.tail,A2,n+1,c2,by simp,by go_num,rfl,jP.out,qb,kS,wJ (λ_=>cR.out),wJ (λh=>by cases h)⟩
    |false =>
     have cR:Hid (SO.map (·.2)=B.map (·.2)/\∀l rl,SO=some (l,rl)->n+1=l.length/\BuiltG pcA (ge+1) 110 W6 l (.slice A2 (n+1) c2)):=wJ (by
      have h1:=oS.out;rw[zb8,oU.out]at h1
      cases hB:B with
      |none=>rw[hB]at h1;rw[h1];exact⟨rfl,λl rl h=>by cases h⟩
      |some u =>
       rw[hB]at h1
       have lV:¬isO 6 [59] (some u.2)=true:=by have:=iZ.out;rw[hB]at this;rw[show isO 6 [59] (some u.2)=false from this];decide
       simp only[uq,ue lV]at h1;rw[h1]
       refine⟨rfl,λl rl h=>?_⟩;injection h with h;injection h with h _;subst h;exact⟨by rw[uf,<-gM.out.1];rfl,mr.out u.1 u.2 hB⟩)
     go_wp2_with fail
     go_roundg 0
     case measure=>simp
     case rel=>exact⟨zl,false,B.map (·.2),A2,n+1,c2,by simp,rfl,rfl,kN.out,qb,kS,wJ (λh=>by cases h),wJ (λ_=>cR.out)⟩
end Go.Proofs.YtknkclefoiohpaaGreatDoor
namespace Go.Proofs.YtknkclefoiohpaaGreatDoor
open Go.RowKit Lx Tx Sx
set_option maxRecDepth 100000
theorem zn4(t:Tok)(h:Lx.Good t)(he:t.text=[40]):t.kind=6:=by
 obtain⟨-,h2,-⟩:=h;rw[he,show first [40]=(6,1) by decide +kernel]at h2
 injection h2 with h2;exact h2.symm
def cC(c:C9):List Value:=[.int .i64 c.k,.string c.x,.bool c.t,.int .i64 c.K,.string c.X,.int .i64 c.Z,.slice c.B c.m c.q,.slice c.KA c.kn c.kc,.slice c.LA c.ln c.lc]
def appO(f:Nat)(p:Option (List Tok)):Option (Ex × List Tok):=(p.bind (rdAtom f)).bind λy=>(zaC zaN id rdAtom f y.2).map λz=>(z.1.foldl Ex.app y.1,z.2)
theorem zn5(f:Nat)(p:Option (List Tok))(h1:isO 6 [92] p=false)(h2:isO 3 wLet p=false)(h3:isO 3 wCase p=false):p.bind (rdE (f+2))=appO f p:=by
 cases p with
 |none=>rfl
 |some l =>
  rw[zba _ _ (by decide)]at h1 h2 h3
  rw[uE,zcE,ue (by rw[h1];decide),ue (by rw[h2];decide),ue (by rw[h3];decide),zhE,appO,uE]
  cases rdAtom f l <;> rfl
def goO(P:Option (List Tok)):Bool:=match P with
 |none=>false
 |some r=>zaN r
def AppH(ts:List Tok)(f:Nat)(O:Option (Ex × List Tok))(w W1:World)(ge:Nat)(gg:Nat)(vk:Value)(wr:World):Prop :=
 ∃(zk:Int) (P:Option (List Tok)) (c:C9),gg=P.elim 0 (λr=>r.length+1)/\vk=.int .i64 zk/\PAt ts P zk/\Hid (Blk wr ge 48 (cC c).toArray)/\Hid (Chg (only ge) W1 wr) /\
  Hid (P=none->O=none)/\Hid (∀r,P=some r->∃acc f',f'<=f/\3*r.length+2<=f'/\O=(zaC zaN id rdAtom f' r).map (λz=>(z.1.foldl Ex.app acc,z.2))/\pcE.Cs (λg=>(w.heap.size<g/\g<wr.heap.size)/\g≠ge) wr acc (cC c))
set_option maxRecDepth 10000000 in
theorem zeG(f:Nat)(ts:List Tok)(v:Value)(hG:AllG ts)(hn:ts.length<=100000)(IH:At8 ts v f)(w:World)(p:Option (List Tok))(z:Int)(hv:RdT w v ts)(hp:PAt ts p z)(h1:isO 6 [92] p=false)(h2:isO 3 wLet p=false)(h3:isO 3 wCase p=false)(hf:∀r,p=some r->3*r.length+3<=f+2):Calls Tryz.prog 44 #[v,.int .i64 z] w (XP8 ts w (p.bind (rdE (f+2)))):=by
 rw[zn5 f p h1 h2 h3]
 obtain⟨A0,c0,dv,-⟩:=id hv;obtain⟨N0,lg⟩:∃n,ts.length=n:=⟨_,rfl⟩;have fD:=wJ lg;rw[lg]at dv
 subst dv;have eE:Hid (∀W,Below w.heap.size w W->Calls Tryz.prog 34 #[.slice A0 N0 c0,.int .i64 z,.int .i64 6,.string ⟨#[92]⟩] W λe w'=>e=.returned (.bool false)/\W=w'):=wJ λW hb=>by
  have:=zaY (.slice A0 N0 c0) ts _ _ 6 ⟨#[92]⟩ 6 rfl (by decide) W (hv.below hb) hp;rwa [show(⟨#[92]⟩:ByteArray).data.toList=[92] from rfl,h1]at this
 have js:Hid (∀W,Below w.heap.size w W->Calls Tryz.prog 34 #[.slice A0 N0 c0,.int .i64 z,.int .i64 3,.string ⟨#[108,101,116]⟩] W λe w'=>e=.returned (.bool false)/\W=w'):=wJ λW hb=>by
  have:=zaY (.slice A0 N0 c0) ts _ _ 3 ⟨#[108,101,116]⟩ 3 rfl (by decide) W (hv.below hb) hp;rwa [show(⟨#[108,101,116]⟩:ByteArray).data.toList=wLet from rfl,h2]at this
 have tv:Hid (∀W,Below w.heap.size w W->Calls Tryz.prog 34 #[.slice A0 N0 c0,.int .i64 z,.int .i64 3,.string ⟨#[99,97,115,101]⟩] W λe w'=>e=.returned (.bool false)/\W=w'):=wJ λW hb=>by
  have:=zaY (.slice A0 N0 c0) ts _ _ 3 ⟨#[99,97,115,101]⟩ 3 rfl (by decide) W (hv.below hb) hp;rwa [show(⟨#[99,97,115,101]⟩:ByteArray).data.toList=wCase from rfl,h3]at this
 have HR:=wJ (λW (hb:Below w.heap.size w W)=>IH f (tV _) W p z (hv.below hb) hp (λr h=>by have:=hf r h;omega));obtain⟨O,hO⟩:∃O,appO f p=O:=⟨_,rfl⟩;rw[hO]
 rw[appO]at hO
 obtain⟨M,hM⟩:∃M,p.bind (rdAtom f)=M:=⟨_,rfl⟩;have hlen:∀y r,M=some (y,r)->3*r.length+2<=f:=λy r h=>by
  cases oj:p with
  |none=>rw[oj]at hM;rw[<-hM]at h;cases h
  |some l =>
   rw[oj,uE]at hM
   obtain⟨-,-,h5⟩:=(rd_facts f).2.2.2.2.2.2 l y r (hp.good hG l oj) (hM.trans h);have:=wt_pos y;have:=hf l oj;omega
 rw[hM]at HR hO
 have HO:=wJ hO;have fT:=wJ hlen;have HV:=wJ hv;have bq:=wJ IH;have HG:=wJ hG;obtain⟨W0,ai⟩:∃W,w.alloc (.cells #[.int .i64 0,.string ⟨#[]⟩,.bool false,.int .i64 0,.string ⟨#[]⟩,.int .i64 0,.slice none 0 0,.slice none 0 0,.slice none 0 0] 48)=W:=⟨_,rfl⟩;have fX:Below w.heap.size w W0:=ai▸(ua _ w).alloc (tV _) _;have eI:w.heap.size+1<=W0.heap.size/\W0.heap.size<=w.heap.size+1:=by rw[<-ai];simp
 have aa:Blk W0 w.heap.size 48 #[.int .i64 0,.string ⟨#[]⟩,.bool false,.int .i64 0,.string ⟨#[]⟩,.int .i64 0,.slice none 0 0,.slice none 0 0,.slice none 0 0]:=ai▸tW _ _;have cM:=wJ fX;have aE:=wJ aa;have eW:N0<=100000:=by omega
 clear hv h1 h2 h3 hf IH hp hO fX aa hG hM hlen lg;go_enter Tryz.func44,Tryz.ntmps44
 go_wp2_with fail
 try rw[ai]
 refine(eE.out _ cM.out).mono ?_;rintro e w1 ⟨rfl,rfl⟩;clear eE ai;go_wp2_with fail
 refine(js.out _ cM.out).mono ?_;rintro e w1 ⟨rfl,rfl⟩;clear js;go_wp2_with fail
 refine(tv.out _ cM.out).mono ?_;rintro e w1 ⟨rfl,rfl⟩;clear tv;go_wp2_with fail
 refine(HR.out _ cM.out).mono ?_;rintro e w1 ⟨b1,cs,ze,bA,rfl,iN,au⟩;obtain⟨ck,cx,ct,cK,cX,cZ,cB,cm,cq,aU,aR,aS,aT,aP,aQ,rfl⟩:=bA;have bj:=b1.size;obtain⟨W1,aL⟩:∃W,w1.alloc (.cells #[.int .i64 ck,.string cx,.bool ct,.int .i64 cK,.string cX,.int .i64 cZ,.slice cB cm cq,.slice aU aR aS,.slice aT aP aQ] 48)=W:=⟨_,rfl⟩;have aX:Below w1.heap.size w1 W1:=aL▸(ua _ w1).alloc (tV _) _;have ph:w1.heap.size+1<=W1.heap.size/\W1.heap.size<=w1.heap.size+1:=by rw[<-aL];simp
 have oE:Blk W1 w1.heap.size 48 #[.int .i64 ck,.string cx,.bool ct,.int .i64 cK,.string cX,.int .i64 cZ,.slice cB cm cq,.slice aU aR aS,.slice aT aP aQ]:=aL▸tW _ _;have aJ:=wJ (cM.out.trans ((b1.mono (by omega)).trans (aX.mono (by omega))));have dO:=wJ ((aE.out.below b1 (by omega)).below aX (by omega));have ey:Hid (AppH ts f O w W1 w1.heap.size ((M.map (·.2)).elim 0 (λr=>r.length+1)) (.int .i64 ze) W1):=wJ (by
  refine⟨ze,M.map (·.2),⟨ck,cx,ct,cK,cX,cZ,cB,cm,cq,aU,aR,aS,aT,aP,aQ⟩,rfl,rfl,iN,wJ oE,wJ (Chg.refl _ _),wJ (λh=>?_),wJ (λr h=>?_)⟩
  ·cases hM:M with
   |none=>rw[<-HO.out,hM];rfl
   |some y=>rw[hM]at h;cases h
  ·cases hM:M with
   |none=>rw[hM]at h;cases h
   |some y =>
    rw[hM]at h
    replace h:y.2=r:=by injection h
    subst h;exact⟨y.1,f,tV _,fT.out y.1 y.2 hM,by rw[<-HO.out,hM];rfl,pcE.keep (λg hg=>⟨⟨by omega,by omega⟩,by omega⟩) (λg hg=>aX.block g hg.2) (au y.1 y.2 hM)⟩)
 obtain⟨ge,qt⟩:∃g,w1.heap.size=g:=⟨_,rfl⟩;have pz:=iN.lo;have ki:=wJ aL;rw[qt]at ey
 have HGE:=wJ qt;have hge3:w1.heap.size<=ge/\ge<=w1.heap.size:=by omega
 clear b1 aX oE iN au HR aE aL qt HO fT;go_wp2_with fail
 try rw[ki.out]
 rw[HGE.out]
 clear ki HGE;go_loopg [27] ((M.map (·.2)).elim 0 (λr=>r.length+1)) (λgg vk wr=>AppH ts f O w W1 ge gg vk wr)
 case atStart=>exact ey.out
 case round =>
  obtain⟨zk,P,c,rfl,rfl,jt,hE,hC,hN,hS⟩:=hrel;have dw:=hC.out.size;clear ey;have cN:Below w.heap.size w wr:=aJ.out.trans (hC.out.toBelow (by have:=aJ.out.size;omega) (λk hk=>by unfold only;omega));have ed:=wJ cN;have ef:=wJ (dO.out.same (hC.out.block _ (by omega) (by unfold only;omega)));have kh:=wJ jt;have aX:=cN.size;clear cN;obtain⟨wv,hwv⟩:∃y,y=wr:=⟨_,rfl⟩;subst hwv;go_upto_region 37 with fail
  go_cut [208] from 177 to 219 (λu wx=>u=.bool (goO P)/\wx=wv)
  case first =>
   rcases jt with⟨rfl,rfl⟩|⟨k,hk,rfl,rfl⟩
   ·clear hN hS hC
    go_wp2_with fail
    go_meet
    case rel=>exact⟨rfl,rfl⟩
   ·rw[fD.out]at hk
    by_cases ah:k<N0
    ·have kz:k<ts.length:=by rw[fD.out];exact ah
     obtain⟨g,c',dv,e0,e1,-⟩:=(HV.out.below ed.out).at_ k kz;rw[fD.out]at dv
     injection dv with q1 q2 q3;subst q1 q3;clear q2;obtain⟨Y,hY⟩:∃Y:ByteArray,⟨ts[k].text.toArray⟩=Y:=⟨_,rfl⟩;rw[hY]at e1
     obtain⟨m,hm⟩:∃m,ts[k].kind=m:=⟨_,rfl⟩;rw[hm]at e0
     have hYt:Y.data.toList=ts[k].text:=by rw[<-hY]
     have aV:=zaj e0;have iw:(0:Int)<=(k:Int):=by omega
     have gV:(k:Int)<(N0:Int):=by omega
     have iR:=HG.out _ (List.getElem_mem kz);have aH:goO (some (ts.drop k))=((m==1) ||(m==2) ||(Y.toList==[40])):=by
      rw[goO,zbm ts k kz,zaN,atomE,hm,pLp,isSign,hm,<-hYt,uK]
      by_cases h40:Y.data.toList=[40]
      ·have:=zn4 _ iR (by rw[<-hYt];exact h40)
       rw[hm]at this
       rw[this,h40];rfl
      ·rw[uo.2 h40];simp
     have dm1:((m:Int)==1)=(m==1):=by
      by_cases h:m=1
      ·rw[h];rfl
      ·rw[uo.2 h,uo];omega
     have dm2:((m:Int)==2)=(m==2):=by
      by_cases h:m=2
      ·rw[h];rfl
      ·rw[uo.2 h,uo];omega
     obtain⟨b1,aN⟩:∃q,(m==1)=q:=⟨_,rfl⟩;obtain⟨b2,aA⟩:∃q,(m==2)=q:=⟨_,rfl⟩;obtain⟨b3,eS⟩:∃q,(Y.toList==[40])=q:=⟨_,rfl⟩;rw[aN]at dm1
     rw[aA]at dm2
     rw[aN,aA,eS]at aH
     have eN:=wJ aH;clear aH aN aA hm hY hYt iR hN hS hC;rcases b1 with _|_
     ·rcases b2 with _|_
      ·rcases b3 with _|_
       ·go_wp2_with fail
        go_meet
        case rel=>exact⟨by rw[eN.out];rfl,rfl⟩
       ·go_wp2_with fail
        go_meet
        case rel=>exact⟨by rw[eN.out];rfl,rfl⟩
      ·go_wp2_with fail
       go_meet
       case rel=>exact⟨by rw[eN.out];rfl,rfl⟩
     ·go_wp2_with fail
      go_meet
      case rel=>exact⟨by rw[eN.out];rfl,rfl⟩
    ·have gV:¬(k:Int)<(N0:Int):=by omega
     have ii2:decide ((k:Int)<(N0:Int))=false:=ux gV;have iw:(0:Int)<=(k:Int):=by omega
     have HGO:Hid (goO (some (ts.drop k))=false):=wJ (by rw[goO,uD (by rw[fD.out];omega)];rfl);clear hN hS hC;go_wp2_with fail
     go_meet
     case rel=>exact⟨by rw[HGO.out],rfl⟩
  case rest =>
   obtain⟨rfl,rfl⟩:=hcut;have he:=hE.out;unfold cC at he;obtain⟨⟨g0,g1,g2,g3,g4,g5,g6,g7,g8⟩,⟨o0,o1,o2,o3,o4,o5,o6,o7,o8⟩,bB⟩:=zab he;obtain⟨⟨y0,y1,y2,y3,y4,y5,y6,y7,y8⟩,⟨z0,z1,z2,z3,z4,z5,z6,z7,z8⟩,nl⟩:=zab ef.out;obtain⟨qg,oh⟩:∃q,goO P=q:=⟨_,rfl⟩;rw[oh]
   cases qg with
   |false =>
    have HX:Hid (O.map (·.2)=P/\∀y r,O=some (y,r)->pcE.Cs (λg=>(w.heap.size<g/\g<wc.heap.size)/\g≠ge) wc y [.int .i64 c.k,.string c.x,.bool c.t,.int .i64 c.K,.string c.X,.int .i64 c.Z,.slice c.B c.m c.q,.slice c.KA c.kn c.kc,.slice c.LA c.ln c.lc]):=wJ (by
     cases hP:P with
     |none=>rw[hN.out hP];exact⟨rfl,λy r h=>by cases h⟩
     |some r =>
      obtain⟨acc,f',hff,mA,lS,nE⟩:=hS.out r hP;obtain⟨f1,rfl⟩:∃f1,f'=f1+1:=⟨f'-1,by omega⟩;rw[hP]at oh
      rw[lS,zaZ f1 _ oh]
      exact⟨rfl,λy r h=>by injection h with h;injection h with h _;subst h;exact nE⟩)
    clear hN hS hC he oh;go_wp2_with fail
    try simp only[Exit.inBlock,Exit.then]
    refine ub (zaa rfl _ _ w.heap.size 48 _ (0,0) _ rfl (zah _ _ _ _ _ _ _ _ _ ef.out) Tryz.underlying48 rfl (by kernel_rfl)) rfl ?_;exact zbF ed.out (by rw[HX.out.1];exact kh.out) (λy r ho=>pcE.keep (λg hg=>hg.1) (λ_ _=>rfl) (HX.out.2 y r ho))
   |true =>
    obtain⟨r,rfl⟩:∃r,P=some r:=by
     cases P with
     |none=>cases oh
     |some r=>exact⟨r,rfl⟩
    obtain⟨acc,f',hff,mA,lS,nE⟩:=hS.out r rfl;obtain⟨f1,rfl⟩:∃f1,f'=f1+1:=⟨f'-1,by omega⟩;have hR:=bq.out f1 (by omega) wc (some r) zk (HV.out.below ed.out) kh.out (λr' h=>by injection h with h;subst h;omega);rw[uE]at hR
    obtain⟨B,hB⟩:∃B,rdAtom f1 r=B:=⟨_,rfl⟩;rw[hB]at hR
    have HR:=wJ hR;have HOB:Hid ((B=none->O=none)/\∀y rb,B=some (y,rb)->3*rb.length+2<=f1/\rb.length<r.length/\O=(zaC zaN id rdAtom f1 rb).map (λz=>(z.1.foldl Ex.app (.app acc y),z.2))):=wJ (by
     refine⟨λh=>?_,λy rb h=>?_⟩
     ·rw[lS,zbj f1 r oh (hB.trans h)];rfl
     ·obtain⟨-,-,h5⟩:=(rd_facts f1).2.2.2.2.2.2 r y rb (kh.out.good HG.out r rfl) (hB.trans h)
      have:=wt_pos y;refine⟨by omega,by omega,?_⟩;rw[lS,za6 f1 r oh y rb (hB.trans h),vJ]
      rfl)
    have tS:=wJ nE;have qS:=wJ hE.out;unfold cC at qS;clear hN hS hR hB lS nE oh he g0 g1 g2 g3 g4 g5 g6 g7 g8 o0 o1 o2 o3 o4 o5 o6 o7 o8 y0 y1 y2 y3 y4 y5 y6 y7 y8 z0 z1 z2 z3 z4 z5 z6 z7 z8;go_wp2_with fail
    refine HR.out.mono ?_;rintro e w4 ⟨b4,ds,zl,bA,rfl,dW,iU⟩;obtain⟨dk,dx,dt,dK,dX,dZ,dB,dm,dq,dp,df,dh,dj,cY,dc,rfl⟩:=bA;have kp:=b4.size;obtain⟨W5,cW⟩:∃W,w4.alloc (.cells #[.int .i64 dk,.string dx,.bool dt,.int .i64 dK,.string dX,.int .i64 dZ,.slice dB dm dq,.slice dp df dh,.slice dj cY dc] 48)=W:=⟨_,rfl⟩;have pI:Below w4.heap.size w4 W5:=cW▸(ua _ w4).alloc (tV _) _;have ee:w4.heap.size+1<=W5.heap.size/\W5.heap.size<=w4.heap.size+1:=by rw[<-cW];simp
    have hx5:Blk W5 w4.heap.size 48 #[.int .i64 dk,.string dx,.bool dt,.int .i64 dK,.string dX,.int .i64 dZ,.slice dB dm dq,.slice dp df dh,.slice dj cY dc]:=cW▸tW _ _;have cJ:Below wc.heap.size wc W5:=b4.trans (pI.mono kp);have ka:=qS.out.below cJ bB;have lh:=wJ hx5;have tD:=wJ ka;have gk:=wJ cJ;have kN:=wJ dW;have HDS:Hid (∀y r,B=some (y,r)->pcE.Cs (λg=>wc.heap.size<=g/\g<w4.heap.size) W5 y [.int .i64 dk,.string dx,.bool dt,.int .i64 dK,.string dX,.int .i64 dZ,.slice dB dm dq,.slice dp df dh,.slice dj cY dc]):=wJ λy r ho=>pcE.keep (λ_ h=>h) (λg hg=>pI.block g hg.2) (iU y r ho);have HAC5:=wJ (pcE.keep (S':=λg=>(w.heap.size<g/\g<wc.heap.size)/\g≠ge) (λ_ h=>h) (λg hg=>cJ.block g hg.1.2) tS.out);have s6:=wJ cW;obtain⟨⟨g0,g1,g2,g3,g4,g5,g6,g7,g8⟩,⟨o0,o1,o2,o3,o4,o5,o6,o7,o8⟩,hlg5⟩:=zab ka;obtain⟨⟨x0,x1,x2,x3,x4,x5,x6,x7,x8⟩,-,ic⟩:=zab hx5;clear b4 pI hx5 cJ ka dW iU cW HR tS;go_upto_region 39 with fail
    rw[s6.out]
    clear s6;obtain⟨W6,fo⟩:∃W,((((((((((W5.setCell ⟨ge,0,none⟩ (.int .i64 4)).setCell ⟨ge,1,none⟩ (.string ⟨#[]⟩)).setCell ⟨ge,2,none⟩ (.bool false)).setCell ⟨ge,3,none⟩ (.int .i64 0)).setCell ⟨ge,4,none⟩ (.string ⟨#[]⟩)).setCell ⟨ge,5,none⟩ (.int .i64 0)).setCell ⟨ge,6,none⟩ (.slice none 0 0)).setCell ⟨ge,7,none⟩ (.slice (some ⟨W5.heap.size,0,none⟩) 2 2)).setCell ⟨ge,8,none⟩ (.slice none 0 0)).alloc (.cells #[.int .i64 c.k,.string c.x,.bool c.t,.int .i64 c.K,.string c.X,.int .i64 c.Z,.slice c.B c.m c.q,.slice c.KA c.kn c.kc,.slice c.LA c.ln c.lc,.int .i64 dk,.string dx,.bool dt,.int .i64 dK,.string dX,.int .i64 dZ,.slice dB dm dq,.slice dp df dh,.slice dj cY dc] 48))=W:=⟨_,rfl⟩;have pj:W5.heap.size+1<=W6.heap.size/\W6.heap.size<=W5.heap.size+1:=by rw[<-fo,World.size_alloc,zak];omega
    have hf6:∀k,k<W5.heap.size->k≠ge->W6.heap[k]?=W5.heap[k]?:=λk h1 h2=>fo▸(uc _ _ _ (by rw[zak];exact h1)).trans (zaf _ _ _ _ _ _ _ _ _ _ _ _ h2);have he6:Blk W6 ge 48 #[.int .i64 4,.string ⟨#[]⟩,.bool false,.int .i64 0,.string ⟨#[]⟩,.int .i64 0,.slice none 0 0,.slice (some ⟨W5.heap.size,0,none⟩) 2 2,.slice none 0 0]:=fo▸Blk.alloc (zah _ _ _ _ _ _ _ _ _ tD.out) _;have hn6:Blk W6 W5.heap.size 48 #[.int .i64 c.k,.string c.x,.bool c.t,.int .i64 c.K,.string c.X,.int .i64 c.Z,.slice c.B c.m c.q,.slice c.KA c.kn c.kc,.slice c.LA c.ln c.lc,.int .i64 dk,.string dx,.bool dt,.int .i64 dK,.string dX,.int .i64 dZ,.slice dB dm dq,.slice dp df dh,.slice dj cY dc]:=fo▸alloc_at _ _ _ (by rw[zak]);have mC:Chg (only ge) W5 W6:=fo▸(((((((((((Chg.refl (only ge) W5).setCell (p:=⟨ge,0,none⟩) (.inr rfl) _).setCell (p:=⟨ge,1,none⟩) (.inr rfl) _).setCell (p:=⟨ge,2,none⟩) (.inr rfl) _).setCell (p:=⟨ge,3,none⟩) (.inr rfl) _).setCell (p:=⟨ge,4,none⟩) (.inr rfl) _).setCell (p:=⟨ge,5,none⟩) (.inr rfl) _).setCell (p:=⟨ge,6,none⟩) (.inr rfl) _).setCell (p:=⟨ge,7,none⟩) (.inr rfl) _).setCell (p:=⟨ge,8,none⟩) (.inr rfl) _).alloc _);have kS:Hid (Chg (only ge) W1 W6):=wJ ((hC.out.trans (Chg.of_below gk.out)).trans mC);have qb:Hid (Blk W6 ge 48 (cC ⟨4,⟨#[]⟩,false,0,⟨#[]⟩,0,none,0,0,some ⟨W5.heap.size,0,none⟩,2,2,none,0,0⟩).toArray):=wJ he6;have HY6:Hid (∀y rb,B=some (y,rb)->pcE.Cs (λg=>(w.heap.size<g/\g<W6.heap.size)/\g≠ge) W6 (.app acc y) (cC ⟨4,⟨#[]⟩,false,0,⟨#[]⟩,0,none,0,0,some ⟨W5.heap.size,0,none⟩,2,2,none,0,0⟩)):=wJ λy rb ho=>by
     refine⟨⟨none,0,some ⟨W5.heap.size,0,none⟩,0,none,0⟩,by simp[cC,exC,kdE,nmE,toE,tyE,tyC,zac,zad,Sx.strV],trivial,?_⟩;rw[ExIn]
     exact⟨_,rfl,⟨⟨by omega,by omega⟩,by omega⟩,zc2 (S:=λg=>(w.heap.size<g/\g<w4.heap.size)/\g≠ge) (w:=W5) (pcE.keep (λg hg=>⟨⟨hg.1.1,by omega⟩,hg.2⟩) (λ_ _=>rfl) HAC5.out) (pcE.keep (λg hg=>⟨⟨by omega,hg.2⟩,by omega⟩) (λ_ _=>rfl) (HDS.out y rb ho)) (λg hg=>⟨⟨hg.1.1,by omega⟩,hg.2⟩) (λg hg=>hf6 g (by omega) hg.2) hn6⟩
    have oQ:=wJ fo;clear fo hf6 he6 hn6 mC;go_upto_region 40 with fail
    rw[oQ.out]
    clear oQ g0 g1 g2 g3 g4 g5 g6 g7 g8 o0 o1 o2 o3 o4 o5 o6 o7 o8 x0 x1 x2 x3 x4 x5 x6 x7 x8;go_wp2_with fail
    go_roundg ((B.map (·.2)).elim 0 (λr=>r.length+1))
    case measure =>
     cases hB:B with
     |none=>simp
     |some u=>have:=(HOB.out.2 u.1 u.2 hB).2.1;simp;omega
    case rel =>
     refine⟨zl,B.map (·.2),_,rfl,rfl,kN.out,qb,kS,wJ (λh=>?_),wJ (λr' h=>?_)⟩
     ·cases hB:B with
      |none=>exact HOB.out.1 hB
      |some u=>rw[hB]at h;cases h
     ·cases hB:B with
      |none=>rw[hB]at h;cases h
      |some u =>
       rw[hB]at h
       replace h:u.2=r':=by injection h
       subst h;obtain⟨h1,-,h3⟩:=HOB.out.2 u.1 u.2 hB;exact⟨.app acc u.1,f1,by omega,h1,h3,HY6.out u.1 u.2 hB⟩
theorem zkD(ts:List Tok)(v:Value)(hG:AllG ts)(hn:ts.length<=100000):∀f,Rd8 ts v f/\At8 ts v f:=by
 have a0:At8 ts v 0:=by
  intro f1 h1 w p z hv hp hf;cases p with
  |none=>exact ziD 0 ts v hG hn w none z (λr h=>by cases h) hv hp (λr h=>by cases h)
  |some r=>have:=hf r rfl;omega
 have rn:∀(w:World) (z:Int),RdT w v ts->PAt ts none z->Calls Tryz.prog 44 #[v,.int .i64 z] w (XP8 ts w none):=λw z hv hp =>
  zeG 0 ts v hG hn a0 w none z hv hp rfl rfl rfl (λr h=>by cases h)
 intro f;induction f with
 |zero =>
  refine⟨?_,a0⟩;intro f1 h1 w p z hv hp hf;cases p with
  |none=>exact rn w z hv hp
  |some r=>have:=hf r rfl;omega
 |succ f ih =>
  obtain⟨q7,ihA⟩:=ih;refine⟨?_,?_⟩
  ·intro f1 h1 w p z hv hp hf
   by_cases h:f1<=f
   ·exact q7 f1 h w p z hv hp hf
   ·obtain rfl:f1=f+1:=by omega
    cases hP:p with
    |none=>rw[hP]at hp;exact rn w z hv hp
    |some r =>
     rw[hP]at hp hf
     rcases hp with⟨h',-⟩|⟨i,hi,rfl,hr⟩
     ·cases h'
     ·injection hr with hr
      subst hr;rw[uE]
      have hl:=hf _ rfl;obtain⟨g,rfl⟩:∃g,f=g+2:=⟨f-2,by omega⟩;cases q1:isO 6 [92] (some (ts.drop i)) with
      |true=>exact zh5 (g+2) ts v hn q7 w i hv q1 hl
      |false =>
       cases q2:isO 3 wLet (some (ts.drop i)) with
       |true=>exact zh6 (g+1) ts v hG hn q7 w i hv q2 hl
       |false =>
        cases q3:isO 3 wCase (some (ts.drop i)) with
        |true=>exact zjq g ts v hG hn q7 w i hv q3 hl
        |false=>exact zeG (g+1) ts v hG hn (λf2 h2=>ihA f2 (by omega)) w (some (ts.drop i)) (i:Nat) hv (PAt.some_ ts i hi) q1 q2 q3 hf
  ·intro f1 h1 w p z hv hp hf
   by_cases h:f1<=f
   ·exact ihA f1 h w p z hv hp hf
   ·obtain rfl:f1=f+1:=by omega
    exact ziD f ts v hG hn w p z (λ_ _=>q7) hv hp hf
set_option maxRecDepth 100000
theorem zeH {B:Nat} {w w':World} {g:Nat}(h:Below B w w')(hg:B<=g)(b0 b1 b2 b3 b4 b5 b6 b7 b8 b9 cr fC e6 fB fA fz fx:Value):Below B w (((((((((((((((((w'.setCell ⟨g,0,none⟩ b0).setCell ⟨g,1,none⟩ b1).setCell ⟨g,2,none⟩ b2).setCell ⟨g,3,none⟩ b3).setCell ⟨g,4,none⟩ b4).setCell ⟨g,5,none⟩ b5).setCell ⟨g,6,none⟩ b6).setCell ⟨g,7,none⟩ b7).setCell ⟨g,8,none⟩ b8).setCell ⟨g,9,none⟩ b9).setCell ⟨g,10,none⟩ cr).setCell ⟨g,11,none⟩ fC).setCell ⟨g,12,none⟩ e6).setCell ⟨g,13,none⟩ fB).setCell ⟨g,14,none⟩ fA).setCell ⟨g,15,none⟩ fz).setCell ⟨g,16,none⟩ fx) :=
 ((((((((((((((((h.setCell (p:=⟨g,0,none⟩) hg b0).setCell (p:=⟨g,1,none⟩) hg b1).setCell (p:=⟨g,2,none⟩) hg b2).setCell (p:=⟨g,3,none⟩) hg b3).setCell (p:=⟨g,4,none⟩) hg b4).setCell (p:=⟨g,5,none⟩) hg b5).setCell (p:=⟨g,6,none⟩) hg b6).setCell (p:=⟨g,7,none⟩) hg b7).setCell (p:=⟨g,8,none⟩) hg b8).setCell (p:=⟨g,9,none⟩) hg b9).setCell (p:=⟨g,10,none⟩) hg cr).setCell (p:=⟨g,11,none⟩) hg fC).setCell (p:=⟨g,12,none⟩) hg e6).setCell (p:=⟨g,13,none⟩) hg fB).setCell (p:=⟨g,14,none⟩) hg fA).setCell (p:=⟨g,15,none⟩) hg fz).setCell (p:=⟨g,16,none⟩) hg fx
def XPD(ts:List Tok)(w:World)(o:Option (De × List Tok))(e:Ending)(w':World):Prop :=
 Below w.heap.size w w'/\∃(cs:List Value) (z:Int),shD cs/\e=.returned (.tuple #[.agg cs.toArray,.int .i64 z])/\PAt ts (o.map (·.2)) z/\∀x r,o=some (x,r)->pcD.Cs (λg=>w.heap.size<=g/\g<w'.heap.size) w' x cs
theorem XPD.drew {ts:List Tok} {w W:World} {o:Option (De × List Tok)} {e:Ending}(h:XPD ts w o e W):XPD ts w o e W.drew:=by
 obtain⟨h1,cs,z,h2,h3,h4,h5⟩:=h;exact⟨h1.drew,cs,z,h2,h3,h4,λx r ho=>pcD.keep (w:=W) (S:=λg=>w.heap.size<=g/\g<W.heap.size) (λ_ h=>h) (λ_ _=>rfl) (h5 x r ho)⟩
def rdEE(r:List Tok):Option (Ex × List Tok):=rdE (zaJ r) r
theorem zpR(l:List Tok)(h:isO 3 wData (some l)=false):rdDecl l=if isO 6 [58] (nxO 1 [] (some l))=true then((nxO 6 [58] (nxO 1 [] (some l))).bind typ).map λy=>(.sig (txO (some l)) y.1,y.2) else((nxO 6 [61] (nxO 1 [] (some l))).bind rdEE).map λy=>(.bind (txO (some l)) y.1,y.2):=by
 rw[zba _ _ (by decide)]at h
 rw[zdX,h,ue (by decide),decN,zcO]
 by_cases h1:(hd l).kind=1
 ·rw[ud h1,ud h1,decG,zba _ _ (by decide),zaP _ _ (by decide),zaP _ _ (by decide)]
  by_cases h2:isHd l.tail 6 [58]=true
  ·rw[ud h2,ud h2,ud h2];rfl
  ·rw[ue h2,ue h2,decH]
   by_cases h3:isHd l.tail 6 [61]=true
   ·rw[ud h3,ud h3];rfl
   ·rw[ue h3,ue h3];rfl
 ·rw[ue h1,ue h1];rfl
theorem zmB(ts:List Tok)(v:Value)(p:Option (List Tok))(z:Int)(w:World)(hG:AllG ts)(hn:ts.length<=100000)(hv:RdT w v ts)(hp:PAt ts p z):Calls Tryz.prog 44 #[v,.int .i64 z] w (XP8 ts w (p.bind rdEE)):=by
 cases p with
 |none=>exact(zkD ts v hG hn 3).1 3 (tV _) w none z hv hp (λr h=>by cases h)
 |some r=>exact(zkD ts v hG hn (zaJ r)).1 (zaJ r) (tV _) w (some r) z hv hp (λr h=>by injection h with h;subst h;unfold zaJ;omega)
set_option maxRecDepth 100000
theorem zjr(ts:List Tok)(v:Value)(hG:AllG ts)(hn:ts.length<=100000)(w:World)(i:Nat)(hi:i<=ts.length)(hv:RdT w v ts)(hq:isO 3 wData (some (ts.drop i))=false):Calls Tryz.prog 33 #[v,.int .i64 (i:Nat)] w (XPD ts w (rdDecl (ts.drop i))):=by
 have fI:PAt ts (some (ts.drop i)) (i:Nat):=PAt.some_ ts i hi;have eE:Hid (∀W,Below w.heap.size w W->Calls Tryz.prog 34 #[v,.int .i64 (i:Nat),.int .i64 3,.string ⟨#[100,97,116,97]⟩] W λe w'=>e=.returned (.bool false)/\W=w'):=wJ λW hb=>by
  have:=zaY v ts _ _ 3 ⟨#[100,97,116,97]⟩ 3 rfl (by decide) W (hv.below hb) fI;rwa [show(⟨#[100,97,116,97]⟩:ByteArray).data.toList=wData from rfl,hq]at this
 obtain⟨O,hO⟩:∃O,rdDecl (ts.drop i)=O:=⟨_,rfl⟩;rw[hO]
 rw[zpR _ hq]at hO
 have mf:=wJ (λW (hb:Below w.heap.size w W)=>zaL v ts _ _ 1 ⟨#[]⟩ 1 rfl (by decide) W (hv.below hb) hn fI);have fY:=wJ (λW (hb:Below w.heap.size w W)=>zcN v ts _ _ W (hv.below hb) fI);obtain⟨P1,jl⟩:∃P,nxO 1 [] (some (ts.drop i))=P:=⟨_,rfl⟩;obtain⟨X,hX⟩:∃X:ByteArray,⟨(txO (some (ts.drop i))).toArray⟩=X:=⟨_,rfl⟩;have dQ:txO (some (ts.drop i))=X.data.toList:=by rw[<-hX]
 rw[jl,dQ]at hO
 rw[hX]at fY
 have HO:=wJ hO;have lk:=wJ jl;have HV:=wJ hv;have HG:=wJ hG;have hi9:(i:Int)<=100000:=by omega
 obtain⟨W0,ai⟩:∃W,w.alloc (.cells #[.int .i64 0,.string ⟨#[]⟩,.slice none 0 0,.slice none 0 0,.int .i64 0,.string ⟨#[]⟩,.int .i64 0,.slice none 0 0,.int .i64 0,.string ⟨#[]⟩,.bool false,.int .i64 0,.string ⟨#[]⟩,.int .i64 0,.slice none 0 0,.slice none 0 0,.slice none 0 0] 81)=W:=⟨_,rfl⟩;have fX:Below w.heap.size w W0:=ai▸(ua _ w).alloc (tV _) _;have eI:w.heap.size+1<=W0.heap.size/\W0.heap.size<=w.heap.size+1:=by rw[<-ai];simp
 have aa:Blk W0 w.heap.size 81 #[.int .i64 0,.string ⟨#[]⟩,.slice none 0 0,.slice none 0 0,.int .i64 0,.string ⟨#[]⟩,.int .i64 0,.slice none 0 0,.int .i64 0,.string ⟨#[]⟩,.bool false,.int .i64 0,.string ⟨#[]⟩,.int .i64 0,.slice none 0 0,.slice none 0 0,.slice none 0 0]:=ai▸tW _ _;have cM:=wJ fX;have aE:=wJ aa;clear hv hq fI jl hX dQ hO fX aa hG hi;go_enter Tryz.func33,Tryz.ntmps33
 go_wp2_with fail
 try rw[ai]
 refine(eE.out _ cM.out).mono ?_;rintro e w1 ⟨rfl,rfl⟩;clear eE ai;go_wp2_with fail
 refine(mf.out _ cM.out).mono ?_;rintro e w1 ⟨rfl,za,rfl,dr⟩;replace dr:=(show(⟨#[]⟩:ByteArray).data.toList=[] from rfl)▸dr;rw[lk.out]at dr
 have nI:=wJ dr;have jU:=wJ (zaY v ts P1 za 6 ⟨#[58]⟩ 6 rfl (by decide) W0 (HV.out.below cM.out) dr);have pz:=dr.lo;obtain⟨q,hq⟩:∃q,isO 6 [58] P1=q:=⟨_,rfl⟩;rw[show(⟨#[58]⟩:ByteArray).data.toList=[58] from rfl,hq]at jU
 have HQ:=wJ hq;clear dr mf hq;go_wp2_with fail
 refine jU.out.mono ?_;rintro e w1 ⟨rfl,rfl⟩;clear jU;cases q with
 |true =>
  obtain⟨dP,hza0,hza1⟩:=zbd (by decide) nI.out HQ.out;have HT:=wJ (zfk v ts _ (za+1) W0 (HV.out.below cM.out) HG.out hn dP);have cj:Hid (((nxO 6 [58] P1).bind typ).map (λy=>(De.sig X.data.toList y.1,y.2))=O):=wJ (by rw[<-HO.out,HQ.out,ud rfl]);obtain⟨M,hM⟩:∃M,(nxO 6 [58] P1).bind typ=M:=⟨_,rfl⟩;rw[hM]at HT cj
  clear dP hM HO;go_wp2_with fail
  refine HT.out.mono ?_;rintro e w3 ⟨b3,tK,tX,tZ,tA,tm,tc,zt,rfl,lz,jw⟩;have eA:=b3.size;obtain⟨W3,cO⟩:∃W,w3.alloc (.cells #[.int .i64 tK,.string tX,.int .i64 tZ,.slice tA tm tc] 44)=W:=⟨_,rfl⟩;have aX:Below w3.heap.size w3 W3:=cO▸(ua _ w3).alloc (tV _) _;have pg:w3.heap.size+1<=W3.heap.size/\W3.heap.size<=w3.heap.size+1:=by rw[<-cO];simp
  have eM:Blk W3 w3.heap.size 44 #[.int .i64 tK,.string tX,.int .i64 tZ,.slice tA tm tc]:=cO▸tW _ _;have bU:Hid (Below w.heap.size w W3):=wJ (cM.out.trans ((b3.mono (by omega)).trans (aX.mono (by omega))));have bR:=wJ ((aE.out.below b3 (by omega)).below aX (by omega));have nW:=wJ eM;have l9:=wJ lz;have nL:Hid (∀t r,M=some (t,r)->RdV (λg=>w.heap.size<g/\g<w3.heap.size) W3 t (.agg #[.int .i64 tK,.string tX,.int .i64 tZ,.slice tA tm tc])):=wJ λt r ho=>(jw t r ho).keep (λg hg=>⟨by omega,hg.2⟩) (λg hg=>aX.block g hg.2);have jM:=wJ cO;clear b3 aX eM lz jw HT cO;go_upto_region 23 with fail
  rw[jM.out]
  clear jM;obtain⟨g0,g1,g2,g3,-,-,-,-,bB⟩:=zae nW.out;obtain⟨⟨m0,m1,m2,m3,m4,m5,m6,m7,m8,m9,m10,m11,m12,m13,m14,m15,m16⟩,⟨y0,y1,y2,y3,y4,y5,y6,y7,y8,y9,y10,y11,y12,y13,y14,y15,y16⟩,pA⟩:=zay bR.out;go_region_with (go_at_call 81;(with_reducible refine(fY.out _ (by first|exact bU.out|exact bU.out.drew)).mono ?_);rintro e w5 ⟨rfl,rfl⟩)
  all_goals
   go_wp2_with fail
   refine ub (zaa rfl _ _ w.heap.size 81 _ (0,0) _ rfl (zgf _ _ _ _ _ _ _ _ _ _ _ _ _ _ _ _ _ bR.out).drew Tryz.underlying81 rfl (by kernel_rfl)) rfl ?_;refine XPD.drew ⟨zeH bU.out (tV _) _ _ _ _ _ _ _ _ _ _ _ _ _ _ _ _ _,_,zt,⟨_,_,_,_,_,_,_,_,_,_,_,_,_,_,_,_,_,_,_,_,_,_,_,_,_,_,_,_,_,rfl⟩,rfl,?_,λy r ho=>?_⟩
   ·rw[<-cj.out,vJ];exact l9.out
   ·rw[<-cj.out]at ho
    cases hM:M with
    |none=>rw[hM]at ho;cases ho
    |some u =>
     rw[hM]at ho
     simp only[uq,um,uw]at ho;obtain⟨rfl,-⟩:=ho;obtain⟨A',a',cd,jK⟩:=nL.out u.1 u.2 hM;injection cd with cd;have cd:=uC Array.toList cd;simp only[vH,Value.int.injEq,Value.string.injEq,Value.slice.injEq,wz,wj]at cd;obtain⟨rfl,rfl,rfl,rfl,rfl,rfl⟩:=cd;exact⟨tA,tc,rfl,Args.keep (λg hg=>⟨by omega,by rw[zdU];omega⟩) (λg hg=>zen _ _ _ _ _ _ _ _ _ _ _ _ _ _ _ _ _ _ _ _ (by omega)) _ _ jK⟩
 |false =>
  have cj:Hid (((nxO 6 [61] P1).bind rdEE).map (λy=>(De.bind X.data.toList y.1,y.2))=O):=wJ (by rw[<-HO.out,HQ.out,ue (by decide)]);have HNE:=wJ (zaL v ts P1 za 6 ⟨#[61]⟩ 6 rfl (by decide) W0 (HV.out.below cM.out) hn nI.out);clear HO;go_wp2_with fail
  refine HNE.out.mono ?_;rintro e w1 ⟨rfl,zb,rfl,fH⟩;replace fH:=(show(⟨#[61]⟩:ByteArray).data.toList=[61] from rfl)▸fH;have HT:=wJ (zmB ts v _ zb W0 HG.out hn (HV.out.below cM.out) fH);obtain⟨M,hM⟩:∃M,(nxO 6 [61] P1).bind rdEE=M:=⟨_,rfl⟩;rw[hM]at HT cj
  clear fH HNE hM;go_wp2_with fail
  refine HT.out.mono ?_;rintro e w3 ⟨b3,cs,zt,bA,rfl,lz,jw⟩;obtain⟨ck,cx,ct,cK,cX,cZ,cB,cm,cq,aU,aR,aS,aT,aP,aQ,rfl⟩:=bA;have eA:=b3.size;obtain⟨W3,cO⟩:∃W,w3.alloc (.cells #[.int .i64 ck,.string cx,.bool ct,.int .i64 cK,.string cX,.int .i64 cZ,.slice cB cm cq,.slice aU aR aS,.slice aT aP aQ] 48)=W:=⟨_,rfl⟩;have aX:Below w3.heap.size w3 W3:=cO▸(ua _ w3).alloc (tV _) _;have pg:w3.heap.size+1<=W3.heap.size/\W3.heap.size<=w3.heap.size+1:=by rw[<-cO];simp
  have eM:Blk W3 w3.heap.size 48 #[.int .i64 ck,.string cx,.bool ct,.int .i64 cK,.string cX,.int .i64 cZ,.slice cB cm cq,.slice aU aR aS,.slice aT aP aQ]:=cO▸tW _ _;have bU:Hid (Below w.heap.size w W3):=wJ (cM.out.trans ((b3.mono (by omega)).trans (aX.mono (by omega))));have bR:=wJ ((aE.out.below b3 (by omega)).below aX (by omega));have nW:=wJ eM;have l9:=wJ lz;have nL:Hid (∀x r,M=some (x,r)->pcE.Cs (λg=>w.heap.size<g/\g<w3.heap.size) W3 x [.int .i64 ck,.string cx,.bool ct,.int .i64 cK,.string cX,.int .i64 cZ,.slice cB cm cq,.slice aU aR aS,.slice aT aP aQ]):=wJ λx r ho=>pcE.keep (λg hg=>⟨by omega,hg.2⟩) (λg hg=>aX.block g hg.2) (jw x r ho);have jM:=wJ cO;clear b3 aX eM lz jw HT cO;go_upto_region 25 with fail
  rw[jM.out]
  clear jM;obtain⟨⟨g0,g1,g2,g3,g4,g5,g6,g7,g8⟩,-,bB⟩:=zab nW.out;obtain⟨⟨m0,m1,m2,m3,m4,m5,m6,m7,m8,m9,m10,m11,m12,m13,m14,m15,m16⟩,⟨y0,y1,y2,y3,y4,y5,y6,y7,y8,y9,y10,y11,y12,y13,y14,y15,y16⟩,pA⟩:=zay bR.out;go_region_with (go_at_call 81;(with_reducible refine(fY.out _ (by first|exact bU.out|exact bU.out.drew)).mono ?_);rintro e w5 ⟨rfl,rfl⟩)
  all_goals
   go_wp2_with fail
   refine ub (zaa rfl _ _ w.heap.size 81 _ (0,0) _ rfl (zgf _ _ _ _ _ _ _ _ _ _ _ _ _ _ _ _ _ bR.out).drew Tryz.underlying81 rfl (by kernel_rfl)) rfl ?_;refine XPD.drew ⟨zeH bU.out (tV _) _ _ _ _ _ _ _ _ _ _ _ _ _ _ _ _ _,_,zt,⟨_,_,_,_,_,_,_,_,_,_,_,_,_,_,_,_,_,_,_,_,_,_,_,_,_,_,_,_,_,rfl⟩,rfl,?_,λy r ho=>?_⟩
   ·rw[<-cj.out,vJ];exact l9.out
   ·rw[<-cj.out]at ho
    cases hM:M with
    |none=>rw[hM]at ho;cases ho
    |some u =>
     rw[hM]at ho
     simp only[uq,um,uw]at ho;obtain⟨rfl,-⟩:=ho;obtain⟨PP,he,h1,h2⟩:=nL.out u.1 u.2 hM;refine⟨PP,?_,h1.keep (λg hg=>⟨by omega,by rw[zdU];omega⟩) (λg hg=>zen _ _ _ _ _ _ _ _ _ _ _ _ _ _ _ _ _ _ _ _ (by omega)),ExIn.keep (λg hg=>⟨by omega,by rw[zdU];omega⟩) (λg hg=>zen _ _ _ _ _ _ _ _ _ _ _ _ _ _ _ _ _ _ _ _ (by omega)) _ _ _ h2⟩;rw[<-he];rfl
end Go.Proofs.YtknkclefoiohpaaGreatDoor
namespace Go.Proofs.YtknkclefoiohpaaGreatDoor
open Go.RowKit Lx Tx Sx
set_option maxRecDepth 100000
def conB(P:Option (List Tok)):Option (Ty × List Tok):=(nxO 6 [58] (nxO 2 [] P)).bind typ
theorem zpS(l:List Tok):rdCon l=(conB (some l)).map λz=>((txO (some l),z.1),z.2):=by
 rw[zhH,conF,conB,zcO]
 by_cases h:(hd l).kind=2
 ·rw[ud h,ud h,zaP _ _ (by decide)]
  by_cases h2:isHd l.tail 6 [58]=true
  ·rw[ud h2,ud h2];rfl
  ·rw[ue h2,ue h2];rfl
 ·rw[ue h,ue h];rfl
def sepC(r:List Tok):Option (List (Nm × Ty) × List Tok):=sepM (λ_=>rdCon) (r.length+1) r
def datP(l:List Tok):Option (List Tok):=nxO 6 [123] (nsR (nxO 2 [] (some l)))
theorem zoj(l:List Tok):(isO 6 [125] (datP l)=true->rdData l=(nxO 6 [125] (datP l)).map λr=>(.data (txO (some l)) (nsO (nxO 2 [] (some l))) [],r)) /\
  (isO 6 [125] (datP l)=false->(rdData l).map (·.2)=nxO 6 [125] (((datP l).bind sepC).map (·.2)) /\
   ∀x r,rdData l=some (x,r)->∃cs rc,(datP l).bind sepC=some (cs,rc)/\x=.data (txO (some l)) (nsO (nxO 2 [] (some l))) cs):=by
 rw[zge,zgN,datP,zcO]
 by_cases h:(hd l).kind=2
 ·simp only[ud h]
  rw[show nsR (some l.tail)=some (vars l.tail).2 from rfl,show nsO (some l.tail)=(vars l.tail).1 from rfl,zaP 6 [123] (by decide),brF]
  by_cases h2:isHd (vars l.tail).2 6 [123]=true
  ·simp only[ud h2]
   rw[zba _ _ (by decide),zaP 6 [125] (by decide)]
   by_cases h3:isHd (vars l.tail).2.tail 6 [125]=true
   ·simp only[ud h3]
    exact⟨λ_=>rfl,λh=>by rw[h3]at h;cases h⟩
   ·simp only[ue h3]
    refine⟨λh=>absurd h h3,λ_=>?_⟩;rw[uE,sepC]
    cases sepM (λ_=>rdCon) ((vars l.tail).2.tail.length+1) (vars l.tail).2.tail with
    |none=>exact⟨rfl,λx r h=>by cases h⟩
    |some z =>
     simp only;rw[uq,zaP 6 [125] (by decide)]
     by_cases h4:isHd z.2 6 [125]=true
     ·rw[ud h4,ud h4]
      refine⟨rfl,λx r h=>?_⟩;simp only[uq,um,uw]at h;exact⟨z.1,z.2,rfl,h.1.symm⟩
     ·rw[ue h4,ue h4]
      exact⟨rfl,λx r h=>by cases h⟩
  ·simp only[ue h2]
   exact⟨(λh=>by cases h),λ_=>⟨rfl,λx r h=>by cases h⟩⟩
 ·simp only[ue h]
  exact⟨(λh=>by cases h),λ_=>⟨rfl,λx r h=>by cases h⟩⟩
theorem zmC(l:List Tok)(h:isO 3 wData (some l)=true):rdDecl l=rdData l.tail:=by
 rw[zba _ _ (by decide)]at h
 rw[zdX,ud h]
theorem zkK:(Tryz.prog.info? 97).map (λi=>(i.zero,i.size,i.bytes))=some (some (.agg #[.string ⟨#[]⟩,.int .i64 0,.string ⟨#[]⟩,.int .i64 0,.slice none 0 0]),5,72):=by kernel_rfl
theorem zpg {S:Nat->Prop} {w:World} {c:Nm} {t:Ty} {K:Int} {X:ByteArray} {Z:Int} {A:Option Addr} {m a:Nat}(h:RdV S w t (.agg #[.int .i64 K,.string X,.int .i64 Z,.slice A m a])):pcC.Cs S w (c,t) [Sx.strV c,.int .i64 K,.string X,.int .i64 Z,.slice A m a]:=by
 obtain⟨A',a',cd,jK⟩:=h;injection cd with cd;have cd:=uC Array.toList cd;simp only[vH,Value.int.injEq,Value.string.injEq,Value.slice.injEq,wz,wj]at cd;obtain⟨rfl,rfl,rfl,rfl,rfl,rfl⟩:=cd;exact⟨A,a,rfl,jK⟩
end Go.Proofs.YtknkclefoiohpaaGreatDoor
namespace Go.Proofs.YtknkclefoiohpaaGreatDoor
open Go.RowKit Lx Tx Sx
set_option maxRecDepth 100000
theorem zd5 {P:Program} {ops:Array Oper} {o:Oper} {a:Act} {K:Act->World->Prop} {Q:Exit->Act->World->Prop} {E:Prop} {w:World}(fu:o.guard=none)(ty:TypeId)(x:Operand)(ho:o.op=.load ty x)
  (g:Nat)(hx:a.eval x=.pointer (some ⟨g,0,none⟩))(t:TypeId)(cs:Array Value)(fr:Nat × Nat)(d:TypeDesc)(hg:w.heap[g]?=some (.cells cs t fr))
  (hu:P.underlying ty=some d)(hd:(match d with|.struct _|.array _ _=>true|_=>false)=true)(hi:(P.info? ty).map (·.size)=some cs.size)
  (h:K (a.put o.dst (.agg cs)) w):if Region.wanted o (yielded ops a.tmps)=true then Oper.wp P o a w K Q else E:=by
 rw[ud (by simp[Region.wanted,fu])]
 exact wp_load_row ty x ho g hx t cs fr d hg hu hd hi h
theorem zdA {P:Program} {ops:Array Oper} {o:Oper} {a:Act} {K:Act->World->Prop} {Q:Exit->Act->World->Prop} {E:Prop} {w:World}(fu:o.guard=none)(ty:TypeId)(x y:Operand)(ho:o.op=.store ty x y)
  (g:Nat)(cells:Array Value)(hx:a.eval x=.pointer (some ⟨g,0,none⟩))(hy:a.eval y=.agg cells)
  (t:TypeId)(old:Array Value)(hg:w.heap[g]?=some (.cells old t (0,0)))(hi:(P.info? ty).map (·.size)=some cells.size)
  (hold:old.size=cells.size)(h1:cells.all (·.oneCell')=true)
  (h:K (a.put o.dst undef) (w.setRow g cells)):if Region.wanted o (yielded ops a.tmps)=true then Oper.wp P o a w K Q else E:=by
 rw[ud (by simp[Region.wanted,fu])]
 exact wp_store_row ty x y ho g cells hx hy t old hg hi hold h1 h
theorem below_setRow {B:Nat} {a w:World}(h:Below B a w) {g:Nat}(hg:B<=g)(cs:Array Value):Below B a (w.setRow g cs) :=
 ⟨h.os,h.tape,h.output,by rw[setRow_size];exact h.size,λk hk=>(setRow_other w g k cs (by omega)).trans (h.block k hk)⟩
theorem zh8 {B:Nat} {w w':World} {g:Nat}(h:Below B w w')(hg:B<=g)(b1 b2 b3 b4:Value):Below B w ((((w'.setCell ⟨g,1,none⟩ b1).setCell ⟨g,2,none⟩ b2).setCell ⟨g,3,none⟩ b3).setCell ⟨g,4,none⟩ b4) :=
 (((h.setCell (p:=⟨g,1,none⟩) hg b1).setCell (p:=⟨g,2,none⟩) hg b2).setCell (p:=⟨g,3,none⟩) hg b3).setCell (p:=⟨g,4,none⟩) hg b4
def datC(X:ByteArray)(V:Option Addr)(vn vc:Nat)(A:Option Addr)(n c:Nat):Array Value:=#[.int .i64 1,.string X,.slice V vn vc,.slice A n c,.int .i64 0,.string ⟨#[]⟩,.int .i64 0,.slice none 0 0,.int .i64 0,.string ⟨#[]⟩,.bool false,.int .i64 0,.string ⟨#[]⟩,.int .i64 0,.slice none 0 0,.slice none 0 0,.slice none 0 0]
def DatH(ts:List Tok)(SO:Option (List (Nm × Ty) × List Tok))(W2:World)(gd:Nat)(X:ByteArray)(V:Option Addr)(vn vc:Nat)(gg:Nat)(vk vq:Value)(wr:World):Prop :=
 ∃(zk:Int) (qm:Bool) (P:Option (List Tok)) (A:Option Addr) (n c:Nat),gg=(if qm=true then P.elim 0 List.length+1 else 0)/\vk=.int .i64 zk/\vq=.bool qm/\PAt ts P zk/\Hid (Blk wr gd 81 (datC X V vn vc A n c))/\Hid (Chg (only gd) W2 wr) /\
  Hid (qm=true->∃r f' done,P=some r/\r.length+1<=f'/\n=done.length/\done.length+r.length<=ts.length/\SO=(sepM (λ_=>rdCon) f' r).map (λy=>(done++y.1,y.2))/\BuiltG pcC W2.heap.size 97 wr done (.slice A n c)) /\
  Hid (qm=false->SO.map (·.2)=P/\∀l rl,SO=some (l,rl)->n=l.length/\BuiltG pcC W2.heap.size 97 wr l (.slice A n c))
set_option maxRecDepth 10000000 in
theorem zg8(ts:List Tok)(v:Value)(hG:AllG ts)(hn:ts.length<=100000)(w:World)(i:Nat)(hv:RdT w v ts)(hq:isO 3 wData (some (ts.drop i))=true):Calls Tryz.prog 33 #[v,.int .i64 (i:Nat)] w (XPD ts w (rdDecl (ts.drop i))):=by
 obtain⟨i0,bJ,bO,bz,bE⟩:=vz zkK;have ah:=zch (by decide) hq;have fI:PAt ts (some (ts.drop i)) (i:Nat):=PAt.some_ ts i (by omega);obtain⟨fV,-,-⟩:=zbd (by decide) fI hq;have e1:nxO 3 wData (some (ts.drop i))=some (ts.drop i).tail:=by rw[nxO,hq,ud rfl];rfl
 rw[e1]at fV
 have eE:Hid (∀W,Below w.heap.size w W->Calls Tryz.prog 34 #[v,.int .i64 (i:Nat),.int .i64 3,.string ⟨#[100,97,116,97]⟩] W λe w'=>e=.returned (.bool true)/\W=w'):=wJ λW hb=>by
  have:=zaY v ts _ _ 3 ⟨#[100,97,116,97]⟩ 3 rfl (by decide) W (hv.below hb) fI;rwa [show(⟨#[100,97,116,97]⟩:ByteArray).data.toList=wData from rfl,hq]at this
 obtain⟨O,hO⟩:∃O,rdDecl (ts.drop i)=O:=⟨_,rfl⟩;rw[hO]
 rw[zmC _ hq]at hO
 obtain⟨iD,il⟩:=zoj (ts.drop i).tail;rw[hO]at iD il
 obtain⟨L,hL⟩:∃L,(ts.drop i).tail=L:=⟨_,rfl⟩;have hLl:L.length<=ts.length:=by rw[<-hL];simp
 rw[hL]at fV iD il
 obtain⟨X,hX⟩:∃X:ByteArray,⟨(txO (some L)).toArray⟩=X:=⟨_,rfl⟩;have dQ:txO (some L)=X.data.toList:=by rw[<-hX]
 obtain⟨vl,gl⟩:∃l,nsO (nxO 2 [] (some L))=l:=⟨_,rfl⟩;rw[dQ,gl]at iD il
 have eJ:∀r,datP L=some r->r.length<=ts.length:=λr hr=>by
  obtain⟨l,h1,h2,h3,-⟩:=za1 (by decide) hr;cases hN:nxO 2 [] (some L) with
  |none=>rw[hN]at h1;cases h1
  |some l2 =>
   rw[hN,nsR,uq]at h1
   injection h1 with h1;obtain⟨l3,h4,h5,h6,-⟩:=za1 (by decide) hN;injection h4 with h4;subst h4;have:=zg0 l2;rw[h1]at this
   omega
 have fY:=wJ (λW (hb:Below w.heap.size w W)=>zcN v ts _ _ W (hv.below hb) fV);rw[hX]at fY
 have mf:=wJ (λW (hb:Below w.heap.size w W)=>zaL v ts _ _ 2 ⟨#[]⟩ 2 rfl (by decide) W (hv.below hb) hn fV);have nZ:=wJ iD;have kV:=wJ il;have HLP:=wJ eJ;have HV:=wJ hv;have HG:=wJ hG;have s8:=wJ gl;have hi9:(i:Int)<100000:=by omega
 obtain⟨W0,ai⟩:∃W,w.alloc (.cells #[.int .i64 0,.string ⟨#[]⟩,.slice none 0 0,.slice none 0 0,.int .i64 0,.string ⟨#[]⟩,.int .i64 0,.slice none 0 0,.int .i64 0,.string ⟨#[]⟩,.bool false,.int .i64 0,.string ⟨#[]⟩,.int .i64 0,.slice none 0 0,.slice none 0 0,.slice none 0 0] 81)=W:=⟨_,rfl⟩;have fX:Below w.heap.size w W0:=ai▸(ua _ w).alloc (tV _) _;have eI:w.heap.size+1<=W0.heap.size/\W0.heap.size<=w.heap.size+1:=by rw[<-ai];simp
 have aa:Blk W0 w.heap.size 81 #[.int .i64 0,.string ⟨#[]⟩,.slice none 0 0,.slice none 0 0,.int .i64 0,.string ⟨#[]⟩,.int .i64 0,.slice none 0 0,.int .i64 0,.string ⟨#[]⟩,.bool false,.int .i64 0,.string ⟨#[]⟩,.int .i64 0,.slice none 0 0,.slice none 0 0,.slice none 0 0]:=ai▸tW _ _;have cM:=wJ fX;have aE:=wJ aa;clear hv hq ah fI fV e1 hO fX aa iD il hG eJ hX dQ gl hL;go_enter Tryz.func33,Tryz.ntmps33
 go_wp2_with fail
 try rw[ai]
 refine(eE.out _ cM.out).mono ?_;rintro e w1 ⟨rfl,rfl⟩;clear eE ai;obtain⟨W1,aL⟩:∃W,W0.alloc (.cells (datC X none 0 0 none 0 0) 81)=W:=⟨_,rfl⟩;have aN:Below W0.heap.size W0 W1:=aL▸(ua _ W0).alloc (tV _) _;have bj:W0.heap.size+1<=W1.heap.size/\W1.heap.size<=W0.heap.size+1:=by rw[<-aL];simp
 have sj:Blk W1 W0.heap.size 81 (datC X none 0 0 none 0 0):=aL▸tW _ _;have aJ:=wJ (cM.out.trans (aN.mono (by omega)));have dO:=wJ (aE.out.below aN (by omega));have mY:=wJ sj;unfold datC at aL;have ki:=wJ aL;clear aN sj aL aE;go_upto_region 4 with(refine(fY.out _ cM.out).mono ?_;rintro e w3 ⟨rfl,rfl⟩)
 rw[ki.out]
 clear ki fY;go_wp2_with fail
 refine(mf.out _ aJ.out).mono ?_;rintro e w1 ⟨rfl,za,rfl,dr⟩;replace dr:PAt ts (nxO 2 [] (some L)) za:=dr;have e7:=wJ (zgZ v ts _ za W1 (HV.out.below aJ.out) hn dr);clear dr mf;go_wp2_with fail
 refine e7.out.mono ?_;rintro e w2 ⟨b2,V,vc,zn,rfl,qk,pe,dv⟩;have iI:=b2.size;obtain⟨vn,dU⟩:∃n,vl.length=n:=⟨_,rfl⟩;rw[s8.out]at dv
 rw[s8.out]at pe
 have s9:=wJ pe;clear pe;rw[s8.out,dU]
 obtain⟨gd,fu⟩:∃g,W0.heap.size=g:=⟨_,rfl⟩;rw[fu]at mY
 obtain⟨WB,ke⟩:∃W,w2.setCell ⟨gd,2,none⟩ (.slice V vn vc)=W:=⟨_,rfl⟩;have hsB:w2.heap.size<=WB.heap.size/\WB.heap.size<=w2.heap.size:=by rw[<-ke];simp
 have sx:Blk WB gd 81 (datC X V vn vc none 0 0):=ke▸uk _ _ 2 _ _ _ (mY.out.below b2 (by omega));have pL:Below w.heap.size w WB:=ke▸(aJ.out.trans (b2.mono (by omega))).setCell (p:=⟨gd,2,none⟩) (by simp;omega) _;have hkB:Blk WB w.heap.size 81 #[.int .i64 0,.string ⟨#[]⟩,.slice none 0 0,.slice none 0 0,.int .i64 0,.string ⟨#[]⟩,.int .i64 0,.slice none 0 0,.int .i64 0,.string ⟨#[]⟩,.bool false,.int .i64 0,.string ⟨#[]⟩,.int .i64 0,.slice none 0 0,.slice none 0 0,.slice none 0 0]:=ke▸(dO.out.below b2 (by omega)).same (tY _ ⟨gd,2,none⟩ _ _ (by simp;omega));have s7:Hid (NmsIn (λg=>gd<g/\g<WB.heap.size) WB vl V):=wJ (dv.keep (λg hg=>⟨by omega,by omega⟩) (λg hg=>ke▸tY _ ⟨gd,2,none⟩ _ _ (by simp;omega)));have jq:=wJ dU;have nJ:=wJ ke;have jW:=wJ pL;have qX:=wJ sx;have HKB:=wJ hkB;have tn:=wJ (zaL v ts _ zn 6 ⟨#[123]⟩ 6 rfl (by decide) WB (HV.out.below pL) hn qk);have qy:=mY.out.below b2 (by omega);unfold datC at qy;obtain⟨⟨g0,g1,g2,g3,g4,g5,g6,g7,g8,g9,g10,g11,g12,g13,g14,g15,g16⟩,⟨z0,z1,z2,z3,z4,z5,z6,z7,z8,z9,eG,gU,z12,gT,gS,gR,gQ⟩,ou⟩:=zay qy;clear b2 dv qk ke pL sx dU qy e7 mY hkB dO;go_upto_region 6 with fail
 try rw[fu]
 rw[nJ.out]
 clear nJ g0 g1 g2 g3 g4 g5 g6 g7 g8 g9 g10 g11 g12 g13 g14 g15 g16 z0 z1 z2 z3 z4 z5 z6 z7 z8 z9 eG gU z12 gT gS gR gQ;go_wp2_with fail
 refine tn.out.mono ?_;rintro e w3 ⟨rfl,zk,rfl,jt⟩;replace jt:PAt ts (datP L) zk:=jt;have kh:=wJ jt;have pz:=jt.lo;have jU:=wJ (zaY v ts (datP L) zk 6 ⟨#[125]⟩ 6 rfl (by decide) WB (HV.out.below jW.out) jt);obtain⟨q,hq⟩:∃q,isO 6 [125] (datP L)=q:=⟨_,rfl⟩;rw[show(⟨#[125]⟩:ByteArray).data.toList=[125] from rfl,hq]at jU
 have HQ:=wJ hq;clear jt tn hq;go_wp2_with fail
 refine jU.out.mono ?_;rintro e w3 ⟨rfl,rfl⟩;clear jU;have hgd3:W0.heap.size<=gd/\gd<=W0.heap.size:=by omega
 clear fu;cases q with
 |true =>
  have lS:=nZ.out HQ.out;obtain⟨dP,hzk0,hzk1⟩:=zbd (by decide) kh.out HQ.out;have lp:=wJ lS;have jP:=wJ dP;have bD:Hid (WB.heap[gd]?=some (.cells #[.int .i64 1,.string X,.slice V vn vc,.slice none 0 0,.int .i64 0,.string ⟨#[]⟩,.int .i64 0,.slice none 0 0,.int .i64 0,.string ⟨#[]⟩,.bool false,.int .i64 0,.string ⟨#[]⟩,.int .i64 0,.slice none 0 0,.slice none 0 0,.slice none 0 0] 81 (0,0))):=wJ qX.out;have pX:Hid (WB.heap[w.heap.size]?=some (.cells #[.int .i64 0,.string ⟨#[]⟩,.slice none 0 0,.slice none 0 0,.int .i64 0,.string ⟨#[]⟩,.int .i64 0,.slice none 0 0,.int .i64 0,.string ⟨#[]⟩,.bool false,.int .i64 0,.string ⟨#[]⟩,.int .i64 0,.slice none 0 0,.slice none 0 0,.slice none 0 0] 81 (0,0))):=wJ HKB.out;clear lS dP;go_wp2_with (first|((with_reducible refine wpList_load_row ?_ 81 (.tmp 7) ?_ gd ?_ 81 _ (0,0) _ bD.out Tryz.underlying81 ?_ ?_ ?_);(exact rfl);(exact rfl);(exact rfl);(exact rfl);(exact(by kernel_rfl)))|((with_reducible refine wpList_store_row ?_ 81 (.tmp 4) (.tmp 46) ?_ w.heap.size #[.int .i64 1,.string X,.slice V vn vc,.slice none 0 0,.int .i64 0,.string ⟨#[]⟩,.int .i64 0,.slice none 0 0,.int .i64 0,.string ⟨#[]⟩,.bool false,.int .i64 0,.string ⟨#[]⟩,.int .i64 0,.slice none 0 0,.slice none 0 0,.slice none 0 0] ?_ ?_ 81 #[.int .i64 0,.string ⟨#[]⟩,.slice none 0 0,.slice none 0 0,.int .i64 0,.string ⟨#[]⟩,.int .i64 0,.slice none 0 0,.int .i64 0,.string ⟨#[]⟩,.bool false,.int .i64 0,.string ⟨#[]⟩,.int .i64 0,.slice none 0 0,.slice none 0 0,.slice none 0 0] pX.out ?_ ?_ ?_ ?_);(exact rfl);(exact rfl);(exact rfl);(exact rfl);(exact(by kernel_rfl));(exact(by kernel_rfl));(exact(zcm _ _ _ _ _ _ _ _ _ _ _ _ _ _ _ _ _ _ _ _ _ _ _ _ _ _ _ _ _))))
  try simp only[Exit.inBlock,Exit.then]
  refine ub (zaa rfl _ _ w.heap.size 81 _ (0,0) _ rfl (setRow_heap _ _ _ _ _ _ pX.out) Tryz.underlying81 rfl (by kernel_rfl)) rfl ?_;refine⟨below_setRow jW.out (tV _) _,_,_,⟨_,_,_,_,_,_,_,_,_,_,_,_,_,_,_,_,_,_,_,_,_,_,_,_,_,_,_,_,_,rfl⟩,rfl,?_,λx r ho=>?_⟩
  ·rw[lp.out,vJ]
   have:=jP.out;cases hN:nxO 6 [125] (datP L) with
   |none=>rw[hN]at this;exact this
   |some r=>rw[hN]at this;exact this
  ·rw[lp.out]at ho
   cases hN:nxO 6 [125] (datP L) with
   |none=>rw[hN]at ho;cases ho
   |some r1 =>
    rw[hN]at ho
    simp only[uq,um,uw]at ho;obtain⟨rfl,-⟩:=ho;refine⟨V,⟨vc,s9.out⟩,none,0,?_,s7.out.keep (λg hg=>⟨by omega,by rw[setRow_size];exact hg.2⟩) (λg hg=>setRow_other _ _ _ _ (by omega)),λh=>absurd rfl h⟩;show _=[.int .i64 1,Sx.strV _,.slice V vl.length vc,.slice _ _ _]++tyZl++exZl;rw[jq.out];simp[tyZl,exZl,Sx.strV]
 |false =>
  obtain⟨SO,ld⟩:∃S,(datP L).bind sepC=S:=⟨_,rfl⟩;have hA:=kV.out HQ.out;rw[ld]at hA
  have qj:=wJ hA;have pW:=wJ ld;obtain⟨qm,kr⟩:∃q,decide (0<=zk)=q:=⟨_,rfl⟩;have HQM:=wJ kr;have ey:Hid (DatH ts SO WB gd X V vn vc (if qm=true then(datP L).elim 0 List.length+1 else 0) (.int .i64 zk) (.bool qm) WB):=wJ (by
   refine⟨zk,qm,datP L,none,0,0,rfl,rfl,rfl,kh.out,wJ qX.out,wJ (Chg.refl _ _),wJ (λhq=>?_),wJ (λhq=>?_)⟩
   ·rcases kh.out with⟨-,hz⟩|⟨k,hk,hz,hp⟩
    ·rw[hz]at kr;rw[hq]at kr;simp at kr
    ·have h1:=HLP.out _ hp
     exact⟨_,_,[],hp,tV _,rfl,by simp only[uF];omega,by rw[<-pW.out,hp,uE,sepC];simp,BuiltG.nil _ _ _ _⟩
   ·rcases kh.out with⟨hp,-⟩|⟨k,hk,hz,-⟩
    ·rw[<-pW.out,hp]
     exact⟨rfl,λl rl h=>by cases h⟩
    ·rw[hz,hq]at kr;simp at kr)
  clear hA ld nZ kV qX;go_wp2_with fail
  go_loopg [9,11] (if qm=true then(datP L).elim 0 List.length+1 else 0) (λgg vk vq wr=>DatH ts SO WB gd X V vn vc gg vk vq wr)
  case atStart=>exact ey.out
  case round =>
   obtain⟨zr,qr,P,A,n,c,rfl,rfl,rfl,gC,hE,hC,hT,hF⟩:=hrel;have dw:=hC.out.size;have hlz:=gC.lo;clear ey;cases qr with
   |false =>
    obtain⟨bj,bo⟩:=hF.out rfl;have ez:=wJ bj;have gJ:=wJ bo;have pS:=wJ gC;have cN:Below w.heap.size w wr:=jW.out.trans (hC.out.toBelow (by omega) (λk hk=>by unfold only;omega));have ed:=wJ cN;have kj:Hid (NmsIn (λg=>gd<g/\g<wr.heap.size) wr vl V):=wJ (s7.out.keep (λg hg=>⟨hg.1,by omega⟩) (λg hg=>hC.out.block g hg.2 (by have:=hg.1;unfold only;omega)));have pX:Hid (wr.heap[w.heap.size]?=some (.cells #[.int .i64 0,.string ⟨#[]⟩,.slice none 0 0,.slice none 0 0,.int .i64 0,.string ⟨#[]⟩,.int .i64 0,.slice none 0 0,.int .i64 0,.string ⟨#[]⟩,.bool false,.int .i64 0,.string ⟨#[]⟩,.int .i64 0,.slice none 0 0,.slice none 0 0,.slice none 0 0] 81 (0,0))):=wJ ((HKB.out.same (hC.out.block _ (by omega) (by unfold only;omega))));have bD:Hid (wr.heap[gd]?=some (.cells #[.int .i64 1,.string X,.slice V vn vc,.slice A n c,.int .i64 0,.string ⟨#[]⟩,.int .i64 0,.slice none 0 0,.int .i64 0,.string ⟨#[]⟩,.bool false,.int .i64 0,.string ⟨#[]⟩,.int .i64 0,.slice none 0 0,.slice none 0 0,.slice none 0 0] 81 (0,0))):=wJ hE.out;have HNZ:=wJ (λW (hb:Below w.heap.size w W)=>zaL v ts P zr 6 ⟨#[125]⟩ 6 rfl (by decide) W (HV.out.below hb) hn pS.out);clear bj bo gC hT hF cN;go_wp2_with fail
    refine wp_region_any (by kernel_rfl) ?_;try (change wpAny _ _ _ _ _ _ _ (World.drew _))
    refine wpAny_take (i:=1) (v:=v) rfl (by kernel_rfl) (by kernel_rfl) (by kernel_rfl) (λ_ _ _ h=>h) (Or.inl ⟨by rfl,λw=>by go_simp⟩) ?_;refine wpAny_take (i:=2) (v:=.int .i64 zr) rfl (by kernel_rfl) (by kernel_rfl) (by kernel_rfl) (λ_ _ _ h=>h) (Or.inl ⟨by rfl,λw=>by go_simp⟩) ?_;refine wpAny_ready (rs:=[0,3]) (by kernel_rfl) (by simp) ?_;refine AllReady.cons (i:=0) rfl (λK hK=>?_) ?_
    ·refine zd5 rfl 81 (.tmp 7) rfl gd rfl 81 _ (0,0) _ bD.out Tryz.underlying81 rfl (by kernel_rfl) ?_
     refine hK _ _ ?_;clear hK K;refine wpAny_ready (rs:=[3]) (by kernel_rfl) (by simp) ?_;refine AllReady.cons (i:=3) rfl (λK hK=>?_) ?_
     ·go_simp
      go_wp2_with (go_at_call 83;(with_reducible refine(HNZ.out _ ed.out.drew).mono ?_);rintro e w3 ⟨rfl,z9,rfl,ju⟩;have tj:=wJ ju;clear ju)
      first|(refine hK _ _ ?_;clear hK K)|skip
      refine wpAny_ready (rs:=[4]) (by kernel_rfl) (by simp) ?_;refine AllReady.cons (i:=4) rfl (λK hK=>?_) ?_
      ·refine zdA rfl 81 (.tmp 4) (.tmp 79) rfl w.heap.size #[.int .i64 1,.string X,.slice V vn vc,.slice A n c,.int .i64 0,.string ⟨#[]⟩,.int .i64 0,.slice none 0 0,.int .i64 0,.string ⟨#[]⟩,.bool false,.int .i64 0,.string ⟨#[]⟩,.int .i64 0,.slice none 0 0,.slice none 0 0,.slice none 0 0] rfl rfl 81 #[.int .i64 0,.string ⟨#[]⟩,.slice none 0 0,.slice none 0 0,.int .i64 0,.string ⟨#[]⟩,.int .i64 0,.slice none 0 0,.int .i64 0,.string ⟨#[]⟩,.bool false,.int .i64 0,.string ⟨#[]⟩,.int .i64 0,.slice none 0 0,.slice none 0 0,.slice none 0 0] pX.out (by kernel_rfl) (by kernel_rfl) (zcm _ _ _ _ _ _ _ _ _ _ _ _ _ _ _ _ _ _ _ _ _ _ _ _ _ _ _ _ _) ?_
       refine hK _ _ ?_;clear hK K;refine wpAny_ready (rs:=[5]) (by kernel_rfl) (by simp) ?_;refine AllReady.cons (i:=5) rfl (λK hK=>?_) ?_
       ·go_simp
        refine hK _ _ ?_;clear hK K;refine wpAny_done (by kernel_rfl) ?_ _;go_wp2_with fail
        refine ub (zaa rfl _ _ w.heap.size 81 _ (0,0) _ rfl (setRow_heap _ _ _ _ _ _ pX.out) Tryz.underlying81 rfl (by kernel_rfl)) rfl ?_;refine⟨below_setRow ed.out.drew (tV _) _,_,z9,⟨_,_,_,_,_,_,_,_,_,_,_,_,_,_,_,_,_,_,_,_,_,_,_,_,_,_,_,_,_,rfl⟩,rfl,?_,λx r ho=>?_⟩
        ·rw[qj.out.1,ez.out];exact tj.out
        ·obtain⟨cs,rc,h2,rfl⟩:=qj.out.2 x r ho
         obtain⟨h3,h4⟩:=gJ.out cs rc h2;obtain⟨-,h5⟩:=h4.lst;refine⟨V,⟨vc,s9.out⟩,A,c,?_,kj.out.keep (λg hg=>⟨by omega,by rw[setRow_size];exact hg.2⟩) (λg hg=>setRow_other _ _ _ _ (by omega)),h5.keep (λg hg=>⟨by omega,by rw[setRow_size];exact hg.2⟩) (λg hg=>setRow_other _ _ _ _ (by omega))⟩;show _=[.int .i64 1,Sx.strV _,.slice V vl.length vc,.slice _ _ _]++tyZl++exZl;rw[jq.out,<-h3];simp[tyZl,exZl,Sx.strV]
       exact AllReady.nil
      exact AllReady.nil
     exact AllReady.nil
    refine AllReady.cons (i:=3) rfl (λK hK=>?_) ?_
    ·go_simp
     go_wp2_with (go_at_call 83;(with_reducible refine(HNZ.out _ ed.out.drew).mono ?_);rintro e w3 ⟨rfl,z9,rfl,ju⟩;have tj:=wJ ju;clear ju)
     first|(refine hK _ _ ?_;clear hK K)|skip
     refine wpAny_ready (rs:=[0]) (by kernel_rfl) (by simp) ?_;refine AllReady.cons (i:=0) rfl (λK hK=>?_) ?_
     ·refine zd5 rfl 81 (.tmp 7) rfl gd rfl 81 _ (0,0) _ bD.out Tryz.underlying81 rfl (by kernel_rfl) ?_
      refine hK _ _ ?_;clear hK K;refine wpAny_ready (rs:=[4]) (by kernel_rfl) (by simp) ?_;refine AllReady.cons (i:=4) rfl (λK hK=>?_) ?_
      ·refine zdA rfl 81 (.tmp 4) (.tmp 79) rfl w.heap.size #[.int .i64 1,.string X,.slice V vn vc,.slice A n c,.int .i64 0,.string ⟨#[]⟩,.int .i64 0,.slice none 0 0,.int .i64 0,.string ⟨#[]⟩,.bool false,.int .i64 0,.string ⟨#[]⟩,.int .i64 0,.slice none 0 0,.slice none 0 0,.slice none 0 0] rfl rfl 81 #[.int .i64 0,.string ⟨#[]⟩,.slice none 0 0,.slice none 0 0,.int .i64 0,.string ⟨#[]⟩,.int .i64 0,.slice none 0 0,.int .i64 0,.string ⟨#[]⟩,.bool false,.int .i64 0,.string ⟨#[]⟩,.int .i64 0,.slice none 0 0,.slice none 0 0,.slice none 0 0] pX.out (by kernel_rfl) (by kernel_rfl) (zcm _ _ _ _ _ _ _ _ _ _ _ _ _ _ _ _ _ _ _ _ _ _ _ _ _ _ _ _ _) ?_
       refine hK _ _ ?_;clear hK K;refine wpAny_ready (rs:=[5]) (by kernel_rfl) (by simp) ?_;refine AllReady.cons (i:=5) rfl (λK hK=>?_) ?_
       ·go_simp
        refine hK _ _ ?_;clear hK K;refine wpAny_done (by kernel_rfl) ?_ _;go_wp2_with fail
        refine ub (zaa rfl _ _ w.heap.size 81 _ (0,0) _ rfl (setRow_heap _ _ _ _ _ _ pX.out) Tryz.underlying81 rfl (by kernel_rfl)) rfl ?_;refine⟨below_setRow ed.out.drew (tV _) _,_,z9,⟨_,_,_,_,_,_,_,_,_,_,_,_,_,_,_,_,_,_,_,_,_,_,_,_,_,_,_,_,_,rfl⟩,rfl,?_,λx r ho=>?_⟩
        ·rw[qj.out.1,ez.out];exact tj.out
        ·obtain⟨cs,rc,h2,rfl⟩:=qj.out.2 x r ho
         obtain⟨h3,h4⟩:=gJ.out cs rc h2;obtain⟨-,h5⟩:=h4.lst;refine⟨V,⟨vc,s9.out⟩,A,c,?_,kj.out.keep (λg hg=>⟨by omega,by rw[setRow_size];exact hg.2⟩) (λg hg=>setRow_other _ _ _ _ (by omega)),h5.keep (λg hg=>⟨by omega,by rw[setRow_size];exact hg.2⟩) (λg hg=>setRow_other _ _ _ _ (by omega))⟩;show _=[.int .i64 1,Sx.strV _,.slice V vl.length vc,.slice _ _ _]++tyZl++exZl;rw[jq.out,<-h3];simp[tyZl,exZl,Sx.strV]
       exact AllReady.nil
      exact AllReady.nil
     exact AllReady.nil
    exact AllReady.nil
   |true =>
    obtain⟨r,f',done,rfl,mA,kx,iV,jk,sM⟩:=hT.out rfl;obtain⟨f1,rfl⟩:∃f1,f'=f1+1:=⟨f'-1,by omega⟩;have oS:=wJ jk;obtain⟨vs,ae,ao⟩:=sM;rw[<-kx]at ae
    replace ae:wr.ownsRow WB.heap.size 97 5 (.slice A n c) n vs:=ae;have aM:=wJ ae;have av:=wJ ao;have cN:Below w.heap.size w wr:=jW.out.trans (hC.out.toBelow (by omega) (λk hk=>by unfold only;omega));have ed:=wJ cN;have pS:=wJ gC;have fY:=wJ (zcN v ts _ zr wr (HV.out.below cN) gC);obtain⟨CX,hCX⟩:∃X:ByteArray,⟨(txO (some r)).toArray⟩=X:=⟨_,rfl⟩;have HCX:Hid (txO (some r)=CX.data.toList):=wJ (by rw[<-hCX]);rw[hCX]at fY
    obtain⟨WA,lQ⟩:∃W,wr.alloc (.cells #[.string CX,.int .i64 0,.string ⟨#[]⟩,.int .i64 0,.slice none 0 0] 97)=W:=⟨_,rfl⟩;have kb:Below wr.heap.size wr WA:=lQ▸(ua _ wr).alloc (tV _) _;have hsA:wr.heap.size+1<=WA.heap.size/\WA.heap.size<=wr.heap.size+1:=by rw[<-lQ];simp
    have sy:Blk WA wr.heap.size 97 #[.string CX,.int .i64 0,.string ⟨#[]⟩,.int .i64 0,.slice none 0 0]:=lQ▸tW _ _;have fU:=wJ kb;have mw:=wJ sy;have me:=wJ (zaL v ts _ zr 2 ⟨#[]⟩ 2 rfl (by decide) WA (HV.out.below (cN.trans (kb.mono (by have:=cN.size;omega)))) hn gC);have qn:=cN.size;have nK:=wJ lQ;have gM:=wJ (And.intro kx iV);clear lQ kb sy jk ae ao cN gC hT hF hCX kx iV;go_upto_region 13 with(refine fY.out.mono ?_;rintro e w3 ⟨rfl,rfl⟩)
    rw[nK.out]
    clear nK fY;go_wp2_with fail
    refine me.out.mono ?_;rintro e w3 ⟨rfl,za,rfl,dr⟩;replace dr:PAt ts (nxO 2 [] (some r)) za:=dr;have e7:=wJ (zaL v ts _ za 6 ⟨#[58]⟩ 6 rfl (by decide) WA (HV.out.below (ed.out.trans (fU.out.mono qn))) hn dr);clear dr me;go_wp2_with fail
    refine e7.out.mono ?_;rintro e w3 ⟨rfl,zb,rfl,fH⟩;replace fH:PAt ts (nxO 6 [58] (nxO 2 [] (some r))) zb:=fH;have hR:=zfk v ts _ zb WA (HV.out.below (ed.out.trans (fU.out.mono qn))) HG.out hn fH;rw[show(nxO 6 [58] (nxO 2 [] (some r))).bind typ=conB (some r) from rfl]at hR
    obtain⟨B,hB⟩:∃B,conB (some r)=B:=⟨_,rfl⟩;rw[hB]at hR
    have gj:=wJ hB;have HR:=wJ hR;clear fH hR hB e7;go_wp2_with fail
    refine HR.out.mono ?_;rintro e w4 ⟨b4,tK,tX,tZ,tA,tm,tc,zl,rfl,dW,iU⟩;have kp:=b4.size;have pN:=mw.out.below b4 (by omega);obtain⟨WC,kB⟩:∃W,((((w4.setCell ⟨wr.heap.size,1,none⟩ (.int .i64 tK)).setCell ⟨wr.heap.size,2,none⟩ (.string tX)).setCell ⟨wr.heap.size,3,none⟩ (.int .i64 tZ)).setCell ⟨wr.heap.size,4,none⟩ (.slice tA tm tc))=W:=⟨_,rfl⟩;have hsC:w4.heap.size<=WC.heap.size/\WC.heap.size<=w4.heap.size:=by rw[<-kB,zfw];omega
    have sv:Blk WC wr.heap.size 97 #[.string CX,.int .i64 tK,.string tX,.int .i64 tZ,.slice tA tm tc]:=kB▸zgg _ _ _ _ pN;have qu:∀k,k≠wr.heap.size->WC.heap[k]?=w4.heap[k]?:=λk hk=>kB▸zgh _ _ _ _ _ _ _ hk;have pK:Below wr.heap.size wr WC:=kB▸zh8 (fU.out.trans (b4.mono (by omega))) (tV _) _ _ _ _;have HPC:Hid (∀y rb,B=some (y,rb)->pcC.Cs (λg=>wr.heap.size<=g/\g<WC.heap.size) WC (CX.data.toList,y) [.string CX,.int .i64 tK,.string tX,.int .i64 tZ,.slice tA tm tc]):=wJ λy rb ho=>by
     have h1:=(iU y rb ho).keep (S':=λg=>wr.heap.size<=g/\g<WC.heap.size) (w':=WC) (λg hg=>⟨by omega,by omega⟩) (λg hg=>qu g (by omega));have h3:=zpg (c:=CX.data.toList) h1;simpa[Sx.strV] using h3
    have qT:Hid (Blk WC gd 81 (datC X V vn vc A n c)):=wJ (hE.out.below pK (by omega));have qf:=wJ pK;have HAC:=wJ sv;have kN:=wJ dW;have sY:=wJ kB;obtain⟨⟨g0,g1,g2,g3,g4⟩,⟨z0,z1,z2,z3,z4⟩,ou⟩:=zbH pN;clear b4 iU dW kB pK sv qu pN HR;go_upto_region 14 with fail
    rw[sY.out]
    clear sY g0 g1 g2 g3 g4 z0 z1 z2 z3 z4;have ma:=wJ ((own_below aM.out qf.out).alloc (.cells #[.string CX,.int .i64 tK,.string tX,.int .i64 tZ,.slice tA tm tc] 97));have g3:=qT.out.cell 3;replace g3:WC.cell? ⟨gd,3,none⟩=some (.slice A n c):=g3;have bB:=qT.out.lt;obtain⟨⟨y0,y1,y2,y3,y4⟩,-,ou⟩:=zbH HAC.out;have pw:n<=100000:=by have:=gM.out;omega
    have oL:=aM.out.lt;have bY:=wJ oL;clear oL;go_wp2_with (at_builtin;refine uP _ rfl (.tmp 68) (.tmp 70) 79 rfl WB.heap.size 97 i0 _ 5 72 Tryz.underlying79 bJ bO bz bE rfl (by decide) _ n vs rfl ma.out ⟨WC.heap.size,0,none⟩ 1 1 [.string CX,.int .i64 tK,.string tX,.int .i64 tZ,.slice tA tm tc] rfl rfl (zao _ _ _ _ rfl) (by intro u hu;simp at hu;rcases hu with rfl|rfl|rfl|rfl|rfl <;> rfl) (by unfold maxLen;omega) (by omega) (by simp;omega) ?_;intro v2 w5 aI ab _ cv;obtain⟨A2,c2,rfl⟩:=zat aI;have eU:=wJ aI;have cQ:=wJ ab;have fZ:=wJ cv;clear aI ab cv;have ka:=(qT.out.alloc (.cells #[.string CX,.int .i64 tK,.string tX,.int .i64 tZ,.slice tA tm tc] 97)).grown cQ.out (λe=>by have:=bY.out _ e.symm;omega);have tD:=wJ ka;have m3:=ka.cell 3;have o3:=ka.frozen 3;have pA:=ka.lt;clear ka)
    obtain⟨W6,fo⟩:∃W,w5.setCell ⟨gd,3,none⟩ (.slice A2 (n+1) c2)=W:=⟨_,rfl⟩;have ee:=cQ.out.size;simp at ee;have pj:w5.heap.size<=W6.heap.size/\W6.heap.size<=w5.heap.size:=by rw[<-fo];simp
    have qb:Hid (Blk W6 gd 81 (datC X V vn vc A2 (n+1) c2)):=wJ (fo▸uk _ _ 3 _ _ _ tD.out);have mC:Chg (only gd) w5 W6:=fo▸(Chg.refl (only gd) w5).setCell (p:=⟨gd,3,none⟩) (.inr rfl) _;have kS:Hid (Chg (only gd) WB W6):=wJ (((hC.out.trans (Chg.of_below qf.out)).alloc _ |>.grown cQ.out (λk hk=>by have:=bY.out _ hk;exact .inl (by omega))).trans mC);have mr:Hid (∀y rb,B=some (y,rb)->BuiltG pcC WB.heap.size 97 W6 (done++[(CX.data.toList,y)]) (.slice A2 (n+1) c2)):=wJ λy rb ho=>by
     have h1:=BuiltG.next (P:=pcC) (b:=gd) (w:=wr) (w1:=WC) (by omega) (by omega) (by rw[<-gM.out.1];exact aM.out) av.out (ChR.of_below qf.out) (HPC.out y rb ho) ((ua _ WC).alloc (tV _) _) (by rw[<-gM.out.1];exact eU.out) cQ.out fZ.out;exact h1.low mC (by omega)
    have sN:Below w.heap.size w W6:=jW.out.trans (kS.out.toBelow (by omega) (λk hk=>by unfold only;omega));have mh:=wJ (zaY v ts _ zl 6 ⟨#[59]⟩ 6 rfl (by decide) W6 (HV.out.below sN) kN.out);have oQ:=wJ fo;clear fo mC sN g3 y0 y1 y2 y3 y4 m3 o3;obtain⟨qs,j5⟩:∃q,isO 6 [59] (B.map (·.2))=q:=⟨_,rfl⟩;rw[show(⟨#[59]⟩:ByteArray).data.toList=[59] from rfl,j5]at mh
    have iZ:=wJ j5;have oU:Hid (rdCon r=B.map λz=>((CX.data.toList,z.1),z.2)):=wJ (by rw[zpS,gj.out,HCX.out]);have p6:Hid (∀y rb,B=some (y,rb)->rb.length<r.length):=wJ λy rb ho=>by
     have h:=oU.out;rw[ho]at h
     exact(zcF r _ rb (pS.out.good HG.out _ rfl) h).2
    clear j5;go_wp2_with fail
    try rw[oQ.out]
    refine mh.out.mono ?_;rintro e w7 ⟨rfl,rfl⟩;clear mh oQ;cases qs with
    |true =>
     obtain⟨dP,q8,pc⟩:=zbd (by decide) kN.out iZ.out;obtain⟨⟨y,rb⟩,hB⟩:∃u,B=some u:=by
      cases hB:B with
      |none=>have:=iZ.out;rw[hB]at this;cases this
      |some u=>exact⟨u,rfl⟩
     have hH:nxO 6 [59] (B.map (·.2))=some rb.tail:=by
      have:=iZ.out;rw[hB]at this ⊢
      rw[nxO,this,ud rfl];rfl
     rw[hH]at dP
     have nt:=p6.out y rb hB;have ru:rb.tail.length<=rb.length:=by simp
     have jP:=wJ dP;have cR:Hid (∃r' f' done',some rb.tail=some r'/\r'.length+1<=f'/\n+1=done'.length/\done'.length+r'.length<=ts.length/\SO=(sepM (λ_=>rdCon) f' r').map (λy=>(done'++y.1,y.2))/\BuiltG pcC WB.heap.size 97 W6 done' (.slice A2 (n+1) c2)):=wJ (by
      refine⟨rb.tail,f1,done++[(CX.data.toList,y)],rfl,by omega,by rw[uf,<-gM.out.1];rfl,by have:=gM.out.2;rw[uf,we];omega,?_,mr.out y rb hB⟩;rw[oS.out,zb8,oU.out,hB]
      have lV:isO 6 [59] (some rb)=true:=by have:=iZ.out;rw[hB]at this;exact this
      simp only[uq,lV,wA,vJ];congr 1
      funext z
      simp)
     clear dP hB hH;go_wp2_with fail
     go_roundg (rb.tail.length+1)
     case measure=>simp;omega
     case rel=>exact⟨zl+1,true,some rb.tail,A2,n+1,c2,by simp,by go_num,rfl,jP.out,qb,kS,wJ (λ_=>cR.out),wJ (λh=>by cases h)⟩
    |false =>
     have cR:Hid (SO.map (·.2)=B.map (·.2)/\∀l rl,SO=some (l,rl)->n+1=l.length/\BuiltG pcC WB.heap.size 97 W6 l (.slice A2 (n+1) c2)):=wJ (by
      have h1:=oS.out;rw[zb8,oU.out]at h1
      cases hB:B with
      |none=>rw[hB]at h1;rw[h1];exact⟨rfl,λl rl h=>by cases h⟩
      |some u =>
       rw[hB]at h1
       have lV:¬isO 6 [59] (some u.2)=true:=by have:=iZ.out;rw[hB]at this;rw[show isO 6 [59] (some u.2)=false from this];decide
       simp only[uq,ue lV]at h1;rw[h1]
       refine⟨rfl,λl rl h=>?_⟩;injection h with h;injection h with h _;subst h;exact⟨by rw[uf,<-gM.out.1];rfl,mr.out u.1 u.2 hB⟩)
     go_wp2_with fail
     go_roundg 0
     case measure=>simp
     case rel=>exact⟨zl,false,B.map (·.2),A2,n+1,c2,by simp,rfl,rfl,kN.out,qb,kS,wJ (λh=>by cases h),wJ (λ_=>cR.out)⟩
set_option maxRecDepth 100000
theorem zok(ts:List Tok)(v:Value)(hG:AllG ts)(hn:ts.length<=100000)(w:World)(i:Nat)(hi:i<=ts.length)(hv:RdT w v ts):Calls Tryz.prog 33 #[v,.int .i64 (i:Nat)] w (XPD ts w (rdDecl (ts.drop i))):=by
 cases hq:isO 3 wData (some (ts.drop i)) with
 |true=>exact zg8 ts v hG hn w i hv hq
 |false=>exact zjr ts v hG hn w i hi hv hq
end Go.Proofs.YtknkclefoiohpaaGreatDoor
namespace Go.Proofs.YtknkclefoiohpaaGreatDoor
open Go.RowKit Lx Tx Sx Go.Maps Go.WideMaps Go.Shelf
set_option maxRecDepth 100000
structure MisB (w:World) (co:Nat) (e:Ex) (pb fb:Nat) (V0:Option Addr) (v0 nb:Nat) (wx:World):Prop where
 n:nb=(zas e).length
 lw:Below w.heap.size w wx
 hpb:Blk wx pb 129 #[.slice (some ⟨fb,0,none⟩) 1 1]
 hfb:Blk wx fb 184 #[.slice V0 nb v0,.func (.func 116) #[.map (some (co+2))] #[],.int .i64 90]
 nm:NmsIn (λg=>w.heap.size+2<=g/\g<wx.heap.size/\g≠pb/\g≠fb) wx (zas e) V0
 ne:pb≠fb
 low:w.heap.size+2<=pb/\w.heap.size+2<=fb
theorem zpw:∀args w,(callFunc 118 args).run Tryz.prog w=.ok (.enter 118 args) w:=enters_of Tryz.func118 (by kernel_rfl) rfl
def v0C(co:Nat)(V0:Option Addr)(nb v0:Nat):List Value:=[.slice V0 nb v0,.func (.func 116) #[.map (some (co+2))] #[],.int .i64 90]
theorem MisB.walk_start {da co:Nat} {m:Mets} {e:Ex} {S:Nat->Prop} {v:Value} {w wx:World} {pb fb v0 nb:Nat} {V0:Option Addr}(h:MisB w co e pb fb V0 v0 nb wx)(hM:MetsAt da co m w)(hv:RdX S w e v)(hS:∀g,S g->g<w.heap.size/\¬metB da co g)(aG:m.size+e.wt<=9000)(ay:e.Ok):Calls Tryz.prog 117 #[v,.func (.func 118) #[] #[.pointer (some ⟨pb,0,none⟩)]] wx λe' w'=>e'=.returned (.tuple #[]) /\
   Sta (IMis (metB da co) w pb (w.heap.size+2) (v0C co V0 nb v0) (zas e) V0) (λg=>metB da co g\/g=pb\/g=fb) wx (0+cost (evs e)) (runS stM (evs e) []) w':=by
 have hs:=h.lw.size;have hpb:=h.hpb.lt;have hfb:=h.hfb.lt;have fM:=h.low;have h4:=za5 e;have h2:=size_wt e;refine zf9 118 #[.pointer (some ⟨pb,0,none⟩)] 1000000 (IMis (metB da co) w pb (w.heap.size+2) (v0C co V0 nb v0) (zas e) V0) stM (IMis.inv _ _ _ _ _ _ _) zpw (zij _ _ _ _ _ _ _ 1000000 (tV _)) 90001 (tV _) 0 [] (λg=>metB da co g\/g=pb\/g=fb) e S v wx (by omega) ⟨[],?_⟩ (hv.keep (λ_ h=>h) (λg hg=>h.lw.block g (hS g hg).1)) (λg hg=>⟨by have:=(hS g hg).1;omega,?_⟩) ay (by omega)
 ·have hnM:∀g,w.heap.size+2<=g/\g<wx.heap.size/\g≠pb/\g≠fb->¬(metB da co g\/g=pb\/g=fb):=by
   rintro g hg (e1|e1|e1)
   ·have:=hM.lt g e1;omega
   ·exact hg.2.2.1 e1
   ·exact hg.2.2.2 e1
  have dJ:∀g,(metB da co g\/g=pb\/g=fb)->g<wx.heap.size/\(w.heap.size+2<=g\/metB da co g):=by
   rintro g (hg|hg|hg)
   ·exact⟨by have:=hM.lt g hg;omega,.inr hg⟩
   ·exact⟨by omega,.inl (by omega)⟩
   ·exact⟨by omega,.inl (by omega)⟩
  have ao:wx.ownsRow (w.heap.size+2) 184 3 (.slice (some ⟨fb,0,none⟩) 1 1) 1 (v0C co V0 nb v0++[]):=⟨rfl,.inr ⟨fb,1,_,rfl,by omega,h.hfb,tV _,by unfold maxLen;omega,rfl,rfl⟩⟩;exact { len:=tV _,ll:=rfl,recs:=λi xs r h1 _=>by simp at h1,nd:=by simp,nm0:=h.nm.keep (λg hg=>⟨⟨hg.2.1,hnM g hg⟩,hg.1⟩) (λ_ _=>rfl),low:=⟨.inr (.inl rfl),by omega⟩,old:=λg hg=>⟨.inl hg,by have:=hM.lt g hg;omega,h.lw.block g (hM.lt g hg)⟩,all:=dJ,row:=⟨fb,1,h.hpb,ao,.inr (.inr rfl),h.ne.symm,by simp⟩ }
 ·have:=hS g hg
  rintro(e1|e1|e1)
  ·exact this.2 e1
  ·omega
  ·omega
theorem MisB.walk_end {da co:Nat} {m:Mets} {e:Ex} {w wx w2:World} {pb fb v0 nb c base:Nat} {V0 V1:Option Addr} {v0l:List Value} {x0:List Nm} {s:List (List Nm)} {L:List BF} {M:Nat->Prop} {t0 t1:TypeId} {cs0 cs1:Array Value}(h:MisB w co e pb fb V0 v0 nb wx)(hM:MetsAt da co m w)
  (gG:MisI (metB da co) w pb base v0l x0 V1 c s L M w2)(cP:Chg (λg=>metB da co g\/g=pb\/g=fb) wx w2)(c0:Blk wx w.heap.size t0 cs0)(c1:Blk wx (w.heap.size+1) t1 cs1):Below w.heap.size w w2/\Blk w2 w.heap.size t0 cs0/\Blk w2 (w.heap.size+1) t1 cs1:=by
 have hs:=h.lw.size;have fM:=h.low;have bk:∀k,w.heap.size<=k->k<w.heap.size+2->¬(metB da co k\/k=pb\/k=fb):=λk h1 h2 e1=>by
  rcases e1 with e1|e1|e1
  ·have:=hM.lt k e1;omega
  ·omega
  ·omega
 refine⟨h.lw.trans ⟨cP.os,cP.tape,cP.output,cP.size,λj hj=>?_⟩,c0.same (cP.block _ c0.lt (bk _ (by omega) (by omega))),c1.same (cP.block _ c1.lt (bk _ (by omega) (by omega)))⟩;by_cases hB:metB da co j
 ·exact(gG.old j hB).2.2.trans (h.lw.block j hj).symm
 ·exact cP.block j (by omega) (by
   rintro(e1|e1|e1)
   ·exact hB e1
   ·omega
   ·omega)
theorem zoH {da co:Nat}(hd:da<co) {m:Mets} {e:Ex} {w w2:World} {M:Nat->Prop} {s:List (List Nm)} {L:List BF} {c g pb v0 nb sn:Nat} {V0:Option Addr}(hM:MetsAt da co m w)(ay:e.Ok)(aG:m.size+e.wt<=9000)(kW:runS stM (evs e) []=s)(og:s.length=sn)
  (gG:MisI (metB da co) w pb (w.heap.size+2) (v0C co V0 nb v0) (zas e) V0 c s L M w2)(hc:c<=40000)(k3:M g)(hgb:w.heap.size+2<=g)(k5:∀r∈L,r.f≠g)(aA:Below w.heap.size w w2)(hnb:nb=(zas e).length)
  (w3 w4 w5:World)(A3 A4:Option Addr)(n3 n4 c3 c4 g5 c5:Nat)(lW:Below w2.heap.size w2 w4)(h23:w2.heap.size<=w3.heap.size)(hn3:n3=(zaF e).length)(hn4:n4=(zaG e).length)(aD:w3.ownsRow w2.heap.size 9 1 (.slice A3 n3 c3) n3 ((zaF e).map Sx.strV))(iM:w4.ownsRow w3.heap.size 9 1 (.slice A4 n4 c4) n4 ((zaG e).map Sx.strV))(h34:Below w3.heap.size w3 w4)
  {N6:List Value} (hN6:N6=[.slice A3 n3 c3,.func (.func 115) #[.map (some (co+2))] #[],.int .i64 91,.slice A4 n4 c4,.func (.func 115) #[.map (some co)] #[],.int .i64 91]) {o:Obj}
  (ho:w5.ownsRow (w.heap.size+2) 184 3 (.slice (some ⟨g5,0,none⟩) (sn+1+2) c5) (sn+1+2) (v0C co V0 nb v0++L.flatMap BF.cells++N6))(hg:(w4.alloc o).grownBy w5 (some g))(aH:some g=some g5\/g5=w4.heap.size+1):LPostF da co w (mis m.b m.c e) (MetsAt da co m) (.returned (.slice (some ⟨g5,0,none⟩) (sn+1+2) c5)) w5:=by
 subst hN6;have bo:=aA.size;have kp:=lW.size;have ee:=hg.size;simp at ee;have aV:=(gG.all g k3).1;have hs34:=h34.size;have h4:=za5 e;have hl:=ziP e;have cJ:Below w.heap.size w w5:=((aA.trans (lW.mono bo)).alloc (by omega) o).grown hg (by simp;omega) (λk hk=>by injection hk with hk;omega);have bu:∀k,k<w4.heap.size->k≠g->w5.heap[k]?=w4.heap[k]?:=λk h1 h2=>(hg.block k (by simp;omega) (λe=>by injection e with e;exact h2 e)).trans (uc _ _ _ h1);have lJ:∀k,k<w2.heap.size->k≠g->w5.heap[k]?=w2.heap[k]?:=λk h1 h2=>(bu k (by omega) h2).trans (lW.block k h1);have hMl:∀k,M k->k<w2.heap.size:=λk hk=>(gG.all k hk).1;have hLl:∀r∈L,r.f<w2.heap.size:=λr hr=>by
  obtain⟨i,hi⟩:=vd.1 hr;have jf:=(uj.1 hi).1;obtain⟨-,-,-,a4,-⟩:=gG.recs i _ r (ug (by rw[<-gG.ll];exact jf)) hi;exact a4.lt
 refine zli hd (M:=M) (L:=L) (s:=s) (hM.below cJ) hM.lt cJ kW.symm gG.ll hnb hn3 hn4 (λi xs r h1 h2=>?_) (λk hk=>(gG.old k hk).1) gG.nd (gG.nm0.keep (λk hk=>⟨⟨by omega,hk.1.2⟩,by omega⟩) (λk hk=>lJ k hk.1.1 (λe=>hk.1.2 (e▸k3))))
  ((zbX hn3 aD).keep (λk hk=>⟨⟨by omega,λe=>by have:=hMl k e;omega⟩,by omega⟩) (λk hk=>(bu k (by omega) (by omega)).trans (h34.block k hk.2)))
  ((zbX hn4 iM).keep (λk hk=>⟨⟨by omega,λe=>by have:=hMl k e;omega⟩,by omega⟩) (λk hk=>bu k hk.2 (by omega)))
  (Value.ownsLow ho (by omega)) (λr hr=>?_) (by omega) (by have:=gG.len;omega) (zcw e ay) (by omega) (λxs hx=>?_)
 ·obtain⟨a1,a2,a3,a4,a5,a6⟩:=gG.recs i xs r h1 h2
  exact⟨a1,a2.keep (λk hk=>⟨by omega,hk.2⟩) (λk hk=>lJ k hk.1 (λe=>hk.2 (e▸k3))),a3,a4.keep (lJ _ a4.lt (k5 r (uM h2))),a5,by omega⟩
 ·rcases aH with e1|e1
  ·injection e1 with e1
   exact e1▸k5 r hr
  ·have:=hLl r hr;omega
 ·have:=zpp (evs e) xs (kW▸hx)
  omega
theorem zfq {da co:Nat}(hd:da<co)(m:Mets)(n:Nm)(e:Ex)(S:Nat->Prop)(k:Int)(x:ByteArray)(t:Bool)(K:Int)(X1:ByteArray)(Z:Int)(B:Option Addr)(mm q:Nat)(KA:Option Addr)(kn kc:Nat)(LA:Option Addr)(ln lc:Nat)(w:World)(hM:MetsAt da co m w)
  (hv:RdX S w e (.agg #[.int .i64 k,.string x,.bool t,.int .i64 K,.string X1,.int .i64 Z,.slice B mm q,.slice KA kn kc,.slice LA ln lc]))(hS:∀g,S g->g<w.heap.size/\¬metB da co g)(aG:m.size+e.wt<=9000)(ay:e.Ok):Calls Tryz.prog 64 #[.agg #[.map (some da),.map (some co),.map (some (co+1)),.map (some (co+2))],
   .agg #[.int .i64 3,.string ⟨n.toArray⟩,.slice none 0 0,.slice none 0 0,.int .i64 0,.string ⟨#[]⟩,.int .i64 0,.slice none 0 0,.int .i64 k,.string x,.bool t,.int .i64 K,.string X1,.int .i64 Z,.slice B mm q,.slice KA kn kc,.slice LA ln lc]] w
   (LPostF da co w (mis m.b m.c e) (MetsAt da co m)):=by
 obtain⟨X,hX⟩:∃X:ByteArray,⟨n.toArray⟩=X:=⟨_,rfl⟩;rw[hX]
 obtain⟨W,hW⟩:∃W,(w.alloc (.cells #[.map (some da),.map (some co),.map (some (co+1)),.map (some (co+2))] 125)).alloc (.cells #[.int .i64 3,.string X,.slice none 0 0,.slice none 0 0,.int .i64 0,.string ⟨#[]⟩,.int .i64 0,.slice none 0 0,.int .i64 k,.string x,.bool t,.int .i64 K,.string X1,.int .i64 Z,.slice B mm q,.slice KA kn kc,.slice LA ln lc] 59)=W:=⟨_,rfl⟩;have hb:Below w.heap.size w W:=hW▸((ua _ w).alloc (tV _) _).alloc (by simp) _;have hz:W.heap.size=w.heap.size+1+1:=by rw[<-hW];simp
 have B1:Hid (Blk W (w.heap.size+1) 59 #[.int .i64 3,.string X,.slice none 0 0,.slice none 0 0,.int .i64 0,.string ⟨#[]⟩,.int .i64 0,.slice none 0 0,.int .i64 k,.string x,.bool t,.int .i64 K,.string X1,.int .i64 Z,.slice B mm q,.slice KA kn kc,.slice LA ln lc]):=wJ (hW▸zaA _ _ _ _ rfl);have B0:Hid (Blk W w.heap.size 125 #[.map (some da),.map (some co),.map (some (co+1)),.map (some (co+2))]):=wJ (hW▸Blk.alloc (tW w _) _);have g0:W.cell? ⟨w.heap.size+1,0,none⟩=some (.int .i64 3):=B1.out.cell 0;have dy:∀ {U:World},Below W.heap.size W U->∀g,S g->U.heap[g]?=w.heap[g]?:=λhU g hg=>(hb.trans (hU.mono (by omega))).block g (hS g hg).1;have HC:Hid (∀U,Below W.heap.size W U->Calls Tryz.prog 60 #[.agg #[.int .i64 k,.string x,.bool t,.int .i64 K,.string X1,.int .i64 Z,.slice B mm q,.slice KA kn kc,.slice LA ln lc]] U (λe' w'=>∃A2 n2 c2,e'=.returned (.slice A2 n2 c2)/\n2=(zas e).length/\w'.ownsRow U.heap.size 9 1 (.slice A2 n2 c2) n2 ((zas e).map Sx.strV)/\Below U.heap.size U w'/\Below W.heap.size W w')):=wJ (λU hU=>by
  refine(zhp e S _ U (hv.keep (λ_ h=>h) (dy hU)) (λg hg=>by have:=(hS g hg).1;have:=hU.size;omega) ay (by have:=size_wt e;omega) (by have:=za5 e;omega)).mono ?_;rintro e' w' ⟨A2,n2,c2,rfl,hn,hr,aC⟩;exact⟨A2,n2,c2,rfl,hn,hr,aC,hU.trans (aC.mono hU.size)⟩)
 have gA:Hid (∀U,Below W.heap.size W U->(U.cell? ⟨w.heap.size,3,none⟩=some (.map (some (co+2)))/\U.cell? ⟨w.heap.size+1,8,none⟩=some (.int .i64 k)/\U.cell? ⟨w.heap.size+1,9,none⟩=some (.string x)/\U.cell? ⟨w.heap.size+1,10,none⟩=some (.bool t)/\U.cell? ⟨w.heap.size+1,11,none⟩=some (.int .i64 K)/\U.cell? ⟨w.heap.size+1,12,none⟩=some (.string X1)/\U.cell? ⟨w.heap.size+1,13,none⟩=some (.int .i64 Z)/\U.cell? ⟨w.heap.size+1,14,none⟩=some (.slice B mm q)/\U.cell? ⟨w.heap.size+1,15,none⟩=some (.slice KA kn kc)/\U.cell? ⟨w.heap.size+1,16,none⟩=some (.slice LA ln lc))):=wJ λU hU=>by
  have c0:=B0.out.below hU (by omega);have c1:=B1.out.below hU (by omega);exact⟨c0.cell 3,c1.cell 8,c1.cell 9,c1.cell 10,c1.cell 11,c1.cell 12,c1.cell 13,c1.cell 14,c1.cell 15,c1.cell 16⟩
 have aJ:=wJ hb;have BB:Hid (Below W.heap.size W W):=wJ (ua _ _);clear hb dy;go_enter Tryz.func64,Tryz.ntmps64
 go_upto_region 3 with fail
 try rw[hW]
 clear hW g0;go_cut [5] from 9 (λv5 wx=>∃pb fb V0 v0 nb,v5=.pointer (some ⟨pb,0,none⟩)/\Hid (Below W.heap.size W wx)/\Hid (MisB w co e pb fb V0 v0 nb wx))
 case first =>
  refine wp_region_held_drew (S:=λU:World=>U.cell? ⟨w.heap.size,3,none⟩=some (.map (some (co+2)))/\U.cell? ⟨w.heap.size+1,8,none⟩=some (.int .i64 k)/\U.cell? ⟨w.heap.size+1,9,none⟩=some (.string x)/\U.cell? ⟨w.heap.size+1,10,none⟩=some (.bool t)/\U.cell? ⟨w.heap.size+1,11,none⟩=some (.int .i64 K)/\U.cell? ⟨w.heap.size+1,12,none⟩=some (.string X1)/\U.cell? ⟨w.heap.size+1,13,none⟩=some (.int .i64 Z)/\U.cell? ⟨w.heap.size+1,14,none⟩=some (.slice B mm q)/\U.cell? ⟨w.heap.size+1,15,none⟩=some (.slice KA kn kc)/\U.cell? ⟨w.heap.size+1,16,none⟩=some (.slice LA ln lc)) (by kernel_rfl) ?_ (λhHeld=>?_)
  ·refine gA.out _ ?_;(repeat first|(with_reducible exact BB.out)|(with_reducible refine uQ ?_)|(with_reducible refine vM ?_ (by have:=BB.out.size;first|omega|(simp;done)|(simp;omega)) _)|(with_reducible refine uN ?_ (by have:=BB.out.size;first|omega|(simp;done)|(simp;omega)) _))
  refine zaw (i:=0) (d:=9) (v:=?_) rfl rfl (by kernel_rfl) (by kernel_rfl) (by kernel_rfl) (λ_ _ _ h=>h) (Or.inl ⟨by rfl,?_⟩) (by assumption) ?_;rotate_left 1
  ·(intro w bm;(try dsimp only at bm);go_simp;(try with_reducible rfl))
  simp only[uh,uu,uv];refine zaw (i:=1) (d:=10) (v:=?_) rfl rfl (by kernel_rfl) (by kernel_rfl) (by kernel_rfl) (λ_ _ _ h=>h) (Or.inl ⟨by rfl,?_⟩) (by assumption) ?_;rotate_left 1
  ·(intro w bm;(try dsimp only at bm);go_simp;(try with_reducible rfl))
  simp only[uh,uu,uv];refine zaw (i:=3) (d:=12) (v:=?_) rfl rfl (by kernel_rfl) (by kernel_rfl) (by kernel_rfl) (λ_ _ _ h=>h) (Or.inl ⟨by rfl,?_⟩) (by assumption) ?_;rotate_left 1
  ·(intro w bm;(try dsimp only at bm);go_simp;(try with_reducible rfl))
  simp only[uh,uu,uv];refine zaw (i:=4) (d:=13) (v:=?_) rfl rfl (by kernel_rfl) (by kernel_rfl) (by kernel_rfl) (λ_ _ _ h=>h) (Or.inl ⟨by rfl,?_⟩) (by assumption) ?_;rotate_left 1
  ·(intro w bm;(try dsimp only at bm);go_simp;(try with_reducible rfl))
  simp only[uh,uu,uv];refine zaw (i:=5) (d:=14) (v:=?_) rfl rfl (by kernel_rfl) (by kernel_rfl) (by kernel_rfl) (λ_ _ _ h=>h) (Or.inl ⟨by rfl,?_⟩) (by assumption) ?_;rotate_left 1
  ·(intro w bm;(try dsimp only at bm);go_simp;(try with_reducible rfl))
  simp only[uh,uu,uv];refine wpAnyH_ready (rs:=[2,8]) (by kernel_rfl) (by simp) ?_;refine AllReadyH.cons (i:=2) rfl (λK hK=>?_) ?_
  ·go_simp
   with_reducible refine(HC.out _ (by(repeat first|(with_reducible exact BB.out)|(with_reducible refine uQ ?_)|(with_reducible refine vM ?_ (by have:=BB.out.size;first|omega|(simp;done)|(simp;omega)) _)|(with_reducible refine uN ?_ (by have:=BB.out.size;first|omega|(simp;done)|(simp;omega)) _)))).mono ?_
   rintro e' w2 ⟨A2,n2,c2,rfl,fj,aw,b2,lY⟩;have gi:=wJ fj;have dD:=wJ aw;have B2:=wJ b2;replace BB:=wJ lY;clear fj aw b2 lY HC;go_wp2_with fail
   refine hK.out _ _ ?_ (λhHeld=>?_)
   ·try dsimp only
    refine gA.out _ ?_;(repeat first|(with_reducible exact BB.out)|(with_reducible refine uQ ?_)|(with_reducible refine vM ?_ (by have:=BB.out.size;first|omega|(simp;done)|(simp;omega)) _)|(with_reducible refine uN ?_ (by have:=BB.out.size;first|omega|(simp;done)|(simp;omega)) _))
   clear hK K;refine zaw (i:=6) (d:=15) (v:=?_) rfl rfl (by kernel_rfl) (by kernel_rfl) (by kernel_rfl) (λ_ _ _ h=>h) (Or.inl ⟨by rfl,?_⟩) (by assumption) ?_;rotate_left 1
   ·(intro w bm;(try dsimp only at bm);go_simp;(try with_reducible rfl))
   simp only[uh,uu,uv];refine wpAnyH_ready (rs:=[7,8]) (by kernel_rfl) (by simp) ?_;refine AllReadyH.cons (i:=7) rfl (λK hK=>?_) ?_
   ·go_simp
    refine hK.out _ _ ?_ (λhHeld=>?_)
    ·try dsimp only
     refine gA.out _ ?_;(repeat first|(with_reducible exact BB.out)|(with_reducible refine uQ ?_)|(with_reducible refine vM ?_ (by have:=BB.out.size;first|omega|(simp;done)|(simp;omega)) _)|(with_reducible refine uN ?_ (by have:=BB.out.size;first|omega|(simp;done)|(simp;omega)) _))
    clear hK K;refine wpAnyH_ready (rs:=[8]) (by kernel_rfl) (by simp) ?_;refine AllReadyH.cons (i:=8) rfl (λK hK=>?_) ?_
    ·go_simp
     refine hK.out _ _ ?_ (λhHeld=>?_)
     ·try dsimp only
      refine gA.out _ ?_;(repeat first|(with_reducible exact BB.out)|(with_reducible refine uQ ?_)|(with_reducible refine vM ?_ (by have:=BB.out.size;first|omega|(simp;done)|(simp;omega)) _)|(with_reducible refine uN ?_ (by have:=BB.out.size;first|omega|(simp;done)|(simp;omega)) _))
     clear hK K;refine wpAnyH_ready (rs:=[9]) (by kernel_rfl) (by simp) ?_;refine AllReadyH.cons (i:=9) rfl (λK hK=>?_) ?_
     ·go_simp
      refine hK.out _ _ ?_ (λhHeld=>?_)
      ·try dsimp only
       refine gA.out _ ?_;(repeat first|(with_reducible exact BB.out)|(with_reducible refine uQ ?_)|(with_reducible refine vM ?_ (by have:=BB.out.size;first|omega|(simp;done)|(simp;omega)) _)|(with_reducible refine uN ?_ (by have:=BB.out.size;first|omega|(simp;done)|(simp;omega)) _))
      clear hK K;refine wpAnyH_done (by kernel_rfl) ?_ _;go_wp2_with fail
      go_meet
      case rel =>
       have pJ:=BB.out.size;have LW:=(BB.out.alloc BB.out.size (.cells #[.slice A2 n2 c2,.func (.func 116) #[.map (some (co+2))] #[],.int .i64 90] 184)).alloc (by simp;omega) (.cells #[.slice (some ⟨w2.heap.size,0,none⟩) 1 1] 129);refine⟨w2.heap.size+1,w2.heap.size,A2,c2,n2,rfl,wJ LW,wJ ⟨gi.out,aJ.out.trans (LW.mono (by omega)),zaA _ _ _ _ rfl,Blk.alloc (tW w2 _) _,(zbX gi.out dD.out).keep (λg hg=>?_) (λg hg=>?_),by omega,by omega,by omega⟩⟩
       ·have:=hg.1
        simp at this;exact⟨by omega,by have:=hg.2;simp;omega,by omega,by omega⟩
       ·exact(uc _ _ _ (by have:=hg.2;simp;omega)).trans (uc _ _ _ hg.2)
     exact AllReadyH.nil
    exact AllReadyH.nil
   refine AllReadyH.cons (i:=8) rfl (λK hK=>?_) ?_
   ·go_simp
    refine hK.out _ _ ?_ (λhHeld=>?_)
    ·try dsimp only
     refine gA.out _ ?_;(repeat first|(with_reducible exact BB.out)|(with_reducible refine uQ ?_)|(with_reducible refine vM ?_ (by have:=BB.out.size;first|omega|(simp;done)|(simp;omega)) _)|(with_reducible refine uN ?_ (by have:=BB.out.size;first|omega|(simp;done)|(simp;omega)) _))
    clear hK K;refine wpAnyH_ready (rs:=[7]) (by kernel_rfl) (by simp) ?_;refine AllReadyH.cons (i:=7) rfl (λK hK=>?_) ?_
    ·go_simp
     refine hK.out _ _ ?_ (λhHeld=>?_)
     ·try dsimp only
      refine gA.out _ ?_;(repeat first|(with_reducible exact BB.out)|(with_reducible refine uQ ?_)|(with_reducible refine vM ?_ (by have:=BB.out.size;first|omega|(simp;done)|(simp;omega)) _)|(with_reducible refine uN ?_ (by have:=BB.out.size;first|omega|(simp;done)|(simp;omega)) _))
     clear hK K;refine wpAnyH_ready (rs:=[9]) (by kernel_rfl) (by simp) ?_;refine AllReadyH.cons (i:=9) rfl (λK hK=>?_) ?_
     ·go_simp
      refine hK.out _ _ ?_ (λhHeld=>?_)
      ·try dsimp only
       refine gA.out _ ?_;(repeat first|(with_reducible exact BB.out)|(with_reducible refine uQ ?_)|(with_reducible refine vM ?_ (by have:=BB.out.size;first|omega|(simp;done)|(simp;omega)) _)|(with_reducible refine uN ?_ (by have:=BB.out.size;first|omega|(simp;done)|(simp;omega)) _))
      clear hK K;refine wpAnyH_done (by kernel_rfl) ?_ _;go_wp2_with fail
      go_meet
      case rel =>
       have pJ:=BB.out.size;have LW:=(BB.out.alloc BB.out.size (.cells #[.slice (some ⟨w2.heap.size+1,0,none⟩) 1 1] 129)).alloc (by simp;omega) (.cells #[.slice A2 n2 c2,.func (.func 116) #[.map (some (co+2))] #[],.int .i64 90] 184);refine⟨w2.heap.size,w2.heap.size+1,A2,c2,n2,rfl,wJ LW,wJ ⟨gi.out,aJ.out.trans (LW.mono (by omega)),Blk.alloc (tW w2 _) _,zaA _ _ _ _ rfl,(zbX gi.out dD.out).keep (λg hg=>?_) (λg hg=>?_),by omega,by omega,by omega⟩⟩
       ·have:=hg.1
        simp at this;exact⟨by omega,by have:=hg.2;simp;omega,by omega,by omega⟩
       ·exact(uc _ _ _ (by have:=hg.2;simp;omega)).trans (uc _ _ _ hg.2)
     exact AllReadyH.nil
    exact AllReadyH.nil
   exact AllReadyH.nil
  refine AllReadyH.cons (i:=8) rfl (λK hK=>?_) ?_
  ·go_simp
   refine hK.out _ _ ?_ (λhHeld=>?_)
   ·try dsimp only
    refine gA.out _ ?_;(repeat first|(with_reducible exact BB.out)|(with_reducible refine uQ ?_)|(with_reducible refine vM ?_ (by have:=BB.out.size;first|omega|(simp;done)|(simp;omega)) _)|(with_reducible refine uN ?_ (by have:=BB.out.size;first|omega|(simp;done)|(simp;omega)) _))
   clear hK K;refine wpAnyH_ready (rs:=[2]) (by kernel_rfl) (by simp) ?_;refine AllReadyH.cons (i:=2) rfl (λK hK=>?_) ?_
   ·go_simp
    with_reducible refine(HC.out _ (by(repeat first|(with_reducible exact BB.out)|(with_reducible refine uQ ?_)|(with_reducible refine vM ?_ (by have:=BB.out.size;first|omega|(simp;done)|(simp;omega)) _)|(with_reducible refine uN ?_ (by have:=BB.out.size;first|omega|(simp;done)|(simp;omega)) _)))).mono ?_
    rintro e' w2 ⟨A2,n2,c2,rfl,fj,aw,b2,lY⟩;have gi:=wJ fj;have dD:=wJ aw;have B2:=wJ b2;replace BB:=wJ lY;clear fj aw b2 lY HC;have hp:Blk (w2.alloc (.cells #[.slice A2 n2 c2,.func (.func 116) #[.map (some (co+2))] #[],.int .i64 90] 184)) (w.heap.size+1+1) 129 #[.slice none 0 0]:=(Blk.below (hz▸tW W _) B2.out (by simp;omega)).alloc _;obtain⟨p0,p1,p2⟩:=zbh hp;have HP:=wJ hp;clear hp;go_wp2_with fail
    refine hK.out _ _ ?_ (λhHeld=>?_)
    ·try dsimp only
     refine gA.out _ ?_;(repeat first|(with_reducible exact BB.out)|(with_reducible refine uQ ?_)|(with_reducible refine vM ?_ (by have:=BB.out.size;first|omega|(simp;done)|(simp;omega)) _)|(with_reducible refine uN ?_ (by have:=BB.out.size;first|omega|(simp;done)|(simp;omega)) _))
    clear hK K;refine zaw (i:=6) (d:=15) (v:=?_) rfl rfl (by kernel_rfl) (by kernel_rfl) (by kernel_rfl) (λ_ _ _ h=>h) (Or.inl ⟨by rfl,?_⟩) (by assumption) ?_;rotate_left 1
    ·(intro w bm;(try dsimp only at bm);go_simp;(try with_reducible rfl))
    simp only[uh,uu,uv];refine wpAnyH_ready (rs:=[7]) (by kernel_rfl) (by simp) ?_;refine AllReadyH.cons (i:=7) rfl (λK hK=>?_) ?_
    ·go_simp
     refine hK.out _ _ ?_ (λhHeld=>?_)
     ·try dsimp only
      refine gA.out _ ?_;(repeat first|(with_reducible exact BB.out)|(with_reducible refine uQ ?_)|(with_reducible refine vM ?_ (by have:=BB.out.size;first|omega|(simp;done)|(simp;omega)) _)|(with_reducible refine uN ?_ (by have:=BB.out.size;first|omega|(simp;done)|(simp;omega)) _))
     clear hK K;refine wpAnyH_ready (rs:=[9]) (by kernel_rfl) (by simp) ?_;refine AllReadyH.cons (i:=9) rfl (λK hK=>?_) ?_
     ·go_simp
      refine hK.out _ _ ?_ (λhHeld=>?_)
      ·try dsimp only
       refine gA.out _ ?_;(repeat first|(with_reducible exact BB.out)|(with_reducible refine uQ ?_)|(with_reducible refine vM ?_ (by have:=BB.out.size;first|omega|(simp;done)|(simp;omega)) _)|(with_reducible refine uN ?_ (by have:=BB.out.size;first|omega|(simp;done)|(simp;omega)) _))
      clear hK K;refine wpAnyH_done (by kernel_rfl) ?_ _;go_wp2_with fail
      go_meet
      case rel =>
       have pJ:=BB.out.size;have LW:=(BB.out.alloc BB.out.size (.cells #[.slice A2 n2 c2,.func (.func 116) #[.map (some (co+2))] #[],.int .i64 90] 184)).setCell (p:=⟨w.heap.size+1+1,0,none⟩) (by show W.heap.size<=w.heap.size+1+1;omega) (.slice (some ⟨w2.heap.size,0,none⟩) 1 1);have hbz:=B2.out.size;simp at hbz;refine⟨w.heap.size+1+1,w2.heap.size,A2,c2,n2,rfl,wJ LW,wJ ⟨gi.out,aJ.out.trans (LW.mono (by omega)),uk _ _ 0 _ _ _ HP.out,(Blk.same (tW w2 _) (tY _ ⟨w.heap.size+1+1,0,none⟩ _ w2.heap.size (by show w2.heap.size≠w.heap.size+1+1;omega))),(zbX gi.out dD.out).keep (λg hg=>?_) (λg hg=>?_),by omega,by omega,by omega⟩⟩
       ·have:=hg.1
        simp at this;exact⟨by omega,by have:=hg.2;simp;omega,by omega,by omega⟩
       ·have:=hg.1
        simp at this;exact(tY _ ⟨w.heap.size+1+1,0,none⟩ _ g (by show g≠w.heap.size+1+1;omega)).trans (uc _ _ _ hg.2)
     exact AllReadyH.nil
    exact AllReadyH.nil
   exact AllReadyH.nil
  exact AllReadyH.nil
 case rest =>
  obtain⟨pb,fb,V0,v0,nb,rfl,ax,nk⟩:=hcut;have hwz:=ax.out.size;have c1:=B1.out.below ax.out (by omega);have c0:=B0.out.below ax.out (by omega);have e8:wc.cell? ⟨w.heap.size+1,8,none⟩=some (.int .i64 k):=c1.cell 8;have e9:wc.cell? ⟨w.heap.size+1,9,none⟩=some (.string x):=c1.cell 9;have e10:wc.cell? ⟨w.heap.size+1,10,none⟩=some (.bool t):=c1.cell 10;have e11:wc.cell? ⟨w.heap.size+1,11,none⟩=some (.int .i64 K):=c1.cell 11;have e12:wc.cell? ⟨w.heap.size+1,12,none⟩=some (.string X1):=c1.cell 12;have e13:wc.cell? ⟨w.heap.size+1,13,none⟩=some (.int .i64 Z):=c1.cell 13;have e14:wc.cell? ⟨w.heap.size+1,14,none⟩=some (.slice B mm q):=c1.cell 14;have e15:wc.cell? ⟨w.heap.size+1,15,none⟩=some (.slice KA kn kc):=c1.cell 15;have e16:wc.cell? ⟨w.heap.size+1,16,none⟩=some (.slice LA ln lc):=c1.cell 16;have C1:=wJ c1;have C0:=wJ c0;have hco4:=za5 e;have lv:=size_wt e;have hW:=nk.out.walk_start hM hv hS aG ay;have HW:=wJ hW;have tu:=nk;clear ax c1 c0 hW BB gA HC;go_wp2_with fail
  refine HW.out.mono ?_;rintro e1 w2 ⟨rfl,M,⟨L,gG⟩,hMs,cP⟩;obtain⟨sl,kW⟩:∃y,runS stM (evs e) []=y:=⟨_,rfl⟩;rw[kW]at gG
  obtain⟨aA,jC,ji⟩:=tu.out.walk_end hM gG cP C0.out C1.out;obtain⟨g,cp,k1,k2,k3,k4,k5⟩:=gG.row;obtain⟨sn,og⟩:∃y,sl.length=y:=⟨_,rfl⟩;rw[og]at k1 k2
  have lZ:Hid (sn<=40000):=wJ (by have:=gG.len;omega);obtain⟨i0,bJ,bO,bz,bE⟩:=vz infoFa;have nS:Hid (∀U,Below w2.heap.size w2 U->(λU:World=>U.cell? ⟨pb,0,none⟩=some (.slice (some ⟨g,0,none⟩) (sn+1) cp)/\U.cell? ⟨w.heap.size,3,none⟩=some (.map (some (co+2)))/\U.cell? ⟨w.heap.size,1,none⟩=some (.map (some co))/\U.cell? ⟨w.heap.size+1,8,none⟩=some (.int .i64 k)/\U.cell? ⟨w.heap.size+1,9,none⟩=some (.string x)/\U.cell? ⟨w.heap.size+1,10,none⟩=some (.bool t)/\U.cell? ⟨w.heap.size+1,11,none⟩=some (.int .i64 K)/\U.cell? ⟨w.heap.size+1,12,none⟩=some (.string X1)/\U.cell? ⟨w.heap.size+1,13,none⟩=some (.int .i64 Z)/\U.cell? ⟨w.heap.size+1,14,none⟩=some (.slice B mm q)/\U.cell? ⟨w.heap.size+1,15,none⟩=some (.slice KA kn kc)/\U.cell? ⟨w.heap.size+1,16,none⟩=some (.slice LA ln lc)) U):=wJ λU hU=>by
   have c0:=jC.below hU jC.lt;have c1:=ji.below hU ji.lt;have cp:=k1.below hU k1.lt;exact⟨cp.cell 0,c0.cell 3,c0.cell 1,c1.cell 8,c1.cell 9,c1.cell 10,c1.cell 11,c1.cell 12,c1.cell 13,c1.cell 14,c1.cell 15,c1.cell 16⟩
  have HGL:Hid (g<w2.heap.size):=wJ (gG.all g k3).1;have ar:=wJ aA;have hvU:∀U,Below w2.heap.size w2 U->RdX S U e (.agg #[.int .i64 k,.string x,.bool t,.int .i64 K,.string X1,.int .i64 Z,.slice B mm q,.slice KA kn kc,.slice LA ln lc]):=λU hU=>hv.keep (λ_ h=>h) (λg hg=>(aA.trans (hU.mono aA.size)).block g (hS g hg).1);have hSU:∀U,Below w2.heap.size w2 U->∀g,S g->g<U.heap.size:=λU hU g hg=>by have:=(hS g hg).1;have:=hU.size;have:=aA.size;omega
  have HCF:Hid (∀U,Below w2.heap.size w2 U->Calls Tryz.prog 58 #[.agg #[.int .i64 k,.string x,.bool t,.int .i64 K,.string X1,.int .i64 Z,.slice B mm q,.slice KA kn kc,.slice LA ln lc]] U (λe' w'=>∃A2 n2 c2,e'=.returned (.slice A2 n2 c2)/\n2=(zaF e).length/\w'.ownsRow U.heap.size 9 1 (.slice A2 n2 c2) n2 ((zaF e).map Sx.strV)/\Below U.heap.size U w'/\Below w2.heap.size w2 w')):=wJ (λU hU=>by
   refine(ziS e S _ U (hvU U hU) (hSU U hU) ay (by omega) (by omega)).mono ?_;rintro e' w' ⟨A2,n2,c2,rfl,hn,hr,aC⟩;exact⟨A2,n2,c2,rfl,hn,hr,aC,hU.trans (aC.mono hU.size)⟩)
  have qU:Hid (∀U,Below w2.heap.size w2 U->Calls Tryz.prog 59 #[.agg #[.int .i64 k,.string x,.bool t,.int .i64 K,.string X1,.int .i64 Z,.slice B mm q,.slice KA kn kc,.slice LA ln lc]] U (λe' w'=>∃A2 n2 c2,e'=.returned (.slice A2 n2 c2)/\n2=(zaG e).length/\w'.ownsRow U.heap.size 9 1 (.slice A2 n2 c2) n2 ((zaG e).map Sx.strV)/\Below U.heap.size U w'/\Below w2.heap.size w2 w')):=wJ (λU hU=>by
   refine(ziR e S _ U (hvU U hU) (hSU U hU) ay (by omega) (by omega)).mono ?_;rintro e' w' ⟨A2,n2,c2,rfl,hn,hr,aC⟩;exact⟨A2,n2,c2,rfl,hn,hr,aC,hU.trans (aC.mono hU.size)⟩)
  have hgb:=(k2.lt g rfl).1;obtain⟨vs,dv⟩:∃y,v0C co V0 nb v0++L.flatMap BF.cells=y:=⟨_,rfl⟩;rw[dv]at k2
  have jV:=wJ (λ(w3 w4 w5:World) (A3 A4:Option Addr) (n3 n4 c3 c4 g5 c5:Nat) a1 a2 a3 a4 a5 a6 a7 (a8:w5.ownsRow (w.heap.size+2) 184 3 (.slice (some ⟨g5,0,none⟩) (sn+1+2) c5) (sn+1+2) (vs++[.slice A3 n3 c3,.func (.func 115) #[.map (some (co+2))] #[],.int .i64 91,.slice A4 n4 c4,.func (.func 115) #[.map (some co)] #[],.int .i64 91])) (a9:(w4.alloc (.cells #[.slice A3 n3 c3,.func (.func 115) #[.map (some (co+2))] #[],.int .i64 91,.slice A4 n4 c4,.func (.func 115) #[.map (some co)] #[],.int .i64 91] 184)).grownBy w5 (some g)) eD=>zoH hd hM ay aG kW og gG (by omega) k3 hgb k5 aA tu.out.n w3 w4 w5 A3 A4 n3 n4 c3 c4 g5 c5 a1 a2 a3 a4 a5 a6 a7 rfl (dv▸a8) a9 eD);have K2:=wJ k2;have HLG:Hid (∀U U',Below w2.heap.size w2 U->U.grownBy U' (some g)->(λU:World=>U.cell? ⟨pb,0,none⟩=some (.slice (some ⟨g,0,none⟩) (sn+1) cp)/\U.cell? ⟨w.heap.size,3,none⟩=some (.map (some (co+2)))/\U.cell? ⟨w.heap.size,1,none⟩=some (.map (some co))/\U.cell? ⟨w.heap.size+1,8,none⟩=some (.int .i64 k)/\U.cell? ⟨w.heap.size+1,9,none⟩=some (.string x)/\U.cell? ⟨w.heap.size+1,10,none⟩=some (.bool t)/\U.cell? ⟨w.heap.size+1,11,none⟩=some (.int .i64 K)/\U.cell? ⟨w.heap.size+1,12,none⟩=some (.string X1)/\U.cell? ⟨w.heap.size+1,13,none⟩=some (.int .i64 Z)/\U.cell? ⟨w.heap.size+1,14,none⟩=some (.slice B mm q)/\U.cell? ⟨w.heap.size+1,15,none⟩=some (.slice KA kn kc)/\U.cell? ⟨w.heap.size+1,16,none⟩=some (.slice LA ln lc)) U'):=wJ λU U' hU hG=>by
   have hk:∀k,k<w2.heap.size->k≠g->U'.heap[k]?=w2.heap[k]?:=λk h1 h2=>(hG.block k (by have:=hU.size;omega) (λe=>by injection e with e;exact h2 e)).trans (hU.block k h1);have c0:=jC.same (hk _ jC.lt (by omega));have c1:=ji.same (hk _ ji.lt (by omega));have cp:=k1.same (hk _ k1.lt k4.symm);exact⟨cp.cell 0,c0.cell 3,c0.cell 1,c1.cell 8,c1.cell 9,c1.cell 10,c1.cell 11,c1.cell 12,c1.cell 13,c1.cell 14,c1.cell 15,c1.cell 16⟩
  have BC:Hid (Below w2.heap.size w2 w2):=wJ (ua _ _);clear e8 e9 e10 e11 e12 e13 e14 e15 e16 gG cP hMs k1 k2 k3 kW og aA jC ji hvU hSU HW dv;go_upto_region 5 with fail
  refine wp_region_held_drew (S:=λU:World=>U.cell? ⟨pb,0,none⟩=some (.slice (some ⟨g,0,none⟩) (sn+1) cp)/\U.cell? ⟨w.heap.size,3,none⟩=some (.map (some (co+2)))/\U.cell? ⟨w.heap.size,1,none⟩=some (.map (some co))/\U.cell? ⟨w.heap.size+1,8,none⟩=some (.int .i64 k)/\U.cell? ⟨w.heap.size+1,9,none⟩=some (.string x)/\U.cell? ⟨w.heap.size+1,10,none⟩=some (.bool t)/\U.cell? ⟨w.heap.size+1,11,none⟩=some (.int .i64 K)/\U.cell? ⟨w.heap.size+1,12,none⟩=some (.string X1)/\U.cell? ⟨w.heap.size+1,13,none⟩=some (.int .i64 Z)/\U.cell? ⟨w.heap.size+1,14,none⟩=some (.slice B mm q)/\U.cell? ⟨w.heap.size+1,15,none⟩=some (.slice KA kn kc)/\U.cell? ⟨w.heap.size+1,16,none⟩=some (.slice LA ln lc)) (by kernel_rfl) ?_ (λhHeld=>?_)
  ·refine nS.out _ ?_;(repeat first|(with_reducible exact BC.out)|(with_reducible refine uQ ?_)|(with_reducible refine uN ?_ (by have:=BC.out.size;first|omega|(simp;done)|(simp;omega)) _))
  refine zaw (i:=0) (d:=21) (v:=?_) rfl rfl (by kernel_rfl) (by kernel_rfl) (by kernel_rfl) (λ_ _ _ h=>h) (Or.inl ⟨by rfl,?_⟩) (by assumption) ?_;rotate_left 1
  ·(intro w bm;(try dsimp only at bm);go_simp;(try with_reducible rfl))
  simp only[uh,uu,uv];refine zaw (i:=1) (d:=22) (v:=?_) rfl rfl (by kernel_rfl) (by kernel_rfl) (by kernel_rfl) (λ_ _ _ h=>h) (Or.inl ⟨by rfl,?_⟩) (by assumption) ?_;rotate_left 1
  ·(intro w bm;(try dsimp only at bm);go_simp;(try with_reducible rfl))
  simp only[uh,uu,uv];refine zaw (i:=2) (d:=23) (v:=?_) rfl rfl (by kernel_rfl) (by kernel_rfl) (by kernel_rfl) (λ_ _ _ h=>h) (Or.inl ⟨by rfl,?_⟩) (by assumption) ?_;rotate_left 1
  ·(intro w bm;(try dsimp only at bm);go_simp;(try with_reducible rfl))
  simp only[uh,uu,uv];refine zaw (i:=4) (d:=25) (v:=?_) rfl rfl (by kernel_rfl) (by kernel_rfl) (by kernel_rfl) (λ_ _ _ h=>h) (Or.inl ⟨by rfl,?_⟩) (by assumption) ?_;rotate_left 1
  ·(intro w bm;(try dsimp only at bm);go_simp;(try with_reducible rfl))
  simp only[uh,uu,uv];refine zaw (i:=5) (d:=26) (v:=?_) rfl rfl (by kernel_rfl) (by kernel_rfl) (by kernel_rfl) (λ_ _ _ h=>h) (Or.inl ⟨by rfl,?_⟩) (by assumption) ?_;rotate_left 1
  ·(intro w bm;(try dsimp only at bm);go_simp;(try with_reducible rfl))
  simp only[uh,uu,uv];refine zaw (i:=6) (d:=27) (v:=?_) rfl rfl (by kernel_rfl) (by kernel_rfl) (by kernel_rfl) (λ_ _ _ h=>h) (Or.inl ⟨by rfl,?_⟩) (by assumption) ?_;rotate_left 1
  ·(intro w bm;(try dsimp only at bm);go_simp;(try with_reducible rfl))
  simp only[uh,uu,uv];refine zaw (i:=8) (d:=29) (v:=?_) rfl rfl (by kernel_rfl) (by kernel_rfl) (by kernel_rfl) (λ_ _ _ h=>h) (Or.inl ⟨by rfl,?_⟩) (by assumption) ?_;rotate_left 1
  ·(intro w bm;(try dsimp only at bm);go_simp;(try with_reducible rfl))
  simp only[uh,uu,uv];refine zaw (i:=9) (d:=30) (v:=?_) rfl rfl (by kernel_rfl) (by kernel_rfl) (by kernel_rfl) (λ_ _ _ h=>h) (Or.inl ⟨by rfl,?_⟩) (by assumption) ?_;rotate_left 1
  ·(intro w bm;(try dsimp only at bm);go_simp;(try with_reducible rfl))
  simp only[uh,uu,uv];refine zaw (i:=11) (d:=32) (v:=?_) rfl rfl (by kernel_rfl) (by kernel_rfl) (by kernel_rfl) (λ_ _ _ h=>h) (Or.inl ⟨by rfl,?_⟩) (by assumption) ?_;rotate_left 1
  ·(intro w bm;(try dsimp only at bm);go_simp;(try with_reducible rfl))
  simp only[uh,uu,uv];refine zaw (i:=12) (d:=33) (v:=?_) rfl rfl (by kernel_rfl) (by kernel_rfl) (by kernel_rfl) (λ_ _ _ h=>h) (Or.inl ⟨by rfl,?_⟩) (by assumption) ?_;rotate_left 1
  ·(intro w bm;(try dsimp only at bm);go_simp;(try with_reducible rfl))
  simp only[uh,uu,uv];refine zaw (i:=13) (d:=34) (v:=?_) rfl rfl (by kernel_rfl) (by kernel_rfl) (by kernel_rfl) (λ_ _ _ h=>h) (Or.inl ⟨by rfl,?_⟩) (by assumption) ?_;rotate_left 1
  ·(intro w bm;(try dsimp only at bm);go_simp;(try with_reducible rfl))
  simp only[uh,uu,uv];refine wpAnyH_ready (rs:=[3]) (by kernel_rfl) (by simp) ?_;refine AllReadyH.cons (i:=3) rfl (λK hK=>?_) ?_
  ·go_simp
   with_reducible refine(HCF.out _ (by(repeat first|(with_reducible exact BC.out)|(with_reducible refine uQ ?_)|(with_reducible refine uN ?_ (by have:=BC.out.size;first|omega|(simp;done)|(simp;omega)) _)))).mono ?_
   rintro e' w3 ⟨A3,n3,c3,rfl,hn,hr,bl,bb⟩;have HN3:=wJ hn;have gz:=wJ hr;have BL3:=wJ bl;replace BC:=wJ bb;clear hn hr bl bb;go_wp2_with fail
   refine hK.out _ _ ?_ (λhHeld=>?_)
   ·try dsimp only
    refine nS.out _ ?_;(repeat first|(with_reducible exact BC.out)|(with_reducible refine uQ ?_)|(with_reducible refine uN ?_ (by have:=BC.out.size;first|omega|(simp;done)|(simp;omega)) _))
   clear hK K;refine zaw (i:=7) (d:=28) (v:=?_) rfl rfl (by kernel_rfl) (by kernel_rfl) (by kernel_rfl) (λ_ _ _ h=>h) (Or.inl ⟨by rfl,?_⟩) (by assumption) ?_;rotate_left 1
   ·(intro w bm;(try dsimp only at bm);go_simp;(try with_reducible rfl))
   simp only[uh,uu,uv];refine wpAnyH_ready (rs:=[10]) (by kernel_rfl) (by simp) ?_;refine AllReadyH.cons (i:=10) rfl (λK hK=>?_) ?_
   ·go_simp
    with_reducible refine(qU.out _ (by(repeat first|(with_reducible exact BC.out)|(with_reducible refine uQ ?_)|(with_reducible refine uN ?_ (by have:=BC.out.size;first|omega|(simp;done)|(simp;omega)) _)))).mono ?_
    rintro e' w4 ⟨A4,n4,c4,rfl,hn,hr,bl,bb⟩;have HN4:=wJ hn;have qO:=wJ hr;have BL4:=wJ bl;replace BC:=wJ bb;clear hn hr bl bb;go_wp2_with fail
    refine hK.out _ _ ?_ (λhHeld=>?_)
    ·try dsimp only
     refine nS.out _ ?_;(repeat first|(with_reducible exact BC.out)|(with_reducible refine uQ ?_)|(with_reducible refine uN ?_ (by have:=BC.out.size;first|omega|(simp;done)|(simp;omega)) _))
    clear hK K;refine zaw (i:=14) (d:=35) (v:=?_) rfl rfl (by kernel_rfl) (by kernel_rfl) (by kernel_rfl) (λ_ _ _ h=>h) (Or.inl ⟨by rfl,?_⟩) (by assumption) ?_;rotate_left 1
    ·(intro w bm;(try dsimp only at bm);go_simp;(try with_reducible rfl))
    simp only[uh,uu,uv];refine wpAnyH_ready (rs:=[15]) (by kernel_rfl) (by simp) ?_;refine AllReadyH.cons (i:=15) rfl (λK hK=>?_) ?_
    ·go_simp
     refine hK.out _ _ ?_ (λhHeld=>?_)
     ·try dsimp only
      refine nS.out _ ?_;(repeat first|(with_reducible exact BC.out)|(with_reducible refine uQ ?_)|(with_reducible refine uN ?_ (by have:=BC.out.size;first|omega|(simp;done)|(simp;omega)) _))
     clear hK K;refine wpAnyH_ready (rs:=[16]) (by kernel_rfl) (by simp) ?_;refine AllReadyH.cons (i:=16) rfl (λK hK=>?_) ?_
     ·skip
      have HO:=wJ ((zbi K2.out (λa ha=>by injection ha with ha;subst ha;exact BC.out.block g HGL.out)).alloc (.cells #[.slice A3 n3 c3,.func (.func 115) #[.map (some (co+2))] #[],.int .i64 91,.slice A4 n4 c4,.func (.func 115) #[.map (some co)] #[],.int .i64 91] 184));refine step_append_lies _ rfl (.tmp 21) (.tmp 36) 129 rfl (w.heap.size+2) 184 i0 _ 3 40 Tryz.underlying129 bJ bO bz bE rfl (by decide) _ (sn+1) vs rfl HO.out ⟨w4.heap.size,0,none⟩ 2 2 [.slice A3 n3 c3,.func (.func 115) #[.map (some (co+2))] #[],.int .i64 91,.slice A4 n4 c4,.func (.func 115) #[.map (some co)] #[],.int .i64 91] rfl rfl (World.news_of_block (tW _ _)) (by intro u hu;simp at hu;rcases hu with rfl|rfl|rfl|rfl|rfl|rfl <;> rfl) (by decide) (by have:=lZ.out;unfold maxLen;omega) (by have:=lZ.out;omega) (by have:=BC.out.size;have:=HGL.out;simp;omega) _ rfl ?_;intro g5 c5 w5 aI ab aH rU;have eU:=wJ aI;have cQ:=wJ ab;have fZ:=wJ aH;clear aI ab aH HO;go_simp
      refine hK.out _ _ ?_ (λhHeld=>?_)
      ·try dsimp only
       exact HLG.out _ _ (BC.out.alloc BC.out.size _) cQ.out
      clear hK K;refine zaw (i:=17) (d:=4) (v:=?_) rfl rfl (by kernel_rfl) (by kernel_rfl) (by kernel_rfl) (λ_ _ _ h=>h) (Or.inl ⟨by rfl,?_⟩) (by assumption) ?_;rotate_left 1
      ·(intro w bm;(try dsimp only at bm);go_simp;(try with_reducible rfl))
      simp only[uh,uu,uv];refine wpAnyH_done (by kernel_rfl) ?_ _;go_wp2_with fail
      go_ret
      exact jV.out w3 w4 w5 A3 A4 n3 n4 c3 c4 g5 c5 BC.out BL3.out.size HN3.out HN4.out gz.out qO.out BL4.out eU.out cQ.out (fZ.out.imp id (λh=>h.trans (by simp)))
     exact AllReadyH.nil
    exact AllReadyH.nil
   exact AllReadyH.nil
  exact AllReadyH.nil
end Go.Proofs.YtknkclefoiohpaaGreatDoor
namespace Go.Proofs.YtknkclefoiohpaaGreatDoor
open Go.RowKit Lx Tx Sx Go.Maps Go.WideMaps Go.Shelf
set_option maxRecDepth 100000
theorem zjv {V:Type}(m:MK V)(w:World) {ops:Array Oper} {rest:List Oper} {o:Oper} {a:Act} {Q:Exit->Act->World->Prop}
  (hg:o.guard=none)(mo x vo:Operand)(hop:o.op=Op.insert m.t mo x vo)(b:Nat)(r:List (Name × V))(hm:a.eval mo=.map (some b))(h:MapE m w b r)(hn:r.length<100000000000000)(X:ByteArray)(hX:X.size<=maxLen)
  (hx:a.eval x=.string X)(v:V)(ay:m.ok v)(hv:a.eval vo=m.val v)(hK:∀w',MapE m w' b ((X.data.toList,v)::r)->w.grownBy w' (some b)->wpList Tryz.prog ops Q rest (a.put o.dst undef) w'):wpList Tryz.prog ops Q (o::rest) a w:=by
 obtain⟨n,hnr,h⟩:=h;refine wpList_plain hg λK' hK'=>?_;obtain⟨w',lx,r1,r2⟩:=h.update strKeyed m.hT (by unfold maxLen;omega) (strKey X hX) (m.hR v ay);unfold Oper.wp;simp[execOp,hop,hm,hx,hv,lx,Result.andThen]
 exact hK' _ _ (hK w' (MapE.of (r:=(X.data.toList,v)::r) r1) r2)
theorem zd6(da co si bi:Nat)(k0:Int)(hk:k0≠3)(X:ByteArray)(A0:Option Addr)(m0 c0:Nat)(A1:Option Addr)(m1 c1:Nat)(K0:Int)(X0:ByteArray)(Z0:Int)(B0:Option Addr)(n0 d0:Nat)(k1:Int)(X1:ByteArray)(t1:Bool)(K1:Int)(X2:ByteArray)(Z1:Int)(B1:Option Addr)(n1 d1:Nat)(C1:Option Addr)(p1 e1:Nat)(D1:Option Addr)(q1 f1:Nat)(w:World):Calls Tryz.prog 64 #[.agg #[.map (some da),.map (some co),.map (some si),.map (some bi)],
   .agg #[.int .i64 k0,.string X,.slice A0 m0 c0,.slice A1 m1 c1,.int .i64 K0,.string X0,.int .i64 Z0,.slice B0 n0 d0,.int .i64 k1,.string X1,.bool t1,.int .i64 K1,.string X2,.int .i64 Z1,.slice B1 n1 d1,.slice C1 p1 e1,.slice D1 q1 f1]] w λe w'=>e=.returned (.slice none 0 0)/\Below w.heap.size w w':=by
 obtain⟨W,hW⟩:∃W,(w.alloc (.cells #[.map (some da),.map (some co),.map (some si),.map (some bi)] 125)).alloc (.cells #[.int .i64 k0,.string X,.slice A0 m0 c0,.slice A1 m1 c1,.int .i64 K0,.string X0,.int .i64 Z0,.slice B0 n0 d0,.int .i64 k1,.string X1,.bool t1,.int .i64 K1,.string X2,.int .i64 Z1,.slice B1 n1 d1,.slice C1 p1 e1,.slice D1 q1 f1] 59)=W:=⟨_,rfl⟩;have hb:Below w.heap.size w W:=hW▸((ua _ w).alloc (tV _) _).alloc (by simp) _;have b1:Blk W (w.heap.size+1) 59 #[.int .i64 k0,.string X,.slice A0 m0 c0,.slice A1 m1 c1,.int .i64 K0,.string X0,.int .i64 Z0,.slice B0 n0 d0,.int .i64 k1,.string X1,.bool t1,.int .i64 K1,.string X2,.int .i64 Z1,.slice B1 n1 d1,.slice C1 p1 e1,.slice D1 q1 f1]:=hW▸zaA _ _ _ _ rfl;have g0:W.cell? ⟨w.heap.size+1,0,none⟩=some (.int .i64 k0):=b1.cell 0;have d:(k0 != 3)=true:=by simpa using hk
 have HB:=wJ hb;clear b1 hb hk;go_enter Tryz.func64,Tryz.ntmps64
 go_wp2_with fail
 go_ret
 exact⟨rfl,HB.out⟩
theorem zmR {da co:Nat}(hd:da<co)(m:Mets)(x:De)(S:Nat->Prop)(cs:List Value)(w:World)(hM:MetsAt da co m w)(hv:pcD.Cs S w x cs)(hS:∀g,S g->g<w.heap.size/\¬metB da co g)(aG:m.size+x.wt<=9000)(ay:De.Ok x):Calls Tryz.prog 64 #[.agg #[.map (some da),.map (some co),.map (some (co+1)),.map (some (co+2))],.agg cs.toArray] w (LPostF da co w (za7 2 m x) (MetsAt da co (zaS 2 m x))):=by
 have bk:∀e w',(e=.returned (.slice none 0 0)/\Below w.heap.size w w')->LPostF da co w none (MetsAt da co m) e w':=by
  rintro e w' ⟨rfl,hb⟩;exact LPostF.none hb (λW h=>(hM.below hb).below h)
 cases x with
 |data n ps l =>
  obtain⟨V,v,A,a,rfl,-⟩:=hv;exact(zd6 da co (co+1) (co+2) 1 (by decide) ⟨n.toArray⟩ V ps.length v A l.length a 0 ⟨#[]⟩ 0 none 0 0 0 ⟨#[]⟩ false 0 ⟨#[]⟩ 0 none 0 0 none 0 0 none 0 0 w).mono bk
 |sig n t =>
  obtain⟨A,a,rfl,-⟩:=hv;obtain⟨K,X,Z,B,mm,q,hs⟩:=zaT (some t) A a;rw[show([.int .i64 2,Sx.strV n,.slice none 0 0,.slice none 0 0]++tyV t A a++exZl).toArray=#[.int .i64 2,.string ⟨n.toArray⟩,.slice none 0 0,.slice none 0 0,.int .i64 K,.string X,.int .i64 Z,.slice B mm q,.int .i64 0,.string ⟨#[]⟩,.bool false,.int .i64 0,.string ⟨#[]⟩,.int .i64 0,.slice none 0 0,.slice none 0 0,.slice none 0 0] by rw[show tyV t A a=tyC (some t) A a from rfl,hs];rfl]
  exact(zd6 da co (co+1) (co+2) 2 (by decide) ⟨n.toArray⟩ none 0 0 none 0 0 K X Z B mm q 0 ⟨#[]⟩ false 0 ⟨#[]⟩ 0 none 0 0 none 0 0 none 0 0 w).mono bk
 |bind n e =>
  obtain⟨P,rfl,h1,h2⟩:=hv;obtain⟨k1,x1,t1,K1,X1,Z1,B1,m1,q1,cE,cz,cA,cD,cw,cy,hs⟩:=zdg e P;have hx:RdX S w e (.agg (exC e P).toArray):=zdC.2 ⟨P,rfl,h1,h2⟩;rw[hs]at hx
  rw[show([.int .i64 3,Sx.strV n,.slice none 0 0,.slice none 0 0]++tyZl++exC e P).toArray=#[.int .i64 3,.string ⟨n.toArray⟩,.slice none 0 0,.slice none 0 0,.int .i64 0,.string ⟨#[]⟩,.int .i64 0,.slice none 0 0,.int .i64 k1,.string x1,.bool t1,.int .i64 K1,.string X1,.int .i64 Z1,.slice B1 m1 q1,.slice cE cz cA,.slice cD cw cy] by rw[hs];rfl]
  exact zfq hd m n e S k1 x1 t1 K1 X1 Z1 B1 m1 q1 cE cz cA cD cw cy w hM hx hS (by simp only[De.wt]at aG;omega) ay.2
def lkF(j:Nat):Nat:=if j=0 then 62 else if j=1 then 63 else 64
theorem zpq(j:Nat):∀args w,(callFunc (lkF j) args).run Tryz.prog w=.ok (.enter (lkF j) args) w:=by
 unfold lkF;split
 ·exact enters_of Tryz.func62 (by kernel_rfl) rfl
 ·split
  ·exact enters_of Tryz.func63 (by kernel_rfl) rfl
  ·exact enters_of Tryz.func64 (by kernel_rfl) rfl
theorem zou {da co:Nat}(hd:da<co)(j:Nat)(hj:j<3)(m:Mets)(x:De)(S:Nat->Prop)(cs:List Value)(w:World)(hM:MetsAt da co m w)(hv:pcD.Cs S w x cs)(hS:∀g,S g->g<w.heap.size/\¬metB da co g)(aG:m.size+x.wt<=9000)(ay:De.Ok x):Calls Tryz.prog (lkF j) #[.agg #[.map (some da),.map (some co),.map (some (co+1)),.map (some (co+2))],.agg cs.toArray] w (LPostF da co w (za7 j m x) (MetsAt da co (zaS j m x))):=by
 match j,hj with
 |0,_=>exact znc hd m x S cs w hM hv hS (by omega) ay
 |1,_=>exact znd hd m x S cs w hM hv (by omega) ay
 |2,_=>exact zmR hd m x S cs w hM hv hS aG ay
end Go.Proofs.YtknkclefoiohpaaGreatDoor
