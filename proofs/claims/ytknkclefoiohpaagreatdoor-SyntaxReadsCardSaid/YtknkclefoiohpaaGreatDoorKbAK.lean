/-
  Contracts of the code's functions, part 37.
-/
import Derived.Test.YtknkclefoiohpaaGreatDoorKbAJ
import Derived.Deep.CutRange
namespace Go.Proofs.YtknkclefoiohpaaGreatDoor
open Go.RowKit Lx Tx Sx
set_option maxRecDepth 100000
def letP(P1:Option (List Tok)):Option (List Tok):=if isO 6 [58] P1=true then((nxO 6 [58] P1).bind typ).map (·.2) else P1
def letA(f:Nat)(P2:Option (List Tok)):Option (Ex × List Tok):=(nxO 6 [61] P2).bind (rdE f)
def letB(f:Nat)(P2:Option (List Tok)):Option (Ex × List Tok):=(nxO 3 wIn ((letA f P2).map (·.2))).bind (rdE f)
theorem let_all(f:Nat)(l:List Tok):(letF f l).map (·.2)=(letB f (letP (nxO 1 [] (some l)))).map (·.2) /\
  ∀x r,letF f l=some (x,r)->∃t a b ra,x=.lt (txO (some l)) t a b/\letA f (letP (nxO 1 [] (some l)))=some (a,ra)/\letB f (letP (nxO 1 [] (some l)))=some (b,r) /\
   (isO 6 [58] (nxO 1 [] (some l))=true->∃t' rt,(nxO 6 [58] (nxO 1 [] (some l))).bind typ=some (t',rt)/\t=some t')/\(isO 6 [58] (nxO 1 [] (some l))=false->t=none):=by
 have key:∀(t:Option Ty) (p:Option (List Tok)),(letO f (txO (some l)) t p).map (·.2)=(letB f p).map (·.2)/\∀x r,letO f (txO (some l)) t p=some (x,r)->∃a b ra,x=.lt (txO (some l)) t a b/\letA f p=some (a,ra)/\letB f p=some (b,r):=by
  intro t p
  refine⟨letO_snd f _ t p,λx r h=>?_⟩
  obtain⟨a,b,ra,h1,h2,h3⟩:=letO_some h
  exact⟨a,b,ra,h1,h2,by rw[letB,letA,h2];exact h3⟩
 rw[let_o]
 obtain⟨P1,hP1⟩:∃P,nxO 1 [] (some l)=P:=⟨_,rfl⟩
 rw[hP1,letP]
 by_cases hq:isO 6 [58] P1=true
 ·rw[if_pos hq,if_pos hq]
  cases hT:(nxO 6 [58] P1).bind typ with
  | none=>exact⟨rfl,λx r h=>by cases h⟩
  | some y =>
   rw[Option.bind_some,Option.map_some]
   obtain⟨k1,k2⟩:=key (some y.1) (some y.2)
   refine⟨k1,λx r h=>?_⟩
   obtain⟨a,b,ra,h1,h2,h3⟩:=k2 x r h
   exact⟨_,a,b,ra,h1,h2,h3,λ_=>⟨y.1,y.2,rfl,rfl⟩,λh=>by rw[hq]at h;cases h⟩
 ·rw[if_neg hq,if_neg hq]
  obtain⟨k1,k2⟩:=key none P1
  refine⟨k1,λx r h=>?_⟩
  obtain⟨a,b,ra,h1,h2,h3⟩:=k2 x r h
  exact⟨_,a,b,ra,h1,h2,h3,λh=>absurd h hq,λ_=>rfl⟩
theorem rdE_let(f:Nat)(l:List Tok)(h:isO 3 wLet (some l)=true):rdE (f+2) l=letF f l.tail:=by
 have h3:isHd l 3 wLet=true:=by rw[<-isO_hd _ _ (by decide)];exact h
 have h6:¬isHd l 6 [92]=true:=by
  intro h'
  simp only[isHd,Bool.and_eq_true,beq_iff_eq]at h3 h'
  omega
 rw[rdE_eq,if_neg h6,if_pos h3,rdLet_eq]
structure LetM (ts:List Tok) (w:World) (ge:Nat) (X:ByteArray) (P1:Option (List Tok)) (q:Bool) (zk:Int) (K:Int) (S:ByteArray) (Z:Int) (T:Option Addr) (m c:Nat) (wx:World):Prop where
 p:PAt ts (letP P1) zk
 e:Blk wx ge 48 #[.int .i64 5,.string X,.bool q,.int .i64 K,.string S,.int .i64 Z,.slice T m c,.slice none 0 0,.slice none 0 0]
 r:Blk wx w.heap.size 48 #[.int .i64 0,.string ⟨#[]⟩,.bool false,.int .i64 0,.string ⟨#[]⟩,.int .i64 0,.slice none 0 0,.slice none 0 0,.slice none 0 0]
 b:Below w.heap.size w wx
 t1:q=true->∀t rt,(nxO 6 [58] P1).bind typ=some (t,rt)->TyL (λg=>ge<g/\g<wx.heap.size) wx (some t) [.int .i64 K,.string S,.int .i64 Z,.slice T m c]
 t0:q=false->TyL (λg=>ge<g/\g<wx.heap.size) wx none [.int .i64 K,.string S,.int .i64 Z,.slice T m c]
theorem LetM.below {ts:List Tok} {w:World} {ge:Nat} {X:ByteArray} {P1:Option (List Tok)} {q:Bool} {zk K:Int} {S:ByteArray} {Z:Int} {T:Option Addr} {m c:Nat} {wx wy:World}(h:LetM ts w ge X P1 q zk K S Z T m c wx)(hb:Below wx.heap.size wx wy):LetM ts w ge X P1 q zk K S Z T m c wy :=
 ⟨h.p,h.e.below hb h.e.lt,h.r.below hb h.r.lt,h.b.trans (hb.mono h.b.size),λhq t rt ht=>(h.t1 hq t rt ht).keep (λg hg=>⟨hg.1,by have:=hb.size;omega⟩) (λg hg=>hb.block g hg.2),λhq=>(h.t0 hq).keep (λg hg=>⟨hg.1,by have:=hb.size;omega⟩) (λg hg=>hb.block g hg.2)⟩
set_option maxHeartbeats 12800000 in
theorem r8_read_let(f:Nat)(ts:List Tok)(v:Value)(hG:AllG ts)(hn:ts.length<=100000)(IH:Rd8 ts v (f+1))(w:World)(i:Nat)(hv:RdT w v ts)(hq:isO 3 wLet (some (ts.drop i))=true)(hf:3*(ts.drop i).length+3<=f+2) :
  Calls Tryz.prog 44 #[v,.int .i64 (i:Nat)] w (XP8 ts w (rdE (f+2) (ts.drop i))):=by
 have hlt:=isO_lt (by decide) hq
 have hp0:PAt ts (some (ts.drop i)) (i:Nat):=PAt.some_ ts i (by omega)
 obtain⟨hp1,-,-⟩:=pat_next (by decide) hp0 hq
 have e1:nxO 3 wLet (some (ts.drop i))=some (ts.drop i).tail:=by rw[nxO,hq,if_pos rfl];rfl
 rw[e1]at hp1
 have hl1:(ts.drop i).tail.length+1=(ts.drop i).length:=by
  obtain⟨l,h1,h2,h3,-⟩:=nxO_len (by decide) e1
  injection h1 with h1
  subst h1
  omega
 have hq6:isO 6 [92] (some (ts.drop i))=false:=by
  rw[Bool.eq_false_iff]
  intro h'
  rw[isO_hd _ _ (by decide)]at hq h'
  simp only[isHd,Bool.and_eq_true,beq_iff_eq]at hq h'
  omega
 have HI1:Hid (∀W,Below w.heap.size w W->Calls Tryz.prog 34 #[v,.int .i64 (i:Nat),.int .i64 6,.string ⟨#[92]⟩] W λe w'=>e=.returned (.bool false)/\W=w'):=hidE λW hb=>by
  have:=r8_is v ts _ _ 6 ⟨#[92]⟩ 6 rfl (by decide) W (hv.below hb) hp0
  rwa [show(⟨#[92]⟩:ByteArray).data.toList=[92] from rfl,hq6]at this
 have HI2:Hid (∀W,Below w.heap.size w W->Calls Tryz.prog 34 #[v,.int .i64 (i:Nat),.int .i64 3,.string ⟨#[108,101,116]⟩] W λe w'=>e=.returned (.bool true)/\W=w'):=hidE λW hb=>by
  have:=r8_is v ts _ _ 3 ⟨#[108,101,116]⟩ 3 rfl (by decide) W (hv.below hb) hp0
  rwa [show(⟨#[108,101,116]⟩:ByteArray).data.toList=wLet from rfl,hq]at this
 obtain⟨O,hO⟩:∃O,rdE (f+2) (ts.drop i)=O:=⟨_,rfl⟩
 rw[hO]
 rw[rdE_let f _ hq]at hO
 obtain⟨hA1,hA2⟩:=let_all f (ts.drop i).tail
 rw[hO]at hA1 hA2
 have HN1:=hidE (λW (hb:Below w.heap.size w W)=>r8_next v ts _ _ 1 ⟨#[]⟩ 1 rfl (by decide) W (hv.below hb) hn hp1)
 have HTX:=hidE (λW (hb:Below w.heap.size w W)=>r8_text v ts _ _ W (hv.below hb) hp1)
 obtain⟨P1,hP1⟩:∃P,nxO 1 [] (some (ts.drop i).tail)=P:=⟨_,rfl⟩
 obtain⟨X,hX⟩:∃X:ByteArray,⟨(txO (some (ts.drop i).tail)).toArray⟩=X:=⟨_,rfl⟩
 have hX2:txO (some (ts.drop i).tail)=X.data.toList:=by rw[<-hX]
 rw[hP1,hX2]at hA2
 rw[hP1]at hA1
 rw[hX]at HTX
 have hlenP:∀r,P1=some r->3*r.length+3<=f:=λr hr=>by
  obtain⟨l2,hl2,-,h5,-⟩:=nxO_len (by decide) (hP1.trans hr)
  injection hl2 with hl2
  subst hl2
  omega
 have hpg1:∀z,PAt ts P1 z->∀r,letP P1=some r->AllG r/\3*r.length+3<=f:=λz hz r hr=>by
  rw[letP]at hr
  by_cases hc:isO 6 [58] P1=true
  ·rw[if_pos hc]at hr
   cases hT:(nxO 6 [58] P1).bind typ with
   | none=>rw[hT]at hr;cases hr
   | some y =>
    rw[hT]at hr
    replace hr:y.2=r:=by injection hr
    subst hr
    cases hN:nxO 6 [58] P1 with
    | none=>rw[hN]at hT;cases hT
    | some r1 =>
     rw[hN,Option.bind_some]at hT
     obtain⟨l,hl,h2,h3,-⟩:=nxO_len (by decide) hN
     have g1:AllG r1:=by rw[<-h2];exact AllG.tail' (hz.good hG l hl)
     obtain⟨-,g2,h4⟩:=typ_facts g1 hT
     have:=hlenP l hl
     exact⟨g2,by omega⟩
  ·rw[if_neg hc]at hr
   exact⟨hz.good hG r hr,hlenP r hr⟩
 have hlenA:∀z,PAt ts P1 z->∀r,nxO 6 [61] (letP P1)=some r->AllG r/\3*r.length+3<=f:=λz hz r hr=>by
  obtain⟨l,hl,h2,h3,-⟩:=nxO_len (by decide) hr
  obtain⟨g1,h4⟩:=hpg1 z hz l hl
  exact⟨by rw[<-h2];exact AllG.tail' g1,by omega⟩
 have hlenB:∀z,PAt ts P1 z->∀r,nxO 3 wIn ((letA f (letP P1)).map (·.2))=some r->3*r.length+3<=f:=λz hz r hr=>by
  obtain⟨l,hl,h2,h3,-⟩:=nxO_len (by decide) hr
  cases hA:letA f (letP P1) with
  | none=>rw[hA]at hl;cases hl
  | some y =>
   rw[hA]at hl
   replace hl:y.2=l:=by injection hl
   subst hl
   rw[letA]at hA
   cases hN:nxO 6 [61] (letP P1) with
   | none=>rw[hN]at hA;cases hA
   | some r1 =>
    rw[hN,Option.bind_some]at hA
    obtain⟨g1,h4⟩:=hlenA z hz r1 hN
    have:=(rdE_len f r1 y.1 y.2 g1 hA).2
    omega
 have HP1:=hidE hP1
 have HA1:=hidE hA1
 have HA2:=hidE hA2
 have HLA:=hidE hlenA
 have HLB:=hidE hlenB
 have HV:=hidE hv
 have HIH:=hidE IH
 have HG:=hidE hG
 have hi9:(i:Int)<100000:=by omega
 obtain⟨W0,hW0⟩:∃W,w.alloc (.cells #[.int .i64 0,.string ⟨#[]⟩,.bool false,.int .i64 0,.string ⟨#[]⟩,.int .i64 0,.slice none 0 0,.slice none 0 0,.slice none 0 0] 48)=W:=⟨_,rfl⟩
 have hal:Below w.heap.size w W0:=hW0▸(Below.refl _ w).alloc (Nat.le_refl _) _
 have hs0:w.heap.size+1<=W0.heap.size/\W0.heap.size<=w.heap.size+1:=by rw[<-hW0];simp
 have hbk:Blk W0 w.heap.size 48 #[.int .i64 0,.string ⟨#[]⟩,.bool false,.int .i64 0,.string ⟨#[]⟩,.int .i64 0,.slice none 0 0,.slice none 0 0,.slice none 0 0]:=hW0▸heap_alloc_new _ _
 have HAL:=hidE hal
 have HBK:=hidE hbk
 clear hv hq hf IH hlt hp0 hp1 e1 hl1 hP1 hX hX2 hlenP hpg1 hlenA hlenB hO hal hbk hA1 hA2 hq6 hG
 go_enter Tryz.func44,Tryz.ntmps44
 go_wp2_with fail
 try rw[hW0]
 refine(HI1.out _ HAL.out).mono ?_
 rintro e w1 ⟨rfl,rfl⟩
 clear HI1 hW0
 go_wp2_with fail
 refine(HI2.out _ HAL.out).mono ?_
 rintro e w1 ⟨rfl,rfl⟩
 clear HI2
 go_wp2_with fail
 refine(HTX.out _ HAL.out).mono ?_
 rintro e w1 ⟨rfl,rfl⟩
 clear HTX
 obtain⟨W1,hW1⟩:∃W,W0.alloc (.cells #[.int .i64 5,.string X,.bool false,.int .i64 0,.string ⟨#[]⟩,.int .i64 0,.slice none 0 0,.slice none 0 0,.slice none 0 0] 48)=W:=⟨_,rfl⟩
 have hb1:Below W0.heap.size W0 W1:=hW1▸(Below.refl _ W0).alloc (Nat.le_refl _) _
 have hs1:W0.heap.size+1<=W1.heap.size/\W1.heap.size<=W0.heap.size+1:=by rw[<-hW1];simp
 have he1:Blk W1 W0.heap.size 48 #[.int .i64 5,.string X,.bool false,.int .i64 0,.string ⟨#[]⟩,.int .i64 0,.slice none 0 0,.slice none 0 0,.slice none 0 0]:=hW1▸heap_alloc_new _ _
 have HB1:=hidE (HAL.out.trans (hb1.mono (by omega)))
 have HBK1:=hidE (HBK.out.below hb1 (by omega))
 have HE1:=hidE he1
 have HW1:=hidE hW1
 clear hb1 he1 hW1 HBK
 go_upto_region 9 with fail
 rw[HW1.out]
 clear HW1
 go_wp2_with fail
 refine(HN1.out _ HB1.out).mono ?_
 rintro e w1 ⟨rfl,za,rfl,hza⟩
 replace hza:=(show(⟨#[]⟩:ByteArray).data.toList=[] from rfl)▸hza
 rw[HP1.out]at hza
 have HZA:=hidE hza
 have HIC:=hidE (r8_is v ts P1 za 6 ⟨#[58]⟩ 6 rfl (by decide) W1 (HV.out.below HB1.out) hza)
 have hlo:=hza.lo
 obtain⟨q,hq⟩:∃q,isO 6 [58] P1=q:=⟨_,rfl⟩
 rw[show(⟨#[58]⟩:ByteArray).data.toList=[58] from rfl,hq]at HIC
 have HQ:=hidE hq
 clear hza HN1 hq
 go_wp2_with fail
 refine HIC.out.mono ?_
 rintro e w1 ⟨rfl,rfl⟩
 clear HIC
 obtain⟨W2,hW2⟩:∃W,W1.setCell ⟨W0.heap.size,2,none⟩ (.bool q)=W:=⟨_,rfl⟩
 have hs2:W1.heap.size<=W2.heap.size/\W2.heap.size<=W1.heap.size:=by rw[<-hW2];simp
 have he2:Blk W2 W0.heap.size 48 #[.int .i64 5,.string X,.bool q,.int .i64 0,.string ⟨#[]⟩,.int .i64 0,.slice none 0 0,.slice none 0 0,.slice none 0 0]:=hW2▸heap_setCell_same _ _ 2 _ _ _ HE1.out
 have HB2:Hid (Below w.heap.size w W2):=hidE (hW2▸HB1.out.setCell (p:=⟨W0.heap.size,2,none⟩) (by simp;omega) _)
 have HBK2:Hid (Blk W2 w.heap.size 48 #[.int .i64 0,.string ⟨#[]⟩,.bool false,.int .i64 0,.string ⟨#[]⟩,.int .i64 0,.slice none 0 0,.slice none 0 0,.slice none 0 0]):=hidE (HBK1.out.same (hW2▸Below.heap_setCell _ ⟨W0.heap.size,2,none⟩ _ _ (by simp;omega)))
 have HE2:=hidE he2
 have HW2:=hidE hW2
 obtain⟨⟨g0,g1,g2,g3,g4,g5,g6,g7,g8⟩,⟨z0,z1,z2,z3,z4,z5,z6,z7,z8⟩,hle⟩:=blk_facts9 HE1.out
 clear he2 hW2
 go_upto_region 11 with fail
 rw[HW2.out]
 clear HW2 g0 g1 g2 g3 g4 g5 g6 g7 g8 z0 z1 z2 z3 z4 z5 z6 z7 z8 HE1 HBK1
 obtain⟨⟨g0,g1,g2,g3,g4,g5,g6,g7,g8⟩,⟨z0,z1,z2,z3,z4,z5,z6,z7,z8⟩,hle⟩:=blk_facts9 HE2.out
 go_upto_if 72 with fail
 go_cut [12] from 73 to 80 (λs12 wx=>∃zk K S Z T m c,s12=.int .i64 zk/\Hid (LetM ts w W0.heap.size X P1 q zk K S Z T m c wx)/\W2.heap.size<=wx.heap.size)
 case first =>
  cases q with
  | false =>
   go_wp2_with fail
   go_meet
   case rel =>
    refine⟨za,0,⟨#[]⟩,0,none,0,0,rfl,hidE ⟨?_,HE2.out,HBK2.out,HB2.out,(λh=>by cases h),(λ_=>⟨none,0,rfl,trivial⟩)⟩,Nat.le_refl _⟩
    rw[letP,HQ.out,if_neg (by decide)];exact HZA.out
  | true =>
   obtain⟨hpn,hza0,hza1⟩:=pat_next (by decide) HZA.out HQ.out
   have HT:=hidE (r8_typ v ts _ (za+1) W2 (HV.out.below HB2.out) HG.out hn hpn)
   clear hpn
   go_wp2_with fail
   refine HT.out.mono ?_
   rintro e w3 ⟨b3,tK,tX,tZ,tA,tm,tc,zt,rfl,hpt,htc⟩
   have hs3:=b3.size
   have he3:=HE2.out.below b3 (by omega)
   obtain⟨⟨g0,g1,g2,g3,g4,g5,g6,g7,g8⟩,⟨z0,z1,z2,z3,z4,z5,z6,z7,z8⟩,hle⟩:=blk_facts9 he3
   have HE3:=hidE he3
   have HBK3:=hidE (HBK2.out.below b3 (by omega))
   have HB3:=hidE (HB2.out.trans (b3.mono (by omega)))
   have HPT:=hidE hpt
   have HTC:=hidE htc
   clear he3 b3 hpt htc HT
   go_wp2_with fail
   go_meet
   case rel =>
    have hz:∀x:World,((((w3.setCell ⟨W0.heap.size,3,none⟩ (.int .i64 tK)).setCell ⟨W0.heap.size,4,none⟩ (.string tX)).setCell ⟨W0.heap.size,5,none⟩ (.int .i64 tZ)).setCell ⟨W0.heap.size,6,none⟩ (.slice tA tm tc))=x->x.heap.size=w3.heap.size:=λx h=>by rw[<-h];simp
    refine⟨zt,tK,tX,tZ,tA,tm,tc,rfl,hidE ⟨?_,blk_so9_3 _ _ _ _ HE3.out,HBK3.out.same (so9_3_far _ _ _ _ _ _ _ (by omega)),below_so9_3 HB3.out _ _ _ _ (by omega),(λ_ t rt ht=>?_),(λh=>by cases h)⟩,by rw[hz _ rfl];exact hs3⟩
    ·rw[letP,HQ.out,if_pos rfl];exact HPT.out
    ·obtain⟨A',a',hv',hA'⟩:=HTC.out t rt ht
     injection hv' with hv'
     have hv':=congrArg Array.toList hv'
     simp only[List.cons.injEq,Value.int.injEq,Value.string.injEq,Value.slice.injEq,and_true,true_and]at hv'
     obtain⟨rfl,rfl,rfl,rfl,rfl,rfl⟩:=hv'
     exact⟨tA,tc,rfl,Args.keep (λg hg=>⟨by omega,by rw[hz _ rfl];exact hg.2⟩) (λg hg=>so9_3_far _ _ _ _ _ _ _ (by omega)) _ _ hA'⟩
 case rest =>
  rename World=>V0
  obtain⟨zk,K,S,Z,T,m,c,rfl,hmid,hsv⟩:=hcut
  clear g0 g1 g2 g3 g4 g5 g6 g7 g8 z0 z1 z2 z3 z4 z5 z6 z7 z8 HE2 HBK2 HB2
  have HM0:=hidE hmid.out
  have HNA:=hidE (r8_next v ts (letP P1) zk 6 ⟨#[61]⟩ 6 rfl (by decide) V0 (HV.out.below hmid.out.b) hn hmid.out.p)
  clear hmid
  go_wp2_with fail
  refine HNA.out.mono ?_
  rintro e w4 ⟨rfl,zq,rfl,hzq⟩
  replace hzq:=(show(⟨#[61]⟩:ByteArray).data.toList=[61] from rfl)▸hzq
  have hR:=HIH.out f (by omega) V0 _ zq (HV.out.below HM0.out.b) hzq (λr hr=>(HLA.out za HZA.out r hr).2)
  rw[show(nxO 6 [61] (letP P1)).bind (rdE f)=letA f (letP P1) from rfl]at hR
  obtain⟨MA,hMA⟩:∃M,letA f (letP P1)=M:=⟨_,rfl⟩
  rw[hMA]at hR
  have HMA:=hidE hMA
  have HR:=hidE hR
  clear hzq hR hMA HNA
  go_wp2_with fail
  refine HR.out.mono ?_
  rintro e w5 ⟨b5,cs,ze,hsh,rfl,hpe,hcs⟩
  obtain⟨ck,cx,ct,cK,cX,cZ,cB,cm,cq,cKA,ckn,ckc,cLA,cln,clc,rfl⟩:=hsh
  have hs5:=b5.size
  obtain⟨W5,hW5⟩:∃W,w5.alloc (.cells #[.int .i64 ck,.string cx,.bool ct,.int .i64 cK,.string cX,.int .i64 cZ,.slice cB cm cq,.slice cKA ckn ckc,.slice cLA cln clc] 48)=W:=⟨_,rfl⟩
  have hbw:Below w5.heap.size w5 W5:=hW5▸(Below.refl _ w5).alloc (Nat.le_refl _) _
  have hsW5:w5.heap.size+1<=W5.heap.size/\W5.heap.size<=w5.heap.size+1:=by rw[<-hW5];simp
  have hbx:Blk W5 w5.heap.size 48 #[.int .i64 ck,.string cx,.bool ct,.int .i64 cK,.string cX,.int .i64 cZ,.slice cB cm cq,.slice cKA ckn ckc,.slice cLA cln clc]:=hW5▸heap_alloc_new _ _
  have HM5:=hidE (HM0.out.below (b5.trans (hbw.mono hs5)))
  have HBX:=hidE hbx
  have HCS:Hid (∀y r,MA=some (y,r)->pcE.Cs (λg=>W0.heap.size<g/\g<w5.heap.size) W5 y [.int .i64 ck,.string cx,.bool ct,.int .i64 cK,.string cX,.int .i64 cZ,.slice cB cm cq,.slice cKA ckn ckc,.slice cLA cln clc]):=hidE λy r ho=>pcE.keep (λg hg=>⟨by omega,hg.2⟩) (λg hg=>hbw.block g hg.2) (hcs y r ho)
  have HNB:=hidE (r8_next v ts (MA.map (·.2)) ze 3 ⟨#[105,110]⟩ 3 rfl (by decide) W5 (HV.out.below HM5.out.b) hn hpe)
  have HW5:=hidE hW5
  clear b5 hbw hbx hpe hcs HR hW5 HM0
  go_upto_region 14 with fail
  rw[HW5.out]
  clear HW5
  go_wp2_with fail
  refine HNB.out.mono ?_
  rintro e w6 ⟨rfl,zr,rfl,hzr⟩
  replace hzr:PAt ts (nxO 3 wIn (MA.map (·.2))) zr:=hzr
  have hR:=HIH.out f (by omega) W5 _ zr (HV.out.below HM5.out.b) hzr (λr hr=>by rw[<-HMA.out]at hr;exact HLB.out za HZA.out r hr)
  rw[<-HMA.out,show(nxO 3 wIn ((letA f (letP P1)).map (·.2))).bind (rdE f)=letB f (letP P1) from rfl]at hR
  obtain⟨MB,hMB⟩:∃M,letB f (letP P1)=M:=⟨_,rfl⟩
  rw[hMB]at hR
  have HMB:=hidE hMB
  have HR:=hidE hR
  clear hzr hR hMB HNB
  go_wp2_with fail
  refine HR.out.mono ?_
  rintro e w7 ⟨b7,ds,zl,hsh,rfl,hpl,hds⟩
  obtain⟨dk,dx,dt,dK,dX,dZ,dB,dm,dq,dKA,dkn,dkc,dLA,dln,dlc,rfl⟩:=hsh
  have hs7:=b7.size
  obtain⟨W7,hW7⟩:∃W,w7.alloc (.cells #[.int .i64 dk,.string dx,.bool dt,.int .i64 dK,.string dX,.int .i64 dZ,.slice dB dm dq,.slice dKA dkn dkc,.slice dLA dln dlc] 48)=W:=⟨_,rfl⟩
  have hbw:Below w7.heap.size w7 W7:=hW7▸(Below.refl _ w7).alloc (Nat.le_refl _) _
  have hsW7:w7.heap.size+1<=W7.heap.size/\W7.heap.size<=w7.heap.size+1:=by rw[<-hW7];simp
  have hby:Blk W7 w7.heap.size 48 #[.int .i64 dk,.string dx,.bool dt,.int .i64 dK,.string dX,.int .i64 dZ,.slice dB dm dq,.slice dKA dkn dkc,.slice dLA dln dlc]:=hW7▸heap_alloc_new _ _
  have hbb:Below W5.heap.size W5 W7:=b7.trans (hbw.mono hs7)
  have HM7:=hidE (HM5.out.below hbb)
  have HBX7:=hidE (HBX.out.below hbb (by omega))
  have HBY:=hidE hby
  have HCX:Hid (∀y r,MA=some (y,r)->pcE.Cs (λg=>W0.heap.size<g/\g<w5.heap.size) W7 y [.int .i64 ck,.string cx,.bool ct,.int .i64 cK,.string cX,.int .i64 cZ,.slice cB cm cq,.slice cKA ckn ckc,.slice cLA cln clc]):=hidE λy r ho=>pcE.keep (λ_ h=>h) (λg hg=>hbb.block g (by have:=hg.2;omega)) (HCS.out y r ho)
  have HCY:Hid (∀y r,MB=some (y,r)->pcE.Cs (λg=>W0.heap.size<g/\g<w7.heap.size) W7 y [.int .i64 dk,.string dx,.bool dt,.int .i64 dK,.string dX,.int .i64 dZ,.slice dB dm dq,.slice dKA dkn dkc,.slice dLA dln dlc]):=hidE λy r ho=>pcE.keep (λg hg=>⟨by omega,hg.2⟩) (λg hg=>hbw.block g hg.2) (hds y r ho)
  have HPL:=hidE hpl
  have HW7:=hidE hW7
  clear b7 hbw hby hbb hpl hds HR hW7 HM5 HBX HCS
  go_upto_region 15 with fail
  rw[HW7.out]
  clear HW7
  obtain⟨W8,hW8⟩:∃W,(W7.setCell ⟨W0.heap.size,7,none⟩ (.slice (some ⟨W7.heap.size,0,none⟩) 2 2)).alloc (.cells #[.int .i64 ck,.string cx,.bool ct,.int .i64 cK,.string cX,.int .i64 cZ,.slice cB cm cq,.slice cKA ckn ckc,.slice cLA cln clc,.int .i64 dk,.string dx,.bool dt,.int .i64 dK,.string dX,.int .i64 dZ,.slice dB dm dq,.slice dKA dkn dkc,.slice dLA dln dlc] 48)=W:=⟨_,rfl⟩
  have hs8:W7.heap.size+1<=W8.heap.size/\W8.heap.size<=W7.heap.size+1:=by rw[<-hW8];simp
  have hf8:∀k,k<W7.heap.size->k≠W0.heap.size->W8.heap[k]? = W7.heap[k]?:=λk h1 h2=>hW8▸(Below.heap_alloc _ _ _ (by simp;exact h1)).trans (Below.heap_setCell _ ⟨W0.heap.size,7,none⟩ _ k h2)
  have he8:Blk W8 W0.heap.size 48 #[.int .i64 5,.string X,.bool q,.int .i64 K,.string S,.int .i64 Z,.slice T m c,.slice (some ⟨W7.heap.size,0,none⟩) 2 2,.slice none 0 0]:=hW8▸Blk.alloc (heap_setCell_same _ _ 7 _ _ _ HM7.out.e) _
  have hn8:Blk W8 W7.heap.size 48 #[.int .i64 ck,.string cx,.bool ct,.int .i64 cK,.string cX,.int .i64 cZ,.slice cB cm cq,.slice cKA ckn ckc,.slice cLA cln clc,.int .i64 dk,.string dx,.bool dt,.int .i64 dK,.string dX,.int .i64 dZ,.slice dB dm dq,.slice dKA dkn dkc,.slice dLA dln dlc]:=hW8▸alloc_at _ _ _ (by simp)
  have HB8:Hid (Below w.heap.size w W8):=hidE (hW8▸(HM7.out.b.setCell (p:=⟨W0.heap.size,7,none⟩) (by simp;omega) _).alloc (by simp;omega) _)
  have HR8:Hid (Blk W8 w.heap.size 48 #[.int .i64 0,.string ⟨#[]⟩,.bool false,.int .i64 0,.string ⟨#[]⟩,.int .i64 0,.slice none 0 0,.slice none 0 0,.slice none 0 0]):=hidE (HM7.out.r.same (hf8 _ (by omega) (by omega)))
  have HCX8:Hid (∀y r,MA=some (y,r)->pcE.Cs (λg=>W0.heap.size<g/\g<w5.heap.size) W8 y [.int .i64 ck,.string cx,.bool ct,.int .i64 cK,.string cX,.int .i64 cZ,.slice cB cm cq,.slice cKA ckn ckc,.slice cLA cln clc]):=hidE λy r ho=>pcE.keep (λ_ h=>h) (λg hg=>hf8 g (by have:=hg.2;omega) (by have:=hg.1;omega)) (HCX.out y r ho)
  have HCY8:Hid (∀y r,MB=some (y,r)->pcE.Cs (λg=>W0.heap.size<g/\g<w7.heap.size) W8 y [.int .i64 dk,.string dx,.bool dt,.int .i64 dK,.string dX,.int .i64 dZ,.slice dB dm dq,.slice dKA dkn dkc,.slice dLA dln dlc]):=hidE λy r ho=>pcE.keep (λ_ h=>h) (λg hg=>hf8 g (by have:=hg.2;omega) (by have:=hg.1;omega)) (HCY.out y r ho)
  have HT1:Hid (q=true->∀t rt,(nxO 6 [58] P1).bind typ=some (t,rt)->TyL (λg=>W0.heap.size<g/\g<W7.heap.size) W8 (some t) [.int .i64 K,.string S,.int .i64 Z,.slice T m c]):=hidE λhq t rt ht=>(HM7.out.t1 hq t rt ht).keep (λ_ h=>h) (λg hg=>hf8 g hg.2 (by have:=hg.1;omega))
  have HT0:Hid (q=false->TyL (λg=>W0.heap.size<g/\g<W7.heap.size) W8 none [.int .i64 K,.string S,.int .i64 Z,.slice T m c]):=hidE λhq=>(HM7.out.t0 hq).keep (λ_ h=>h) (λg hg=>hf8 g hg.2 (by have:=hg.1;omega))
  have HE8:=hidE he8
  have HN8:=hidE hn8
  have HW8:=hidE hW8
  obtain⟨⟨g0,g1,g2,g3,g4,g5,g6,g7,g8⟩,⟨z0,z1,z2,z3,z4,z5,z6,z7,z8⟩,hle⟩:=blk_facts9 HM7.out.e
  obtain⟨⟨x0,x1,x2,x3,x4,x5,x6,x7,x8⟩,-,hlx⟩:=blk_facts9 HBX7.out
  obtain⟨⟨y0,y1,y2,y3,y4,y5,y6,y7,y8⟩,-,hly⟩:=blk_facts9 HBY.out
  clear he8 hn8 hW8 hf8 HM7 HBX7 HBY HCX HCY
  go_upto_region 16 with fail
  rw[HW8.out]
  clear HW8 g0 g1 g2 g3 g4 g5 g6 g7 g8 z0 z1 z2 z3 z4 z5 z6 z7 z8 x0 x1 x2 x3 x4 x5 x6 x7 x8 y0 y1 y2 y3 y4 y5 y6 y7 y8
  obtain⟨⟨g0,g1,g2,g3,g4,g5,g6,g7,g8⟩,-,-⟩:=blk_facts9 HE8.out
  obtain⟨⟨y0,y1,y2,y3,y4,y5,y6,y7,y8⟩,⟨z0,z1,z2,z3,z4,z5,z6,z7,z8⟩,hly⟩:=blk_facts9 HR8.out
  go_wp2_with fail
  try simp only[Exit.inBlock,Exit.then]
  refine bodyPost_ret (results_ct rfl _ _ w.heap.size 48 _ (0,0) _ rfl (blk_set9 _ _ _ _ _ _ _ _ _ HR8.out) Tryz.underlying48 rfl (by kernel_rfl)) rfl ?_
  refine xp8_set9 HB8.out ?_ (λy r ho=>?_)
  ·rw[HA1.out,HMB.out];exact HPL.out
  ·obtain⟨t,a,b,ra,rfl,h1,h2,h3,h4⟩:=HA2.out y r ho
   rw[HMA.out]at h1
   rw[HMB.out]at h2
   have hty:TyL (λg=>W0.heap.size<g/\g<W7.heap.size) W8 t [.int .i64 K,.string S,.int .i64 Z,.slice T m c]/\q=toE (.lt X.data.toList t a b):=by
    cases hq:q with
    | true =>
     obtain⟨t',rt,h5,rfl⟩:=h3 (by rw[HQ.out,hq])
     exact⟨HT1.out hq t' rt h5,rfl⟩
    | false =>
     obtain rfl:=h4 (by rw[HQ.out,hq])
     exact⟨HT0.out hq,rfl⟩
   obtain⟨⟨TA,ta,hT1,hT2⟩,hqt⟩:=hty
   refine⟨⟨TA,ta,some ⟨W7.heap.size,0,none⟩,0,none,0⟩,by simp only[exC,tyE,hT1,<-hqt];simp[kdE,nmE,kidsE,altsE,Sx.strV],hT2.keep (λg hg=>⟨by omega,by omega⟩) (λ_ _=>rfl),?_⟩
   rw[ExIn]
   exact⟨_,rfl,⟨by omega,by omega⟩,kids_new (pcE.keep (S':=λg=>W0.heap.size<g/\g<w7.heap.size) (λg hg=>⟨hg.1,by have:=hg.2;omega⟩) (λ_ _=>rfl) (HCX8.out a ra h1)) (HCY8.out b r h2) (λg hg=>⟨by omega,by omega⟩) (λ_ _=>rfl) HN8.out⟩
end Go.Proofs.YtknkclefoiohpaaGreatDoor

namespace Go.Proofs.YtknkclefoiohpaaGreatDoor
open Go.RowKit Lx Tx Sx
set_option maxRecDepth 100000
theorem sepM_step {α:Type}(rd:Nat->List Tok->Option (α × List Tok))(f:Nat)(l:List Tok):sepM rd (f+1) l=match rd (f+1) l with
  | none=>none
  | some y=>if isO 6 [59] (some y.2)=true then(sepM rd f y.2.tail).map λz=>(y.1::z.1,z.2) else some ([y.1],y.2):=by
 rw[sepM]
 cases rd (f+1) l with
 | none=>rfl
 | some y =>
  simp only
  rw[isO_hd _ _ (by decide)]
  by_cases h:isHd y.2 6 [59]=true
  ·rw[if_pos h,manyF,if_pos (show semB y.2=true from h),sepM]
  ·rw[if_neg h,manyF,if_neg (show ¬semB y.2=true from h)];rfl
def choP(M:Option (Ex × List Tok)):Option (List Tok):=nxO 6 [123] (nxO 3 wOf (M.map (·.2)))
theorem cho_all(f:Nat)(l:List Tok) :
  (isO 6 [125] (choP (rdE (f+1) l))=true->∃y ry,rdE (f+1) l=some (y,ry)/\choF f l=(nxO 6 [125] (choP (rdE (f+1) l))).map λr=>(.cs y [],r)) /\
  (isO 6 [125] (choP (rdE (f+1) l))=false->(choF f l).map (·.2)=nxO 6 [125] (((choP (rdE (f+1) l)).bind (sepM rdAlt f)).map (·.2)) /\
   ∀x r,choF f l=some (x,r)->∃y ry als ra,rdE (f+1) l=some (y,ry)/\(choP (rdE (f+1) l)).bind (sepM rdAlt f)=some (als,ra)/\x=.cs y als):=by
 rw[choF]
 cases rdE (f+1) l with
 | none=>exact⟨(λh=>by cases h),λ_=>⟨rfl,λx r h=>by cases h⟩⟩
 | some y =>
  simp only
  rw[choP,Option.map_some,nx_some 3 _ (by decide)]
  by_cases h1:isHd y.2 3 wOf=true
  ·rw[if_pos h1,if_pos h1,nx_some 6 [123] (by decide),brF]
   by_cases h2:isHd y.2.tail 6 [123]=true
   ·rw[if_pos h2,if_pos h2,isO_hd _ _ (by decide),nx_some 6 [125] (by decide)]
    by_cases h3:isHd y.2.tail.tail 6 [125]=true
    ·rw[if_pos h3,if_pos h3]
     exact⟨λ_=>⟨y.1,y.2,rfl,rfl⟩,λh=>by rw[h3]at h;cases h⟩
    ·rw[if_neg h3]
     refine⟨λh=>absurd h h3,λ_=>?_⟩
     rw[Option.bind_some]
     cases sepM rdAlt f y.2.tail.tail with
     | none=>exact⟨rfl,λx r h=>by cases h⟩
     | some z =>
      simp only
      rw[Option.map_some,nx_some 6 [125] (by decide)]
      by_cases h4:isHd z.2 6 [125]=true
      ·rw[if_pos h4,if_pos h4]
       refine⟨rfl,λx r h=>?_⟩
       simp only[Option.map_some,Option.some.injEq,Prod.mk.injEq]at h
       exact⟨y.1,y.2,z.1,z.2,rfl,rfl,h.1.symm⟩
      ·rw[if_neg h4,if_neg h4]
       exact⟨rfl,λx r h=>by cases h⟩
   ·rw[if_neg h2,if_neg h2]
    exact⟨(λh=>by cases h),λ_=>⟨rfl,λx r h=>by cases h⟩⟩
  ·rw[if_neg h1,if_neg h1]
   exact⟨(λh=>by cases h),λ_=>⟨rfl,λx r h=>by cases h⟩⟩
theorem rdE_case(f:Nat)(l:List Tok)(h:isO 3 wCase (some l)=true):rdE (f+3) l=choF f l.tail:=by
 have h3:isHd l 3 wCase=true:=by rw[<-isO_hd _ _ (by decide)];exact h
 have h6:¬isHd l 6 [92]=true:=by
  intro h'
  simp only[isHd,Bool.and_eq_true,beq_iff_eq]at h3 h'
  omega
 have hl:¬isHd l 3 wLet=true:=by
  intro h'
  simp only[isHd,Bool.and_eq_true,beq_iff_eq]at h3 h'
  have:=h3.2.symm.trans h'.2
  simp[wCase,wLet]at this
 rw[rdE_eq,if_neg h6,if_neg hl,if_pos h3,rdCase_eq]
def altB(f:Nat)(P:Option (List Tok)):Option (Ex × List Tok):=(nxO 6 [45,62] (nsR (nxO 2 [] P))).bind (rdE f)
theorem alt_o(f:Nat)(l:List Tok):rdAlt f l=(altB f (some l)).map λz=>(.mk (txO (some l)) (nsO (nxO 2 [] (some l))) z.1,z.2):=by
 rw[rdAlt_eq,altB,nx_kind]
 by_cases h:(hd l).kind=2
 ·rw[if_pos h,if_pos h,nsR,Option.map_some,nx_some _ _ (by decide)]
  by_cases h2:isHd (vars l.tail).2 6 [45,62]=true
  ·rw[if_pos h2,if_pos h2];rfl
  ·rw[if_neg h2,if_neg h2];rfl
 ·rw[if_neg h,if_neg h];rfl
theorem vars_len(l:List Tok):(vars l).2.length<=l.length:=by
 induction l with
 | nil=>simp[vars]
 | cons t r ih =>
  rw[vars]
  by_cases h:t.kind=1
  ·rw[if_pos h];simp only[List.length_cons];omega
  ·rw[if_neg h];exact Nat.le_refl _
theorem vars_good {l:List Tok}(h:AllG l):AllG (vars l).2:=by
 induction l with
 | nil=>simpa[vars] using h
 | cons t r ih =>
  rw[vars]
  by_cases ht:t.kind=1
  ·rw[if_pos ht];exact ih h.tail
  ·rw[if_neg ht];exact h
theorem altB_at {P:Option (List Tok)} {r:List Tok}(h:nxO 6 [45,62] (nsR (nxO 2 [] P))=some r):∃l,P=some l/\r.length+2<=l.length/\(AllG l->AllG r):=by
 obtain⟨l1,h1,h2,h3,-⟩:=nxO_len (by decide) h
 cases hN:nxO 2 [] P with
 | none=>rw[hN]at h1;cases h1
 | some l2 =>
  rw[hN,nsR,Option.map_some]at h1
  injection h1 with h1
  obtain⟨l3,h4,h5,h6,-⟩:=nxO_len (by decide) hN
  have:=vars_len l2
  rw[h1]at this
  refine⟨l3,h4,by omega,λhg=>?_⟩
  rw[<-h2]
  refine AllG.tail' ?_
  rw[<-h1]
  refine vars_good ?_
  rw[<-h5]
  exact AllG.tail' hg
theorem BuiltG.low {α:Type} {P:Pc α} {b B:Nat} {e:TypeId} {w w':World} {l:List α} {v:Value}(h:BuiltG P B e w l v)(hc:Chg (only b) w w')(hb:b<B):BuiltG P B e w' l v:=by
 obtain⟨vs,h1,h2⟩:=h
 have hs:=hc.size
 exact⟨vs,own_chg h1 hc hb,RowG.keep (λg hg=>⟨⟨hg.1.1,by have:=hg.1.2;omega⟩,hg.2⟩) (λg hg=>hc.block g hg.1.2 (by have:=hg.1.1;unfold only;omega)) l vs h2⟩
theorem alt8_info:(Tryz.prog.info? 110).map (λi=>(i.zero,i.size,i.bytes))=some (some (.agg #[.string ⟨#[]⟩,.slice none 0 0,.int .i64 0,.string ⟨#[]⟩,.bool false,.int .i64 0,.string ⟨#[]⟩,.int .i64 0,.slice none 0 0,.slice none 0 0,.slice none 0 0]),11,176):=by kernel_rfl
theorem below_so11_2 {B:Nat} {w w':World} {g:Nat}(h:Below B w w')(hg:B<=g)(b2 b3 b4 b5 b6 b7 b8 b9 b10:Value) :
  Below B w (((((((((w'.setCell ⟨g,2,none⟩ b2).setCell ⟨g,3,none⟩ b3).setCell ⟨g,4,none⟩ b4).setCell ⟨g,5,none⟩ b5).setCell ⟨g,6,none⟩ b6).setCell ⟨g,7,none⟩ b7).setCell ⟨g,8,none⟩ b8).setCell ⟨g,9,none⟩ b9).setCell ⟨g,10,none⟩ b10) :=
 ((((((((h.setCell (p:=⟨g,2,none⟩) hg b2).setCell (p:=⟨g,3,none⟩) hg b3).setCell (p:=⟨g,4,none⟩) hg b4).setCell (p:=⟨g,5,none⟩) hg b5).setCell (p:=⟨g,6,none⟩) hg b6).setCell (p:=⟨g,7,none⟩) hg b7).setCell (p:=⟨g,8,none⟩) hg b8).setCell (p:=⟨g,9,none⟩) hg b9).setCell (p:=⟨g,10,none⟩) hg b10
end Go.Proofs.YtknkclefoiohpaaGreatDoor

namespace Go.Proofs.YtknkclefoiohpaaGreatDoor
open Go.RowKit Lx Tx Sx
set_option maxRecDepth 100000
def choC(ks:Value)(A:Option Addr)(n c:Nat):Array Value:=#[.int .i64 6,.string ⟨#[]⟩,.bool false,.int .i64 0,.string ⟨#[]⟩,.int .i64 0,.slice none 0 0,ks,.slice A n c]
def ChoH(ts:List Tok)(f:Nat)(SO:Option (List Al × List Tok))(W2:World)(ge:Nat)(ks:Value)(gg:Nat)(vk vq:Value)(wr:World):Prop :=
 ∃(zk:Int) (qm:Bool) (P:Option (List Tok)) (A:Option Addr) (n c:Nat),gg=(if qm=true then P.elim 0 List.length+1 else 0)/\vk=.int .i64 zk/\vq=.bool qm/\PAt ts P zk/\Hid (Blk wr ge 48 (choC ks A n c))/\Hid (Chg (only ge) W2 wr) /\
  Hid (qm=true->∃r f' done,P=some r/\f'<=f/\3*r.length+3<=f'/\n=done.length/\done.length+r.length<=ts.length/\SO=(sepM rdAlt f' r).map (λy=>(done++y.1,y.2))/\BuiltG pcA (ge+1) 110 wr done (.slice A n c)) /\
  Hid (qm=false->SO.map (·.2)=P/\∀l rl,SO=some (l,rl)->n=l.length/\BuiltG pcA (ge+1) 110 wr l (.slice A n c))
theorem alt_cs {S:Nat->Prop} {w:World} {c:Nm} {vs:List Nm} {b:Ex} {V:Option Addr} {v:Nat} {cs:List Value}(hv:vs.length<=v)(hV:NmsIn S w vs V)(hb:pcE.Cs S w b cs):pcA.Cs S w (.mk c vs b) ([Sx.strV c,.slice V vs.length v]++cs):=by
 obtain⟨P,rfl,h1,h2⟩:=hb
 exact⟨V,⟨v,hv⟩,P,rfl,hV,h1,h2⟩
set_option maxRecDepth 10000000 in
set_option maxHeartbeats 25600000 in
theorem r8_read_cs(f:Nat)(ts:List Tok)(v:Value)(hG:AllG ts)(hn:ts.length<=100000)(IH:Rd8 ts v (f+2))(w:World)(i:Nat)(hv:RdT w v ts)(hq:isO 3 wCase (some (ts.drop i))=true)(hf:3*(ts.drop i).length+3<=f+3) :
  Calls Tryz.prog 44 #[v,.int .i64 (i:Nat)] w (XP8 ts w (rdE (f+3) (ts.drop i))):=by
 obtain⟨i0,hi0,hz0,hz1,hz2⟩:=info_parts alt8_info
 have hlt:=isO_lt (by decide) hq
 have hp0:PAt ts (some (ts.drop i)) (i:Nat):=PAt.some_ ts i (by omega)
 obtain⟨hp1,-,-⟩:=pat_next (by decide) hp0 hq
 have e1:nxO 3 wCase (some (ts.drop i))=some (ts.drop i).tail:=by rw[nxO,hq,if_pos rfl];rfl
 rw[e1]at hp1
 have hl1:(ts.drop i).tail.length+1=(ts.drop i).length:=by
  obtain⟨l,h1,h2,h3,-⟩:=nxO_len (by decide) e1
  injection h1 with h1
  subst h1
  omega
 have hq6:isO 6 [92] (some (ts.drop i))=false:=by
  rw[Bool.eq_false_iff]
  intro h'
  rw[isO_hd _ _ (by decide)]at hq h'
  simp only[isHd,Bool.and_eq_true,beq_iff_eq]at hq h'
  omega
 have hql:isO 3 wLet (some (ts.drop i))=false:=by
  rw[Bool.eq_false_iff]
  intro h'
  rw[isO_hd _ _ (by decide)]at hq h'
  simp only[isHd,Bool.and_eq_true,beq_iff_eq]at hq h'
  have:=hq.2.symm.trans h'.2
  simp[wCase,wLet]at this
 have HI1:Hid (∀W,Below w.heap.size w W->Calls Tryz.prog 34 #[v,.int .i64 (i:Nat),.int .i64 6,.string ⟨#[92]⟩] W λe w'=>e=.returned (.bool false)/\W=w'):=hidE λW hb=>by
  have:=r8_is v ts _ _ 6 ⟨#[92]⟩ 6 rfl (by decide) W (hv.below hb) hp0
  rwa [show(⟨#[92]⟩:ByteArray).data.toList=[92] from rfl,hq6]at this
 have HI2:Hid (∀W,Below w.heap.size w W->Calls Tryz.prog 34 #[v,.int .i64 (i:Nat),.int .i64 3,.string ⟨#[108,101,116]⟩] W λe w'=>e=.returned (.bool false)/\W=w'):=hidE λW hb=>by
  have:=r8_is v ts _ _ 3 ⟨#[108,101,116]⟩ 3 rfl (by decide) W (hv.below hb) hp0
  rwa [show(⟨#[108,101,116]⟩:ByteArray).data.toList=wLet from rfl,hql]at this
 have HI3:Hid (∀W,Below w.heap.size w W->Calls Tryz.prog 34 #[v,.int .i64 (i:Nat),.int .i64 3,.string ⟨#[99,97,115,101]⟩] W λe w'=>e=.returned (.bool true)/\W=w'):=hidE λW hb=>by
  have:=r8_is v ts _ _ 3 ⟨#[99,97,115,101]⟩ 3 rfl (by decide) W (hv.below hb) hp0
  rwa [show(⟨#[99,97,115,101]⟩:ByteArray).data.toList=wCase from rfl,hq]at this
 obtain⟨O,hO⟩:∃O,rdE (f+3) (ts.drop i)=O:=⟨_,rfl⟩
 rw[hO]
 rw[rdE_case f _ hq]at hO
 obtain⟨hA1,hA2⟩:=cho_all f (ts.drop i).tail
 have hR:=λW (hb:Below w.heap.size w W)=>IH (f+1) (by omega) W _ _ (hv.below hb) hp1 (λr h=>by injection h with h;subst h;omega)
 rw[Option.bind_some]at hR
 have hG1:AllG (ts.drop i).tail:=AllG.tail' (λx hx=>hG x (List.mem_of_mem_drop hx))
 obtain⟨M,hM⟩:∃M,rdE (f+1) (ts.drop i).tail=M:=⟨_,rfl⟩
 have hlenP:∀r,choP M=some r->3*r.length+3<=f/\r.length<=ts.length:=λr hr=>by
  obtain⟨l,h1,h2,h3,-⟩:=nxO_len (by decide) hr
  obtain⟨l',h4,h5,h6,-⟩:=nxO_len (by decide) h1
  cases hM':M with
  | none=>rw[hM']at h4;cases h4
  | some y =>
   rw[hM']at h4
   replace h4:y.2=l':=by injection h4
   have:=(rdE_len (f+1) _ y.1 y.2 hG1 (hM.trans hM')).2
   have:=List.length_drop (i:=i) (l:=ts)
   rw[h4]at *
   omega
 rw[hM]at hA1 hA2 hR
 rw[hO]at hA1 hA2
 have HA1:=hidE hA1
 have HA2:=hidE hA2
 have HLP:=hidE hlenP
 have HV:=hidE hv
 have HIH:=hidE IH
 have HG:=hidE hG
 have HR:=hidE hR
 have hi9:(i:Int)<100000:=by omega
 obtain⟨W0,hW0⟩:∃W,w.alloc (.cells #[.int .i64 0,.string ⟨#[]⟩,.bool false,.int .i64 0,.string ⟨#[]⟩,.int .i64 0,.slice none 0 0,.slice none 0 0,.slice none 0 0] 48)=W:=⟨_,rfl⟩
 have hal:Below w.heap.size w W0:=hW0▸(Below.refl _ w).alloc (Nat.le_refl _) _
 have hs0:w.heap.size+1<=W0.heap.size/\W0.heap.size<=w.heap.size+1:=by rw[<-hW0];simp
 have hbk:Blk W0 w.heap.size 48 #[.int .i64 0,.string ⟨#[]⟩,.bool false,.int .i64 0,.string ⟨#[]⟩,.int .i64 0,.slice none 0 0,.slice none 0 0,.slice none 0 0]:=hW0▸heap_alloc_new _ _
 have HAL:=hidE hal
 have HBK:=hidE hbk
 clear hv hq hf IH hlt hp0 hp1 e1 hl1 hO hal hbk hA1 hA2 hq6 hG hM hR hql hG1 hlenP
 go_enter Tryz.func44,Tryz.ntmps44
 go_wp2_with fail
 try rw[hW0]
 refine(HI1.out _ HAL.out).mono ?_
 rintro e w1 ⟨rfl,rfl⟩
 clear HI1 hW0
 go_wp2_with fail
 refine(HI2.out _ HAL.out).mono ?_
 rintro e w1 ⟨rfl,rfl⟩
 clear HI2
 go_wp2_with fail
 refine(HI3.out _ HAL.out).mono ?_
 rintro e w1 ⟨rfl,rfl⟩
 clear HI3
 go_wp2_with fail
 refine(HR.out _ HAL.out).mono ?_
 rintro e w1 ⟨b1,cs,ze,hsh,rfl,hpe,hcs⟩
 obtain⟨ck,cx,ct,cK,cX,cZ,cB,cm,cq,cKA,ckn,ckc,cLA,cln,clc,rfl⟩:=hsh
 have hs1:=b1.size
 obtain⟨W1,hW1⟩:∃W,w1.alloc (.cells #[.int .i64 ck,.string cx,.bool ct,.int .i64 cK,.string cX,.int .i64 cZ,.slice cB cm cq,.slice cKA ckn ckc,.slice cLA cln clc] 48)=W:=⟨_,rfl⟩
 have hbw:Below w1.heap.size w1 W1:=hW1▸(Below.refl _ w1).alloc (Nat.le_refl _) _
 have hsW1:w1.heap.size+1<=W1.heap.size/\W1.heap.size<=w1.heap.size+1:=by rw[<-hW1];simp
 have hbx:Blk W1 w1.heap.size 48 #[.int .i64 ck,.string cx,.bool ct,.int .i64 cK,.string cX,.int .i64 cZ,.slice cB cm cq,.slice cKA ckn ckc,.slice cLA cln clc]:=hW1▸heap_alloc_new _ _
 have HB1:=hidE (HAL.out.trans ((b1.mono (by omega)).trans (hbw.mono (by omega))))
 have HBK1:=hidE ((HBK.out.below b1 (by omega)).below hbw (by omega))
 have HBX:=hidE hbx
 have HCS:Hid (∀y r,M=some (y,r)->pcE.Cs (λg=>w.heap.size<g/\g<w1.heap.size) W1 y [.int .i64 ck,.string cx,.bool ct,.int .i64 cK,.string cX,.int .i64 cZ,.slice cB cm cq,.slice cKA ckn ckc,.slice cLA cln clc]):=hidE λy r ho=>pcE.keep (λg hg=>⟨by omega,hg.2⟩) (λg hg=>hbw.block g hg.2) (hcs y r ho)
 have HNA:=hidE (r8_next v ts (M.map (·.2)) ze 3 ⟨#[111,102]⟩ 3 rfl (by decide) W1 (HV.out.below HB1.out) hn hpe)
 have HW1:=hidE hW1
 clear b1 hbw hbx hpe hcs HR hW1 HBK
 go_upto_region 20 with fail
 rw[HW1.out]
 clear HW1
 go_wp2_with fail
 refine HNA.out.mono ?_
 rintro e w2 ⟨rfl,za,rfl,hza⟩
 replace hza:PAt ts (nxO 3 wOf (M.map (·.2))) za:=hza
 have HNB:=hidE (r8_next v ts _ za 6 ⟨#[123]⟩ 6 rfl (by decide) W1 (HV.out.below HB1.out) hn hza)
 clear hza HNA
 go_wp2_with fail
 refine HNB.out.mono ?_
 rintro e w2 ⟨rfl,zk,rfl,hzk⟩
 replace hzk:PAt ts (choP M) zk:=hzk
 have HZK:=hidE hzk
 have hlo:=hzk.lo
 clear hzk HNB
 obtain⟨W2,hW2⟩:∃W,(W1.alloc (.cells #[.int .i64 ck,.string cx,.bool ct,.int .i64 cK,.string cX,.int .i64 cZ,.slice cB cm cq,.slice cKA ckn ckc,.slice cLA cln clc] 48)).alloc (.cells (choC (.slice (some ⟨W1.heap.size,0,none⟩) 1 1) none 0 0) 48)=W:=⟨_,rfl⟩
 have hb2:Below W1.heap.size W1 W2:=hW2▸((Below.refl _ W1).alloc (Nat.le_refl _) _).alloc (by simp) _
 have hs2:W1.heap.size+2<=W2.heap.size/\W2.heap.size<=W1.heap.size+2:=by rw[<-hW2];simp
 have hk2:Blk W2 W1.heap.size 48 #[.int .i64 ck,.string cx,.bool ct,.int .i64 cK,.string cX,.int .i64 cZ,.slice cB cm cq,.slice cKA ckn ckc,.slice cLA cln clc]:=hW2▸Blk.below (heap_alloc_new W1 _) ((Below.refl _ _).alloc (Nat.le_refl _) _) (by simp)
 have he2:Blk W2 (W1.heap.size+1) 48 (choC (.slice (some ⟨W1.heap.size,0,none⟩) 1 1) none 0 0):=hW2▸two_top _ _ _ _ rfl
 have HB2:=hidE (HB1.out.trans (hb2.mono (by omega)))
 have HBK2:=hidE (HBK1.out.below hb2 (by omega))
 have HK2:=hidE hk2
 have HE2:=hidE he2
 have HCS2:Hid (∀y r,M=some (y,r)->pcE.Cs (λg=>w.heap.size<g/\g<w1.heap.size) W2 y [.int .i64 ck,.string cx,.bool ct,.int .i64 cK,.string cX,.int .i64 cZ,.slice cB cm cq,.slice cKA ckn ckc,.slice cLA cln clc]):=hidE λy r ho=>pcE.keep (λ_ h=>h) (λg hg=>hb2.block g (by have:=hg.2;omega)) (HCS.out y r ho)
 have HIC:=hidE (r8_is v ts (choP M) zk 6 ⟨#[125]⟩ 6 rfl (by decide) W2 (HV.out.below HB2.out) HZK.out)
 obtain⟨q,hq⟩:∃q,isO 6 [125] (choP M)=q:=⟨_,rfl⟩
 rw[show(⟨#[125]⟩:ByteArray).data.toList=[125] from rfl,hq]at HIC
 have HQ:=hidE hq
 obtain⟨⟨g0,g1,g2,g3,g4,g5,g6,g7,g8⟩,-,hlg⟩:=blk_facts9 HBX.out
 unfold choC at hW2
 have HW2:=hidE hW2
 clear hb2 hk2 he2 hW2 hq HCS HBK1 HBX
 go_upto_region 22 with fail
 rw[HW2.out]
 clear HW2 g0 g1 g2 g3 g4 g5 g6 g7 g8
 go_wp2_with fail
 refine HIC.out.mono ?_
 rintro e w3 ⟨rfl,rfl⟩
 clear HIC
 obtain⟨ge,hge⟩:∃g,W1.heap.size+1=g:=⟨_,rfl⟩
 rw[hge]at HE2 ⊢
 cases q with
 | true =>
  obtain⟨y,ry,hMM,hOO⟩:=HA1.out HQ.out
  obtain⟨hpn,hzk0,hzk1⟩:=pat_next (by decide) HZK.out HQ.out
  have HOO:=hidE hOO
  have HMM:=hidE hMM
  have HPN:=hidE hpn
  have he:=HE2.out
  unfold choC at he
  obtain⟨⟨g0,g1,g2,g3,g4,g5,g6,g7,g8⟩,-,hlg⟩:=blk_facts9 he
  obtain⟨⟨y0,y1,y2,y3,y4,y5,y6,y7,y8⟩,⟨z0,z1,z2,z3,z4,z5,z6,z7,z8⟩,hly⟩:=blk_facts9 HBK2.out
  clear hMM hOO hpn he
  go_wp2_with fail
  try simp only[Exit.inBlock,Exit.then]
  refine bodyPost_ret (results_ct rfl _ _ w.heap.size 48 _ (0,0) _ rfl (blk_set9 _ _ _ _ _ _ _ _ _ HBK2.out) Tryz.underlying48 rfl (by kernel_rfl)) rfl ?_
  refine xp8_set9 HB2.out ?_ (λx r ho=>?_)
  ·rw[HOO.out,Option.map_map]
   have:=HPN.out
   cases hN:nxO 6 [125] (choP M) with
   | none=>rw[hN]at this;exact this
   | some r=>rw[hN]at this;exact this
  ·rw[HOO.out]at ho
   cases hN:nxO 6 [125] (choP M) with
   | none=>rw[hN]at ho;cases ho
   | some r1 =>
    rw[hN]at ho
    simp only[Option.map_some,Option.some.injEq,Prod.mk.injEq]at ho
    obtain⟨rfl,-⟩:=ho
    refine⟨⟨none,0,some ⟨W1.heap.size,0,none⟩,0,none,0⟩,by simp[exC,kdE,nmE,toE,tyE,tyC,kidsE,altsE,Sx.strV],trivial,?_⟩
    rw[ExIn]
    exact⟨⟨_,rfl,⟨by omega,by omega⟩,kid_new (HCS2.out y ry HMM.out) (λg hg=>⟨by omega,by omega⟩) (λ_ _=>rfl) HK2.out⟩,λh=>absurd rfl h⟩
 | false =>
  obtain⟨SO,hSO⟩:∃S,(choP M).bind (sepM rdAlt f)=S:=⟨_,rfl⟩
  have hA:=HA2.out HQ.out
  rw[hSO]at hA
  have HAA:=hidE hA
  have HSO:=hidE hSO
  obtain⟨qm,hqm⟩:∃q,decide (0<=zk)=q:=⟨_,rfl⟩
  have HQM:=hidE hqm
  clear hA hSO HA1 HA2
  have HST:Hid (ChoH ts f SO W2 ge (.slice (some ⟨W1.heap.size,0,none⟩) 1 1) (if qm=true then(choP M).elim 0 List.length+1 else 0) (.int .i64 zk) (.bool qm) W2):=hidE (by
   refine⟨zk,qm,choP M,none,0,0,rfl,rfl,rfl,HZK.out,hidE HE2.out,hidE (Chg.refl _ _),hidE (λhq=>?_),hidE (λhq=>?_)⟩
   ·rcases HZK.out with⟨-,hz⟩|⟨k,hk,hz,hp⟩
    ·rw[hz]at hqm;rw[hq]at hqm;simp at hqm
    ·obtain⟨h1,h2⟩:=HLP.out _ hp
     exact⟨_,f,[],hp,Nat.le_refl _,h1,rfl,by simp,by rw[<-HSO.out,hp,Option.bind_some];simp,BuiltG.nil _ _ _ _⟩
   ·rcases HZK.out with⟨hp,-⟩|⟨k,hk,hz,-⟩
    ·rw[<-HSO.out,hp]
     exact⟨rfl,λl rl h=>by cases h⟩
    ·rw[hz,hq]at hqm;simp at hqm)
  have hge3:W1.heap.size+1<=ge/\ge<=W1.heap.size+1:=by omega
  clear hge HE2
  go_wp2_with fail
  go_loopg [19,22] (if qm=true then(choP M).elim 0 List.length+1 else 0) (λgg vk vq wr=>ChoH ts f SO W2 ge (.slice (some ⟨W1.heap.size,0,none⟩) 1 1) gg vk vq wr)
  case atStart=>exact HST.out
  case round =>
   obtain⟨zr,qr,P,A,n,c,rfl,rfl,rfl,hzr,hE,hC,hT,hF⟩:=hrel
   have hsr:=hC.out.size
   have hlz:=hzr.lo
   clear HST
   cases qr with
   | false =>
    obtain⟨hs1,hs2⟩:=hF.out rfl
    have HS1:=hidE hs1
    have HS2:=hidE hs2
    have HZR:=hidE hzr
    have hbr:Below w.heap.size w wr:=HB2.out.trans (hC.out.toBelow (by omega) (λk hk=>by unfold only;omega))
    have HBR:=hidE hbr
    have HRR:=hidE (HBK2.out.same (hC.out.block _ (by omega) (by unfold only;omega)))
    have HKR:=hidE (HK2.out.same (hC.out.block _ (by omega) (by unfold only;omega)))
    have HCR:Hid (∀y r,M=some (y,r)->pcE.Cs (λg=>w.heap.size<g/\g<w1.heap.size) wr y [.int .i64 ck,.string cx,.bool ct,.int .i64 cK,.string cX,.int .i64 cZ,.slice cB cm cq,.slice cKA ckn ckc,.slice cLA cln clc]):=hidE λy r ho=>pcE.keep (λ_ h=>h) (λg hg=>hC.out.block g (by have:=hg.2;omega) (by have:=hg.2;unfold only;omega)) (HCS2.out y r ho)
    have he:=hE.out
    unfold choC at he
    have HNZ:=hidE (λW (hb:Below w.heap.size w W)=>r8_next v ts P zr 6 ⟨#[125]⟩ 6 rfl (by decide) W (HV.out.below hb) hn HZR.out)
    obtain⟨⟨g0,g1,g2,g3,g4,g5,g6,g7,g8⟩,-,hlg⟩:=blk_facts9 he
    obtain⟨⟨y0,y1,y2,y3,y4,y5,y6,y7,y8⟩,⟨z0,z1,z2,z3,z4,z5,z6,z7,z8⟩,hly⟩:=blk_facts9 HRR.out
    clear hs1 hs2 hzr hT hF he hbr
    go_wp2_with fail
    go_region_with (go_at_call 83;(with_reducible refine(HNZ.out _ (by first|exact HBR.out|exact HBR.out.drew)).mono ?_);rintro e w3 ⟨rfl,z9,rfl,hz9⟩;have HQQ:=hidE hz9;clear hz9)
    all_goals
     go_wp2_with fail
     refine bodyPost_ret (results_ct rfl _ _ w.heap.size 48 _ (0,0) _ rfl (blk_set9 _ _ _ _ _ _ _ _ _ HRR.out).drew Tryz.underlying48 rfl (by kernel_rfl)) rfl ?_
     refine XP8.drew (xp8_set9 HBR.out ?_ (λx r ho=>?_))
     ·rw[HAA.out.1,HS1.out];exact HQQ.out
     ·obtain⟨y,ry,als,ra,h1,h2,rfl⟩:=HAA.out.2 x r ho
      obtain⟨h3,h4⟩:=HS2.out als ra h2
      obtain⟨-,h5⟩:=h4.lst
      refine⟨⟨none,0,some ⟨W1.heap.size,0,none⟩,0,A,c⟩,by simp[exC,kdE,nmE,toE,tyE,tyC,kidsE,altsE,Sx.strV,h3],trivial,?_⟩
      rw[ExIn]
      refine⟨⟨_,rfl,⟨by omega,by omega⟩,kid_new (HCR.out y ry h1) (λg hg=>⟨by omega,by omega⟩) (λ_ _=>rfl) HKR.out⟩,λhl=>?_⟩
      obtain⟨g,rfl,hg,hat⟩:=h5 hl
      exact⟨g,rfl,⟨by omega,hg.2⟩,AlsIn.keep (λg hg=>⟨by omega,hg.2⟩) (λ_ _=>rfl) als g 0 rfl ((atG_al als g 0).1 hat)⟩
   | true =>
    obtain⟨r,f',done,rfl,hff,hfr,hnd,hdl,hSS,hBT⟩:=hT.out rfl
    obtain⟨f1,rfl⟩:∃f1,f'=f1+1:=⟨f'-1,by omega⟩
    have HSS:=hidE hSS
    obtain⟨vs,hown,hrow⟩:=hBT
    rw[<-hnd]at hown
    replace hown:wr.ownsRow (ge+1) 110 11 (.slice A n c) n vs:=hown
    have HOWN:=hidE hown
    have HROW:=hidE hrow
    have hbr:Below w.heap.size w wr:=HB2.out.trans (hC.out.toBelow (by omega) (λk hk=>by unfold only;omega))
    have HBR:=hidE hbr
    have HZR:=hidE hzr
    have HTX:=hidE (r8_text v ts _ zr wr (HV.out.below hbr) hzr)
    obtain⟨X,hX⟩:∃X:ByteArray,⟨(txO (some r)).toArray⟩=X:=⟨_,rfl⟩
    have HX:Hid (txO (some r)=X.data.toList):=hidE (by rw[<-hX])
    rw[hX]at HTX
    obtain⟨WA,hWA⟩:∃W,wr.alloc (.cells #[.string X,.slice none 0 0,.int .i64 0,.string ⟨#[]⟩,.bool false,.int .i64 0,.string ⟨#[]⟩,.int .i64 0,.slice none 0 0,.slice none 0 0,.slice none 0 0] 110)=W:=⟨_,rfl⟩
    have hbA:Below wr.heap.size wr WA:=hWA▸(Below.refl _ wr).alloc (Nat.le_refl _) _
    have hsA:wr.heap.size+1<=WA.heap.size/\WA.heap.size<=wr.heap.size+1:=by rw[<-hWA];simp
    have haA:Blk WA wr.heap.size 110 #[.string X,.slice none 0 0,.int .i64 0,.string ⟨#[]⟩,.bool false,.int .i64 0,.string ⟨#[]⟩,.int .i64 0,.slice none 0 0,.slice none 0 0,.slice none 0 0]:=hWA▸heap_alloc_new _ _
    have HBA:=hidE hbA
    have HAA2:=hidE haA
    have HNA:=hidE (r8_next v ts _ zr 2 ⟨#[]⟩ 2 rfl (by decide) WA (HV.out.below (hbr.trans (hbA.mono (by have:=hbr.size;omega)))) hn hzr)
    have hrw:=hbr.size
    have HWA:=hidE hWA
    have HDN:=hidE (And.intro hnd hdl)
    clear hWA hbA haA hSS hown hrow hbr hzr hT hF hX hnd hdl
    go_upto_region 28 with(refine HTX.out.mono ?_;rintro e w3 ⟨rfl,rfl⟩)
    rw[HWA.out]
    clear HWA HTX
    go_wp2_with fail
    refine HNA.out.mono ?_
    rintro e w3 ⟨rfl,za,rfl,hza⟩
    replace hza:PAt ts (nxO 2 [] (some r)) za:=hza
    have HNM:=hidE (r8_names v ts _ za WA (HV.out.below (HBR.out.trans (HBA.out.mono hrw))) hn hza)
    clear hza HNA
    go_wp2_with fail
    refine HNM.out.mono ?_
    rintro e w2 ⟨b2,V,vc,zn,rfl,hzn,hvc,hvs⟩
    have hs2':=b2.size
    obtain⟨vl,hvl⟩:∃l,nsO (nxO 2 [] (some r))=l:=⟨_,rfl⟩
    obtain⟨vn,hvn⟩:∃n,vl.length=n:=⟨_,rfl⟩
    rw[hvl]at hvs
    rw[hvl]at hvc
    have HVC:=hidE hvc
    clear hvc
    rw[hvl,hvn]
    obtain⟨WB,hWB⟩:∃W,w2.setCell ⟨wr.heap.size,1,none⟩ (.slice V vn vc)=W:=⟨_,rfl⟩
    have hsB:w2.heap.size<=WB.heap.size/\WB.heap.size<=w2.heap.size:=by rw[<-hWB];simp
    have haB:Blk WB wr.heap.size 110 #[.string X,.slice V vn vc,.int .i64 0,.string ⟨#[]⟩,.bool false,.int .i64 0,.string ⟨#[]⟩,.int .i64 0,.slice none 0 0,.slice none 0 0,.slice none 0 0]:=hWB▸heap_setCell_same _ _ 1 _ _ _ (HAA2.out.below b2 (by omega))
    have hbB:Below wr.heap.size wr WB:=hWB▸(HBA.out.trans (b2.mono (by omega))).setCell (p:=⟨wr.heap.size,1,none⟩) (by simp) _
    have HVS:Hid (NmsIn (λg=>wr.heap.size<g/\g<WB.heap.size) WB vl V):=hidE (hvs.keep (λg hg=>⟨by omega,by omega⟩) (λg hg=>hWB▸Below.heap_setCell _ ⟨wr.heap.size,1,none⟩ _ _ (by simp;omega)))
    have HVL:=hidE hvl
    have HVN:=hidE hvn
    have HWB:=hidE hWB
    have HBB:=hidE hbB
    have HAB:=hidE haB
    have HNC:=hidE (r8_next v ts _ zn 6 ⟨#[45,62]⟩ 6 rfl (by decide) WB (HV.out.below (HBR.out.trans (hbB.mono hrw))) hn hzn)
    have haw:=HAA2.out.below b2 (by omega)
    obtain⟨⟨g0,g1,g2,g3,g4,g5,g6,g7,g8,g9,ga⟩,⟨z0,z1,z2,z3,z4,z5,z6,z7,z8,z9,za'⟩,hla⟩:=blk_facts11 haw
    clear b2 hvs hzn hWB hbB haB hvl hvn haw HNM HAA2
    go_upto_region 30 with fail
    rw[HWB.out]
    clear HWB g0 g1 g2 g3 g4 g5 g6 g7 g8 g9 ga z0 z1 z2 z3 z4 z5 z6 z7 z8 z9 za'
    go_wp2_with fail
    refine HNC.out.mono ?_
    rintro e w3 ⟨rfl,zb,rfl,hzb⟩
    replace hzb:PAt ts (nxO 6 [45,62] (nsR (nxO 2 [] (some r)))) zb:=hzb
    have hR:=HIH.out (f1+1) (by omega) WB _ zb (HV.out.below (HBR.out.trans (HBB.out.mono hrw))) hzb (λr' h=>by obtain⟨l,h1,h2,-⟩:=altB_at h;injection h1 with h1;subst h1;omega)
    rw[show(nxO 6 [45,62] (nsR (nxO 2 [] (some r)))).bind (rdE (f1+1))=altB (f1+1) (some r) from rfl]at hR
    obtain⟨B,hB⟩:∃B,altB (f1+1) (some r)=B:=⟨_,rfl⟩
    rw[hB]at hR
    have HBE:=hidE hB
    have HR:=hidE hR
    clear hzb hR hB HNC
    go_wp2_with fail
    refine HR.out.mono ?_
    rintro e w4 ⟨b4,ds,zl,hsh,rfl,hpl,hds⟩
    obtain⟨dk,dx,dt,dK,dX,dZ,dB,dm,dq,dKA,dkn,dkc,dLA,dln,dlc,rfl⟩:=hsh
    have hs4:=b4.size
    have ha4:=HAB.out.below b4 (by omega)
    obtain⟨WC,hWC⟩:∃W,(((((((((w4.setCell ⟨wr.heap.size,2,none⟩ (.int .i64 dk)).setCell ⟨wr.heap.size,3,none⟩ (.string dx)).setCell ⟨wr.heap.size,4,none⟩ (.bool dt)).setCell ⟨wr.heap.size,5,none⟩ (.int .i64 dK)).setCell ⟨wr.heap.size,6,none⟩ (.string dX)).setCell ⟨wr.heap.size,7,none⟩ (.int .i64 dZ)).setCell ⟨wr.heap.size,8,none⟩ (.slice dB dm dq)).setCell ⟨wr.heap.size,9,none⟩ (.slice dKA dkn dkc)).setCell ⟨wr.heap.size,10,none⟩ (.slice dLA dln dlc))=W:=⟨_,rfl⟩
    have hsC:w4.heap.size<=WC.heap.size/\WC.heap.size<=w4.heap.size:=by rw[<-hWC,size_so11_2];omega
    have haC:Blk WC wr.heap.size 110 #[.string X,.slice V vn vc,.int .i64 dk,.string dx,.bool dt,.int .i64 dK,.string dX,.int .i64 dZ,.slice dB dm dq,.slice dKA dkn dkc,.slice dLA dln dlc]:=hWC▸blk_so11_2 _ _ _ _ _ _ _ _ _ ha4
    have hfC:∀k,k≠wr.heap.size->WC.heap[k]? = w4.heap[k]?:=λk hk=>hWC▸so11_2_far _ _ _ _ _ _ _ _ _ _ _ _ hk
    have hbC:Below wr.heap.size wr WC:=hWC▸below_so11_2 (HBB.out.trans (b4.mono (by omega))) (Nat.le_refl _) _ _ _ _ _ _ _ _ _
    have HPC:Hid (∀y rb,B=some (y,rb)->pcA.Cs (λg=>wr.heap.size<=g/\g<WC.heap.size) WC (.mk X.data.toList vl y) [.string X,.slice V vn vc,.int .i64 dk,.string dx,.bool dt,.int .i64 dK,.string dX,.int .i64 dZ,.slice dB dm dq,.slice dKA dkn dkc,.slice dLA dln dlc]):=hidE λy rb ho=>by
     have h1:=pcE.keep (S':=λg=>wr.heap.size<=g/\g<WC.heap.size) (λg hg=>⟨by omega,by omega⟩) (λg hg=>hfC g (by omega)) (hds y rb ho)
     have h2:NmsIn (λg=>wr.heap.size<=g/\g<WC.heap.size) WC vl V:=HVS.out.keep (λg hg=>⟨by omega,by omega⟩) (λg hg=>(hfC g (by omega)).trans (b4.block g hg.2))
     have h3:=alt_cs (c:=X.data.toList) (v:=vc) HVC.out h2 h1
     rw[HVN.out]at h3
     simpa[Sx.strV] using h3
    have HEC:Hid (Blk WC ge 48 (choC (.slice (some ⟨W1.heap.size,0,none⟩) 1 1) A n c)):=hidE (hE.out.below hbC (by omega))
    have HBC:=hidE hbC
    have HAC:=hidE haC
    have HPL:=hidE hpl
    have HWC:=hidE hWC
    obtain⟨⟨g0,g1,g2,g3,g4,g5,g6,g7,g8,g9,ga⟩,⟨z0,z1,z2,z3,z4,z5,z6,z7,z8,z9,za'⟩,hla⟩:=blk_facts11 ha4
    clear b4 hds hpl hWC hbC haC hfC ha4 HR HVS HAB HBB
    go_upto_region 31 with fail
    rw[HWC.out]
    clear HWC g0 g1 g2 g3 g4 g5 g6 g7 g8 g9 ga z0 z1 z2 z3 z4 z5 z6 z7 z8 z9 za'
    have HOW:=hidE ((own_below HOWN.out HBC.out).alloc (.cells #[.string X,.slice V vn vc,.int .i64 dk,.string dx,.bool dt,.int .i64 dK,.string dX,.int .i64 dZ,.slice dB dm dq,.slice dKA dkn dkc,.slice dLA dln dlc] 110))
    have hec:=HEC.out
    unfold choC at hec
    obtain⟨⟨g0,g1,g2,g3,g4,g5,g6,g7,g8⟩,-,hlg⟩:=blk_facts9 hec
    obtain⟨⟨y0,y1,y2,y3,y4,y5,y6,y7,y8,y9,ya⟩,-,hla⟩:=blk_facts11 HAC.out
    have hn9:n<=100000:=by have:=HDN.out;omega
    have hHL:=HOWN.out.lt
    have HLT:=hidE hHL
    clear hec hHL
    go_wp2_with (at_builtin;refine wpList_append_own_at _ rfl (.tmp 156) (.tmp 158) 46 rfl (ge+1) 110 i0 _ 11 176 Tryz.underlying46 hi0 hz0 hz1 hz2 rfl (by decide) _ n vs rfl HOW.out ⟨WC.heap.size,0,none⟩ 1 1 [.string X,.slice V vn vc,.int .i64 dk,.string dx,.bool dt,.int .i64 dK,.string dX,.int .i64 dZ,.slice dB dm dq,.slice dKA dkn dkc,.slice dLA dln dlc] rfl rfl (new_cells' _ _ _ _ rfl) (by intro u hu;simp at hu;rcases hu with rfl|rfl|rfl|rfl|rfl|rfl|rfl|rfl|rfl|rfl|rfl <;> rfl) (by unfold maxLen;omega) (by omega) (by simp;omega) ?_;intro v2 w5 hown5 hgrow _ hat5;obtain⟨A2,c2,rfl⟩:=own_shape hown5;have HO5:=hidE hown5;have HG5:=hidE hgrow;have HT5:=hidE hat5;clear hown5 hgrow hat5;have he5:=(HEC.out.alloc (.cells #[.string X,.slice V vn vc,.int .i64 dk,.string dx,.bool dt,.int .i64 dK,.string dX,.int .i64 dZ,.slice dB dm dq,.slice dKA dkn dkc,.slice dLA dln dlc] 110)).grown HG5.out (λe=>by have:=HLT.out _ e.symm;omega);have HE5:=hidE he5;unfold choC at he5;obtain⟨⟨m0,m1,m2,m3,m4,m5,m6,m7,m8⟩,⟨o0,o1,o2,o3,o4,o5,o6,o7,o8⟩,hlm⟩:=blk_facts9 he5;clear he5)
    obtain⟨W6,hW6⟩:∃W,w5.setCell ⟨ge,8,none⟩ (.slice A2 (n+1) c2)=W:=⟨_,rfl⟩
    have hs5:=HG5.out.size
    simp at hs5
    have hs6:w5.heap.size<=W6.heap.size/\W6.heap.size<=w5.heap.size:=by rw[<-hW6];simp
    have HE6:Hid (Blk W6 ge 48 (choC (.slice (some ⟨W1.heap.size,0,none⟩) 1 1) A2 (n+1) c2)):=hidE (hW6▸heap_setCell_same _ _ 8 _ _ _ HE5.out)
    have hc6:Chg (only ge) w5 W6:=hW6▸(Chg.refl (only ge) w5).setCell (p:=⟨ge,8,none⟩) (.inr rfl) _
    have HC6:Hid (Chg (only ge) W2 W6):=hidE (((hC.out.trans (Chg.of_below HBC.out)).alloc _ |>.grown HG5.out (λk hk=>by have:=HLT.out _ hk;exact .inl (by omega))).trans hc6)
    have HBT6:Hid (∀y rb,B=some (y,rb)->BuiltG pcA (ge+1) 110 W6 (done++[.mk X.data.toList vl y]) (.slice A2 (n+1) c2)):=hidE λy rb ho=>by
     have h1:=BuiltG.next (P:=pcA) (b:=ge) (w:=wr) (w1:=WC) (by omega) (by omega) (by rw[<-HDN.out.1];exact HOWN.out) HROW.out (ChR.of_below HBC.out) (HPC.out y rb ho) ((Below.refl _ WC).alloc (Nat.le_refl _) _) (by rw[<-HDN.out.1];exact HO5.out) HG5.out HT5.out
     exact h1.low hc6 (by omega)
    have hB6:Below w.heap.size w W6:=HB2.out.trans (HC6.out.toBelow (by omega) (λk hk=>by unfold only;omega))
    have HIZ:=hidE (r8_is v ts _ zl 6 ⟨#[59]⟩ 6 rfl (by decide) W6 (HV.out.below hB6) HPL.out)
    have HW6:=hidE hW6
    clear hW6 hc6 hB6 g0 g1 g2 g3 g4 g5 g6 g7 g8 y0 y1 y2 y3 y4 y5 y6 y7 y8 y9 ya m0 m1 m2 m3 m4 m5 m6 m7 m8 o0 o1 o2 o3 o4 o5 o6 o7 o8
    obtain⟨qs,hqs⟩:∃q,isO 6 [59] (B.map (·.2))=q:=⟨_,rfl⟩
    rw[show(⟨#[59]⟩:ByteArray).data.toList=[59] from rfl,hqs]at HIZ
    have HQS:=hidE hqs
    have HRA:Hid (rdAlt (f1+1) r=B.map λz=>(.mk X.data.toList vl z.1,z.2)):=hidE (by rw[alt_o,HBE.out,HX.out,HVL.out])
    have HLB:Hid (∀y rb,B=some (y,rb)->rb.length+3<=r.length):=hidE λy rb ho=>by
     rw[<-HBE.out,altB]at ho
     cases hN:nxO 6 [45,62] (nsR (nxO 2 [] (some r))) with
     | none=>rw[hN]at ho;cases ho
     | some r' =>
      rw[hN,Option.bind_some]at ho
      obtain⟨l,h1,h2,h3⟩:=altB_at hN
      injection h1 with h1
      subst h1
      have:=(rdE_len (f1+1) r' y rb (h3 (HZR.out.good HG.out _ rfl)) ho).2
      omega
    clear hqs
    go_wp2_with fail
    try rw[HW6.out]
    refine HIZ.out.mono ?_
    rintro e w7 ⟨rfl,rfl⟩
    clear HIZ HW6
    cases qs with
    | true =>
     obtain⟨hpn,hz0',hz1'⟩:=pat_next (by decide) HPL.out HQS.out
     obtain⟨⟨y,rb⟩,hB⟩:∃u,B=some u:=by
      cases hB:B with
      | none=>have:=HQS.out;rw[hB]at this;cases this
      | some u=>exact⟨u,rfl⟩
     have hnx:nxO 6 [59] (B.map (·.2))=some rb.tail:=by
      have:=HQS.out
      rw[hB]at this ⊢
      rw[nxO,this,if_pos rfl];rfl
     rw[hnx]at hpn
     have hlb:=HLB.out y rb hB
     have htl:rb.tail.length+1<=rb.length\/rb=[]:=by cases rb <;> simp
     have htl:rb.tail.length<=rb.length:=by simp
     have HPN:=hidE hpn
     have HNEW:Hid (∃r' f' done',some rb.tail=some r'/\f'<=f/\3*r'.length+3<=f'/\n+1=done'.length/\done'.length+r'.length<=ts.length/\SO=(sepM rdAlt f' r').map (λy=>(done'++y.1,y.2))/\BuiltG pcA (ge+1) 110 W6 done' (.slice A2 (n+1) c2)):=hidE (by
      refine⟨rb.tail,f1,done++[.mk X.data.toList vl y],rfl,by omega,by omega,by rw[List.length_append,<-HDN.out.1];rfl,by have:=HDN.out.2;rw[List.length_append,List.length_singleton];omega,?_,HBT6.out y rb hB⟩
      rw[HSS.out,sepM_step,HRA.out,hB]
      have h59:isO 6 [59] (some rb)=true:=by have:=HQS.out;rw[hB]at this;exact this
      simp only[Option.map_some,h59,if_true,Option.map_map]
      congr 1
      funext z
      simp)
     clear hpn hB hnx
     go_wp2_with fail
     go_roundg (rb.tail.length+1)
     case measure=>simp;omega
     case rel=>exact⟨zl+1,true,some rb.tail,A2,n+1,c2,by simp,by go_num,rfl,HPN.out,HE6,HC6,hidE (λ_=>HNEW.out),hidE (λh=>by cases h)⟩
    | false =>
     have HNEW:Hid (SO.map (·.2)=B.map (·.2)/\∀l rl,SO=some (l,rl)->n+1=l.length/\BuiltG pcA (ge+1) 110 W6 l (.slice A2 (n+1) c2)):=hidE (by
      have h1:=HSS.out
      rw[sepM_step,HRA.out]at h1
      cases hB:B with
      | none=>rw[hB]at h1;rw[h1];exact⟨rfl,λl rl h=>by cases h⟩
      | some u =>
       rw[hB]at h1
       have h59:¬isO 6 [59] (some u.2)=true:=by have:=HQS.out;rw[hB]at this;rw[show isO 6 [59] (some u.2)=false from this];decide
       simp only[Option.map_some,if_neg h59]at h1
       rw[h1]
       refine⟨rfl,λl rl h=>?_⟩
       injection h with h
       injection h with h _
       subst h
       exact⟨by rw[List.length_append,<-HDN.out.1];rfl,HBT6.out u.1 u.2 hB⟩)
     go_wp2_with fail
     go_roundg 0
     case measure=>simp
     case rel=>exact⟨zl,false,B.map (·.2),A2,n+1,c2,by simp,rfl,rfl,HPL.out,HE6,HC6,hidE (λh=>by cases h),hidE (λ_=>HNEW.out)⟩
end Go.Proofs.YtknkclefoiohpaaGreatDoor

namespace Go.Proofs.YtknkclefoiohpaaGreatDoor
open Go.RowKit Lx Tx Sx
set_option maxRecDepth 100000
theorem good_lp(t:Tok)(h:Lx.Good t)(he:t.text=[40]):t.kind=6:=by
 obtain⟨-,h2,-⟩:=h
 rw[he,show first [40]=(6,1) by decide +kernel]at h2
 injection h2 with h2
 exact h2.symm
def cC(c:C9):List Value:=[.int .i64 c.k,.string c.x,.bool c.t,.int .i64 c.K,.string c.X,.int .i64 c.Z,.slice c.B c.m c.q,.slice c.KA c.kn c.kc,.slice c.LA c.ln c.lc]
def appO(f:Nat)(p:Option (List Tok)):Option (Ex × List Tok):=(p.bind (rdAtom f)).bind λy=>(manyF atomEB id rdAtom f y.2).map λz=>(z.1.foldl Ex.app y.1,z.2)
theorem rdE_app(f:Nat)(p:Option (List Tok))(h1:isO 6 [92] p=false)(h2:isO 3 wLet p=false)(h3:isO 3 wCase p=false):p.bind (rdE (f+2))=appO f p:=by
 cases p with
 | none=>rfl
 | some l =>
  rw[isO_hd _ _ (by decide)]at h1 h2 h3
  rw[Option.bind_some,rdE_eq,if_neg (by rw[h1];decide),if_neg (by rw[h2];decide),if_neg (by rw[h3];decide),rdApp_eq,appO,Option.bind_some]
  cases rdAtom f l <;> rfl
def goO(P:Option (List Tok)):Bool:=match P with
 | none=>false
 | some r=>atomEB r
def AppH(ts:List Tok)(f:Nat)(O:Option (Ex × List Tok))(w W1:World)(ge:Nat)(gg:Nat)(vk:Value)(wr:World):Prop :=
 ∃(zk:Int) (P:Option (List Tok)) (c:C9),gg=P.elim 0 (λr=>r.length+1)/\vk=.int .i64 zk/\PAt ts P zk/\Hid (Blk wr ge 48 (cC c).toArray)/\Hid (Chg (only ge) W1 wr) /\
  Hid (P=none->O=none)/\Hid (∀r,P=some r->∃acc f',f'<=f/\3*r.length+2<=f'/\O=(manyF atomEB id rdAtom f' r).map (λz=>(z.1.foldl Ex.app acc,z.2))/\pcE.Cs (λg=>(w.heap.size<g/\g<wr.heap.size)/\g≠ge) wr acc (cC c))
set_option maxRecDepth 10000000 in
set_option maxHeartbeats 25600000 in
theorem r8_read_app(f:Nat)(ts:List Tok)(v:Value)(hG:AllG ts)(hn:ts.length<=100000)(IH:At8 ts v f)(w:World)(p:Option (List Tok))(z:Int)(hv:RdT w v ts)(hp:PAt ts p z)(h1:isO 6 [92] p=false)(h2:isO 3 wLet p=false)(h3:isO 3 wCase p=false)(hf:∀r,p=some r->3*r.length+3<=f+2) :
  Calls Tryz.prog 44 #[v,.int .i64 z] w (XP8 ts w (p.bind (rdE (f+2)))):=by
 rw[rdE_app f p h1 h2 h3]
 obtain⟨A0,c0,hvs,-⟩:=id hv
 obtain⟨N0,hN0⟩:∃n,ts.length=n:=⟨_,rfl⟩
 have HN0:=hidE hN0
 rw[hN0]at hvs
 subst hvs
 have HI1:Hid (∀W,Below w.heap.size w W->Calls Tryz.prog 34 #[.slice A0 N0 c0,.int .i64 z,.int .i64 6,.string ⟨#[92]⟩] W λe w'=>e=.returned (.bool false)/\W=w'):=hidE λW hb=>by
  have:=r8_is (.slice A0 N0 c0) ts _ _ 6 ⟨#[92]⟩ 6 rfl (by decide) W (hv.below hb) hp
  rwa [show(⟨#[92]⟩:ByteArray).data.toList=[92] from rfl,h1]at this
 have HI2:Hid (∀W,Below w.heap.size w W->Calls Tryz.prog 34 #[.slice A0 N0 c0,.int .i64 z,.int .i64 3,.string ⟨#[108,101,116]⟩] W λe w'=>e=.returned (.bool false)/\W=w'):=hidE λW hb=>by
  have:=r8_is (.slice A0 N0 c0) ts _ _ 3 ⟨#[108,101,116]⟩ 3 rfl (by decide) W (hv.below hb) hp
  rwa [show(⟨#[108,101,116]⟩:ByteArray).data.toList=wLet from rfl,h2]at this
 have HI3:Hid (∀W,Below w.heap.size w W->Calls Tryz.prog 34 #[.slice A0 N0 c0,.int .i64 z,.int .i64 3,.string ⟨#[99,97,115,101]⟩] W λe w'=>e=.returned (.bool false)/\W=w'):=hidE λW hb=>by
  have:=r8_is (.slice A0 N0 c0) ts _ _ 3 ⟨#[99,97,115,101]⟩ 3 rfl (by decide) W (hv.below hb) hp
  rwa [show(⟨#[99,97,115,101]⟩:ByteArray).data.toList=wCase from rfl,h3]at this
 have HR:=hidE (λW (hb:Below w.heap.size w W)=>IH f (Nat.le_refl _) W p z (hv.below hb) hp (λr h=>by have:=hf r h;omega))
 obtain⟨O,hO⟩:∃O,appO f p=O:=⟨_,rfl⟩
 rw[hO]
 rw[appO]at hO
 obtain⟨M,hM⟩:∃M,p.bind (rdAtom f)=M:=⟨_,rfl⟩
 have hlen:∀y r,M=some (y,r)->3*r.length+2<=f:=λy r h=>by
  cases hp':p with
  | none=>rw[hp']at hM;rw[<-hM]at h;cases h
  | some l =>
   rw[hp',Option.bind_some]at hM
   obtain⟨-,-,h5⟩:=(rd_facts f).2.2.2.2.2.2 l y r (hp.good hG l hp') (hM.trans h)
   have:=wt_pos y
   have:=hf l hp'
   omega
 rw[hM]at HR hO
 have HO:=hidE hO
 have HLN:=hidE hlen
 have HV:=hidE hv
 have HIH:=hidE IH
 have HG:=hidE hG
 obtain⟨W0,hW0⟩:∃W,w.alloc (.cells #[.int .i64 0,.string ⟨#[]⟩,.bool false,.int .i64 0,.string ⟨#[]⟩,.int .i64 0,.slice none 0 0,.slice none 0 0,.slice none 0 0] 48)=W:=⟨_,rfl⟩
 have hal:Below w.heap.size w W0:=hW0▸(Below.refl _ w).alloc (Nat.le_refl _) _
 have hs0:w.heap.size+1<=W0.heap.size/\W0.heap.size<=w.heap.size+1:=by rw[<-hW0];simp
 have hbk:Blk W0 w.heap.size 48 #[.int .i64 0,.string ⟨#[]⟩,.bool false,.int .i64 0,.string ⟨#[]⟩,.int .i64 0,.slice none 0 0,.slice none 0 0,.slice none 0 0]:=hW0▸heap_alloc_new _ _
 have HAL:=hidE hal
 have HBK:=hidE hbk
 have hn0:N0<=100000:=by omega
 clear hv h1 h2 h3 hf IH hp hO hal hbk hG hM hlen hN0
 go_enter Tryz.func44,Tryz.ntmps44
 go_wp2_with fail
 try rw[hW0]
 refine(HI1.out _ HAL.out).mono ?_
 rintro e w1 ⟨rfl,rfl⟩
 clear HI1 hW0
 go_wp2_with fail
 refine(HI2.out _ HAL.out).mono ?_
 rintro e w1 ⟨rfl,rfl⟩
 clear HI2
 go_wp2_with fail
 refine(HI3.out _ HAL.out).mono ?_
 rintro e w1 ⟨rfl,rfl⟩
 clear HI3
 go_wp2_with fail
 refine(HR.out _ HAL.out).mono ?_
 rintro e w1 ⟨b1,cs,ze,hsh,rfl,hpe,hcs⟩
 obtain⟨ck,cx,ct,cK,cX,cZ,cB,cm,cq,cKA,ckn,ckc,cLA,cln,clc,rfl⟩:=hsh
 have hs1:=b1.size
 obtain⟨W1,hW1⟩:∃W,w1.alloc (.cells #[.int .i64 ck,.string cx,.bool ct,.int .i64 cK,.string cX,.int .i64 cZ,.slice cB cm cq,.slice cKA ckn ckc,.slice cLA cln clc] 48)=W:=⟨_,rfl⟩
 have hbw:Below w1.heap.size w1 W1:=hW1▸(Below.refl _ w1).alloc (Nat.le_refl _) _
 have hsW1:w1.heap.size+1<=W1.heap.size/\W1.heap.size<=w1.heap.size+1:=by rw[<-hW1];simp
 have hbe:Blk W1 w1.heap.size 48 #[.int .i64 ck,.string cx,.bool ct,.int .i64 cK,.string cX,.int .i64 cZ,.slice cB cm cq,.slice cKA ckn ckc,.slice cLA cln clc]:=hW1▸heap_alloc_new _ _
 have HB1:=hidE (HAL.out.trans ((b1.mono (by omega)).trans (hbw.mono (by omega))))
 have HBK1:=hidE ((HBK.out.below b1 (by omega)).below hbw (by omega))
 have HST:Hid (AppH ts f O w W1 w1.heap.size ((M.map (·.2)).elim 0 (λr=>r.length+1)) (.int .i64 ze) W1):=hidE (by
  refine⟨ze,M.map (·.2),⟨ck,cx,ct,cK,cX,cZ,cB,cm,cq,cKA,ckn,ckc,cLA,cln,clc⟩,rfl,rfl,hpe,hidE hbe,hidE (Chg.refl _ _),hidE (λh=>?_),hidE (λr h=>?_)⟩
  ·cases hM:M with
   | none=>rw[<-HO.out,hM];rfl
   | some y=>rw[hM]at h;cases h
  ·cases hM:M with
   | none=>rw[hM]at h;cases h
   | some y =>
    rw[hM]at h
    replace h:y.2=r:=by injection h
    subst h
    exact⟨y.1,f,Nat.le_refl _,HLN.out y.1 y.2 hM,by rw[<-HO.out,hM];rfl,pcE.keep (λg hg=>⟨⟨by omega,by omega⟩,by omega⟩) (λg hg=>hbw.block g hg.2) (hcs y.1 y.2 hM)⟩)
 obtain⟨ge,hge⟩:∃g,w1.heap.size=g:=⟨_,rfl⟩
 have hlo:=hpe.lo
 have HW1:=hidE hW1
 rw[hge]at HST
 have HGE:=hidE hge
 have hge3:w1.heap.size<=ge/\ge<=w1.heap.size:=by omega
 clear b1 hbw hbe hpe hcs HR HBK hW1 hge HO HLN
 go_wp2_with fail
 try rw[HW1.out]
 rw[HGE.out]
 clear HW1 HGE
 go_loopg [27] ((M.map (·.2)).elim 0 (λr=>r.length+1)) (λgg vk wr=>AppH ts f O w W1 ge gg vk wr)
 case atStart=>exact HST.out
 case round =>
  obtain⟨zk,P,c,rfl,rfl,hzk,hE,hC,hN,hS⟩:=hrel
  have hsr:=hC.out.size
  clear HST
  have hbr:Below w.heap.size w wr:=HB1.out.trans (hC.out.toBelow (by have:=HB1.out.size;omega) (λk hk=>by unfold only;omega))
  have HBR:=hidE hbr
  have HRR:=hidE (HBK1.out.same (hC.out.block _ (by omega) (by unfold only;omega)))
  have HZK:=hidE hzk
  have hbw:=hbr.size
  clear hbr
  obtain⟨wv,hwv⟩:∃y,y=wr:=⟨_,rfl⟩
  subst hwv
  go_upto_region 37 with fail
  go_cut [208] from 177 to 219 (λu wx=>u=.bool (goO P)/\wx=wv)
  case first =>
   rcases hzk with⟨rfl,rfl⟩|⟨k,hk,rfl,rfl⟩
   ·clear hN hS hC
    go_wp2_with fail
    go_meet
    case rel=>exact⟨rfl,rfl⟩
   ·rw[HN0.out]at hk
    by_cases hlt:k<N0
    ·have hkt:k<ts.length:=by rw[HN0.out];exact hlt
     obtain⟨g,c',hvs,e0,e1,-⟩:=(HV.out.below HBR.out).at_ k hkt
     rw[HN0.out]at hvs
     injection hvs with q1 q2 q3
     subst q1 q3
     clear q2
     obtain⟨Y,hY⟩:∃Y:ByteArray,⟨ts[k].text.toArray⟩=Y:=⟨_,rfl⟩
     rw[hY]at e1
     obtain⟨m,hm⟩:∃m,ts[k].kind=m:=⟨_,rfl⟩
     rw[hm]at e0
     have hYt:Y.data.toList=ts[k].text:=by rw[<-hY]
     have hgl:=lt_cell e0
     have ii0:(0:Int)<=(k:Int):=by omega
     have ii1:(k:Int)<(N0:Int):=by omega
     have hgood:=HG.out _ (List.getElem_mem hkt)
     have hat:goO (some (ts.drop k))=((m==1) ||(m==2) ||(Y.toList==[40])):=by
      rw[goO,drop_tok ts k hkt,atomEB,atomE,hm,pLp,isSign,hm,<-hYt,Lib.toList_data]
      by_cases h40:Y.data.toList=[40]
      ·have:=good_lp _ hgood (by rw[<-hYt];exact h40)
       rw[hm]at this
       rw[this,h40];rfl
      ·rw[beq_eq_false_iff_ne.2 h40];simp
     have dm1:((m:Int)==1)=(m==1):=by
      by_cases h:m=1
      ·rw[h];rfl
      ·rw[beq_eq_false_iff_ne.2 h,beq_eq_false_iff_ne];omega
     have dm2:((m:Int)==2)=(m==2):=by
      by_cases h:m=2
      ·rw[h];rfl
      ·rw[beq_eq_false_iff_ne.2 h,beq_eq_false_iff_ne];omega
     obtain⟨b1,hb1⟩:∃q,(m==1)=q:=⟨_,rfl⟩
     obtain⟨b2,hb2⟩:∃q,(m==2)=q:=⟨_,rfl⟩
     obtain⟨b3,hb3⟩:∃q,(Y.toList==[40])=q:=⟨_,rfl⟩
     rw[hb1]at dm1
     rw[hb2]at dm2
     rw[hb1,hb2,hb3]at hat
     have HAT:=hidE hat
     clear hat hb1 hb2 hm hY hYt hgood hN hS hC
     rcases b1 with _|_
     ·rcases b2 with _|_
      ·rcases b3 with _|_
       ·go_wp2_with fail
        go_meet
        case rel=>exact⟨by rw[HAT.out];rfl,rfl⟩
       ·go_wp2_with fail
        go_meet
        case rel=>exact⟨by rw[HAT.out];rfl,rfl⟩
      ·go_wp2_with fail
       go_meet
       case rel=>exact⟨by rw[HAT.out];rfl,rfl⟩
     ·go_wp2_with fail
      go_meet
      case rel=>exact⟨by rw[HAT.out];rfl,rfl⟩
    ·have ii1:¬(k:Int)<(N0:Int):=by omega
     have ii2:decide ((k:Int)<(N0:Int))=false:=decide_eq_false ii1
     have ii0:(0:Int)<=(k:Int):=by omega
     have HGO:Hid (goO (some (ts.drop k))=false):=hidE (by rw[goO,List.drop_eq_nil_of_le (by rw[HN0.out];omega)];rfl)
     clear hN hS hC
     go_wp2_with fail
     go_meet
     case rel=>exact⟨by rw[HGO.out],rfl⟩
  case rest =>
   obtain⟨rfl,rfl⟩:=hcut
   have he:=hE.out
   unfold cC at he
   obtain⟨⟨g0,g1,g2,g3,g4,g5,g6,g7,g8⟩,⟨o0,o1,o2,o3,o4,o5,o6,o7,o8⟩,hlg⟩:=blk_facts9 he
   obtain⟨⟨y0,y1,y2,y3,y4,y5,y6,y7,y8⟩,⟨z0,z1,z2,z3,z4,z5,z6,z7,z8⟩,hly⟩:=blk_facts9 HRR.out
   obtain⟨qg,hqg⟩:∃q,goO P=q:=⟨_,rfl⟩
   rw[hqg]
   cases qg with
   | false =>
    have HX:Hid (O.map (·.2)=P/\∀y r,O=some (y,r)->pcE.Cs (λg=>(w.heap.size<g/\g<wc.heap.size)/\g≠ge) wc y [.int .i64 c.k,.string c.x,.bool c.t,.int .i64 c.K,.string c.X,.int .i64 c.Z,.slice c.B c.m c.q,.slice c.KA c.kn c.kc,.slice c.LA c.ln c.lc]):=hidE (by
     cases hP:P with
     | none=>rw[hN.out hP];exact⟨rfl,λy r h=>by cases h⟩
     | some r =>
      obtain⟨acc,f',hff,hfr,hOO,hacc⟩:=hS.out r hP
      obtain⟨f1,rfl⟩:∃f1,f'=f1+1:=⟨f'-1,by omega⟩
      rw[hP]at hqg
      rw[hOO,many_end f1 _ hqg]
      exact⟨rfl,λy r h=>by injection h with h;injection h with h _;subst h;exact hacc⟩)
    clear hN hS hC he hqg
    go_wp2_with fail
    try simp only[Exit.inBlock,Exit.then]
    refine bodyPost_ret (results_ct rfl _ _ w.heap.size 48 _ (0,0) _ rfl (blk_set9 _ _ _ _ _ _ _ _ _ HRR.out) Tryz.underlying48 rfl (by kernel_rfl)) rfl ?_
    exact xp8_set9 HBR.out (by rw[HX.out.1];exact HZK.out) (λy r ho=>pcE.keep (λg hg=>hg.1) (λ_ _=>rfl) (HX.out.2 y r ho))
   | true =>
    obtain⟨r,rfl⟩:∃r,P=some r:=by
     cases P with
     | none=>cases hqg
     | some r=>exact⟨r,rfl⟩
    obtain⟨acc,f',hff,hfr,hOO,hacc⟩:=hS.out r rfl
    obtain⟨f1,rfl⟩:∃f1,f'=f1+1:=⟨f'-1,by omega⟩
    have hR:=HIH.out f1 (by omega) wc (some r) zk (HV.out.below HBR.out) HZK.out (λr' h=>by injection h with h;subst h;omega)
    rw[Option.bind_some]at hR
    obtain⟨B,hB⟩:∃B,rdAtom f1 r=B:=⟨_,rfl⟩
    rw[hB]at hR
    have HR:=hidE hR
    have HOB:Hid ((B=none->O=none)/\∀y rb,B=some (y,rb)->3*rb.length+2<=f1/\rb.length<r.length/\O=(manyF atomEB id rdAtom f1 rb).map (λz=>(z.1.foldl Ex.app (.app acc y),z.2))):=hidE (by
     refine⟨λh=>?_,λy rb h=>?_⟩
     ·rw[hOO,many_no f1 r hqg (hB.trans h)];rfl
     ·obtain⟨-,-,h5⟩:=(rd_facts f1).2.2.2.2.2.2 r y rb (HZK.out.good HG.out r rfl) (hB.trans h)
      have:=wt_pos y
      refine⟨by omega,by omega,?_⟩
      rw[hOO,many_yes f1 r hqg y rb (hB.trans h),Option.map_map]
      rfl)
    have HACC:=hidE hacc
    have HEE:=hidE hE.out
    unfold cC at HEE
    clear hN hS hR hB hOO hacc hqg he g0 g1 g2 g3 g4 g5 g6 g7 g8 o0 o1 o2 o3 o4 o5 o6 o7 o8 y0 y1 y2 y3 y4 y5 y6 y7 y8 z0 z1 z2 z3 z4 z5 z6 z7 z8
    go_wp2_with fail
    refine HR.out.mono ?_
    rintro e w4 ⟨b4,ds,zl,hsh,rfl,hpl,hds⟩
    obtain⟨dk,dx,dt,dK,dX,dZ,dB,dm,dq,dKA,dkn,dkc,dLA,dln,dlc,rfl⟩:=hsh
    have hs4:=b4.size
    obtain⟨W5,hW5⟩:∃W,w4.alloc (.cells #[.int .i64 dk,.string dx,.bool dt,.int .i64 dK,.string dX,.int .i64 dZ,.slice dB dm dq,.slice dKA dkn dkc,.slice dLA dln dlc] 48)=W:=⟨_,rfl⟩
    have hbw5:Below w4.heap.size w4 W5:=hW5▸(Below.refl _ w4).alloc (Nat.le_refl _) _
    have hs5:w4.heap.size+1<=W5.heap.size/\W5.heap.size<=w4.heap.size+1:=by rw[<-hW5];simp
    have hx5:Blk W5 w4.heap.size 48 #[.int .i64 dk,.string dx,.bool dt,.int .i64 dK,.string dX,.int .i64 dZ,.slice dB dm dq,.slice dKA dkn dkc,.slice dLA dln dlc]:=hW5▸heap_alloc_new _ _
    have hb5:Below wc.heap.size wc W5:=b4.trans (hbw5.mono hs4)
    have he5:=HEE.out.below hb5 hlg
    have HX5:=hidE hx5
    have HE5:=hidE he5
    have HB5:=hidE hb5
    have HPL:=hidE hpl
    have HDS:Hid (∀y r,B=some (y,r)->pcE.Cs (λg=>wc.heap.size<=g/\g<w4.heap.size) W5 y [.int .i64 dk,.string dx,.bool dt,.int .i64 dK,.string dX,.int .i64 dZ,.slice dB dm dq,.slice dKA dkn dkc,.slice dLA dln dlc]):=hidE λy r ho=>pcE.keep (λ_ h=>h) (λg hg=>hbw5.block g hg.2) (hds y r ho)
    have HAC5:=hidE (pcE.keep (S':=λg=>(w.heap.size<g/\g<wc.heap.size)/\g≠ge) (λ_ h=>h) (λg hg=>hb5.block g hg.1.2) HACC.out)
    have HW5:=hidE hW5
    obtain⟨⟨g0,g1,g2,g3,g4,g5,g6,g7,g8⟩,⟨o0,o1,o2,o3,o4,o5,o6,o7,o8⟩,hlg5⟩:=blk_facts9 he5
    obtain⟨⟨x0,x1,x2,x3,x4,x5,x6,x7,x8⟩,-,hlx⟩:=blk_facts9 hx5
    clear b4 hbw5 hx5 hb5 he5 hpl hds hW5 HR HACC
    go_upto_region 39 with fail
    rw[HW5.out]
    clear HW5
    obtain⟨W6,hW6⟩:∃W,((((((((((W5.setCell ⟨ge,0,none⟩ (.int .i64 4)).setCell ⟨ge,1,none⟩ (.string ⟨#[]⟩)).setCell ⟨ge,2,none⟩ (.bool false)).setCell ⟨ge,3,none⟩ (.int .i64 0)).setCell ⟨ge,4,none⟩ (.string ⟨#[]⟩)).setCell ⟨ge,5,none⟩ (.int .i64 0)).setCell ⟨ge,6,none⟩ (.slice none 0 0)).setCell ⟨ge,7,none⟩ (.slice (some ⟨W5.heap.size,0,none⟩) 2 2)).setCell ⟨ge,8,none⟩ (.slice none 0 0)).alloc (.cells #[.int .i64 c.k,.string c.x,.bool c.t,.int .i64 c.K,.string c.X,.int .i64 c.Z,.slice c.B c.m c.q,.slice c.KA c.kn c.kc,.slice c.LA c.ln c.lc,.int .i64 dk,.string dx,.bool dt,.int .i64 dK,.string dX,.int .i64 dZ,.slice dB dm dq,.slice dKA dkn dkc,.slice dLA dln dlc] 48))=W:=⟨_,rfl⟩
    have hs6:W5.heap.size+1<=W6.heap.size/\W6.heap.size<=W5.heap.size+1:=by rw[<-hW6,World.size_alloc,size_set9];omega
    have hf6:∀k,k<W5.heap.size->k≠ge->W6.heap[k]? = W5.heap[k]?:=λk h1 h2=>hW6▸(Below.heap_alloc _ _ _ (by rw[size_set9];exact h1)).trans (set9_far _ _ _ _ _ _ _ _ _ _ _ _ h2)
    have he6:Blk W6 ge 48 #[.int .i64 4,.string ⟨#[]⟩,.bool false,.int .i64 0,.string ⟨#[]⟩,.int .i64 0,.slice none 0 0,.slice (some ⟨W5.heap.size,0,none⟩) 2 2,.slice none 0 0]:=hW6▸Blk.alloc (blk_set9 _ _ _ _ _ _ _ _ _ HE5.out) _
    have hn6:Blk W6 W5.heap.size 48 #[.int .i64 c.k,.string c.x,.bool c.t,.int .i64 c.K,.string c.X,.int .i64 c.Z,.slice c.B c.m c.q,.slice c.KA c.kn c.kc,.slice c.LA c.ln c.lc,.int .i64 dk,.string dx,.bool dt,.int .i64 dK,.string dX,.int .i64 dZ,.slice dB dm dq,.slice dKA dkn dkc,.slice dLA dln dlc]:=hW6▸alloc_at _ _ _ (by rw[size_set9])
    have hc6:Chg (only ge) W5 W6:=hW6▸(((((((((((Chg.refl (only ge) W5).setCell (p:=⟨ge,0,none⟩) (.inr rfl) _).setCell (p:=⟨ge,1,none⟩) (.inr rfl) _).setCell (p:=⟨ge,2,none⟩) (.inr rfl) _).setCell (p:=⟨ge,3,none⟩) (.inr rfl) _).setCell (p:=⟨ge,4,none⟩) (.inr rfl) _).setCell (p:=⟨ge,5,none⟩) (.inr rfl) _).setCell (p:=⟨ge,6,none⟩) (.inr rfl) _).setCell (p:=⟨ge,7,none⟩) (.inr rfl) _).setCell (p:=⟨ge,8,none⟩) (.inr rfl) _).alloc _)
    have HC6:Hid (Chg (only ge) W1 W6):=hidE ((hC.out.trans (Chg.of_below HB5.out)).trans hc6)
    have HE6:Hid (Blk W6 ge 48 (cC ⟨4,⟨#[]⟩,false,0,⟨#[]⟩,0,none,0,0,some ⟨W5.heap.size,0,none⟩,2,2,none,0,0⟩).toArray):=hidE he6
    have HY6:Hid (∀y rb,B=some (y,rb)->pcE.Cs (λg=>(w.heap.size<g/\g<W6.heap.size)/\g≠ge) W6 (.app acc y) (cC ⟨4,⟨#[]⟩,false,0,⟨#[]⟩,0,none,0,0,some ⟨W5.heap.size,0,none⟩,2,2,none,0,0⟩)):=hidE λy rb ho=>by
     refine⟨⟨none,0,some ⟨W5.heap.size,0,none⟩,0,none,0⟩,by simp[cC,exC,kdE,nmE,toE,tyE,tyC,kidsE,altsE,Sx.strV],trivial,?_⟩
     rw[ExIn]
     exact⟨_,rfl,⟨⟨by omega,by omega⟩,by omega⟩,kids_new (S:=λg=>(w.heap.size<g/\g<w4.heap.size)/\g≠ge) (w:=W5) (pcE.keep (λg hg=>⟨⟨hg.1.1,by omega⟩,hg.2⟩) (λ_ _=>rfl) HAC5.out) (pcE.keep (λg hg=>⟨⟨by omega,hg.2⟩,by omega⟩) (λ_ _=>rfl) (HDS.out y rb ho)) (λg hg=>⟨⟨hg.1.1,by omega⟩,hg.2⟩) (λg hg=>hf6 g (by omega) hg.2) hn6⟩
    have HW6:=hidE hW6
    clear hW6 hf6 he6 hn6 hc6
    go_upto_region 40 with fail
    rw[HW6.out]
    clear HW6 g0 g1 g2 g3 g4 g5 g6 g7 g8 o0 o1 o2 o3 o4 o5 o6 o7 o8 x0 x1 x2 x3 x4 x5 x6 x7 x8
    go_wp2_with fail
    go_roundg ((B.map (·.2)).elim 0 (λr=>r.length+1))
    case measure =>
     cases hB:B with
     | none=>simp
     | some u=>have:=(HOB.out.2 u.1 u.2 hB).2.1;simp;omega
    case rel =>
     refine⟨zl,B.map (·.2),_,rfl,rfl,HPL.out,HE6,HC6,hidE (λh=>?_),hidE (λr' h=>?_)⟩
     ·cases hB:B with
      | none=>exact HOB.out.1 hB
      | some u=>rw[hB]at h;cases h
     ·cases hB:B with
      | none=>rw[hB]at h;cases h
      | some u =>
       rw[hB]at h
       replace h:u.2=r':=by injection h
       subst h
       obtain⟨h1,-,h3⟩:=HOB.out.2 u.1 u.2 hB
       exact⟨.app acc u.1,f1,by omega,h1,h3,HY6.out u.1 u.2 hB⟩
end Go.Proofs.YtknkclefoiohpaaGreatDoor

namespace Go.Proofs.YtknkclefoiohpaaGreatDoor
open Go.RowKit Lx Tx Sx
theorem r8_all(ts:List Tok)(v:Value)(hG:AllG ts)(hn:ts.length<=100000):∀f,Rd8 ts v f/\At8 ts v f:=by
 have a0:At8 ts v 0:=by
  intro f1 h1 w p z hv hp hf
  cases p with
  | none=>exact r8_atom 0 ts v hG hn w none z (λr h=>by cases h) hv hp (λr h=>by cases h)
  | some r=>have:=hf r rfl;omega
 have rn:∀(w:World) (z:Int),RdT w v ts->PAt ts none z->Calls Tryz.prog 44 #[v,.int .i64 z] w (XP8 ts w none):=λw z hv hp =>
  r8_read_app 0 ts v hG hn a0 w none z hv hp rfl rfl rfl (λr h=>by cases h)
 intro f
 induction f with
 | zero =>
  refine⟨?_,a0⟩
  intro f1 h1 w p z hv hp hf
  cases p with
  | none=>exact rn w z hv hp
  | some r=>have:=hf r rfl;omega
 | succ f ih =>
  obtain⟨ihR,ihA⟩:=ih
  refine⟨?_,?_⟩
  ·intro f1 h1 w p z hv hp hf
   by_cases h:f1<=f
   ·exact ihR f1 h w p z hv hp hf
   ·obtain rfl:f1=f+1:=by omega
    cases hP:p with
    | none=>rw[hP]at hp;exact rn w z hv hp
    | some r =>
     rw[hP]at hp hf
     rcases hp with⟨h',-⟩|⟨i,hi,rfl,hr⟩
     ·cases h'
     ·injection hr with hr
      subst hr
      rw[Option.bind_some]
      have hl:=hf _ rfl
      obtain⟨g,rfl⟩:∃g,f=g+2:=⟨f-2,by omega⟩
      cases q1:isO 6 [92] (some (ts.drop i)) with
      | true=>exact r8_read_lam (g+2) ts v hn ihR w i hv q1 hl
      | false =>
       cases q2:isO 3 wLet (some (ts.drop i)) with
       | true=>exact r8_read_let (g+1) ts v hG hn ihR w i hv q2 hl
       | false =>
        cases q3:isO 3 wCase (some (ts.drop i)) with
        | true=>exact r8_read_cs g ts v hG hn ihR w i hv q3 hl
        | false=>exact r8_read_app (g+1) ts v hG hn (λf2 h2=>ihA f2 (by omega)) w (some (ts.drop i)) (i:Nat) hv (PAt.some_ ts i hi) q1 q2 q3 hf
  ·intro f1 h1 w p z hv hp hf
   by_cases h:f1<=f
   ·exact ihA f1 h w p z hv hp hf
   ·obtain rfl:f1=f+1:=by omega
    exact r8_atom f ts v hG hn w p z (λ_ _=>ihR) hv hp hf
theorem r8_read(ts:List Tok)(v:Value)(w:World)(hG:AllG ts)(hn:ts.length<=100000)(hv:RdT w v ts):Calls Tryz.prog 44 #[v,.int .i64 0] w (XP8 ts w (rdE (enoughE ts) ts)):=by
 have:=(r8_all ts v hG hn (enoughE ts)).1 (enoughE ts) (Nat.le_refl _) w (some ts) 0 hv (.inr ⟨0,Nat.zero_le _,rfl,by rw[List.drop_zero]⟩) (λr h=>by injection h with h;subst h;unfold enoughE;omega)
 rwa [Option.bind_some]at this
end Go.Proofs.YtknkclefoiohpaaGreatDoor
