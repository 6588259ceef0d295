/-
  Contracts of the code's functions, part 26.
-/
import Derived.Test.YtmbmjneibkihkaaGreatDoorDaY
import Derived.Test.YtmbmjneibkihkaaGreatDoorDaW
import Derived.Test.YtmbmjneibkihkaaGreatDoorDaX
namespace Go.Proofs.YtmbmjneibkihkaaGreatDoor
open Go.RowKit Lx Tx Sx
set_option maxRecDepth 100000
def letJ(f:Nat)(x:Nm)(t:Option Ty):Option (Ex × List Tok)->Option (Ex × List Tok)
 | none=>none
 | some y=>if isHd y.2 3 wIn=true then(rdE f y.2.tail).map λz=>(.lt x t y.1 z.1,z.2) else none
theorem letG_eq(f:Nat)(x:Nm)(t:Option Ty)(r:List Tok):letG f x t r=if isHd r 6 [61]=true then letJ f x t (rdE f r.tail) else none:=by
 rw[letG]
 by_cases h:isHd r 6 [61]=true
 ·simp only[if_pos h]
  cases rdE f r.tail <;> rfl
 ·simp only[if_neg h]
def letT(f:Nat)(x:Nm):Option (Ty × List Tok)->Option (Ex × List Tok)
 | none=>none
 | some y=>letG f x (some y.1) y.2
def letN(f:Nat)(x:Nm)(r:List Tok):Option (Ex × List Tok):=if isHd r 6 [58]=true then letT f x (typ r.tail) else letG f x none r
theorem letF_eq(f:Nat)(l:List Tok):letF f l=if(hd l).kind=1 then letN f (hd l).text l.tail else none:=by
 rw[letF]
 by_cases h:(hd l).kind=1
 ·simp only[if_pos h,letN]
  by_cases h1:isHd l.tail 6 [58]=true
  ·simp only[if_pos h1]
   cases typ l.tail.tail <;> rfl
  ·simp only[if_neg h1]
 ·simp only[if_neg h]
def TyL(S:Nat->Prop)(w:World)(o:Option Ty)(vs:List Value):Prop:=∃TA ta,tyC o TA ta=vs/\TyA S w o TA
theorem TyL.keep {S S':Nat->Prop} {w w':World} {o:Option Ty} {vs:List Value}(h:TyL S w o vs)(hS:∀g,S g->S' g)(hk:∀g,S g->w'.heap[g]? = w.heap[g]?):TyL S' w' o vs:=by
 obtain⟨TA,ta,h1,h2⟩:=h
 exact⟨TA,ta,h1,h2.keep hS hk⟩
set_option maxHeartbeats 12800000 in
theorem sx_let(f:Nat)(S:Nat->Prop)(b:Nat)(l:List Tok)(w:World)(h:RdrS S w b l)(hS:∀g,S g->g≠b/\g<w.heap.size)(hG:AllG l)(hl:l.length<=100000)(hf:3*l.length<=f)
  (IH:GReads pcE shE S b 50 3 rdE f) :
  Calls Tryz.prog 104 #[.pointer (some ⟨b,0,none⟩)] w (GPost pcE shE S b w (letF f l)):=by
 have hbl:=h.lt
 have hV:=sx_variableR S b l (w.alloc (.cells #[.int .i64 5,.string ⟨#[]⟩,.bool false,.int .i64 0,.string ⟨#[]⟩,.int .i64 0,.slice none 0 0,.slice none 0 0,.slice none 0 0] 39)) (h.alloc _ (λg hg=>(hS g hg).2)) (λg hg=>⟨(hS g hg).1,by have:=(hS g hg).2;simp;omega⟩) hl
 obtain⟨M,hM⟩:∃M,letF f l=M:=⟨_,rfl⟩
 rw[hM]
 rw[letF_eq]at hM
 obtain⟨q,hq⟩:∃q,((hd l).kind==1)=q:=⟨_,rfl⟩
 rw[hq]at hV
 obtain⟨X,hX⟩:∃X,anyT l 1=X:=⟨_,rfl⟩
 obtain⟨r2,hr2⟩:∃x,anyR l 1=x:=⟨_,rfl⟩
 rw[hX,hr2]at hV
 have HV:=hidE hV
 have HS:=hidE hS
 have HIH:=hidE IH
 have HM1:Hid (q=false/\M=none\/q=true/\M=letN f X.data.toList r2/\AllG r2/\r2.length<=100000/\3*r2.length+3<=f):=hidE (by
  cases q with
  | false =>
   have hk:¬(hd l).kind=1:=by simpa using hq
   rw[if_neg hk]at hM
   exact .inl ⟨rfl,hM.symm⟩
  | true =>
   have hk:(hd l).kind=1:=by simpa using hq
   have hX2:(hd l).text=X.data.toList:=by rw[<-hX,anyT,if_pos hk]
   have hr3:l.tail=r2:=by rw[<-hr2,anyR,if_pos hk]
   rw[if_pos hk,hX2,hr3]at hM
   obtain⟨l',e1,e2⟩:=hd_cons (l:=l) (by rw[hk];decide)
   rw[hr3]at e2
   have hln:r2.length+1=l.length:=by rw[e1,e2];rfl
   exact .inr ⟨rfl,hM.symm,by rw[<-hr3];exact AllG.tail' hG,by omega,by omega⟩)
 clear h hS hV hM hq hf IH hG hl hX hr2
 go_enter Tryz.func104,Tryz.ntmps104
 go_wp2_with fail
 refine HV.out.mono ?_
 rintro e w1 ⟨rfl,r1,c1⟩
 have hs1:=c1.size
 simp at hs1
 have hbk:Blk w1 w.heap.size 39 #[.int .i64 5,.string ⟨#[]⟩,.bool false,.int .i64 0,.string ⟨#[]⟩,.int .i64 0,.slice none 0 0,.slice none 0 0,.slice none 0 0]:=Blk.chgR (heap_alloc_new _ _) c1 (by unfold only;omega)
 obtain⟨⟨g0,g1,g2,g3,g4,g5,g6,g7,g8⟩,⟨z0,z1,z2,z3,z4,z5,z6,z7,z8⟩,hlg⟩:=blk_facts9 hbk
 obtain⟨W1,hW1⟩:∃W,w1.setCell ⟨w.heap.size,1,none⟩ (.string X)=W:=⟨_,rfl⟩
 have hs1':W1.heap.size=w1.heap.size:=by rw[<-hW1];simp
 have HB1:Hid (Blk W1 w.heap.size 39 #[.int .i64 5,.string X,.bool false,.int .i64 0,.string ⟨#[]⟩,.int .i64 0,.slice none 0 0,.slice none 0 0,.slice none 0 0]):=hidE (hW1▸heap_setCell_same _ _ 1 _ _ _ hbk)
 have HC1:Hid (ChR b w W1):=hidE (hW1▸c1.pre.setCell (.inl (Nat.le_refl _)) _)
 have hR1:RdrS S W1 b r2:=hW1▸r1.keep (Below.heap_setCell _ ⟨w.heap.size,1,none⟩ _ b (by intro e;simp at e;omega)) (λg hg=>Below.heap_setCell _ ⟨w.heap.size,1,none⟩ _ g (by intro e;simp at e;have:=(HS.out g hg).2;omega))
 have HR1:=hidE hR1
 clear hbk c1 r1 HV hR1
 go_upto_region 3 with fail
 try rw[hW1]
 clear hW1 g0 g1 g2 g3 g4 g5 g6 g7 g8 z0 z1 z2 z3 z4 z5 z6 z7 z8
 obtain⟨⟨g0,g1,g2,g3,g4,g5,g6,g7,g8⟩,⟨z0,z1,z2,z3,z4,z5,z6,z7,z8⟩,hlg⟩:=blk_facts9 HB1.out
 rcases HM1.out with⟨rfl,hM⟩|⟨rfl,hM,hG2,hL2,hL3⟩
 ·have HM:=hidE hM
  clear hM
  go_wp2_with fail
  try simp only[Exit.inBlock,Exit.then]
  refine bodyPost_ret (results_ct rfl _ _ w.heap.size 39 _ (0,0) _ rfl (blk_set9 _ _ _ _ _ _ _ _ _ HB1.out) Tryz.underlying39 rfl (by kernel_rfl)) rfl ?_
  exact⟨HC1.out.set9 _ _ _ _ _ _ _ _ _ (Nat.le_refl _),_,⟨_,_,_,_,_,_,_,_,_,_,_,_,_,_,_,rfl⟩,.inl ⟨HM.out,rfl⟩⟩
 ·have HM0:=hidE hM
  have HG2:=hidE hG2
  have HL2:Hid (r2.length<=100000/\3*r2.length+3<=f):=hidE ⟨hL2,hL3⟩
  have h2:=sx_signR S b r2 ⟨#[58]⟩ W1 HR1.out (λg hg=>⟨(HS.out g hg).1,by have:=(HS.out g hg).2;omega⟩) hL2
  rw[show(⟨#[58]⟩:ByteArray).data.toList=[58] from rfl,took]at h2
  obtain⟨q2,hq2⟩:∃q,isHd r2 6 [58]=q:=⟨_,rfl⟩
  rw[hq2]at h2
  have H2:=hidE h2
  have HQ2:=hidE hq2
  clear h2 hq2 hM hG2 hL2 hL3 HR1 g0 g1 g2 g3 g4 g5 g6 g7 g8 z0 z1 z2 z3 z4 z5 z6 z7 z8
  go_wp2_with fail
  refine H2.out.mono ?_
  rintro e w2 ⟨rfl,hr2,c2⟩
  have hs2:=c2.size
  have hbk:=HB1.out.chgR c2 (by unfold only;omega)
  obtain⟨⟨g0,g1,g2,g3,g4,g5,g6,g7,g8⟩,⟨z0,z1,z2,z3,z4,z5,z6,z7,z8⟩,hlg⟩:=blk_facts9 hbk
  obtain⟨W2,hW2⟩:∃W,w2.setCell ⟨w.heap.size,2,none⟩ (.bool q2)=W:=⟨_,rfl⟩
  have hs2':W2.heap.size=w2.heap.size:=by rw[<-hW2];simp
  have HBK:Hid (Blk W2 w.heap.size 39 #[.int .i64 5,.string X,.bool q2,.int .i64 0,.string ⟨#[]⟩,.int .i64 0,.slice none 0 0,.slice none 0 0,.slice none 0 0]):=hidE (hW2▸heap_setCell_same _ _ 2 _ _ _ hbk)
  have HCK:Hid (ChR b w W2):=hidE (hW2▸(HC1.out.trans c2).setCell (.inl (Nat.le_refl _)) _)
  have hR2:RdrS S W2 b (if q2=true then r2.tail else r2):=hW2▸hr2.keep (Below.heap_setCell _ ⟨w.heap.size,2,none⟩ _ b (by intro e;simp at e;omega)) (λg hg=>Below.heap_setCell _ ⟨w.heap.size,2,none⟩ _ g (by intro e;simp at e;have:=(HS.out g hg).2;omega))
  clear hbk c2 hr2 H2 HB1 HC1
  go_upto_region 6 with fail
  try rw[hW2]
  clear hW2 g0 g1 g2 g3 g4 g5 g6 g7 g8 z0 z1 z2 z3 z4 z5 z6 z7 z8
  obtain⟨⟨g0,g1,g2,g3,g4,g5,g6,g7,g8⟩,⟨z0,z1,z2,z3,z4,z5,z6,z7,z8⟩,hlg⟩:=blk_facts9 HBK.out
  cases q2 with
  | false =>
   rw[if_neg (by decide)]at hR2
   have HR:=hidE hR2
   have HM:Hid (M=letG f X.data.toList none r2):=hidE (by rw[HM0.out,letN,HQ2.out,if_neg (by decide)])
   have HTY:Hid (TyL (λg=>w.heap.size<g/\g<W2.heap.size) W2 none [.int .i64 0,.string ⟨#[]⟩,.int .i64 0,.slice none 0 0]):=hidE ⟨none,0,rfl,trivial⟩
   have HGR:=HG2
   have HL:=HL2
   clear hR2
   go_upto_region 10 with fail
   clear g0 g1 g2 g3 g4 g5 g6 g7 g8 z0 z1 z2 z3 z4 z5 z6 z7 z8
   have h10:=sx_signR S b r2 ⟨#[61]⟩ W2 HR.out (λg hg=>⟨(HS.out g hg).1,by have:=(HS.out g hg).2;omega⟩) (by have:=HL.out.1;omega)
   rw[show(⟨#[61]⟩:ByteArray).data.toList=[61] from rfl,took]at h10
   obtain⟨q3,hq3⟩:∃q,isHd r2 6 [61]=q:=⟨_,rfl⟩
   rw[hq3]at h10
   have H10:=hidE h10
   have HQ3:=hidE hq3
   clear h10 hq3
   go_wp2_with fail
   refine H10.out.mono ?_
   rintro e w4 ⟨rfl,hr4,c4⟩
   have hs4:=c4.size
   have HBK:=hidE (HBK.out.chgR c4 (by unfold only;omega))
   have HCK:=hidE (HCK.out.trans c4)
   have HTY:=hidE (HTY.out.keep (S':=λg=>w.heap.size<g/\g<W2.heap.size) (λg hg=>hg) (λg hg=>c4.block g hg.2 (by unfold only;omega)))
   obtain⟨⟨g0,g1,g2,g3,g4,g5,g6,g7,g8⟩,⟨z0,z1,z2,z3,z4,z5,z6,z7,z8⟩,hlg⟩:=blk_facts9 HBK.out
   clear c4 H10
   cases q3 with
   | false =>
    have HM2:Hid (M=none):=hidE (by rw[HM.out,letG_eq,HQ3.out,if_neg (by decide)])
    clear hr4
    go_wp2_with fail
    try simp only[Exit.inBlock,Exit.then]
    refine bodyPost_ret (results_ct rfl _ _ w.heap.size 39 _ (0,0) _ rfl (blk_set9 _ _ _ _ _ _ _ _ _ HBK.out) Tryz.underlying39 rfl (by kernel_rfl)) rfl ?_
    exact⟨HCK.out.set9 _ _ _ _ _ _ _ _ _ (Nat.le_refl _),_,⟨_,_,_,_,_,_,_,_,_,_,_,_,_,_,_,rfl⟩,.inl ⟨HM2.out,rfl⟩⟩
   | true =>
    rw[if_pos rfl]at hr4
    obtain⟨t0,r0,e0,-,-⟩:=isHd_ne r2 6 [61] (by decide) HQ3.out
    have hG1:AllG r2.tail:=AllG.tail' HGR.out
    have hL1:r2.tail.length<=100000/\3*r2.tail.length+3<=f:=by have:=HL.out;rw[e0]at this ⊢;simp at this ⊢;omega
    have hE:=HIH.out w4 r2.tail hr4 (λg hg=>⟨(HS.out g hg).1,by have:=(HS.out g hg).2;omega⟩) hG1 hL1.1 hL1.2
    obtain⟨O,hO⟩:∃O,rdE f r2.tail=O:=⟨_,rfl⟩
    have HM2:Hid (M=letJ f X.data.toList (none) O):=hidE (by rw[HM.out,letG_eq,HQ3.out,if_pos rfl,hO])
    rw[hO]at hE
    have HE:=hidE hE
    have HO:=hidE hO
    have HG1:=hidE hG1
    have HL1:=hidE hL1
    clear hr4 e0 hE hO hG1 hL1 g0 g1 g2 g3 g4 g5 g6 g7 g8 z0 z1 z2 z3 z4 z5 z6 z7 z8
    go_wp2_with fail
    refine HE.out.mono ?_
    rintro e w5 ⟨c5,cs,hsh,hcs⟩
    obtain⟨ck,cx,ct,cK,cX,cZ,cB,cm,cq,cKA,ckn,ckc,cLA,cln,clc,rfl⟩:=hsh
    have hs5:=c5.size
    have hb5:=HBK.out.chgR c5 (by unfold only;omega)
    obtain⟨W5,hW5⟩:∃V,w5.alloc (.cells #[.int .i64 ck,.string cx,.bool ct,.int .i64 cK,.string cX,.int .i64 cZ,.slice cB cm cq,.slice cKA ckn ckc,.slice cLA cln clc] 39)=V:=⟨_,rfl⟩
    have hbw:Below w5.heap.size w5 W5:=hW5▸(Below.refl _ w5).alloc (Nat.le_refl _) _
    have hsW5:W5.heap.size=w5.heap.size+1:=by rw[<-hW5];simp
    have HB4:Hid (Blk W5 w5.heap.size 39 #[.int .i64 ck,.string cx,.bool ct,.int .i64 cK,.string cX,.int .i64 cZ,.slice cB cm cq,.slice cKA ckn ckc,.slice cLA cln clc]):=hidE (hW5▸heap_alloc_new _ _)
    have HBK:=hidE (show Blk W5 w.heap.size 39 #[.int .i64 5,.string X,.bool false,.int .i64 0,.string ⟨#[]⟩,.int .i64 0,.slice none 0 0,.slice none 0 0,.slice none 0 0] from(hbw.block _ hb5.lt).trans hb5)
    have HCK:=hidE ((HCK.out.trans c5).below hbw)
    have HTY:=hidE (HTY.out.keep (S':=λg=>w.heap.size<g/\g<W2.heap.size) (λg hg=>hg) (λg hg=>(hbw.block g (by omega)).trans (c5.block g (by omega) (by unfold only;omega))))
    have HBW:=hidE hbw
    clear hb5 c5 HE hbw
    rcases hcs with⟨ho,rfl⟩|⟨y,rb,ho,rfl,hrd,hrr⟩
    ·subst ho
     go_upto_region 13 with fail
     try rw[hW5]
     clear hW5
     obtain⟨⟨g0,g1,g2,g3,g4,g5,g6,g7,g8⟩,⟨z0,z1,z2,z3,z4,z5,z6,z7,z8⟩,hlg⟩:=blk_facts9 HBK.out
     go_wp2_with fail
     try simp only[Exit.inBlock,Exit.then]
     refine bodyPost_ret (results_ct rfl _ _ w.heap.size 39 _ (0,0) _ rfl (blk_set9 _ _ _ _ _ _ _ _ _ HBK.out) Tryz.underlying39 rfl (by kernel_rfl)) rfl ?_
     exact⟨HCK.out.set9 _ _ _ _ _ _ _ _ _ (Nat.le_refl _),_,⟨_,_,_,_,_,_,_,_,_,_,_,_,_,_,_,rfl⟩,.inl ⟨HM2.out,rfl⟩⟩
    ·subst ho
     have hg2:=rdE_len f r2.tail y rb HG1.out HO.out
     have hRW:=hrr.below HBW.out (λg hg=>by have:=(HS.out g hg).2;omega)
     have HX:=hidE (pcE.keep (S':=λg=>w.heap.size<g/\g<w5.heap.size) (λg hg=>⟨by omega,hg.2⟩) (λg hg=>HBW.out.block g hg.2) hrd)
     have hSG:=sx_wordR S b rb ⟨#[105,110]⟩ W5 hRW (λg hg=>⟨(HS.out g hg).1,by have:=(HS.out g hg).2;omega⟩) (by have:=hg2.2;have:=HL1.out.1;omega)
     obtain⟨q4,hq4⟩:∃q,isHd rb 3 wIn=q:=⟨_,rfl⟩
     rw[show(⟨#[105,110]⟩:ByteArray).data.toList=wIn from rfl,took,hq4]at hSG
     have HSG:=hidE hSG
     have HG2:=hidE hg2
     have HQ4:=hidE hq4
     clear hSG hrd hrr hq4 hg2 hRW
     go_upto_region 13 with fail
     try rw[hW5]
     clear hW5
     go_wp2_with fail
     refine HSG.out.mono ?_
     rintro e w6 ⟨rfl,hr6,c6⟩
     have hs6:=c6.size
     have HX:=hidE (pcE.keep (S':=λg=>w.heap.size<g/\g<w5.heap.size) (λg hg=>hg) (λg hg=>c6.block g (by omega) (by unfold only;omega)) HX.out)
     have HB4:=hidE (HB4.out.chgR c6 (by unfold only;omega))
     have HBK:=hidE (HBK.out.chgR c6 (by unfold only;omega))
     have HCK:=hidE (HCK.out.trans c6)
     have HTY:=hidE (HTY.out.keep (S':=λg=>w.heap.size<g/\g<W2.heap.size) (λg hg=>hg) (λg hg=>c6.block g (by omega) (by unfold only;omega)))
     obtain⟨⟨g0,g1,g2,g3,g4,g5,g6,g7,g8⟩,⟨z0,z1,z2,z3,z4,z5,z6,z7,z8⟩,hlg⟩:=blk_facts9 HBK.out
     clear c6 HSG HBW
     cases q4 with
     | false =>
      have HM3:Hid (M=none):=hidE (by rw[HM2.out,letJ,HQ4.out,if_neg (by decide)])
      clear hr6
      go_wp2_with fail
      try simp only[Exit.inBlock,Exit.then]
      refine bodyPost_ret (results_ct rfl _ _ w.heap.size 39 _ (0,0) _ rfl (blk_set9 _ _ _ _ _ _ _ _ _ HBK.out) Tryz.underlying39 rfl (by kernel_rfl)) rfl ?_
      exact⟨HCK.out.set9 _ _ _ _ _ _ _ _ _ (Nat.le_refl _),_,⟨_,_,_,_,_,_,_,_,_,_,_,_,_,_,_,rfl⟩,.inl ⟨HM3.out,rfl⟩⟩
     | true =>
      rw[if_pos rfl]at hr6
      obtain⟨t1,r3,e3,-,-⟩:=isHd_ne rb 3 wIn (by decide) HQ4.out
      have hE:=HIH.out w6 rb.tail hr6 (λg hg=>⟨(HS.out g hg).1,by have:=(HS.out g hg).2;omega⟩) (AllG.tail' HG2.out.1) (by have:=HG2.out.2;have:=HL1.out;rw[e3]at *;simp at *;omega) (by have:=HG2.out.2;have:=HL1.out;rw[e3]at *;simp at *;omega)
      obtain⟨O3,hO3⟩:∃O,rdE f rb.tail=O:=⟨_,rfl⟩
      have HM3:Hid (M=O3.map λz=>(.lt X.data.toList (none) y z.1,z.2)):=hidE (by rw[HM2.out,letJ,HQ4.out,if_pos rfl,<-hO3])
      rw[hO3]at hE
      have HE:=hidE hE
      clear hr6 e3 hE hO3 g0 g1 g2 g3 g4 g5 g6 g7 g8 z0 z1 z2 z3 z4 z5 z6 z7 z8
      go_wp2_with fail
      refine HE.out.mono ?_
      rintro e w7 ⟨c7,cs,hsh,hcs⟩
      obtain⟨dk,dx,dt,dK,dX,dZ,dB,dm,dq,dKA,dkn,dkc,dLA,dln,dlc,rfl⟩:=hsh
      have hs7:=c7.size
      have HB4:=hidE (HB4.out.chgR c7 (by unfold only;omega))
      have hb7:=HBK.out.chgR c7 (by unfold only;omega)
      have HX:=hidE (pcE.keep (S':=λg=>w.heap.size<g/\g<w5.heap.size) (λg hg=>hg) (λg hg=>c7.block g (by omega) (by unfold only;omega)) HX.out)
      have HTY:=hidE (HTY.out.keep (S':=λg=>w.heap.size<g/\g<W2.heap.size) (λg hg=>hg) (λg hg=>c7.block g (by omega) (by unfold only;omega)))
      obtain⟨⟨f0,f1,f2,f3,f4,f5,f6,f7,f8⟩,-,hl4⟩:=blk_facts9 HB4.out
      obtain⟨⟨g0,g1,g2,g3,g4,g5,g6,g7,g8⟩,⟨z0,z1,z2,z3,z4,z5,z6,z7,z8⟩,hlg⟩:=blk_facts9 hb7
      obtain⟨W8,hW8⟩:∃V,((w7.setCell ⟨w.heap.size,7,none⟩ (.slice (some ⟨w7.heap.size+1,0,none⟩) 2 2)).alloc (.cells #[.int .i64 dk,.string dx,.bool dt,.int .i64 dK,.string dX,.int .i64 dZ,.slice dB dm dq,.slice dKA dkn dkc,.slice dLA dln dlc] 39)).alloc (.cells #[.int .i64 ck,.string cx,.bool ct,.int .i64 cK,.string cX,.int .i64 cZ,.slice cB cm cq,.slice cKA ckn ckc,.slice cLA cln clc,.int .i64 dk,.string dx,.bool dt,.int .i64 dK,.string dX,.int .i64 dZ,.slice dB dm dq,.slice dKA dkn dkc,.slice dLA dln dlc] 39)=V:=⟨_,rfl⟩
      have hfar:∀k,k<w7.heap.size->k≠w.heap.size->W8.heap[k]? = w7.heap[k]?:=λk h1 h2=>hW8▸(two_new _ _ _ k (by simp;exact h1)).trans (Below.heap_setCell _ ⟨w.heap.size,7,none⟩ _ k h2)
      have hsW8:W8.heap.size=w7.heap.size+2:=by rw[<-hW8];simp
      have HB8:Hid (Blk W8 w.heap.size 39 #[.int .i64 5,.string X,.bool false,.int .i64 0,.string ⟨#[]⟩,.int .i64 0,.slice none 0 0,.slice (some ⟨w7.heap.size+1,0,none⟩) 2 2,.slice none 0 0]):=hidE (hW8▸Blk.alloc (Blk.alloc (heap_setCell_same _ _ 7 _ _ _ hb7) _) _)
      have HNW:Hid (Blk W8 (w7.heap.size+1) 39 #[.int .i64 ck,.string cx,.bool ct,.int .i64 cK,.string cX,.int .i64 cZ,.slice cB cm cq,.slice cKA ckn ckc,.slice cLA cln clc,.int .i64 dk,.string dx,.bool dt,.int .i64 dK,.string dX,.int .i64 dZ,.slice dB dm dq,.slice dKA dkn dkc,.slice dLA dln dlc]):=hidE (hW8▸two_top _ _ _ _ (by simp))
      have HC8:Hid (ChR b w W8):=hidE (hW8▸((((HCK.out.trans c7).setCell (.inl (Nat.le_refl _)) _).alloc _).alloc _))
      have HX8:=hidE (pcE.keep (S':=λg=>w.heap.size<g/\g<w7.heap.size) (λg hg=>⟨hg.1,by omega⟩) (λg hg=>hfar g (by omega) (by omega)) HX.out)
      have HTY:=hidE (HTY.out.keep (S':=λg=>w.heap.size<g/\g<W2.heap.size) (λg hg=>hg) (λg hg=>hfar g (by omega) (by omega)))
      have hU:∃ok,e=.returned (.tuple #[.agg #[.int .i64 dk,.string dx,.bool dt,.int .i64 dK,.string dX,.int .i64 dZ,.slice dB dm dq,.slice dKA dkn dkc,.slice dLA dln dlc],.bool ok])/\((ok=false/\M=none)\/(ok=true/\∃z rz,M=some (.lt X.data.toList (none) y z,rz)/\pcE.Cs (λg=>w.heap.size<g/\g<w7.heap.size) W8 z [.int .i64 dk,.string dx,.bool dt,.int .i64 dK,.string dX,.int .i64 dZ,.slice dB dm dq,.slice dKA dkn dkc,.slice dLA dln dlc]/\RdrS S W8 b rz)):=by
       rcases hcs with⟨ho,he⟩|⟨z,rz,ho,he,hx,hr⟩
       ·exact⟨false,he,.inl ⟨rfl,by rw[HM3.out,ho];rfl⟩⟩
       ·exact⟨true,he,.inr ⟨rfl,z,rz,by rw[HM3.out,ho];rfl,pcE.keep (λg hg=>⟨by omega,hg.2⟩) (λg hg=>hfar g hg.2 (by omega)) hx,hr.keep (hfar b (by omega) (by omega)) (λk hk=>hfar k (by have:=(HS.out k hk).2;omega) (by have:=(HS.out k hk).2;omega))⟩⟩
      obtain⟨ok,rfl,hU⟩:=hU
      have HU:=hidE hU
      clear hU hcs HE c7 hb7 hfar
      go_upto_region 17 with fail
      try rw[hW8]
      clear hW8 f0 f1 f2 f3 f4 f5 f6 f7 f8 g0 g1 g2 g3 g4 g5 g6 g7 g8 z0 z1 z2 z3 z4 z5 z6 z7 z8
      obtain⟨⟨g0,g1,g2,g3,g4,g5,g6,g7,g8⟩,⟨z0,z1,z2,z3,z4,z5,z6,z7,z8⟩,hlg⟩:=blk_facts9 HB8.out
      go_wp2_with fail
      try simp only[Exit.inBlock,Exit.then]
      refine bodyPost_ret (results_ct rfl _ _ w.heap.size 39 _ (0,0) _ rfl (blk_set9 _ _ _ _ _ _ _ _ _ HB8.out) Tryz.underlying39 rfl (by kernel_rfl)) rfl ?_
      refine⟨HC8.out.set9 _ _ _ _ _ _ _ _ _ (Nat.le_refl _),[.int .i64 5,.string X,.bool false,.int .i64 0,.string ⟨#[]⟩,.int .i64 0,.slice none 0 0,.slice (some ⟨w7.heap.size+1,0,none⟩) 2 2,.slice none 0 0],⟨_,_,_,_,_,_,_,_,_,_,_,_,_,_,_,rfl⟩,?_⟩
      rcases HU.out with⟨rfl,hM⟩|⟨rfl,z,rz,hM,hz,hr⟩
      ·exact .inl ⟨hM,rfl⟩
      ·refine .inr ⟨_,rz,hM,rfl,?_,hr.keep (set9_far _ _ _ _ _ _ _ _ _ _ _ _ (by omega)) (λk hk=>set9_far _ _ _ _ _ _ _ _ _ _ _ _ (by have:=(HS.out k hk).2;omega))⟩
       obtain⟨TA,ta,hT1,hT2⟩:=HTY.out
       refine⟨⟨TA,ta,some ⟨w7.heap.size+1,0,none⟩,0,none,0⟩,by simp only[exC,tyE,hT1];simp[kdE,nmE,toE,kidsE,altsE,Sx.strV],hT2.keep (λg hg=>⟨by omega,by rw[size_set9];omega⟩) (λg hg=>set9_far _ _ _ _ _ _ _ _ _ _ _ _ (by omega)),?_⟩
       rw[ExIn]
       exact⟨_,rfl,⟨by omega,by rw[size_set9];omega⟩,kids_new HX8.out hz (λg hg=>⟨by omega,by rw[size_set9];omega⟩) (λk hk=>set9_far _ _ _ _ _ _ _ _ _ _ _ _ (by omega)) ((set9_far _ _ _ _ _ _ _ _ _ _ _ _ (by omega)).trans HNW.out)⟩
  | true =>
   rw[if_pos rfl]at hR2
   obtain⟨t9,r9,e9,-,-⟩:=isHd_ne r2 6 [58] (by decide) HQ2.out
   have hG9:AllG r2.tail:=AllG.tail' HG2.out
   have hL9:r2.tail.length<=100000/\3*r2.tail.length+3<=f:=by have:=HL2.out;rw[e9]at this ⊢;simp at this ⊢;omega
   have hT:=sx_whole S b r2.tail W2 hR2 (λg hg=>⟨(HS.out g hg).1,by have:=(HS.out g hg).2;omega⟩) hG9 hL9.1
   obtain⟨O9,hO9⟩:∃O,typ r2.tail=O:=⟨_,rfl⟩
   have HM9:Hid (M=letT f X.data.toList O9):=hidE (by rw[HM0.out,letN,HQ2.out,if_pos rfl,hO9])
   have HF9:Hid (∀t r,O9=some (t,r)->AllG r/\r.length<=100000/\3*r.length+3<=f):=hidE λt r h=>by
    obtain⟨-,h2,h3⟩:=typ_facts hG9 (hO9.trans h)
    exact⟨h2,by omega,by omega⟩
   rw[hO9]at hT
   have HT:=hidE hT
   clear hR2 e9 hG9 hL9 hT hO9
   go_upto_region 7 with fail
   clear g0 g1 g2 g3 g4 g5 g6 g7 g8 z0 z1 z2 z3 z4 z5 z6 z7 z8
   go_wp2_with fail
   refine HT.out.mono ?_
   rintro e w3 ⟨c3,tK,tX,tZ,tA,tm,tc,hcs⟩
   have hs3:=c3.size
   have hbk:=HBK.out.chgR c3 (by unfold only;omega)
   obtain⟨⟨g0,g1,g2,g3,g4,g5,g6,g7,g8⟩,⟨z0,z1,z2,z3,z4,z5,z6,z7,z8⟩,hlg⟩:=blk_facts9 hbk
   obtain⟨W3,hW3⟩:∃W,(((w3.setCell ⟨w.heap.size,3,none⟩ (.int .i64 tK)).setCell ⟨w.heap.size,4,none⟩ (.string tX)).setCell ⟨w.heap.size,5,none⟩ (.int .i64 tZ)).setCell ⟨w.heap.size,6,none⟩ (.slice tA tm tc)=W:=⟨_,rfl⟩
   have hsW3:W3.heap.size=w3.heap.size:=hW3▸size_so9_3 w3 w.heap.size _ _ _ _
   have hfar3:∀k,k≠w.heap.size->W3.heap[k]? = w3.heap[k]?:=λk hk=>hW3▸so9_3_far w3 w.heap.size k _ _ _ _ hk
   have HBK:Hid (Blk W3 w.heap.size 39 #[.int .i64 5,.string X,.bool true,.int .i64 tK,.string tX,.int .i64 tZ,.slice tA tm tc,.slice none 0 0,.slice none 0 0]):=hidE (hW3▸blk_so9_3 _ _ _ _ hbk)
   have HCK:Hid (ChR b w W3):=hidE (hW3▸(HCK.out.trans c3).so9_3 _ _ _ _ (Nat.le_refl _))
   have HFAR3:=hidE hfar3
   clear hbk c3 HT hfar3
   rcases hcs with⟨ho,rfl⟩|⟨t,r,ho,rfl,hrd,hrr⟩
   ·subst ho
    go_upto_region 8 with fail
    try rw[hW3]
    clear hW3 g0 g1 g2 g3 g4 g5 g6 g7 g8 z0 z1 z2 z3 z4 z5 z6 z7 z8
    obtain⟨⟨g0,g1,g2,g3,g4,g5,g6,g7,g8⟩,⟨z0,z1,z2,z3,z4,z5,z6,z7,z8⟩,hlg⟩:=blk_facts9 HBK.out
    go_wp2_with fail
    try simp only[Exit.inBlock,Exit.then]
    refine bodyPost_ret (results_ct rfl _ _ w.heap.size 39 _ (0,0) _ rfl (blk_set9 _ _ _ _ _ _ _ _ _ HBK.out) Tryz.underlying39 rfl (by kernel_rfl)) rfl ?_
    exact⟨HCK.out.set9 _ _ _ _ _ _ _ _ _ (Nat.le_refl _),_,⟨_,_,_,_,_,_,_,_,_,_,_,_,_,_,_,rfl⟩,.inl ⟨HM9.out,rfl⟩⟩
   ·subst ho
    obtain⟨hGr,hLr⟩:=HF9.out t r rfl
    have HM:Hid (M=letG f X.data.toList (some t) r):=hidE HM9.out
    have HGR:=hidE hGr
    have HL:=hidE hLr
    have HR:=hidE (hrr.keep (HFAR3.out b (by omega)) (λg hg=>HFAR3.out g (by have:=(HS.out g hg).2;omega)))
    have HTY:Hid (TyL (λg=>w.heap.size<g/\g<W3.heap.size) W3 (some t) [.int .i64 tK,.string tX,.int .i64 tZ,.slice tA tm tc]):=hidE (by
     obtain⟨A',a',hv',hA'⟩:=hrd
     injection hv' with hv'
     have hv':=congrArg Array.toList hv'
     simp only[List.cons.injEq,Value.int.injEq,Value.string.injEq,Value.slice.injEq,and_true,true_and]at hv'
     obtain⟨rfl,rfl,rfl,rfl,rfl,rfl⟩:=hv'
     exact⟨tA,tc,rfl,Args.keep (λg hg=>⟨by omega,by omega⟩) (λg hg=>HFAR3.out g (by omega)) _ _ hA'⟩)
    clear hrd hrr hGr hLr
    go_upto_region 8 with fail
    try rw[hW3]
    clear hW3 g0 g1 g2 g3 g4 g5 g6 g7 g8 z0 z1 z2 z3 z4 z5 z6 z7 z8
    go_upto_region 10 with fail
    have h10:=sx_signR S b r ⟨#[61]⟩ W3 HR.out (λg hg=>⟨(HS.out g hg).1,by have:=(HS.out g hg).2;omega⟩) (by have:=HL.out.1;omega)
    rw[show(⟨#[61]⟩:ByteArray).data.toList=[61] from rfl,took]at h10
    obtain⟨q3,hq3⟩:∃q,isHd r 6 [61]=q:=⟨_,rfl⟩
    rw[hq3]at h10
    have H10:=hidE h10
    have HQ3:=hidE hq3
    clear h10 hq3
    go_wp2_with fail
    refine H10.out.mono ?_
    rintro e w4 ⟨rfl,hr4,c4⟩
    have hs4:=c4.size
    have HBK:=hidE (HBK.out.chgR c4 (by unfold only;omega))
    have HCK:=hidE (HCK.out.trans c4)
    have HTY:=hidE (HTY.out.keep (S':=λg=>w.heap.size<g/\g<W3.heap.size) (λg hg=>hg) (λg hg=>c4.block g hg.2 (by unfold only;omega)))
    obtain⟨⟨g0,g1,g2,g3,g4,g5,g6,g7,g8⟩,⟨z0,z1,z2,z3,z4,z5,z6,z7,z8⟩,hlg⟩:=blk_facts9 HBK.out
    clear c4 H10
    cases q3 with
    | false =>
     have HM2:Hid (M=none):=hidE (by rw[HM.out,letG_eq,HQ3.out,if_neg (by decide)])
     clear hr4
     go_wp2_with fail
     try simp only[Exit.inBlock,Exit.then]
     refine bodyPost_ret (results_ct rfl _ _ w.heap.size 39 _ (0,0) _ rfl (blk_set9 _ _ _ _ _ _ _ _ _ HBK.out) Tryz.underlying39 rfl (by kernel_rfl)) rfl ?_
     exact⟨HCK.out.set9 _ _ _ _ _ _ _ _ _ (Nat.le_refl _),_,⟨_,_,_,_,_,_,_,_,_,_,_,_,_,_,_,rfl⟩,.inl ⟨HM2.out,rfl⟩⟩
    | true =>
     rw[if_pos rfl]at hr4
     obtain⟨t0,r0,e0,-,-⟩:=isHd_ne r 6 [61] (by decide) HQ3.out
     have hG1:AllG r.tail:=AllG.tail' HGR.out
     have hL1:r.tail.length<=100000/\3*r.tail.length+3<=f:=by have:=HL.out;rw[e0]at this ⊢;simp at this ⊢;omega
     have hE:=HIH.out w4 r.tail hr4 (λg hg=>⟨(HS.out g hg).1,by have:=(HS.out g hg).2;omega⟩) hG1 hL1.1 hL1.2
     obtain⟨O,hO⟩:∃O,rdE f r.tail=O:=⟨_,rfl⟩
     have HM2:Hid (M=letJ f X.data.toList (some t) O):=hidE (by rw[HM.out,letG_eq,HQ3.out,if_pos rfl,hO])
     rw[hO]at hE
     have HE:=hidE hE
     have HO:=hidE hO
     have HG1:=hidE hG1
     have HL1:=hidE hL1
     clear hr4 e0 hE hO hG1 hL1 g0 g1 g2 g3 g4 g5 g6 g7 g8 z0 z1 z2 z3 z4 z5 z6 z7 z8
     go_wp2_with fail
     refine HE.out.mono ?_
     rintro e w5 ⟨c5,cs,hsh,hcs⟩
     obtain⟨ck,cx,ct,cK,cX,cZ,cB,cm,cq,cKA,ckn,ckc,cLA,cln,clc,rfl⟩:=hsh
     have hs5:=c5.size
     have hb5:=HBK.out.chgR c5 (by unfold only;omega)
     obtain⟨W5,hW5⟩:∃V,w5.alloc (.cells #[.int .i64 ck,.string cx,.bool ct,.int .i64 cK,.string cX,.int .i64 cZ,.slice cB cm cq,.slice cKA ckn ckc,.slice cLA cln clc] 39)=V:=⟨_,rfl⟩
     have hbw:Below w5.heap.size w5 W5:=hW5▸(Below.refl _ w5).alloc (Nat.le_refl _) _
     have hsW5:W5.heap.size=w5.heap.size+1:=by rw[<-hW5];simp
     have HB4:Hid (Blk W5 w5.heap.size 39 #[.int .i64 ck,.string cx,.bool ct,.int .i64 cK,.string cX,.int .i64 cZ,.slice cB cm cq,.slice cKA ckn ckc,.slice cLA cln clc]):=hidE (hW5▸heap_alloc_new _ _)
     have HBK:=hidE (show Blk W5 w.heap.size 39 #[.int .i64 5,.string X,.bool true,.int .i64 tK,.string tX,.int .i64 tZ,.slice tA tm tc,.slice none 0 0,.slice none 0 0] from(hbw.block _ hb5.lt).trans hb5)
     have HCK:=hidE ((HCK.out.trans c5).below hbw)
     have HTY:=hidE (HTY.out.keep (S':=λg=>w.heap.size<g/\g<W3.heap.size) (λg hg=>hg) (λg hg=>(hbw.block g (by omega)).trans (c5.block g (by omega) (by unfold only;omega))))
     have HBW:=hidE hbw
     clear hb5 c5 HE hbw
     rcases hcs with⟨ho,rfl⟩|⟨y,rb,ho,rfl,hrd,hrr⟩
     ·subst ho
      go_upto_region 13 with fail
      try rw[hW5]
      clear hW5
      obtain⟨⟨g0,g1,g2,g3,g4,g5,g6,g7,g8⟩,⟨z0,z1,z2,z3,z4,z5,z6,z7,z8⟩,hlg⟩:=blk_facts9 HBK.out
      go_wp2_with fail
      try simp only[Exit.inBlock,Exit.then]
      refine bodyPost_ret (results_ct rfl _ _ w.heap.size 39 _ (0,0) _ rfl (blk_set9 _ _ _ _ _ _ _ _ _ HBK.out) Tryz.underlying39 rfl (by kernel_rfl)) rfl ?_
      exact⟨HCK.out.set9 _ _ _ _ _ _ _ _ _ (Nat.le_refl _),_,⟨_,_,_,_,_,_,_,_,_,_,_,_,_,_,_,rfl⟩,.inl ⟨HM2.out,rfl⟩⟩
     ·subst ho
      have hg2:=rdE_len f r.tail y rb HG1.out HO.out
      have hRW:=hrr.below HBW.out (λg hg=>by have:=(HS.out g hg).2;omega)
      have HX:=hidE (pcE.keep (S':=λg=>w.heap.size<g/\g<w5.heap.size) (λg hg=>⟨by omega,hg.2⟩) (λg hg=>HBW.out.block g hg.2) hrd)
      have hSG:=sx_wordR S b rb ⟨#[105,110]⟩ W5 hRW (λg hg=>⟨(HS.out g hg).1,by have:=(HS.out g hg).2;omega⟩) (by have:=hg2.2;have:=HL1.out.1;omega)
      obtain⟨q4,hq4⟩:∃q,isHd rb 3 wIn=q:=⟨_,rfl⟩
      rw[show(⟨#[105,110]⟩:ByteArray).data.toList=wIn from rfl,took,hq4]at hSG
      have HSG:=hidE hSG
      have HG2:=hidE hg2
      have HQ4:=hidE hq4
      clear hSG hrd hrr hq4 hg2 hRW
      go_upto_region 13 with fail
      try rw[hW5]
      clear hW5
      go_wp2_with fail
      refine HSG.out.mono ?_
      rintro e w6 ⟨rfl,hr6,c6⟩
      have hs6:=c6.size
      have HX:=hidE (pcE.keep (S':=λg=>w.heap.size<g/\g<w5.heap.size) (λg hg=>hg) (λg hg=>c6.block g (by omega) (by unfold only;omega)) HX.out)
      have HB4:=hidE (HB4.out.chgR c6 (by unfold only;omega))
      have HBK:=hidE (HBK.out.chgR c6 (by unfold only;omega))
      have HCK:=hidE (HCK.out.trans c6)
      have HTY:=hidE (HTY.out.keep (S':=λg=>w.heap.size<g/\g<W3.heap.size) (λg hg=>hg) (λg hg=>c6.block g (by omega) (by unfold only;omega)))
      obtain⟨⟨g0,g1,g2,g3,g4,g5,g6,g7,g8⟩,⟨z0,z1,z2,z3,z4,z5,z6,z7,z8⟩,hlg⟩:=blk_facts9 HBK.out
      clear c6 HSG HBW
      cases q4 with
      | false =>
       have HM3:Hid (M=none):=hidE (by rw[HM2.out,letJ,HQ4.out,if_neg (by decide)])
       clear hr6
       go_wp2_with fail
       try simp only[Exit.inBlock,Exit.then]
       refine bodyPost_ret (results_ct rfl _ _ w.heap.size 39 _ (0,0) _ rfl (blk_set9 _ _ _ _ _ _ _ _ _ HBK.out) Tryz.underlying39 rfl (by kernel_rfl)) rfl ?_
       exact⟨HCK.out.set9 _ _ _ _ _ _ _ _ _ (Nat.le_refl _),_,⟨_,_,_,_,_,_,_,_,_,_,_,_,_,_,_,rfl⟩,.inl ⟨HM3.out,rfl⟩⟩
      | true =>
       rw[if_pos rfl]at hr6
       obtain⟨t1,r3,e3,-,-⟩:=isHd_ne rb 3 wIn (by decide) HQ4.out
       have hE:=HIH.out w6 rb.tail hr6 (λg hg=>⟨(HS.out g hg).1,by have:=(HS.out g hg).2;omega⟩) (AllG.tail' HG2.out.1) (by have:=HG2.out.2;have:=HL1.out;rw[e3]at *;simp at *;omega) (by have:=HG2.out.2;have:=HL1.out;rw[e3]at *;simp at *;omega)
       obtain⟨O3,hO3⟩:∃O,rdE f rb.tail=O:=⟨_,rfl⟩
       have HM3:Hid (M=O3.map λz=>(.lt X.data.toList (some t) y z.1,z.2)):=hidE (by rw[HM2.out,letJ,HQ4.out,if_pos rfl,<-hO3])
       rw[hO3]at hE
       have HE:=hidE hE
       clear hr6 e3 hE hO3 g0 g1 g2 g3 g4 g5 g6 g7 g8 z0 z1 z2 z3 z4 z5 z6 z7 z8
       go_wp2_with fail
       refine HE.out.mono ?_
       rintro e w7 ⟨c7,cs,hsh,hcs⟩
       obtain⟨dk,dx,dt,dK,dX,dZ,dB,dm,dq,dKA,dkn,dkc,dLA,dln,dlc,rfl⟩:=hsh
       have hs7:=c7.size
       have HB4:=hidE (HB4.out.chgR c7 (by unfold only;omega))
       have hb7:=HBK.out.chgR c7 (by unfold only;omega)
       have HX:=hidE (pcE.keep (S':=λg=>w.heap.size<g/\g<w5.heap.size) (λg hg=>hg) (λg hg=>c7.block g (by omega) (by unfold only;omega)) HX.out)
       have HTY:=hidE (HTY.out.keep (S':=λg=>w.heap.size<g/\g<W3.heap.size) (λg hg=>hg) (λg hg=>c7.block g (by omega) (by unfold only;omega)))
       obtain⟨⟨f0,f1,f2,f3,f4,f5,f6,f7,f8⟩,-,hl4⟩:=blk_facts9 HB4.out
       obtain⟨⟨g0,g1,g2,g3,g4,g5,g6,g7,g8⟩,⟨z0,z1,z2,z3,z4,z5,z6,z7,z8⟩,hlg⟩:=blk_facts9 hb7
       obtain⟨W8,hW8⟩:∃V,((w7.setCell ⟨w.heap.size,7,none⟩ (.slice (some ⟨w7.heap.size+1,0,none⟩) 2 2)).alloc (.cells #[.int .i64 dk,.string dx,.bool dt,.int .i64 dK,.string dX,.int .i64 dZ,.slice dB dm dq,.slice dKA dkn dkc,.slice dLA dln dlc] 39)).alloc (.cells #[.int .i64 ck,.string cx,.bool ct,.int .i64 cK,.string cX,.int .i64 cZ,.slice cB cm cq,.slice cKA ckn ckc,.slice cLA cln clc,.int .i64 dk,.string dx,.bool dt,.int .i64 dK,.string dX,.int .i64 dZ,.slice dB dm dq,.slice dKA dkn dkc,.slice dLA dln dlc] 39)=V:=⟨_,rfl⟩
       have hfar:∀k,k<w7.heap.size->k≠w.heap.size->W8.heap[k]? = w7.heap[k]?:=λk h1 h2=>hW8▸(two_new _ _ _ k (by simp;exact h1)).trans (Below.heap_setCell _ ⟨w.heap.size,7,none⟩ _ k h2)
       have hsW8:W8.heap.size=w7.heap.size+2:=by rw[<-hW8];simp
       have HB8:Hid (Blk W8 w.heap.size 39 #[.int .i64 5,.string X,.bool true,.int .i64 tK,.string tX,.int .i64 tZ,.slice tA tm tc,.slice (some ⟨w7.heap.size+1,0,none⟩) 2 2,.slice none 0 0]):=hidE (hW8▸Blk.alloc (Blk.alloc (heap_setCell_same _ _ 7 _ _ _ hb7) _) _)
       have HNW:Hid (Blk W8 (w7.heap.size+1) 39 #[.int .i64 ck,.string cx,.bool ct,.int .i64 cK,.string cX,.int .i64 cZ,.slice cB cm cq,.slice cKA ckn ckc,.slice cLA cln clc,.int .i64 dk,.string dx,.bool dt,.int .i64 dK,.string dX,.int .i64 dZ,.slice dB dm dq,.slice dKA dkn dkc,.slice dLA dln dlc]):=hidE (hW8▸two_top _ _ _ _ (by simp))
       have HC8:Hid (ChR b w W8):=hidE (hW8▸((((HCK.out.trans c7).setCell (.inl (Nat.le_refl _)) _).alloc _).alloc _))
       have HX8:=hidE (pcE.keep (S':=λg=>w.heap.size<g/\g<w7.heap.size) (λg hg=>⟨hg.1,by omega⟩) (λg hg=>hfar g (by omega) (by omega)) HX.out)
       have HTY:=hidE (HTY.out.keep (S':=λg=>w.heap.size<g/\g<W3.heap.size) (λg hg=>hg) (λg hg=>hfar g (by omega) (by omega)))
       have hU:∃ok,e=.returned (.tuple #[.agg #[.int .i64 dk,.string dx,.bool dt,.int .i64 dK,.string dX,.int .i64 dZ,.slice dB dm dq,.slice dKA dkn dkc,.slice dLA dln dlc],.bool ok])/\((ok=false/\M=none)\/(ok=true/\∃z rz,M=some (.lt X.data.toList (some t) y z,rz)/\pcE.Cs (λg=>w.heap.size<g/\g<w7.heap.size) W8 z [.int .i64 dk,.string dx,.bool dt,.int .i64 dK,.string dX,.int .i64 dZ,.slice dB dm dq,.slice dKA dkn dkc,.slice dLA dln dlc]/\RdrS S W8 b rz)):=by
        rcases hcs with⟨ho,he⟩|⟨z,rz,ho,he,hx,hr⟩
        ·exact⟨false,he,.inl ⟨rfl,by rw[HM3.out,ho];rfl⟩⟩
        ·exact⟨true,he,.inr ⟨rfl,z,rz,by rw[HM3.out,ho];rfl,pcE.keep (λg hg=>⟨by omega,hg.2⟩) (λg hg=>hfar g hg.2 (by omega)) hx,hr.keep (hfar b (by omega) (by omega)) (λk hk=>hfar k (by have:=(HS.out k hk).2;omega) (by have:=(HS.out k hk).2;omega))⟩⟩
       obtain⟨ok,rfl,hU⟩:=hU
       have HU:=hidE hU
       clear hU hcs HE c7 hb7 hfar
       go_upto_region 17 with fail
       try rw[hW8]
       clear hW8 f0 f1 f2 f3 f4 f5 f6 f7 f8 g0 g1 g2 g3 g4 g5 g6 g7 g8 z0 z1 z2 z3 z4 z5 z6 z7 z8
       obtain⟨⟨g0,g1,g2,g3,g4,g5,g6,g7,g8⟩,⟨z0,z1,z2,z3,z4,z5,z6,z7,z8⟩,hlg⟩:=blk_facts9 HB8.out
       go_wp2_with fail
       try simp only[Exit.inBlock,Exit.then]
       refine bodyPost_ret (results_ct rfl _ _ w.heap.size 39 _ (0,0) _ rfl (blk_set9 _ _ _ _ _ _ _ _ _ HB8.out) Tryz.underlying39 rfl (by kernel_rfl)) rfl ?_
       refine⟨HC8.out.set9 _ _ _ _ _ _ _ _ _ (Nat.le_refl _),[.int .i64 5,.string X,.bool true,.int .i64 tK,.string tX,.int .i64 tZ,.slice tA tm tc,.slice (some ⟨w7.heap.size+1,0,none⟩) 2 2,.slice none 0 0],⟨_,_,_,_,_,_,_,_,_,_,_,_,_,_,_,rfl⟩,?_⟩
       rcases HU.out with⟨rfl,hM⟩|⟨rfl,z,rz,hM,hz,hr⟩
       ·exact .inl ⟨hM,rfl⟩
       ·refine .inr ⟨_,rz,hM,rfl,?_,hr.keep (set9_far _ _ _ _ _ _ _ _ _ _ _ _ (by omega)) (λk hk=>set9_far _ _ _ _ _ _ _ _ _ _ _ _ (by have:=(HS.out k hk).2;omega))⟩
        obtain⟨TA,ta,hT1,hT2⟩:=HTY.out
        refine⟨⟨TA,ta,some ⟨w7.heap.size+1,0,none⟩,0,none,0⟩,by simp only[exC,tyE,hT1];simp[kdE,nmE,toE,kidsE,altsE,Sx.strV],hT2.keep (λg hg=>⟨by omega,by rw[size_set9];omega⟩) (λg hg=>set9_far _ _ _ _ _ _ _ _ _ _ _ _ (by omega)),?_⟩
        rw[ExIn]
        exact⟨_,rfl,⟨by omega,by rw[size_set9];omega⟩,kids_new HX8.out hz (λg hg=>⟨by omega,by rw[size_set9];omega⟩) (λk hk=>set9_far _ _ _ _ _ _ _ _ _ _ _ _ (by omega)) ((set9_far _ _ _ _ _ _ _ _ _ _ _ _ (by omega)).trans HNW.out)⟩
end Go.Proofs.YtmbmjneibkihkaaGreatDoor

namespace Go.Proofs.YtmbmjneibkihkaaGreatDoor
open Go.RowKit Lx Tx Sx
set_option maxRecDepth 100000
set_option maxHeartbeats 3200000 in
theorem sx_lambda(f:Nat)(S:Nat->Prop)(b:Nat)(l:List Tok)(w:World)(h:RdrS S w b l)(hS:∀g,S g->g≠b/\g<w.heap.size)(hG:AllG l)(hl:l.length<=100000)(hf:3*l.length<=f)
  (IH:GReads pcE shE S b 50 3 rdE f) :
  Calls Tryz.prog 102 #[.pointer (some ⟨b,0,none⟩)] w (GPost pcE shE S b w (lamF f l)):=by
 have hbl:=h.lt
 have hV:=sx_variableR S b l (w.alloc (.cells exZ 39)) (h.alloc _ (λg hg=>(hS g hg).2)) (λg hg=>⟨(hS g hg).1,by have:=(hS g hg).2;simp;omega⟩) hl
 unfold exZ at hV
 obtain⟨M,hM⟩:∃M,lamF f l=M:=⟨_,rfl⟩
 rw[hM]
 rw[lamF_eq]at hM
 obtain⟨q,hq⟩:∃q,((hd l).kind==1)=q:=⟨_,rfl⟩
 rw[hq]at hV
 have HV:=hidE hV
 have HS:=hidE hS
 clear h hS hV
 cases q with
 | false =>
  have hk:¬(hd l).kind=1:=by simpa using hq
  rw[if_neg hk]at hM
  have HM:=hidE hM
  clear hk hq hf IH hG hl hM
  go_enter Tryz.func102,Tryz.ntmps102
  go_wp2_with fail
  refine HV.out.mono ?_
  rintro e w1 ⟨rfl,r1,c1⟩
  have hbk:Blk w1 w.heap.size 39 exZ:=Blk.chgR (heap_alloc_new _ _) c1 (by unfold only;omega)
  have hlw:=hbk.lt
  obtain⟨⟨g0,g1,g2,g3,g4,g5,g6,g7,g8⟩,z0,z1,z2,z3,z4,z5,z6,z7,z8⟩:=z9 hbk
  have HBK:=hidE hbk
  have HC:=hidE c1.pre
  clear hbk c1 r1 HV
  go_wp2_with fail
  try simp only[Exit.inBlock,Exit.then]
  refine bodyPost_ret (results_ct rfl _ _ w.heap.size 39 _ (0,0) _ rfl (blk_set9 _ _ _ _ _ _ _ _ _ HBK.out) Tryz.underlying39 rfl (by kernel_rfl)) rfl ?_
  exact⟨HC.out.set9 _ _ _ _ _ _ _ _ _ (Nat.le_refl _),_,⟨_,_,_,_,_,_,_,_,_,_,_,_,_,_,_,rfl⟩,.inl ⟨HM.out.symm,rfl⟩⟩
 | true =>
  have hk:(hd l).kind=1:=by simpa using hq
  rw[if_pos hk]at hM
  obtain⟨X,hX⟩:∃X,anyT l 1=X:=⟨_,rfl⟩
  obtain⟨r2,hr2⟩:∃x,anyR l 1=x:=⟨_,rfl⟩
  rw[hX,hr2]at HV
  have hX2:(hd l).text=X.data.toList:=by rw[<-hX,anyT,if_pos hk]
  have hr3:l.tail=r2:=by rw[<-hr2,anyR,if_pos hk]
  obtain⟨l',e1,e2⟩:=hd_cons (l:=l) (by rw[hk];decide)
  rw[hr3]at e2
  have hln:r2.length+1=l.length:=by rw[e1,e2];rfl
  have hG2:AllG r2:=by rw[<-hr3];exact AllG.tail' hG
  rw[hX2,hr3]at hM
  obtain⟨q2,hq2⟩:∃q,isHd r2 6 [45,62]=q:=⟨_,rfl⟩
  rw[hq2]at hM
  have hSG:=λ(W:World) (hr:RdrS S W b r2) (hw:w.heap.size<=W.heap.size)=>sx_signR S b r2 ⟨#[45,62]⟩ W hr (λg hg=>⟨(HS.out g hg).1,by have:=(HS.out g hg).2;omega⟩) (by omega)
  have eb:(⟨#[45,62]⟩:ByteArray).data.toList=[45,62]:=rfl
  rw[eb,hq2]at hSG
  unfold took at hSG
  rw[hq2]at hSG
  have HSG:=hidE hSG
  have HIH:=hidE IH
  have HLN:Hid (r2.length<=100000/\3*r2.length+3<=f):=hidE (by omega)
  have HG2:=hidE hG2
  have HQ2:=hidE hq2
  have HM:=hidE hM
  clear hk hq IH hG hl hf hX hr2 hX2 hr3 e1 e2 hln hG2 hq2 hSG eb hM
  go_enter Tryz.func102,Tryz.ntmps102
  go_wp2_with fail
  refine HV.out.mono ?_
  rintro e w1 ⟨rfl,r1,c1⟩
  have hbk:Blk w1 w.heap.size 39 exZ:=Blk.chgR (heap_alloc_new _ _) c1 (by unfold only;omega)
  have HBK:=hidE hbk
  have HC:=hidE c1.pre
  have hs1:=c1.size
  simp at hs1
  have HS1:=hidE (HSG.out w1 r1 (by omega))
  clear hbk c1 r1 HV HSG
  go_wp2_with fail
  refine HS1.out.mono ?_
  rintro e w2 ⟨rfl,r3,c2⟩
  have hs2:=c2.size
  have hbk:Blk w2 w.heap.size 39 exZ:=HBK.out.chgR c2 (by unfold only;omega)
  have HBK2:=hidE hbk
  have HC2:=hidE (HC.out.trans c2)
  have hlw:=hbk.lt
  obtain⟨⟨g0,g1,g2,g3,g4,g5,g6,g7,g8⟩,z0,z1,z2,z3,z4,z5,z6,z7,z8⟩:=z9 hbk
  clear hbk c2 HS1
  cases q2 with
  | false =>
   have HM2:Hid (M=none):=hidE (by rw[<-HM.out,if_neg (by decide)])
   clear r3
   go_wp2_with fail
   try simp only[Exit.inBlock,Exit.then]
   refine bodyPost_ret (results_ct rfl _ _ w.heap.size 39 _ (0,0) _ rfl (blk_set9 _ _ _ _ _ _ _ _ _ HBK2.out) Tryz.underlying39 rfl (by kernel_rfl)) rfl ?_
   exact⟨HC2.out.set9 _ _ _ _ _ _ _ _ _ (Nat.le_refl _),_,⟨_,_,_,_,_,_,_,_,_,_,_,_,_,_,_,rfl⟩,.inl ⟨HM2.out,rfl⟩⟩
  | true =>
   have HM2:Hid (M=(rdE f r2.tail).map λy=>(Ex.lam X.data.toList y.1,y.2)):=hidE (by rw[<-HM.out,if_pos rfl])
   rw[if_pos rfl]at r3
   clear g0 g1 g2 g3 g4 g5 g6 g7 g8 z0 z1 z2 z3 z4 z5 z6 z7 z8
   obtain⟨t0,r4,e4,-,-⟩:=isHd_ne r2 6 [45,62] (by decide) HQ2.out
   have hl4:r2.length=r4.length+1:=by rw[e4];rfl
   have HE:=hidE (HIH.out w2 r2.tail r3 (λg hg=>⟨(HS.out g hg).1,by have:=(HS.out g hg).2;omega⟩) (AllG.tail' HG2.out) (by have:=HLN.out.1;rw[e4,List.tail_cons];omega) (by have:=HLN.out.2;rw[e4,List.tail_cons];omega))
   obtain⟨O,hO⟩:∃O,rdE f r2.tail=O:=⟨_,rfl⟩
   rw[hO]at HE HM2
   clear r3 e4 hl4 hO
   go_wp2_with fail
   refine HE.out.mono ?_
   rintro e w3 ⟨c3,cs,hsh,hcs⟩
   obtain⟨ck,cx,ct,cK,cX,cZ,cB,cm,cq,cKA,ckn,ckc,cLA,cln,clc,rfl⟩:=hsh
   have hs3:=c3.size
   have hbk:Blk w3 w.heap.size 39 exZ:=HBK2.out.chgR c3 (by unfold only;omega)
   have HBK3:=hidE hbk
   have HC3:=hidE (HC2.out.trans c3)
   have hlw3:=hbk.lt
   obtain⟨⟨g0,g1,g2,g3,g4,g5,g6,g7,g8⟩,z0,z1,z2,z3,z4,z5,z6,z7,z8⟩:=z9 hbk
   clear hbk c3 HE
   rcases hcs with⟨ho,rfl⟩|⟨y,r5,ho,rfl,hrd,hrr⟩
   ·have HM3:Hid (M=none):=hidE (by rw[HM2.out,ho];rfl)
    clear ho
    go_wp2_with fail
    try simp only[Exit.inBlock,Exit.then]
    refine bodyPost_ret (results_ct rfl _ _ w.heap.size 39 _ (0,0) _ rfl (((blk_set9 _ _ _ _ _ _ _ _ _ HBK3.out).alloc _).alloc _) Tryz.underlying39 rfl (by kernel_rfl)) rfl ?_
    exact⟨((HC3.out.set9 _ _ _ _ _ _ _ _ _ (Nat.le_refl _)).alloc _).alloc _,_,⟨_,_,_,_,_,_,_,_,_,_,_,_,_,_,_,rfl⟩,.inl ⟨HM3.out,rfl⟩⟩
   ·have HM3:Hid (M=some (.lam X.data.toList y,r5)):=hidE (by rw[HM2.out,ho];rfl)
    have HRD:=hidE hrd
    have HRR:=hidE hrr
    clear ho hrd hrr
    go_wp2_with fail
    try simp only[Exit.inBlock,Exit.then]
    refine bodyPost_ret (results_ct rfl _ _ w.heap.size 39 _ (0,0) _ rfl (((blk_set9 _ _ _ _ _ _ _ _ _ HBK3.out).alloc _).alloc _) Tryz.underlying39 rfl (by kernel_rfl)) rfl ?_
    refine⟨((HC3.out.set9 _ _ _ _ _ _ _ _ _ (Nat.le_refl _)).alloc _).alloc _,_,⟨_,_,_,_,_,_,_,_,_,_,_,_,_,_,_,rfl⟩,.inr ⟨_,r5,HM3.out,rfl,?_,?_⟩⟩
    ·refine⟨⟨none,0,some ⟨w3.heap.size+1,0,none⟩,0,none,0⟩,by simp[exC,kdE,nmE,toE,tyE,tyC,kidsE,altsE,Sx.strV],trivial,?_⟩
     rw[ExIn]
     refine⟨_,rfl,⟨by omega,by simp⟩,kid_new HRD.out (λk hk=>⟨by omega,by simp;omega⟩) (λk hk=>?_) (two_top _ _ _ _ (size_set9 _ _ _ _ _ _ _ _ _ _ _))⟩
     exact(two_new _ _ _ k (by rw[size_set9];exact hk.2)).trans (set9_far _ _ _ _ _ _ _ _ _ _ _ _ (by omega))
    ·refine HRR.out.keep ?_ (λk hk=>?_)
     ·exact(two_new _ _ _ b (by rw[size_set9];omega)).trans (set9_far _ _ _ _ _ _ _ _ _ _ _ _ (by omega))
     ·have:=(HS.out k hk).2
      exact(two_new _ _ _ k (by rw[size_set9];omega)).trans (set9_far _ _ _ _ _ _ _ _ _ _ _ _ (by omega))
end Go.Proofs.YtmbmjneibkihkaaGreatDoor

namespace Go.Proofs.YtmbmjneibkihkaaGreatDoor
open Go.RowKit Lx Tx Sx
set_option maxRecDepth 100000
set_option maxHeartbeats 12800000 in
theorem sx_exprStep(f:Nat)(S:Nat->Prop)(b:Nat)(l:List Tok)(w:World)(h:RdrS S w b l)(hS:∀g,S g->g≠b/\g<w.heap.size)(hG:AllG l)(hl:l.length<=100000)(hf:3*l.length+3<=f+1)
  (IH:∀f1,f1<=f->GReads pcE shE S b 50 3 rdE f1) :
  Calls Tryz.prog 50 #[.pointer (some ⟨b,0,none⟩)] w (GPost pcE shE S b w (rdE (f+1) l)):=by
 have hbl:=h.lt
 obtain⟨M,hM⟩:∃M,rdE (f+1) l=M:=⟨_,rfl⟩
 rw[hM]
 have HM:=hidE hM
 have HS:=hidE hS
 have HG:=hidE hG
 have HIH:=hidE IH
 have HL:Hid (l.length<=100000/\3*l.length+3<=f+1):=hidE ⟨hl,hf⟩
 obtain⟨w0,hw0⟩:∃W,w.alloc (.cells exZ 39)=W:=⟨_,rfl⟩
 have hs0:w0.heap.size=w.heap.size+1:=by rw[<-hw0];simp
 have HBK:Hid (Blk w0 w.heap.size 39 exZ):=hidE (hw0▸heap_alloc_new _ _)
 have HC:Hid (ChR b w w0):=hidE (hw0▸(ChR.refl _ _).alloc _)
 have HR:Hid (RdrS S w0 b l):=hidE (hw0▸h.alloc _ (λg hg=>(hS g hg).2))
 unfold exZ at hw0
 clear h hS hM hG IH hl hf
 go_enter Tryz.func50,Tryz.ntmps50
 go_upto_region 1 with fail
 try rw[hw0]
 clear hw0
 have ht:=sx_signR S b l ⟨#[92]⟩ w0 HR.out (λg hg=>⟨(HS.out g hg).1,by have:=(HS.out g hg).2;omega⟩) HL.out.1
 rw[show(⟨#[92]⟩:ByteArray).data.toList=[92] from rfl,took]at ht
 obtain⟨q1,hq⟩:∃q,isHd l 6 [92]=q:=⟨_,rfl⟩
 rw[hq]at ht
 have HT1:=hidE ht
 have HQ1:=hidE hq
 clear ht hq
 go_wp2_with fail
 refine HT1.out.mono ?_
 rintro e w1 ⟨rfl,hr1,c1⟩
 have hs1:=c1.size
 try simp at hs1
 have HBK:=hidE (HBK.out.chgR c1 (by unfold only;omega))
 have HC:=hidE (HC.out.trans c1)
 clear c1 HT1
 cases q1 with
 | true =>
  rw[if_pos rfl]at hr1
  obtain⟨t0,r0,e0,-,-⟩:=isHd_ne l 6 [92] (by decide) HQ1.out
  have hG1:AllG l.tail:=AllG.tail' HG.out
  have hL1:l.tail.length<=100000/\3*l.tail.length+5<=f:=by have:=HL.out;rw[e0]at this ⊢;simp at this ⊢;omega
  have hS1:∀g,S g->g≠b/\g<w1.heap.size:=λg hg=>⟨(HS.out g hg).1,by have:=(HS.out g hg).2;omega⟩
  clear e0
  have HMP:Hid (M=lamF f l.tail):=hidE (by rw[<-HM.out,rdE_eq,HQ1.out,if_pos rfl])
  have hP:=sx_lambda f S b l.tail w1 hr1 hS1 hG1 hL1.1 (by omega) (HIH.out f (Nat.le_refl _))
  obtain⟨O,hO⟩:∃O,lamF f l.tail=O:=⟨_,rfl⟩
  rw[hO]at hP HMP
  have HP:=hidE hP
  clear hP hO hr1 hG1 hS1
  go_wp2_with fail
  refine HP.out.mono ?_
  rintro e w9 ⟨c9,cs,hsh,hcs⟩
  obtain⟨ck,cx,ct,cK,cX,cZ,cB,cm,cq,cKA,ckn,ckc,cLA,cln,clc,rfl⟩:=hsh
  have hs9:=c9.size
  have hbk:=HBK.out.chgR c9 (by unfold only;omega)
  have hlw:=hbk.lt
  obtain⟨⟨g0,g1,g2,g3,g4,g5,g6,g7,g8⟩,z0,z1,z2,z3,z4,z5,z6,z7,z8⟩:=z9 hbk
  have HBK3:=hidE hbk
  have HC3:=hidE (HC.out.trans c9)
  clear hbk c9 HP
  rcases hcs with⟨ho,rfl⟩|⟨y,r5,ho,rfl,hrd,hrr⟩
  ·have HM3:=hidE (HMP.out.trans ho)
   clear ho
   go_wp2_with fail
   try simp only[Exit.inBlock,Exit.then]
   refine bodyPost_ret (results_ct rfl _ _ w.heap.size 39 _ (0,0) _ rfl (blk_set9 _ _ _ _ _ _ _ _ _ HBK3.out) Tryz.underlying39 rfl (by kernel_rfl)) rfl ?_
   exact⟨HC3.out.set9 _ _ _ _ _ _ _ _ _ (Nat.le_refl _),_,⟨_,_,_,_,_,_,_,_,_,_,_,_,_,_,_,rfl⟩,.inl ⟨HM3.out,rfl⟩⟩
  ·have HM3:=hidE (HMP.out.trans ho)
   have HRD:=hidE hrd
   have HRR:=hidE hrr
   clear ho hrd hrr
   go_wp2_with fail
   try simp only[Exit.inBlock,Exit.then]
   refine bodyPost_ret (results_ct rfl _ _ w.heap.size 39 _ (0,0) _ rfl (blk_set9 _ _ _ _ _ _ _ _ _ HBK3.out) Tryz.underlying39 rfl (by kernel_rfl)) rfl ?_
   exact⟨HC3.out.set9 _ _ _ _ _ _ _ _ _ (Nat.le_refl _),_,⟨_,_,_,_,_,_,_,_,_,_,_,_,_,_,_,rfl⟩,.inr ⟨y,r5,HM3.out,rfl,
    pcE.keep (λg hg=>⟨by omega,by rw[size_set9];exact hg.2⟩) (λg hg=>set9_far _ _ _ _ _ _ _ _ _ _ _ _ (by omega)) HRD.out,HRR.out.keep (set9_far _ _ _ _ _ _ _ _ _ _ _ _ (by omega)) (λk hk=>set9_far _ _ _ _ _ _ _ _ _ _ _ _ (by have:=(HS.out k hk).2;omega))⟩⟩
 | false =>
  rw[if_neg (by decide)]at hr1
  have HR:=hidE hr1
  clear hr1
  have ht:=sx_wordR S b l ⟨#[108,101,116]⟩ w1 HR.out (λg hg=>⟨(HS.out g hg).1,by have:=(HS.out g hg).2;omega⟩) HL.out.1
  rw[show(⟨#[108,101,116]⟩:ByteArray).data.toList=wLet from rfl,took]at ht
  obtain⟨q2,hq⟩:∃q,isHd l 3 wLet=q:=⟨_,rfl⟩
  rw[hq]at ht
  have HT2:=hidE ht
  have HQ2:=hidE hq
  clear ht hq
  go_wp2_with fail
  refine HT2.out.mono ?_
  rintro e w2 ⟨rfl,hr2,c2⟩
  have hs2:=c2.size
  try simp at hs2
  have HBK:=hidE (HBK.out.chgR c2 (by unfold only;omega))
  have HC:=hidE (HC.out.trans c2)
  clear c2 HT2
  cases q2 with
  | true =>
   rw[if_pos rfl]at hr2
   obtain⟨t0,r0,e0,-,-⟩:=isHd_ne l 3 wLet (by decide) HQ2.out
   have hG1:AllG l.tail:=AllG.tail' HG.out
   have hL1:l.tail.length<=100000/\3*l.tail.length+5<=f:=by have:=HL.out;rw[e0]at this ⊢;simp at this ⊢;omega
   have hS1:∀g,S g->g≠b/\g<w2.heap.size:=λg hg=>⟨(HS.out g hg).1,by have:=(HS.out g hg).2;omega⟩
   clear e0
   obtain⟨g,hg⟩:∃g,f=g+1:=⟨f-1,by omega⟩
   have HMP:Hid (M=letF g l.tail):=hidE (by rw[<-HM.out,rdE_eq,HQ1.out,if_neg (by decide),HQ2.out,if_pos rfl,hg,rdLet_eq])
   have hP:=sx_let g S b l.tail w2 hr2 hS1 hG1 hL1.1 (by omega) (HIH.out g (by omega))
   obtain⟨O,hO⟩:∃O,letF g l.tail=O:=⟨_,rfl⟩
   rw[hO]at hP HMP
   have HP:=hidE hP
   clear hP hO hr2 hG1 hS1 hg
   go_wp2_with fail
   refine HP.out.mono ?_
   rintro e w9 ⟨c9,cs,hsh,hcs⟩
   obtain⟨ck,cx,ct,cK,cX,cZ,cB,cm,cq,cKA,ckn,ckc,cLA,cln,clc,rfl⟩:=hsh
   have hs9:=c9.size
   have hbk:=HBK.out.chgR c9 (by unfold only;omega)
   have hlw:=hbk.lt
   obtain⟨⟨g0,g1,g2,g3,g4,g5,g6,g7,g8⟩,z0,z1,z2,z3,z4,z5,z6,z7,z8⟩:=z9 hbk
   have HBK3:=hidE hbk
   have HC3:=hidE (HC.out.trans c9)
   clear hbk c9 HP
   rcases hcs with⟨ho,rfl⟩|⟨y,r5,ho,rfl,hrd,hrr⟩
   ·have HM3:=hidE (HMP.out.trans ho)
    clear ho
    go_wp2_with fail
    try simp only[Exit.inBlock,Exit.then]
    refine bodyPost_ret (results_ct rfl _ _ w.heap.size 39 _ (0,0) _ rfl (blk_set9 _ _ _ _ _ _ _ _ _ HBK3.out) Tryz.underlying39 rfl (by kernel_rfl)) rfl ?_
    exact⟨HC3.out.set9 _ _ _ _ _ _ _ _ _ (Nat.le_refl _),_,⟨_,_,_,_,_,_,_,_,_,_,_,_,_,_,_,rfl⟩,.inl ⟨HM3.out,rfl⟩⟩
   ·have HM3:=hidE (HMP.out.trans ho)
    have HRD:=hidE hrd
    have HRR:=hidE hrr
    clear ho hrd hrr
    go_wp2_with fail
    try simp only[Exit.inBlock,Exit.then]
    refine bodyPost_ret (results_ct rfl _ _ w.heap.size 39 _ (0,0) _ rfl (blk_set9 _ _ _ _ _ _ _ _ _ HBK3.out) Tryz.underlying39 rfl (by kernel_rfl)) rfl ?_
    exact⟨HC3.out.set9 _ _ _ _ _ _ _ _ _ (Nat.le_refl _),_,⟨_,_,_,_,_,_,_,_,_,_,_,_,_,_,_,rfl⟩,.inr ⟨y,r5,HM3.out,rfl,
     pcE.keep (λg hg=>⟨by omega,by rw[size_set9];exact hg.2⟩) (λg hg=>set9_far _ _ _ _ _ _ _ _ _ _ _ _ (by omega)) HRD.out,HRR.out.keep (set9_far _ _ _ _ _ _ _ _ _ _ _ _ (by omega)) (λk hk=>set9_far _ _ _ _ _ _ _ _ _ _ _ _ (by have:=(HS.out k hk).2;omega))⟩⟩
  | false =>
   rw[if_neg (by decide)]at hr2
   have HR:=hidE hr2
   clear hr2
   have ht:=sx_wordR S b l ⟨#[99,97,115,101]⟩ w2 HR.out (λg hg=>⟨(HS.out g hg).1,by have:=(HS.out g hg).2;omega⟩) HL.out.1
   rw[show(⟨#[99,97,115,101]⟩:ByteArray).data.toList=wCase from rfl,took]at ht
   obtain⟨q3,hq⟩:∃q,isHd l 3 wCase=q:=⟨_,rfl⟩
   rw[hq]at ht
   have HT3:=hidE ht
   have HQ3:=hidE hq
   clear ht hq
   go_wp2_with fail
   refine HT3.out.mono ?_
   rintro e w3 ⟨rfl,hr3,c3⟩
   have hs3:=c3.size
   try simp at hs3
   have HBK:=hidE (HBK.out.chgR c3 (by unfold only;omega))
   have HC:=hidE (HC.out.trans c3)
   clear c3 HT3
   cases q3 with
   | true =>
    rw[if_pos rfl]at hr3
    obtain⟨t0,r0,e0,-,-⟩:=isHd_ne l 3 wCase (by decide) HQ3.out
    have hG1:AllG l.tail:=AllG.tail' HG.out
    have hL1:l.tail.length<=100000/\3*l.tail.length+5<=f:=by have:=HL.out;rw[e0]at this ⊢;simp at this ⊢;omega
    have hS1:∀g,S g->g≠b/\g<w3.heap.size:=λg hg=>⟨(HS.out g hg).1,by have:=(HS.out g hg).2;omega⟩
    clear e0
    obtain⟨g,hg⟩:∃g,f=g+2:=⟨f-2,by omega⟩
    have HMP:Hid (M=choF g l.tail):=hidE (by rw[<-HM.out,rdE_eq,HQ1.out,if_neg (by decide),HQ2.out,if_neg (by decide),HQ3.out,if_pos rfl,hg,rdCase_eq])
    have hP:=sx_choice g S b l.tail w3 hr3 hS1 hG1 hL1.1 (by omega) (HIH.out (g+1) (by omega)) (λf1 hf1 W l1 hr hs hG hl hf=>sx_alternative f1 S b l1 W hr hs hG hl (by omega) (HIH.out f1 (by omega)))
    obtain⟨O,hO⟩:∃O,choF g l.tail=O:=⟨_,rfl⟩
    rw[hO]at hP HMP
    have HP:=hidE hP
    clear hP hO hr3 hG1 hS1 hg
    go_wp2_with fail
    refine HP.out.mono ?_
    rintro e w9 ⟨c9,cs,hsh,hcs⟩
    obtain⟨ck,cx,ct,cK,cX,cZ,cB,cm,cq,cKA,ckn,ckc,cLA,cln,clc,rfl⟩:=hsh
    have hs9:=c9.size
    have hbk:=HBK.out.chgR c9 (by unfold only;omega)
    have hlw:=hbk.lt
    obtain⟨⟨g0,g1,g2,g3,g4,g5,g6,g7,g8⟩,z0,z1,z2,z3,z4,z5,z6,z7,z8⟩:=z9 hbk
    have HBK3:=hidE hbk
    have HC3:=hidE (HC.out.trans c9)
    clear hbk c9 HP
    rcases hcs with⟨ho,rfl⟩|⟨y,r5,ho,rfl,hrd,hrr⟩
    ·have HM3:=hidE (HMP.out.trans ho)
     clear ho
     go_wp2_with fail
     try simp only[Exit.inBlock,Exit.then]
     refine bodyPost_ret (results_ct rfl _ _ w.heap.size 39 _ (0,0) _ rfl (blk_set9 _ _ _ _ _ _ _ _ _ HBK3.out) Tryz.underlying39 rfl (by kernel_rfl)) rfl ?_
     exact⟨HC3.out.set9 _ _ _ _ _ _ _ _ _ (Nat.le_refl _),_,⟨_,_,_,_,_,_,_,_,_,_,_,_,_,_,_,rfl⟩,.inl ⟨HM3.out,rfl⟩⟩
    ·have HM3:=hidE (HMP.out.trans ho)
     have HRD:=hidE hrd
     have HRR:=hidE hrr
     clear ho hrd hrr
     go_wp2_with fail
     try simp only[Exit.inBlock,Exit.then]
     refine bodyPost_ret (results_ct rfl _ _ w.heap.size 39 _ (0,0) _ rfl (blk_set9 _ _ _ _ _ _ _ _ _ HBK3.out) Tryz.underlying39 rfl (by kernel_rfl)) rfl ?_
     exact⟨HC3.out.set9 _ _ _ _ _ _ _ _ _ (Nat.le_refl _),_,⟨_,_,_,_,_,_,_,_,_,_,_,_,_,_,_,rfl⟩,.inr ⟨y,r5,HM3.out,rfl,
      pcE.keep (λg hg=>⟨by omega,by rw[size_set9];exact hg.2⟩) (λg hg=>set9_far _ _ _ _ _ _ _ _ _ _ _ _ (by omega)) HRD.out,HRR.out.keep (set9_far _ _ _ _ _ _ _ _ _ _ _ _ (by omega)) (λk hk=>set9_far _ _ _ _ _ _ _ _ _ _ _ _ (by have:=(HS.out k hk).2;omega))⟩⟩
   | false =>
    rw[if_neg (by decide)]at hr3
    have HR:=hidE hr3
    clear hr3
    obtain⟨g,hg⟩:∃g,f=g+1:=⟨f-1,by have:=HL.out;omega⟩
    have HMP:Hid (M=rdApp (g+1) l):=hidE (by rw[<-HM.out,rdE_eq,HQ1.out,if_neg (by decide),HQ2.out,if_neg (by decide),HQ3.out,if_neg (by decide),hg])
    have hP:=sx_application g S b l w3 HR.out (λg hg=>⟨(HS.out g hg).1,by have:=(HS.out g hg).2;omega⟩) HG.out HL.out.1 (by have:=HL.out;omega) (λf1 hf1 W l1 hr hs hG hl hf=>by
     obtain⟨k,rfl⟩:∃k,f1=k+1:=⟨f1-1,by omega⟩
     exact sx_atom k S b l1 W hr hs hG hl (by omega) (HIH.out k (by omega)))
    obtain⟨O,hO⟩:∃O,rdApp (g+1) l=O:=⟨_,rfl⟩
    rw[hO]at hP HMP
    have HP:=hidE hP
    clear hP hO hg
    go_wp2_with fail
    refine HP.out.mono ?_
    rintro e w9 ⟨c9,cs,hsh,hcs⟩
    obtain⟨ck,cx,ct,cK,cX,cZ,cB,cm,cq,cKA,ckn,ckc,cLA,cln,clc,rfl⟩:=hsh
    have hs9:=c9.size
    have hbk:=HBK.out.chgR c9 (by unfold only;omega)
    have hlw:=hbk.lt
    obtain⟨⟨g0,g1,g2,g3,g4,g5,g6,g7,g8⟩,z0,z1,z2,z3,z4,z5,z6,z7,z8⟩:=z9 hbk
    have HBK3:=hidE hbk
    have HC3:=hidE (HC.out.trans c9)
    clear hbk c9 HP
    rcases hcs with⟨ho,rfl⟩|⟨y,r5,ho,rfl,hrd,hrr⟩
    ·have HM3:=hidE (HMP.out.trans ho)
     clear ho
     go_wp2_with fail
     try simp only[Exit.inBlock,Exit.then]
     refine bodyPost_ret (results_ct rfl _ _ w.heap.size 39 _ (0,0) _ rfl (blk_set9 _ _ _ _ _ _ _ _ _ HBK3.out) Tryz.underlying39 rfl (by kernel_rfl)) rfl ?_
     exact⟨HC3.out.set9 _ _ _ _ _ _ _ _ _ (Nat.le_refl _),_,⟨_,_,_,_,_,_,_,_,_,_,_,_,_,_,_,rfl⟩,.inl ⟨HM3.out,rfl⟩⟩
    ·have HM3:=hidE (HMP.out.trans ho)
     have HRD:=hidE hrd
     have HRR:=hidE hrr
     clear ho hrd hrr
     go_wp2_with fail
     try simp only[Exit.inBlock,Exit.then]
     refine bodyPost_ret (results_ct rfl _ _ w.heap.size 39 _ (0,0) _ rfl (blk_set9 _ _ _ _ _ _ _ _ _ HBK3.out) Tryz.underlying39 rfl (by kernel_rfl)) rfl ?_
     exact⟨HC3.out.set9 _ _ _ _ _ _ _ _ _ (Nat.le_refl _),_,⟨_,_,_,_,_,_,_,_,_,_,_,_,_,_,_,rfl⟩,.inr ⟨y,r5,HM3.out,rfl,
      pcE.keep (λg hg=>⟨by omega,by rw[size_set9];exact hg.2⟩) (λg hg=>set9_far _ _ _ _ _ _ _ _ _ _ _ _ (by omega)) HRD.out,HRR.out.keep (set9_far _ _ _ _ _ _ _ _ _ _ _ _ (by omega)) (λk hk=>set9_far _ _ _ _ _ _ _ _ _ _ _ _ (by have:=(HS.out k hk).2;omega))⟩⟩
theorem sx_expr(S:Nat->Prop)(b:Nat)(f:Nat):GReads pcE shE S b 50 3 rdE f:=by
 induction f using Nat.strongRecOn with
 | _ f ih =>
  intro w l hr hS hG hl hf
  obtain⟨k,rfl⟩:∃k,f=k+1:=⟨f-1,by omega⟩
  exact sx_exprStep k S b l w hr hS hG hl hf (λf1 hf1=>ih f1 (by omega))
end Go.Proofs.YtmbmjneibkihkaaGreatDoor

namespace Go.Proofs.YtmbmjneibkihkaaGreatDoor
open Go.RowKit Lx Tx Sx
set_option maxRecDepth 100000
def conG(x:Nm)(r:List Tok):Option ((Nm × Ty) × List Tok):=if isHd r 6 [58]=true then(typ r.tail).map λy=>((x,y.1),y.2) else none
theorem conF_eq(l:List Tok):rdCon l=if(hd l).kind=2 then conG (hd l).text l.tail else none:=rdCon_eq l
theorem rdCon_len(l:List Tok)(x:Nm × Ty)(r:List Tok)(hG:AllG l)(h:rdCon l=some (x,r)):AllG r/\r.length<l.length:=by
 rw[conF_eq]at h
 by_cases hk:(hd l).kind=2
 ·rw[if_pos hk,conG]at h
  obtain⟨l',e1,e2⟩:=hd_cons (l:=l) (by rw[hk];decide)
  have hG2:AllG l.tail:=AllG.tail' hG
  have hln:l.tail.length+1=l.length:=by rw[e1];rfl
  by_cases h1:isHd l.tail 6 [58]=true
  ·rw[if_pos h1]at h
   cases ho:typ l.tail.tail with
   | none=>rw[ho]at h;cases h
   | some y =>
    obtain⟨t,r1⟩:=y
    rw[ho]at h
    simp only[Option.map_some,Option.some.injEq,Prod.mk.injEq]at h
    obtain⟨rfl,rfl⟩:=h
    obtain⟨-,g1,l1⟩:=typ_facts (AllG.tail' hG2) ho
    have:l.tail.tail.length<=l.tail.length:=by simp
    exact⟨g1,by omega⟩
  ·rw[if_neg h1]at h;cases h
 ·rw[if_neg hk]at h;cases h
set_option maxHeartbeats 6400000 in
theorem sx_con(S:Nat->Prop)(b:Nat)(l:List Tok)(w:World)(h:RdrS S w b l)(hS:∀g,S g->g≠b/\g<w.heap.size)(hG:AllG l)(hl:l.length<=100000) :
  Calls Tryz.prog 166 #[.pointer (some ⟨b,0,none⟩)] w (GPost pcC shC S b w (rdCon l)):=by
 have hbl:=h.lt
 have hV:=sx_takeAnyR S b l 2 2 rfl (w.alloc (.cells #[.string ⟨#[]⟩,.int .i64 0,.string ⟨#[]⟩,.int .i64 0,.slice none 0 0] 61)) (h.alloc _ (λg hg=>(hS g hg).2)) (λg hg=>⟨(hS g hg).1,by have:=(hS g hg).2;simp;omega⟩) hl (by decide)
 obtain⟨M,hM⟩:∃M,rdCon l=M:=⟨_,rfl⟩
 rw[hM]
 rw[conF_eq]at hM
 obtain⟨q,hq⟩:∃q,((hd l).kind==2)=q:=⟨_,rfl⟩
 rw[hq]at hV
 obtain⟨X,hX⟩:∃X,anyT l 2=X:=⟨_,rfl⟩
 obtain⟨r2,hr2⟩:∃x,anyR l 2=x:=⟨_,rfl⟩
 rw[hX,hr2]at hV
 have HV:=hidE hV
 have HS:=hidE hS
 have HM1:Hid (q=false/\M=none\/q=true/\M=conG X.data.toList r2/\AllG r2/\r2.length<=100000):=hidE (by
  cases q with
  | false =>
   have hk:¬(hd l).kind=2:=by simpa using hq
   rw[if_neg hk]at hM
   exact .inl ⟨rfl,hM.symm⟩
  | true =>
   have hk:(hd l).kind=2:=by simpa using hq
   have hX2:(hd l).text=X.data.toList:=by rw[<-hX,anyT,if_pos hk]
   have hr3:l.tail=r2:=by rw[<-hr2,anyR,if_pos hk]
   rw[if_pos hk,hX2,hr3]at hM
   have:r2.length<=l.length:=by rw[<-hr3];simp
   exact .inr ⟨rfl,hM.symm,by rw[<-hr3];exact AllG.tail' hG,by omega⟩)
 clear h hS hV hM hq hG hl hX hr2
 go_enter Tryz.func166,Tryz.ntmps166
 go_wp2_with fail
 refine HV.out.mono ?_
 rintro e w1 ⟨rfl,r1,c1⟩
 have hs1:=c1.size
 simp at hs1
 have hbk:Blk w1 w.heap.size 61 #[.string ⟨#[]⟩,.int .i64 0,.string ⟨#[]⟩,.int .i64 0,.slice none 0 0]:=Blk.chgR (heap_alloc_new _ _) c1 (by unfold only;omega)
 obtain⟨⟨g0,g1,g2,g3,g4⟩,⟨z0,z1,z2,z3,z4⟩,hlg⟩:=blk_facts5 hbk
 obtain⟨W1,hW1⟩:∃W,w1.setCell ⟨w.heap.size,0,none⟩ (.string X)=W:=⟨_,rfl⟩
 have hs1':W1.heap.size=w1.heap.size:=by rw[<-hW1];simp
 have HB1:Hid (Blk W1 w.heap.size 61 #[.string X,.int .i64 0,.string ⟨#[]⟩,.int .i64 0,.slice none 0 0]):=hidE (hW1▸heap_setCell_same _ _ 0 _ _ _ hbk)
 have HC1:Hid (ChR b w W1):=hidE (hW1▸c1.pre.setCell (.inl (Nat.le_refl _)) _)
 have HR1:=hidE (show RdrS S W1 b r2 from hW1▸r1.keep (Below.heap_setCell _ ⟨w.heap.size,0,none⟩ _ b (by intro e;simp at e;omega)) (λg hg=>Below.heap_setCell _ ⟨w.heap.size,0,none⟩ _ g (by intro e;simp at e;have:=(HS.out g hg).2;omega)))
 clear hbk c1 r1 HV
 go_upto_region 2 with fail
 try rw[hW1]
 clear hW1 g0 g1 g2 g3 g4 z0 z1 z2 z3 z4
 obtain⟨⟨g0,g1,g2,g3,g4⟩,⟨z0,z1,z2,z3,z4⟩,hlg⟩:=blk_facts5 HB1.out
 rcases HM1.out with⟨rfl,hM⟩|⟨rfl,hM,hG2,hL2⟩
 ·have HM:=hidE hM
  clear hM
  go_wp2_with fail
  try simp only[Exit.inBlock,Exit.then]
  refine bodyPost_ret (results_ct rfl _ _ w.heap.size 61 _ (0,0) _ rfl (blk_set5 _ _ _ _ _ HB1.out) Tryz.underlying61 rfl (by kernel_rfl)) rfl ?_
  exact⟨HC1.out.set5 _ _ _ _ _ (Nat.le_refl _),_,⟨_,_,_,_,_,_,_,rfl⟩,.inl ⟨HM.out,rfl⟩⟩
 ·have HM0:=hidE hM
  have h2:=sx_signR S b r2 ⟨#[58]⟩ W1 HR1.out (λg hg=>⟨(HS.out g hg).1,by have:=(HS.out g hg).2;omega⟩) hL2
  rw[show(⟨#[58]⟩:ByteArray).data.toList=[58] from rfl,took]at h2
  obtain⟨q2,hq2⟩:∃q,isHd r2 6 [58]=q:=⟨_,rfl⟩
  rw[hq2]at h2
  have H2:=hidE h2
  have HQ2:=hidE hq2
  have HG2:=hidE hG2
  have HL2:=hidE hL2
  clear h2 hq2 hM hG2 hL2 HR1 g0 g1 g2 g3 g4 z0 z1 z2 z3 z4
  go_wp2_with fail
  refine H2.out.mono ?_
  rintro e w2 ⟨rfl,hr2,c2⟩
  have hs2:=c2.size
  have HB2:=hidE (HB1.out.chgR c2 (by unfold only;omega))
  have HC2:=hidE (HC1.out.trans c2)
  clear c2 H2
  cases q2 with
  | false =>
   have HM:Hid (M=none):=hidE (by rw[HM0.out,conG,HQ2.out,if_neg (by decide)])
   obtain⟨⟨g0,g1,g2,g3,g4⟩,⟨z0,z1,z2,z3,z4⟩,hlg⟩:=blk_facts5 HB2.out
   clear hr2
   go_wp2_with fail
   try simp only[Exit.inBlock,Exit.then]
   refine bodyPost_ret (results_ct rfl _ _ w.heap.size 61 _ (0,0) _ rfl (blk_set5 _ _ _ _ _ HB2.out) Tryz.underlying61 rfl (by kernel_rfl)) rfl ?_
   exact⟨HC2.out.set5 _ _ _ _ _ (Nat.le_refl _),_,⟨_,_,_,_,_,_,_,rfl⟩,.inl ⟨HM.out,rfl⟩⟩
  | true =>
   rw[if_pos rfl]at hr2
   have hlt:r2.tail.length<=r2.length:=by simp
   have hT:=sx_whole S b r2.tail w2 hr2 (λg hg=>⟨(HS.out g hg).1,by have:=(HS.out g hg).2;omega⟩) (AllG.tail' HG2.out) (by have:=HL2.out;omega)
   obtain⟨O9,hO9⟩:∃O,typ r2.tail=O:=⟨_,rfl⟩
   have HM9:Hid (M=O9.map λy=>((X.data.toList,y.1),y.2)):=hidE (by rw[HM0.out,conG,HQ2.out,if_pos rfl,hO9])
   rw[hO9]at hT
   have HT:=hidE hT
   clear hr2 hT hO9 hlt
   go_wp2_with fail
   refine HT.out.mono ?_
   rintro e w3 ⟨c3,tK,tX,tZ,tA,tm,tc,hcs⟩
   have hs3:=c3.size
   have hbk:=HB2.out.chgR c3 (by unfold only;omega)
   obtain⟨⟨g0,g1,g2,g3,g4⟩,⟨z0,z1,z2,z3,z4⟩,hlg⟩:=blk_facts5 hbk
   obtain⟨W3,hW3⟩:∃W,(((w3.setCell ⟨w.heap.size,1,none⟩ (.int .i64 tK)).setCell ⟨w.heap.size,2,none⟩ (.string tX)).setCell ⟨w.heap.size,3,none⟩ (.int .i64 tZ)).setCell ⟨w.heap.size,4,none⟩ (.slice tA tm tc)=W:=⟨_,rfl⟩
   have hsW3:W3.heap.size=w3.heap.size:=hW3▸size_so5_1 w3 w.heap.size _ _ _ _
   have HFAR:Hid (∀k,k≠w.heap.size->W3.heap[k]? = w3.heap[k]?):=hidE λk hk=>hW3▸so5_1_far w3 w.heap.size k _ _ _ _ hk
   have HB3:Hid (Blk W3 w.heap.size 61 #[.string X,.int .i64 tK,.string tX,.int .i64 tZ,.slice tA tm tc]):=hidE (hW3▸blk_so5_1 _ _ _ _ hbk)
   have HC3:Hid (ChR b w W3):=hidE (hW3▸(HC2.out.trans c3).so5_1 _ _ _ _ (Nat.le_refl _))
   have hU:∃ok,e=.returned (.tuple #[.agg #[.int .i64 tK,.string tX,.int .i64 tZ,.slice tA tm tc],.bool ok])/\((ok=false/\M=none)\/(ok=true/\∃t r,M=some ((X.data.toList,t),r)/\tyV t tA tc=[.int .i64 tK,.string tX,.int .i64 tZ,.slice tA tm tc]/\Args (λg=>w2.heap.size<=g/\g<w3.heap.size) w3 t tA/\RdrS S w3 b r)):=by
    rcases hcs with⟨ho,he⟩|⟨t,r,ho,he,hrd,hr⟩
    ·exact⟨false,he,.inl ⟨rfl,by rw[HM9.out,ho];rfl⟩⟩
    ·obtain⟨A',a',hv',hA'⟩:=hrd
     injection hv' with hv'
     have hv':=congrArg Array.toList hv'
     simp only[List.cons.injEq,Value.int.injEq,Value.string.injEq,Value.slice.injEq,and_true,true_and]at hv'
     obtain⟨rfl,rfl,rfl,rfl,rfl,rfl⟩:=hv'
     exact⟨true,he,.inr ⟨rfl,t,r,by rw[HM9.out,ho];rfl,rfl,hA',hr⟩⟩
   obtain⟨ok,rfl,hU⟩:=hU
   have HU:=hidE hU
   clear hbk c3 HT hcs hU
   go_upto_region 5 with fail
   try rw[hW3]
   clear hW3 g0 g1 g2 g3 g4 z0 z1 z2 z3 z4
   obtain⟨⟨g0,g1,g2,g3,g4⟩,⟨z0,z1,z2,z3,z4⟩,hlg⟩:=blk_facts5 HB3.out
   go_wp2_with fail
   try simp only[Exit.inBlock,Exit.then]
   refine bodyPost_ret (results_ct rfl _ _ w.heap.size 61 _ (0,0) _ rfl (blk_set5 _ _ _ _ _ HB3.out) Tryz.underlying61 rfl (by kernel_rfl)) rfl ?_
   refine⟨HC3.out.set5 _ _ _ _ _ (Nat.le_refl _),[.string X,.int .i64 tK,.string tX,.int .i64 tZ,.slice tA tm tc],⟨_,_,_,_,_,_,_,rfl⟩,?_⟩
   rcases HU.out with⟨rfl,hM⟩|⟨rfl,t,r,hM,ht,hx,hr⟩
   ·exact .inl ⟨hM,rfl⟩
   ·refine .inr ⟨_,r,hM,rfl,⟨tA,tc,by rw[<-ht];simp[Sx.strV],Args.keep (λg hg=>⟨by omega,by rw[size_set5];omega⟩) (λg hg=>(set5_far _ _ _ _ _ _ _ _ (by omega)).trans (HFAR.out g (by omega))) _ _ hx⟩,?_⟩
    exact hr.keep ((set5_far _ _ _ _ _ _ _ _ (by omega)).trans (HFAR.out _ (by omega))) (λk hk=>(set5_far _ _ _ _ _ _ _ _ (by have:=(HS.out k hk).2;omega)).trans (HFAR.out _ (by have:=(HS.out k hk).2;omega)))
end Go.Proofs.YtmbmjneibkihkaaGreatDoor
