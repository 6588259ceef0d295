/-
  Contracts of the code's functions, part 20.
-/
import Derived.Test.YtknkclefoiohpaaGreatDoorKbS
namespace Go.Proofs.YtknkclefoiohpaaGreatDoor
open Go.RowKit Lx Tx Sx
set_option maxRecDepth 100000
def letJ(f:Nat)(x:Nm)(t:Option Ty):Option (Ex × List Tok)->Option (Ex × List Tok)
 | none=>none
 | some y=>if isHd y.2 3 wIn=true then(rdE f y.2.tail).map λz=>(.lt x t y.1 z.1,z.2) else none
theorem letG_eq(f:Nat)(x:Nm)(t:Option Ty)(r:List Tok):letG f x t r=if isHd r 6 [61]=true then letJ f x t (rdE f r.tail) else none:=by
 rw[letG]
 by_cases h:isHd r 6 [61]=true
 ·simp only[if_pos h]
  cases rdE f r.tail <;> rfl
 ·simp only[if_neg h]
def letT(f:Nat)(x:Nm):Option (Ty × List Tok)->Option (Ex × List Tok)
 | none=>none
 | some y=>letG f x (some y.1) y.2
def letN(f:Nat)(x:Nm)(r:List Tok):Option (Ex × List Tok):=if isHd r 6 [58]=true then letT f x (typ r.tail) else letG f x none r
theorem letF_eq(f:Nat)(l:List Tok):letF f l=if(hd l).kind=1 then letN f (hd l).text l.tail else none:=by
 rw[letF]
 by_cases h:(hd l).kind=1
 ·simp only[if_pos h,letN]
  by_cases h1:isHd l.tail 6 [58]=true
  ·simp only[if_pos h1]
   cases typ l.tail.tail <;> rfl
  ·simp only[if_neg h1]
 ·simp only[if_neg h]
def TyL(S:Nat->Prop)(w:World)(o:Option Ty)(vs:List Value):Prop:=∃TA ta,tyC o TA ta=vs/\TyA S w o TA
theorem TyL.keep {S S':Nat->Prop} {w w':World} {o:Option Ty} {vs:List Value}(h:TyL S w o vs)(hS:∀g,S g->S' g)(hk:∀g,S g->w'.heap[g]? = w.heap[g]?):TyL S' w' o vs:=by
 obtain⟨TA,ta,h1,h2⟩:=h
 exact⟨TA,ta,h1,h2.keep hS hk⟩
set_option maxHeartbeats 12800000 in
theorem sx_let(f:Nat)(S:Nat->Prop)(b:Nat)(l:List Tok)(w:World)(h:RdrS S w b l)(hS:∀g,S g->g≠b/\g<w.heap.size)(hG:AllG l)(hl:l.length<=100000)(hf:3*l.length<=f)
  (IH:GReads pcE shE S b 42 3 rdE f) :
  Calls Tryz.prog 96 #[.pointer (some ⟨b,0,none⟩)] w (GPost pcE shE S b w (letF f l)):=by
 have hbl:=h.lt
 have hV:=sx_variableR S b l (w.alloc (.cells #[.int .i64 5,.string ⟨#[]⟩,.bool false,.int .i64 0,.string ⟨#[]⟩,.int .i64 0,.slice none 0 0,.slice none 0 0,.slice none 0 0] 39)) (h.alloc _ (λg hg=>(hS g hg).2)) (λg hg=>⟨(hS g hg).1,by have:=(hS g hg).2;simp;omega⟩) hl
 obtain⟨M,hM⟩:∃M,letF f l=M:=⟨_,rfl⟩
 rw[hM]
 rw[letF_eq]at hM
 obtain⟨q,hq⟩:∃q,((hd l).kind==1)=q:=⟨_,rfl⟩
 rw[hq]at hV
 obtain⟨X,hX⟩:∃X,anyT l 1=X:=⟨_,rfl⟩
 obtain⟨r2,hr2⟩:∃x,anyR l 1=x:=⟨_,rfl⟩
 rw[hX,hr2]at hV
 have HV:=hidE hV
 have HS:=hidE hS
 have HIH:=hidE IH
 have HM1:Hid (q=false/\M=none\/q=true/\M=letN f X.data.toList r2/\AllG r2/\r2.length<=100000/\3*r2.length+3<=f):=hidE (by
  cases q with
  | false =>
   have hk:¬(hd l).kind=1:=by simpa using hq
   rw[if_neg hk]at hM
   exact .inl ⟨rfl,hM.symm⟩
  | true =>
   have hk:(hd l).kind=1:=by simpa using hq
   have hX2:(hd l).text=X.data.toList:=by rw[<-hX,anyT,if_pos hk]
   have hr3:l.tail=r2:=by rw[<-hr2,anyR,if_pos hk]
   rw[if_pos hk,hX2,hr3]at hM
   obtain⟨l',e1,e2⟩:=hd_cons (l:=l) (by rw[hk];decide)
   rw[hr3]at e2
   have hln:r2.length+1=l.length:=by rw[e1,e2];rfl
   exact .inr ⟨rfl,hM.symm,by rw[<-hr3];exact AllG.tail' hG,by omega,by omega⟩)
 clear h hS hV hM hq hf IH hG hl hX hr2
 go_enter Tryz.func96,Tryz.ntmps96
 go_wp2_with fail
 refine HV.out.mono ?_
 rintro e w1 ⟨rfl,r1,c1⟩
 have hs1:=c1.size
 simp at hs1
 have hbk:Blk w1 w.heap.size 39 #[.int .i64 5,.string ⟨#[]⟩,.bool false,.int .i64 0,.string ⟨#[]⟩,.int .i64 0,.slice none 0 0,.slice none 0 0,.slice none 0 0]:=Blk.chgR (heap_alloc_new _ _) c1 (by unfold only;omega)
 obtain⟨⟨g0,g1,g2,g3,g4,g5,g6,g7,g8⟩,⟨z0,z1,z2,z3,z4,z5,z6,z7,z8⟩,hlg⟩:=blk_facts9 hbk
 obtain⟨W1,hW1⟩:∃W,w1.setCell ⟨w.heap.size,1,none⟩ (.string X)=W:=⟨_,rfl⟩
 have hs1':W1.heap.size=w1.heap.size:=by rw[<-hW1];simp
 have HB1:Hid (Blk W1 w.heap.size 39 #[.int .i64 5,.string X,.bool false,.int .i64 0,.string ⟨#[]⟩,.int .i64 0,.slice none 0 0,.slice none 0 0,.slice none 0 0]):=hidE (hW1▸heap_setCell_same _ _ 1 _ _ _ hbk)
 have HC1:Hid (ChR b w W1):=hidE (hW1▸c1.pre.setCell (.inl (Nat.le_refl _)) _)
 have hR1:RdrS S W1 b r2:=hW1▸r1.keep (Below.heap_setCell _ ⟨w.heap.size,1,none⟩ _ b (by intro e;simp at e;omega)) (λg hg=>Below.heap_setCell _ ⟨w.heap.size,1,none⟩ _ g (by intro e;simp at e;have:=(HS.out g hg).2;omega))
 have HR1:=hidE hR1
 clear hbk c1 r1 HV hR1
 go_upto_region 3 with fail
 try rw[hW1]
 clear hW1 g0 g1 g2 g3 g4 g5 g6 g7 g8 z0 z1 z2 z3 z4 z5 z6 z7 z8
 obtain⟨⟨g0,g1,g2,g3,g4,g5,g6,g7,g8⟩,⟨z0,z1,z2,z3,z4,z5,z6,z7,z8⟩,hlg⟩:=blk_facts9 HB1.out
 rcases HM1.out with⟨rfl,hM⟩|⟨rfl,hM,hG2,hL2,hL3⟩
 ·have HM:=hidE hM
  clear hM
  go_wp2_with fail
  try simp only[Exit.inBlock,Exit.then]
  refine bodyPost_ret (results_ct rfl _ _ w.heap.size 39 _ (0,0) _ rfl (blk_set9 _ _ _ _ _ _ _ _ _ HB1.out) Tryz.underlying39 rfl (by kernel_rfl)) rfl ?_
  exact⟨HC1.out.set9 _ _ _ _ _ _ _ _ _ (Nat.le_refl _),_,⟨_,_,_,_,_,_,_,_,_,_,_,_,_,_,_,rfl⟩,.inl ⟨HM.out,rfl⟩⟩
 ·have HM0:=hidE hM
  have HG2:=hidE hG2
  have HL2:Hid (r2.length<=100000/\3*r2.length+3<=f):=hidE ⟨hL2,hL3⟩
  have h2:=sx_signR S b r2 ⟨#[58]⟩ W1 HR1.out (λg hg=>⟨(HS.out g hg).1,by have:=(HS.out g hg).2;omega⟩) hL2
  rw[show(⟨#[58]⟩:ByteArray).data.toList=[58] from rfl,took]at h2
  obtain⟨q2,hq2⟩:∃q,isHd r2 6 [58]=q:=⟨_,rfl⟩
  rw[hq2]at h2
  have H2:=hidE h2
  have HQ2:=hidE hq2
  clear h2 hq2 hM hG2 hL2 hL3 HR1 g0 g1 g2 g3 g4 g5 g6 g7 g8 z0 z1 z2 z3 z4 z5 z6 z7 z8
  go_wp2_with fail
  refine H2.out.mono ?_
  rintro e w2 ⟨rfl,hr2,c2⟩
  have hs2:=c2.size
  have hbk:=HB1.out.chgR c2 (by unfold only;omega)
  obtain⟨⟨g0,g1,g2,g3,g4,g5,g6,g7,g8⟩,⟨z0,z1,z2,z3,z4,z5,z6,z7,z8⟩,hlg⟩:=blk_facts9 hbk
  obtain⟨W2,hW2⟩:∃W,w2.setCell ⟨w.heap.size,2,none⟩ (.bool q2)=W:=⟨_,rfl⟩
  have hs2':W2.heap.size=w2.heap.size:=by rw[<-hW2];simp
  have HBK:Hid (Blk W2 w.heap.size 39 #[.int .i64 5,.string X,.bool q2,.int .i64 0,.string ⟨#[]⟩,.int .i64 0,.slice none 0 0,.slice none 0 0,.slice none 0 0]):=hidE (hW2▸heap_setCell_same _ _ 2 _ _ _ hbk)
  have HCK:Hid (ChR b w W2):=hidE (hW2▸(HC1.out.trans c2).setCell (.inl (Nat.le_refl _)) _)
  have hR2:RdrS S W2 b (if q2=true then r2.tail else r2):=hW2▸hr2.keep (Below.heap_setCell _ ⟨w.heap.size,2,none⟩ _ b (by intro e;simp at e;omega)) (λg hg=>Below.heap_setCell _ ⟨w.heap.size,2,none⟩ _ g (by intro e;simp at e;have:=(HS.out g hg).2;omega))
  clear hbk c2 hr2 H2 HB1 HC1
  go_upto_region 6 with fail
  try rw[hW2]
  clear hW2 g0 g1 g2 g3 g4 g5 g6 g7 g8 z0 z1 z2 z3 z4 z5 z6 z7 z8
  obtain⟨⟨g0,g1,g2,g3,g4,g5,g6,g7,g8⟩,⟨z0,z1,z2,z3,z4,z5,z6,z7,z8⟩,hlg⟩:=blk_facts9 HBK.out
  cases q2 with
  | false =>
   rw[if_neg (by decide)]at hR2
   have HR:=hidE hR2
   have HM:Hid (M=letG f X.data.toList none r2):=hidE (by rw[HM0.out,letN,HQ2.out,if_neg (by decide)])
   have HTY:Hid (TyL (λg=>w.heap.size<g/\g<W2.heap.size) W2 none [.int .i64 0,.string ⟨#[]⟩,.int .i64 0,.slice none 0 0]):=hidE ⟨none,0,rfl,trivial⟩
   have HGR:=HG2
   have HL:=HL2
   clear hR2
   go_upto_region 10 with fail
   clear g0 g1 g2 g3 g4 g5 g6 g7 g8 z0 z1 z2 z3 z4 z5 z6 z7 z8
   have h10:=sx_signR S b r2 ⟨#[61]⟩ W2 HR.out (λg hg=>⟨(HS.out g hg).1,by have:=(HS.out g hg).2;omega⟩) (by have:=HL.out.1;omega)
   rw[show(⟨#[61]⟩:ByteArray).data.toList=[61] from rfl,took]at h10
   obtain⟨q3,hq3⟩:∃q,isHd r2 6 [61]=q:=⟨_,rfl⟩
   rw[hq3]at h10
   have H10:=hidE h10
   have HQ3:=hidE hq3
   clear h10 hq3
   go_wp2_with fail
   refine H10.out.mono ?_
   rintro e w4 ⟨rfl,hr4,c4⟩
   have hs4:=c4.size
   have HBK:=hidE (HBK.out.chgR c4 (by unfold only;omega))
   have HCK:=hidE (HCK.out.trans c4)
   have HTY:=hidE (HTY.out.keep (S':=λg=>w.heap.size<g/\g<W2.heap.size) (λg hg=>hg) (λg hg=>c4.block g hg.2 (by unfold only;omega)))
   obtain⟨⟨g0,g1,g2,g3,g4,g5,g6,g7,g8⟩,⟨z0,z1,z2,z3,z4,z5,z6,z7,z8⟩,hlg⟩:=blk_facts9 HBK.out
   clear c4 H10
   cases q3 with
   | false =>
    have HM2:Hid (M=none):=hidE (by rw[HM.out,letG_eq,HQ3.out,if_neg (by decide)])
    clear hr4
    go_wp2_with fail
    try simp only[Exit.inBlock,Exit.then]
    refine bodyPost_ret (results_ct rfl _ _ w.heap.size 39 _ (0,0) _ rfl (blk_set9 _ _ _ _ _ _ _ _ _ HBK.out) Tryz.underlying39 rfl (by kernel_rfl)) rfl ?_
    exact⟨HCK.out.set9 _ _ _ _ _ _ _ _ _ (Nat.le_refl _),_,⟨_,_,_,_,_,_,_,_,_,_,_,_,_,_,_,rfl⟩,.inl ⟨HM2.out,rfl⟩⟩
   | true =>
    rw[if_pos rfl]at hr4
    obtain⟨t0,r0,e0,-,-⟩:=isHd_ne r2 6 [61] (by decide) HQ3.out
    have hG1:AllG r2.tail:=AllG.tail' HGR.out
    have hL1:r2.tail.length<=100000/\3*r2.tail.length+3<=f:=by have:=HL.out;rw[e0]at this ⊢;simp at this ⊢;omega
    have hE:=HIH.out w4 r2.tail hr4 (λg hg=>⟨(HS.out g hg).1,by have:=(HS.out g hg).2;omega⟩) hG1 hL1.1 hL1.2
    obtain⟨O,hO⟩:∃O,rdE f r2.tail=O:=⟨_,rfl⟩
    have HM2:Hid (M=letJ f X.data.toList (none) O):=hidE (by rw[HM.out,letG_eq,HQ3.out,if_pos rfl,hO])
    rw[hO]at hE
    have HE:=hidE hE
    have HO:=hidE hO
    have HG1:=hidE hG1
    have HL1:=hidE hL1
    clear hr4 e0 hE hO hG1 hL1 g0 g1 g2 g3 g4 g5 g6 g7 g8 z0 z1 z2 z3 z4 z5 z6 z7 z8
    go_wp2_with fail
    refine HE.out.mono ?_
    rintro e w5 ⟨c5,cs,hsh,hcs⟩
    obtain⟨ck,cx,ct,cK,cX,cZ,cB,cm,cq,cKA,ckn,ckc,cLA,cln,clc,rfl⟩:=hsh
    have hs5:=c5.size
    have hb5:=HBK.out.chgR c5 (by unfold only;omega)
    obtain⟨W5,hW5⟩:∃V,w5.alloc (.cells #[.int .i64 ck,.string cx,.bool ct,.int .i64 cK,.string cX,.int .i64 cZ,.slice cB cm cq,.slice cKA ckn ckc,.slice cLA cln clc] 39)=V:=⟨_,rfl⟩
    have hbw:Below w5.heap.size w5 W5:=hW5▸(Below.refl _ w5).alloc (Nat.le_refl _) _
    have hsW5:W5.heap.size=w5.heap.size+1:=by rw[<-hW5];simp
    have HB4:Hid (Blk W5 w5.heap.size 39 #[.int .i64 ck,.string cx,.bool ct,.int .i64 cK,.string cX,.int .i64 cZ,.slice cB cm cq,.slice cKA ckn ckc,.slice cLA cln clc]):=hidE (hW5▸heap_alloc_new _ _)
    have HBK:=hidE (show Blk W5 w.heap.size 39 #[.int .i64 5,.string X,.bool false,.int .i64 0,.string ⟨#[]⟩,.int .i64 0,.slice none 0 0,.slice none 0 0,.slice none 0 0] from(hbw.block _ hb5.lt).trans hb5)
    have HCK:=hidE ((HCK.out.trans c5).below hbw)
    have HTY:=hidE (HTY.out.keep (S':=λg=>w.heap.size<g/\g<W2.heap.size) (λg hg=>hg) (λg hg=>(hbw.block g (by omega)).trans (c5.block g (by omega) (by unfold only;omega))))
    have HBW:=hidE hbw
    clear hb5 c5 HE hbw
    rcases hcs with⟨ho,rfl⟩|⟨y,rb,ho,rfl,hrd,hrr⟩
    ·subst ho
     go_upto_region 13 with fail
     try rw[hW5]
     clear hW5
     obtain⟨⟨g0,g1,g2,g3,g4,g5,g6,g7,g8⟩,⟨z0,z1,z2,z3,z4,z5,z6,z7,z8⟩,hlg⟩:=blk_facts9 HBK.out
     go_wp2_with fail
     try simp only[Exit.inBlock,Exit.then]
     refine bodyPost_ret (results_ct rfl _ _ w.heap.size 39 _ (0,0) _ rfl (blk_set9 _ _ _ _ _ _ _ _ _ HBK.out) Tryz.underlying39 rfl (by kernel_rfl)) rfl ?_
     exact⟨HCK.out.set9 _ _ _ _ _ _ _ _ _ (Nat.le_refl _),_,⟨_,_,_,_,_,_,_,_,_,_,_,_,_,_,_,rfl⟩,.inl ⟨HM2.out,rfl⟩⟩
    ·subst ho
     have hg2:=rdE_len f r2.tail y rb HG1.out HO.out
     have hRW:=hrr.below HBW.out (λg hg=>by have:=(HS.out g hg).2;omega)
     have HX:=hidE (pcE.keep (S':=λg=>w.heap.size<g/\g<w5.heap.size) (λg hg=>⟨by omega,hg.2⟩) (λg hg=>HBW.out.block g hg.2) hrd)
     have hSG:=sx_wordR S b rb ⟨#[105,110]⟩ W5 hRW (λg hg=>⟨(HS.out g hg).1,by have:=(HS.out g hg).2;omega⟩) (by have:=hg2.2;have:=HL1.out.1;omega)
     obtain⟨q4,hq4⟩:∃q,isHd rb 3 wIn=q:=⟨_,rfl⟩
     rw[show(⟨#[105,110]⟩:ByteArray).data.toList=wIn from rfl,took,hq4]at hSG
     have HSG:=hidE hSG
     have HG2:=hidE hg2
     have HQ4:=hidE hq4
     clear hSG hrd hrr hq4 hg2 hRW
     go_upto_region 13 with fail
     try rw[hW5]
     clear hW5
     go_wp2_with fail
     refine HSG.out.mono ?_
     rintro e w6 ⟨rfl,hr6,c6⟩
     have hs6:=c6.size
     have HX:=hidE (pcE.keep (S':=λg=>w.heap.size<g/\g<w5.heap.size) (λg hg=>hg) (λg hg=>c6.block g (by omega) (by unfold only;omega)) HX.out)
     have HB4:=hidE (HB4.out.chgR c6 (by unfold only;omega))
     have HBK:=hidE (HBK.out.chgR c6 (by unfold only;omega))
     have HCK:=hidE (HCK.out.trans c6)
     have HTY:=hidE (HTY.out.keep (S':=λg=>w.heap.size<g/\g<W2.heap.size) (λg hg=>hg) (λg hg=>c6.block g (by omega) (by unfold only;omega)))
     obtain⟨⟨g0,g1,g2,g3,g4,g5,g6,g7,g8⟩,⟨z0,z1,z2,z3,z4,z5,z6,z7,z8⟩,hlg⟩:=blk_facts9 HBK.out
     clear c6 HSG HBW
     cases q4 with
     | false =>
      have HM3:Hid (M=none):=hidE (by rw[HM2.out,letJ,HQ4.out,if_neg (by decide)])
      clear hr6
      go_wp2_with fail
      try simp only[Exit.inBlock,Exit.then]
      refine bodyPost_ret (results_ct rfl _ _ w.heap.size 39 _ (0,0) _ rfl (blk_set9 _ _ _ _ _ _ _ _ _ HBK.out) Tryz.underlying39 rfl (by kernel_rfl)) rfl ?_
      exact⟨HCK.out.set9 _ _ _ _ _ _ _ _ _ (Nat.le_refl _),_,⟨_,_,_,_,_,_,_,_,_,_,_,_,_,_,_,rfl⟩,.inl ⟨HM3.out,rfl⟩⟩
     | true =>
      rw[if_pos rfl]at hr6
      obtain⟨t1,r3,e3,-,-⟩:=isHd_ne rb 3 wIn (by decide) HQ4.out
      have hE:=HIH.out w6 rb.tail hr6 (λg hg=>⟨(HS.out g hg).1,by have:=(HS.out g hg).2;omega⟩) (AllG.tail' HG2.out.1) (by have:=HG2.out.2;have:=HL1.out;rw[e3]at *;simp at *;omega) (by have:=HG2.out.2;have:=HL1.out;rw[e3]at *;simp at *;omega)
      obtain⟨O3,hO3⟩:∃O,rdE f rb.tail=O:=⟨_,rfl⟩
      have HM3:Hid (M=O3.map λz=>(.lt X.data.toList (none) y z.1,z.2)):=hidE (by rw[HM2.out,letJ,HQ4.out,if_pos rfl,<-hO3])
      rw[hO3]at hE
      have HE:=hidE hE
      clear hr6 e3 hE hO3 g0 g1 g2 g3 g4 g5 g6 g7 g8 z0 z1 z2 z3 z4 z5 z6 z7 z8
      go_wp2_with fail
      refine HE.out.mono ?_
      rintro e w7 ⟨c7,cs,hsh,hcs⟩
      obtain⟨dk,dx,dt,dK,dX,dZ,dB,dm,dq,dKA,dkn,dkc,dLA,dln,dlc,rfl⟩:=hsh
      have hs7:=c7.size
      have HB4:=hidE (HB4.out.chgR c7 (by unfold only;omega))
      have hb7:=HBK.out.chgR c7 (by unfold only;omega)
      have HX:=hidE (pcE.keep (S':=λg=>w.heap.size<g/\g<w5.heap.size) (λg hg=>hg) (λg hg=>c7.block g (by omega) (by unfold only;omega)) HX.out)
      have HTY:=hidE (HTY.out.keep (S':=λg=>w.heap.size<g/\g<W2.heap.size) (λg hg=>hg) (λg hg=>c7.block g (by omega) (by unfold only;omega)))
      obtain⟨⟨f0,f1,f2,f3,f4,f5,f6,f7,f8⟩,-,hl4⟩:=blk_facts9 HB4.out
      obtain⟨⟨g0,g1,g2,g3,g4,g5,g6,g7,g8⟩,⟨z0,z1,z2,z3,z4,z5,z6,z7,z8⟩,hlg⟩:=blk_facts9 hb7
      obtain⟨W8,hW8⟩:∃V,((w7.setCell ⟨w.heap.size,7,none⟩ (.slice (some ⟨w7.heap.size+1,0,none⟩) 2 2)).alloc (.cells #[.int .i64 dk,.string dx,.bool dt,.int .i64 dK,.string dX,.int .i64 dZ,.slice dB dm dq,.slice dKA dkn dkc,.slice dLA dln dlc] 39)).alloc (.cells #[.int .i64 ck,.string cx,.bool ct,.int .i64 cK,.string cX,.int .i64 cZ,.slice cB cm cq,.slice cKA ckn ckc,.slice cLA cln clc,.int .i64 dk,.string dx,.bool dt,.int .i64 dK,.string dX,.int .i64 dZ,.slice dB dm dq,.slice dKA dkn dkc,.slice dLA dln dlc] 39)=V:=⟨_,rfl⟩
      have hfar:∀k,k<w7.heap.size->k≠w.heap.size->W8.heap[k]? = w7.heap[k]?:=λk h1 h2=>hW8▸(two_new _ _ _ k (by simp;exact h1)).trans (Below.heap_setCell _ ⟨w.heap.size,7,none⟩ _ k h2)
      have hsW8:W8.heap.size=w7.heap.size+2:=by rw[<-hW8];simp
      have HB8:Hid (Blk W8 w.heap.size 39 #[.int .i64 5,.string X,.bool false,.int .i64 0,.string ⟨#[]⟩,.int .i64 0,.slice none 0 0,.slice (some ⟨w7.heap.size+1,0,none⟩) 2 2,.slice none 0 0]):=hidE (hW8▸Blk.alloc (Blk.alloc (heap_setCell_same _ _ 7 _ _ _ hb7) _) _)
      have HNW:Hid (Blk W8 (w7.heap.size+1) 39 #[.int .i64 ck,.string cx,.bool ct,.int .i64 cK,.string cX,.int .i64 cZ,.slice cB cm cq,.slice cKA ckn ckc,.slice cLA cln clc,.int .i64 dk,.string dx,.bool dt,.int .i64 dK,.string dX,.int .i64 dZ,.slice dB dm dq,.slice dKA dkn dkc,.slice dLA dln dlc]):=hidE (hW8▸two_top _ _ _ _ (by simp))
      have HC8:Hid (ChR b w W8):=hidE (hW8▸((((HCK.out.trans c7).setCell (.inl (Nat.le_refl _)) _).alloc _).alloc _))
      have HX8:=hidE (pcE.keep (S':=λg=>w.heap.size<g/\g<w7.heap.size) (λg hg=>⟨hg.1,by omega⟩) (λg hg=>hfar g (by omega) (by omega)) HX.out)
      have HTY:=hidE (HTY.out.keep (S':=λg=>w.heap.size<g/\g<W2.heap.size) (λg hg=>hg) (λg hg=>hfar g (by omega) (by omega)))
      have hU:∃ok,e=.returned (.tuple #[.agg #[.int .i64 dk,.string dx,.bool dt,.int .i64 dK,.string dX,.int .i64 dZ,.slice dB dm dq,.slice dKA dkn dkc,.slice dLA dln dlc],.bool ok])/\((ok=false/\M=none)\/(ok=true/\∃z rz,M=some (.lt X.data.toList (none) y z,rz)/\pcE.Cs (λg=>w.heap.size<g/\g<w7.heap.size) W8 z [.int .i64 dk,.string dx,.bool dt,.int .i64 dK,.string dX,.int .i64 dZ,.slice dB dm dq,.slice dKA dkn dkc,.slice dLA dln dlc]/\RdrS S W8 b rz)):=by
       rcases hcs with⟨ho,he⟩|⟨z,rz,ho,he,hx,hr⟩
       ·exact⟨false,he,.inl ⟨rfl,by rw[HM3.out,ho];rfl⟩⟩
       ·exact⟨true,he,.inr ⟨rfl,z,rz,by rw[HM3.out,ho];rfl,pcE.keep (λg hg=>⟨by omega,hg.2⟩) (λg hg=>hfar g hg.2 (by omega)) hx,hr.keep (hfar b (by omega) (by omega)) (λk hk=>hfar k (by have:=(HS.out k hk).2;omega) (by have:=(HS.out k hk).2;omega))⟩⟩
      obtain⟨ok,rfl,hU⟩:=hU
      have HU:=hidE hU
      clear hU hcs HE c7 hb7 hfar
      go_upto_region 17 with fail
      try rw[hW8]
      clear hW8 f0 f1 f2 f3 f4 f5 f6 f7 f8 g0 g1 g2 g3 g4 g5 g6 g7 g8 z0 z1 z2 z3 z4 z5 z6 z7 z8
      obtain⟨⟨g0,g1,g2,g3,g4,g5,g6,g7,g8⟩,⟨z0,z1,z2,z3,z4,z5,z6,z7,z8⟩,hlg⟩:=blk_facts9 HB8.out
      go_wp2_with fail
      try simp only[Exit.inBlock,Exit.then]
      refine bodyPost_ret (results_ct rfl _ _ w.heap.size 39 _ (0,0) _ rfl (blk_set9 _ _ _ _ _ _ _ _ _ HB8.out) Tryz.underlying39 rfl (by kernel_rfl)) rfl ?_
      refine⟨HC8.out.set9 _ _ _ _ _ _ _ _ _ (Nat.le_refl _),[.int .i64 5,.string X,.bool false,.int .i64 0,.string ⟨#[]⟩,.int .i64 0,.slice none 0 0,.slice (some ⟨w7.heap.size+1,0,none⟩) 2 2,.slice none 0 0],⟨_,_,_,_,_,_,_,_,_,_,_,_,_,_,_,rfl⟩,?_⟩
      rcases HU.out with⟨rfl,hM⟩|⟨rfl,z,rz,hM,hz,hr⟩
      ·exact .inl ⟨hM,rfl⟩
      ·refine .inr ⟨_,rz,hM,rfl,?_,hr.keep (set9_far _ _ _ _ _ _ _ _ _ _ _ _ (by omega)) (λk hk=>set9_far _ _ _ _ _ _ _ _ _ _ _ _ (by have:=(HS.out k hk).2;omega))⟩
       obtain⟨TA,ta,hT1,hT2⟩:=HTY.out
       refine⟨⟨TA,ta,some ⟨w7.heap.size+1,0,none⟩,0,none,0⟩,by simp only[exC,tyE,hT1];simp[kdE,nmE,toE,kidsE,altsE,Sx.strV],hT2.keep (λg hg=>⟨by omega,by rw[size_set9];omega⟩) (λg hg=>set9_far _ _ _ _ _ _ _ _ _ _ _ _ (by omega)),?_⟩
       rw[ExIn]
       exact⟨_,rfl,⟨by omega,by rw[size_set9];omega⟩,kids_new HX8.out hz (λg hg=>⟨by omega,by rw[size_set9];omega⟩) (λk hk=>set9_far _ _ _ _ _ _ _ _ _ _ _ _ (by omega)) ((set9_far _ _ _ _ _ _ _ _ _ _ _ _ (by omega)).trans HNW.out)⟩
  | true =>
   rw[if_pos rfl]at hR2
   obtain⟨t9,r9,e9,-,-⟩:=isHd_ne r2 6 [58] (by decide) HQ2.out
   have hG9:AllG r2.tail:=AllG.tail' HG2.out
   have hL9:r2.tail.length<=100000/\3*r2.tail.length+3<=f:=by have:=HL2.out;rw[e9]at this ⊢;simp at this ⊢;omega
   have hT:=sx_whole S b r2.tail W2 hR2 (λg hg=>⟨(HS.out g hg).1,by have:=(HS.out g hg).2;omega⟩) hG9 hL9.1
   obtain⟨O9,hO9⟩:∃O,typ r2.tail=O:=⟨_,rfl⟩
   have HM9:Hid (M=letT f X.data.toList O9):=hidE (by rw[HM0.out,letN,HQ2.out,if_pos rfl,hO9])
   have HF9:Hid (∀t r,O9=some (t,r)->AllG r/\r.length<=100000/\3*r.length+3<=f):=hidE λt r h=>by
    obtain⟨-,h2,h3⟩:=typ_facts hG9 (hO9.trans h)
    exact⟨h2,by omega,by omega⟩
   rw[hO9]at hT
   have HT:=hidE hT
   clear hR2 e9 hG9 hL9 hT hO9
   go_upto_region 7 with fail
   clear g0 g1 g2 g3 g4 g5 g6 g7 g8 z0 z1 z2 z3 z4 z5 z6 z7 z8
   go_wp2_with fail
   refine HT.out.mono ?_
   rintro e w3 ⟨c3,tK,tX,tZ,tA,tm,tc,hcs⟩
   have hs3:=c3.size
   have hbk:=HBK.out.chgR c3 (by unfold only;omega)
   obtain⟨⟨g0,g1,g2,g3,g4,g5,g6,g7,g8⟩,⟨z0,z1,z2,z3,z4,z5,z6,z7,z8⟩,hlg⟩:=blk_facts9 hbk
   obtain⟨W3,hW3⟩:∃W,(((w3.setCell ⟨w.heap.size,3,none⟩ (.int .i64 tK)).setCell ⟨w.heap.size,4,none⟩ (.string tX)).setCell ⟨w.heap.size,5,none⟩ (.int .i64 tZ)).setCell ⟨w.heap.size,6,none⟩ (.slice tA tm tc)=W:=⟨_,rfl⟩
   have hsW3:W3.heap.size=w3.heap.size:=hW3▸size_so9_3 w3 w.heap.size _ _ _ _
   have hfar3:∀k,k≠w.heap.size->W3.heap[k]? = w3.heap[k]?:=λk hk=>hW3▸so9_3_far w3 w.heap.size k _ _ _ _ hk
   have HBK:Hid (Blk W3 w.heap.size 39 #[.int .i64 5,.string X,.bool true,.int .i64 tK,.string tX,.int .i64 tZ,.slice tA tm tc,.slice none 0 0,.slice none 0 0]):=hidE (hW3▸blk_so9_3 _ _ _ _ hbk)
   have HCK:Hid (ChR b w W3):=hidE (hW3▸(HCK.out.trans c3).so9_3 _ _ _ _ (Nat.le_refl _))
   have HFAR3:=hidE hfar3
   clear hbk c3 HT hfar3
   rcases hcs with⟨ho,rfl⟩|⟨t,r,ho,rfl,hrd,hrr⟩
   ·subst ho
    go_upto_region 8 with fail
    try rw[hW3]
    clear hW3 g0 g1 g2 g3 g4 g5 g6 g7 g8 z0 z1 z2 z3 z4 z5 z6 z7 z8
    obtain⟨⟨g0,g1,g2,g3,g4,g5,g6,g7,g8⟩,⟨z0,z1,z2,z3,z4,z5,z6,z7,z8⟩,hlg⟩:=blk_facts9 HBK.out
    go_wp2_with fail
    try simp only[Exit.inBlock,Exit.then]
    refine bodyPost_ret (results_ct rfl _ _ w.heap.size 39 _ (0,0) _ rfl (blk_set9 _ _ _ _ _ _ _ _ _ HBK.out) Tryz.underlying39 rfl (by kernel_rfl)) rfl ?_
    exact⟨HCK.out.set9 _ _ _ _ _ _ _ _ _ (Nat.le_refl _),_,⟨_,_,_,_,_,_,_,_,_,_,_,_,_,_,_,rfl⟩,.inl ⟨HM9.out,rfl⟩⟩
   ·subst ho
    obtain⟨hGr,hLr⟩:=HF9.out t r rfl
    have HM:Hid (M=letG f X.data.toList (some t) r):=hidE HM9.out
    have HGR:=hidE hGr
    have HL:=hidE hLr
    have HR:=hidE (hrr.keep (HFAR3.out b (by omega)) (λg hg=>HFAR3.out g (by have:=(HS.out g hg).2;omega)))
    have HTY:Hid (TyL (λg=>w.heap.size<g/\g<W3.heap.size) W3 (some t) [.int .i64 tK,.string tX,.int .i64 tZ,.slice tA tm tc]):=hidE (by
     obtain⟨A',a',hv',hA'⟩:=hrd
     injection hv' with hv'
     have hv':=congrArg Array.toList hv'
     simp only[List.cons.injEq,Value.int.injEq,Value.string.injEq,Value.slice.injEq,and_true,true_and]at hv'
     obtain⟨rfl,rfl,rfl,rfl,rfl,rfl⟩:=hv'
     exact⟨tA,tc,rfl,Args.keep (λg hg=>⟨by omega,by omega⟩) (λg hg=>HFAR3.out g (by omega)) _ _ hA'⟩)
    clear hrd hrr hGr hLr
    go_upto_region 8 with fail
    try rw[hW3]
    clear hW3 g0 g1 g2 g3 g4 g5 g6 g7 g8 z0 z1 z2 z3 z4 z5 z6 z7 z8
    go_upto_region 10 with fail
    have h10:=sx_signR S b r ⟨#[61]⟩ W3 HR.out (λg hg=>⟨(HS.out g hg).1,by have:=(HS.out g hg).2;omega⟩) (by have:=HL.out.1;omega)
    rw[show(⟨#[61]⟩:ByteArray).data.toList=[61] from rfl,took]at h10
    obtain⟨q3,hq3⟩:∃q,isHd r 6 [61]=q:=⟨_,rfl⟩
    rw[hq3]at h10
    have H10:=hidE h10
    have HQ3:=hidE hq3
    clear h10 hq3
    go_wp2_with fail
    refine H10.out.mono ?_
    rintro e w4 ⟨rfl,hr4,c4⟩
    have hs4:=c4.size
    have HBK:=hidE (HBK.out.chgR c4 (by unfold only;omega))
    have HCK:=hidE (HCK.out.trans c4)
    have HTY:=hidE (HTY.out.keep (S':=λg=>w.heap.size<g/\g<W3.heap.size) (λg hg=>hg) (λg hg=>c4.block g hg.2 (by unfold only;omega)))
    obtain⟨⟨g0,g1,g2,g3,g4,g5,g6,g7,g8⟩,⟨z0,z1,z2,z3,z4,z5,z6,z7,z8⟩,hlg⟩:=blk_facts9 HBK.out
    clear c4 H10
    cases q3 with
    | false =>
     have HM2:Hid (M=none):=hidE (by rw[HM.out,letG_eq,HQ3.out,if_neg (by decide)])
     clear hr4
     go_wp2_with fail
     try simp only[Exit.inBlock,Exit.then]
     refine bodyPost_ret (results_ct rfl _ _ w.heap.size 39 _ (0,0) _ rfl (blk_set9 _ _ _ _ _ _ _ _ _ HBK.out) Tryz.underlying39 rfl (by kernel_rfl)) rfl ?_
     exact⟨HCK.out.set9 _ _ _ _ _ _ _ _ _ (Nat.le_refl _),_,⟨_,_,_,_,_,_,_,_,_,_,_,_,_,_,_,rfl⟩,.inl ⟨HM2.out,rfl⟩⟩
    | true =>
     rw[if_pos rfl]at hr4
     obtain⟨t0,r0,e0,-,-⟩:=isHd_ne r 6 [61] (by decide) HQ3.out
     have hG1:AllG r.tail:=AllG.tail' HGR.out
     have hL1:r.tail.length<=100000/\3*r.tail.length+3<=f:=by have:=HL.out;rw[e0]at this ⊢;simp at this ⊢;omega
     have hE:=HIH.out w4 r.tail hr4 (λg hg=>⟨(HS.out g hg).1,by have:=(HS.out g hg).2;omega⟩) hG1 hL1.1 hL1.2
     obtain⟨O,hO⟩:∃O,rdE f r.tail=O:=⟨_,rfl⟩
     have HM2:Hid (M=letJ f X.data.toList (some t) O):=hidE (by rw[HM.out,letG_eq,HQ3.out,if_pos rfl,hO])
     rw[hO]at hE
     have HE:=hidE hE
     have HO:=hidE hO
     have HG1:=hidE hG1
     have HL1:=hidE hL1
     clear hr4 e0 hE hO hG1 hL1 g0 g1 g2 g3 g4 g5 g6 g7 g8 z0 z1 z2 z3 z4 z5 z6 z7 z8
     go_wp2_with fail
     refine HE.out.mono ?_
     rintro e w5 ⟨c5,cs,hsh,hcs⟩
     obtain⟨ck,cx,ct,cK,cX,cZ,cB,cm,cq,cKA,ckn,ckc,cLA,cln,clc,rfl⟩:=hsh
     have hs5:=c5.size
     have hb5:=HBK.out.chgR c5 (by unfold only;omega)
     obtain⟨W5,hW5⟩:∃V,w5.alloc (.cells #[.int .i64 ck,.string cx,.bool ct,.int .i64 cK,.string cX,.int .i64 cZ,.slice cB cm cq,.slice cKA ckn ckc,.slice cLA cln clc] 39)=V:=⟨_,rfl⟩
     have hbw:Below w5.heap.size w5 W5:=hW5▸(Below.refl _ w5).alloc (Nat.le_refl _) _
     have hsW5:W5.heap.size=w5.heap.size+1:=by rw[<-hW5];simp
     have HB4:Hid (Blk W5 w5.heap.size 39 #[.int .i64 ck,.string cx,.bool ct,.int .i64 cK,.string cX,.int .i64 cZ,.slice cB cm cq,.slice cKA ckn ckc,.slice cLA cln clc]):=hidE (hW5▸heap_alloc_new _ _)
     have HBK:=hidE (show Blk W5 w.heap.size 39 #[.int .i64 5,.string X,.bool true,.int .i64 tK,.string tX,.int .i64 tZ,.slice tA tm tc,.slice none 0 0,.slice none 0 0] from(hbw.block _ hb5.lt).trans hb5)
     have HCK:=hidE ((HCK.out.trans c5).below hbw)
     have HTY:=hidE (HTY.out.keep (S':=λg=>w.heap.size<g/\g<W3.heap.size) (λg hg=>hg) (λg hg=>(hbw.block g (by omega)).trans (c5.block g (by omega) (by unfold only;omega))))
     have HBW:=hidE hbw
     clear hb5 c5 HE hbw
     rcases hcs with⟨ho,rfl⟩|⟨y,rb,ho,rfl,hrd,hrr⟩
     ·subst ho
      go_upto_region 13 with fail
      try rw[hW5]
      clear hW5
      obtain⟨⟨g0,g1,g2,g3,g4,g5,g6,g7,g8⟩,⟨z0,z1,z2,z3,z4,z5,z6,z7,z8⟩,hlg⟩:=blk_facts9 HBK.out
      go_wp2_with fail
      try simp only[Exit.inBlock,Exit.then]
      refine bodyPost_ret (results_ct rfl _ _ w.heap.size 39 _ (0,0) _ rfl (blk_set9 _ _ _ _ _ _ _ _ _ HBK.out) Tryz.underlying39 rfl (by kernel_rfl)) rfl ?_
      exact⟨HCK.out.set9 _ _ _ _ _ _ _ _ _ (Nat.le_refl _),_,⟨_,_,_,_,_,_,_,_,_,_,_,_,_,_,_,rfl⟩,.inl ⟨HM2.out,rfl⟩⟩
     ·subst ho
      have hg2:=rdE_len f r.tail y rb HG1.out HO.out
      have hRW:=hrr.below HBW.out (λg hg=>by have:=(HS.out g hg).2;omega)
      have HX:=hidE (pcE.keep (S':=λg=>w.heap.size<g/\g<w5.heap.size) (λg hg=>⟨by omega,hg.2⟩) (λg hg=>HBW.out.block g hg.2) hrd)
      have hSG:=sx_wordR S b rb ⟨#[105,110]⟩ W5 hRW (λg hg=>⟨(HS.out g hg).1,by have:=(HS.out g hg).2;omega⟩) (by have:=hg2.2;have:=HL1.out.1;omega)
      obtain⟨q4,hq4⟩:∃q,isHd rb 3 wIn=q:=⟨_,rfl⟩
      rw[show(⟨#[105,110]⟩:ByteArray).data.toList=wIn from rfl,took,hq4]at hSG
      have HSG:=hidE hSG
      have HG2:=hidE hg2
      have HQ4:=hidE hq4
      clear hSG hrd hrr hq4 hg2 hRW
      go_upto_region 13 with fail
      try rw[hW5]
      clear hW5
      go_wp2_with fail
      refine HSG.out.mono ?_
      rintro e w6 ⟨rfl,hr6,c6⟩
      have hs6:=c6.size
      have HX:=hidE (pcE.keep (S':=λg=>w.heap.size<g/\g<w5.heap.size) (λg hg=>hg) (λg hg=>c6.block g (by omega) (by unfold only;omega)) HX.out)
      have HB4:=hidE (HB4.out.chgR c6 (by unfold only;omega))
      have HBK:=hidE (HBK.out.chgR c6 (by unfold only;omega))
      have HCK:=hidE (HCK.out.trans c6)
      have HTY:=hidE (HTY.out.keep (S':=λg=>w.heap.size<g/\g<W3.heap.size) (λg hg=>hg) (λg hg=>c6.block g (by omega) (by unfold only;omega)))
      obtain⟨⟨g0,g1,g2,g3,g4,g5,g6,g7,g8⟩,⟨z0,z1,z2,z3,z4,z5,z6,z7,z8⟩,hlg⟩:=blk_facts9 HBK.out
      clear c6 HSG HBW
      cases q4 with
      | false =>
       have HM3:Hid (M=none):=hidE (by rw[HM2.out,letJ,HQ4.out,if_neg (by decide)])
       clear hr6
       go_wp2_with fail
       try simp only[Exit.inBlock,Exit.then]
       refine bodyPost_ret (results_ct rfl _ _ w.heap.size 39 _ (0,0) _ rfl (blk_set9 _ _ _ _ _ _ _ _ _ HBK.out) Tryz.underlying39 rfl (by kernel_rfl)) rfl ?_
       exact⟨HCK.out.set9 _ _ _ _ _ _ _ _ _ (Nat.le_refl _),_,⟨_,_,_,_,_,_,_,_,_,_,_,_,_,_,_,rfl⟩,.inl ⟨HM3.out,rfl⟩⟩
      | true =>
       rw[if_pos rfl]at hr6
       obtain⟨t1,r3,e3,-,-⟩:=isHd_ne rb 3 wIn (by decide) HQ4.out
       have hE:=HIH.out w6 rb.tail hr6 (λg hg=>⟨(HS.out g hg).1,by have:=(HS.out g hg).2;omega⟩) (AllG.tail' HG2.out.1) (by have:=HG2.out.2;have:=HL1.out;rw[e3]at *;simp at *;omega) (by have:=HG2.out.2;have:=HL1.out;rw[e3]at *;simp at *;omega)
       obtain⟨O3,hO3⟩:∃O,rdE f rb.tail=O:=⟨_,rfl⟩
       have HM3:Hid (M=O3.map λz=>(.lt X.data.toList (some t) y z.1,z.2)):=hidE (by rw[HM2.out,letJ,HQ4.out,if_pos rfl,<-hO3])
       rw[hO3]at hE
       have HE:=hidE hE
       clear hr6 e3 hE hO3 g0 g1 g2 g3 g4 g5 g6 g7 g8 z0 z1 z2 z3 z4 z5 z6 z7 z8
       go_wp2_with fail
       refine HE.out.mono ?_
       rintro e w7 ⟨c7,cs,hsh,hcs⟩
       obtain⟨dk,dx,dt,dK,dX,dZ,dB,dm,dq,dKA,dkn,dkc,dLA,dln,dlc,rfl⟩:=hsh
       have hs7:=c7.size
       have HB4:=hidE (HB4.out.chgR c7 (by unfold only;omega))
       have hb7:=HBK.out.chgR c7 (by unfold only;omega)
       have HX:=hidE (pcE.keep (S':=λg=>w.heap.size<g/\g<w5.heap.size) (λg hg=>hg) (λg hg=>c7.block g (by omega) (by unfold only;omega)) HX.out)
       have HTY:=hidE (HTY.out.keep (S':=λg=>w.heap.size<g/\g<W3.heap.size) (λg hg=>hg) (λg hg=>c7.block g (by omega) (by unfold only;omega)))
       obtain⟨⟨f0,f1,f2,f3,f4,f5,f6,f7,f8⟩,-,hl4⟩:=blk_facts9 HB4.out
       obtain⟨⟨g0,g1,g2,g3,g4,g5,g6,g7,g8⟩,⟨z0,z1,z2,z3,z4,z5,z6,z7,z8⟩,hlg⟩:=blk_facts9 hb7
       obtain⟨W8,hW8⟩:∃V,((w7.setCell ⟨w.heap.size,7,none⟩ (.slice (some ⟨w7.heap.size+1,0,none⟩) 2 2)).alloc (.cells #[.int .i64 dk,.string dx,.bool dt,.int .i64 dK,.string dX,.int .i64 dZ,.slice dB dm dq,.slice dKA dkn dkc,.slice dLA dln dlc] 39)).alloc (.cells #[.int .i64 ck,.string cx,.bool ct,.int .i64 cK,.string cX,.int .i64 cZ,.slice cB cm cq,.slice cKA ckn ckc,.slice cLA cln clc,.int .i64 dk,.string dx,.bool dt,.int .i64 dK,.string dX,.int .i64 dZ,.slice dB dm dq,.slice dKA dkn dkc,.slice dLA dln dlc] 39)=V:=⟨_,rfl⟩
       have hfar:∀k,k<w7.heap.size->k≠w.heap.size->W8.heap[k]? = w7.heap[k]?:=λk h1 h2=>hW8▸(two_new _ _ _ k (by simp;exact h1)).trans (Below.heap_setCell _ ⟨w.heap.size,7,none⟩ _ k h2)
       have hsW8:W8.heap.size=w7.heap.size+2:=by rw[<-hW8];simp
       have HB8:Hid (Blk W8 w.heap.size 39 #[.int .i64 5,.string X,.bool true,.int .i64 tK,.string tX,.int .i64 tZ,.slice tA tm tc,.slice (some ⟨w7.heap.size+1,0,none⟩) 2 2,.slice none 0 0]):=hidE (hW8▸Blk.alloc (Blk.alloc (heap_setCell_same _ _ 7 _ _ _ hb7) _) _)
       have HNW:Hid (Blk W8 (w7.heap.size+1) 39 #[.int .i64 ck,.string cx,.bool ct,.int .i64 cK,.string cX,.int .i64 cZ,.slice cB cm cq,.slice cKA ckn ckc,.slice cLA cln clc,.int .i64 dk,.string dx,.bool dt,.int .i64 dK,.string dX,.int .i64 dZ,.slice dB dm dq,.slice dKA dkn dkc,.slice dLA dln dlc]):=hidE (hW8▸two_top _ _ _ _ (by simp))
       have HC8:Hid (ChR b w W8):=hidE (hW8▸((((HCK.out.trans c7).setCell (.inl (Nat.le_refl _)) _).alloc _).alloc _))
       have HX8:=hidE (pcE.keep (S':=λg=>w.heap.size<g/\g<w7.heap.size) (λg hg=>⟨hg.1,by omega⟩) (λg hg=>hfar g (by omega) (by omega)) HX.out)
       have HTY:=hidE (HTY.out.keep (S':=λg=>w.heap.size<g/\g<W3.heap.size) (λg hg=>hg) (λg hg=>hfar g (by omega) (by omega)))
       have hU:∃ok,e=.returned (.tuple #[.agg #[.int .i64 dk,.string dx,.bool dt,.int .i64 dK,.string dX,.int .i64 dZ,.slice dB dm dq,.slice dKA dkn dkc,.slice dLA dln dlc],.bool ok])/\((ok=false/\M=none)\/(ok=true/\∃z rz,M=some (.lt X.data.toList (some t) y z,rz)/\pcE.Cs (λg=>w.heap.size<g/\g<w7.heap.size) W8 z [.int .i64 dk,.string dx,.bool dt,.int .i64 dK,.string dX,.int .i64 dZ,.slice dB dm dq,.slice dKA dkn dkc,.slice dLA dln dlc]/\RdrS S W8 b rz)):=by
        rcases hcs with⟨ho,he⟩|⟨z,rz,ho,he,hx,hr⟩
        ·exact⟨false,he,.inl ⟨rfl,by rw[HM3.out,ho];rfl⟩⟩
        ·exact⟨true,he,.inr ⟨rfl,z,rz,by rw[HM3.out,ho];rfl,pcE.keep (λg hg=>⟨by omega,hg.2⟩) (λg hg=>hfar g hg.2 (by omega)) hx,hr.keep (hfar b (by omega) (by omega)) (λk hk=>hfar k (by have:=(HS.out k hk).2;omega) (by have:=(HS.out k hk).2;omega))⟩⟩
       obtain⟨ok,rfl,hU⟩:=hU
       have HU:=hidE hU
       clear hU hcs HE c7 hb7 hfar
       go_upto_region 17 with fail
       try rw[hW8]
       clear hW8 f0 f1 f2 f3 f4 f5 f6 f7 f8 g0 g1 g2 g3 g4 g5 g6 g7 g8 z0 z1 z2 z3 z4 z5 z6 z7 z8
       obtain⟨⟨g0,g1,g2,g3,g4,g5,g6,g7,g8⟩,⟨z0,z1,z2,z3,z4,z5,z6,z7,z8⟩,hlg⟩:=blk_facts9 HB8.out
       go_wp2_with fail
       try simp only[Exit.inBlock,Exit.then]
       refine bodyPost_ret (results_ct rfl _ _ w.heap.size 39 _ (0,0) _ rfl (blk_set9 _ _ _ _ _ _ _ _ _ HB8.out) Tryz.underlying39 rfl (by kernel_rfl)) rfl ?_
       refine⟨HC8.out.set9 _ _ _ _ _ _ _ _ _ (Nat.le_refl _),[.int .i64 5,.string X,.bool true,.int .i64 tK,.string tX,.int .i64 tZ,.slice tA tm tc,.slice (some ⟨w7.heap.size+1,0,none⟩) 2 2,.slice none 0 0],⟨_,_,_,_,_,_,_,_,_,_,_,_,_,_,_,rfl⟩,?_⟩
       rcases HU.out with⟨rfl,hM⟩|⟨rfl,z,rz,hM,hz,hr⟩
       ·exact .inl ⟨hM,rfl⟩
       ·refine .inr ⟨_,rz,hM,rfl,?_,hr.keep (set9_far _ _ _ _ _ _ _ _ _ _ _ _ (by omega)) (λk hk=>set9_far _ _ _ _ _ _ _ _ _ _ _ _ (by have:=(HS.out k hk).2;omega))⟩
        obtain⟨TA,ta,hT1,hT2⟩:=HTY.out
        refine⟨⟨TA,ta,some ⟨w7.heap.size+1,0,none⟩,0,none,0⟩,by simp only[exC,tyE,hT1];simp[kdE,nmE,toE,kidsE,altsE,Sx.strV],hT2.keep (λg hg=>⟨by omega,by rw[size_set9];omega⟩) (λg hg=>set9_far _ _ _ _ _ _ _ _ _ _ _ _ (by omega)),?_⟩
        rw[ExIn]
        exact⟨_,rfl,⟨by omega,by rw[size_set9];omega⟩,kids_new HX8.out hz (λg hg=>⟨by omega,by rw[size_set9];omega⟩) (λk hk=>set9_far _ _ _ _ _ _ _ _ _ _ _ _ (by omega)) ((set9_far _ _ _ _ _ _ _ _ _ _ _ _ (by omega)).trans HNW.out)⟩
end Go.Proofs.YtknkclefoiohpaaGreatDoor

namespace Go.Proofs.YtknkclefoiohpaaGreatDoor
open Go.RowKit Lx Tx Sx
set_option maxRecDepth 100000
set_option maxHeartbeats 3200000 in
theorem sx_lambda(f:Nat)(S:Nat->Prop)(b:Nat)(l:List Tok)(w:World)(h:RdrS S w b l)(hS:∀g,S g->g≠b/\g<w.heap.size)(hG:AllG l)(hl:l.length<=100000)(hf:3*l.length<=f)
  (IH:GReads pcE shE S b 42 3 rdE f) :
  Calls Tryz.prog 94 #[.pointer (some ⟨b,0,none⟩)] w (GPost pcE shE S b w (lamF f l)):=by
 have hbl:=h.lt
 have hV:=sx_variableR S b l (w.alloc (.cells exZ 39)) (h.alloc _ (λg hg=>(hS g hg).2)) (λg hg=>⟨(hS g hg).1,by have:=(hS g hg).2;simp;omega⟩) hl
 unfold exZ at hV
 obtain⟨M,hM⟩:∃M,lamF f l=M:=⟨_,rfl⟩
 rw[hM]
 rw[lamF_eq]at hM
 obtain⟨q,hq⟩:∃q,((hd l).kind==1)=q:=⟨_,rfl⟩
 rw[hq]at hV
 have HV:=hidE hV
 have HS:=hidE hS
 clear h hS hV
 cases q with
 | false =>
  have hk:¬(hd l).kind=1:=by simpa using hq
  rw[if_neg hk]at hM
  have HM:=hidE hM
  clear hk hq hf IH hG hl hM
  go_enter Tryz.func94,Tryz.ntmps94
  go_wp2_with fail
  refine HV.out.mono ?_
  rintro e w1 ⟨rfl,r1,c1⟩
  have hbk:Blk w1 w.heap.size 39 exZ:=Blk.chgR (heap_alloc_new _ _) c1 (by unfold only;omega)
  have hlw:=hbk.lt
  obtain⟨⟨g0,g1,g2,g3,g4,g5,g6,g7,g8⟩,z0,z1,z2,z3,z4,z5,z6,z7,z8⟩:=z9 hbk
  have HBK:=hidE hbk
  have HC:=hidE c1.pre
  clear hbk c1 r1 HV
  go_wp2_with fail
  try simp only[Exit.inBlock,Exit.then]
  refine bodyPost_ret (results_ct rfl _ _ w.heap.size 39 _ (0,0) _ rfl (blk_set9 _ _ _ _ _ _ _ _ _ HBK.out) Tryz.underlying39 rfl (by kernel_rfl)) rfl ?_
  exact⟨HC.out.set9 _ _ _ _ _ _ _ _ _ (Nat.le_refl _),_,⟨_,_,_,_,_,_,_,_,_,_,_,_,_,_,_,rfl⟩,.inl ⟨HM.out.symm,rfl⟩⟩
 | true =>
  have hk:(hd l).kind=1:=by simpa using hq
  rw[if_pos hk]at hM
  obtain⟨X,hX⟩:∃X,anyT l 1=X:=⟨_,rfl⟩
  obtain⟨r2,hr2⟩:∃x,anyR l 1=x:=⟨_,rfl⟩
  rw[hX,hr2]at HV
  have hX2:(hd l).text=X.data.toList:=by rw[<-hX,anyT,if_pos hk]
  have hr3:l.tail=r2:=by rw[<-hr2,anyR,if_pos hk]
  obtain⟨l',e1,e2⟩:=hd_cons (l:=l) (by rw[hk];decide)
  rw[hr3]at e2
  have hln:r2.length+1=l.length:=by rw[e1,e2];rfl
  have hG2:AllG r2:=by rw[<-hr3];exact AllG.tail' hG
  rw[hX2,hr3]at hM
  obtain⟨q2,hq2⟩:∃q,isHd r2 6 [45,62]=q:=⟨_,rfl⟩
  rw[hq2]at hM
  have hSG:=λ(W:World) (hr:RdrS S W b r2) (hw:w.heap.size<=W.heap.size)=>sx_signR S b r2 ⟨#[45,62]⟩ W hr (λg hg=>⟨(HS.out g hg).1,by have:=(HS.out g hg).2;omega⟩) (by omega)
  have eb:(⟨#[45,62]⟩:ByteArray).data.toList=[45,62]:=rfl
  rw[eb,hq2]at hSG
  unfold took at hSG
  rw[hq2]at hSG
  have HSG:=hidE hSG
  have HIH:=hidE IH
  have HLN:Hid (r2.length<=100000/\3*r2.length+3<=f):=hidE (by omega)
  have HG2:=hidE hG2
  have HQ2:=hidE hq2
  have HM:=hidE hM
  clear hk hq IH hG hl hf hX hr2 hX2 hr3 e1 e2 hln hG2 hq2 hSG eb hM
  go_enter Tryz.func94,Tryz.ntmps94
  go_wp2_with fail
  refine HV.out.mono ?_
  rintro e w1 ⟨rfl,r1,c1⟩
  have hbk:Blk w1 w.heap.size 39 exZ:=Blk.chgR (heap_alloc_new _ _) c1 (by unfold only;omega)
  have HBK:=hidE hbk
  have HC:=hidE c1.pre
  have hs1:=c1.size
  simp at hs1
  have HS1:=hidE (HSG.out w1 r1 (by omega))
  clear hbk c1 r1 HV HSG
  go_wp2_with fail
  refine HS1.out.mono ?_
  rintro e w2 ⟨rfl,r3,c2⟩
  have hs2:=c2.size
  have hbk:Blk w2 w.heap.size 39 exZ:=HBK.out.chgR c2 (by unfold only;omega)
  have HBK2:=hidE hbk
  have HC2:=hidE (HC.out.trans c2)
  have hlw:=hbk.lt
  obtain⟨⟨g0,g1,g2,g3,g4,g5,g6,g7,g8⟩,z0,z1,z2,z3,z4,z5,z6,z7,z8⟩:=z9 hbk
  clear hbk c2 HS1
  cases q2 with
  | false =>
   have HM2:Hid (M=none):=hidE (by rw[<-HM.out,if_neg (by decide)])
   clear r3
   go_wp2_with fail
   try simp only[Exit.inBlock,Exit.then]
   refine bodyPost_ret (results_ct rfl _ _ w.heap.size 39 _ (0,0) _ rfl (blk_set9 _ _ _ _ _ _ _ _ _ HBK2.out) Tryz.underlying39 rfl (by kernel_rfl)) rfl ?_
   exact⟨HC2.out.set9 _ _ _ _ _ _ _ _ _ (Nat.le_refl _),_,⟨_,_,_,_,_,_,_,_,_,_,_,_,_,_,_,rfl⟩,.inl ⟨HM2.out,rfl⟩⟩
  | true =>
   have HM2:Hid (M=(rdE f r2.tail).map λy=>(Ex.lam X.data.toList y.1,y.2)):=hidE (by rw[<-HM.out,if_pos rfl])
   rw[if_pos rfl]at r3
   clear g0 g1 g2 g3 g4 g5 g6 g7 g8 z0 z1 z2 z3 z4 z5 z6 z7 z8
   obtain⟨t0,r4,e4,-,-⟩:=isHd_ne r2 6 [45,62] (by decide) HQ2.out
   have hl4:r2.length=r4.length+1:=by rw[e4];rfl
   have HE:=hidE (HIH.out w2 r2.tail r3 (λg hg=>⟨(HS.out g hg).1,by have:=(HS.out g hg).2;omega⟩) (AllG.tail' HG2.out) (by have:=HLN.out.1;rw[e4,List.tail_cons];omega) (by have:=HLN.out.2;rw[e4,List.tail_cons];omega))
   obtain⟨O,hO⟩:∃O,rdE f r2.tail=O:=⟨_,rfl⟩
   rw[hO]at HE HM2
   clear r3 e4 hl4 hO
   go_wp2_with fail
   refine HE.out.mono ?_
   rintro e w3 ⟨c3,cs,hsh,hcs⟩
   obtain⟨ck,cx,ct,cK,cX,cZ,cB,cm,cq,cKA,ckn,ckc,cLA,cln,clc,rfl⟩:=hsh
   have hs3:=c3.size
   have hbk:Blk w3 w.heap.size 39 exZ:=HBK2.out.chgR c3 (by unfold only;omega)
   have HBK3:=hidE hbk
   have HC3:=hidE (HC2.out.trans c3)
   have hlw3:=hbk.lt
   obtain⟨⟨g0,g1,g2,g3,g4,g5,g6,g7,g8⟩,z0,z1,z2,z3,z4,z5,z6,z7,z8⟩:=z9 hbk
   clear hbk c3 HE
   rcases hcs with⟨ho,rfl⟩|⟨y,r5,ho,rfl,hrd,hrr⟩
   ·have HM3:Hid (M=none):=hidE (by rw[HM2.out,ho];rfl)
    clear ho
    go_wp2_with fail
    try simp only[Exit.inBlock,Exit.then]
    refine bodyPost_ret (results_ct rfl _ _ w.heap.size 39 _ (0,0) _ rfl (((blk_set9 _ _ _ _ _ _ _ _ _ HBK3.out).alloc _).alloc _) Tryz.underlying39 rfl (by kernel_rfl)) rfl ?_
    exact⟨((HC3.out.set9 _ _ _ _ _ _ _ _ _ (Nat.le_refl _)).alloc _).alloc _,_,⟨_,_,_,_,_,_,_,_,_,_,_,_,_,_,_,rfl⟩,.inl ⟨HM3.out,rfl⟩⟩
   ·have HM3:Hid (M=some (.lam X.data.toList y,r5)):=hidE (by rw[HM2.out,ho];rfl)
    have HRD:=hidE hrd
    have HRR:=hidE hrr
    clear ho hrd hrr
    go_wp2_with fail
    try simp only[Exit.inBlock,Exit.then]
    refine bodyPost_ret (results_ct rfl _ _ w.heap.size 39 _ (0,0) _ rfl (((blk_set9 _ _ _ _ _ _ _ _ _ HBK3.out).alloc _).alloc _) Tryz.underlying39 rfl (by kernel_rfl)) rfl ?_
    refine⟨((HC3.out.set9 _ _ _ _ _ _ _ _ _ (Nat.le_refl _)).alloc _).alloc _,_,⟨_,_,_,_,_,_,_,_,_,_,_,_,_,_,_,rfl⟩,.inr ⟨_,r5,HM3.out,rfl,?_,?_⟩⟩
    ·refine⟨⟨none,0,some ⟨w3.heap.size+1,0,none⟩,0,none,0⟩,by simp[exC,kdE,nmE,toE,tyE,tyC,kidsE,altsE,Sx.strV],trivial,?_⟩
     rw[ExIn]
     refine⟨_,rfl,⟨by omega,by simp⟩,kid_new HRD.out (λk hk=>⟨by omega,by simp;omega⟩) (λk hk=>?_) (two_top _ _ _ _ (size_set9 _ _ _ _ _ _ _ _ _ _ _))⟩
     exact(two_new _ _ _ k (by rw[size_set9];exact hk.2)).trans (set9_far _ _ _ _ _ _ _ _ _ _ _ _ (by omega))
    ·refine HRR.out.keep ?_ (λk hk=>?_)
     ·exact(two_new _ _ _ b (by rw[size_set9];omega)).trans (set9_far _ _ _ _ _ _ _ _ _ _ _ _ (by omega))
     ·have:=(HS.out k hk).2
      exact(two_new _ _ _ k (by rw[size_set9];omega)).trans (set9_far _ _ _ _ _ _ _ _ _ _ _ _ (by omega))
end Go.Proofs.YtknkclefoiohpaaGreatDoor

namespace Go.Proofs.YtknkclefoiohpaaGreatDoor
open Go.RowKit Lx Tx Sx
set_option maxRecDepth 100000
set_option maxHeartbeats 12800000 in
theorem sx_exprStep(f:Nat)(S:Nat->Prop)(b:Nat)(l:List Tok)(w:World)(h:RdrS S w b l)(hS:∀g,S g->g≠b/\g<w.heap.size)(hG:AllG l)(hl:l.length<=100000)(hf:3*l.length+3<=f+1)
  (IH:∀f1,f1<=f->GReads pcE shE S b 42 3 rdE f1) :
  Calls Tryz.prog 42 #[.pointer (some ⟨b,0,none⟩)] w (GPost pcE shE S b w (rdE (f+1) l)):=by
 have hbl:=h.lt
 obtain⟨M,hM⟩:∃M,rdE (f+1) l=M:=⟨_,rfl⟩
 rw[hM]
 have HM:=hidE hM
 have HS:=hidE hS
 have HG:=hidE hG
 have HIH:=hidE IH
 have HL:Hid (l.length<=100000/\3*l.length+3<=f+1):=hidE ⟨hl,hf⟩
 obtain⟨w0,hw0⟩:∃W,w.alloc (.cells exZ 39)=W:=⟨_,rfl⟩
 have hs0:w0.heap.size=w.heap.size+1:=by rw[<-hw0];simp
 have HBK:Hid (Blk w0 w.heap.size 39 exZ):=hidE (hw0▸heap_alloc_new _ _)
 have HC:Hid (ChR b w w0):=hidE (hw0▸(ChR.refl _ _).alloc _)
 have HR:Hid (RdrS S w0 b l):=hidE (hw0▸h.alloc _ (λg hg=>(hS g hg).2))
 unfold exZ at hw0
 clear h hS hM hG IH hl hf
 go_enter Tryz.func42,Tryz.ntmps42
 go_upto_region 1 with fail
 try rw[hw0]
 clear hw0
 have ht:=sx_signR S b l ⟨#[92]⟩ w0 HR.out (λg hg=>⟨(HS.out g hg).1,by have:=(HS.out g hg).2;omega⟩) HL.out.1
 rw[show(⟨#[92]⟩:ByteArray).data.toList=[92] from rfl,took]at ht
 obtain⟨q1,hq⟩:∃q,isHd l 6 [92]=q:=⟨_,rfl⟩
 rw[hq]at ht
 have HT1:=hidE ht
 have HQ1:=hidE hq
 clear ht hq
 go_wp2_with fail
 refine HT1.out.mono ?_
 rintro e w1 ⟨rfl,hr1,c1⟩
 have hs1:=c1.size
 try simp at hs1
 have HBK:=hidE (HBK.out.chgR c1 (by unfold only;omega))
 have HC:=hidE (HC.out.trans c1)
 clear c1 HT1
 cases q1 with
 | true =>
  rw[if_pos rfl]at hr1
  obtain⟨t0,r0,e0,-,-⟩:=isHd_ne l 6 [92] (by decide) HQ1.out
  have hG1:AllG l.tail:=AllG.tail' HG.out
  have hL1:l.tail.length<=100000/\3*l.tail.length+5<=f:=by have:=HL.out;rw[e0]at this ⊢;simp at this ⊢;omega
  have hS1:∀g,S g->g≠b/\g<w1.heap.size:=λg hg=>⟨(HS.out g hg).1,by have:=(HS.out g hg).2;omega⟩
  clear e0
  have HMP:Hid (M=lamF f l.tail):=hidE (by rw[<-HM.out,rdE_eq,HQ1.out,if_pos rfl])
  have hP:=sx_lambda f S b l.tail w1 hr1 hS1 hG1 hL1.1 (by omega) (HIH.out f (Nat.le_refl _))
  obtain⟨O,hO⟩:∃O,lamF f l.tail=O:=⟨_,rfl⟩
  rw[hO]at hP HMP
  have HP:=hidE hP
  clear hP hO hr1 hG1 hS1
  go_wp2_with fail
  refine HP.out.mono ?_
  rintro e w9 ⟨c9,cs,hsh,hcs⟩
  obtain⟨ck,cx,ct,cK,cX,cZ,cB,cm,cq,cKA,ckn,ckc,cLA,cln,clc,rfl⟩:=hsh
  have hs9:=c9.size
  have hbk:=HBK.out.chgR c9 (by unfold only;omega)
  have hlw:=hbk.lt
  obtain⟨⟨g0,g1,g2,g3,g4,g5,g6,g7,g8⟩,z0,z1,z2,z3,z4,z5,z6,z7,z8⟩:=z9 hbk
  have HBK3:=hidE hbk
  have HC3:=hidE (HC.out.trans c9)
  clear hbk c9 HP
  rcases hcs with⟨ho,rfl⟩|⟨y,r5,ho,rfl,hrd,hrr⟩
  ·have HM3:=hidE (HMP.out.trans ho)
   clear ho
   go_wp2_with fail
   try simp only[Exit.inBlock,Exit.then]
   refine bodyPost_ret (results_ct rfl _ _ w.heap.size 39 _ (0,0) _ rfl (blk_set9 _ _ _ _ _ _ _ _ _ HBK3.out) Tryz.underlying39 rfl (by kernel_rfl)) rfl ?_
   exact⟨HC3.out.set9 _ _ _ _ _ _ _ _ _ (Nat.le_refl _),_,⟨_,_,_,_,_,_,_,_,_,_,_,_,_,_,_,rfl⟩,.inl ⟨HM3.out,rfl⟩⟩
  ·have HM3:=hidE (HMP.out.trans ho)
   have HRD:=hidE hrd
   have HRR:=hidE hrr
   clear ho hrd hrr
   go_wp2_with fail
   try simp only[Exit.inBlock,Exit.then]
   refine bodyPost_ret (results_ct rfl _ _ w.heap.size 39 _ (0,0) _ rfl (blk_set9 _ _ _ _ _ _ _ _ _ HBK3.out) Tryz.underlying39 rfl (by kernel_rfl)) rfl ?_
   exact⟨HC3.out.set9 _ _ _ _ _ _ _ _ _ (Nat.le_refl _),_,⟨_,_,_,_,_,_,_,_,_,_,_,_,_,_,_,rfl⟩,.inr ⟨y,r5,HM3.out,rfl,
    pcE.keep (λg hg=>⟨by omega,by rw[size_set9];exact hg.2⟩) (λg hg=>set9_far _ _ _ _ _ _ _ _ _ _ _ _ (by omega)) HRD.out,HRR.out.keep (set9_far _ _ _ _ _ _ _ _ _ _ _ _ (by omega)) (λk hk=>set9_far _ _ _ _ _ _ _ _ _ _ _ _ (by have:=(HS.out k hk).2;omega))⟩⟩
 | false =>
  rw[if_neg (by decide)]at hr1
  have HR:=hidE hr1
  clear hr1
  have ht:=sx_wordR S b l ⟨#[108,101,116]⟩ w1 HR.out (λg hg=>⟨(HS.out g hg).1,by have:=(HS.out g hg).2;omega⟩) HL.out.1
  rw[show(⟨#[108,101,116]⟩:ByteArray).data.toList=wLet from rfl,took]at ht
  obtain⟨q2,hq⟩:∃q,isHd l 3 wLet=q:=⟨_,rfl⟩
  rw[hq]at ht
  have HT2:=hidE ht
  have HQ2:=hidE hq
  clear ht hq
  go_wp2_with fail
  refine HT2.out.mono ?_
  rintro e w2 ⟨rfl,hr2,c2⟩
  have hs2:=c2.size
  try simp at hs2
  have HBK:=hidE (HBK.out.chgR c2 (by unfold only;omega))
  have HC:=hidE (HC.out.trans c2)
  clear c2 HT2
  cases q2 with
  | true =>
   rw[if_pos rfl]at hr2
   obtain⟨t0,r0,e0,-,-⟩:=isHd_ne l 3 wLet (by decide) HQ2.out
   have hG1:AllG l.tail:=AllG.tail' HG.out
   have hL1:l.tail.length<=100000/\3*l.tail.length+5<=f:=by have:=HL.out;rw[e0]at this ⊢;simp at this ⊢;omega
   have hS1:∀g,S g->g≠b/\g<w2.heap.size:=λg hg=>⟨(HS.out g hg).1,by have:=(HS.out g hg).2;omega⟩
   clear e0
   obtain⟨g,hg⟩:∃g,f=g+1:=⟨f-1,by omega⟩
   have HMP:Hid (M=letF g l.tail):=hidE (by rw[<-HM.out,rdE_eq,HQ1.out,if_neg (by decide),HQ2.out,if_pos rfl,hg,rdLet_eq])
   have hP:=sx_let g S b l.tail w2 hr2 hS1 hG1 hL1.1 (by omega) (HIH.out g (by omega))
   obtain⟨O,hO⟩:∃O,letF g l.tail=O:=⟨_,rfl⟩
   rw[hO]at hP HMP
   have HP:=hidE hP
   clear hP hO hr2 hG1 hS1 hg
   go_wp2_with fail
   refine HP.out.mono ?_
   rintro e w9 ⟨c9,cs,hsh,hcs⟩
   obtain⟨ck,cx,ct,cK,cX,cZ,cB,cm,cq,cKA,ckn,ckc,cLA,cln,clc,rfl⟩:=hsh
   have hs9:=c9.size
   have hbk:=HBK.out.chgR c9 (by unfold only;omega)
   have hlw:=hbk.lt
   obtain⟨⟨g0,g1,g2,g3,g4,g5,g6,g7,g8⟩,z0,z1,z2,z3,z4,z5,z6,z7,z8⟩:=z9 hbk
   have HBK3:=hidE hbk
   have HC3:=hidE (HC.out.trans c9)
   clear hbk c9 HP
   rcases hcs with⟨ho,rfl⟩|⟨y,r5,ho,rfl,hrd,hrr⟩
   ·have HM3:=hidE (HMP.out.trans ho)
    clear ho
    go_wp2_with fail
    try simp only[Exit.inBlock,Exit.then]
    refine bodyPost_ret (results_ct rfl _ _ w.heap.size 39 _ (0,0) _ rfl (blk_set9 _ _ _ _ _ _ _ _ _ HBK3.out) Tryz.underlying39 rfl (by kernel_rfl)) rfl ?_
    exact⟨HC3.out.set9 _ _ _ _ _ _ _ _ _ (Nat.le_refl _),_,⟨_,_,_,_,_,_,_,_,_,_,_,_,_,_,_,rfl⟩,.inl ⟨HM3.out,rfl⟩⟩
   ·have HM3:=hidE (HMP.out.trans ho)
    have HRD:=hidE hrd
    have HRR:=hidE hrr
    clear ho hrd hrr
    go_wp2_with fail
    try simp only[Exit.inBlock,Exit.then]
    refine bodyPost_ret (results_ct rfl _ _ w.heap.size 39 _ (0,0) _ rfl (blk_set9 _ _ _ _ _ _ _ _ _ HBK3.out) Tryz.underlying39 rfl (by kernel_rfl)) rfl ?_
    exact⟨HC3.out.set9 _ _ _ _ _ _ _ _ _ (Nat.le_refl _),_,⟨_,_,_,_,_,_,_,_,_,_,_,_,_,_,_,rfl⟩,.inr ⟨y,r5,HM3.out,rfl,
     pcE.keep (λg hg=>⟨by omega,by rw[size_set9];exact hg.2⟩) (λg hg=>set9_far _ _ _ _ _ _ _ _ _ _ _ _ (by omega)) HRD.out,HRR.out.keep (set9_far _ _ _ _ _ _ _ _ _ _ _ _ (by omega)) (λk hk=>set9_far _ _ _ _ _ _ _ _ _ _ _ _ (by have:=(HS.out k hk).2;omega))⟩⟩
  | false =>
   rw[if_neg (by decide)]at hr2
   have HR:=hidE hr2
   clear hr2
   have ht:=sx_wordR S b l ⟨#[99,97,115,101]⟩ w2 HR.out (λg hg=>⟨(HS.out g hg).1,by have:=(HS.out g hg).2;omega⟩) HL.out.1
   rw[show(⟨#[99,97,115,101]⟩:ByteArray).data.toList=wCase from rfl,took]at ht
   obtain⟨q3,hq⟩:∃q,isHd l 3 wCase=q:=⟨_,rfl⟩
   rw[hq]at ht
   have HT3:=hidE ht
   have HQ3:=hidE hq
   clear ht hq
   go_wp2_with fail
   refine HT3.out.mono ?_
   rintro e w3 ⟨rfl,hr3,c3⟩
   have hs3:=c3.size
   try simp at hs3
   have HBK:=hidE (HBK.out.chgR c3 (by unfold only;omega))
   have HC:=hidE (HC.out.trans c3)
   clear c3 HT3
   cases q3 with
   | true =>
    rw[if_pos rfl]at hr3
    obtain⟨t0,r0,e0,-,-⟩:=isHd_ne l 3 wCase (by decide) HQ3.out
    have hG1:AllG l.tail:=AllG.tail' HG.out
    have hL1:l.tail.length<=100000/\3*l.tail.length+5<=f:=by have:=HL.out;rw[e0]at this ⊢;simp at this ⊢;omega
    have hS1:∀g,S g->g≠b/\g<w3.heap.size:=λg hg=>⟨(HS.out g hg).1,by have:=(HS.out g hg).2;omega⟩
    clear e0
    obtain⟨g,hg⟩:∃g,f=g+2:=⟨f-2,by omega⟩
    have HMP:Hid (M=choF g l.tail):=hidE (by rw[<-HM.out,rdE_eq,HQ1.out,if_neg (by decide),HQ2.out,if_neg (by decide),HQ3.out,if_pos rfl,hg,rdCase_eq])
    have hP:=sx_choice g S b l.tail w3 hr3 hS1 hG1 hL1.1 (by omega) (HIH.out (g+1) (by omega)) (λf1 hf1 W l1 hr hs hG hl hf=>sx_alternative f1 S b l1 W hr hs hG hl (by omega) (HIH.out f1 (by omega)))
    obtain⟨O,hO⟩:∃O,choF g l.tail=O:=⟨_,rfl⟩
    rw[hO]at hP HMP
    have HP:=hidE hP
    clear hP hO hr3 hG1 hS1 hg
    go_wp2_with fail
    refine HP.out.mono ?_
    rintro e w9 ⟨c9,cs,hsh,hcs⟩
    obtain⟨ck,cx,ct,cK,cX,cZ,cB,cm,cq,cKA,ckn,ckc,cLA,cln,clc,rfl⟩:=hsh
    have hs9:=c9.size
    have hbk:=HBK.out.chgR c9 (by unfold only;omega)
    have hlw:=hbk.lt
    obtain⟨⟨g0,g1,g2,g3,g4,g5,g6,g7,g8⟩,z0,z1,z2,z3,z4,z5,z6,z7,z8⟩:=z9 hbk
    have HBK3:=hidE hbk
    have HC3:=hidE (HC.out.trans c9)
    clear hbk c9 HP
    rcases hcs with⟨ho,rfl⟩|⟨y,r5,ho,rfl,hrd,hrr⟩
    ·have HM3:=hidE (HMP.out.trans ho)
     clear ho
     go_wp2_with fail
     try simp only[Exit.inBlock,Exit.then]
     refine bodyPost_ret (results_ct rfl _ _ w.heap.size 39 _ (0,0) _ rfl (blk_set9 _ _ _ _ _ _ _ _ _ HBK3.out) Tryz.underlying39 rfl (by kernel_rfl)) rfl ?_
     exact⟨HC3.out.set9 _ _ _ _ _ _ _ _ _ (Nat.le_refl _),_,⟨_,_,_,_,_,_,_,_,_,_,_,_,_,_,_,rfl⟩,.inl ⟨HM3.out,rfl⟩⟩
    ·have HM3:=hidE (HMP.out.trans ho)
     have HRD:=hidE hrd
     have HRR:=hidE hrr
     clear ho hrd hrr
     go_wp2_with fail
     try simp only[Exit.inBlock,Exit.then]
     refine bodyPost_ret (results_ct rfl _ _ w.heap.size 39 _ (0,0) _ rfl (blk_set9 _ _ _ _ _ _ _ _ _ HBK3.out) Tryz.underlying39 rfl (by kernel_rfl)) rfl ?_
     exact⟨HC3.out.set9 _ _ _ _ _ _ _ _ _ (Nat.le_refl _),_,⟨_,_,_,_,_,_,_,_,_,_,_,_,_,_,_,rfl⟩,.inr ⟨y,r5,HM3.out,rfl,
      pcE.keep (λg hg=>⟨by omega,by rw[size_set9];exact hg.2⟩) (λg hg=>set9_far _ _ _ _ _ _ _ _ _ _ _ _ (by omega)) HRD.out,HRR.out.keep (set9_far _ _ _ _ _ _ _ _ _ _ _ _ (by omega)) (λk hk=>set9_far _ _ _ _ _ _ _ _ _ _ _ _ (by have:=(HS.out k hk).2;omega))⟩⟩
   | false =>
    rw[if_neg (by decide)]at hr3
    have HR:=hidE hr3
    clear hr3
    obtain⟨g,hg⟩:∃g,f=g+1:=⟨f-1,by have:=HL.out;omega⟩
    have HMP:Hid (M=rdApp (g+1) l):=hidE (by rw[<-HM.out,rdE_eq,HQ1.out,if_neg (by decide),HQ2.out,if_neg (by decide),HQ3.out,if_neg (by decide),hg])
    have hP:=sx_application g S b l w3 HR.out (λg hg=>⟨(HS.out g hg).1,by have:=(HS.out g hg).2;omega⟩) HG.out HL.out.1 (by have:=HL.out;omega) (λf1 hf1 W l1 hr hs hG hl hf=>by
     obtain⟨k,rfl⟩:∃k,f1=k+1:=⟨f1-1,by omega⟩
     exact sx_atom k S b l1 W hr hs hG hl (by omega) (HIH.out k (by omega)))
    obtain⟨O,hO⟩:∃O,rdApp (g+1) l=O:=⟨_,rfl⟩
    rw[hO]at hP HMP
    have HP:=hidE hP
    clear hP hO hg
    go_wp2_with fail
    refine HP.out.mono ?_
    rintro e w9 ⟨c9,cs,hsh,hcs⟩
    obtain⟨ck,cx,ct,cK,cX,cZ,cB,cm,cq,cKA,ckn,ckc,cLA,cln,clc,rfl⟩:=hsh
    have hs9:=c9.size
    have hbk:=HBK.out.chgR c9 (by unfold only;omega)
    have hlw:=hbk.lt
    obtain⟨⟨g0,g1,g2,g3,g4,g5,g6,g7,g8⟩,z0,z1,z2,z3,z4,z5,z6,z7,z8⟩:=z9 hbk
    have HBK3:=hidE hbk
    have HC3:=hidE (HC.out.trans c9)
    clear hbk c9 HP
    rcases hcs with⟨ho,rfl⟩|⟨y,r5,ho,rfl,hrd,hrr⟩
    ·have HM3:=hidE (HMP.out.trans ho)
     clear ho
     go_wp2_with fail
     try simp only[Exit.inBlock,Exit.then]
     refine bodyPost_ret (results_ct rfl _ _ w.heap.size 39 _ (0,0) _ rfl (blk_set9 _ _ _ _ _ _ _ _ _ HBK3.out) Tryz.underlying39 rfl (by kernel_rfl)) rfl ?_
     exact⟨HC3.out.set9 _ _ _ _ _ _ _ _ _ (Nat.le_refl _),_,⟨_,_,_,_,_,_,_,_,_,_,_,_,_,_,_,rfl⟩,.inl ⟨HM3.out,rfl⟩⟩
    ·have HM3:=hidE (HMP.out.trans ho)
     have HRD:=hidE hrd
     have HRR:=hidE hrr
     clear ho hrd hrr
     go_wp2_with fail
     try simp only[Exit.inBlock,Exit.then]
     refine bodyPost_ret (results_ct rfl _ _ w.heap.size 39 _ (0,0) _ rfl (blk_set9 _ _ _ _ _ _ _ _ _ HBK3.out) Tryz.underlying39 rfl (by kernel_rfl)) rfl ?_
     exact⟨HC3.out.set9 _ _ _ _ _ _ _ _ _ (Nat.le_refl _),_,⟨_,_,_,_,_,_,_,_,_,_,_,_,_,_,_,rfl⟩,.inr ⟨y,r5,HM3.out,rfl,
      pcE.keep (λg hg=>⟨by omega,by rw[size_set9];exact hg.2⟩) (λg hg=>set9_far _ _ _ _ _ _ _ _ _ _ _ _ (by omega)) HRD.out,HRR.out.keep (set9_far _ _ _ _ _ _ _ _ _ _ _ _ (by omega)) (λk hk=>set9_far _ _ _ _ _ _ _ _ _ _ _ _ (by have:=(HS.out k hk).2;omega))⟩⟩
theorem sx_expr(S:Nat->Prop)(b:Nat)(f:Nat):GReads pcE shE S b 42 3 rdE f:=by
 induction f using Nat.strongRecOn with
 | _ f ih =>
  intro w l hr hS hG hl hf
  obtain⟨k,rfl⟩:∃k,f=k+1:=⟨f-1,by omega⟩
  exact sx_exprStep k S b l w hr hS hG hl hf (λf1 hf1=>ih f1 (by omega))
end Go.Proofs.YtknkclefoiohpaaGreatDoor

namespace Go.Proofs.YtknkclefoiohpaaGreatDoor
open Go.RowKit Lx Tx Sx
set_option maxRecDepth 100000
def conG(x:Nm)(r:List Tok):Option ((Nm × Ty) × List Tok):=if isHd r 6 [58]=true then(typ r.tail).map λy=>((x,y.1),y.2) else none
theorem conF_eq(l:List Tok):rdCon l=if(hd l).kind=2 then conG (hd l).text l.tail else none:=rdCon_eq l
theorem rdCon_len(l:List Tok)(x:Nm × Ty)(r:List Tok)(hG:AllG l)(h:rdCon l=some (x,r)):AllG r/\r.length<l.length:=by
 rw[conF_eq]at h
 by_cases hk:(hd l).kind=2
 ·rw[if_pos hk,conG]at h
  obtain⟨l',e1,e2⟩:=hd_cons (l:=l) (by rw[hk];decide)
  have hG2:AllG l.tail:=AllG.tail' hG
  have hln:l.tail.length+1=l.length:=by rw[e1];rfl
  by_cases h1:isHd l.tail 6 [58]=true
  ·rw[if_pos h1]at h
   cases ho:typ l.tail.tail with
   | none=>rw[ho]at h;cases h
   | some y =>
    obtain⟨t,r1⟩:=y
    rw[ho]at h
    simp only[Option.map_some,Option.some.injEq,Prod.mk.injEq]at h
    obtain⟨rfl,rfl⟩:=h
    obtain⟨-,g1,l1⟩:=typ_facts (AllG.tail' hG2) ho
    have:l.tail.tail.length<=l.tail.length:=by simp
    exact⟨g1,by omega⟩
  ·rw[if_neg h1]at h;cases h
 ·rw[if_neg hk]at h;cases h
set_option maxHeartbeats 6400000 in
theorem sx_con(S:Nat->Prop)(b:Nat)(l:List Tok)(w:World)(h:RdrS S w b l)(hS:∀g,S g->g≠b/\g<w.heap.size)(hG:AllG l)(hl:l.length<=100000) :
  Calls Tryz.prog 165 #[.pointer (some ⟨b,0,none⟩)] w (GPost pcC shC S b w (rdCon l)):=by
 have hbl:=h.lt
 have hV:=sx_takeAnyR S b l 2 2 rfl (w.alloc (.cells #[.string ⟨#[]⟩,.int .i64 0,.string ⟨#[]⟩,.int .i64 0,.slice none 0 0] 61)) (h.alloc _ (λg hg=>(hS g hg).2)) (λg hg=>⟨(hS g hg).1,by have:=(hS g hg).2;simp;omega⟩) hl (by decide)
 obtain⟨M,hM⟩:∃M,rdCon l=M:=⟨_,rfl⟩
 rw[hM]
 rw[conF_eq]at hM
 obtain⟨q,hq⟩:∃q,((hd l).kind==2)=q:=⟨_,rfl⟩
 rw[hq]at hV
 obtain⟨X,hX⟩:∃X,anyT l 2=X:=⟨_,rfl⟩
 obtain⟨r2,hr2⟩:∃x,anyR l 2=x:=⟨_,rfl⟩
 rw[hX,hr2]at hV
 have HV:=hidE hV
 have HS:=hidE hS
 have HM1:Hid (q=false/\M=none\/q=true/\M=conG X.data.toList r2/\AllG r2/\r2.length<=100000):=hidE (by
  cases q with
  | false =>
   have hk:¬(hd l).kind=2:=by simpa using hq
   rw[if_neg hk]at hM
   exact .inl ⟨rfl,hM.symm⟩
  | true =>
   have hk:(hd l).kind=2:=by simpa using hq
   have hX2:(hd l).text=X.data.toList:=by rw[<-hX,anyT,if_pos hk]
   have hr3:l.tail=r2:=by rw[<-hr2,anyR,if_pos hk]
   rw[if_pos hk,hX2,hr3]at hM
   have:r2.length<=l.length:=by rw[<-hr3];simp
   exact .inr ⟨rfl,hM.symm,by rw[<-hr3];exact AllG.tail' hG,by omega⟩)
 clear h hS hV hM hq hG hl hX hr2
 go_enter Tryz.func165,Tryz.ntmps165
 go_wp2_with fail
 refine HV.out.mono ?_
 rintro e w1 ⟨rfl,r1,c1⟩
 have hs1:=c1.size
 simp at hs1
 have hbk:Blk w1 w.heap.size 61 #[.string ⟨#[]⟩,.int .i64 0,.string ⟨#[]⟩,.int .i64 0,.slice none 0 0]:=Blk.chgR (heap_alloc_new _ _) c1 (by unfold only;omega)
 obtain⟨⟨g0,g1,g2,g3,g4⟩,⟨z0,z1,z2,z3,z4⟩,hlg⟩:=blk_facts5 hbk
 obtain⟨W1,hW1⟩:∃W,w1.setCell ⟨w.heap.size,0,none⟩ (.string X)=W:=⟨_,rfl⟩
 have hs1':W1.heap.size=w1.heap.size:=by rw[<-hW1];simp
 have HB1:Hid (Blk W1 w.heap.size 61 #[.string X,.int .i64 0,.string ⟨#[]⟩,.int .i64 0,.slice none 0 0]):=hidE (hW1▸heap_setCell_same _ _ 0 _ _ _ hbk)
 have HC1:Hid (ChR b w W1):=hidE (hW1▸c1.pre.setCell (.inl (Nat.le_refl _)) _)
 have HR1:=hidE (show RdrS S W1 b r2 from hW1▸r1.keep (Below.heap_setCell _ ⟨w.heap.size,0,none⟩ _ b (by intro e;simp at e;omega)) (λg hg=>Below.heap_setCell _ ⟨w.heap.size,0,none⟩ _ g (by intro e;simp at e;have:=(HS.out g hg).2;omega)))
 clear hbk c1 r1 HV
 go_upto_region 2 with fail
 try rw[hW1]
 clear hW1 g0 g1 g2 g3 g4 z0 z1 z2 z3 z4
 obtain⟨⟨g0,g1,g2,g3,g4⟩,⟨z0,z1,z2,z3,z4⟩,hlg⟩:=blk_facts5 HB1.out
 rcases HM1.out with⟨rfl,hM⟩|⟨rfl,hM,hG2,hL2⟩
 ·have HM:=hidE hM
  clear hM
  go_wp2_with fail
  try simp only[Exit.inBlock,Exit.then]
  refine bodyPost_ret (results_ct rfl _ _ w.heap.size 61 _ (0,0) _ rfl (blk_set5 _ _ _ _ _ HB1.out) Tryz.underlying61 rfl (by kernel_rfl)) rfl ?_
  exact⟨HC1.out.set5 _ _ _ _ _ (Nat.le_refl _),_,⟨_,_,_,_,_,_,_,rfl⟩,.inl ⟨HM.out,rfl⟩⟩
 ·have HM0:=hidE hM
  have h2:=sx_signR S b r2 ⟨#[58]⟩ W1 HR1.out (λg hg=>⟨(HS.out g hg).1,by have:=(HS.out g hg).2;omega⟩) hL2
  rw[show(⟨#[58]⟩:ByteArray).data.toList=[58] from rfl,took]at h2
  obtain⟨q2,hq2⟩:∃q,isHd r2 6 [58]=q:=⟨_,rfl⟩
  rw[hq2]at h2
  have H2:=hidE h2
  have HQ2:=hidE hq2
  have HG2:=hidE hG2
  have HL2:=hidE hL2
  clear h2 hq2 hM hG2 hL2 HR1 g0 g1 g2 g3 g4 z0 z1 z2 z3 z4
  go_wp2_with fail
  refine H2.out.mono ?_
  rintro e w2 ⟨rfl,hr2,c2⟩
  have hs2:=c2.size
  have HB2:=hidE (HB1.out.chgR c2 (by unfold only;omega))
  have HC2:=hidE (HC1.out.trans c2)
  clear c2 H2
  cases q2 with
  | false =>
   have HM:Hid (M=none):=hidE (by rw[HM0.out,conG,HQ2.out,if_neg (by decide)])
   obtain⟨⟨g0,g1,g2,g3,g4⟩,⟨z0,z1,z2,z3,z4⟩,hlg⟩:=blk_facts5 HB2.out
   clear hr2
   go_wp2_with fail
   try simp only[Exit.inBlock,Exit.then]
   refine bodyPost_ret (results_ct rfl _ _ w.heap.size 61 _ (0,0) _ rfl (blk_set5 _ _ _ _ _ HB2.out) Tryz.underlying61 rfl (by kernel_rfl)) rfl ?_
   exact⟨HC2.out.set5 _ _ _ _ _ (Nat.le_refl _),_,⟨_,_,_,_,_,_,_,rfl⟩,.inl ⟨HM.out,rfl⟩⟩
  | true =>
   rw[if_pos rfl]at hr2
   have hlt:r2.tail.length<=r2.length:=by simp
   have hT:=sx_whole S b r2.tail w2 hr2 (λg hg=>⟨(HS.out g hg).1,by have:=(HS.out g hg).2;omega⟩) (AllG.tail' HG2.out) (by have:=HL2.out;omega)
   obtain⟨O9,hO9⟩:∃O,typ r2.tail=O:=⟨_,rfl⟩
   have HM9:Hid (M=O9.map λy=>((X.data.toList,y.1),y.2)):=hidE (by rw[HM0.out,conG,HQ2.out,if_pos rfl,hO9])
   rw[hO9]at hT
   have HT:=hidE hT
   clear hr2 hT hO9 hlt
   go_wp2_with fail
   refine HT.out.mono ?_
   rintro e w3 ⟨c3,tK,tX,tZ,tA,tm,tc,hcs⟩
   have hs3:=c3.size
   have hbk:=HB2.out.chgR c3 (by unfold only;omega)
   obtain⟨⟨g0,g1,g2,g3,g4⟩,⟨z0,z1,z2,z3,z4⟩,hlg⟩:=blk_facts5 hbk
   obtain⟨W3,hW3⟩:∃W,(((w3.setCell ⟨w.heap.size,1,none⟩ (.int .i64 tK)).setCell ⟨w.heap.size,2,none⟩ (.string tX)).setCell ⟨w.heap.size,3,none⟩ (.int .i64 tZ)).setCell ⟨w.heap.size,4,none⟩ (.slice tA tm tc)=W:=⟨_,rfl⟩
   have hsW3:W3.heap.size=w3.heap.size:=hW3▸size_so5_1 w3 w.heap.size _ _ _ _
   have HFAR:Hid (∀k,k≠w.heap.size->W3.heap[k]? = w3.heap[k]?):=hidE λk hk=>hW3▸so5_1_far w3 w.heap.size k _ _ _ _ hk
   have HB3:Hid (Blk W3 w.heap.size 61 #[.string X,.int .i64 tK,.string tX,.int .i64 tZ,.slice tA tm tc]):=hidE (hW3▸blk_so5_1 _ _ _ _ hbk)
   have HC3:Hid (ChR b w W3):=hidE (hW3▸(HC2.out.trans c3).so5_1 _ _ _ _ (Nat.le_refl _))
   have hU:∃ok,e=.returned (.tuple #[.agg #[.int .i64 tK,.string tX,.int .i64 tZ,.slice tA tm tc],.bool ok])/\((ok=false/\M=none)\/(ok=true/\∃t r,M=some ((X.data.toList,t),r)/\tyV t tA tc=[.int .i64 tK,.string tX,.int .i64 tZ,.slice tA tm tc]/\Args (λg=>w2.heap.size<=g/\g<w3.heap.size) w3 t tA/\RdrS S w3 b r)):=by
    rcases hcs with⟨ho,he⟩|⟨t,r,ho,he,hrd,hr⟩
    ·exact⟨false,he,.inl ⟨rfl,by rw[HM9.out,ho];rfl⟩⟩
    ·obtain⟨A',a',hv',hA'⟩:=hrd
     injection hv' with hv'
     have hv':=congrArg Array.toList hv'
     simp only[List.cons.injEq,Value.int.injEq,Value.string.injEq,Value.slice.injEq,and_true,true_and]at hv'
     obtain⟨rfl,rfl,rfl,rfl,rfl,rfl⟩:=hv'
     exact⟨true,he,.inr ⟨rfl,t,r,by rw[HM9.out,ho];rfl,rfl,hA',hr⟩⟩
   obtain⟨ok,rfl,hU⟩:=hU
   have HU:=hidE hU
   clear hbk c3 HT hcs hU
   go_upto_region 5 with fail
   try rw[hW3]
   clear hW3 g0 g1 g2 g3 g4 z0 z1 z2 z3 z4
   obtain⟨⟨g0,g1,g2,g3,g4⟩,⟨z0,z1,z2,z3,z4⟩,hlg⟩:=blk_facts5 HB3.out
   go_wp2_with fail
   try simp only[Exit.inBlock,Exit.then]
   refine bodyPost_ret (results_ct rfl _ _ w.heap.size 61 _ (0,0) _ rfl (blk_set5 _ _ _ _ _ HB3.out) Tryz.underlying61 rfl (by kernel_rfl)) rfl ?_
   refine⟨HC3.out.set5 _ _ _ _ _ (Nat.le_refl _),[.string X,.int .i64 tK,.string tX,.int .i64 tZ,.slice tA tm tc],⟨_,_,_,_,_,_,_,rfl⟩,?_⟩
   rcases HU.out with⟨rfl,hM⟩|⟨rfl,t,r,hM,ht,hx,hr⟩
   ·exact .inl ⟨hM,rfl⟩
   ·refine .inr ⟨_,r,hM,rfl,⟨tA,tc,by rw[<-ht];simp[Sx.strV],Args.keep (λg hg=>⟨by omega,by rw[size_set5];omega⟩) (λg hg=>(set5_far _ _ _ _ _ _ _ _ (by omega)).trans (HFAR.out g (by omega))) _ _ hx⟩,?_⟩
    exact hr.keep ((set5_far _ _ _ _ _ _ _ _ (by omega)).trans (HFAR.out _ (by omega))) (λk hk=>(set5_far _ _ _ _ _ _ _ _ (by have:=(HS.out k hk).2;omega)).trans (HFAR.out _ (by have:=(HS.out k hk).2;omega)))
end Go.Proofs.YtknkclefoiohpaaGreatDoor

namespace Go.Proofs.YtknkclefoiohpaaGreatDoor
open Go.RowKit Lx Tx Sx
set_option maxRecDepth 100000
set_option maxHeartbeats 400000 in
theorem nx_sepC(S:Nat->Prop)(b bx:Nat)(l:List Tok)(w:World)(h:RdrS S w b l)(hbx:w.cell? ⟨bx,0,none⟩=some (.pointer (some ⟨b,0,none⟩)))(hS:∀g,S g->g≠b/\g<w.heap.size)(hl:l.length<=100000) :
  Calls Tryz.prog 202 #[.pointer (some ⟨bx,0,none⟩)] w λe w'=>e=.returned (.bool (semB l))/\RdrS S w' b (if semB l=true then l.tail else l)/\ChR b w w':=by
 have HT:=hidE (sx_signR S b l ⟨#[59]⟩ w h hS hl)
 rw[show(⟨#[59]⟩:ByteArray).data.toList=[59] from rfl,took]at HT
 unfold semB
 obtain⟨q,hq⟩:∃q,isHd l 6 [59]=q:=⟨_,rfl⟩
 rw[hq]at HT ⊢
 obtain⟨L2,hL2⟩:∃x,(if q=true then l.tail else l)=x:=⟨_,rfl⟩
 rw[hL2]at HT ⊢
 have hbl:=lt_cell hbx
 have hb:=h.lt
 clear h hS hl hq hL2
 go_enter Tryz.func202,Tryz.ntmps202
 go_wp2_with fail
 refine HT.out.mono ?_
 rintro e w1 ⟨rfl,r1,b1⟩
 have R1:=hidE r1
 have B1:=hidE b1
 clear r1 b1 HT
 go_wp2_with fail
 go_ret
 exact⟨rfl,R1.out,B1.out⟩
theorem infoC:(Tryz.prog.info? 61).map (λi=>(i.zero,i.size,i.bytes))=some (some (.agg #[.string ⟨#[]⟩,.int .i64 0,.string ⟨#[]⟩,.int .i64 0,.slice none 0 0]),5,72):=by kernel_rfl
set_option maxHeartbeats 3200000 in
theorem sx_longerC(f:Nat)(S:Nat->Prop)(b:Nat)(l:List Tok)(w0 w:World)(x0:(Nm × Ty))(g0 bx:Nat)(hbx:w0.cell? ⟨bx,0,none⟩=some (.pointer (some ⟨b,0,none⟩)))(hbb:bx≠b)(h0:BuiltG pcC w0.heap.size 61 w [x0] (.slice (some ⟨g0,0,none⟩) 1 1))(h:RdrS S w b l)(hS:∀g,S g->g≠b/\g<w0.heap.size)(hb:b<w0.heap.size)(hc0:ChR b w0 w)(hG:AllG l)(hl:l.length<=100000)(hf:3*l.length+1<=f)
  (IH:∀f1,f1<=f->GReads pcC shC S b 165 0 (λ(_:Nat)=>rdCon) f1)(hrd:∀(f1:Nat)(l:List Tok)(x:(Nm × Ty))(r:List Tok),AllG l->(λ(_:Nat)=>rdCon) f1 l=some (x,r)->AllG r/\r.length<l.length) :
  Calls Tryz.prog 201 #[.slice (some ⟨g0,0,none⟩) 1 1,.func (.func 202) #[] #[.pointer (some ⟨bx,0,none⟩)],.func (.func 165) #[.pointer (some ⟨b,0,none⟩)] #[]] w
   (LPost pcC S b w0 ((manyF semB List.tail (λ(_:Nat)=>rdCon) f l).map λy=>([x0]++y.1,y.2))):=by
 obtain⟨i0,hi0,hz0,hz1,hz2⟩:=info_parts infoC
 have hbl:=lt_cell hbx
 have hcell:∀wr,ChR b w0 wr->wr.cell? ⟨bx,0,none⟩=some (.pointer (some ⟨b,0,none⟩)):=λwr h=>(World.cell?_of_block (a:=⟨bx,0,none⟩) (h.block bx hbl (by unfold only;omega))).trans hbx
 have HCELL:=hidE hcell
 obtain⟨L,hL⟩:∃L,l.length=L:=⟨_,rfl⟩
 have HL:=hidE hL
 have HS:=hidE hS
 have HIH:=hidE IH
 have HRD:=hidE hrd
 have HH:Hid (HeadG pcC semB List.tail (λ(_:Nat)=>rdCon) S b w0.heap.size 1 f 61 [x0] l w0 L (.slice (some ⟨g0,0,none⟩) 1 1) w):=hidE ⟨l,f,[],some ⟨g0,0,none⟩,1,hL.symm,rfl,hG,by simp,hf,Nat.le_refl _,hidE h,hidE (by simp),hidE (by rw[List.append_nil];exact h0),hidE hc0⟩
 rw[hL]at hl hf
 clear h hS hL IH hrd hc0 h0 hbx hcell
 go_enter Tryz.func201,Tryz.ntmps201
 go_wp2_with fail
 go_loopg [0] L (λgg v wr=>HeadG pcC semB List.tail (λ(_:Nat)=>rdCon) S b w0.heap.size 1 f 61 [x0] l w0 gg v wr)
 case atStart=>exact HH.out
 case round =>
  obtain⟨r,f',done,A,c,rfl,rfl,hG',hle,hf1,hf2,hr,hv,hbu,hc⟩:=hrel
  rw[HL.out]at hle
  have hsz:=hc.out.size
  obtain⟨f1,rfl⟩:∃f1,f'=f1+1:=⟨f'-1,by omega⟩
  obtain⟨n,hn⟩:∃n,([x0]++done).length=n:=⟨_,rfl⟩
  have hn':n<=1+done.length:=by rw[<-hn];simp <;> omega
  rw[hn]at hbu ⊢
  have HN:=hidE hn
  obtain⟨rn,hrn⟩:∃n,r.length=n:=⟨_,rfl⟩
  have HRN:=hidE hrn
  rw[hrn]at hle hf1
  have hA:=hidE (nx_sepC S b bx r wr hr.out (HCELL.out wr hc.out) (λg hg=>⟨(HS.out g hg).1,by have:=(HS.out g hg).2;omega⟩) (by rw[hrn];omega))
  have HG':=hidE hG'
  clear hn hrn HH hG'
  obtain⟨q,hq⟩:∃q,semB r=q:=⟨_,rfl⟩
  rw[hq]at hA
  have HQ:=hidE hq
  clear hq
  go_wp2_with fail
  refine hA.out.mono ?_
  rintro e w2 ⟨rfl,hr2,c2⟩
  have hs2:=c2.size
  have HC2:=hidE (hc.out.trans c2)
  have HBU:=hidE (hbu.out.chgR c2 hb)
  clear c2 hA hbu
  cases q with
  | false =>
   rw[if_neg (by decide)]at hr2
   have HR2:=hidE hr2
   have HV:=hidE (hv.out.trans (congrArg (Option.map λy:List (Nm × Ty) × List Tok=>(done++y.1,y.2)) (many_end f1 r HQ.out)))
   clear hr2 hv
   go_wp2_with fail
   go_ret2
   refine⟨HC2.out,A,n,c,.inr ⟨[x0]++done,r,by rw[HV.out];simp,rfl,HN.out.symm,HBU.out.lst.2,HR2.out⟩⟩
  | true =>
   rw[if_pos rfl]at hr2
   obtain⟨hg2,hl2,hf3⟩:=nx_sep_af r HG'.out HQ.out
   rw[HRN.out]at hl2 hf3
   have HP:=hidE (HIH.out f1 (by omega) w2 _ hr2 (λg hg=>⟨(HS.out g hg).1,by have:=(HS.out g hg).2;omega⟩) hg2 (by omega) (by omega))
   obtain⟨O,hO⟩:∃O,(λ(_:Nat)=>rdCon) f1 (List.tail r)=O:=⟨_,rfl⟩
   have HO:=hidE hO
   have HG2:=hidE hg2
   rw[hO]at HP
   clear hr2 hg2 hO
   go_wp2_with fail
   refine HP.out.mono ?_
   rintro e w3 ⟨c3,cs,hsh,hcs⟩
   obtain⟨s,tk,tx,tz,tA,tm,tq,rfl⟩:=hsh
   have hs3:=c3.size
   rcases hcs with⟨ho,rfl⟩|⟨px,r2,ho,rfl,hx,hr3⟩
   ·have HV:=hidE (hv.out.trans (congrArg (Option.map λy:List (Nm × Ty) × List Tok=>(done++y.1,y.2)) (many_no f1 r HQ.out (HO.out.trans ho))))
    have HC3:=hidE (HC2.out.trans c3)
    clear hv ho c3 HP
    go_wp2_with fail
    go_ret2
    exact⟨HC3.out.alloc _,none,0,0,.inl ⟨by rw[HV.out];rfl,rfl⟩⟩
   ·have HV:=hidE (hv.out.trans (congrArg (Option.map λy:List (Nm × Ty) × List Tok=>(done++y.1,y.2)) (many_yes f1 r HQ.out px r2 (HO.out.trans ho))))
    have hg3:=HRD.out f1 _ px r2 HG2.out (HO.out.trans ho)
    have hlr:=hg3.2
    have HG3:=hidE hg3.1
    have HX:=hidE hx
    have HR3:=hidE hr3
    have C3:=hidE c3
    obtain⟨vs,hown,hrow⟩:=HBU.out
    rw[HN.out]at hown
    have HOWN:=hidE hown
    have HROW:=hidE hrow
    have hown3:=own_chgR hown c3 hb
    have HLT:=hown3.lt
    have HO3:=hidE ((hown3.alloc (.cells #[.string s,.int .i64 tk,.string tx,.int .i64 tz,.slice tA tm tq] 61)).alloc (.cells #[.string s,.int .i64 tk,.string tx,.int .i64 tz,.slice tA tm tq] 61))
    clear hv ho c3 HP hg3 hx hr3 hown hrow hown3 HBU
    go_wp2_with (at_builtin;refine wpList_append_own_at _ rfl (.tmp 25) (.tmp 27) 57 rfl w0.heap.size 61 i0 _ 5 72 Tryz.underlying57 hi0 hz0 hz1 hz2 rfl (by decide) _ n vs rfl HO3.out ⟨w3.heap.size+1,0,none⟩ 1 1 [.string s,.int .i64 tk,.string tx,.int .i64 tz,.slice tA tm tq] rfl rfl (new_cells' _ _ _ _ (by simp)) (by intro u hu;simp at hu;rcases hu with rfl|rfl|rfl|rfl|rfl <;> rfl) (by unfold maxLen;omega) (by omega) (by simp;omega) ?_;intro v2 w5 hown5 hgrow _ hat5;obtain⟨A2,c2,rfl⟩:=own_shape hown5;have HO5:=hidE hown5;have HG5:=hidE hgrow;have HT5:=hidE hat5;clear hown5 hgrow hat5)
    have hs5:=HG5.out.size
    simp at hs5
    have hk5:∀k,k<w0.heap.size->w5.heap[k]? = w3.heap[k]?:=λk hk=>(HG5.out.block k (by simp;omega) (λe=>by have:=HLT _ e.symm;omega)).trans ((Below.heap_alloc _ _ _ (by simp;omega)).trans (Below.heap_alloc _ _ _ (by omega)))
    go_roundg r2.length
    case measure=>rw[HRN.out];omega
    case rel =>
     refine⟨r2,f1,done++[px],A2,c2,rfl,?_,HG3.out,?_,by omega,by omega,hidE (HR3.out.keep (hk5 b hb) (λg hg=>hk5 g (HS.out g hg).2)),hidE ?_,hidE ?_,hidE ((((HC2.out.trans C3.out).alloc _).alloc _).grown HG5.out (λj hj=>.inl (by have:=HLT _ hj;omega)))⟩
     ·rw[<-List.append_assoc,List.length_append,HN.out];rfl
     ·rw[List.length_append,HL.out];simp;omega
     ·rw[HV.out];simp[Function.comp_def]
     ·rw[<-List.append_assoc,show([x0]++done++[px]).length=n+1 by rw[List.length_append,HN.out];rfl]
      exact BuiltG.next (w:=w2) (w1:=w3) hb (by omega) (by rw[HN.out];exact HOWN.out) HROW.out C3.out HX.out (((Below.refl _ w3).alloc (Nat.le_refl _) _).alloc (by simp) _) (by rw[HN.out];exact HO5.out) HG5.out HT5.out
end Go.Proofs.YtknkclefoiohpaaGreatDoor

namespace Go.Proofs.YtknkclefoiohpaaGreatDoor
open Go.RowKit Lx Tx Sx
set_option maxRecDepth 100000
set_option maxHeartbeats 3200000 in
theorem sx_separatedC(f:Nat)(S:Nat->Prop)(b:Nat)(l:List Tok)(w:World)(h:RdrS S w b l)(hS:∀g,S g->g≠b/\g<w.heap.size)(hG:AllG l)(hl:l.length<=100000)(hf:3*l.length<=f)
  (IH:∀f1,f1<=f->GReads pcC shC S b 165 0 (λ(_:Nat)=>rdCon) f1)(hrd:∀(f1:Nat)(l:List Tok)(x:(Nm × Ty))(r:List Tok),AllG l->(λ(_:Nat)=>rdCon) f1 l=some (x,r)->AllG r/\r.length<l.length) :
  Calls Tryz.prog 186 #[.pointer (some ⟨b,0,none⟩),.func (.func 165) #[.pointer (some ⟨b,0,none⟩)] #[]] w (LPost pcC S b w (sepM (λ(_:Nat)=>rdCon) f l)):=by
 have hbl:=h.lt
 obtain⟨w0,hw0⟩:∃x,w.alloc (.cells #[.pointer (some ⟨b,0,none⟩)] 144)=x:=⟨_,rfl⟩
 have z0:w0.heap.size=w.heap.size+1:=by rw[<-hw0];simp
 have hb0:w0.cell? ⟨w.heap.size,0,none⟩=some (.pointer (some ⟨b,0,none⟩)):=by
  have hB:Blk w0 w.heap.size 144 #[.pointer (some ⟨b,0,none⟩)]:=hw0▸heap_alloc_new w _
  exact hB.cell 0
 have c0:ChR b w w0:=hw0▸(ChR.refl b w).alloc _
 have h0:RdrS S w0 b l:=hw0▸h.alloc _ (λg hg=>(hS g hg).2)
 have hS0:∀g,S g->g≠b/\g<w0.heap.size:=λg hg=>⟨(hS g hg).1,by have:=(hS g hg).2;omega⟩
 have HC0:=hidE c0
 have HB0:=hidE hb0
 have HP:=hidE (IH f (Nat.le_refl _) w0 l h0 hS0 hG hl (by omega))
 obtain⟨O,hO⟩:∃O,(λ(_:Nat)=>rdCon) f l=O:=⟨_,rfl⟩
 rw[hO]at HP
 have HO:=hidE hO
 obtain⟨M,hM⟩:∃M,sepM (λ(_:Nat)=>rdCon) f l=M:=⟨_,rfl⟩
 rw[hM]
 have HM:=hidE hM
 clear hM
 have HS:=hidE hS0
 have HIH:=hidE IH
 have HRD:=hidE hrd
 have HG:=hidE hG
 clear h h0 hO hS hS0 IH hrd hG c0
 go_enter Tryz.func186,Tryz.ntmps186
 go_wp2_with fail
 try rw[hw0]
 refine HP.out.mono ?_
 clear hw0 hb0
 rintro e w2 ⟨c2,cs,hsh,hcs⟩
 obtain⟨s,tk,tx,tz,tA,tm,tq,rfl⟩:=hsh
 have hs2:=c2.size
 clear HP
 rcases hcs with⟨ho,rfl⟩|⟨px,r2,ho,rfl,hx,hr2⟩
 ·have HO2:Hid (M=none):=hidE (by rw[<-HM.out,sepM,HO.out,ho])
  have C2:=hidE c2
  clear ho c2
  go_wp2_with fail
  go_ret2
  exact LPost.pre HC0.out ⟨C2.out.alloc _,none,0,0,.inl ⟨HO2.out,rfl⟩⟩
 ·subst ho
  have hg2:=HRD.out f l px r2 HG.out HO.out
  have hlr:=hg2.2
  have HQ:=hidE (sx_longerC f S b r2 w0 ((w2.alloc (.cells #[.string s,.int .i64 tk,.string tx,.int .i64 tz,.slice tA tm tq] 61)).alloc (.cells #[.string s,.int .i64 tk,.string tx,.int .i64 tz,.slice tA tm tq] 61)) px (w2.heap.size+1) w.heap.size HB0.out (by omega) (BuiltG.one (S:=λg=>w0.heap.size<=g/\g<w2.heap.size) hx (λg hg=>hg) hs2 _)
   ((hr2.alloc _ (λg hg=>by have:=(HS.out g hg).2;omega)).alloc _ (λg hg=>by have:=(HS.out g hg).2;simp;omega)) HS.out (by omega) ((c2.alloc _).alloc _) hg2.1 (by omega) (by omega) HIH.out HRD.out)
  clear hg2 hlr hx hr2 c2
  obtain⟨O2,hO2⟩:∃O2,manyF semB List.tail (λ(_:Nat)=>rdCon) f r2=O2:=⟨_,rfl⟩
  have HO2:Hid (M=O2.map λz=>(px::z.1,z.2)):=hidE (by rw[<-HM.out,sepM,HO.out,<-hO2])
  rw[hO2]at HQ
  clear hO2
  go_wp2_with fail
  refine HQ.out.mono ?_
  rintro e w3 ⟨c3,A,m,c,hcs⟩
  have C3:=hidE c3
  clear c3 HQ
  rcases hcs with⟨ho,rfl⟩|⟨xs,r3,ho,rfl,hm,hx,hr3⟩
  ·have HO:=hidE (HO2.out.trans ho)
   clear ho
   go_wp2_with fail
   go_ret2
   exact LPost.pre HC0.out ⟨C3.out,A,m,c,.inl ⟨HO.out,rfl⟩⟩
  ·have HO:=hidE (HO2.out.trans ho)
   have HM:=hidE hm
   have HX:=hidE hx
   have HR:=hidE hr3
   clear ho hm hx hr3
   go_wp2_with fail
   go_ret2
   exact LPost.pre HC0.out ⟨C3.out,A,m,c,.inr ⟨xs,r3,HO.out,rfl,HM.out,HX.out,HR.out⟩⟩
end Go.Proofs.YtknkclefoiohpaaGreatDoor

namespace Go.Proofs.YtknkclefoiohpaaGreatDoor
open Go.RowKit Lx Tx Sx
set_option maxRecDepth 100000
set_option maxHeartbeats 3200000 in
theorem sx_inBracesC(f:Nat)(S:Nat->Prop)(b:Nat)(l:List Tok)(w:World)(h:RdrS S w b l)(hS:∀g,S g->g≠b/\g<w.heap.size)(hG:AllG l)(hl:l.length<=100000)(hf:3*l.length<=f+3)
  (IH:∀f1,f1<=f->GReads pcC shC S b 165 0 (λ(_:Nat)=>rdCon) f1)(hrd:∀(f1:Nat)(l:List Tok)(x:(Nm × Ty))(r:List Tok),AllG l->(λ(_:Nat)=>rdCon) f1 l=some (x,r)->AllG r/\r.length<l.length)
  (hle:∀(l:List Tok)(x:List (Nm × Ty))(r:List Tok),AllG l->sepM (λ(_:Nat)=>rdCon) f l=some (x,r)->r.length<=l.length) :
  Calls Tryz.prog 164 #[.pointer (some ⟨b,0,none⟩),.func (.func 165) #[.pointer (some ⟨b,0,none⟩)] #[]] w (LPost pcC S b w (brF (λ(_:Nat)=>rdCon) f l)):=by
 have hbl:=h.lt
 have H1:=sx_signR S b l ⟨#[123]⟩ w h hS hl
 rw[show(⟨#[123]⟩:ByteArray).data.toList=[123] from rfl,took]at H1
 obtain⟨M,hM⟩:∃M,brF (λ(_:Nat)=>rdCon) f l=M:=⟨_,rfl⟩
 rw[hM]
 have HMM:=hidE hM
 have HS:=hidE hS
 have HIH:=hidE IH
 have HRD:=hidE hrd
 have HLE:=hidE hle
 have HG:=hidE hG
 have HL:Hid (l.length<=100000/\3*l.length<=f+3):=hidE ⟨hl,hf⟩
 obtain⟨q,hq⟩:∃q,isHd l 6 [123]=q:=⟨_,rfl⟩
 rw[hq]at H1
 have HQ:=hidE hq
 have H1:=hidE H1
 clear h hS IH hrd hG hl hf hq hle hM
 go_enter Tryz.func164,Tryz.ntmps164
 go_wp2_with fail
 refine H1.out.mono ?_
 rintro e w2 ⟨rfl,hr2,c2⟩
 have hs2:=c2.size
 cases q with
 | false =>
  have HM:Hid (M=none):=hidE (by rw[<-HMM.out,brF_eq,HQ.out,if_neg (by decide)])
  have C2:=hidE c2
  clear c2 hr2 H1
  go_wp2_with fail
  go_ret2
  exact⟨C2.out,none,0,0,.inl ⟨HM.out,rfl⟩⟩
 | true =>
  rw[if_pos rfl]at hr2
  obtain⟨t0,l1,e1,-,-⟩:=isHd_ne l 6 [123] (by decide) HQ.out
  have hG1:AllG l.tail:=AllG.tail' HG.out
  have hl1:l.tail.length+1=l.length:=by rw[e1];rfl
  obtain⟨r1,hr1⟩:∃r1,l.tail=r1:=⟨_,rfl⟩
  have HMM:Hid (M=brG (λ(_:Nat)=>rdCon) f r1):=hidE (by rw[<-HMM.out,brF_eq,HQ.out,if_pos rfl,hr1])
  rw[hr1]at hr2 hG1 hl1
  have hL:=HL.out
  rw[<-hl1]at hL
  have H2:=sx_signR S b r1 ⟨#[125]⟩ w2 hr2 (λg hg=>⟨(HS.out g hg).1,by have:=(HS.out g hg).2;omega⟩) (by omega)
  rw[show(⟨#[125]⟩:ByteArray).data.toList=[125] from rfl,took]at H2
  obtain⟨q2,hq2⟩:∃q,isHd r1 6 [125]=q:=⟨_,rfl⟩
  rw[hq2]at H2
  have HQ2:=hidE hq2
  have H2:=hidE H2
  have C2:=hidE c2
  have HG1:=hidE hG1
  clear e1 hr1 hr2 hq2 c2 HL HG HQ hl1 H1 hG1
  go_wp2_with fail
  refine H2.out.mono ?_
  rintro e w3 ⟨rfl,hr3,c3⟩
  have hs3:=c3.size
  have C3:=hidE (C2.out.trans c3)
  clear c3 H2
  cases q2 with
  | true =>
   rw[if_pos rfl]at hr3
   have HM:Hid (M=some ([],r1.tail)):=hidE (by rw[HMM.out,brG,HQ2.out,if_pos rfl])
   have HR3:=hidE hr3
   clear hr3
   go_wp2_with fail
   go_ret2
   exact⟨C3.out,none,0,0,.inr ⟨[],r1.tail,HM.out,rfl,rfl,(λh=>absurd rfl h),HR3.out⟩⟩
  | false =>
   rw[if_neg (by decide)]at hr3
   have H3:=hidE (sx_separatedC f S b r1 w3 hr3 (λg hg=>⟨(HS.out g hg).1,by have:=(HS.out g hg).2;omega⟩) HG1.out (by omega) (by omega) HIH.out HRD.out)
   obtain⟨O,hO⟩:∃O,sepM (λ(_:Nat)=>rdCon) f r1=O:=⟨_,rfl⟩
   rw[hO]at H3
   have HO:=hidE hO
   clear hr3 hO
   go_wp2_with fail
   refine H3.out.mono ?_
   rintro e w4 ⟨c4,A,m,c,hcs⟩
   have hs4:=c4.size
   have C4:=hidE (C3.out.trans c4)
   have C4':=hidE c4
   clear c4 H3
   rcases hcs with⟨ho,rfl⟩|⟨xs,r3,ho,rfl,hm,hx,hr4⟩
   ·have HM:Hid (M=none):=hidE (by rw[HMM.out,brG,HQ2.out,if_neg (by decide),HO.out,ho])
    clear ho
    go_wp2_with fail
    go_ret2
    exact⟨C4.out,A,m,c,.inl ⟨HM.out,rfl⟩⟩
   ·subst ho
    have HM3:Hid (M=if isHd r3 6 [125]=true then some (xs,r3.tail) else none):=hidE (by rw[HMM.out,brG,HQ2.out,if_neg (by decide),HO.out])
    have hle:=HLE.out r1 xs r3 HG1.out HO.out
    have H4:=sx_signR S b r3 ⟨#[125]⟩ w4 hr4 (λg hg=>⟨(HS.out g hg).1,by have:=(HS.out g hg).2;omega⟩) (by omega)
    rw[show(⟨#[125]⟩:ByteArray).data.toList=[125] from rfl,took]at H4
    obtain⟨q4,hq4⟩:∃q,isHd r3 6 [125]=q:=⟨_,rfl⟩
    rw[hq4]at H4
    have HQ4:=hidE hq4
    have H4:=hidE H4
    have HM:=hidE hm
    have HX:=hidE hx
    clear hm hx hr4 hq4 hle HO
    go_wp2_with fail
    refine H4.out.mono ?_
    rintro e w5 ⟨rfl,hr5,c5⟩
    have hs5:=c5.size
    have C5:=hidE (C4.out.trans c5)
    have C5':=hidE c5
    clear c5 H4
    cases q4 with
    | false =>
     have HM4:Hid (M=none):=hidE (by rw[HM3.out,HQ4.out,if_neg (by decide)])
     clear hr5
     go_wp2_with fail
     go_ret2
     exact⟨C5.out,A,m,c,.inl ⟨HM4.out,rfl⟩⟩
    | true =>
     rw[if_pos rfl]at hr5
     have HR5:=hidE hr5
     have HM4:Hid (M=some (xs,r3.tail)):=hidE (by rw[HM3.out,HQ4.out,if_pos rfl])
     clear hr5
     go_wp2_with fail
     go_ret2
     exact⟨C5.out,A,m,c,.inr ⟨xs,r3.tail,HM4.out,rfl,HM.out,HX.out.keep (λg hg=>⟨by omega,by omega⟩) (λg hg=>C5'.out.block g hg.2 (by unfold only;omega)),HR5.out⟩⟩
end Go.Proofs.YtknkclefoiohpaaGreatDoor

namespace Go.Proofs.YtknkclefoiohpaaGreatDoor
open Go.RowKit Lx Tx Sx
set_option maxRecDepth 100000
set_option maxHeartbeats 400000 in
theorem nx_sepD(S:Nat->Prop)(b bx:Nat)(l:List Tok)(w:World)(h:RdrS S w b l)(hbx:w.cell? ⟨bx,0,none⟩=some (.pointer (some ⟨b,0,none⟩)))(hS:∀g,S g->g≠b/\g<w.heap.size)(hl:l.length<=100000) :
  Calls Tryz.prog 161 #[.pointer (some ⟨bx,0,none⟩)] w λe w'=>e=.returned (.bool (semB l))/\RdrS S w' b (if semB l=true then l.tail else l)/\ChR b w w':=by
 have HT:=hidE (sx_signR S b l ⟨#[59]⟩ w h hS hl)
 rw[show(⟨#[59]⟩:ByteArray).data.toList=[59] from rfl,took]at HT
 unfold semB
 obtain⟨q,hq⟩:∃q,isHd l 6 [59]=q:=⟨_,rfl⟩
 rw[hq]at HT ⊢
 obtain⟨L2,hL2⟩:∃x,(if q=true then l.tail else l)=x:=⟨_,rfl⟩
 rw[hL2]at HT ⊢
 have hbl:=lt_cell hbx
 have hb:=h.lt
 clear h hS hl hq hL2
 go_enter Tryz.func161,Tryz.ntmps161
 go_wp2_with fail
 refine HT.out.mono ?_
 rintro e w1 ⟨rfl,r1,b1⟩
 have R1:=hidE r1
 have B1:=hidE b1
 clear r1 b1 HT
 go_wp2_with fail
 go_ret
 exact⟨rfl,R1.out,B1.out⟩
theorem infoD:(Tryz.prog.info? 59).map (λi=>(i.zero,i.size,i.bytes))=some (some (.agg #[.int .i64 0,.string ⟨#[]⟩,.slice none 0 0,.slice none 0 0,.int .i64 0,.string ⟨#[]⟩,.int .i64 0,.slice none 0 0,.int .i64 0,.string ⟨#[]⟩,.bool false,.int .i64 0,.string ⟨#[]⟩,.int .i64 0,.slice none 0 0,.slice none 0 0,.slice none 0 0]),17,264):=by kernel_rfl
set_option maxHeartbeats 3200000 in
theorem sx_longerD(f:Nat)(S:Nat->Prop)(b:Nat)(l:List Tok)(w0 w:World)(x0:De)(g0 bx:Nat)(hbx:w0.cell? ⟨bx,0,none⟩=some (.pointer (some ⟨b,0,none⟩)))(hbb:bx≠b)(h0:BuiltG pcD w0.heap.size 59 w [x0] (.slice (some ⟨g0,0,none⟩) 1 1))(h:RdrS S w b l)(hS:∀g,S g->g≠b/\g<w0.heap.size)(hb:b<w0.heap.size)(hc0:ChR b w0 w)(hG:AllG l)(hl:l.length<=100000)(hf:3*l.length+1<=f)
  (IH:∀f1,f1<=f->GReads pcD shD S b 75 0 (λ(_:Nat)=>rdDecl) f1)(hrd:∀(f1:Nat)(l:List Tok)(x:De)(r:List Tok),AllG l->(λ(_:Nat)=>rdDecl) f1 l=some (x,r)->AllG r/\r.length<l.length) :
  Calls Tryz.prog 160 #[.slice (some ⟨g0,0,none⟩) 1 1,.func (.func 161) #[] #[.pointer (some ⟨bx,0,none⟩)],.func (.func 75) #[.pointer (some ⟨b,0,none⟩)] #[]] w
   (LPost pcD S b w0 ((manyF semB List.tail (λ(_:Nat)=>rdDecl) f l).map λy=>([x0]++y.1,y.2))):=by
 obtain⟨i0,hi0,hz0,hz1,hz2⟩:=info_parts infoD
 have hbl:=lt_cell hbx
 have hcell:∀wr,ChR b w0 wr->wr.cell? ⟨bx,0,none⟩=some (.pointer (some ⟨b,0,none⟩)):=λwr h=>(World.cell?_of_block (a:=⟨bx,0,none⟩) (h.block bx hbl (by unfold only;omega))).trans hbx
 have HCELL:=hidE hcell
 obtain⟨L,hL⟩:∃L,l.length=L:=⟨_,rfl⟩
 have HL:=hidE hL
 have HS:=hidE hS
 have HIH:=hidE IH
 have HRD:=hidE hrd
 have HH:Hid (HeadG pcD semB List.tail (λ(_:Nat)=>rdDecl) S b w0.heap.size 1 f 59 [x0] l w0 L (.slice (some ⟨g0,0,none⟩) 1 1) w):=hidE ⟨l,f,[],some ⟨g0,0,none⟩,1,hL.symm,rfl,hG,by simp,hf,Nat.le_refl _,hidE h,hidE (by simp),hidE (by rw[List.append_nil];exact h0),hidE hc0⟩
 rw[hL]at hl hf
 clear h hS hL IH hrd hc0 h0 hbx hcell
 go_enter Tryz.func160,Tryz.ntmps160
 go_wp2_with fail
 go_loopg [0] L (λgg v wr=>HeadG pcD semB List.tail (λ(_:Nat)=>rdDecl) S b w0.heap.size 1 f 59 [x0] l w0 gg v wr)
 case atStart=>exact HH.out
 case round =>
  obtain⟨r,f',done,A,c,rfl,rfl,hG',hle,hf1,hf2,hr,hv,hbu,hc⟩:=hrel
  rw[HL.out]at hle
  have hsz:=hc.out.size
  obtain⟨f1,rfl⟩:∃f1,f'=f1+1:=⟨f'-1,by omega⟩
  obtain⟨n,hn⟩:∃n,([x0]++done).length=n:=⟨_,rfl⟩
  have hn':n<=1+done.length:=by rw[<-hn];simp <;> omega
  rw[hn]at hbu ⊢
  have HN:=hidE hn
  obtain⟨rn,hrn⟩:∃n,r.length=n:=⟨_,rfl⟩
  have HRN:=hidE hrn
  rw[hrn]at hle hf1
  have hA:=hidE (nx_sepD S b bx r wr hr.out (HCELL.out wr hc.out) (λg hg=>⟨(HS.out g hg).1,by have:=(HS.out g hg).2;omega⟩) (by rw[hrn];omega))
  have HG':=hidE hG'
  clear hn hrn HH hG'
  obtain⟨q,hq⟩:∃q,semB r=q:=⟨_,rfl⟩
  rw[hq]at hA
  have HQ:=hidE hq
  clear hq
  go_wp2_with fail
  refine hA.out.mono ?_
  rintro e w2 ⟨rfl,hr2,c2⟩
  have hs2:=c2.size
  have HC2:=hidE (hc.out.trans c2)
  have HBU:=hidE (hbu.out.chgR c2 hb)
  clear c2 hA hbu
  cases q with
  | false =>
   rw[if_neg (by decide)]at hr2
   have HR2:=hidE hr2
   have HV:=hidE (hv.out.trans (congrArg (Option.map λy:List De × List Tok=>(done++y.1,y.2)) (many_end f1 r HQ.out)))
   clear hr2 hv
   go_wp2_with fail
   go_ret2
   refine⟨HC2.out,A,n,c,.inr ⟨[x0]++done,r,by rw[HV.out];simp,rfl,HN.out.symm,HBU.out.lst.2,HR2.out⟩⟩
  | true =>
   rw[if_pos rfl]at hr2
   obtain⟨hg2,hl2,hf3⟩:=nx_sep_af r HG'.out HQ.out
   rw[HRN.out]at hl2 hf3
   have HP:=hidE (HIH.out f1 (by omega) w2 _ hr2 (λg hg=>⟨(HS.out g hg).1,by have:=(HS.out g hg).2;omega⟩) hg2 (by omega) (by omega))
   obtain⟨O,hO⟩:∃O,(λ(_:Nat)=>rdDecl) f1 (List.tail r)=O:=⟨_,rfl⟩
   have HO:=hidE hO
   have HG2:=hidE hg2
   rw[hO]at HP
   clear hr2 hg2 hO
   go_wp2_with fail
   refine HP.out.mono ?_
   rintro e w3 ⟨c3,cs,hsh,hcs⟩
   obtain⟨k0,s,V,vm,vq,G,gm,gq,K0,X0,Z0,B0,m0,q0,ek,ex,et,tk,tx,tz,tA,tm,tq,KA,kn,kc,LA,ln,lc,rfl⟩:=hsh
   have hs3:=c3.size
   rcases hcs with⟨ho,rfl⟩|⟨px,r2,ho,rfl,hx,hr3⟩
   ·have HV:=hidE (hv.out.trans (congrArg (Option.map λy:List De × List Tok=>(done++y.1,y.2)) (many_no f1 r HQ.out (HO.out.trans ho))))
    have HC3:=hidE (HC2.out.trans c3)
    clear hv ho c3 HP
    go_wp2_with fail
    go_ret2
    exact⟨HC3.out.alloc _,none,0,0,.inl ⟨by rw[HV.out];rfl,rfl⟩⟩
   ·have HV:=hidE (hv.out.trans (congrArg (Option.map λy:List De × List Tok=>(done++y.1,y.2)) (many_yes f1 r HQ.out px r2 (HO.out.trans ho))))
    have hg3:=HRD.out f1 _ px r2 HG2.out (HO.out.trans ho)
    have hlr:=hg3.2
    have HG3:=hidE hg3.1
    have HX:=hidE hx
    have HR3:=hidE hr3
    have C3:=hidE c3
    obtain⟨vs,hown,hrow⟩:=HBU.out
    rw[HN.out]at hown
    have HOWN:=hidE hown
    have HROW:=hidE hrow
    have hown3:=own_chgR hown c3 hb
    have HLT:=hown3.lt
    have HO3:=hidE ((hown3.alloc (.cells #[.int .i64 k0,.string s,.slice V vm vq,.slice G gm gq,.int .i64 K0,.string X0,.int .i64 Z0,.slice B0 m0 q0,.int .i64 ek,.string ex,.bool et,.int .i64 tk,.string tx,.int .i64 tz,.slice tA tm tq,.slice KA kn kc,.slice LA ln lc] 59)).alloc (.cells #[.int .i64 k0,.string s,.slice V vm vq,.slice G gm gq,.int .i64 K0,.string X0,.int .i64 Z0,.slice B0 m0 q0,.int .i64 ek,.string ex,.bool et,.int .i64 tk,.string tx,.int .i64 tz,.slice tA tm tq,.slice KA kn kc,.slice LA ln lc] 59))
    clear hv ho c3 HP hg3 hx hr3 hown hrow hown3 HBU
    go_wp2_with (at_builtin;refine wpList_append_own_at _ rfl (.tmp 25) (.tmp 27) 23 rfl w0.heap.size 59 i0 _ 17 264 Tryz.underlying23 hi0 hz0 hz1 hz2 rfl (by decide) _ n vs rfl HO3.out ⟨w3.heap.size+1,0,none⟩ 1 1 [.int .i64 k0,.string s,.slice V vm vq,.slice G gm gq,.int .i64 K0,.string X0,.int .i64 Z0,.slice B0 m0 q0,.int .i64 ek,.string ex,.bool et,.int .i64 tk,.string tx,.int .i64 tz,.slice tA tm tq,.slice KA kn kc,.slice LA ln lc] rfl rfl (new_cells' _ _ _ _ (by simp)) (by intro u hu;simp at hu;rcases hu with rfl|rfl|rfl|rfl|rfl|rfl|rfl|rfl|rfl|rfl|rfl|rfl|rfl|rfl|rfl|rfl|rfl <;> rfl) (by unfold maxLen;omega) (by omega) (by simp;omega) ?_;intro v2 w5 hown5 hgrow _ hat5;obtain⟨A2,c2,rfl⟩:=own_shape hown5;have HO5:=hidE hown5;have HG5:=hidE hgrow;have HT5:=hidE hat5;clear hown5 hgrow hat5)
    have hs5:=HG5.out.size
    simp at hs5
    have hk5:∀k,k<w0.heap.size->w5.heap[k]? = w3.heap[k]?:=λk hk=>(HG5.out.block k (by simp;omega) (λe=>by have:=HLT _ e.symm;omega)).trans ((Below.heap_alloc _ _ _ (by simp;omega)).trans (Below.heap_alloc _ _ _ (by omega)))
    go_roundg r2.length
    case measure=>rw[HRN.out];omega
    case rel =>
     refine⟨r2,f1,done++[px],A2,c2,rfl,?_,HG3.out,?_,by omega,by omega,hidE (HR3.out.keep (hk5 b hb) (λg hg=>hk5 g (HS.out g hg).2)),hidE ?_,hidE ?_,hidE ((((HC2.out.trans C3.out).alloc _).alloc _).grown HG5.out (λj hj=>.inl (by have:=HLT _ hj;omega)))⟩
     ·rw[<-List.append_assoc,List.length_append,HN.out];rfl
     ·rw[List.length_append,HL.out];simp;omega
     ·rw[HV.out];simp[Function.comp_def]
     ·rw[<-List.append_assoc,show([x0]++done++[px]).length=n+1 by rw[List.length_append,HN.out];rfl]
      exact BuiltG.next (w:=w2) (w1:=w3) hb (by omega) (by rw[HN.out];exact HOWN.out) HROW.out C3.out HX.out (((Below.refl _ w3).alloc (Nat.le_refl _) _).alloc (by simp) _) (by rw[HN.out];exact HO5.out) HG5.out HT5.out
end Go.Proofs.YtknkclefoiohpaaGreatDoor

namespace Go.Proofs.YtknkclefoiohpaaGreatDoor
open Go.RowKit Lx Tx Sx
set_option maxRecDepth 100000
set_option maxHeartbeats 3200000 in
theorem sx_separatedD(f:Nat)(S:Nat->Prop)(b:Nat)(l:List Tok)(w:World)(h:RdrS S w b l)(hS:∀g,S g->g≠b/\g<w.heap.size)(hG:AllG l)(hl:l.length<=100000)(hf:3*l.length<=f)
  (IH:∀f1,f1<=f->GReads pcD shD S b 75 0 (λ(_:Nat)=>rdDecl) f1)(hrd:∀(f1:Nat)(l:List Tok)(x:De)(r:List Tok),AllG l->(λ(_:Nat)=>rdDecl) f1 l=some (x,r)->AllG r/\r.length<l.length) :
  Calls Tryz.prog 125 #[.pointer (some ⟨b,0,none⟩),.func (.func 75) #[.pointer (some ⟨b,0,none⟩)] #[]] w (LPost pcD S b w (sepM (λ(_:Nat)=>rdDecl) f l)):=by
 have hbl:=h.lt
 obtain⟨w0,hw0⟩:∃x,w.alloc (.cells #[.pointer (some ⟨b,0,none⟩)] 144)=x:=⟨_,rfl⟩
 have z0:w0.heap.size=w.heap.size+1:=by rw[<-hw0];simp
 have hb0:w0.cell? ⟨w.heap.size,0,none⟩=some (.pointer (some ⟨b,0,none⟩)):=by
  have hB:Blk w0 w.heap.size 144 #[.pointer (some ⟨b,0,none⟩)]:=hw0▸heap_alloc_new w _
  exact hB.cell 0
 have c0:ChR b w w0:=hw0▸(ChR.refl b w).alloc _
 have h0:RdrS S w0 b l:=hw0▸h.alloc _ (λg hg=>(hS g hg).2)
 have hS0:∀g,S g->g≠b/\g<w0.heap.size:=λg hg=>⟨(hS g hg).1,by have:=(hS g hg).2;omega⟩
 have HC0:=hidE c0
 have HB0:=hidE hb0
 have HP:=hidE (IH f (Nat.le_refl _) w0 l h0 hS0 hG hl (by omega))
 obtain⟨O,hO⟩:∃O,(λ(_:Nat)=>rdDecl) f l=O:=⟨_,rfl⟩
 rw[hO]at HP
 have HO:=hidE hO
 obtain⟨M,hM⟩:∃M,sepM (λ(_:Nat)=>rdDecl) f l=M:=⟨_,rfl⟩
 rw[hM]
 have HM:=hidE hM
 clear hM
 have HS:=hidE hS0
 have HIH:=hidE IH
 have HRD:=hidE hrd
 have HG:=hidE hG
 clear h h0 hO hS hS0 IH hrd hG c0
 go_enter Tryz.func125,Tryz.ntmps125
 go_wp2_with fail
 try rw[hw0]
 refine HP.out.mono ?_
 clear hw0 hb0
 rintro e w2 ⟨c2,cs,hsh,hcs⟩
 obtain⟨k0,s,V,vm,vq,G,gm,gq,K0,X0,Z0,B0,m0,q0,ek,ex,et,tk,tx,tz,tA,tm,tq,KA,kn,kc,LA,ln,lc,rfl⟩:=hsh
 have hs2:=c2.size
 clear HP
 rcases hcs with⟨ho,rfl⟩|⟨px,r2,ho,rfl,hx,hr2⟩
 ·have HO2:Hid (M=none):=hidE (by rw[<-HM.out,sepM,HO.out,ho])
  have C2:=hidE c2
  clear ho c2
  go_wp2_with fail
  go_ret2
  exact LPost.pre HC0.out ⟨C2.out.alloc _,none,0,0,.inl ⟨HO2.out,rfl⟩⟩
 ·subst ho
  have hg2:=HRD.out f l px r2 HG.out HO.out
  have hlr:=hg2.2
  have HQ:=hidE (sx_longerD f S b r2 w0 ((w2.alloc (.cells #[.int .i64 k0,.string s,.slice V vm vq,.slice G gm gq,.int .i64 K0,.string X0,.int .i64 Z0,.slice B0 m0 q0,.int .i64 ek,.string ex,.bool et,.int .i64 tk,.string tx,.int .i64 tz,.slice tA tm tq,.slice KA kn kc,.slice LA ln lc] 59)).alloc (.cells #[.int .i64 k0,.string s,.slice V vm vq,.slice G gm gq,.int .i64 K0,.string X0,.int .i64 Z0,.slice B0 m0 q0,.int .i64 ek,.string ex,.bool et,.int .i64 tk,.string tx,.int .i64 tz,.slice tA tm tq,.slice KA kn kc,.slice LA ln lc] 59)) px (w2.heap.size+1) w.heap.size HB0.out (by omega) (BuiltG.one (S:=λg=>w0.heap.size<=g/\g<w2.heap.size) hx (λg hg=>hg) hs2 _)
   ((hr2.alloc _ (λg hg=>by have:=(HS.out g hg).2;omega)).alloc _ (λg hg=>by have:=(HS.out g hg).2;simp;omega)) HS.out (by omega) ((c2.alloc _).alloc _) hg2.1 (by omega) (by omega) HIH.out HRD.out)
  clear hg2 hlr hx hr2 c2
  obtain⟨O2,hO2⟩:∃O2,manyF semB List.tail (λ(_:Nat)=>rdDecl) f r2=O2:=⟨_,rfl⟩
  have HO2:Hid (M=O2.map λz=>(px::z.1,z.2)):=hidE (by rw[<-HM.out,sepM,HO.out,<-hO2])
  rw[hO2]at HQ
  clear hO2
  go_wp2_with fail
  refine HQ.out.mono ?_
  rintro e w3 ⟨c3,A,m,c,hcs⟩
  have C3:=hidE c3
  clear c3 HQ
  rcases hcs with⟨ho,rfl⟩|⟨xs,r3,ho,rfl,hm,hx,hr3⟩
  ·have HO:=hidE (HO2.out.trans ho)
   clear ho
   go_wp2_with fail
   go_ret2
   exact LPost.pre HC0.out ⟨C3.out,A,m,c,.inl ⟨HO.out,rfl⟩⟩
  ·have HO:=hidE (HO2.out.trans ho)
   have HM:=hidE hm
   have HX:=hidE hx
   have HR:=hidE hr3
   clear ho hm hx hr3
   go_wp2_with fail
   go_ret2
   exact LPost.pre HC0.out ⟨C3.out,A,m,c,.inr ⟨xs,r3,HO.out,rfl,HM.out,HX.out,HR.out⟩⟩
end Go.Proofs.YtknkclefoiohpaaGreatDoor
