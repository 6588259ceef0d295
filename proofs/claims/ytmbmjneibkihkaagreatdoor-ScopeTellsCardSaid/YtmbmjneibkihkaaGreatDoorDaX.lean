/-
  Contracts of the code's functions, part 24.
-/
import Derived.Test.YtmbmjneibkihkaaGreatDoorDaW
namespace Go.Proofs.YtmbmjneibkihkaaGreatDoor
open Go.RowKit Lx Tx Sx
set_option maxRecDepth 100000
theorem wt_pos(e:Ex):1<=e.wt:=by
 induction e using Ex.rec (motive_2:=λ_=>True) (motive_3:=λ_=>True) <;> first|trivial|(simp only[Ex.wt];omega)
theorem rdE_len(f1:Nat)(l:List Tok)(x:Ex)(r:List Tok)(hG:AllG l)(h:rdE f1 l=some (x,r)):AllG r/\r.length<l.length:=by
 obtain⟨-,h1,h2⟩:=(rd_facts f1).1 l x r hG h
 have:=wt_pos x
 exact⟨h1,by omega⟩
def parH(y:Ex):Option (Ty × List Tok)->Option (Ex × List Tok)
 | none=>none
 | some z=>if isHd z.2 6 [41]=true then some (.ann y z.1,z.2.tail) else none
def parG(y:Ex)(r:List Tok):Option (Ex × List Tok) :=
 if isHd r 6 [58]=true then parH y (typ r.tail)
 else if isHd r 6 [41]=true then some (y,r.tail) else none
theorem parF_eq(f:Nat)(l:List Tok):parF f l=match rdE f l with|none=>none|some y=>parG y.1 y.2:=by
 rw[parF]
 cases rdE f l with
 | none=>rfl
 | some y =>
  simp only[parG]
  by_cases h:isHd y.2 6 [58]=true
  ·simp only[if_pos h]
   cases typ y.2.tail <;> rfl
  ·simp only[if_neg h]
set_option maxHeartbeats 6400000 in
theorem sx_inPar(f:Nat)(S:Nat->Prop)(b:Nat)(l:List Tok)(w:World)(h:RdrS S w b l)(hS:∀g,S g->g≠b/\g<w.heap.size)(hG:AllG l)(hl:l.length<=100000)(hf:3*l.length+3<=f)
  (IH:GReads pcE shE S b 50 3 rdE f) :
  Calls Tryz.prog 171 #[.pointer (some ⟨b,0,none⟩)] w (GPost pcE shE S b w (parF f l)):=by
 have hbl:=h.lt
 have hE:=IH (w.alloc (.cells exZ 39)) l (h.alloc _ (λg hg=>(hS g hg).2)) (λg hg=>⟨(hS g hg).1,by have:=(hS g hg).2;simp;omega⟩) hG hl hf
 obtain⟨O,hO⟩:∃O,rdE f l=O:=⟨_,rfl⟩
 rw[hO]at hE
 obtain⟨M,hM⟩:∃M,parF f l=M:=⟨_,rfl⟩
 rw[hM]
 rw[parF_eq,hO]at hM
 unfold exZ at hE
 have HE:=hidE hE
 have HM0:=hidE hM
 have HO:=hidE hO
 have HS:=hidE hS
 have HG:=hidE hG
 clear h hS hE hM hO hG IH hf
 go_enter Tryz.func171,Tryz.ntmps171
 go_wp2_with fail
 refine HE.out.mono ?_
 rintro e w2 ⟨c2,cs,hsh,hcs⟩
 obtain⟨ck,cx,ct,cK,cX,cZ,cB,cm,cq,cKA,ckn,ckc,cLA,cln,clc,rfl⟩:=hsh
 have hs2:=c2.size
 simp at hs2
 have hbk:Blk w2 w.heap.size 39 exZ:=Blk.chgR (heap_alloc_new _ _) c2 (by unfold only;omega)
 obtain⟨W,hW⟩:∃W,w2.alloc (.cells #[.int .i64 ck,.string cx,.bool ct,.int .i64 cK,.string cX,.int .i64 cZ,.slice cB cm cq,.slice cKA ckn ckc,.slice cLA cln clc] 39)=W:=⟨_,rfl⟩
 have hbw:Below w2.heap.size w2 W:=hW▸(Below.refl _ w2).alloc (Nat.le_refl _) _
 have hsW:W.heap.size=w2.heap.size+1:=by rw[<-hW];simp
 have hb4:Blk W w2.heap.size 39 #[.int .i64 ck,.string cx,.bool ct,.int .i64 cK,.string cX,.int .i64 cZ,.slice cB cm cq,.slice cKA ckn ckc,.slice cLA cln clc]:=hW▸heap_alloc_new _ _
 have hb2:Blk W w.heap.size 39 exZ:=(hbw.block _ hbk.lt).trans hbk
 have HB4:=hidE hb4
 have HB2:=hidE hb2
 have HCW:=hidE (c2.pre.below hbw)
 have HBW:=hidE hbw
 clear hbk c2 HE hb4 hb2 hbw
 rcases hcs with⟨ho,rfl⟩|⟨y,r2,ho,rfl,hrd,hrr⟩
 ·subst ho
  go_upto_region 2 with fail
  try rw[hW]
  clear hW
  go_upto_region 6 with fail
  obtain⟨⟨f0,f1,f2,f3,f4,f5,f6,f7,f8⟩,-,hl4⟩:=blk_facts9 HB4.out
  obtain⟨⟨g0,g1,g2,g3,g4,g5,g6,g7,g8⟩,⟨z0,z1,z2,z3,z4,z5,z6,z7,z8⟩,hl2⟩:=blk_facts9 HB2.out
  go_region
  all_goals
   go_wp2_with fail
   try simp only[Exit.inBlock,Exit.then]
   refine bodyPost_ret (results_ct rfl _ _ w.heap.size 39 _ (0,0) _ rfl ((blk_set9 _ _ _ _ _ _ _ _ _ HB2.out).drew) Tryz.underlying39 rfl (by kernel_rfl)) rfl ?_
   exact⟨(HCW.out.set9 _ _ _ _ _ _ _ _ _ (Nat.le_refl _)).drew,_,⟨_,_,_,_,_,_,_,_,_,_,_,_,_,_,_,rfl⟩,.inl ⟨HM0.out.symm,rfl⟩⟩
 ·subst ho
  have hg2:=rdE_len f l y r2 HG.out HO.out
  have HM1:Hid (M=parG y r2):=hidE HM0.out.symm
  have HLR:Hid (r2.length<=100000):=hidE (by have:=hg2.2;omega)
  have HRW:=hidE (hrr.below HBW.out (λg hg=>by have:=(HS.out g hg).2;omega))
  have HXW:=hidE (pcE.keep (S':=λg=>w.heap.size<=g/\g<w2.heap.size/\g≠w.heap.size) (λg hg=>⟨by have:=hg.1;simp at this;omega,hg.2,by have:=hg.1;simp at this;omega⟩) (λg hg=>HBW.out.block g hg.2) hrd)
  have hSG:=sx_signR S b r2 ⟨#[58]⟩ W HRW.out (λg hg=>⟨(HS.out g hg).1,by have:=(HS.out g hg).2;omega⟩) HLR.out
  obtain⟨q2,hq2⟩:∃q,isHd r2 6 [58]=q:=⟨_,rfl⟩
  rw[show(⟨#[58]⟩:ByteArray).data.toList=[58] from rfl,took,hq2]at hSG
  have HSG:=hidE hSG
  have HG2:=hidE hg2.1
  have HQ2:=hidE hq2
  clear hSG hrd hrr hq2 hg2
  go_upto_region 2 with fail
  try rw[hW]
  clear hW
  go_wp2_with fail
  refine HSG.out.mono ?_
  rintro e w3 ⟨rfl,hr3,c3⟩
  have hs3:=c3.size
  have HXW:=hidE (pcE.keep (S':=λg=>w.heap.size<=g/\g<w2.heap.size/\g≠w.heap.size) (λg hg=>hg) (λg hg=>c3.block g (by omega) (by unfold only;omega)) HXW.out)
  have HB4:=hidE (HB4.out.chgR c3 (by unfold only;omega))
  have HB2:=hidE (HB2.out.chgR c3 (by unfold only;omega))
  have HCW:=hidE (HCW.out.trans c3)
  clear c3 HSG HRW HBW
  cases q2 with
  | false =>
   rw[if_neg (by decide)]at hr3
   have HM:Hid (M=if isHd r2 6 [41]=true then some (y,r2.tail) else none):=hidE (by rw[HM1.out,parG,HQ2.out,if_neg (by decide)])
   have HRR:=hidE hr3
   clear hr3
   go_upto_region 6 with fail
   obtain⟨q6,hq6⟩:∃q,isHd r2 6 [41]=q:=⟨_,rfl⟩
   have HSG:Hid (∀V:World,RdrS S V b r2->w.heap.size<=V.heap.size->Calls Tryz.prog 101 #[.pointer (some ⟨b,0,none⟩),.string ⟨#[41]⟩] V λe w'=>e=.returned (.bool q6)/\RdrS S w' b (if q6=true then r2.tail else r2)/\ChR b V w'):=hidE λV hr hv=>by
    have:=sx_signR S b r2 ⟨#[41]⟩ V hr (λg hg=>⟨(HS.out g hg).1,by have:=(HS.out g hg).2;omega⟩) (by have:=HLR.out;omega)
    rw[show(⟨#[41]⟩:ByteArray).data.toList=[41] from rfl,took,hq6]at this
    exact this
   have HQ6:=hidE hq6
   have SOF:Hid (∀V:World,V.heap[w2.heap.size]? = w3.heap[w2.heap.size]?->V.cell? ⟨w2.heap.size,0,none⟩=some (.int .i64 ck)/\V.cell? ⟨w2.heap.size,1,none⟩=some (.string cx)/\V.cell? ⟨w2.heap.size,2,none⟩=some (.bool ct)/\V.cell? ⟨w2.heap.size,3,none⟩=some (.int .i64 cK)/\V.cell? ⟨w2.heap.size,4,none⟩=some (.string cX)/\V.cell? ⟨w2.heap.size,5,none⟩=some (.int .i64 cZ)/\V.cell? ⟨w2.heap.size,6,none⟩=some (.slice cB cm cq)/\V.cell? ⟨w2.heap.size,7,none⟩=some (.slice cKA ckn ckc)/\V.cell? ⟨w2.heap.size,8,none⟩=some (.slice cLA cln clc)):=hidE λV hV=>(blk_facts9 (hV.trans HB4.out)).1
   have SET:Hid (∀(V:World) (u0 u1 u2 u3 u4 u5 u6 u7 u8:Value),V.heap[w2.heap.size]? = w3.heap[w2.heap.size]?->(((((((((V.setCell ⟨w.heap.size,0,none⟩ u0).setCell ⟨w.heap.size,1,none⟩ u1).setCell ⟨w.heap.size,2,none⟩ u2).setCell ⟨w.heap.size,3,none⟩ u3).setCell ⟨w.heap.size,4,none⟩ u4).setCell ⟨w.heap.size,5,none⟩ u5).setCell ⟨w.heap.size,6,none⟩ u6).setCell ⟨w.heap.size,7,none⟩ u7).setCell ⟨w.heap.size,8,none⟩ u8).heap[w2.heap.size]? = w3.heap[w2.heap.size]?):=hidE λV u0 u1 u2 u3 u4 u5 u6 u7 u8 hV=>(set9_far V w.heap.size w2.heap.size u0 u1 u2 u3 u4 u5 u6 u7 u8 (by omega)).trans hV
   obtain⟨f0,f1,f2,f3,f4,f5,f6,f7,f8⟩:=SOF.out w3 rfl
   have B0:Hid (w3.drew.heap[w2.heap.size]? = w3.heap[w2.heap.size]?):=hidE rfl
   have R0:Hid (RdrS S w3.drew b r2):=hidE (HRR.out.keep rfl (λ_ _=>rfl))
   have hW2:w.heap.size<=w3.drew.heap.size:=by rw[heap_drew];exact HCW.out.size
   clear hq6
   go_region_held3 (λV=>V.cell? ⟨w2.heap.size,0,none⟩=some (.int .i64 ck)/\V.cell? ⟨w2.heap.size,1,none⟩=some (.string cx)/\V.cell? ⟨w2.heap.size,2,none⟩=some (.bool ct)/\V.cell? ⟨w2.heap.size,3,none⟩=some (.int .i64 cK)/\V.cell? ⟨w2.heap.size,4,none⟩=some (.string cX)/\V.cell? ⟨w2.heap.size,5,none⟩=some (.int .i64 cZ)/\V.cell? ⟨w2.heap.size,6,none⟩=some (.slice cB cm cq)/\V.cell? ⟨w2.heap.size,7,none⟩=some (.slice cKA ckn ckc)/\V.cell? ⟨w2.heap.size,8,none⟩=some (.slice cLA cln clc)) (first|(with_reducible exact SOF.out _ B0.out)|(with_reducible exact SOF.out _ B5.out)|(with_reducible exact SOF.out _ (SET.out _ _ _ _ _ _ _ _ _ _ B5.out))) (((with_reducible refine(HSG.out _ R0.out hW2).mono ?_);rintro e w5 ⟨rfl,r5,c5⟩;have B5:Hid (w5.heap[w2.heap.size]? = w3.heap[w2.heap.size]?):=hidE (c5.block _ HB4.out.lt (by unfold only;omega));have HB5:=hidE (HB2.out.drew.chgR c5 (by unfold only;omega));have R5:=hidE r5;have C5:=hidE ((HCW.out.drew).trans c5);obtain⟨⟨g0,g1,g2,g3,g4,g5,g6,g7,g8⟩,⟨z0,z1,z2,z3,z4,z5,z6,z7,z8⟩,hl2⟩:=blk_facts9 HB5.out;have K5:Hid (∀k,k<w3.heap.size->k≠b->w5.heap[k]? = w3.heap[k]?):=hidE (λk hk hne=>c5.block k hk hne);have L5:Hid (w3.heap.size<=w5.heap.size):=hidE c5.size;clear r5 c5))
   all_goals
    go_wp2_with fail
    try simp only[Exit.inBlock,Exit.then]
    refine bodyPost_ret (results_ct rfl _ _ w.heap.size 39 _ (0,0) _ rfl (blk_set9 _ _ _ _ _ _ _ _ _ HB5.out) Tryz.underlying39 rfl (by kernel_rfl)) rfl ?_
    refine⟨C5.out.set9 _ _ _ _ _ _ _ _ _ (Nat.le_refl _),[.int .i64 ck,.string cx,.bool ct,.int .i64 cK,.string cX,.int .i64 cZ,.slice cB cm cq,.slice cKA ckn ckc,.slice cLA cln clc],⟨_,_,_,_,_,_,_,_,_,_,_,_,_,_,_,rfl⟩,?_⟩
    have hL5:=L5.out
    cases q6 with
    | false=>exact .inl ⟨by rw[HM.out,HQ6.out,if_neg (by decide)],rfl⟩
    | true =>
     have hR:=R5.out
     rw[if_pos rfl]at hR
     refine .inr ⟨y,r2.tail,by rw[HM.out,HQ6.out,if_pos rfl],rfl,?_,hR.keep (set9_far _ _ _ _ _ _ _ _ _ _ _ _ (by omega)) (λk hk=>set9_far _ _ _ _ _ _ _ _ _ _ _ _ (by have:=(HS.out k hk).2;omega))⟩
     exact pcE.keep (λg hg=>⟨hg.1,by rw[size_set9];omega⟩) (λg hg=>(set9_far _ _ _ _ _ _ _ _ _ _ _ _ hg.2.2).trans (K5.out g (by omega) (by omega))) HXW.out
  | true =>
   rw[if_pos rfl]at hr3
   obtain⟨t0,r0,e0,-,-⟩:=isHd_ne r2 6 [58] (by decide) HQ2.out
   have HT:=hidE (sx_whole S b r2.tail (w3.alloc (.cells tyZ 35)) (hr3.alloc _ (λg hg=>by have:=(HS.out g hg).2;omega)) (λg hg=>⟨(HS.out g hg).1,by have:=(HS.out g hg).2;simp;omega⟩) (AllG.tail' HG2.out) (by have:=HLR.out;rw[e0]at this ⊢;simp at this ⊢;omega))
   unfold tyZ at HT
   obtain⟨O2,hO2⟩:∃O2,typ r2.tail=O2:=⟨_,rfl⟩
   have HM2:Hid (M=parH y O2):=hidE (by rw[HM1.out,parG,HQ2.out,if_pos rfl,<-hO2])
   have HLR2:Hid (∀z,O2=some z->z.2.length<=100000):=hidE λz hz=>by
    obtain⟨-,-,h3⟩:=typ_facts (AllG.tail' HG2.out) (show typ r2.tail=some (z.1,z.2) by rw[hO2,hz])
    have:=HLR.out
    rw[e0]at this h3
    simp at this h3
    omega
   rw[hO2]at HT
   clear hr3 e0 hO2 HLR
   go_wp2_with fail
   refine HT.out.mono ?_
   rintro e w4 ⟨c4,tK,tX,tZ,tA,tm,tc,hcs⟩
   have hs4:=c4.size
   simp at hs4
   have hb6:Blk w4 w3.heap.size 35 #[.int .i64 0,.string ⟨#[]⟩,.int .i64 0,.slice none 0 0]:=Blk.chgR (heap_alloc_new _ _) c4 (by unfold only;omega)
   have hb4:=(HB4.out.alloc (.cells #[.int .i64 0,.string ⟨#[]⟩,.int .i64 0,.slice none 0 0] 35)).chgR c4 (by unfold only;omega)
   have hb2:=(HB2.out.alloc (.cells #[.int .i64 0,.string ⟨#[]⟩,.int .i64 0,.slice none 0 0] 35)).chgR c4 (by unfold only;omega)
   have HC4:=hidE ((HCW.out.alloc (.cells #[.int .i64 0,.string ⟨#[]⟩,.int .i64 0,.slice none 0 0] 35)).trans c4)
   have HXW:=hidE (pcE.keep (S':=λg=>w.heap.size<=g/\g<w2.heap.size/\g≠w.heap.size) (λg hg=>hg) (λg hg=>(c4.block g (by simp;omega) (by unfold only;omega)).trans (Below.heap_alloc _ _ _ (by omega))) HXW.out)
   obtain⟨VV,hV⟩:∃V,((((((((((((((w4.setCell ⟨w3.heap.size,0,none⟩ (.int .i64 tK)).setCell ⟨w3.heap.size,1,none⟩ (.string tX)).setCell ⟨w3.heap.size,2,none⟩ (.int .i64 tZ)).setCell ⟨w3.heap.size,3,none⟩ (.slice tA tm tc)).setCell ⟨w2.heap.size,0,none⟩ (.int .i64 7)).setCell ⟨w2.heap.size,1,none⟩ (.string ⟨#[]⟩)).setCell ⟨w2.heap.size,2,none⟩ (.bool false)).setCell ⟨w2.heap.size,3,none⟩ (.int .i64 tK)).setCell ⟨w2.heap.size,4,none⟩ (.string tX)).setCell ⟨w2.heap.size,5,none⟩ (.int .i64 tZ)).setCell ⟨w2.heap.size,6,none⟩ (.slice tA tm tc)).setCell ⟨w2.heap.size,7,none⟩ (.slice (some ⟨w4.heap.size,0,none⟩) 1 1)).setCell ⟨w2.heap.size,8,none⟩ (.slice none 0 0)).alloc (.cells #[.int .i64 ck,.string cx,.bool ct,.int .i64 cK,.string cX,.int .i64 cZ,.slice cB cm cq,.slice cKA ckn ckc,.slice cLA cln clc] 39))=V:=⟨_,rfl⟩
   have h6:=blk_set4 (.int .i64 tK) (.string tX) (.int .i64 tZ) (.slice tA tm tc) hb6
   have hfar:∀k,k<w4.heap.size->k≠w3.heap.size->k≠w2.heap.size->VV.heap[k]? = w4.heap[k]?:=λk h1 h2 h3=>by
    rw[<-hV,Below.heap_alloc _ _ _ (by rw[size_set9,size_set4];exact h1),set9_far _ _ _ _ _ _ _ _ _ _ _ _ h3,heap_set4 _ _ _ _ _ _ _ h2]
   have hsV:VV.heap.size=w4.heap.size+1:=by rw[<-hV];simp
   have HB4:Hid (Blk VV w2.heap.size 39 #[.int .i64 7,.string ⟨#[]⟩,.bool false,.int .i64 tK,.string tX,.int .i64 tZ,.slice tA tm tc,.slice (some ⟨w4.heap.size,0,none⟩) 1 1,.slice none 0 0]):=hidE (by
    rw[<-hV]
    exact(blk_set9 _ _ _ _ _ _ _ _ _ ((heap_set4 _ _ _ _ _ _ _ (by omega)).trans hb4)).alloc _)
   have HB2:Hid (Blk VV w.heap.size 39 exZ):=hidE ((hfar _ hb2.lt (by omega) (by omega)).trans hb2)
   have HNW:Hid (Blk VV w4.heap.size 39 #[.int .i64 ck,.string cx,.bool ct,.int .i64 cK,.string cX,.int .i64 cZ,.slice cB cm cq,.slice cKA ckn ckc,.slice cLA cln clc]):=hidE (by
    rw[<-hV]
    have:=heap_alloc_new (((((((((((((w4.setCell ⟨w3.heap.size,0,none⟩ (.int .i64 tK)).setCell ⟨w3.heap.size,1,none⟩ (.string tX)).setCell ⟨w3.heap.size,2,none⟩ (.int .i64 tZ)).setCell ⟨w3.heap.size,3,none⟩ (.slice tA tm tc)).setCell ⟨w2.heap.size,0,none⟩ (.int .i64 7)).setCell ⟨w2.heap.size,1,none⟩ (.string ⟨#[]⟩)).setCell ⟨w2.heap.size,2,none⟩ (.bool false)).setCell ⟨w2.heap.size,3,none⟩ (.int .i64 tK)).setCell ⟨w2.heap.size,4,none⟩ (.string tX)).setCell ⟨w2.heap.size,5,none⟩ (.int .i64 tZ)).setCell ⟨w2.heap.size,6,none⟩ (.slice tA tm tc)).setCell ⟨w2.heap.size,7,none⟩ (.slice (some ⟨w4.heap.size,0,none⟩) 1 1)).setCell ⟨w2.heap.size,8,none⟩ (.slice none 0 0)) (.cells #[.int .i64 ck,.string cx,.bool ct,.int .i64 cK,.string cX,.int .i64 cZ,.slice cB cm cq,.slice cKA ckn ckc,.slice cLA cln clc] 39)
    rwa [size_set9,size_set4]at this)
   have HCW:Hid (ChR b w VV):=hidE (by
    rw[<-hV]
    exact(((HC4.out.set4 _ _ _ _ (by omega)).set9 _ _ _ _ _ _ _ _ _ (by omega)).alloc _))
   have HFAR:=hidE hfar
   obtain⟨⟨f0,f1,f2,f3,f4,f5,f6,f7,f8⟩,⟨y0,y1,y2,y3,y4,y5,y6,y7,y8⟩,hl4⟩:=blk_facts9 hb4
   obtain⟨a0,a1,a2,a3,s0,s1,s2,s3,hl6⟩:=blk_facts4 hb6
   have HXV:=hidE (pcE.keep (S':=λg=>w.heap.size<=g/\g<w2.heap.size/\g≠w.heap.size) (λg hg=>hg) (λg hg=>hfar g (by omega) (by omega) (by omega)) HXW.out)
   clear c4 hb6 hb4 hb2 h6 hfar HT
   rcases hcs with⟨ho,rfl⟩|⟨t,r4,ho,rfl,hrd,hrr⟩
   ·subst ho
    go_upto_region 6 with fail
    try rw[hV]
    clear hV f0 f1 f2 f3 f4 f5 f6 f7 f8 y0 y1 y2 y3 y4 y5 y6 y7 y8 a0 a1 a2 a3 s0 s1 s2 s3
    obtain⟨⟨f0,f1,f2,f3,f4,f5,f6,f7,f8⟩,-,hl4⟩:=blk_facts9 HB4.out
    obtain⟨⟨g0,g1,g2,g3,g4,g5,g6,g7,g8⟩,⟨z0,z1,z2,z3,z4,z5,z6,z7,z8⟩,hl2⟩:=blk_facts9 HB2.out
    go_region
    all_goals
     go_wp2_with fail
     try simp only[Exit.inBlock,Exit.then]
     refine bodyPost_ret (results_ct rfl _ _ w.heap.size 39 _ (0,0) _ rfl ((blk_set9 _ _ _ _ _ _ _ _ _ HB2.out).drew) Tryz.underlying39 rfl (by kernel_rfl)) rfl ?_
     exact⟨(HCW.out.set9 _ _ _ _ _ _ _ _ _ (Nat.le_refl _)).drew,_,⟨_,_,_,_,_,_,_,_,_,_,_,_,_,_,_,rfl⟩,.inl ⟨HM2.out,rfl⟩⟩
   ·subst ho
    have HM:Hid (M=if isHd r4 6 [41]=true then some (.ann y t,r4.tail) else none):=hidE HM2.out
    have HLR:=hidE (HLR2.out _ rfl)
    have HRR:=hidE (hrr.keep (HFAR.out b (by omega) (by omega) (by omega)) (λg hg=>HFAR.out g (by have:=(HS.out g hg).2;omega) (by have:=(HS.out g hg).2;omega) (by have:=(HS.out g hg).2;omega)))
    have HTY:Hid (RdV (λg=>w3.heap.size<g/\g<w4.heap.size) VV t (.agg #[.int .i64 tK,.string tX,.int .i64 tZ,.slice tA tm tc])):=hidE (hrd.keep (λg hg=>⟨by have:=hg.1;simp at this;omega,hg.2⟩) (λg hg=>HFAR.out g hg.2 (by have:=hg.1;simp at this;omega) (by have:=hg.1;simp at this;omega)))
    clear hrd hrr
    go_upto_region 6 with fail
    try rw[hV]
    clear hV f0 f1 f2 f3 f4 f5 f6 f7 f8 y0 y1 y2 y3 y4 y5 y6 y7 y8 a0 a1 a2 a3 s0 s1 s2 s3
    obtain⟨q6,hq6⟩:∃q,isHd r4 6 [41]=q:=⟨_,rfl⟩
    have HSG:Hid (∀V:World,RdrS S V b r4->w.heap.size<=V.heap.size->Calls Tryz.prog 101 #[.pointer (some ⟨b,0,none⟩),.string ⟨#[41]⟩] V λe w'=>e=.returned (.bool q6)/\RdrS S w' b (if q6=true then r4.tail else r4)/\ChR b V w'):=hidE λV hr hv=>by
     have:=sx_signR S b r4 ⟨#[41]⟩ V hr (λg hg=>⟨(HS.out g hg).1,by have:=(HS.out g hg).2;omega⟩) (by have:=HLR.out;omega)
     rw[show(⟨#[41]⟩:ByteArray).data.toList=[41] from rfl,took,hq6]at this
     exact this
    have HQ6:=hidE hq6
    have SOF:Hid (∀V:World,V.heap[w2.heap.size]? = VV.heap[w2.heap.size]?->V.cell? ⟨w2.heap.size,0,none⟩=some (.int .i64 7)/\V.cell? ⟨w2.heap.size,1,none⟩=some (.string ⟨#[]⟩)/\V.cell? ⟨w2.heap.size,2,none⟩=some (.bool false)/\V.cell? ⟨w2.heap.size,3,none⟩=some (.int .i64 tK)/\V.cell? ⟨w2.heap.size,4,none⟩=some (.string tX)/\V.cell? ⟨w2.heap.size,5,none⟩=some (.int .i64 tZ)/\V.cell? ⟨w2.heap.size,6,none⟩=some (.slice tA tm tc)/\V.cell? ⟨w2.heap.size,7,none⟩=some (.slice (some ⟨w4.heap.size,0,none⟩) 1 1)/\V.cell? ⟨w2.heap.size,8,none⟩=some (.slice none 0 0)):=hidE λV hV=>(blk_facts9 (hV.trans HB4.out)).1
    have SET:Hid (∀(V:World) (u0 u1 u2 u3 u4 u5 u6 u7 u8:Value),V.heap[w2.heap.size]? = VV.heap[w2.heap.size]?->(((((((((V.setCell ⟨w.heap.size,0,none⟩ u0).setCell ⟨w.heap.size,1,none⟩ u1).setCell ⟨w.heap.size,2,none⟩ u2).setCell ⟨w.heap.size,3,none⟩ u3).setCell ⟨w.heap.size,4,none⟩ u4).setCell ⟨w.heap.size,5,none⟩ u5).setCell ⟨w.heap.size,6,none⟩ u6).setCell ⟨w.heap.size,7,none⟩ u7).setCell ⟨w.heap.size,8,none⟩ u8).heap[w2.heap.size]? = VV.heap[w2.heap.size]?):=hidE λV u0 u1 u2 u3 u4 u5 u6 u7 u8 hV=>(set9_far V w.heap.size w2.heap.size u0 u1 u2 u3 u4 u5 u6 u7 u8 (by omega)).trans hV
    obtain⟨f0,f1,f2,f3,f4,f5,f6,f7,f8⟩:=SOF.out VV rfl
    have B0:Hid (VV.drew.heap[w2.heap.size]? = VV.heap[w2.heap.size]?):=hidE rfl
    have R0:Hid (RdrS S VV.drew b r4):=hidE (HRR.out.keep rfl (λ_ _=>rfl))
    have hW2:w.heap.size<=VV.drew.heap.size:=by rw[heap_drew];exact HCW.out.size
    clear hq6
    go_region_held3 (λV=>V.cell? ⟨w2.heap.size,0,none⟩=some (.int .i64 7)/\V.cell? ⟨w2.heap.size,1,none⟩=some (.string ⟨#[]⟩)/\V.cell? ⟨w2.heap.size,2,none⟩=some (.bool false)/\V.cell? ⟨w2.heap.size,3,none⟩=some (.int .i64 tK)/\V.cell? ⟨w2.heap.size,4,none⟩=some (.string tX)/\V.cell? ⟨w2.heap.size,5,none⟩=some (.int .i64 tZ)/\V.cell? ⟨w2.heap.size,6,none⟩=some (.slice tA tm tc)/\V.cell? ⟨w2.heap.size,7,none⟩=some (.slice (some ⟨w4.heap.size,0,none⟩) 1 1)/\V.cell? ⟨w2.heap.size,8,none⟩=some (.slice none 0 0)) (first|(with_reducible exact SOF.out _ B0.out)|(with_reducible exact SOF.out _ B5.out)|(with_reducible exact SOF.out _ (SET.out _ _ _ _ _ _ _ _ _ _ B5.out))) (((with_reducible refine(HSG.out _ R0.out hW2).mono ?_);rintro e w5 ⟨rfl,r5,c5⟩;have B5:Hid (w5.heap[w2.heap.size]? = VV.heap[w2.heap.size]?):=hidE (c5.block _ HB4.out.lt (by unfold only;omega));have HB5:=hidE (HB2.out.drew.chgR c5 (by unfold only;omega));have R5:=hidE r5;have C5:=hidE ((HCW.out.drew).trans c5);obtain⟨⟨g0,g1,g2,g3,g4,g5,g6,g7,g8⟩,⟨z0,z1,z2,z3,z4,z5,z6,z7,z8⟩,hl2⟩:=blk_facts9 HB5.out;have K5:Hid (∀k,k<VV.heap.size->k≠b->w5.heap[k]? = VV.heap[k]?):=hidE (λk hk hne=>c5.block k hk hne);have L5:Hid (VV.heap.size<=w5.heap.size):=hidE c5.size;clear r5 c5))
    all_goals
     go_wp2_with fail
     try simp only[Exit.inBlock,Exit.then]
     refine bodyPost_ret (results_ct rfl _ _ w.heap.size 39 _ (0,0) _ rfl (blk_set9 _ _ _ _ _ _ _ _ _ HB5.out) Tryz.underlying39 rfl (by kernel_rfl)) rfl ?_
     refine⟨C5.out.set9 _ _ _ _ _ _ _ _ _ (Nat.le_refl _),[.int .i64 7,.string ⟨#[]⟩,.bool false,.int .i64 tK,.string tX,.int .i64 tZ,.slice tA tm tc,.slice (some ⟨w4.heap.size,0,none⟩) 1 1,.slice none 0 0],⟨_,_,_,_,_,_,_,_,_,_,_,_,_,_,_,rfl⟩,?_⟩
     have hL5:=L5.out
     cases q6 with
     | false=>exact .inl ⟨by rw[HM.out,HQ6.out,if_neg (by decide)],rfl⟩
     | true =>
      have hR:=R5.out
      rw[if_pos rfl]at hR
      refine .inr ⟨(.ann y t),r4.tail,by rw[HM.out,HQ6.out,if_pos rfl],rfl,?_,hR.keep (set9_far _ _ _ _ _ _ _ _ _ _ _ _ (by omega)) (λk hk=>set9_far _ _ _ _ _ _ _ _ _ _ _ _ (by have:=(HS.out k hk).2;omega))⟩
      obtain⟨A',a',hv',hA'⟩:=HTY.out
      injection hv' with hv'
      have hv':=congrArg Array.toList hv'
      simp only[List.cons.injEq,Value.int.injEq,Value.string.injEq,Value.slice.injEq,and_true,true_and]at hv'
      obtain⟨rfl,rfl,rfl,rfl,rfl,rfl⟩:=hv'
      refine⟨⟨tA,tc,some ⟨w4.heap.size,0,none⟩,0,none,0⟩,by simp[exC,kdE,nmE,toE,tyE,tyC,tyV,kidsE,altsE,Sx.strV],?_,?_⟩
      ·exact Args.keep (λg hg=>⟨by omega,by rw[size_set9];omega⟩) (λg hg=>(set9_far _ _ _ _ _ _ _ _ _ _ _ _ (by omega)).trans (K5.out g (by omega) (by omega))) _ _ hA'
      ·rw[ExIn]
       exact⟨_,rfl,⟨by omega,by rw[size_set9];omega⟩,kid_new HXV.out (λk hk=>⟨hk.1,by rw[size_set9];omega⟩) (λk hk=>(set9_far _ _ _ _ _ _ _ _ _ _ _ _ hk.2.2).trans (K5.out k (by omega) (by omega))) ((set9_far _ _ _ _ _ _ _ _ _ _ _ _ (by omega)).trans ((K5.out _ (by omega) (by omega)).trans HNW.out))⟩
end Go.Proofs.YtmbmjneibkihkaaGreatDoor

namespace Go.Proofs.YtmbmjneibkihkaaGreatDoor
open Go.RowKit Lx Tx Sx
set_option maxRecDepth 100000
def atmG(f:Nat)(l:List Tok):Option (Ex × List Tok):=if isHd l 6 [40]=true then parF f l.tail else if(hd l).kind=2 then some (.con (hd l).text,l.tail) else none
theorem rdAtom_eq'(f:Nat)(l:List Tok):rdAtom (f+1) l=if(hd l).kind=1 then some (.var (hd l).text,l.tail) else atmG f l:=rdAtom_eq f l
set_option maxHeartbeats 3200000 in
theorem sx_atom(f:Nat)(S:Nat->Prop)(b:Nat)(l:List Tok)(w:World)(h:RdrS S w b l)(hS:∀g,S g->g≠b/\g<w.heap.size)(hG:AllG l)(hl:l.length<=100000)(hf:3*l.length<=f)
  (IH:GReads pcE shE S b 50 3 rdE f) :
  Calls Tryz.prog 142 #[.pointer (some ⟨b,0,none⟩)] w (GPost pcE shE S b w (rdAtom (f+1) l)):=by
 have hbl:=h.lt
 have hV:=sx_variableR S b l (w.alloc (.cells exZ 39)) (h.alloc _ (λg hg=>(hS g hg).2)) (λg hg=>⟨(hS g hg).1,by have:=(hS g hg).2;simp;omega⟩) hl
 unfold exZ at hV
 obtain⟨M,hM⟩:∃M,rdAtom (f+1) l=M:=⟨_,rfl⟩
 rw[hM]
 rw[rdAtom_eq']at hM
 obtain⟨q,hq⟩:∃q,((hd l).kind==1)=q:=⟨_,rfl⟩
 rw[hq]at hV
 obtain⟨X,hX⟩:∃X,anyT l 1=X:=⟨_,rfl⟩
 obtain⟨r2,hr2⟩:∃x,anyR l 1=x:=⟨_,rfl⟩
 rw[hX,hr2]at hV
 have HV:=hidE hV
 have HS:=hidE hS
 clear h hS hV
 cases q with
 | true =>
  have hk:(hd l).kind=1:=by simpa using hq
  have hX2:(hd l).text=X.data.toList:=by rw[<-hX,anyT,if_pos hk]
  have hr3:l.tail=r2:=by rw[<-hr2,anyR,if_pos hk]
  rw[if_pos hk,hX2,hr3]at hM
  have HM:=hidE hM
  clear hk hq hf IH hG hl hM hX hr2 hX2 hr3
  go_enter Tryz.func142,Tryz.ntmps142
  go_wp2_with fail
  refine HV.out.mono ?_
  rintro e w1 ⟨rfl,r1,c1⟩
  have hs1:=c1.size
  simp at hs1
  have hbk:Blk w1 w.heap.size 39 exZ:=Blk.chgR (heap_alloc_new _ _) c1 (by unfold only;omega)
  have hlw:=hbk.lt
  obtain⟨⟨g0,g1,g2,g3,g4,g5,g6,g7,g8⟩,z0,z1,z2,z3,z4,z5,z6,z7,z8⟩:=z9 hbk
  have HBK:=hidE hbk
  have HC:=hidE c1.pre
  have HR:=hidE r1
  clear hbk c1 r1 HV
  go_wp2_with fail
  try simp only[Exit.inBlock,Exit.then]
  refine bodyPost_ret (results_ct rfl _ _ w.heap.size 39 _ (0,0) _ rfl (blk_set9 _ _ _ _ _ _ _ _ _ HBK.out) Tryz.underlying39 rfl (by kernel_rfl)) rfl ?_
  refine⟨HC.out.set9 _ _ _ _ _ _ _ _ _ (Nat.le_refl _),_,⟨_,_,_,_,_,_,_,_,_,_,_,_,_,_,_,rfl⟩,.inr ⟨.var X.data.toList,r2,HM.out.symm,rfl,?_,HR.out.keep (set9_far _ _ _ _ _ _ _ _ _ _ _ _ (by omega)) (λk hk=>set9_far _ _ _ _ _ _ _ _ _ _ _ _ (by have:=(HS.out k hk).2;omega))⟩⟩
  exact⟨⟨none,0,none,0,none,0⟩,by simp[exC,kdE,nmE,toE,tyE,tyC,kidsE,altsE,Sx.strV],trivial,by rw[ExIn];trivial⟩
 | false =>
  have hk:¬(hd l).kind=1:=by simpa using hq
  have hr3:l=r2:=by rw[<-hr2,anyR,if_neg hk]
  subst hr3
  rw[if_neg hk]at hM
  have HM:=hidE hM
  have HIH:=hidE IH
  have HG:=hidE hG
  have HL:Hid (l.length<=100000/\3*l.length<=f):=hidE ⟨hl,hf⟩
  clear hk hq hf IH hG hl hM hX hr2
  go_enter Tryz.func142,Tryz.ntmps142
  go_wp2_with fail
  refine HV.out.mono ?_
  rintro e w1 ⟨rfl,r1,c1⟩
  have hs1:=c1.size
  simp at hs1
  have hbk:Blk w1 w.heap.size 39 exZ:=Blk.chgR (heap_alloc_new _ _) c1 (by unfold only;omega)
  have HBK:=hidE hbk
  have HC:=hidE c1.pre
  have h2:=sx_signR S b l ⟨#[40]⟩ w1 r1 (λg hg=>⟨(HS.out g hg).1,by have:=(HS.out g hg).2;omega⟩) HL.out.1
  rw[show(⟨#[40]⟩:ByteArray).data.toList=[40] from rfl,took]at h2
  obtain⟨q2,hq2⟩:∃q,isHd l 6 [40]=q:=⟨_,rfl⟩
  rw[hq2]at h2
  have H2:=hidE h2
  have HQ2:=hidE hq2
  clear hbk c1 r1 HV h2 hq2
  go_wp2_with fail
  refine H2.out.mono ?_
  rintro e w2 ⟨rfl,r2,c2⟩
  have hs2:=c2.size
  have HBK:=hidE (HBK.out.chgR c2 (by unfold only;omega))
  have HC:=hidE (HC.out.trans c2)
  clear c2 H2
  cases q2 with
  | true =>
   rw[if_pos rfl]at r2
   obtain⟨t0,r0,e0,-,-⟩:=isHd_ne l 6 [40] (by decide) HQ2.out
   have hP:=sx_inPar f S b l.tail w2 r2 (λg hg=>⟨(HS.out g hg).1,by have:=(HS.out g hg).2;omega⟩) (AllG.tail' HG.out) (by have:=HL.out.1;rw[e0]at this ⊢;simp at this ⊢;omega) (by have:=HL.out.2;rw[e0]at this ⊢;simp at this ⊢;omega) HIH.out
   have HM2:Hid (M=parF f l.tail):=hidE (by rw[<-HM.out,atmG,HQ2.out,if_pos rfl])
   obtain⟨O,hO⟩:∃O,parF f l.tail=O:=⟨_,rfl⟩
   rw[hO]at hP HM2
   have HP:=hidE hP
   clear r2 e0 hP hO
   go_wp2_with fail
   refine HP.out.mono ?_
   rintro e w3 ⟨c3,cs,hsh,hcs⟩
   obtain⟨ck,cx,ct,cK,cX,cZ,cB,cm,cq,cKA,ckn,ckc,cLA,cln,clc,rfl⟩:=hsh
   have hs3:=c3.size
   have hbk:=HBK.out.chgR c3 (by unfold only;omega)
   have hlw:=hbk.lt
   obtain⟨⟨g0,g1,g2,g3,g4,g5,g6,g7,g8⟩,z0,z1,z2,z3,z4,z5,z6,z7,z8⟩:=z9 hbk
   have HBK3:=hidE hbk
   have HC3:=hidE (HC.out.trans c3)
   clear hbk c3 HP
   rcases hcs with⟨ho,rfl⟩|⟨y,r5,ho,rfl,hrd,hrr⟩
   ·have HM3:=hidE (HM2.out.trans ho)
    clear ho
    go_wp2_with fail
    try simp only[Exit.inBlock,Exit.then]
    refine bodyPost_ret (results_ct rfl _ _ w.heap.size 39 _ (0,0) _ rfl (blk_set9 _ _ _ _ _ _ _ _ _ HBK3.out) Tryz.underlying39 rfl (by kernel_rfl)) rfl ?_
    exact⟨HC3.out.set9 _ _ _ _ _ _ _ _ _ (Nat.le_refl _),_,⟨_,_,_,_,_,_,_,_,_,_,_,_,_,_,_,rfl⟩,.inl ⟨HM3.out,rfl⟩⟩
   ·have HM3:=hidE (HM2.out.trans ho)
    have HRD:=hidE hrd
    have HRR:=hidE hrr
    clear ho hrd hrr
    go_wp2_with fail
    try simp only[Exit.inBlock,Exit.then]
    refine bodyPost_ret (results_ct rfl _ _ w.heap.size 39 _ (0,0) _ rfl (blk_set9 _ _ _ _ _ _ _ _ _ HBK3.out) Tryz.underlying39 rfl (by kernel_rfl)) rfl ?_
    exact⟨HC3.out.set9 _ _ _ _ _ _ _ _ _ (Nat.le_refl _),_,⟨_,_,_,_,_,_,_,_,_,_,_,_,_,_,_,rfl⟩,.inr ⟨y,r5,HM3.out,rfl,
     pcE.keep (λg hg=>⟨by omega,by rw[size_set9];exact hg.2⟩) (λg hg=>set9_far _ _ _ _ _ _ _ _ _ _ _ _ (by omega)) HRD.out,HRR.out.keep (set9_far _ _ _ _ _ _ _ _ _ _ _ _ (by omega)) (λk hk=>set9_far _ _ _ _ _ _ _ _ _ _ _ _ (by have:=(HS.out k hk).2;omega))⟩⟩
  | false =>
   rw[if_neg (by decide)]at r2
   have hP:=sx_takeAnyR S b l 2 2 rfl w2 r2 (λg hg=>⟨(HS.out g hg).1,by have:=(HS.out g hg).2;omega⟩) HL.out.1 (by decide)
   have HM2:Hid (M=if(hd l).kind=2 then some (.con (hd l).text,l.tail) else none):=hidE (by rw[<-HM.out,atmG,HQ2.out,if_neg (by decide)])
   obtain⟨q3,hq3⟩:∃q,((hd l).kind==2)=q:=⟨_,rfl⟩
   obtain⟨X2,hX⟩:∃X,anyT l 2=X:=⟨_,rfl⟩
   obtain⟨r3,hr3⟩:∃x,anyR l 2=x:=⟨_,rfl⟩
   rw[hq3,hX,hr3]at hP
   have HM3:Hid (M=if q3=true then some (.con X2.data.toList,r3) else none):=hidE (by
    rw[HM2.out]
    cases q3 with
    | true =>
     have hk:(hd l).kind=2:=by simpa using hq3
     rw[if_pos hk,if_pos rfl,show(hd l).text=X2.data.toList by rw[<-hX,anyT,if_pos hk],show l.tail=r3 by rw[<-hr3,anyR,if_pos hk]]
    | false =>
     have hk:¬(hd l).kind=2:=by simpa using hq3
     rw[if_neg hk,if_neg (by decide)])
   have HP:=hidE hP
   clear r2 hP hq3 hX hr3
   have hlb:b<w2.heap.size:=by omega
   go_wp2_with fail
   refine HP.out.mono ?_
   rintro e w3 ⟨rfl,hrr,c3⟩
   have hs3:=c3.size
   have hbk:=HBK.out.chgR c3 (by unfold only;omega)
   have hlw:=hbk.lt
   obtain⟨⟨g0,g1,g2,g3,g4,g5,g6,g7,g8⟩,z0,z1,z2,z3,z4,z5,z6,z7,z8⟩:=z9 hbk
   have HBK3:=hidE hbk
   have HC3:=hidE (HC.out.trans c3)
   have HRR:=hidE hrr
   clear hbk c3 HP hrr
   go_wp2_with fail
   try simp only[Exit.inBlock,Exit.then]
   refine bodyPost_ret (results_ct rfl _ _ w.heap.size 39 _ (0,0) _ rfl (blk_set9 _ _ _ _ _ _ _ _ _ HBK3.out) Tryz.underlying39 rfl (by kernel_rfl)) rfl ?_
   refine⟨HC3.out.set9 _ _ _ _ _ _ _ _ _ (Nat.le_refl _),[.int .i64 2,.string X2,.bool false,.int .i64 0,.string ⟨#[]⟩,.int .i64 0,.slice none 0 0,.slice none 0 0,.slice none 0 0],⟨_,_,_,_,_,_,_,_,_,_,_,_,_,_,_,rfl⟩,?_⟩
   cases q3 with
   | false=>exact .inl ⟨by rw[HM3.out,if_neg (by decide)],rfl⟩
   | true =>
    refine .inr ⟨.con X2.data.toList,r3,by rw[HM3.out,if_pos rfl],rfl,?_,HRR.out.keep (set9_far _ _ _ _ _ _ _ _ _ _ _ _ (by omega)) (λk hk=>set9_far _ _ _ _ _ _ _ _ _ _ _ _ (by have:=(HS.out k hk).2;omega))⟩
    exact⟨⟨none,0,none,0,none,0⟩,by simp[exC,kdE,nmE,toE,tyE,tyC,kidsE,altsE,Sx.strV],trivial,by rw[ExIn];trivial⟩
end Go.Proofs.YtmbmjneibkihkaaGreatDoor

namespace Go.Proofs.YtmbmjneibkihkaaGreatDoor
open Go.RowKit Lx Tx Sx
set_option maxRecDepth 100000
def LPost0 {α:Type}(P:Pc α)(S:Nat->Prop)(b:Nat)(w:World)(o:Option (List α × List Tok))(e:Ending)(w':World):Prop :=
 ChR b w w'/\∃A m c,((o=none/\m=0/\e=.returned (.tuple #[.slice A m c,.bool false])) \/
  ∃x r,o=some (x,r)/\e=.returned (.tuple #[.slice A m c,.bool true])/\m=x.length/\LstG P (λg=>w.heap.size<=g/\g<w'.heap.size) w' x A/\RdrS S w' b r)
theorem infoE:(Tryz.prog.info? 39).map (λi=>(i.zero,i.size,i.bytes))=some (some (.agg #[.int .i64 0,.string ⟨#[]⟩,.bool false,.int .i64 0,.string ⟨#[]⟩,.int .i64 0,.slice none 0 0,.slice none 0 0,.slice none 0 0]),9,136):=by kernel_rfl
set_option maxHeartbeats 3200000 in
theorem sx_longerE(f:Nat)(S:Nat->Prop)(b:Nat)(l:List Tok)(w0 w:World)(h:RdrS S w b l)(hS:∀g,S g->g≠b/\g<w0.heap.size)(hb:b<w0.heap.size)(hc0:ChR b w0 w)(hG:AllG l)(hl:l.length<=100000)(hf:3*l.length+2<=f)
  (IH:∀f1,f1<=f->GReads pcE shE S b 142 1 rdAtom f1)(hrd:∀(f1:Nat)(l:List Tok)(x:Ex)(r:List Tok),AllG l->rdAtom f1 l=some (x,r)->AllG r/\r.length<l.length) :
  Calls Tryz.prog 143 #[.slice none 0 0,.func (.func 144) #[.pointer (some ⟨b,0,none⟩)] #[],.func (.func 142) #[.pointer (some ⟨b,0,none⟩)] #[]] w
   (LPost0 pcE S b w0 ((manyF atomEB id rdAtom f l).map λy=>(([]:List Ex)++y.1,y.2))):=by
 obtain⟨i0,hi0,hz0,hz1,hz2⟩:=info_parts infoE
 obtain⟨L,hL⟩:∃L,l.length=L:=⟨_,rfl⟩
 have HL:=hidE hL
 have HS:=hidE hS
 have HIH:=hidE IH
 have HRD:=hidE hrd
 have HH:Hid (HeadG pcE atomEB id rdAtom S b w0.heap.size 2 f 39 ([]:List Ex) l w0 L (.slice none 0 0) w):=hidE ⟨l,f,[],none,0,hL.symm,rfl,hG,by simp,hf,Nat.le_refl _,hidE h,hidE (by simp),hidE (by rw[List.append_nil];exact(BuiltG.nil _ _ _ _)),hidE hc0⟩
 rw[hL]at hl hf
 clear h hS hL IH hrd hc0
 go_enter Tryz.func143,Tryz.ntmps143
 go_wp2_with fail
 go_loopg [0] L (λgg v wr=>HeadG pcE atomEB id rdAtom S b w0.heap.size 2 f 39 ([]:List Ex) l w0 gg v wr)
 case atStart=>exact HH.out
 case round =>
  obtain⟨r,f',done,A,c,rfl,rfl,hG',hle,hf1,hf2,hr,hv,hbu,hc⟩:=hrel
  rw[HL.out]at hle
  have hsz:=hc.out.size
  obtain⟨f1,rfl⟩:∃f1,f'=f1+1:=⟨f'-1,by omega⟩
  obtain⟨n,hn⟩:∃n,(([]:List Ex)++done).length=n:=⟨_,rfl⟩
  have hn':n<=1+done.length:=by rw[<-hn];simp <;> omega
  rw[hn]at hbu ⊢
  have HN:=hidE hn
  obtain⟨rn,hrn⟩:∃n,r.length=n:=⟨_,rfl⟩
  have HRN:=hidE hrn
  rw[hrn]at hle hf1
  have hA:=hidE (nx_atom S b r wr hr.out (λg hg=>⟨(HS.out g hg).1,by have:=(HS.out g hg).2;omega⟩) (by rw[hrn];omega))
  have HG':=hidE hG'
  clear hn hrn HH hG'
  obtain⟨q,hq⟩:∃q,atomEB r=q:=⟨_,rfl⟩
  rw[hq]at hA
  have HQ:=hidE hq
  clear hq
  go_wp2_with fail
  refine hA.out.mono ?_
  rintro e w2 ⟨rfl,hr2,c2⟩
  have hs2:=c2.size
  have HC2:=hidE (hc.out.trans c2)
  have HBU:=hidE (hbu.out.chgR c2 hb)
  clear c2 hA hbu
  cases q with
  | false =>
   rw[if_neg (by decide)]at hr2
   have HR2:=hidE hr2
   have HV:=hidE (hv.out.trans (congrArg (Option.map λy:List Ex × List Tok=>(done++y.1,y.2)) (many_end f1 r HQ.out)))
   clear hr2 hv
   go_wp2_with fail
   go_ret2
   refine⟨HC2.out,A,n,c,.inr ⟨([]:List Ex)++done,r,by rw[HV.out];simp,rfl,HN.out.symm,HBU.out.lst.2,HR2.out⟩⟩
  | true =>
   rw[if_pos rfl]at hr2
   obtain⟨hg2,hl2,hf3⟩:=nx_atom_af r HG'.out HQ.out
   rw[HRN.out]at hl2 hf3
   have HP:=hidE (HIH.out f1 (by omega) w2 _ hr2 (λg hg=>⟨(HS.out g hg).1,by have:=(HS.out g hg).2;omega⟩) hg2 (by omega) (by omega))
   obtain⟨O,hO⟩:∃O,rdAtom f1 (id r)=O:=⟨_,rfl⟩
   have HO:=hidE hO
   have HG2:=hidE hg2
   rw[hO]at HP
   clear hr2 hg2 hO
   go_wp2_with fail
   refine HP.out.mono ?_
   rintro e w3 ⟨c3,cs,hsh,hcs⟩
   obtain⟨ek,ex,et,tk,tx,tz,tA,tm,tq,KA,kn,kc,LA,ln,lc,rfl⟩:=hsh
   have hs3:=c3.size
   rcases hcs with⟨ho,rfl⟩|⟨px,r2,ho,rfl,hx,hr3⟩
   ·have HV:=hidE (hv.out.trans (congrArg (Option.map λy:List Ex × List Tok=>(done++y.1,y.2)) (many_no f1 r HQ.out (HO.out.trans ho))))
    have HC3:=hidE (HC2.out.trans c3)
    clear hv ho c3 HP
    go_wp2_with fail
    go_ret2
    exact⟨HC3.out.alloc _,none,0,0,.inl ⟨by rw[HV.out];rfl,rfl,rfl⟩⟩
   ·have HV:=hidE (hv.out.trans (congrArg (Option.map λy:List Ex × List Tok=>(done++y.1,y.2)) (many_yes f1 r HQ.out px r2 (HO.out.trans ho))))
    have hg3:=HRD.out f1 _ px r2 HG2.out (HO.out.trans ho)
    have hlr:=hg3.2
    have HG3:=hidE hg3.1
    have HX:=hidE hx
    have HR3:=hidE hr3
    have C3:=hidE c3
    obtain⟨vs,hown,hrow⟩:=HBU.out
    rw[HN.out]at hown
    have HOWN:=hidE hown
    have HROW:=hidE hrow
    have hown3:=own_chgR hown c3 hb
    have HLT:=hown3.lt
    have HO3:=hidE ((hown3.alloc (.cells #[.int .i64 ek,.string ex,.bool et,.int .i64 tk,.string tx,.int .i64 tz,.slice tA tm tq,.slice KA kn kc,.slice LA ln lc] 39)).alloc (.cells #[.int .i64 ek,.string ex,.bool et,.int .i64 tk,.string tx,.int .i64 tz,.slice tA tm tq,.slice KA kn kc,.slice LA ln lc] 39))
    clear hv ho c3 HP hg3 hx hr3 hown hrow hown3 HBU
    go_wp2_with (at_builtin;refine wpList_append_own_at _ rfl (.tmp 25) (.tmp 27) 36 rfl w0.heap.size 39 i0 _ 9 136 Tryz.underlying36 hi0 hz0 hz1 hz2 rfl (by decide) _ n vs rfl HO3.out ⟨w3.heap.size+1,0,none⟩ 1 1 [.int .i64 ek,.string ex,.bool et,.int .i64 tk,.string tx,.int .i64 tz,.slice tA tm tq,.slice KA kn kc,.slice LA ln lc] rfl rfl (new_cells' _ _ _ _ (by simp)) (by intro u hu;simp at hu;rcases hu with rfl|rfl|rfl|rfl|rfl|rfl|rfl|rfl|rfl <;> rfl) (by unfold maxLen;omega) (by omega) (by simp;omega) ?_;intro v2 w5 hown5 hgrow _ hat5;obtain⟨A2,c2,rfl⟩:=own_shape hown5;have HO5:=hidE hown5;have HG5:=hidE hgrow;have HT5:=hidE hat5;clear hown5 hgrow hat5)
    have hs5:=HG5.out.size
    simp at hs5
    have hk5:∀k,k<w0.heap.size->w5.heap[k]? = w3.heap[k]?:=λk hk=>(HG5.out.block k (by simp;omega) (λe=>by have:=HLT _ e.symm;omega)).trans ((Below.heap_alloc _ _ _ (by simp;omega)).trans (Below.heap_alloc _ _ _ (by omega)))
    go_roundg r2.length
    case measure=>rw[HRN.out];omega
    case rel =>
     refine⟨r2,f1,done++[px],A2,c2,rfl,?_,HG3.out,?_,by omega,by omega,hidE (HR3.out.keep (hk5 b hb) (λg hg=>hk5 g (HS.out g hg).2)),hidE ?_,hidE ?_,hidE ((((HC2.out.trans C3.out).alloc _).alloc _).grown HG5.out (λj hj=>.inl (by have:=HLT _ hj;omega)))⟩
     ·rw[<-List.append_assoc,List.length_append,HN.out];rfl
     ·rw[List.length_append,HL.out];simp;omega
     ·rw[HV.out];simp[Function.comp_def]
     ·rw[<-List.append_assoc,show(([]:List Ex)++done++[px]).length=n+1 by rw[List.length_append,HN.out];rfl]
      exact BuiltG.next (w:=w2) (w1:=w3) hb (by omega) (by rw[HN.out];exact HOWN.out) HROW.out C3.out HX.out (((Below.refl _ w3).alloc (Nat.le_refl _) _).alloc (by simp) _) (by rw[HN.out];exact HO5.out) HG5.out HT5.out
end Go.Proofs.YtmbmjneibkihkaaGreatDoor

namespace Go.Proofs.YtmbmjneibkihkaaGreatDoor
open Go.RowKit Lx Tx Sx
set_option maxRecDepth 100000
theorem rdAtom_len(f1:Nat)(l:List Tok)(x:Ex)(r:List Tok)(hG:AllG l)(h:rdAtom f1 l=some (x,r)):AllG r/\r.length<l.length:=by
 obtain⟨-,h1,h2⟩:=(rd_facts f1).2.2.2.2.2.2 l x r hG h
 have:=wt_pos x
 exact⟨h1,by omega⟩
theorem many_cnt {α:Type} {nx:List Tok->Bool} {af:List Tok->List Tok} {rd:Nat->List Tok->Option (α × List Tok)}(haf:∀l,AllG l->nx l=true->AllG (af l)/\(af l).length<=l.length)
  (hrd:∀(f1:Nat)(l:List Tok)(x:α)(r:List Tok),AllG l->rd f1 l=some (x,r)->AllG r/\r.length<l.length)(f:Nat):∀(l:List Tok)(x:List α)(r:List Tok),AllG l->manyF nx af rd f l=some (x,r)->x.length+r.length<=l.length:=by
 induction f with
 | zero=>intro l x r _ h;rw[manyF]at h;cases h
 | succ f ih =>
  intro l x r hG h
  by_cases hn:nx l=true
  ·obtain⟨g1,l1⟩:=haf l hG hn
   cases ho:rd f (af l) with
   | none=>rw[many_no f l hn ho]at h;cases h
   | some y =>
    obtain⟨p,r1⟩:=y
    rw[many_yes f l hn p r1 ho]at h
    obtain⟨g2,l2⟩:=hrd f _ p r1 g1 ho
    cases hm:manyF nx af rd f r1 with
    | none=>rw[hm]at h;cases h
    | some z =>
     obtain⟨xs,r2⟩:=z
     rw[hm]at h
     simp only[Option.map_some,Option.some.injEq,Prod.mk.injEq]at h
     obtain⟨rfl,rfl⟩:=h
     have:=ih r1 xs r2 g2 hm
     simp only[List.length_cons]
     omega
  ·rw[many_end f l (by simpa using hn)]at h
   simp only[Option.some.injEq,Prod.mk.injEq]at h
   obtain⟨rfl,rfl⟩:=h
   simp
theorem LstG.ex {S:Nat->Prop} {w:World} {l:List Ex} {A:Option Addr}(h:LstG pcE S w l A)(i:Nat)(x:Ex)(hx:l[i]? = some x):∃g,A=some ⟨g,0,none⟩/\S g/\ExAt S w x g (i*9):=by
 obtain⟨hi,rfl⟩:=List.getElem?_eq_some_iff.1 hx
 obtain⟨g,h1,h2,h3⟩:=h (by intro e;rw[e]at hi;simp at hi)
 obtain⟨cs,⟨P,rfl,h4,h5⟩,h6⟩:=AtG.at_ l g 0 i hi h3
 exact⟨g,h1,h2,P,by rw[Nat.zero_add]at h6;exact h6,h4,h5⟩
def HeadAp(S:Nat->Prop)(b g4:Nat)(y:Ex)(xs:List Ex)(A:Option Addr)(r:List Tok)(ok:Bool)(w:World)(gg:Nat)(vi:Value)(wr:World):Prop :=
 ∃(i:Nat) (ek:Int) (ex:ByteArray) (et:Bool) (eK:Int) (eX:ByteArray) (eZ:Int) (eB:Option Addr) (em eq:Nat) (eKA:Option Addr) (ekn ekc:Nat) (eLA:Option Addr) (eln elc:Nat),
  gg=xs.length-i/\vi=.int .i64 (i:Nat)/\i<=xs.length /\
  Hid (Blk wr g4 39 #[.int .i64 ek,.string ex,.bool et,.int .i64 eK,.string eX,.int .i64 eZ,.slice eB em eq,.slice eKA ekn ekc,.slice eLA eln elc]) /\
  Hid (pcE.Cs (λg=>w.heap.size<g/\g≠g4/\g<wr.heap.size) wr ((xs.take i).foldl Ex.app y) [.int .i64 ek,.string ex,.bool et,.int .i64 eK,.string eX,.int .i64 eZ,.slice eB em eq,.slice eKA ekn ekc,.slice eLA eln elc]\/ok=false) /\
  Hid (LstG pcE (λg=>g4<g/\g<wr.heap.size) wr xs A)/\Hid (RdrS S wr b r\/ok=false)/\Hid (Blk wr w.heap.size 39 exZ)/\Hid (ChR b w wr)
set_option maxHeartbeats 6400000 in
theorem sx_application(f:Nat)(S:Nat->Prop)(b:Nat)(l:List Tok)(w:World)(h:RdrS S w b l)(hS:∀g,S g->g≠b/\g<w.heap.size)(hG:AllG l)(hl:l.length<=100000)(hf:3*l.length+1<=f)
  (IH:∀f1,f1<=f->GReads pcE shE S b 142 1 rdAtom f1) :
  Calls Tryz.prog 106 #[.pointer (some ⟨b,0,none⟩)] w (GPost pcE shE S b w (rdApp (f+1) l)):=by
 have hbl:=h.lt
 have hE:=IH f (Nat.le_refl _) (w.alloc (.cells exZ 39)) l (h.alloc _ (λg hg=>(hS g hg).2)) (λg hg=>⟨(hS g hg).1,by have:=(hS g hg).2;simp;omega⟩) hG hl hf
 obtain⟨O,hO⟩:∃O,rdAtom f l=O:=⟨_,rfl⟩
 rw[hO]at hE
 obtain⟨M,hM⟩:∃M,rdApp (f+1) l=M:=⟨_,rfl⟩
 rw[hM]
 rw[rdApp_eq,hO]at hM
 unfold exZ at hE
 have HE:=hidE hE
 have HM0:=hidE hM
 have HO:=hidE hO
 have HS:=hidE hS
 have HG:=hidE hG
 have HIH:=hidE IH
 clear h hS hE hM hO hG IH
 go_enter Tryz.func106,Tryz.ntmps106
 go_wp2_with fail
 refine HE.out.mono ?_
 rintro e w2 ⟨c2,cs,hsh,hcs⟩
 obtain⟨ck,cx,ct,cK,cX,cZ,cB,cm,cq,cKA,ckn,ckc,cLA,cln,clc,rfl⟩:=hsh
 have hs2:=c2.size
 simp at hs2
 have hbk:Blk w2 w.heap.size 39 exZ:=Blk.chgR (heap_alloc_new _ _) c2 (by unfold only;omega)
 have hlw:=hbk.lt
 have HBK:=hidE hbk
 have HC:=hidE c2.pre
 rcases hcs with⟨ho,rfl⟩|⟨y,r2,ho,rfl,hrd,hrr⟩
 ·subst ho
  obtain⟨⟨g0,g1,g2,g3,g4,g5,g6,g7,g8⟩,z0,z1,z2,z3,z4,z5,z6,z7,z8⟩:=z9 hbk
  clear hbk c2 HE
  go_wp2_with fail
  try simp only[Exit.inBlock,Exit.then]
  refine bodyPost_ret (results_ct rfl _ _ w.heap.size 39 _ (0,0) _ rfl ((blk_set9 _ _ _ _ _ _ _ _ _ HBK.out).alloc _) Tryz.underlying39 rfl (by kernel_rfl)) rfl ?_
  exact⟨(HC.out.set9 _ _ _ _ _ _ _ _ _ (Nat.le_refl _)).alloc _,_,⟨_,_,_,_,_,_,_,_,_,_,_,_,_,_,_,rfl⟩,.inl ⟨HM0.out.symm,rfl⟩⟩
 ·subst ho
  have hg2:=rdAtom_len f l y r2 HG.out HO.out
  obtain⟨O2,hO2⟩:∃O2,manyF atomEB id rdAtom f r2=O2:=⟨_,rfl⟩
  have HM:Hid (M=O2.map λz=>(z.1.foldl Ex.app y,z.2)):=hidE (by rw[<-HM0.out,<-hO2])
  obtain⟨W,hW⟩:∃W,w2.alloc (.cells #[.int .i64 ck,.string cx,.bool ct,.int .i64 cK,.string cX,.int .i64 cZ,.slice cB cm cq,.slice cKA ckn ckc,.slice cLA cln clc] 39)=W:=⟨_,rfl⟩
  have hbw:Below w2.heap.size w2 W:=hW▸(Below.refl _ w2).alloc (Nat.le_refl _) _
  have hsW:W.heap.size=w2.heap.size+1:=by rw[<-hW];simp
  have hb4:Blk W w2.heap.size 39 #[.int .i64 ck,.string cx,.bool ct,.int .i64 cK,.string cX,.int .i64 cZ,.slice cB cm cq,.slice cKA ckn ckc,.slice cLA cln clc]:=hW▸heap_alloc_new _ _
  have HCW:=hidE (c2.pre.below hbw)
  have HB2:=hidE (show Blk W w.heap.size 39 exZ from(hbw.block _ hlw).trans hbk)
  have HRW:=hrr.below hbw (λg hg=>by have:=(HS.out g hg).2;omega)
  have HX:=hidE (pcE.keep (S':=λg=>w.heap.size<g/\g<w2.heap.size) (λg hg=>⟨by have:=hg.1;simp at this;omega,hg.2⟩) (λg hg=>hbw.block g hg.2) hrd)
  have HB4:=hidE hb4
  have hQ:=sx_longerE f S b r2 W W HRW (λg hg=>⟨(HS.out g hg).1,by have:=(HS.out g hg).2;omega⟩) (by omega) (ChR.refl _ _) hg2.1 (by omega) (by omega) HIH.out rdAtom_len
  rw[hO2,show(O2.map λy:List Ex × List Tok=>(([]:List Ex)++y.1,y.2))=O2 by cases O2 <;> rfl]at hQ
  have HQ:=hidE hQ
  have HCNT:Hid (∀xs r,O2=some (xs,r)->xs.length<=100000):=hidE λxs r h=>by
   have:=many_cnt (nx:=atomEB) (af:=id) (λl hG _=>⟨hG,Nat.le_refl _⟩) rdAtom_len f r2 xs r hg2.1 (hO2.trans h)
   omega
  clear hbk c2 HE hrd hrr hbw hb4 HRW hg2 hO2 hQ
  go_upto_region 4 with fail
  try rw[hW]
  clear hW
  go_wp2_with fail
  refine HQ.out.mono ?_
  rintro e w3 ⟨c3,A,m,c,hcs⟩
  have hs3:=c3.size
  have hU:∃ok xs r,e=.returned (.tuple #[.slice A m c,.bool ok])/\m=xs.length/\xs.length<=100000/\LstG pcE (λg=>W.heap.size<=g/\g<w3.heap.size) w3 xs A/\(RdrS S w3 b r\/ok=false)/\M=(if ok=true then some (xs.foldl Ex.app y,r) else none):=by
   rcases hcs with⟨ho,hm,he⟩|⟨xs,r,ho,he,hm,hx,hr⟩
   ·exact⟨false,[],r2,he,hm,by simp,(λh=>absurd rfl h),.inr rfl,by rw[HM.out,ho,if_neg (by decide)];rfl⟩
   ·exact⟨true,xs,r,he,hm,HCNT.out xs r ho,hx,.inl hr,by rw[HM.out,ho,if_pos rfl];rfl⟩
  obtain⟨ok,xs,r,rfl,rfl,hxl,hxs,hrr,hM⟩:=hU
  have HM3:=hidE hM
  obtain⟨n,hn⟩:∃n,xs.length=n:=⟨_,rfl⟩
  have HN:=hidE hn
  have HH:Hid (HeadAp S b w2.heap.size y xs A r ok w n (.int .i64 0) w3):=hidE ⟨0,ck,cx,ct,cK,cX,cZ,cB,cm,cq,cKA,ckn,ckc,cLA,cln,clc,by rw[hn];rfl,rfl,by omega,hidE (HB4.out.chgR c3 (by unfold only;omega)),
   hidE (.inl (by rw[List.take_zero];exact pcE.keep (λg hg=>⟨hg.1,by omega,by omega⟩) (λg hg=>c3.block g (by omega) (by unfold only;omega)) HX.out)),hidE (hxs.keep (λg hg=>⟨by omega,hg.2⟩) (λ_ _=>rfl)),hidE hrr,hidE (HB2.out.chgR c3 (by unfold only;omega)),hidE (HCW.out.trans c3)⟩
  rw[hn]at hxl ⊢
  clear c3 HQ hcs hxs hrr hM hn HCNT HX HB4 HB2 HCW HM
  go_wp2_with fail
  go_loopg [27] n (λgg vi wr=>HeadAp S b w2.heap.size y xs A r ok w gg vi wr)
  case atStart=>exact HH.out
  case round =>
   obtain⟨i,ek,ex,et,eK,eX,eZ,eB,em,eq,eKA,ekn,ekc,eLA,eln,elc,hgg,rfl,hi,hB4,hX,hL,hR,hB2,hC⟩:=hrel
   rw[HN.out]at hgg hi
   have hsr:=hC.out.size
   obtain⟨⟨f0,f1,f2,f3,f4,f5,f6,f7,f8⟩,⟨y0,y1,y2,y3,y4,y5,y6,y7,y8⟩,hl4⟩:=blk_facts9 hB4.out
   have hgl2:w2.heap.size<wr.heap.size:=hl4
   by_cases hlt:i<n
   ·obtain⟨x,hx⟩:∃x,xs[i]? = some x:=⟨_,List.getElem?_eq_getElem (by rw[HN.out];exact hlt)⟩
    obtain⟨g,rfl,hSg,hat⟩:=hL.out.ex i x hx
    obtain⟨k1,x1,t1,K1,X1,Z1,B1,m1,q1,KA1,kn1,kc1,LA1,ln1,lc1,d0,d1,d2,d3,d4,d5,d6,d7,d8,hrd⟩:=hat.cells
    have hgl:=lt_cell d0
    have HRD:=hidE (rdX_cs.1 hrd)
    have HXI:=hidE hx
    clear hat hrd hx HH
    go_wp2_with fail
    have hstep:(xs.take (i+1)).foldl Ex.app y=.app ((xs.take i).foldl Ex.app y) x:=by rw[List.take_add_one,HXI.out];simp
    have HST:=hidE hstep
    clear hstep
    go_roundg (n-(i+1))
    case measure=>omega
    case rel =>
     refine⟨i+1,4,⟨#[]⟩,false,0,⟨#[]⟩,0,none,0,0,some ⟨wr.heap.size+1,0,none⟩,2,2,none,0,0,by rw[HN.out],by rfl,by rw[HN.out];omega,hidE (((blk_set9 _ _ _ _ _ _ _ _ _ hB4.out).alloc _).alloc _),hidE ?_,hidE (hL.out.keep (λg hg=>⟨hg.1,by simp;omega⟩) (λg hg=>?_)),hidE ?_,
      hidE ((two_new _ _ _ _ (by rw[size_set9];omega)).trans ((set9_far _ _ _ _ _ _ _ _ _ _ _ _ (by omega)).trans hB2.out)),hidE (((hC.out.set9 _ _ _ _ _ _ _ _ _ (by omega)).alloc _).alloc _)⟩
     ·rcases hX.out with hX|hX
      ·refine .inl ?_
       rw[HST.out]
       refine⟨⟨none,0,some ⟨wr.heap.size+1,0,none⟩,0,none,0⟩,by simp[exC,kdE,nmE,toE,tyE,tyC,kidsE,altsE,Sx.strV],trivial,?_⟩
       rw[ExIn]
       exact⟨_,rfl,⟨by omega,by omega,by simp⟩,kids_new (S:=λg=>w.heap.size<g/\g≠w2.heap.size/\g<wr.heap.size) hX (pcE.keep (λg hg=>⟨by omega,by omega,hg.2⟩) (λ_ _=>rfl) HRD.out) (λg hg=>⟨hg.1,hg.2.1,by simp;omega⟩) (λk hk=>(two_new _ _ _ k (by rw[size_set9];exact hk.2.2)).trans (set9_far _ _ _ _ _ _ _ _ _ _ _ _ hk.2.1)) (two_top _ _ _ _ (size_set9 _ _ _ _ _ _ _ _ _ _ _))⟩
      ·exact .inr hX
     ·exact(two_new _ _ _ g (by rw[size_set9];exact hg.2)).trans (set9_far _ _ _ _ _ _ _ _ _ _ _ _ (by omega))
     ·rcases hR.out with hR|hR
      ·exact .inl (hR.keep ((two_new _ _ _ b (by rw[size_set9];omega)).trans (set9_far _ _ _ _ _ _ _ _ _ _ _ _ (by omega))) (λk hk=>(two_new _ _ _ k (by rw[size_set9];have:=(HS.out k hk).2;omega)).trans (set9_far _ _ _ _ _ _ _ _ _ _ _ _ (by have:=(HS.out k hk).2;omega))))
      ·exact .inr hR
   ·obtain rfl:i=n:=by omega
    obtain⟨⟨g0,g1,g2,g3,g4,g5,g6,g7,g8⟩,⟨z0,z1,z2,z3,z4,z5,z6,z7,z8⟩,hl2⟩:=blk_facts9 hB2.out
    clear HH hlt
    go_wp2_with fail
    try simp only[Exit.inBlock,Exit.then]
    refine bodyPost_ret (results_ct rfl _ _ w.heap.size 39 _ (0,0) _ rfl (blk_set9 _ _ _ _ _ _ _ _ _ hB2.out) Tryz.underlying39 rfl (by kernel_rfl)) rfl ?_
    refine⟨hC.out.set9 _ _ _ _ _ _ _ _ _ (Nat.le_refl _),[.int .i64 ek,.string ex,.bool et,.int .i64 eK,.string eX,.int .i64 eZ,.slice eB em eq,.slice eKA ekn ekc,.slice eLA eln elc],⟨_,_,_,_,_,_,_,_,_,_,_,_,_,_,_,rfl⟩,?_⟩
    cases ok with
    | false=>exact .inl ⟨HM3.out,rfl⟩
    | true =>
     have hX:=hX.out.resolve_right (by decide)
     have hR:=hR.out.resolve_right (by decide)
     rw[List.take_of_length_le (by rw[HN.out];exact Nat.le_refl _)]at hX
     exact .inr ⟨_,r,HM3.out,rfl,pcE.keep (λg hg=>⟨by omega,by rw[size_set9];exact hg.2.2⟩) (λg hg=>set9_far _ _ _ _ _ _ _ _ _ _ _ _ (by omega)) hX,hR.keep (set9_far _ _ _ _ _ _ _ _ _ _ _ _ (by omega)) (λk hk=>set9_far _ _ _ _ _ _ _ _ _ _ _ _ (by have:=(HS.out k hk).2;omega))⟩
end Go.Proofs.YtmbmjneibkihkaaGreatDoor

namespace Go.Proofs.YtmbmjneibkihkaaGreatDoor
open Go.RowKit Lx Tx Sx
set_option maxRecDepth 100000
theorem blk_so11_2 {w:World} {g:Nat} {t:TypeId} {a0 a1 a2 a3 a4 a5 a6 a7 a8 a9 a10:Value}(b2 b3 b4 b5 b6 b7 b8 b9 b10:Value)(h:Blk w g t #[a0,a1,a2,a3,a4,a5,a6,a7,a8,a9,a10]):Blk (((((((((w.setCell ⟨g,2,none⟩ b2).setCell ⟨g,3,none⟩ b3).setCell ⟨g,4,none⟩ b4).setCell ⟨g,5,none⟩ b5).setCell ⟨g,6,none⟩ b6).setCell ⟨g,7,none⟩ b7).setCell ⟨g,8,none⟩ b8).setCell ⟨g,9,none⟩ b9).setCell ⟨g,10,none⟩ b10) g t #[a0,a1,b2,b3,b4,b5,b6,b7,b8,b9,b10]:=by
 have s:∀(W:World) (cs:Array Value) (i:Nat) (b:Value),Blk W g t cs->Blk (W.setCell ⟨g,i,none⟩ b) g t (cs.setIfInBounds i b):=λW cs i b h=>heap_setCell_same W g i _ _ b h
 have hh:=(s _ _ 10 b10 (s _ _ 9 b9 (s _ _ 8 b8 (s _ _ 7 b7 (s _ _ 6 b6 (s _ _ 5 b5 (s _ _ 4 b4 (s _ _ 3 b3 (s _ _ 2 b2 h)))))))))
 have e:((((((((((#[a0,a1,a2,a3,a4,a5,a6,a7,a8,a9,a10]:Array Value).setIfInBounds 2 b2).setIfInBounds 3 b3).setIfInBounds 4 b4).setIfInBounds 5 b5).setIfInBounds 6 b6).setIfInBounds 7 b7).setIfInBounds 8 b8).setIfInBounds 9 b9).setIfInBounds 10 b10)=#[a0,a1,b2,b3,b4,b5,b6,b7,b8,b9,b10]:=by simp
 rw[e]at hh
 exact hh
theorem ChR.so11_2 {bb:Nat} {w w':World} {g:Nat}(h:ChR bb w w')(b2 b3 b4 b5 b6 b7 b8 b9 b10:Value)(hg:w.heap.size<=g):ChR bb w (((((((((w'.setCell ⟨g,2,none⟩ b2).setCell ⟨g,3,none⟩ b3).setCell ⟨g,4,none⟩ b4).setCell ⟨g,5,none⟩ b5).setCell ⟨g,6,none⟩ b6).setCell ⟨g,7,none⟩ b7).setCell ⟨g,8,none⟩ b8).setCell ⟨g,9,none⟩ b9).setCell ⟨g,10,none⟩ b10) :=
 (((((((((h.setCell (p:=⟨g,2,none⟩) (.inl hg) b2).setCell (p:=⟨g,3,none⟩) (.inl hg) b3).setCell (p:=⟨g,4,none⟩) (.inl hg) b4).setCell (p:=⟨g,5,none⟩) (.inl hg) b5).setCell (p:=⟨g,6,none⟩) (.inl hg) b6).setCell (p:=⟨g,7,none⟩) (.inl hg) b7).setCell (p:=⟨g,8,none⟩) (.inl hg) b8).setCell (p:=⟨g,9,none⟩) (.inl hg) b9).setCell (p:=⟨g,10,none⟩) (.inl hg) b10)
theorem so11_2_far(w:World)(g k:Nat)(b2 b3 b4 b5 b6 b7 b8 b9 b10:Value)(hk:k≠g):(((((((((w.setCell ⟨g,2,none⟩ b2).setCell ⟨g,3,none⟩ b3).setCell ⟨g,4,none⟩ b4).setCell ⟨g,5,none⟩ b5).setCell ⟨g,6,none⟩ b6).setCell ⟨g,7,none⟩ b7).setCell ⟨g,8,none⟩ b8).setCell ⟨g,9,none⟩ b9).setCell ⟨g,10,none⟩ b10).heap[k]? = w.heap[k]?:=by
 rw[Below.heap_setCell _ ⟨g,10,none⟩ _ k hk,Below.heap_setCell _ ⟨g,9,none⟩ _ k hk,Below.heap_setCell _ ⟨g,8,none⟩ _ k hk,Below.heap_setCell _ ⟨g,7,none⟩ _ k hk,Below.heap_setCell _ ⟨g,6,none⟩ _ k hk,Below.heap_setCell _ ⟨g,5,none⟩ _ k hk,Below.heap_setCell _ ⟨g,4,none⟩ _ k hk,Below.heap_setCell _ ⟨g,3,none⟩ _ k hk,Below.heap_setCell _ ⟨g,2,none⟩ _ k hk]
theorem size_so11_2(w:World)(g:Nat)(b2 b3 b4 b5 b6 b7 b8 b9 b10:Value):(((((((((w.setCell ⟨g,2,none⟩ b2).setCell ⟨g,3,none⟩ b3).setCell ⟨g,4,none⟩ b4).setCell ⟨g,5,none⟩ b5).setCell ⟨g,6,none⟩ b6).setCell ⟨g,7,none⟩ b7).setCell ⟨g,8,none⟩ b8).setCell ⟨g,9,none⟩ b9).setCell ⟨g,10,none⟩ b10).heap.size=w.heap.size:=by simp
theorem blk_so17_8 {w:World} {g:Nat} {t:TypeId} {a0 a1 a2 a3 a4 a5 a6 a7 a8 a9 a10 a11 a12 a13 a14 a15 a16:Value}(b8 b9 b10 b11 b12 b13 b14 b15 b16:Value)(h:Blk w g t #[a0,a1,a2,a3,a4,a5,a6,a7,a8,a9,a10,a11,a12,a13,a14,a15,a16]):Blk (((((((((w.setCell ⟨g,8,none⟩ b8).setCell ⟨g,9,none⟩ b9).setCell ⟨g,10,none⟩ b10).setCell ⟨g,11,none⟩ b11).setCell ⟨g,12,none⟩ b12).setCell ⟨g,13,none⟩ b13).setCell ⟨g,14,none⟩ b14).setCell ⟨g,15,none⟩ b15).setCell ⟨g,16,none⟩ b16) g t #[a0,a1,a2,a3,a4,a5,a6,a7,b8,b9,b10,b11,b12,b13,b14,b15,b16]:=by
 have s:∀(W:World) (cs:Array Value) (i:Nat) (b:Value),Blk W g t cs->Blk (W.setCell ⟨g,i,none⟩ b) g t (cs.setIfInBounds i b):=λW cs i b h=>heap_setCell_same W g i _ _ b h
 have hh:=(s _ _ 16 b16 (s _ _ 15 b15 (s _ _ 14 b14 (s _ _ 13 b13 (s _ _ 12 b12 (s _ _ 11 b11 (s _ _ 10 b10 (s _ _ 9 b9 (s _ _ 8 b8 h)))))))))
 have e:((((((((((#[a0,a1,a2,a3,a4,a5,a6,a7,a8,a9,a10,a11,a12,a13,a14,a15,a16]:Array Value).setIfInBounds 8 b8).setIfInBounds 9 b9).setIfInBounds 10 b10).setIfInBounds 11 b11).setIfInBounds 12 b12).setIfInBounds 13 b13).setIfInBounds 14 b14).setIfInBounds 15 b15).setIfInBounds 16 b16)=#[a0,a1,a2,a3,a4,a5,a6,a7,b8,b9,b10,b11,b12,b13,b14,b15,b16]:=by simp
 rw[e]at hh
 exact hh
theorem ChR.so17_8 {bb:Nat} {w w':World} {g:Nat}(h:ChR bb w w')(b8 b9 b10 b11 b12 b13 b14 b15 b16:Value)(hg:w.heap.size<=g):ChR bb w (((((((((w'.setCell ⟨g,8,none⟩ b8).setCell ⟨g,9,none⟩ b9).setCell ⟨g,10,none⟩ b10).setCell ⟨g,11,none⟩ b11).setCell ⟨g,12,none⟩ b12).setCell ⟨g,13,none⟩ b13).setCell ⟨g,14,none⟩ b14).setCell ⟨g,15,none⟩ b15).setCell ⟨g,16,none⟩ b16) :=
 (((((((((h.setCell (p:=⟨g,8,none⟩) (.inl hg) b8).setCell (p:=⟨g,9,none⟩) (.inl hg) b9).setCell (p:=⟨g,10,none⟩) (.inl hg) b10).setCell (p:=⟨g,11,none⟩) (.inl hg) b11).setCell (p:=⟨g,12,none⟩) (.inl hg) b12).setCell (p:=⟨g,13,none⟩) (.inl hg) b13).setCell (p:=⟨g,14,none⟩) (.inl hg) b14).setCell (p:=⟨g,15,none⟩) (.inl hg) b15).setCell (p:=⟨g,16,none⟩) (.inl hg) b16)
theorem so17_8_far(w:World)(g k:Nat)(b8 b9 b10 b11 b12 b13 b14 b15 b16:Value)(hk:k≠g):(((((((((w.setCell ⟨g,8,none⟩ b8).setCell ⟨g,9,none⟩ b9).setCell ⟨g,10,none⟩ b10).setCell ⟨g,11,none⟩ b11).setCell ⟨g,12,none⟩ b12).setCell ⟨g,13,none⟩ b13).setCell ⟨g,14,none⟩ b14).setCell ⟨g,15,none⟩ b15).setCell ⟨g,16,none⟩ b16).heap[k]? = w.heap[k]?:=by
 rw[Below.heap_setCell _ ⟨g,16,none⟩ _ k hk,Below.heap_setCell _ ⟨g,15,none⟩ _ k hk,Below.heap_setCell _ ⟨g,14,none⟩ _ k hk,Below.heap_setCell _ ⟨g,13,none⟩ _ k hk,Below.heap_setCell _ ⟨g,12,none⟩ _ k hk,Below.heap_setCell _ ⟨g,11,none⟩ _ k hk,Below.heap_setCell _ ⟨g,10,none⟩ _ k hk,Below.heap_setCell _ ⟨g,9,none⟩ _ k hk,Below.heap_setCell _ ⟨g,8,none⟩ _ k hk]
theorem size_so17_8(w:World)(g:Nat)(b8 b9 b10 b11 b12 b13 b14 b15 b16:Value):(((((((((w.setCell ⟨g,8,none⟩ b8).setCell ⟨g,9,none⟩ b9).setCell ⟨g,10,none⟩ b10).setCell ⟨g,11,none⟩ b11).setCell ⟨g,12,none⟩ b12).setCell ⟨g,13,none⟩ b13).setCell ⟨g,14,none⟩ b14).setCell ⟨g,15,none⟩ b15).setCell ⟨g,16,none⟩ b16).heap.size=w.heap.size:=by simp
theorem blk_so17_4 {w:World} {g:Nat} {t:TypeId} {a0 a1 a2 a3 a4 a5 a6 a7 a8 a9 a10 a11 a12 a13 a14 a15 a16:Value}(b4 b5 b6 b7:Value)(h:Blk w g t #[a0,a1,a2,a3,a4,a5,a6,a7,a8,a9,a10,a11,a12,a13,a14,a15,a16]):Blk ((((w.setCell ⟨g,4,none⟩ b4).setCell ⟨g,5,none⟩ b5).setCell ⟨g,6,none⟩ b6).setCell ⟨g,7,none⟩ b7) g t #[a0,a1,a2,a3,b4,b5,b6,b7,a8,a9,a10,a11,a12,a13,a14,a15,a16]:=by
 have s:∀(W:World) (cs:Array Value) (i:Nat) (b:Value),Blk W g t cs->Blk (W.setCell ⟨g,i,none⟩ b) g t (cs.setIfInBounds i b):=λW cs i b h=>heap_setCell_same W g i _ _ b h
 have hh:=(s _ _ 7 b7 (s _ _ 6 b6 (s _ _ 5 b5 (s _ _ 4 b4 h))))
 have e:(((((#[a0,a1,a2,a3,a4,a5,a6,a7,a8,a9,a10,a11,a12,a13,a14,a15,a16]:Array Value).setIfInBounds 4 b4).setIfInBounds 5 b5).setIfInBounds 6 b6).setIfInBounds 7 b7)=#[a0,a1,a2,a3,b4,b5,b6,b7,a8,a9,a10,a11,a12,a13,a14,a15,a16]:=by simp
 rw[e]at hh
 exact hh
theorem ChR.so17_4 {bb:Nat} {w w':World} {g:Nat}(h:ChR bb w w')(b4 b5 b6 b7:Value)(hg:w.heap.size<=g):ChR bb w ((((w'.setCell ⟨g,4,none⟩ b4).setCell ⟨g,5,none⟩ b5).setCell ⟨g,6,none⟩ b6).setCell ⟨g,7,none⟩ b7) :=
 ((((h.setCell (p:=⟨g,4,none⟩) (.inl hg) b4).setCell (p:=⟨g,5,none⟩) (.inl hg) b5).setCell (p:=⟨g,6,none⟩) (.inl hg) b6).setCell (p:=⟨g,7,none⟩) (.inl hg) b7)
theorem so17_4_far(w:World)(g k:Nat)(b4 b5 b6 b7:Value)(hk:k≠g):((((w.setCell ⟨g,4,none⟩ b4).setCell ⟨g,5,none⟩ b5).setCell ⟨g,6,none⟩ b6).setCell ⟨g,7,none⟩ b7).heap[k]? = w.heap[k]?:=by
 rw[Below.heap_setCell _ ⟨g,7,none⟩ _ k hk,Below.heap_setCell _ ⟨g,6,none⟩ _ k hk,Below.heap_setCell _ ⟨g,5,none⟩ _ k hk,Below.heap_setCell _ ⟨g,4,none⟩ _ k hk]
theorem size_so17_4(w:World)(g:Nat)(b4 b5 b6 b7:Value):((((w.setCell ⟨g,4,none⟩ b4).setCell ⟨g,5,none⟩ b5).setCell ⟨g,6,none⟩ b6).setCell ⟨g,7,none⟩ b7).heap.size=w.heap.size:=by simp
theorem blk_so5_1 {w:World} {g:Nat} {t:TypeId} {a0 a1 a2 a3 a4:Value}(b1 b2 b3 b4:Value)(h:Blk w g t #[a0,a1,a2,a3,a4]):Blk ((((w.setCell ⟨g,1,none⟩ b1).setCell ⟨g,2,none⟩ b2).setCell ⟨g,3,none⟩ b3).setCell ⟨g,4,none⟩ b4) g t #[a0,b1,b2,b3,b4]:=by
 have s:∀(W:World) (cs:Array Value) (i:Nat) (b:Value),Blk W g t cs->Blk (W.setCell ⟨g,i,none⟩ b) g t (cs.setIfInBounds i b):=λW cs i b h=>heap_setCell_same W g i _ _ b h
 have hh:=(s _ _ 4 b4 (s _ _ 3 b3 (s _ _ 2 b2 (s _ _ 1 b1 h))))
 have e:(((((#[a0,a1,a2,a3,a4]:Array Value).setIfInBounds 1 b1).setIfInBounds 2 b2).setIfInBounds 3 b3).setIfInBounds 4 b4)=#[a0,b1,b2,b3,b4]:=by simp
 rw[e]at hh
 exact hh
theorem ChR.so5_1 {bb:Nat} {w w':World} {g:Nat}(h:ChR bb w w')(b1 b2 b3 b4:Value)(hg:w.heap.size<=g):ChR bb w ((((w'.setCell ⟨g,1,none⟩ b1).setCell ⟨g,2,none⟩ b2).setCell ⟨g,3,none⟩ b3).setCell ⟨g,4,none⟩ b4) :=
 ((((h.setCell (p:=⟨g,1,none⟩) (.inl hg) b1).setCell (p:=⟨g,2,none⟩) (.inl hg) b2).setCell (p:=⟨g,3,none⟩) (.inl hg) b3).setCell (p:=⟨g,4,none⟩) (.inl hg) b4)
theorem so5_1_far(w:World)(g k:Nat)(b1 b2 b3 b4:Value)(hk:k≠g):((((w.setCell ⟨g,1,none⟩ b1).setCell ⟨g,2,none⟩ b2).setCell ⟨g,3,none⟩ b3).setCell ⟨g,4,none⟩ b4).heap[k]? = w.heap[k]?:=by
 rw[Below.heap_setCell _ ⟨g,4,none⟩ _ k hk,Below.heap_setCell _ ⟨g,3,none⟩ _ k hk,Below.heap_setCell _ ⟨g,2,none⟩ _ k hk,Below.heap_setCell _ ⟨g,1,none⟩ _ k hk]
theorem size_so5_1(w:World)(g:Nat)(b1 b2 b3 b4:Value):((((w.setCell ⟨g,1,none⟩ b1).setCell ⟨g,2,none⟩ b2).setCell ⟨g,3,none⟩ b3).setCell ⟨g,4,none⟩ b4).heap.size=w.heap.size:=by simp
theorem blk_so9_3 {w:World} {g:Nat} {t:TypeId} {a0 a1 a2 a3 a4 a5 a6 a7 a8:Value}(b3 b4 b5 b6:Value)(h:Blk w g t #[a0,a1,a2,a3,a4,a5,a6,a7,a8]):Blk ((((w.setCell ⟨g,3,none⟩ b3).setCell ⟨g,4,none⟩ b4).setCell ⟨g,5,none⟩ b5).setCell ⟨g,6,none⟩ b6) g t #[a0,a1,a2,b3,b4,b5,b6,a7,a8]:=by
 have s:∀(W:World) (cs:Array Value) (i:Nat) (b:Value),Blk W g t cs->Blk (W.setCell ⟨g,i,none⟩ b) g t (cs.setIfInBounds i b):=λW cs i b h=>heap_setCell_same W g i _ _ b h
 have hh:=(s _ _ 6 b6 (s _ _ 5 b5 (s _ _ 4 b4 (s _ _ 3 b3 h))))
 have e:(((((#[a0,a1,a2,a3,a4,a5,a6,a7,a8]:Array Value).setIfInBounds 3 b3).setIfInBounds 4 b4).setIfInBounds 5 b5).setIfInBounds 6 b6)=#[a0,a1,a2,b3,b4,b5,b6,a7,a8]:=by simp
 rw[e]at hh
 exact hh
theorem ChR.so9_3 {bb:Nat} {w w':World} {g:Nat}(h:ChR bb w w')(b3 b4 b5 b6:Value)(hg:w.heap.size<=g):ChR bb w ((((w'.setCell ⟨g,3,none⟩ b3).setCell ⟨g,4,none⟩ b4).setCell ⟨g,5,none⟩ b5).setCell ⟨g,6,none⟩ b6) :=
 ((((h.setCell (p:=⟨g,3,none⟩) (.inl hg) b3).setCell (p:=⟨g,4,none⟩) (.inl hg) b4).setCell (p:=⟨g,5,none⟩) (.inl hg) b5).setCell (p:=⟨g,6,none⟩) (.inl hg) b6)
theorem so9_3_far(w:World)(g k:Nat)(b3 b4 b5 b6:Value)(hk:k≠g):((((w.setCell ⟨g,3,none⟩ b3).setCell ⟨g,4,none⟩ b4).setCell ⟨g,5,none⟩ b5).setCell ⟨g,6,none⟩ b6).heap[k]? = w.heap[k]?:=by
 rw[Below.heap_setCell _ ⟨g,6,none⟩ _ k hk,Below.heap_setCell _ ⟨g,5,none⟩ _ k hk,Below.heap_setCell _ ⟨g,4,none⟩ _ k hk,Below.heap_setCell _ ⟨g,3,none⟩ _ k hk]
theorem size_so9_3(w:World)(g:Nat)(b3 b4 b5 b6:Value):((((w.setCell ⟨g,3,none⟩ b3).setCell ⟨g,4,none⟩ b4).setCell ⟨g,5,none⟩ b5).setCell ⟨g,6,none⟩ b6).heap.size=w.heap.size:=by simp
end Go.Proofs.YtmbmjneibkihkaaGreatDoor
