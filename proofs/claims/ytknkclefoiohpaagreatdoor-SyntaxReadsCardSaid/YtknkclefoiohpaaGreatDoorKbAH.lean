/-
  Contracts of the code's functions, part 34.
-/
import Derived.Test.YtknkclefoiohpaaGreatDoorKbY
import Derived.Test.YtknkclefoiohpaaGreatDoorKbU
import Derived.Test.YtknkclefoiohpaaGreatDoorKbAG
namespace Go.Proofs.YtknkclefoiohpaaGreatDoor
open Go.RowKit Lx Tx Sx Go.Shelf
set_option maxRecDepth 100000
def end0(o:Option (Ex × List Tok)):Except Nat Ex:=match o with|some (e,[])=>.ok e|_=>.error 80
def parse0E(s:List UInt8):Except Nat Ex:=match scanS s with|(ts,_,0)=>end0 (rdE (enoughE ts) ts)|(_,_,e)=>.error e
def deepX(o:Except Nat Ex):Except Nat Ex:=match o with|.ok e=>if e.tooDeep=true then .error 3 else .ok e|.error n=>.error n
theorem parseE_eq(s:List UInt8):parseE s=deepX (parse0E s):=by
 unfold parseE parse0E deepX
 rcases scanS s with⟨ts,a,er⟩
 cases er with
 | zero =>
  simp only[end0]
  rcases rdE (enoughE ts) ts with _|⟨e,r⟩
  ·rfl
  ·cases r <;> rfl
 | succ n=>rfl
theorem parse0E_err(s:List UInt8)(ts:List Tok)(a er:Nat)(h:scanS s=(ts,a,er))(he:er≠0):parse0E s=.error er:=by
 unfold parse0E
 rw[h]
 cases er with
 | zero=>exact absurd rfl he
 | succ n=>rfl
theorem parse0E_ok(s:List UInt8)(ts:List Tok)(a:Nat)(h:scanS s=(ts,a,0)):parse0E s=end0 (rdE (enoughE ts) ts):=by
 unfold parse0E
 rw[h]
 rfl
def WhE(s:List UInt8)(w:World)(e:Ending)(w':World):Prop :=
 Below w.heap.size w w' /\
  ((∃n,n≠0/\parse0E s=.error n/\e=.returned (.tuple #[.agg exZ,.int .i64 (n:Nat)])) \/
   (∃x cs,shE cs/\x.Ok/\x.wt<=4000/\parse0E s=.ok x/\e=.returned (.tuple #[.agg cs.toArray,.int .i64 0])/\pcE.Cs (λg=>w.heap.size<=g/\g<w'.heap.size) w' x cs))
theorem below_set9 {B:Nat} {w w':World} {g:Nat}(h:Below B w w')(hg:B<=g)(b0 b1 b2 b3 b4 b5 b6 b7 b8:Value) :
  Below B w (((((((((w'.setCell ⟨g,0,none⟩ b0).setCell ⟨g,1,none⟩ b1).setCell ⟨g,2,none⟩ b2).setCell ⟨g,3,none⟩ b3).setCell ⟨g,4,none⟩ b4).setCell ⟨g,5,none⟩ b5).setCell ⟨g,6,none⟩ b6).setCell ⟨g,7,none⟩ b7).setCell ⟨g,8,none⟩ b8) :=
 ((((((((h.setCell (p:=⟨g,0,none⟩) hg b0).setCell (p:=⟨g,1,none⟩) hg b1).setCell (p:=⟨g,2,none⟩) hg b2).setCell (p:=⟨g,3,none⟩) hg b3).setCell (p:=⟨g,4,none⟩) hg b4).setCell (p:=⟨g,5,none⟩) hg b5).setCell (p:=⟨g,6,none⟩) hg b6).setCell (p:=⟨g,7,none⟩) hg b7).setCell (p:=⟨g,8,none⟩) hg b8
set_option maxHeartbeats 6400000 in
theorem sx_WholeE(s:ByteArray)(gf:Nat)(w:World)(hs:s.size<=maxLen)(hc:w.cell? ⟨gf,0,none⟩=some (.func (.func 42) #[] #[])) :
  Calls Tryz.prog 40 #[.string s,.func (.func 92) #[] #[.pointer (some ⟨gf,0,none⟩)],.int .i64 80] w (WhE s.data.toList w):=by
 have ek:∀args w,(callFunc 92 args).run Tryz.prog w=.ok (.enter 92 args) w:=enters_of Tryz.func92 (by kernel_rfl) rfl
 have hgl:=lt_cell hc
 obtain⟨W0,hW0⟩:∃W,(w.alloc (.cells exZ 39)).alloc (.cells exZ 39)=W:=⟨_,rfl⟩
 have hr0:Blk W0 w.heap.size 39 exZ:=hW0▸Blk.below (heap_alloc_new w _) ((Below.refl _ _).alloc (Nat.le_refl _) _) (by simp)
 have hn0:Blk W0 (w.heap.size+1) 39 exZ:=hW0▸two_top _ _ _ _ rfl
 have hb0:Below w.heap.size w W0:=hW0▸((Below.refl _ w).alloc (Nat.le_refl _) _).alloc (by simp) _
 have hs0:W0.heap.size=w.heap.size+2:=by rw[<-hW0];simp
 have HC:Hid (∀V,Below W0.heap.size W0 V->V.cell? ⟨gf,0,none⟩=some (.func (.func 42) #[] #[])):=hidE λV hV =>
  (World.cell?_of_block (w:=w) (a:=⟨gf,0,none⟩) ((hV.block gf (by omega)).trans (hb0.block gf hgl))).trans hc
 have R0:=hidE hr0
 have N0:=hidE hn0
 have B0:=hidE hb0
 unfold exZ at hW0
 clear hr0 hn0 hb0 hc
 go_enter Tryz.func40,Tryz.ntmps40
 go_upto_region 2 with fail
 try rw[hW0]
 clear hW0
 go_wp2_with fail
 refine(scan_any s _ hs).mono ?_
 rintro e w1 ⟨b1,v,ts,a,er,hsc,rfl,hown⟩
 have hs1:=b1.size
 have hbr:=R0.out.below b1 (by omega)
 have hbn:=N0.out.below b1 (by omega)
 replace B0:=hidE (B0.out.trans (b1.mono (by omega)))
 have HSC:=hidE hsc
 have HTK:=hidE (toks_of_own rfl hown)
 have hcf:=HC.out w1 b1
 have R1:=hidE hbr
 have N1:=hidE hbn
 by_cases he:er=0
 ·subst he
  obtain⟨hG,hL⟩:=scan_good _ _ _ HSC.out
  have HR:=hidE (sx_aheadE _ gf ts v w1 HTK.out (λ_ h=>h) hG (by omega) hcf)
  obtain⟨O,hO⟩:∃O,rdE (enoughE ts) ts=O:=⟨_,rfl⟩
  rw[hO]at HR
  have HP:Hid (parse0E s.data.toList=end0 O):=hidE (by rw[parse0E_ok _ _ _ HSC.out,hO])
  have HSZ:Hid (∀x r,O=some (x,r)->x.Ok/\x.wt<=4000):=hidE λx r h=>by
   obtain⟨o1,-,o3⟩:=(rd_facts _).1 ts x r hG (hO.trans h)
   exact⟨o1,by omega⟩
  clear hO hG hbr hbn b1 hsc hown hcf
  go_wp2_with fail
  refine HR.out.mono ?_
  rintro e w2 ⟨b2,cs,A2,n,c2,q,hsh,rfl,hno,hyes⟩
  obtain⟨ck,cx,ct,cK,cX,cZ,cB,cm,cq,cKA,ckn,ckc,cLA,cln,clc,rfl⟩:=hsh
  have hs2:=b2.size
  obtain⟨V,hV⟩:∃V,w2.alloc (.cells #[.int .i64 ck,.string cx,.bool ct,.int .i64 cK,.string cX,.int .i64 cZ,.slice cB cm cq,.slice cKA ckn ckc,.slice cLA cln clc] 39)=V:=⟨_,rfl⟩
  have hbt:Blk V w2.heap.size 39 #[.int .i64 ck,.string cx,.bool ct,.int .i64 cK,.string cX,.int .i64 cZ,.slice cB cm cq,.slice cKA ckn ckc,.slice cLA cln clc]:=hV▸heap_alloc_new _ _
  have hb2:Below w1.heap.size w1 V:=hV▸b2.alloc b2.size _
  have hk2:∀g,g<w2.heap.size->V.heap[g]? = w2.heap[g]?:=λg hg=>hV▸Below.heap_alloc _ _ _ hg
  have hvs:V.heap.size=w2.heap.size+1:=by rw[<-hV];simp
  have hbr:=R1.out.below hb2 (by omega)
  have hbn:=N1.out.below hb2 (by omega)
  have R2:=hidE hbr
  have BW:=hidE (B0.out.trans (hb2.mono (by omega)))
  have HK2:=hidE hk2
  have HNO:=hidE hno
  have HYES:=hidE hyes
  have HV:=hidE hV
  obtain⟨⟨r0,r1,r2,r3,r4,r5,r6,r7,r8⟩,y0,y1,y2,y3,y4,y5,y6,y7,y8⟩:=z9 hbr
  obtain⟨⟨n0,n1,n2,n3,n4,n5,n6,n7,n8⟩,-⟩:=z9 hbn
  obtain⟨⟨t0,t1,t2,t3,t4,t5,t6,t7,t8⟩,-,hlt⟩:=blk_facts9 hbt
  have hlr:=hbr.lt
  have hln:=hbn.lt
  clear hbr hbn hbt hb2 hk2 b2 hno hyes HR hV
  cases q with
  | false =>
   have HP2:Hid (parse0E s.data.toList=.error 80):=hidE (by rw[HP.out,HNO.out rfl];rfl)
   clear HNO HYES
   go_upto_region 6 with fail
   try rw[HV.out]
   clear HV
   go_wp2_with fail
   try simp only[Exit.inBlock,Exit.then]
   refine bodyPost_ret (results_ct rfl _ _ w.heap.size 39 _ (0,0) _ rfl (blk_set9 _ _ _ _ _ _ _ _ _ R2.out) Tryz.underlying39 rfl (by kernel_rfl)) rfl ?_
   exact⟨below_set9 BW.out (Nat.le_refl _) _ _ _ _ _ _ _ _ _,.inl ⟨80,by decide,HP2.out,rfl⟩⟩
  | true =>
   obtain⟨x,r,ho,hn,hx⟩:=HYES.out rfl
   replace hn:=hn.symm
   obtain⟨hok,hwt⟩:=HSZ.out x r ho
   have HX:=hidE hx
   have HOK:=hidE hok
   clear HNO HYES hx hok
   go_upto_region 6 with fail
   try rw[HV.out]
   clear HV
   by_cases hn0:n=0
   ·subst hn0
    obtain rfl:r=[]:=List.length_eq_zero_iff.1 hn
    have HP2:Hid (parse0E s.data.toList=.ok x):=hidE (by rw[HP.out,ho];rfl)
    clear hn ho
    go_wp2_with fail
    try simp only[Exit.inBlock,Exit.then]
    refine bodyPost_ret (results_ct rfl _ _ w.heap.size 39 _ (0,0) _ rfl (blk_set9 _ _ _ _ _ _ _ _ _ R2.out) Tryz.underlying39 rfl (by kernel_rfl)) rfl ?_
    exact⟨below_set9 BW.out (Nat.le_refl _) _ _ _ _ _ _ _ _ _,.inr ⟨x,_,⟨_,_,_,_,_,_,_,_,_,_,_,_,_,_,_,rfl⟩,HOK.out,hwt,HP2.out,rfl,pcE.keep (λg hg=>⟨by omega,by rw[size_set9];omega⟩) (λg hg=>(set9_far _ _ _ _ _ _ _ _ _ _ _ _ (by omega)).trans (HK2.out g hg.2)) HX.out⟩⟩
   ·have HP2:Hid (parse0E s.data.toList=.error 80):=hidE (by
     rw[HP.out,ho]
     cases r with
     | nil=>exact absurd hn.symm hn0
     | cons a r=>rfl)
    have hnpos:0<n:=by omega
    clear hn ho hn0
    go_wp2_with fail
    try simp only[Exit.inBlock,Exit.then]
    refine bodyPost_ret (results_ct rfl _ _ w.heap.size 39 _ (0,0) _ rfl (blk_set9 _ _ _ _ _ _ _ _ _ R2.out) Tryz.underlying39 rfl (by kernel_rfl)) rfl ?_
    exact⟨below_set9 BW.out (Nat.le_refl _) _ _ _ _ _ _ _ _ _,.inl ⟨80,by decide,HP2.out,rfl⟩⟩
 ·have HP:=hidE (parse0E_err _ _ _ _ HSC.out he)
  have dn:((er:Int) != 0)=true:=neqT _ _ (by omega)
  have HE:=hidE he
  obtain⟨⟨r0,r1,r2,r3,r4,r5,r6,r7,r8⟩,y0,y1,y2,y3,y4,y5,y6,y7,y8⟩:=z9 hbr
  obtain⟨⟨n0,n1,n2,n3,n4,n5,n6,n7,n8⟩,-⟩:=z9 hbn
  have hlr:=hbr.lt
  have hln:=hbn.lt
  clear he hbr hbn b1 hsc hown hcf
  go_wp2_with fail
  try simp only[Exit.inBlock,Exit.then]
  refine bodyPost_ret (results_ct rfl _ _ w.heap.size 39 _ (0,0) _ rfl (blk_set9 _ _ _ _ _ _ _ _ _ R1.out) Tryz.underlying39 rfl (by kernel_rfl)) rfl ?_
  exact⟨below_set9 B0.out (Nat.le_refl _) _ _ _ _ _ _ _ _ _,.inl ⟨er,HE.out,HP.out,rfl⟩⟩
set_option maxHeartbeats 800000 in
theorem sx_mkE(w:World):Calls Tryz.prog 41 #[.func (.func 42) #[] #[]] w λe w' =>
  e=.returned (.func (.func 92) #[] #[.pointer (some ⟨w.heap.size,0,none⟩)])/\w'=w.alloc (.cells #[.func (.func 42) #[] #[]] 101):=by
 have mk:∀(W:World) (p:Addr),(Instr.makeFunc (.func 92) #[] #[.pointer (some p)]).run Tryz.prog W=.ok (.func (.func 92) #[] #[.pointer (some p)]) W:=λ_ _=>rfl
 go_enter Tryz.func41,Tryz.ntmps41
 go_wp2_with fail
 go_ret
 exact⟨rfl,rfl⟩
def XPost(s:List UInt8)(w:World)(e:Ending)(w':World):Prop :=
 Below w.heap.size w w' /\
  ((∃n,n≠0/\parseE s=.error n/\e=.returned (.tuple #[.agg exZ,.int .i64 (n:Nat)])) \/
   (∃x cs,shE cs/\x.Ok/\x.wt<=4000/\parseE s=.ok x/\e=.returned (.tuple #[.agg cs.toArray,.int .i64 0])/\pcE.Cs (λg=>w.heap.size<=g/\g<w'.heap.size) w' x cs))
set_option maxHeartbeats 6400000 in
theorem sx_parseExpr(s:ByteArray)(w:World)(hs:s.size<=maxLen):Calls Tryz.prog 12 #[.string s] w (XPost s.data.toList w):=by
 obtain⟨W0,hW0⟩:∃W,(w.alloc (.cells exZ 39)).alloc (.cells #[.func (.func 42) #[] #[]] 101)=W:=⟨_,rfl⟩
 have hs0:W0.heap.size=w.heap.size+2:=by rw[<-hW0];simp
 have hr0:Blk W0 w.heap.size 39 exZ:=hW0▸Blk.below (heap_alloc_new w _) ((Below.refl _ _).alloc (Nat.le_refl _) _) (by simp)
 have hf0:Blk W0 (w.heap.size+1) 101 #[.func (.func 42) #[] #[]]:=hW0▸two_top _ _ _ _ rfl
 have hb0:Below w.heap.size w W0:=hW0▸((Below.refl _ w).alloc (Nat.le_refl _) _).alloc (by simp) _
 have HWH:=hidE (sx_WholeE s (w.heap.size+1) W0 hs (hf0.cell 0))
 have R0:=hidE hr0
 have B0:=hidE hb0
 unfold exZ at hW0
 clear hr0 hf0 hb0
 go_enter Tryz.func12,Tryz.ntmps12
 go_wp2_with fail
 refine(sx_mkE _).mono ?_
 rintro e w0 ⟨rfl,rfl⟩
 try rw[hW0]
 simp only[World.size_alloc]
 go_wp2_with fail
 try rw[hW0]
 refine HWH.out.mono ?_
 rintro e w1 ⟨b1,hcases⟩
 have hs1:=b1.size
 have R1:=hidE (R0.out.below b1 (by omega))
 have B1:=hidE (B0.out.trans (b1.mono (by omega)))
 clear HWH b1
 try clear hW0
 rcases hcases with⟨n,hn,hp,rfl⟩|⟨x,cs,hsh,hok,hwt,hp,rfl,hx⟩
 ·have HP:Hid (n≠0/\parseE s.data.toList=.error n):=hidE ⟨hn,by rw[parseE_eq,hp];rfl⟩
  obtain⟨V,hV⟩:∃V,w1.alloc (.cells #[.int .i64 0,.string ⟨#[]⟩,.bool false,.int .i64 0,.string ⟨#[]⟩,.int .i64 0,.slice none 0 0,.slice none 0 0,.slice none 0 0] 39)=V:=⟨_,rfl⟩
  have hbt:Blk V w1.heap.size 39 exZ:=hV▸heap_alloc_new _ _
  have hb2:Below w1.heap.size w1 V:=hV▸(Below.refl _ w1).alloc (Nat.le_refl _) _
  have hvs:V.heap.size=w1.heap.size+1:=by rw[<-hV];simp
  have HD:=hidE (sx_tooDeep0 V)
  obtain⟨⟨t0,t1,t2,t3,t4,t5,t6,t7,t8⟩,-⟩:=z9 hbt
  have hlt:=hbt.lt
  have HBT:=hidE hbt
  have R2:=hidE (R1.out.below hb2 (by omega))
  have B2:=hidE (B1.out.trans (hb2.mono (by omega)))
  have HV:=hidE hV
  clear hn hp hbt hb2 hV
  unfold exZ
  go_upto_region 2 with fail
  try rw[HV.out]
  clear HV
  go_wp2_with fail
  refine HD.out.mono ?_
  rintro e w2 ⟨rfl,b2⟩
  have hs2:=b2.size
  clear t0 t1 t2 t3 t4 t5 t6 t7 t8
  obtain⟨⟨t0,t1,t2,t3,t4,t5,t6,t7,t8⟩,-⟩:=z9 (HBT.out.below b2 hlt)
  have hlt2:w1.heap.size<w2.heap.size:=by omega
  have hbr:=R2.out.below b2 (by omega)
  obtain⟨⟨r0,r1,r2,r3,r4,r5,r6,r7,r8⟩,y0,y1,y2,y3,y4,y5,y6,y7,y8⟩:=z9 hbr
  have hlr:=hbr.lt
  have R3:=hidE hbr
  have B3:=hidE (B2.out.trans (b2.mono (by omega)))
  clear hbr b2 HD
  go_wp2_with fail
  try simp only[Exit.inBlock,Exit.then]
  refine bodyPost_ret (results_ct rfl _ _ w.heap.size 39 _ (0,0) _ rfl (blk_set9 _ _ _ _ _ _ _ _ _ R3.out) Tryz.underlying39 rfl (by kernel_rfl)) rfl ?_
  exact⟨below_set9 B3.out (Nat.le_refl _) _ _ _ _ _ _ _ _ _,.inl ⟨n,HP.out.1,HP.out.2,rfl⟩⟩
 ·obtain⟨ck,cx,ct,cK,cX,cZ,cB,cm,cq,cKA,ckn,ckc,cLA,cln,clc,rfl⟩:=hsh
  obtain⟨V,hV⟩:∃V,w1.alloc (.cells #[.int .i64 ck,.string cx,.bool ct,.int .i64 cK,.string cX,.int .i64 cZ,.slice cB cm cq,.slice cKA ckn ckc,.slice cLA cln clc] 39)=V:=⟨_,rfl⟩
  have hbt:Blk V w1.heap.size 39 #[.int .i64 ck,.string cx,.bool ct,.int .i64 cK,.string cX,.int .i64 cZ,.slice cB cm cq,.slice cKA ckn ckc,.slice cLA cln clc]:=hV▸heap_alloc_new _ _
  have hb2:Below w1.heap.size w1 V:=hV▸(Below.refl _ w1).alloc (Nat.le_refl _) _
  have hvs:V.heap.size=w1.heap.size+1:=by rw[<-hV];simp
  have hxV:=pcE.keep (λ_ h=>h) (λg hg=>hb2.block g hg.2) hx
  have HD:=hidE (sx_tooDeep x _ _ V (by have:=Sx.size_wt x;omega) (by omega) (rdX_cs.2 hxV) (λg hg=>by have:=hg.2;omega))
  have HX:=hidE hxV
  have HP:Hid (parseE s.data.toList=if x.tooDeep=true then .error 3 else .ok x):=hidE (by rw[parseE_eq,hp];rfl)
  obtain⟨q,hq⟩:∃q,x.tooDeep=q:=⟨_,rfl⟩
  rw[hq]at HD HP
  obtain⟨⟨t0,t1,t2,t3,t4,t5,t6,t7,t8⟩,-,hlt⟩:=blk_facts9 hbt
  have HBT:=hidE hbt
  have HOK:=hidE hok
  have R2:=hidE (R1.out.below hb2 (by omega))
  have B2:=hidE (B1.out.trans (hb2.mono (by omega)))
  clear hp hbt hb2 hx hxV hq hok
  go_upto_region 2 with fail
  try rw[hV]
  clear hV
  go_wp2_with fail
  refine HD.out.mono ?_
  rintro e w2 ⟨rfl,b2⟩
  have hs2:=b2.size
  clear t0 t1 t2 t3 t4 t5 t6 t7 t8
  obtain⟨⟨t0,t1,t2,t3,t4,t5,t6,t7,t8⟩,-,hlt2⟩:=blk_facts9 (HBT.out.below b2 hlt)
  have hbr:=R2.out.below b2 (by omega)
  obtain⟨⟨r0,r1,r2,r3,r4,r5,r6,r7,r8⟩,y0,y1,y2,y3,y4,y5,y6,y7,y8⟩:=z9 hbr
  have hlr:=hbr.lt
  have R3:=hidE hbr
  have B3:=hidE (B2.out.trans (b2.mono (by omega)))
  have HX3:=hidE (pcE.keep (λ_ h=>h) (λg hg=>b2.block g (by have:=hg.2;omega)) HX.out)
  clear hbr b2 HD
  cases q with
  | true =>
   go_wp2_with fail
   try simp only[Exit.inBlock,Exit.then]
   refine bodyPost_ret (results_ct rfl _ _ w.heap.size 39 _ (0,0) _ rfl (blk_set9 _ _ _ _ _ _ _ _ _ R3.out) Tryz.underlying39 rfl (by kernel_rfl)) rfl ?_
   exact⟨below_set9 B3.out (Nat.le_refl _) _ _ _ _ _ _ _ _ _,.inl ⟨3,by decide,by rw[HP.out];simp,rfl⟩⟩
  | false =>
   go_wp2_with fail
   try simp only[Exit.inBlock,Exit.then]
   refine bodyPost_ret (results_ct rfl _ _ w.heap.size 39 _ (0,0) _ rfl (blk_set9 _ _ _ _ _ _ _ _ _ R3.out) Tryz.underlying39 rfl (by kernel_rfl)) rfl ?_
   exact⟨below_set9 B3.out (Nat.le_refl _) _ _ _ _ _ _ _ _ _,.inr ⟨x,_,⟨_,_,_,_,_,_,_,_,_,_,_,_,_,_,_,rfl⟩,HOK.out,hwt,by rw[HP.out];simp,rfl,
    pcE.keep (λg hg=>⟨by omega,by rw[size_set9];omega⟩) (λg hg=>set9_far _ _ _ _ _ _ _ _ _ _ _ _ (by omega)) HX3.out⟩⟩
end Go.Proofs.YtknkclefoiohpaaGreatDoor
