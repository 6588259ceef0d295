/-
  Contracts of the code's functions, part 39.
-/
import Derived.Test.YtknkclefoiohpaaGreatDoorKbAK
import Derived.Test.YtknkclefoiohpaaGreatDoorKbZ
import Derived.Test.YtknkclefoiohpaaGreatDoorKbE
namespace Go.Proofs.YtknkclefoiohpaaGreatDoor
open Go.RowKit Lx Tx Sx
set_option maxRecDepth 100000
def XP8e(s:List UInt8)(w:World)(e:Ending)(w':World):Prop :=
 Below w.heap.size w w'/\∃(cs:List Value),shE cs /\
  ((∃n,n≠0/\parseE s=.error n/\e=.returned (.tuple #[.agg cs.toArray,.int .i64 (n:Nat)])) \/
   (∃x,x.Ok/\x.wt<=4000/\parseE s=.ok x/\e=.returned (.tuple #[.agg cs.toArray,.int .i64 0])/\pcE.Cs (λg=>w.heap.size<=g/\g<w'.heap.size) w' x cs))
theorem parseE_ok(s:List UInt8)(ts:List Tok)(a:Nat)(h:scanS s=(ts,a,0)):parseE s=match rdE (enoughE ts) ts with
  | some (e,[])=>if e.tooDeep then .error 3 else .ok e
  | _=>.error 80:=by
 rw[parseE,h]
 rfl
theorem parseE_er(s:List UInt8)(ts:List Tok)(a er:Nat)(h:scanS s=(ts,a,er))(he:er≠0):parseE s=.error er:=by
 rw[parseE,h]
 cases er with
 | zero=>exact absurd rfl he
 | succ n=>rfl
theorem xp8e_set9 {s:List UInt8} {w W:World} {k:Int} {x:ByteArray} {t:Bool} {K:Int} {X:ByteArray} {Z:Int} {B:Option Addr} {m q:Nat} {KA:Option Addr} {kn kc:Nat} {LA:Option Addr} {ln lc:Nat} {n:Nat}
  (hb:Below w.heap.size w W)(hx:(n≠0/\parseE s=.error n)\/(n=0/\∃y:Ex,y.Ok/\y.wt<=4000/\parseE s=.ok y/\pcE.Cs (λg=>w.heap.size<g/\g<W.heap.size) W y [.int .i64 k,.string x,.bool t,.int .i64 K,.string X,.int .i64 Z,.slice B m q,.slice KA kn kc,.slice LA ln lc])) :
  XP8e s w (.returned (.tuple #[.agg #[.int .i64 k,.string x,.bool t,.int .i64 K,.string X,.int .i64 Z,.slice B m q,.slice KA kn kc,.slice LA ln lc],.int .i64 (n:Nat)]))
   (((((((((W.setCell ⟨w.heap.size,0,none⟩ (.int .i64 k)).setCell ⟨w.heap.size,1,none⟩ (.string x)).setCell ⟨w.heap.size,2,none⟩ (.bool t)).setCell ⟨w.heap.size,3,none⟩ (.int .i64 K)).setCell ⟨w.heap.size,4,none⟩ (.string X)).setCell ⟨w.heap.size,5,none⟩ (.int .i64 Z)).setCell ⟨w.heap.size,6,none⟩ (.slice B m q)).setCell ⟨w.heap.size,7,none⟩ (.slice KA kn kc)).setCell ⟨w.heap.size,8,none⟩ (.slice LA ln lc)):=by
 refine⟨below_set9 hb (Nat.le_refl _) _ _ _ _ _ _ _ _ _,[.int .i64 k,.string x,.bool t,.int .i64 K,.string X,.int .i64 Z,.slice B m q,.slice KA kn kc,.slice LA ln lc],⟨_,_,_,_,_,_,_,_,_,_,_,_,_,_,_,rfl⟩,?_⟩
 rcases hx with⟨h1,h2⟩|⟨rfl,y,h1,h2,h3,h4⟩
 ·exact .inl ⟨n,h1,h2,rfl⟩
 ·exact .inr ⟨y,h1,h2,h3,rfl,pcE.keep (λg hg=>⟨by omega,by rw[size_set9];omega⟩) (λg hg=>set9_far _ _ _ _ _ _ _ _ _ _ _ _ (by omega)) h4⟩
set_option maxHeartbeats 6400000 in
theorem r8_parseExpr(s:ByteArray)(w:World)(hs:s.size<=maxLen):Calls Tryz.prog 13 #[.string s] w (XP8e s.data.toList w):=by
 obtain⟨W0,hW0⟩:∃W,w.alloc (.cells #[.int .i64 0,.string ⟨#[]⟩,.bool false,.int .i64 0,.string ⟨#[]⟩,.int .i64 0,.slice none 0 0,.slice none 0 0,.slice none 0 0] 48)=W:=⟨_,rfl⟩
 have hal:Below w.heap.size w W0:=hW0▸(Below.refl _ w).alloc (Nat.le_refl _) _
 have hs0:w.heap.size+1<=W0.heap.size/\W0.heap.size<=w.heap.size+1:=by rw[<-hW0];simp
 have hbk:Blk W0 w.heap.size 48 #[.int .i64 0,.string ⟨#[]⟩,.bool false,.int .i64 0,.string ⟨#[]⟩,.int .i64 0,.slice none 0 0,.slice none 0 0,.slice none 0 0]:=hW0▸heap_alloc_new _ _
 have HAL:=hidE hal
 have HBK:=hidE hbk
 have HSCN:=hidE (ref_any s W0 hs)
 clear hal hbk
 go_enter Tryz.func13,Tryz.ntmps13
 go_wp2_with fail
 try rw[hW0]
 refine HSCN.out.mono ?_
 rintro e w1 ⟨b1,v,ts,a,er,hsc,rfl,hown⟩
 have hs1:=b1.size
 have HB1:=hidE (HAL.out.trans (b1.mono (by omega)))
 have HBK1:=hidE (HBK.out.below b1 (by omega))
 have HSC:=hidE hsc
 have HRD:=hidE (RdT.of_own hown)
 obtain⟨A1,c1,rfl⟩:∃P c,v=.slice P ts.length c:=own_shape hown
 clear b1 hsc hown hW0 HSCN HBK
 by_cases he:er=0
 ·subst he
  obtain⟨hG,hL⟩:=scan_good _ _ _ HSC.out
  have hPA:=parseE_ok _ _ _ HSC.out
  have hR:=r8_read ts (.slice A1 ts.length c1) w1 hG (by omega) HRD.out
  obtain⟨O,hO⟩:∃O,rdE (enoughE ts) ts=O:=⟨_,rfl⟩
  rw[hO]at hR hPA
  obtain⟨N0,hN0⟩:∃n,ts.length=n:=⟨_,rfl⟩
  have HN0:=hidE hN0
  rw[hN0]at hR hL ⊢
  have HR:=hidE hR
  have HPA:=hidE hPA
  have HO:=hidE hO
  have HG:=hidE hG
  clear hR hPA hO hN0 hG
  go_wp2_with fail
  refine HR.out.mono ?_
  rintro e w2 ⟨b2,cs,zz,hsh,rfl,hpz,hcs⟩
  obtain⟨ck,cx,ct,cK,cX,cZ,cB,cm,cq,cKA,ckn,ckc,cLA,cln,clc,rfl⟩:=hsh
  have hs2:=b2.size
  obtain⟨W3,hW3⟩:∃W,w2.alloc (.cells #[.int .i64 ck,.string cx,.bool ct,.int .i64 cK,.string cX,.int .i64 cZ,.slice cB cm cq,.slice cKA ckn ckc,.slice cLA cln clc] 48)=W:=⟨_,rfl⟩
  have hbw:Below w2.heap.size w2 W3:=hW3▸(Below.refl _ w2).alloc (Nat.le_refl _) _
  have hs3:w2.heap.size+1<=W3.heap.size/\W3.heap.size<=w2.heap.size+1:=by rw[<-hW3];simp
  have hbe:Blk W3 w2.heap.size 48 #[.int .i64 ck,.string cx,.bool ct,.int .i64 cK,.string cX,.int .i64 cZ,.slice cB cm cq,.slice cKA ckn ckc,.slice cLA cln clc]:=hW3▸heap_alloc_new _ _
  have HB3:=hidE (HB1.out.trans ((b2.mono (by omega)).trans (hbw.mono (by omega))))
  have HBK3:=hidE ((HBK1.out.below b2 (by omega)).below hbw (by omega))
  have HBE:=hidE hbe
  have HCS:Hid (∀y r,O=some (y,r)->pcE.Cs (λg=>w.heap.size<g/\g<w2.heap.size) W3 y [.int .i64 ck,.string cx,.bool ct,.int .i64 cK,.string cX,.int .i64 cZ,.slice cB cm cq,.slice cKA ckn ckc,.slice cLA cln clc]):=hidE λy r ho=>pcE.keep (λg hg=>⟨by omega,hg.2⟩) (λg hg=>hbw.block g hg.2) (hcs y r ho)
  have HPZ:=hidE hpz
  have HW3:=hidE hW3
  have hlz:=hpz.lo
  obtain⟨⟨y0,y1,y2,y3,y4,y5,y6,y7,y8⟩,⟨z0,z1,z2,z3,z4,z5,z6,z7,z8⟩,hly⟩:=blk_facts9 HBK3.out
  clear b2 hbw hbe hpz hcs hW3 HR HBK1
  go_upto_region 5 with fail
  rw[HW3.out]
  clear HW3
  by_cases hz:zz=(N0:Int)
  ·have HX:Hid (∃y,O=some (y,[])):=hidE (by
    rcases HPZ.out with⟨-,h⟩|⟨k,hk,h1,h2⟩
    ·omega
    ·cases hO:O with
     | none=>rw[hO]at h2;cases h2
     | some u =>
      rw[hO]at h2
      replace h2:u.2=ts.drop k:=by injection h2
      exact⟨u.1,by rw[show u=(u.1,u.2) from rfl,h2,List.drop_eq_nil_of_le (by rw[HN0.out];omega)]⟩)
   obtain⟨y,hy⟩:=HX.out
   obtain⟨hok,-,hwt⟩:=(rd_facts _).1 ts y [] HG.out (HO.out.trans hy)
   simp only[List.length_nil,Nat.add_zero]at hwt
   have hwt4:y.wt<=4000:=by have:=HN0.out;omega
   have hsw:y.size<=400000:=by have:=Sx.size_wt y;omega
   have hcy:=HCS.out y [] hy
   have hd1:=r8_deepT 400000 y _ (.agg #[.int .i64 ck,.string cx,.bool ct,.int .i64 cK,.string cX,.int .i64 cZ,.slice cB cm cq,.slice cKA ckn ckc,.slice cLA cln clc]) W3 (by omega) (Nat.le_refl _) (by omega) ((rdX_cs (cs:=[.int .i64 ck,.string cx,.bool ct,.int .i64 cK,.string cX,.int .i64 cZ,.slice cB cm cq,.slice cKA ckn ckc,.slice cLA cln clc])).2 hcy) (λg hg=>by omega)
   have hd2:∀W,Below W3.heap.size W3 W->Calls Tryz.prog 19 #[.agg #[.int .i64 ck,.string cx,.bool ct,.int .i64 cK,.string cX,.int .i64 cZ,.slice cB cm cq,.slice cKA ckn ckc,.slice cLA cln clc]] W λen w'=>en=.returned (.int .i64 (y.depth:Nat))/\Below W.heap.size W w':=λW hb =>
    r8_depth 400000 y (λg=>w.heap.size<g/\g<w2.heap.size) _ W (by omega) (Nat.le_refl _) ((rdX_cs (cs:=[.int .i64 ck,.string cx,.bool ct,.int .i64 cK,.string cX,.int .i64 cZ,.slice cB cm cq,.slice cKA ckn ckc,.slice cLA cln clc])).2 (pcE.keep (λ_ h=>h) (λg hg=>hb.block g (by omega)) hcy)) (λg hg=>by have:=hb.size;omega)
   obtain⟨D,hD⟩:∃D,y.depth=D:=⟨_,rfl⟩
   obtain⟨q1,hq1⟩:∃q,y.deepT=q:=⟨_,rfl⟩
   rw[hD]at hd2
   rw[hq1]at hd1
   have HP:Hid (parseE s.data.toList=if(decide (50<D)||q1)=true then .error 3 else .ok y):=hidE (by rw[HPA.out,hy,<-hD,<-hq1];rfl)
   have HD1:=hidE hd1
   have HD2:=hidE hd2
   have HCY:=hidE hcy
   have HOK:=hidE (And.intro hok hwt4)
   have dz:(zz !=(N0:Int))=false:=by rw[hz];simp
   obtain⟨⟨g0,g1,g2,g3,g4,g5,g6,g7,g8⟩,-,hlg⟩:=blk_facts9 HBE.out
   clear hok hwt hwt4 hcy hd1 hd2 hD hq1 hz hy
   go_wp2_with fail
   refine HD1.out.mono ?_
   rintro en w4 ⟨rfl,b4⟩
   have hs4:=b4.size
   have HB4:=hidE (HB3.out.trans (b4.mono (by omega)))
   have HBK4:=hidE (HBK3.out.below b4 (by omega))
   have hbe4:=HBE.out.below b4 (by omega)
   have HBE4:=hidE hbe4
   have HCY4:=hidE (pcE.keep (S':=λg=>w.heap.size<g/\g<w2.heap.size) (λ_ h=>h) (λg hg=>b4.block g (by omega)) HCY.out)
   have HD5:=hidE (HD2.out w4 b4)
   have HBW:=hidE b4
   obtain⟨⟨x0,x1,x2,x3,x4,x5,x6,x7,x8⟩,-,hlx⟩:=blk_facts9 hbe4
   obtain⟨⟨m0,m1,m2,m3,m4,m5,m6,m7,m8⟩,⟨o0,o1,o2,o3,o4,o5,o6,o7,o8⟩,hlo⟩:=blk_facts9 HBK4.out
   clear b4 hbe4 HD1 HD2 g0 g1 g2 g3 g4 g5 g6 g7 g8 y0 y1 y2 y3 y4 y5 y6 y7 y8 z0 z1 z2 z3 z4 z5 z6 z7 z8
   cases q1 with
   | true =>
    go_wp2_with fail
    try simp only[Exit.inBlock,Exit.then]
    refine bodyPost_ret (results_ct rfl _ _ w.heap.size 48 _ (0,0) _ rfl (blk_set9 _ _ _ _ _ _ _ _ _ HBK4.out) Tryz.underlying48 rfl (by kernel_rfl)) rfl ?_
    exact xp8e_set9 (n:=3) HB4.out (.inl ⟨by decide,by rw[HP.out];simp⟩)
   | false =>
    go_wp2_with fail
    refine HD5.out.mono ?_
    rintro en w5 ⟨rfl,b5⟩
    have hs5:=b5.size
    have HB5:=hidE (HB4.out.trans (b5.mono (by omega)))
    have HBK5:=hidE (HBK4.out.below b5 (by omega))
    have hbe5:=HBE4.out.below b5 (by omega)
    have HCY5:=hidE (pcE.keep (S':=λg=>w.heap.size<g/\g<w5.heap.size) (λg hg=>⟨hg.1,by omega⟩) (λg hg=>b5.block g (by omega)) HCY4.out)
    obtain⟨⟨g0,g1,g2,g3,g4,g5,g6,g7,g8⟩,-,hlg⟩:=blk_facts9 hbe5
    obtain⟨⟨y0,y1,y2,y3,y4,y5,y6,y7,y8⟩,⟨z0,z1,z2,z3,z4,z5,z6,z7,z8⟩,hly⟩:=blk_facts9 HBK5.out
    clear b5 hbe5 HD5 x0 x1 x2 x3 x4 x5 x6 x7 x8 m0 m1 m2 m3 m4 m5 m6 m7 m8 o0 o1 o2 o3 o4 o5 o6 o7 o8
    by_cases h50:50<D
    ·have dd:decide ((50:Int)<(D:Int))=true:=decide_eq_true (by omega)
     go_wp2_with fail
     try simp only[Exit.inBlock,Exit.then]
     refine bodyPost_ret (results_ct rfl _ _ w.heap.size 48 _ (0,0) _ rfl (blk_set9 _ _ _ _ _ _ _ _ _ HBK5.out) Tryz.underlying48 rfl (by kernel_rfl)) rfl ?_
     exact xp8e_set9 (n:=3) HB5.out (.inl ⟨by decide,by rw[HP.out];simp[h50]⟩)
    ·have dd:decide ((50:Int)<(D:Int))=false:=decide_eq_false (by omega)
     go_wp2_with fail
     try simp only[Exit.inBlock,Exit.then]
     refine bodyPost_ret (results_ct rfl _ _ w.heap.size 48 _ (0,0) _ rfl (blk_set9 _ _ _ _ _ _ _ _ _ HBK5.out) Tryz.underlying48 rfl (by kernel_rfl)) rfl ?_
     exact xp8e_set9 (n:=0) HB5.out (.inr ⟨rfl,y,HOK.out.1,HOK.out.2,by rw[HP.out];simp[h50],HCY5.out⟩)
  ·have dz:(zz !=(N0:Int))=true:=by simpa using hz
   have HP:Hid (parseE s.data.toList=.error 80):=hidE (by
    rw[HPA.out]
    cases hO:O with
    | none=>rfl
    | some u =>
     obtain⟨y,r⟩:=u
     cases r with
     | cons t r=>rfl
     | nil =>
      exfalso
      rcases HPZ.out with⟨h,-⟩|⟨k,hk,h1,h2⟩
      ·rw[hO]at h;cases h
      ·rw[hO]at h2
       replace h2:([]:List Tok)=ts.drop k:=by injection h2
       have:=congrArg List.length h2
       rw[List.length_drop,HN0.out]at this
       simp only[List.length_nil]at this
       rw[HN0.out]at hk
       omega)
   clear hz
   go_wp2_with fail
   try simp only[Exit.inBlock,Exit.then]
   refine bodyPost_ret (results_ct rfl _ _ w.heap.size 48 _ (0,0) _ rfl (blk_set9 _ _ _ _ _ _ _ _ _ HBK3.out) Tryz.underlying48 rfl (by kernel_rfl)) rfl ?_
   exact xp8e_set9 (n:=80) HB3.out (.inl ⟨by decide,HP.out⟩)
 ·have de:=neqT (er:Int) 0 (by omega)
  have HP:Hid (er≠0/\parseE s.data.toList=.error er):=hidE ⟨he,parseE_er _ _ _ _ HSC.out he⟩
  obtain⟨⟨y0,y1,y2,y3,y4,y5,y6,y7,y8⟩,⟨z0,z1,z2,z3,z4,z5,z6,z7,z8⟩,hly⟩:=blk_facts9 HBK1.out
  clear he
  go_wp2_with fail
  try simp only[Exit.inBlock,Exit.then]
  refine bodyPost_ret (results_ct rfl _ _ w.heap.size 48 _ (0,0) _ rfl (blk_set9 _ _ _ _ _ _ _ _ _ HBK1.out) Tryz.underlying48 rfl (by kernel_rfl)) rfl ?_
  exact xp8e_set9 (n:=er) HB1.out (.inl HP.out)
end Go.Proofs.YtknkclefoiohpaaGreatDoor
