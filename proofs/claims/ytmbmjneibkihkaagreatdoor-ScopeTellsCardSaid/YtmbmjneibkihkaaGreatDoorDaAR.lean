/-
  Contracts of the code's functions, part 44.
-/
import Derived.Test.YtmbmjneibkihkaaGreatDoorDaAQ
import Derived.Test.YtmbmjneibkihkaaGreatDoorDaAM
namespace Go.Proofs.YtmbmjneibkihkaaGreatDoor
open Go.RowKit Lx Tx Sx
set_option maxRecDepth 100000
theorem xp8_set9 {ts:List Tok} {w W:World} {o:Option (Ex × List Tok)} {z k:Int} {x:ByteArray} {t:Bool} {K:Int} {X:ByteArray} {Z:Int} {B:Option Addr} {m q:Nat} {KA:Option Addr} {kn kc:Nat} {LA:Option Addr} {ln lc:Nat}
  (hb:Below w.heap.size w W)(hp:PAt ts (o.map (·.2)) z)
  (hx:∀y r,o=some (y,r)->pcE.Cs (λg=>w.heap.size<g/\g<W.heap.size) W y [.int .i64 k,.string x,.bool t,.int .i64 K,.string X,.int .i64 Z,.slice B m q,.slice KA kn kc,.slice LA ln lc]) :
  XP8 ts w o (.returned (.tuple #[.agg #[.int .i64 k,.string x,.bool t,.int .i64 K,.string X,.int .i64 Z,.slice B m q,.slice KA kn kc,.slice LA ln lc],.int .i64 z]))
   (((((((((W.setCell ⟨w.heap.size,0,none⟩ (.int .i64 k)).setCell ⟨w.heap.size,1,none⟩ (.string x)).setCell ⟨w.heap.size,2,none⟩ (.bool t)).setCell ⟨w.heap.size,3,none⟩ (.int .i64 K)).setCell ⟨w.heap.size,4,none⟩ (.string X)).setCell ⟨w.heap.size,5,none⟩ (.int .i64 Z)).setCell ⟨w.heap.size,6,none⟩ (.slice B m q)).setCell ⟨w.heap.size,7,none⟩ (.slice KA kn kc)).setCell ⟨w.heap.size,8,none⟩ (.slice LA ln lc)):=by
 refine⟨below_set9 hb (Nat.le_refl _) _ _ _ _ _ _ _ _ _,_,z,⟨_,_,_,_,_,_,_,_,_,_,_,_,_,_,_,rfl⟩,rfl,hp,λy r ho=>?_⟩
 exact pcE.keep (λg hg=>⟨by omega,by rw[size_set9];omega⟩) (λg hg=>set9_far _ _ _ _ _ _ _ _ _ _ _ _ (by omega)) (hx y r ho)
theorem XP8.drew {ts:List Tok} {w W:World} {o:Option (Ex × List Tok)} {e:Ending}(h:XP8 ts w o e W):XP8 ts w o e W.drew:=by
 obtain⟨h1,cs,z,h2,h3,h4,h5⟩:=h
 exact⟨h1.drew,cs,z,h2,h3,h4,λx r ho=>pcE.keep (w:=W) (S:=λg=>w.heap.size<=g/\g<W.heap.size) (λ_ h=>h) (λ_ _=>rfl) (h5 x r ho)⟩
theorem below_so9_3 {B:Nat} {w w':World} {g:Nat}(h:Below B w w')(b3 b4 b5 b6:Value)(hg:B<=g):Below B w ((((w'.setCell ⟨g,3,none⟩ b3).setCell ⟨g,4,none⟩ b4).setCell ⟨g,5,none⟩ b5).setCell ⟨g,6,none⟩ b6) :=
 (((h.setCell (p:=⟨g,3,none⟩) hg b3).setCell (p:=⟨g,4,none⟩) hg b4).setCell (p:=⟨g,5,none⟩) hg b5).setCell (p:=⟨g,6,none⟩) hg b6
set_option maxHeartbeats 6400000 in
theorem r8_atom(f:Nat)(ts:List Tok)(v:Value)(hG:AllG ts)(hn:ts.length<=100000)(w:World)(p:Option (List Tok))(z:Int)(IH:∀r,p=some r->Rd8 ts v f)(hv:RdT w v ts)(hp:PAt ts p z)(hf:∀r,p=some r->3*r.length+1<=f+1) :
  Calls Tryz.prog 108 #[v,.int .i64 z] w (XP8 ts w (p.bind (rdAtom (f+1)))):=by
 have HI1:Hid (∀W,Below w.heap.size w W->Calls Tryz.prog 42 #[v,.int .i64 z,.int .i64 1,.string ⟨#[]⟩] W λe w'=>e=.returned (.bool (isO 1 [] p))/\W=w'):=hidE λW hb=>r8_is v ts p z 1 ⟨#[]⟩ 1 rfl (by decide) W (hv.below hb) hp
 have HI2:Hid (∀W,Below w.heap.size w W->Calls Tryz.prog 42 #[v,.int .i64 z,.int .i64 2,.string ⟨#[]⟩] W λe w'=>e=.returned (.bool (isO 2 [] p))/\W=w'):=hidE λW hb=>r8_is v ts p z 2 ⟨#[]⟩ 2 rfl (by decide) W (hv.below hb) hp
 have HNX:Hid (∀W,Below w.heap.size w W->Calls Tryz.prog 91 #[v,.int .i64 z,.int .i64 6,.string ⟨#[40]⟩] W λe w'=>W=w'/\∃z',e=.returned (.int .i64 z')/\PAt ts (nxO 6 [40] p) z'):=hidE λW hb=>r8_next v ts p z 6 ⟨#[40]⟩ 6 rfl (by decide) W (hv.below hb) hn hp
 obtain⟨W0,hW0⟩:∃W,w.alloc (.cells #[.int .i64 0,.string ⟨#[]⟩,.bool false,.int .i64 0,.string ⟨#[]⟩,.int .i64 0,.slice none 0 0,.slice none 0 0,.slice none 0 0] 48)=W:=⟨_,rfl⟩
 have hal:Below w.heap.size w W0:=hW0▸(Below.refl _ w).alloc (Nat.le_refl _) _
 have hs0:w.heap.size+1<=W0.heap.size/\W0.heap.size<=w.heap.size+1:=by rw[<-hW0];simp
 have hbk:Blk W0 w.heap.size 48 #[.int .i64 0,.string ⟨#[]⟩,.bool false,.int .i64 0,.string ⟨#[]⟩,.int .i64 0,.slice none 0 0,.slice none 0 0,.slice none 0 0]:=hW0▸heap_alloc_new _ _
 have HAL:=hidE hal
 have HBK:=hidE hbk
 obtain⟨O,hO⟩:∃O,p.bind (rdAtom (f+1))=O:=⟨_,rfl⟩
 rw[hO]
 have HO:=hidE hO
 have HV:=hidE hv
 clear hal hbk hO
 obtain⟨q1,hq1⟩:∃q,isO 1 [] p=q:=⟨_,rfl⟩
 rw[hq1]at HI1
 obtain⟨⟨g0,g1,g2,g3,g4,g5,g6,g7,g8⟩,⟨z0,z1,z2,z3,z4,z5,z6,z7,z8⟩,hlw⟩:=blk_facts9 HBK.out
 cases q1 with
 | true =>
  rcases hp with⟨rfl,-⟩|⟨i,hi,rfl,rfl⟩
  ·cases hq1
  ·have hlt:=isO_lt (by decide) hq1
   obtain⟨g,c,rfl,-,h1,-⟩:=hv.at_ i hlt
   obtain⟨X,hX⟩:∃X:ByteArray,⟨ts[i].text.toArray⟩=X:=⟨_,rfl⟩
   have HOE:Hid (O=some (.var X.data.toList,ts.drop (i+1))):=hidE (by
    rw[<-HO.out,Option.bind_some,rdAtom_eq,if_pos (by simpa[isO_kind] using hq1),hd_drop ts i hlt,tail_drop,<-hX])
   rw[hX]at h1
   obtain⟨n,hN⟩:∃n,ts.length=n:=⟨_,rfl⟩
   have HN:=hidE hN
   rw[hN]at hlt hn HI1 HV ⊢
   have ii0:(0:Int)<=(i:Int):=by omega
   have ii1:(i:Int)<(n:Int):=by omega
   have hgl:=lt_cell h1
   replace h1:W0.cell? ⟨g,i*3+1,none⟩=some (.string X):=(HAL.out.cell (p:=⟨g,i*3+1,none⟩) hgl).trans h1
   clear hv HI2 HNX HO hX hq1 hf IH hi hN hG HV
   go_enter Tryz.func108,Tryz.ntmps108
   go_wp2_with fail
   try rw[hW0]
   refine(HI1.out _ HAL.out).mono ?_
   rintro e w1 ⟨rfl,rfl⟩
   clear HI1 hW0
   go_wp2_with fail
   try simp only[Exit.inBlock,Exit.then]
   refine bodyPost_ret (results_ct rfl _ _ w.heap.size 48 _ (0,0) _ rfl (blk_set9 _ _ _ _ _ _ _ _ _ HBK.out) Tryz.underlying48 rfl (by kernel_rfl)) rfl ?_
   refine xp8_set9 HAL.out (.inr ⟨i+1,by rw[HN.out];omega,by go_num,by rw[HOE.out];rfl⟩) (λy r ho=>?_)
   rw[HOE.out]at ho
   injection ho with ho
   injection ho with ho _
   subst ho
   exact⟨⟨none,0,none,0,none,0⟩,by simp[exC,kdE,nmE,toE,tyE,tyC,kidsE,altsE,Sx.strV],trivial,by rw[ExIn];trivial⟩
 | false =>
  obtain⟨q2,hq2⟩:∃q,isO 2 [] p=q:=⟨_,rfl⟩
  rw[hq2]at HI2
  cases q2 with
  | true =>
   rcases hp with⟨rfl,-⟩|⟨i,hi,rfl,rfl⟩
   ·cases hq2
   ·have hlt:=isO_lt (by decide) hq2
    obtain⟨g,c,rfl,-,h1,-⟩:=hv.at_ i hlt
    obtain⟨X,hX⟩:∃X:ByteArray,⟨ts[i].text.toArray⟩=X:=⟨_,rfl⟩
    have HOE:Hid (O=some (.con X.data.toList,ts.drop (i+1))):=hidE (by
     have k2:(hd (ts.drop i)).kind=2:=by simpa[isO_kind] using hq2
     rw[<-HO.out,Option.bind_some,rdAtom_eq,if_neg (by rw[k2];decide),if_neg (by simp[isHd,k2]),if_pos k2,hd_drop ts i hlt,tail_drop,<-hX])
    rw[hX]at h1
    obtain⟨n,hN⟩:∃n,ts.length=n:=⟨_,rfl⟩
    have HN:=hidE hN
    rw[hN]at hlt hn HI1 HI2 HV ⊢
    have ii0:(0:Int)<=(i:Int):=by omega
    have ii1:(i:Int)<(n:Int):=by omega
    have hgl:=lt_cell h1
    replace h1:W0.cell? ⟨g,i*3+1,none⟩=some (.string X):=(HAL.out.cell (p:=⟨g,i*3+1,none⟩) hgl).trans h1
    clear hv HNX HO hX hq1 hq2 hf IH hi hN hG HV
    go_enter Tryz.func108,Tryz.ntmps108
    go_wp2_with fail
    try rw[hW0]
    refine(HI1.out _ HAL.out).mono ?_
    rintro e w1 ⟨rfl,rfl⟩
    clear HI1 hW0
    go_wp2_with fail
    refine(HI2.out _ HAL.out).mono ?_
    rintro e w1 ⟨rfl,rfl⟩
    clear HI2
    go_wp2_with fail
    try simp only[Exit.inBlock,Exit.then]
    refine bodyPost_ret (results_ct rfl _ _ w.heap.size 48 _ (0,0) _ rfl (blk_set9 _ _ _ _ _ _ _ _ _ HBK.out) Tryz.underlying48 rfl (by kernel_rfl)) rfl ?_
    refine xp8_set9 HAL.out (.inr ⟨i+1,by rw[HN.out];omega,by go_num,by rw[HOE.out];rfl⟩) (λy r ho=>?_)
    rw[HOE.out]at ho
    injection ho with ho
    injection ho with ho _
    subst ho
    exact⟨⟨none,0,none,0,none,0⟩,by simp[exC,kdE,nmE,toE,tyE,tyC,kidsE,altsE,Sx.strV],trivial,by rw[ExIn];trivial⟩
  | false =>
   have HNP:Hid (nxO 6 [40] p=none\/∃r,p=some r/\nxO 6 [40] p=some r.tail/\3*r.tail.length+3<=f/\O=parF f r.tail):=hidE (by
    cases hx:nxO 6 [40] p with
    | none=>exact .inl rfl
    | some r' =>
     obtain⟨l,rfl,rfl,hl,hq⟩:=nxO_len (by decide) hx
     refine .inr ⟨l,rfl,rfl,by have:=hf l rfl;omega,?_⟩
     have k6:isHd l 6 [40]=true:=by rw[<-isO_hd _ _ (by decide)];exact hq
     rw[<-HO.out,Option.bind_some,rdAtom_eq,if_neg (by simpa[isO_kind] using hq1),if_pos k6])
   have HONE:Hid (nxO 6 [40] p=none->O=none):=hidE (λhx=>by
    rw[<-HO.out]
    cases p with
    | none=>rfl
    | some l =>
     rw[Option.bind_some,rdAtom_eq,if_neg (by simpa[isO_kind] using hq1)]
     rw[nx_some _ _ (by decide)]at hx
     rw[if_neg (by intro h;rw[if_pos h]at hx;cases hx),if_neg (by simpa[isO_kind] using hq2)])
   have HIH:=hidE IH
   have HG:=hidE hG
   clear hv hp hf IH hG hq1 hq2 HO
   go_enter Tryz.func108,Tryz.ntmps108
   go_wp2_with fail
   try rw[hW0]
   refine(HI1.out _ HAL.out).mono ?_
   rintro e w1 ⟨rfl,rfl⟩
   clear HI1 hW0
   go_wp2_with fail
   refine(HI2.out _ HAL.out).mono ?_
   rintro e w1 ⟨rfl,rfl⟩
   clear HI2
   go_wp2_with fail
   refine(HNX.out _ HAL.out).mono ?_
   rintro e w1 ⟨rfl,zk,rfl,hz⟩
   clear HNX
   rcases HNP.out with hx|⟨r,hp,hx,hfr,hO⟩
   ·have hon:=HONE.out hx
    rw[hx]at hz
    rcases hz with⟨-,rfl⟩|⟨_,_,_,h⟩
    ·subst hon
     clear hx HONE HNP
     go_wp2_with fail
     try simp only[Exit.inBlock,Exit.then]
     refine bodyPost_ret (results_ct rfl _ _ w.heap.size 48 _ (0,0) _ rfl (blk_set9 _ _ _ _ _ _ _ _ _ HBK.out) Tryz.underlying48 rfl (by kernel_rfl)) rfl ?_
     exact xp8_set9 HAL.out (PAt.none_ ts) (λy r ho=>by cases ho)
    ·cases h
   ·rw[hx]at hz
    have hzn:0<=zk:=by
     rcases hz with⟨h,-⟩|⟨k,hk,h,-⟩
     ·cases h
     ·omega
    have d0:decide (zk<0)=false:=decide_eq_false (by omega)
    have hR:=HIH.out r hp f (Nat.le_refl _) W0 (some r.tail) zk (HV.out.below HAL.out) hz (λr' h=>by injection h with h;subst h;exact hfr)
    rw[Option.bind_some]at hR
    obtain⟨M,hM⟩:∃M,rdE f r.tail=M:=⟨_,rfl⟩
    have HOM:Hid (O=parO M):=hidE (by rw[hO,par_o,hM];rfl)
    rw[hM]at hR
    have HR:=hidE hR
    clear hR hz hx hp hfr hO hM HNP HONE HIH g0 g1 g2 g3 g4 g5 g6 g7 g8 z0 z1 z2 z3 z4 z5 z6 z7 z8
    go_wp2_with fail
    refine HR.out.mono ?_
    rintro e w1 ⟨b1,cs,ze,hsh,rfl,hpe,hcs⟩
    obtain⟨ck,cx,ct,cK,cX,cZ,cB,cm,cq,cKA,ckn,ckc,cLA,cln,clc,rfl⟩:=hsh
    have hs1:=b1.size
    obtain⟨W1,hW1⟩:∃W,w1.alloc (.cells #[.int .i64 ck,.string cx,.bool ct,.int .i64 cK,.string cX,.int .i64 cZ,.slice cB cm cq,.slice cKA ckn ckc,.slice cLA cln clc] 48)=W:=⟨_,rfl⟩
    have hbw:Below w1.heap.size w1 W1:=hW1▸(Below.refl _ w1).alloc (Nat.le_refl _) _
    have hsW1:w1.heap.size+1<=W1.heap.size/\W1.heap.size<=w1.heap.size+1:=by rw[<-hW1];simp
    have hbe:Blk W1 w1.heap.size 48 #[.int .i64 ck,.string cx,.bool ct,.int .i64 cK,.string cX,.int .i64 cZ,.slice cB cm cq,.slice cKA ckn ckc,.slice cLA cln clc]:=hW1▸heap_alloc_new _ _
    have HB1:Hid (Below w.heap.size w W1):=hidE (HAL.out.trans ((b1.mono (by omega)).trans (hbw.mono (by omega))))
    have HBK1:=hidE ((HBK.out.below b1 hlw).below hbw (by omega))
    have HBE:=hidE hbe
    have HPE:=hidE hpe
    have HCS:Hid (∀y r,M=some (y,r)->pcE.Cs (λg=>w.heap.size<g/\g<w1.heap.size) W1 y [.int .i64 ck,.string cx,.bool ct,.int .i64 cK,.string cX,.int .i64 cZ,.slice cB cm cq,.slice cKA ckn ckc,.slice cLA cln clc]):=hidE λy r ho=>pcE.keep (λg hg=>⟨by omega,hg.2⟩) (λg hg=>hbw.block g hg.2) (hcs y r ho)
    have HIS:=hidE (r8_is v ts (M.map (·.2)) ze 6 ⟨#[58]⟩ 6 rfl (by decide) W1 (HV.out.below HB1.out) hpe)
    have hlo:=hpe.lo
    clear b1 hbw hbe hpe hcs HR
    go_upto_region 11 with fail
    try rw[hW1]
    clear hW1
    obtain⟨q,hq⟩:∃q,isO 6 [58] (M.map (·.2))=q:=⟨_,rfl⟩
    rw[hq]at HIS
    have HQ:=hidE hq
    clear hq
    go_wp2_with fail
    refine HIS.out.mono ?_
    rintro e w2 ⟨rfl,rfl⟩
    clear HIS
    obtain⟨⟨g0,g1,g2,g3,g4,g5,g6,g7,g8⟩,⟨z0,z1,z2,z3,z4,z5,z6,z7,z8⟩,hlg⟩:=blk_facts9 HBE.out
    cases q with
    | false =>
     obtain⟨⟨m0,m1,m2,m3,m4,m5,m6,m7,m8⟩,⟨y0,y1,y2,y3,y4,y5,y6,y7,y8⟩,hlm⟩:=blk_facts9 HBK1.out
     have HNR:=hidE (λW (hb:Below w.heap.size w W)=>r8_next v ts (M.map (·.2)) ze 6 ⟨#[41]⟩ 6 rfl (by decide) W (HV.out.below hb) hn HPE.out)
     have HPO:=hidE (parO_no HQ.out)
     go_wp2_with fail
     go_region_with (go_at_call 91;(with_reducible refine(HNR.out _ (by first|exact HB1.out|exact HB1.out.drew)).mono ?_);rintro e w3 ⟨rfl,z9,rfl,hz9⟩;have HZ9:=hidE hz9;clear hz9)
     have HPO:=hidE (parO_no HQ.out)
     all_goals
      go_wp2_with fail
      refine bodyPost_ret (results_ct rfl _ _ w.heap.size 48 _ (0,0) _ rfl (blk_set9 _ _ _ _ _ _ _ _ _ HBK1.out).drew Tryz.underlying48 rfl (by kernel_rfl)) rfl ?_
      refine XP8.drew (xp8_set9 HB1.out ?_ ?_)
      ·rw[HOM.out,HPO.out.1];exact HZ9.out
      ·intro y r ho
       rw[HOM.out]at ho
       obtain⟨r0,hM⟩:=HPO.out.2 y r ho
       exact pcE.keep (λg hg=>⟨hg.1,by have:=hg.2;omega⟩) (λ_ _=>rfl) (HCS.out y r0 hM)
    | true =>
     obtain⟨yy,r0,hMM,hp1,hp2⟩:=parO_yes HQ.out
     have HP1:=hidE hp1
     have HP2:=hidE hp2
     have HMM:=hidE hMM
     obtain⟨hpn,hze0,hze1⟩:=pat_next (by decide) HPE.out HQ.out
     obtain⟨W2,hW2⟩:∃W,(W1.alloc (.cells #[.int .i64 ck,.string cx,.bool ct,.int .i64 cK,.string cX,.int .i64 cZ,.slice cB cm cq,.slice cKA ckn ckc,.slice cLA cln clc] 48)).alloc (.cells #[.int .i64 7,.string ⟨#[]⟩,.bool false,.int .i64 0,.string ⟨#[]⟩,.int .i64 0,.slice none 0 0,.slice (some ⟨W1.heap.size,0,none⟩) 1 1,.slice none 0 0] 48)=W:=⟨_,rfl⟩
     have hb2:Below W1.heap.size W1 W2:=hW2▸((Below.refl _ W1).alloc (Nat.le_refl _) _).alloc (by simp) _
     have hs2:W1.heap.size+2<=W2.heap.size/\W2.heap.size<=W1.heap.size+2:=by rw[<-hW2];simp
     have hk2:Blk W2 W1.heap.size 48 #[.int .i64 ck,.string cx,.bool ct,.int .i64 cK,.string cX,.int .i64 cZ,.slice cB cm cq,.slice cKA ckn ckc,.slice cLA cln clc]:=hW2▸Blk.below (heap_alloc_new W1 _) ((Below.refl _ _).alloc (Nat.le_refl _) _) (by simp)
     have hx2:Blk W2 (W1.heap.size+1) 48 #[.int .i64 7,.string ⟨#[]⟩,.bool false,.int .i64 0,.string ⟨#[]⟩,.int .i64 0,.slice none 0 0,.slice (some ⟨W1.heap.size,0,none⟩) 1 1,.slice none 0 0]:=hW2▸two_top _ _ _ _ rfl
     have HB2:=hidE (HB1.out.trans (hb2.mono (by omega)))
     have HT2:=hidE (r8_typ v ts (nxO 6 [58] (M.map (·.2))) (ze+1) W2 (HV.out.below (HB1.out.trans (hb2.mono (by omega)))) HG.out hn hpn)
     have HBE2:=hidE (HBE.out.below hb2 (by omega))
     have HBK2:=hidE (HBK1.out.below hb2 (by omega))
     have HK2:=hidE hk2
     have HX2:=hidE hx2
     have HCS2:Hid (pcE.Cs (λg=>w.heap.size<g/\g<w1.heap.size) W2 yy [.int .i64 ck,.string cx,.bool ct,.int .i64 cK,.string cX,.int .i64 cZ,.slice cB cm cq,.slice cKA ckn ckc,.slice cLA cln clc]):=hidE (pcE.keep (λ_ h=>h) (λg hg=>hb2.block g (by have:=hg.2;omega)) (HCS.out yy r0 hMM))
     obtain⟨TO,hTO⟩:∃x,(nxO 6 [58] (M.map (·.2))).bind typ=x:=⟨_,rfl⟩
     rw[hTO]at HT2 HP1 HP2
     have HW2:=hidE hW2
     clear hp1 hp2 hMM hpn hb2 hk2 hx2 hTO HCS HBK1 hW2
     go_upto_region 14 with fail
     rw[HW2.out]
     clear HW2 g0 g1 g2 g3 g4 g5 g6 g7 g8 z0 z1 z2 z3 z4 z5 z6 z7 z8 HBE
     go_wp2_with fail
     refine HT2.out.mono ?_
     rintro e w3 ⟨b3,tK,tX,tZ,tA,tm,tc,zt,rfl,hpt,htc⟩
     have hs3:=b3.size
     have hx3:=HX2.out.below b3 (by omega)
     obtain⟨W3,hW3⟩:∃W,((((w3.setCell ⟨W1.heap.size+1,3,none⟩ (.int .i64 tK)).setCell ⟨W1.heap.size+1,4,none⟩ (.string tX)).setCell ⟨W1.heap.size+1,5,none⟩ (.int .i64 tZ)).setCell ⟨W1.heap.size+1,6,none⟩ (.slice tA tm tc))=W:=⟨_,rfl⟩
     have hx3':Blk W3 (W1.heap.size+1) 48 #[.int .i64 7,.string ⟨#[]⟩,.bool false,.int .i64 tK,.string tX,.int .i64 tZ,.slice tA tm tc,.slice (some ⟨W1.heap.size,0,none⟩) 1 1,.slice none 0 0]:=hW3▸blk_so9_3 _ _ _ _ hx3
     have hf3:∀k,k≠W1.heap.size+1->W3.heap[k]? = w3.heap[k]?:=λk hk=>hW3▸so9_3_far _ _ _ _ _ _ _ hk
     have hz3:w3.heap.size<=W3.heap.size/\W3.heap.size<=w3.heap.size:=by rw[<-hW3];simp
     have hbb:∀k,k<W2.heap.size->k≠W1.heap.size+1->W3.heap[k]? = W2.heap[k]?:=λk h1 h2=>(hf3 k h2).trans (b3.block k h1)
     have HBE3:Hid (Blk W3 w1.heap.size 48 #[.int .i64 ck,.string cx,.bool ct,.int .i64 cK,.string cX,.int .i64 cZ,.slice cB cm cq,.slice cKA ckn ckc,.slice cLA cln clc]):=hidE (HBE2.out.same (hbb _ (by omega) (by omega)))
     have HBK3:Hid (Blk W3 w.heap.size 48 #[.int .i64 0,.string ⟨#[]⟩,.bool false,.int .i64 0,.string ⟨#[]⟩,.int .i64 0,.slice none 0 0,.slice none 0 0,.slice none 0 0]):=hidE (HBK2.out.same (hbb _ (by omega) (by omega)))
     have HK3:Hid (Blk W3 W1.heap.size 48 #[.int .i64 ck,.string cx,.bool ct,.int .i64 cK,.string cX,.int .i64 cZ,.slice cB cm cq,.slice cKA ckn ckc,.slice cLA cln clc]):=hidE (HK2.out.same (hbb _ (by omega) (by omega)))
     have HX3:=hidE hx3'
     have HB3:Hid (Below w.heap.size w W3):=hidE (hW3▸below_so9_3 (HB2.out.trans (b3.mono (by omega))) _ _ _ _ (by omega))
     have HTC:Hid (∀t r,TO=some (t,r)->RdV (λg=>W2.heap.size<=g/\g<W3.heap.size) W3 t (.agg #[.int .i64 tK,.string tX,.int .i64 tZ,.slice tA tm tc])):=hidE λt r ho=>(htc t r ho).keep (λg hg=>⟨by omega,by omega⟩) (λg hg=>hf3 g (by omega))
     have HCS3:=hidE (pcE.keep (S':=λg=>w.heap.size<g/\g<w1.heap.size) (λ_ h=>h) (λg hg=>hbb g (by omega) (by omega)) HCS2.out)
     have HPT:=hidE hpt
     obtain⟨⟨g0,g1,g2,g3,g4,g5,g6,g7,g8⟩,⟨z0,z1,z2,z3,z4,z5,z6,z7,z8⟩,hlx⟩:=blk_facts9 hx3
     clear b3 hx3 hx3' hf3 hbb hpt htc HT2 HBE2 HBK2 HK2 HX2 HCS2
     go_upto_region 15 with fail
     try rw[hW3]
     clear hW3 g0 g1 g2 g3 g4 g5 g6 g7 g8 z0 z1 z2 z3 z4 z5 z6 z7 z8
     obtain⟨W4,hW4⟩:∃W,(((((((((W3.setCell ⟨w1.heap.size,0,none⟩ (.int .i64 7)).setCell ⟨w1.heap.size,1,none⟩ (.string ⟨#[]⟩)).setCell ⟨w1.heap.size,2,none⟩ (.bool false)).setCell ⟨w1.heap.size,3,none⟩ (.int .i64 tK)).setCell ⟨w1.heap.size,4,none⟩ (.string tX)).setCell ⟨w1.heap.size,5,none⟩ (.int .i64 tZ)).setCell ⟨w1.heap.size,6,none⟩ (.slice tA tm tc)).setCell ⟨w1.heap.size,7,none⟩ (.slice (some ⟨W1.heap.size,0,none⟩) 1 1)).setCell ⟨w1.heap.size,8,none⟩ (.slice none 0 0))=W:=⟨_,rfl⟩
     have hz4:W3.heap.size<=W4.heap.size/\W4.heap.size<=W3.heap.size:=by rw[<-hW4,size_set9];omega
     have hf4:∀k,k≠w1.heap.size->W4.heap[k]? = W3.heap[k]?:=λk hk=>hW4▸set9_far _ _ _ _ _ _ _ _ _ _ _ _ hk
     have HBE4:Hid (Blk W4 w1.heap.size 48 #[.int .i64 7,.string ⟨#[]⟩,.bool false,.int .i64 tK,.string tX,.int .i64 tZ,.slice tA tm tc,.slice (some ⟨W1.heap.size,0,none⟩) 1 1,.slice none 0 0]):=hidE (hW4▸blk_set9 _ _ _ _ _ _ _ _ _ HBE3.out)
     have HBK4:Hid (Blk W4 w.heap.size 48 #[.int .i64 0,.string ⟨#[]⟩,.bool false,.int .i64 0,.string ⟨#[]⟩,.int .i64 0,.slice none 0 0,.slice none 0 0,.slice none 0 0]):=hidE (HBK3.out.same (hf4 _ (by omega)))
     have HB4:Hid (Below w.heap.size w W4):=hidE (hW4▸below_set9 HB3.out (by omega) _ _ _ _ _ _ _ _ _)
     have HK4:Hid (Blk W4 W1.heap.size 48 #[.int .i64 ck,.string cx,.bool ct,.int .i64 cK,.string cX,.int .i64 cZ,.slice cB cm cq,.slice cKA ckn ckc,.slice cLA cln clc]):=hidE (HK3.out.same (hf4 _ (by omega)))
     have HTC4:Hid (∀t r,TO=some (t,r)->RdV (λg=>w.heap.size<g/\g<W3.heap.size) W4 t (.agg #[.int .i64 tK,.string tX,.int .i64 tZ,.slice tA tm tc])):=hidE λt r ho=>(HTC.out t r ho).keep (λg hg=>⟨by omega,hg.2⟩) (λg hg=>hf4 g (by omega))
     have HCS4:=hidE (pcE.keep (S':=λg=>w.heap.size<g/\g<w1.heap.size) (λ_ h=>h) (λg hg=>hf4 g (by omega)) HCS3.out)
     obtain⟨⟨g0,g1,g2,g3,g4,g5,g6,g7,g8⟩,⟨z0,z1,z2,z3,z4,z5,z6,z7,z8⟩,hle⟩:=blk_facts9 HBE3.out
     obtain⟨⟨m0,m1,m2,m3,m4,m5,m6,m7,m8⟩,-,hlm⟩:=blk_facts9 HX3.out
     clear hf4 HCS3 HBE3 HBK3 HB3 HX3 HK3
     go_upto_region 16 with fail
     try rw[hW4]
     clear hW4 g0 g1 g2 g3 g4 g5 g6 g7 g8 z0 z1 z2 z3 z4 z5 z6 z7 z8 m0 m1 m2 m3 m4 m5 m6 m7 m8
     obtain⟨⟨g0,g1,g2,g3,g4,g5,g6,g7,g8⟩,-,-⟩:=blk_facts9 HBE4.out
     obtain⟨⟨m0,m1,m2,m3,m4,m5,m6,m7,m8⟩,⟨y0,y1,y2,y3,y4,y5,y6,y7,y8⟩,hlm⟩:=blk_facts9 HBK4.out
     have HNR:=hidE (λW (hb:Below w.heap.size w W)=>r8_next v ts (TO.map (·.2)) zt 6 ⟨#[41]⟩ 6 rfl (by decide) W (HV.out.below hb) hn HPT.out)
     go_region_with (go_at_call 91;(with_reducible refine(HNR.out _ (by first|exact HB4.out|exact HB4.out.drew)).mono ?_);rintro e w3 ⟨rfl,z9,rfl,hz9⟩;have HZ9:=hidE hz9;clear hz9)
     all_goals
      go_wp2_with fail
      refine bodyPost_ret (results_ct rfl _ _ w.heap.size 48 _ (0,0) _ rfl (blk_set9 _ _ _ _ _ _ _ _ _ HBK4.out).drew Tryz.underlying48 rfl (by kernel_rfl)) rfl ?_
      refine XP8.drew (xp8_set9 HB4.out ?_ ?_)
      ·rw[HOM.out,HP1.out];exact HZ9.out
      ·intro y r ho
       rw[HOM.out]at ho
       obtain⟨t,r1,hto,rfl⟩:=HP2.out y r ho
       obtain⟨A',a',hv',hA'⟩:=HTC4.out t r1 hto
       injection hv' with hv'
       have hv':=congrArg Array.toList hv'
       simp only[List.cons.injEq,Value.int.injEq,Value.string.injEq,Value.slice.injEq,and_true,true_and]at hv'
       obtain⟨rfl,rfl,rfl,rfl,rfl,rfl⟩:=hv'
       refine⟨⟨tA,tc,some ⟨W1.heap.size,0,none⟩,0,none,0⟩,rfl,Args.keep (λg hg=>⟨hg.1,by omega⟩) (λ_ _=>rfl) _ _ hA',?_⟩
       rw[ExIn]
       exact⟨_,rfl,⟨by omega,by omega⟩,kid_new HCS4.out (λg hg=>⟨hg.1,by have:=hg.2;omega⟩) (λ_ _=>rfl) HK4.out⟩
end Go.Proofs.YtmbmjneibkihkaaGreatDoor

namespace Go.Proofs.YtmbmjneibkihkaaGreatDoor
open Go.RowKit Lx Tx Sx
set_option maxRecDepth 100000
theorem rdE_lam(f:Nat)(l:List Tok)(h:isO 6 [92] (some l)=true):rdE (f+1) l=((nxO 6 [45,62] (nxO 1 [] (some l.tail))).bind (rdE f)).map λy=>(.lam (txO (some l.tail)) y.1,y.2):=by
 rw[rdE_eq,if_pos (by rw[<-isO_hd _ _ (by decide)];exact h),lam_o]
set_option maxHeartbeats 6400000 in
theorem r8_read_lam(f:Nat)(ts:List Tok)(v:Value)(hn:ts.length<=100000)(IH:Rd8 ts v f)(w:World)(i:Nat)(hv:RdT w v ts)(hq:isO 6 [92] (some (ts.drop i))=true)(hf:3*(ts.drop i).length+3<=f+1) :
  Calls Tryz.prog 52 #[v,.int .i64 (i:Nat)] w (XP8 ts w (rdE (f+1) (ts.drop i))):=by
 have hlt:=isO_lt (by decide) hq
 have hp0:PAt ts (some (ts.drop i)) (i:Nat):=PAt.some_ ts i (by omega)
 obtain⟨hp1,-,-⟩:=pat_next (by decide) hp0 hq
 have e1:nxO 6 [92] (some (ts.drop i))=some (ts.drop i).tail:=by rw[nxO,hq,if_pos rfl];rfl
 rw[e1]at hp1
 have hl1:(ts.drop i).tail.length+1=(ts.drop i).length:=by
  obtain⟨l,h1,h2,h3,-⟩:=nxO_len (by decide) e1
  injection h1 with h1
  subst h1
  omega
 have HI1:Hid (∀W,Below w.heap.size w W->Calls Tryz.prog 42 #[v,.int .i64 (i:Nat),.int .i64 6,.string ⟨#[92]⟩] W λe w'=>e=.returned (.bool true)/\W=w'):=hidE λW hb=>by
  have:=r8_is v ts _ _ 6 ⟨#[92]⟩ 6 rfl (by decide) W (hv.below hb) hp0
  rwa [show(⟨#[92]⟩:ByteArray).data.toList=[92] from rfl,hq]at this
 obtain⟨O,hO⟩:∃O,rdE (f+1) (ts.drop i)=O:=⟨_,rfl⟩
 rw[hO]
 rw[rdE_lam f _ hq]at hO
 have HN1:=hidE (λW (hb:Below w.heap.size w W)=>r8_next v ts _ _ 1 ⟨#[]⟩ 1 rfl (by decide) W (hv.below hb) hn hp1)
 have HTX:=hidE (λW (hb:Below w.heap.size w W)=>r8_text v ts _ _ W (hv.below hb) hp1)
 obtain⟨P1,hP1⟩:∃P,nxO 1 [] (some (ts.drop i).tail)=P:=⟨_,rfl⟩
 obtain⟨P2,hP2⟩:∃P,nxO 6 [45,62] P1=P:=⟨_,rfl⟩
 obtain⟨X,hX⟩:∃X:ByteArray,⟨(txO (some (ts.drop i).tail)).toArray⟩=X:=⟨_,rfl⟩
 have hX2:txO (some (ts.drop i).tail)=X.data.toList:=by rw[<-hX]
 have hlen2:∀r,P2=some r->3*r.length+3<=f:=λr hr=>by
  obtain⟨l,hl,-,h3,-⟩:=nxO_len (by decide) (hP2.trans hr)
  obtain⟨l2,hl2,-,h5,-⟩:=nxO_len (by decide) (hP1.trans hl)
  injection hl2 with hl2
  subst hl2
  omega
 rw[hP1,hP2,hX2]at hO
 rw[hX]at HTX
 have HN2:=hidE (λW z (hb:Below w.heap.size w W) (hz:PAt ts P1 z)=>r8_next v ts P1 z 6 ⟨#[45,62]⟩ 6 rfl (by decide) W (hv.below hb) hn hz)
 have HR:=hidE (λW z (hb:Below w.heap.size w W) (hz:PAt ts P2 z)=>IH f (Nat.le_refl _) W P2 z (hv.below hb) hz hlen2)
 obtain⟨M,hM⟩:∃M,P2.bind (rdE f)=M:=⟨_,rfl⟩
 rw[hM]at HR hO
 have HO:=hidE hO
 have HP1:=hidE hP1
 have HP2:=hidE hP2
 have hi9:(i:Int)<100000:=by omega
 obtain⟨W0,hW0⟩:∃W,w.alloc (.cells #[.int .i64 0,.string ⟨#[]⟩,.bool false,.int .i64 0,.string ⟨#[]⟩,.int .i64 0,.slice none 0 0,.slice none 0 0,.slice none 0 0] 48)=W:=⟨_,rfl⟩
 have hal:Below w.heap.size w W0:=hW0▸(Below.refl _ w).alloc (Nat.le_refl _) _
 have hs0:w.heap.size+1<=W0.heap.size/\W0.heap.size<=w.heap.size+1:=by rw[<-hW0];simp
 have hbk:Blk W0 w.heap.size 48 #[.int .i64 0,.string ⟨#[]⟩,.bool false,.int .i64 0,.string ⟨#[]⟩,.int .i64 0,.slice none 0 0,.slice none 0 0,.slice none 0 0]:=hW0▸heap_alloc_new _ _
 have HAL:=hidE hal
 have HBK:=hidE hbk
 clear hv hq hf IH hlt hp0 hp1 e1 hl1 hP1 hP2 hX hX2 hlen2 hM hO hal hbk
 go_enter Tryz.func52,Tryz.ntmps52
 go_wp2_with fail
 try rw[hW0]
 refine(HI1.out _ HAL.out).mono ?_
 rintro e w1 ⟨rfl,rfl⟩
 clear HI1 hW0
 go_wp2_with fail
 refine(HN1.out _ HAL.out).mono ?_
 rintro e w1 ⟨rfl,za,rfl,hza⟩
 replace hza:=(show(⟨#[]⟩:ByteArray).data.toList=[] from rfl)▸hza
 rw[HP1.out]at hza
 have HZA:=hidE hza
 clear hza HN1
 go_wp2_with fail
 refine(HN2.out _ _ HAL.out HZA.out).mono ?_
 rintro e w1 ⟨rfl,zb,rfl,hzb⟩
 replace hzb:=(show(⟨#[45,62]⟩:ByteArray).data.toList=[45,62] from rfl)▸hzb
 rw[HP2.out]at hzb
 have HZB:=hidE hzb
 clear hzb HN2
 go_wp2_with fail
 refine(HR.out _ _ HAL.out HZB.out).mono ?_
 rintro e w1 ⟨b1,cs,ze,hsh,rfl,hpe,hcs⟩
 obtain⟨ck,cx,ct,cK,cX,cZ,cB,cm,cq,cKA,ckn,ckc,cLA,cln,clc,rfl⟩:=hsh
 have hs1:=b1.size
 obtain⟨W1,hW1⟩:∃W,w1.alloc (.cells #[.int .i64 ck,.string cx,.bool ct,.int .i64 cK,.string cX,.int .i64 cZ,.slice cB cm cq,.slice cKA ckn ckc,.slice cLA cln clc] 48)=W:=⟨_,rfl⟩
 have hbw:Below w1.heap.size w1 W1:=hW1▸(Below.refl _ w1).alloc (Nat.le_refl _) _
 have hsW1:w1.heap.size+1<=W1.heap.size/\W1.heap.size<=w1.heap.size+1:=by rw[<-hW1];simp
 have hbe:Blk W1 w1.heap.size 48 #[.int .i64 ck,.string cx,.bool ct,.int .i64 cK,.string cX,.int .i64 cZ,.slice cB cm cq,.slice cKA ckn ckc,.slice cLA cln clc]:=hW1▸heap_alloc_new _ _
 have HB1:Hid (Below w.heap.size w W1):=hidE (HAL.out.trans ((b1.mono (by omega)).trans (hbw.mono (by omega))))
 have HBK1:=hidE ((HBK.out.below b1 (by omega)).below hbw (by omega))
 have HBE:=hidE hbe
 have HPE:=hidE hpe
 have HCS:Hid (∀y r,M=some (y,r)->pcE.Cs (λg=>w.heap.size<g/\g<w1.heap.size) W1 y [.int .i64 ck,.string cx,.bool ct,.int .i64 cK,.string cX,.int .i64 cZ,.slice cB cm cq,.slice cKA ckn ckc,.slice cLA cln clc]):=hidE λy r ho=>pcE.keep (λg hg=>⟨by omega,hg.2⟩) (λg hg=>hbw.block g hg.2) (hcs y r ho)
 have HW1:=hidE hW1
 clear b1 hbw hbe hpe hcs HR HBK hW1
 go_upto_region 5 with fail
 rw[HW1.out]
 clear HW1
 obtain⟨⟨g0,g1,g2,g3,g4,g5,g6,g7,g8⟩,-,hlg⟩:=blk_facts9 HBE.out
 obtain⟨⟨m0,m1,m2,m3,m4,m5,m6,m7,m8⟩,⟨y0,y1,y2,y3,y4,y5,y6,y7,y8⟩,hlm⟩:=blk_facts9 HBK1.out
 have HNK:Hid (Below w.heap.size w (W1.alloc (.cells #[.int .i64 ck,.string cx,.bool ct,.int .i64 cK,.string cX,.int .i64 cZ,.slice cB cm cq,.slice cKA ckn ckc,.slice cLA cln clc] 48))):=hidE (HB1.out.alloc (by omega) _)
 have hwi:IntKind.i64.wrap ((i:Int)+1)=(i:Int)+1:=IntWalk.i64_in _ (by omega)
 go_region_with (go_at_call 89;(try rw[hwi]);(with_reducible refine(HTX.out _ (by first|exact HB1.out|exact HB1.out.drew|exact HNK.out|exact HNK.out.drew)).mono ?_);rintro e w3 ⟨rfl,rfl⟩)
 all_goals
  go_wp2_with fail
  refine bodyPost_ret (results_ct rfl _ _ w.heap.size 48 _ (0,0) _ rfl ((blk_set9 _ _ _ _ _ _ _ _ _ HBK1.out).alloc _).drew Tryz.underlying48 rfl (by kernel_rfl)) rfl ?_
  refine XP8.drew ⟨(below_set9 HB1.out (Nat.le_refl _) _ _ _ _ _ _ _ _ _).alloc (by rw[size_set9];omega) _,_,ze,⟨_,_,_,_,_,_,_,_,_,_,_,_,_,_,_,rfl⟩,rfl,?_,λy r ho=>?_⟩
  ·rw[<-HO.out,Option.map_map];exact HPE.out
  ·rw[<-HO.out]at ho
   cases hM:M with
   | none=>rw[hM]at ho;cases ho
   | some u =>
    rw[hM]at ho
    simp only[Option.map_some,Option.some.injEq,Prod.mk.injEq]at ho
    obtain⟨rfl,-⟩:=ho
    refine⟨⟨none,0,some ⟨W1.heap.size,0,none⟩,0,none,0⟩,by simp[exC,kdE,nmE,toE,tyE,tyC,kidsE,altsE,Sx.strV],trivial,?_⟩
    rw[ExIn]
    refine⟨_,rfl,⟨by omega,by rw[World.size_alloc,size_set9];omega⟩,kid_new (HCS.out u.1 u.2 hM) (λg hg=>⟨by omega,by rw[World.size_alloc,size_set9];omega⟩) (λg hg=>?_) (alloc_at _ _ _ (by rw[size_set9]))⟩
    exact(Below.heap_alloc _ _ _ (by rw[size_set9];omega)).trans (set9_far _ _ _ _ _ _ _ _ _ _ _ _ (by omega))
end Go.Proofs.YtmbmjneibkihkaaGreatDoor
