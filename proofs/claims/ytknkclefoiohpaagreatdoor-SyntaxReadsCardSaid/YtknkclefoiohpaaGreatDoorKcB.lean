import Derived.Test.YtknkclefoiohpaaGreatDoorKbZ
import Derived.Test.YtknkclefoiohpaaGreatDoorKcA
import Derived.Test.YtknkclefoiohpaaGreatDoorKbAJ
set_option maxHeartbeats 12800000
namespace Go.Proofs.YtknkclefoiohpaaGreatDoor
open Go.RowKit Lx Tx Sx
set_option maxRecDepth 100000
theorem ref2_depth0(w:World):Calls Tryz.prog 86 #[.agg #[.int .i64 0,.string ⟨#[]⟩,.int .i64 0,.slice none 0 0]] w λe w'=>e=.returned (.int .i64 1)/\Below w.heap.size w w':=by
 obtain⟨W0,hW0⟩:∃W,w.alloc (.cells #[.int .i64 0,.string ⟨#[]⟩,.int .i64 0,.slice none 0 0] 44)=W:=⟨_,rfl⟩;have hlw:Below w.heap.size w W0:=hW0▸(Below.refl _ w).alloc (Nat.le_refl _) _;have hbk:Blk W0 w.heap.size 44 #[.int .i64 0,.string ⟨#[]⟩,.int .i64 0,.slice none 0 0]:=hW0▸heap_alloc_new _ _;obtain⟨f0,f1,f2,f3,-,-,-,-,hlt0⟩:=blk_facts4 hbk;have HLW:=hidE hlw;clear hlw hbk f0 f1 f2;go_enter Tryz.func86,Tryz.ntmps86
 go_upto_region 1 with fail
 try rw[hW0]
 clear hW0;go_wp2_with fail
 go_loopg [3,4] 0 (λgg va vi wr=>gg=0/\va=.int .i64 0/\vi=.int .i64 0/\wr=W0)
 case atStart=>exact⟨rfl,rfl,rfl,rfl⟩
 case round =>
  obtain⟨rfl,rfl,rfl,rfl⟩:=hrel;go_wp2_with fail
  go_ret
  exact⟨rfl,HLW.out⟩
theorem r8_inner0(w:World):Calls Tryz.prog 51 #[.agg #[.int .i64 0,.string ⟨#[]⟩,.bool false,.int .i64 0,.string ⟨#[]⟩,.int .i64 0,.slice none 0 0,.slice none 0 0,.slice none 0 0]] w λe w'=>(∃A c,e=.returned (.slice A 0 c))/\Below w.heap.size w w':=by
 obtain⟨i0,hi0,hz0,hz1,hz2⟩:=info_parts ex8_info;obtain⟨W0,hW0⟩:∃W,w.alloc (.cells #[.int .i64 0,.string ⟨#[]⟩,.bool false,.int .i64 0,.string ⟨#[]⟩,.int .i64 0,.slice none 0 0,.slice none 0 0,.slice none 0 0] 48)=W:=⟨_,rfl⟩;have hlw:Below w.heap.size w W0:=hW0▸(Below.refl _ w).alloc (Nat.le_refl _) _;have hs0:w.heap.size+1<=W0.heap.size/\W0.heap.size<=w.heap.size+1:=by rw[<-hW0];simp
 have hbk:Blk W0 w.heap.size 48 #[.int .i64 0,.string ⟨#[]⟩,.bool false,.int .i64 0,.string ⟨#[]⟩,.int .i64 0,.slice none 0 0,.slice none 0 0,.slice none 0 0]:=hW0▸heap_alloc_new _ _;obtain⟨⟨f0,f1,f2,f3,f4,f5,f6,f7,f8⟩,-,hlt0⟩:=blk_facts9 hbk;have HLW:=hidE hlw;have HBX:=hidE hbk;clear hlw hbk;go_enter Tryz.func51,Tryz.ntmps51
 go_upto_region 1 with fail
 try rw[hW0]
 clear hW0;go_wp2_with (at_builtin;refine wpList_append_cells rfl (.tmp 5) (.tmp 7) 45 rfl W0.heap.size 48 i0 _ 9 136 Tryz.underlying45 hi0 hz0 hz1 hz2 rfl (by decide) (.slice (some ⟨W0.heap.size,0,none⟩) 0 0) 0 [] none 0 0 [] rfl rfl ⟨by simp,.inr ⟨W0.heap.size,0,#[],rfl,Nat.le_refl _,heap_alloc_new _ _,Nat.le_refl _,by unfold maxLen;omega,by simp,by simp⟩⟩ rfl (.inl rfl) (by simp) (by unfold maxLen;omega) (by omega) (by simp) ?_;intro A2 c2 w2 hown2 hb2;have HB2:=hidE (((Below.refl _ W0).alloc (Nat.le_refl _) (.cells #[] 48)).trans hb2);clear hown2 hb2)
 clear f0 f1 f2 f3 f4 f5 f6 f7 f8;have hs2:=HB2.out.size;obtain⟨⟨f0,f1,f2,f3,f4,f5,f6,f7,f8⟩,-,hlt2⟩:=blk_facts9 (HBX.out.below HB2.out (by omega));go_wp2_with fail
 go_loopg [3,4] 0 (λgg vo vi wr=>gg=0/\vo=.slice A2 0 c2/\vi=.int .i64 0/\wr=w2)
 case atStart=>exact⟨rfl,rfl,rfl,rfl⟩
 case round =>
  obtain⟨rfl,rfl,rfl,rfl⟩:=hrel;go_wp2_with fail
  go_ret
  exact⟨⟨A2,c2,rfl⟩,HLW.out.trans (HB2.out.mono (by omega))⟩
theorem r8_depth0(w:World):Calls Tryz.prog 19 #[.agg #[.int .i64 0,.string ⟨#[]⟩,.bool false,.int .i64 0,.string ⟨#[]⟩,.int .i64 0,.slice none 0 0,.slice none 0 0,.slice none 0 0]] w λe w'=>e=.returned (.int .i64 1)/\Below w.heap.size w w':=by
 obtain⟨W0,hW0⟩:∃W,w.alloc (.cells #[.int .i64 0,.string ⟨#[]⟩,.bool false,.int .i64 0,.string ⟨#[]⟩,.int .i64 0,.slice none 0 0,.slice none 0 0,.slice none 0 0] 48)=W:=⟨_,rfl⟩;have hlw:Below w.heap.size w W0:=hW0▸(Below.refl _ w).alloc (Nat.le_refl _) _;have hbk:Blk W0 w.heap.size 48 #[.int .i64 0,.string ⟨#[]⟩,.bool false,.int .i64 0,.string ⟨#[]⟩,.int .i64 0,.slice none 0 0,.slice none 0 0,.slice none 0 0]:=hW0▸heap_alloc_new _ _;obtain⟨⟨f0,f1,f2,f3,f4,f5,f6,f7,f8⟩,-,hlt0⟩:=blk_facts9 hbk;have HLW:=hidE hlw;have HIN:=hidE (r8_inner0 W0);clear hlw hbk;go_enter Tryz.func19,Tryz.ntmps19
 go_upto_region 1 with fail
 try rw[hW0]
 clear hW0;go_wp2_with fail
 refine HIN.out.mono ?_;rintro e w2 ⟨⟨A,c,rfl⟩,b2⟩;have HB2:=hidE (HLW.out.trans (b2.mono HLW.out.size));clear b2 HIN f0 f1 f2 f3 f4 f5 f6 f7 f8;go_wp2_with fail
 go_loopg [3,5] 0 (λgg va vi wr=>gg=0/\va=.int .i64 0/\vi=.int .i64 0/\wr=w2)
 case atStart=>exact⟨rfl,rfl,rfl,rfl⟩
 case round =>
  obtain⟨rfl,rfl,rfl,rfl⟩:=hrel;go_wp2_with fail
  go_ret
  exact⟨rfl,HB2.out⟩
theorem r8_deepT0(w:World):Calls Tryz.prog 45 #[.agg #[.int .i64 0,.string ⟨#[]⟩,.bool false,.int .i64 0,.string ⟨#[]⟩,.int .i64 0,.slice none 0 0,.slice none 0 0,.slice none 0 0]] w λe w'=>e=.returned (.bool false)/\Below w.heap.size w w':=by
 obtain⟨W0,hW0⟩:∃W,w.alloc (.cells #[.int .i64 0,.string ⟨#[]⟩,.bool false,.int .i64 0,.string ⟨#[]⟩,.int .i64 0,.slice none 0 0,.slice none 0 0,.slice none 0 0] 48)=W:=⟨_,rfl⟩;have hlw:Below w.heap.size w W0:=hW0▸(Below.refl _ w).alloc (Nat.le_refl _) _;have hbk:Blk W0 w.heap.size 48 #[.int .i64 0,.string ⟨#[]⟩,.bool false,.int .i64 0,.string ⟨#[]⟩,.int .i64 0,.slice none 0 0,.slice none 0 0,.slice none 0 0]:=hW0▸heap_alloc_new _ _;obtain⟨⟨f0,f1,f2,f3,f4,f5,f6,f7,f8⟩,-,hlt0⟩:=blk_facts9 hbk;have HLW:=hidE hlw;have HIN:=hidE (r8_inner0 W0);clear hlw hbk;go_enter Tryz.func45,Tryz.ntmps45
 go_upto_region 1 with fail
 try rw[hW0]
 clear hW0;go_wp2_with fail
 refine HIN.out.mono ?_;rintro e w2 ⟨⟨A,c,rfl⟩,b2⟩;have HB2:=hidE (HLW.out.trans (b2.mono HLW.out.size));clear b2 HIN f0 f1 f2 f3 f4 f5 f6 f7 f8;go_wp2_with fail
 go_loopg [4] 0 (λgg vi wr=>gg=0/\vi=.int .i64 0/\wr=w2)
 case atStart=>exact⟨rfl,rfl,rfl⟩
 case round =>
  obtain⟨rfl,rfl,rfl⟩:=hrel;go_wp2_with fail
  go_ret
  exact⟨rfl,HB2.out⟩
theorem r8_deepG(l:List (Nm × Ty))(S:Nat->Prop)(k0:Int)(s:ByteArray)(V:Option Addr)(vm vq:Nat)(G:Option Addr)(gm gq:Nat)(K0:Int)(X0:ByteArray)(Z0:Int)(B0:Option Addr)(m0 q0:Nat)(k:Int)(x:ByteArray)(t:Bool)(K:Int)(X:ByteArray)(Z:Int)(B:Option Addr)(m q:Nat)(KA:Option Addr)(kn kc:Nat)(LA:Option Addr)(ln lc:Nat)(D1 D2:Nat)(q2:Bool)(w:World)
  (hl:LstG pcC S w l G)(hgm:l.length=gm)(hS:∀g,S g->g<w.heap.size)(hw:consW l<=4000)(h1:D1<=1000000)(h2:D2<=1000000)
  (HT:∀W,Below w.heap.size w W->Calls Tryz.prog 86 #[.agg #[.int .i64 K0,.string X0,.int .i64 Z0,.slice B0 m0 q0]] W λe w'=>e=.returned (.int .i64 (D1:Nat))/\Below W.heap.size W w')
  (HE:∀W,Below w.heap.size w W->Calls Tryz.prog 45 #[.agg #[.int .i64 k,.string x,.bool t,.int .i64 K,.string X,.int .i64 Z,.slice B m q,.slice KA kn kc,.slice LA ln lc]] W λe w'=>e=.returned (.bool q2)/\Below W.heap.size W w')
  (HD:∀W,Below w.heap.size w W->Calls Tryz.prog 19 #[.agg #[.int .i64 k,.string x,.bool t,.int .i64 K,.string X,.int .i64 Z,.slice B m q,.slice KA kn kc,.slice LA ln lc]] W λe w'=>e=.returned (.int .i64 (D2:Nat))/\Below W.heap.size W w'):Calls Tryz.prog 35 #[.agg #[.int .i64 k0,.string s,.slice V vm vq,.slice G gm gq,.int .i64 K0,.string X0,.int .i64 Z0,.slice B0 m0 q0,.int .i64 k,.string x,.bool t,.int .i64 K,.string X,.int .i64 Z,.slice B m q,.slice KA kn kc,.slice LA ln lc]] w λe w'=>e=.returned (.bool ((l.any λc=>decide (50<c.2.depth)) ||(q2 ||(decide (50<D1)||decide (50<D2)))))/\Below w.heap.size w w':=by
 obtain⟨W0,hW0⟩:∃W,w.alloc (.cells #[.int .i64 k0,.string s,.slice V vm vq,.slice G gm gq,.int .i64 K0,.string X0,.int .i64 Z0,.slice B0 m0 q0,.int .i64 k,.string x,.bool t,.int .i64 K,.string X,.int .i64 Z,.slice B m q,.slice KA kn kc,.slice LA ln lc] 81)=W:=⟨_,rfl⟩;have hb0:Below w.heap.size w W0:=hW0▸(Below.refl _ w).alloc (Nat.le_refl _) _;have hs0:w.heap.size+1<=W0.heap.size:=by rw[<-hW0];simp
 have hbx:Blk W0 w.heap.size 81 #[.int .i64 k0,.string s,.slice V vm vq,.slice G gm gq,.int .i64 K0,.string X0,.int .i64 Z0,.slice B0 m0 q0,.int .i64 k,.string x,.bool t,.int .i64 K,.string X,.int .i64 Z,.slice B m q,.slice KA kn kc,.slice LA ln lc]:=hW0▸heap_alloc_new _ _;have HBX:=hidE hbx;have HB0:=hidE hb0;have HHE:=hidE HE;have HHD:=hidE HD;have HHT:=hidE HT;have HL:=hidE hl;have HGM:=hidE hgm;have HS:=hidE hS;have HW:=hidE hw;have hgm4:gm<=4000:=by have:=consW_len l;omega
 obtain⟨R,hR⟩:∃R,((l.any λc=>decide (50<c.2.depth)) ||(q2 ||(decide (50<D1)||decide (50<D2))))=R:=⟨_,rfl⟩;rw[hR]
 have HR:=hidE hR;clear hb0 hbx HT HE HD hl hgm hS hw hR;go_enter Tryz.func35,Tryz.ntmps35
 go_upto_region 1 with fail
 try rw[hW0]
 clear hW0;go_wp2_with fail
 go_loopg [3] gm (λgg vi wr=>∃i:Nat,gg=gm-i/\vi=.int .i64 (i:Nat)/\i<=gm/\Hid ((l.take i).any (λc=>decide (50<c.2.depth))=false)/\Hid (Below W0.heap.size W0 wr))
 case atStart=>exact⟨0,rfl,rfl,by omega,hidE rfl,hidE (Below.refl _ _)⟩
 case round =>
  obtain⟨i,rfl,rfl,hi,hU,hB⟩:=hrel;have hsr:=hB.out.size;have hlw:w.heap.size<wr.heap.size:=by omega
  have hBr:=hidE (HB0.out.trans (hB.out.mono HB0.out.size));by_cases hlt:i<gm
  ·have f3:=(HBX.out.below hB.out (by omega)).cell 3
   replace f3:wr.cell? ⟨w.heap.size,3,none⟩=some (.slice G gm gq):=f3;obtain⟨c,hx⟩:∃c,l[i]?=some c:=⟨_,List.getElem?_eq_getElem (by rw[HGM.out];exact hlt)⟩;obtain⟨g,cs,rfl,hSg,⟨A,a,rfl,hA⟩,hrow⟩:=HL.out.row i c hx;have hkeep:∀g,S g->wr.heap[g]?=w.heap[g]?:=λg hg=>hBr.out.block g (HS.out g hg);have hrow2:=Lie.keep (w:=w) hrow (hkeep g hSg);have hd:=ref2_depth 1000000 c.2 S (.agg (tyV c.2 A a).toArray) wr (by have:=consW_mem l c (List.mem_of_getElem? hx);have:=HW.out;omega) (Nat.le_refl _) ⟨A,a,rfl,Args.keep (λ_ h=>h) hkeep _ _ hA⟩ (λg hg=>by have:=HS.out g hg;omega);obtain⟨D,hD⟩:∃D,c.2.depth=D:=⟨_,rfl⟩;obtain⟨tK,tX,tZ,tm,hs⟩:∃tK tX tZ tm,tyV c.2 A a=[.int .i64 tK,.string tX,.int .i64 tZ,.slice A tm a]:=⟨_,_,_,_,rfl⟩;rw[hs,hD]at hd
   rw[hs]at hrow2
   have c1:wr.cell? ⟨g,i*5+1,none⟩=some (.int .i64 tK):=hrow2 1 _ rfl;have c2:wr.cell? ⟨g,i*5+1+1,none⟩=some (.string tX):=hrow2 2 _ rfl;have c3:wr.cell? ⟨g,i*5+1+2,none⟩=some (.int .i64 tZ):=hrow2 3 _ rfl;have c4:wr.cell? ⟨g,i*5+1+3,none⟩=some (.slice A tm a):=hrow2 4 _ rfl;have hgl:=lt_cell c1;have ii0:(0:Int)<=(i:Int):=by omega
   have ii1:(i:Int)<(gm:Int):=by omega
   have HYES:Hid (50<D->R=true):=hidE λh=>by
    rw[<-HR.out,Bool.or_eq_true]
    exact .inl (List.any_eq_true.2 ⟨c,List.mem_of_getElem? hx,by rw[hD];exact decide_eq_true h⟩)
   have HNO:Hid (¬50<D->(l.take (i+1)).any (λc=>decide (50<c.2.depth))=false):=hidE λh=>by
    rw[List.take_add_one,hx,List.any_append,hU.out]
    simp only[Option.toList_some,List.any_cons,List.any_nil,hD,decide_eq_false h,Bool.or_false]
   have HCALL:=hidE hd;clear hx hSg hA hrow hkeep hrow2 hs hd hD hU;by_cases h50:50<D
   ·have dd:decide ((50:Int)<(D:Int))=true:=decide_eq_true (by omega)
    have hr:=hidE (HYES.out h50);go_wp2_with fail
    refine HCALL.out.mono ?_;rintro en w3 ⟨rfl,b3⟩;have HB3:=hidE (hBr.out.trans (b3.mono hBr.out.size));clear b3 HCALL;go_wp2_with fail
    go_ret
    exact⟨ret_bool hr.out.symm,HB3.out⟩
   ·have dd:decide ((50:Int)<(D:Int))=false:=decide_eq_false (by omega)
    have hr:=hidE (HNO.out h50);go_wp2_with fail
    refine HCALL.out.mono ?_;rintro en w3 ⟨rfl,b3⟩;have HB3:=hidE (hB.out.trans (b3.mono hsr));clear b3 HCALL;go_wp2_with fail
    go_roundg (gm-(i+1))
    case measure=>omega
    case rel=>exact⟨i+1,rfl,by go_num,by omega,hr,HB3⟩
  ·have hig:i=gm:=by omega
   subst hig;have HR2:Hid (R=(q2 ||(decide (50<D1)||decide (50<D2)))):=hidE (by
    have:=hU.out;rw[List.take_of_length_le (by rw[HGM.out];exact Nat.le_refl _)]at this
    rw[<-HR.out,this,Bool.false_or])
   have hbk:=HBX.out.below hB.out (by omega);obtain⟨⟨g0,g1,g2,g3,g4,g5,g6,g7,g8,g9,g10,g11,g12,g13,g14,g15,g16⟩,-,hlg⟩:=blk_facts17 hbk;have H2:=hidE (HHE.out wr hBr.out);clear hU hbk;go_wp2_with fail
   refine H2.out.mono ?_;rintro e w2 ⟨rfl,b2⟩;have hb2:=hBr.out.trans (b2.mono hBr.out.size);have HB2:=hidE hb2;have hbk:=HBX.out.below (hB.out.trans (b2.mono hsr)) (by omega);clear g0 g1 g2 g3 g4 g5 g6 g7 g8 g9 g10 g11 g12 g13 g14 g15 g16 hlg;obtain⟨⟨g0,g1,g2,g3,g4,g5,g6,g7,g8,g9,g10,g11,g12,g13,g14,g15,g16⟩,-,hlg⟩:=blk_facts17 hbk;have H3:=hidE (HHT.out w2 hb2);clear b2 hb2 hbk H2;cases q2 with
   |true =>
    have hr:Hid (R=true):=hidE (by rw[HR2.out];rfl);go_wp2_with fail
    go_ret
    exact⟨ret_bool hr.out.symm,HB2.out⟩
   |false =>
    have HRA:Hid (50<D1->R=true):=hidE λh=>by rw[HR2.out,decide_eq_true h];rfl
    have HRB:Hid (¬50<D1->R=decide (50<D2)):=hidE λh=>by rw[HR2.out,decide_eq_false h];rfl
    by_cases h50:50<D1
    ·have dd:decide ((50:Int)<(D1:Int))=true:=decide_eq_true (by omega)
     have hr:=hidE (HRA.out h50);go_wp2_with fail
     refine H3.out.mono ?_;rintro e w3 ⟨rfl,b3⟩;have HB3:=hidE (HB2.out.trans (b3.mono HB2.out.size));clear b3 H3;go_wp2_with fail
     go_ret
     exact⟨ret_bool hr.out.symm,HB3.out⟩
    ·have dd:decide ((50:Int)<(D1:Int))=false:=decide_eq_false (by omega)
     have hr:=hidE (HRB.out h50);obtain⟨q5,hq5⟩:∃q,decide (50<D2)=q:=⟨_,rfl⟩;have d2:decide ((50:Int)<(D2:Int))=q5:=by rw[<-hq5];exact decide_eq_decide.2 (by omega)
     rw[hq5]at hr
     clear hq5;go_wp2_with fail
     refine H3.out.mono ?_;rintro e w3 ⟨rfl,b3⟩;have hb3:=HB2.out.trans (b3.mono HB2.out.size);have HB3:=hidE hb3;have hlx:=HB2.out.size;have e8:=(b3.cell (p:=⟨w.heap.size,8,none⟩) hlg).trans g8;have e9:=(b3.cell (p:=⟨w.heap.size,9,none⟩) hlg).trans g9;have e10:=(b3.cell (p:=⟨w.heap.size,10,none⟩) hlg).trans g10;have e11:=(b3.cell (p:=⟨w.heap.size,11,none⟩) hlg).trans g11;have e12:=(b3.cell (p:=⟨w.heap.size,12,none⟩) hlg).trans g12;have e13:=(b3.cell (p:=⟨w.heap.size,13,none⟩) hlg).trans g13;have e14:=(b3.cell (p:=⟨w.heap.size,14,none⟩) hlg).trans g14;have e15:=(b3.cell (p:=⟨w.heap.size,15,none⟩) hlg).trans g15;have e16:=(b3.cell (p:=⟨w.heap.size,16,none⟩) hlg).trans g16;have H4:=hidE (HHD.out w3 hb3);clear b3 hb3 H3 g0 g1 g2 g3 g4 g5 g6 g7 g8 g9 g10 g11 g12 g13 g14 g15 g16;go_wp2_with fail
     refine H4.out.mono ?_;rintro e w4 ⟨rfl,b4⟩;have HB4:=hidE (HB3.out.trans (b4.mono HB3.out.size));clear b4 H4;go_wp2_with fail
     go_ret
     exact⟨ret_bool hr.out.symm,HB4.out⟩
theorem r8_deep(d:De)(S:Nat->Prop)(cs:List Value)(w:World)(hc:pcD.Cs S w d cs)(hS:∀g,S g->g<w.heap.size)(hw:d.wt<=4000):Calls Tryz.prog 35 #[.agg cs.toArray] w λe w'=>e=.returned (.bool d.tooDeep)/\Below w.heap.size w w':=by
 have hSS:∀W,Below w.heap.size w W->∀g,S g->g<W.heap.size:=λW hW g hg=>by have:=hS g hg;have:=hW.size;omega
 have hL0:LstG pcC S w [] none:=λh=>absurd rfl h;cases d with
 |data n ps l =>
  obtain⟨V,v,A,a,rfl,-,hl⟩:=hc;have hwl:consW l<=4000:=by simp only[De.wt]at hw;omega
  have:=r8_deepG l S 1 ⟨n.toArray⟩ V ps.length v A l.length a 0 ⟨#[]⟩ 0 none 0 0 0 ⟨#[]⟩ false 0 ⟨#[]⟩ 0 none 0 0 none 0 0 none 0 0 1 1 false w hl rfl hS hwl (by omega) (by omega) (λW _=>ref2_depth0 W) (λW _=>r8_deepT0 W) (λW _=>r8_depth0 W);rw[show((l.any λc=>decide (50<c.2.depth)) ||(false ||(decide (50<1)||decide (50<1))))=(De.data n ps l).tooDeep by simp[De.tooDeep]]at this
  exact this
 |sig x t =>
  obtain⟨A,a,rfl,hA⟩:=hc;have hsz:t.size<=1000000:=by simp only[De.wt]at hw;omega
  have:=r8_deepG [] S 2 ⟨x.toArray⟩ none 0 0 none 0 0 (kd t:Nat) (nmB t) (nn t:Nat) A (kids t).length a 0 ⟨#[]⟩ false 0 ⟨#[]⟩ 0 none 0 0 none 0 0 none 0 0 t.depth 1 false w hL0 rfl hS (by simp[consW]) (by have:=depth_size t;omega) (by omega)
   (λW hW=>ref2_depth 1000000 t S _ W hsz (Nat.le_refl _) (show RdV S W t _ from⟨A,a,rfl,Args.keep (λ_ h=>h) (λg hg=>hW.block g (hS g hg)) _ _ hA⟩) (hSS W hW)) (λW _=>r8_deepT0 W) (λW _=>r8_depth0 W)
  rw[show((([]:List (Nm × Ty)).any λc=>decide (50<c.2.depth)) ||(false ||(decide (50<t.depth)||decide (50<1))))=(De.sig x t).tooDeep by simp[De.tooDeep]]at this
  exact this
 |bind x e =>
  obtain⟨P,rfl,h2,h3⟩:=hc;have hX:∀W,Below w.heap.size w W->RdX S W e (.agg (exC e P).toArray):=λW hW=>⟨P,rfl,h2.keep (λ_ h=>h) (λg hg=>hW.block g (hS g hg)),ExIn.keep (λ_ h=>h) (λg hg=>hW.block g (hS g hg)) e _ _ h3⟩;obtain⟨K,X,Z,B,m,q,hs⟩:=tyC_shape (tyE e) P.A P.a;have hL:exC e P=[.int .i64 (kdE e:Nat),.string ⟨(nmE e).toArray⟩,.bool (toE e),.int .i64 K,.string X,.int .i64 Z,.slice B m q,.slice P.K (kidsE e).length ((kidsE e).length+P.k),.slice P.L (altsE e).length P.l]:=by rw[exC,hs];rfl
  rw[hL]at hX ⊢
  have hwe:e.wt<=4000:=by simp only[De.wt]at hw;omega
  have hse:e.size<=400000:=by have:=Sx.size_wt e;omega
  have:=r8_deepG [] S 3 ⟨x.toArray⟩ none 0 0 none 0 0 0 ⟨#[]⟩ 0 none 0 0 (kdE e:Nat) ⟨(nmE e).toArray⟩ (toE e) K X Z B m q P.K (kidsE e).length ((kidsE e).length+P.k) P.L (altsE e).length P.l 1 e.depth e.deepT w hL0 rfl hS (by simp[consW]) (by omega) (by have:=depth_leS e;omega) (λW _=>ref2_depth0 W)
   (λW hW=>r8_deepT 400000 e S _ W hse (Nat.le_refl _) (by omega) (hX W hW) (hSS W hW)) (λW hW=>r8_depth 400000 e S _ W hse (Nat.le_refl _) (hX W hW) (hSS W hW))
  rw[show((([]:List (Nm × Ty)).any λc=>decide (50<c.2.depth)) ||(e.deepT ||(decide (50<1)||decide (50<e.depth))))=(De.bind x e).tooDeep by simp[De.tooDeep,Ex.tooDeep,Bool.or_comm]]at this
  exact this
end Go.Proofs.YtknkclefoiohpaaGreatDoor
