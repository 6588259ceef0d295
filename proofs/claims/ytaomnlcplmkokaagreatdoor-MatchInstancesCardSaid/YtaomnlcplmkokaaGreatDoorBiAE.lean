import Derived.Test.YtaomnlcplmkokaaGreatDoorBiAB
import Derived.Deep.CutBlock
import Derived.Outline
set_option maxHeartbeats 12800000
namespace Go.Proofs.YtaomnlcplmkokaaGreatDoor
open Go.RowKit Lx Tx Go.Maps Go.WideMaps Go.Shelf
set_option maxRecDepth 100000
def zjU(n fp vb cb mb:Nat)(vars:List Name)(St:Nat->Prop):Prop :=
 ∀(p t:Ty) (bd:List Name) (r:List (Name × Ty)) (c:Nat) (S:Nat->Prop) (v u:Value) (w:World),p.size<=n->n<=1000000->FdI fp vb cb mb vars bd St r c w->RdV S w p v->RdV St w t u->(∀g,S g->g<w.heap.size/\g≠cb/\g≠mb)->(∀g,St g->g<w.heap.size/\g≠cb/\g≠mb)->Nm p->c+3*p.size<=900000000 ->
  Calls Tryz.prog 61 #[.pointer (some ⟨fp,0,none⟩),v,u] w λe w'=>e=.returned (.tuple #[])/\FdI fp vb cb mb vars bd St (zaN vars bd p t r) (c+3*p.size) w'/\Chg (λg=>g=cb\/g=mb) w w'
def HeadFd(fp vb cb mb:Nat)(vars bd:List Name)(St:Nat->Prop)(r:List (Name × Ty))(c:Nat)(l m:List Ty)(mn:Nat)(w0:World)(gg:Nat)(vi:Value)(wr:World):Prop :=
 ∃i,gg=mn-i/\vi=.int .i64 (i:Nat)/\i<=mn/\FdI fp vb cb mb vars bd St (zaM vars bd (l.take i) (m.take i) r) (c+3*zab (l.take i)) wr/\Chg (λg=>g=cb\/g=mb) w0 wr
theorem ziA(o:Option Nat):mkInt.valO o=.int .i64 ((o.getD 0:Nat):Int):=by cases o <;> rfl
theorem zhm(vars bd:List Name)(l m:List Ty)(r:List (Name × Ty))(i:Nat)(a b:Ty)(ha:l[i]?=some a)(hb:m[i]?=some b):zaM vars bd (l.take (i+1)) (m.take (i+1)) r=zaN vars bd a b (zaM vars bd (l.take i) (m.take i) r):=by
 obtain⟨hi,rfl⟩:=List.getElem?_eq_some_iff.1 ha;obtain⟨hj,rfl⟩:=List.getElem?_eq_some_iff.1 hb;rw[List.take_succ_eq_append_getElem hi,List.take_succ_eq_append_getElem hj,zhl]
 simp;omega
theorem FdI.lts {fp vb cb mb c:Nat} {vars bd:List Name} {St:Nat->Prop} {r:List (Name × Ty)} {w:World}(h:FdI fp vb cb mb vars bd St r c w):fp<w.heap.size/\vb<w.heap.size/\cb<w.heap.size/\mb<w.heap.size:=by
 obtain⟨a,b,⟨_,q1,_⟩,⟨_,p1,_⟩⟩:=h;exact⟨a.lt,b.lt,q1.lt,p1.lt⟩
theorem FdI.below {fp vb cb mb c:Nat} {vars bd:List Name} {St:Nat->Prop} {r:List (Name × Ty)} {w w':World}(h:FdI fp vb cb mb vars bd St r c w)(hSt:∀g,St g->g<w.heap.size)(hb:Below w.heap.size w w'):FdI fp vb cb mb vars bd St r c w' :=
 h.keep (hb.block _ h.lts.1) (hb.block _ h.lts.2.1) (hb.block _ h.lts.2.2.1) (hb.block _ h.lts.2.2.2) (λg hg=>hb.block g (hSt g hg))
theorem zjV(n fp vb cb mb:Nat)(vars:List Name)(St:Nat->Prop)(hcm:cb≠mb)(hmf:mb≠fp)(hmv:mb≠vb)(ih:zjU n fp vb cb mb vars St)
  (p t:Ty)(bd:List Name)(r:List (Name × Ty))(c:Nat)(S:Nat->Prop)(v u:Value)(w:World)(hk5:kd p≠5)(hn:p.size<=n+1)(h6:n<1000000)(hi:FdI fp vb cb mb vars bd St r c w)(hv:RdV S w p v)(hu:RdV St w t u)(hS:∀g,S g->g<w.heap.size/\g≠cb/\g≠mb)(hSt:∀g,St g->g<w.heap.size/\g≠cb/\g≠mb)(hnm:Nm p)(hc:c+3*p.size<=900000000):Calls Tryz.prog 61 #[.pointer (some ⟨fp,0,none⟩),v,u] w λe w'=>e=.returned (.tuple #[])/\FdI fp vb cb mb vars bd St (zaN vars bd p t r) (c+3*p.size) w'/\Chg (λg=>g=cb\/g=mb) w w':=by
 obtain⟨K,X,Z,A,m,cp,rfl,hK,hX,hZ,hm,ha⟩:=hv.parts;obtain⟨K2,X2,Z2,A2,m2,cp2,rfl,hK2,hX2,hZ2,hm2,ha2⟩:=hu.parts;have hX24:X.size<=maxLen:=by have:=zc4 hnm;rw[<-hX]at this;unfold maxLen;omega
 obtain⟨l0,l1,l2,ls,lb⟩:=zcs w (.cells #[.pointer (some ⟨fp,0,none⟩)] 143) (.cells #[.int .i64 K,.string X,.int .i64 Z,.slice A m cp] 26) (.cells #[.int .i64 K2,.string X2,.int .i64 Z2,.slice A2 m2 cp2] 26);obtain⟨W3,hW3⟩:∃W,((w.alloc (.cells #[.pointer (some ⟨fp,0,none⟩)] 143)).alloc (.cells #[.int .i64 K,.string X,.int .i64 Z,.slice A m cp] 26)).alloc (.cells #[.int .i64 K2,.string X2,.int .i64 Z2,.slice A2 m2 cp2] 26)=W:=⟨_,rfl⟩;rw[hW3]at l0 l1 l2 ls lb
 obtain⟨hfl,hvl,hcl,hml⟩:=hi.lts;have hi3:FdI fp vb cb mb vars bd St r c W3:=hi.below (λg hg=>(hSt g hg).1) lb;obtain⟨e0,e1,e2,e3,-⟩:=zaa (show Blk W3 (w.heap.size+1) 26 _ from l1);obtain⟨g0,g1,g2,g3,-⟩:=zaa (show Blk W3 (w.heap.size+1+1) 26 _ from l2);obtain⟨z0,-,-⟩:=zao (show Blk W3 w.heap.size 143 _ from l0);have f0:=Blk.cell hi3.fin 0;have f1:=Blk.cell hi3.fin 1;have f2:=Blk.cell hi3.fin 2;replace f0:W3.cell? ⟨fp,0,none⟩=some (.map (some vb)):=f0;replace f1:W3.cell? ⟨fp,1,none⟩=some (.map (some cb)):=f1;replace f2:W3.cell? ⟨fp,2,none⟩=some (.map (some mb)):=f2;have d5:((K:Int)==5)=false:=by rw[hK];exact kF _ 5 hk5
 have hfin:∀c',zaM vars (bdIn p bd) (kids p) (kids t) (zbc vars bd p t r)=zaN vars bd p t r/\bdIn p bd=bd/\c'+3*zab (kids p)+3=c'+3*p.size:=λc'=>⟨(zhk vars bd p t r).symm,by unfold bdIn;rw[if_neg hk5],by rw[zak p];omega⟩;have L0:Hid (Blk W3 w.heap.size 143 #[.pointer (some ⟨fp,0,none⟩)]):=hidE l0;have L1:Hid (Blk W3 (w.heap.size+1) 26 #[.int .i64 K,.string X,.int .i64 Z,.slice A m cp]):=hidE l1;have L2:Hid (Blk W3 (w.heap.size+1+1) 26 #[.int .i64 K2,.string X2,.int .i64 Z2,.slice A2 m2 cp2]):=hidE l2;have LS:=hidE ls;have LB:=hidE lb;have HI3:=hidE hi3;have HV:=hidE hv;have HU:=hidE hu;have HS:=hidE hS;have HST:=hidE hSt;have HNM:Hid (∀i (hi:i<(kids p).length),Nm (kids p)[i]):=hidE λi hi=>zbu hnm i hi;have HK:=hidE hK;have HX:=hidE hX;have HM:=hidE hm;have HM2:=hidE hm2;have HA:=hidE ha;have HA2:=hidE ha2;have HX24:=hidE hX24;have HW3:=hidE hW3;have HFIN:=hidE hfin;have HN:=hidE hn;have HCB:=hidE hc;have hm6:m<=n:=by have:=zaW p;omega
 have hm62:True:=trivial;clear hv hu hS hSt hnm hK hX hZ hm ha hK2 hX2 hZ2 hm2 ha2 l0 l1 l2 ls lb hi hi3 hX24 hW3 hfin hn hc;go_enter_defers Tryz.func61,Tryz.ntmps61
 go_upto_region 1 with fail
 rw[HW3.out]
 go_upto_block 0 with fail
 go_cut [6,7] from 11 (λ_ _ wx=>Hid (FdI fp vb cb mb vars bd St (zbc vars bd p t r) (c+1) wx/\Chg (only mb) W3 wx))
 case first =>
  by_cases hk1:kd p=1
  ·have d1:((K:Int)==1)=true:=by rw[HK.out,hk1];rfl
   obtain⟨qa,hqa⟩:∃qa,decide (X.data.toList∈vars)=qa:=⟨_,rfl⟩;obtain⟨q2,qa1,qa2,-,-⟩:=HI3.out.cn;obtain⟨cnt,hcnt⟩:∃cnt,bd.count X.data.toList=cnt:=⟨_,rfl⟩;have SOF:Hid (∀W:World,(∀g,g<W3.heap.size->W.heap[g]?=W3.heap[g]?)->(λW:World=>W.cell? ⟨w.heap.size,0,none⟩=some (.pointer (some ⟨fp,0,none⟩))/\W.cell? ⟨fp,0,none⟩=some (.map (some vb))/\W.cell? ⟨fp,1,none⟩=some (.map (some cb))/\W.cell? ⟨fp,2,none⟩=some (.map (some mb))/\W.cell? ⟨w.heap.size+1,1,none⟩=some (.string X)/\W.cell? ⟨w.heap.size+1+1,0,none⟩=some (.int .i64 K2)/\W.cell? ⟨w.heap.size+1+1,1,none⟩=some (.string X2)/\W.cell? ⟨w.heap.size+1+1,2,none⟩=some (.int .i64 Z2)/\W.cell? ⟨w.heap.size+1+1,3,none⟩=some (.slice A2 m2 cp2)/\(Instr.lookup 77 (.map (some vb)) (.string X) true).run Tryz.prog W=.ok (.tuple #[.agg #[],.bool qa]) W/\(Instr.lookup 88 (.map (some cb)) (.string X) false).run Tryz.prog W=.ok (.int .i64 (cnt:Nat)) W) W):=hidE λW hW=>by
    have hls:=LS.out;have b0:Blk W w.heap.size 143 #[.pointer (some ⟨fp,0,none⟩)]:=L0.out.same (hW _ (by omega));have b1:Blk W (w.heap.size+1) 26 #[.int .i64 K,.string X,.int .i64 Z,.slice A m cp]:=L1.out.same (hW _ (by omega));have b3:Blk W (w.heap.size+1+1) 26 #[.int .i64 K2,.string X2,.int .i64 Z2,.slice A2 m2 cp2]:=L2.out.same (hW _ (by omega));have b2:=HI3.out.fin.same (hW fp (by omega));refine⟨b0.cell 0,Blk.cell b2 0,Blk.cell b2 1,Blk.cell b2 2,b1.cell 1,b3.cell 0,b3.cell 1,b3.cell 2,b3.cell 3,?_,?_⟩
    ·have hlk:=(HI3.out.va.keep (hW vb (by omega))).getOk X HX24.out
     rw[zct]at hlk
     rw[<-hqa]
     by_cases hx:X.data.toList∈vars
     ·rw[if_pos hx]at hlk;rw[decide_eq_true hx];exact hlk
     ·rw[if_neg hx]at hlk;rw[decide_eq_false hx];exact hlk
    ·have hlk:=(qa1.keep (w':=W) (hW cb (by omega))).get X HX24.out
     rw[ziA,qa2,hcnt]at hlk
     exact hlk
   have HQA:=hidE hqa;have HCNT:=hidE hcnt;clear hqa hcnt qa1 qa2 e0 e1 e2 e3 g0 g1 g2 g3 z0 f0 f1 f2;obtain⟨e1,e2,e3,e4,e5,e6,e7,e8,e9,e10,e11⟩:=SOF.out W3.drew (λ_ _=>rfl);go_upto_region 3 with fail
   go_region_held3 (λW:World=>W.cell? ⟨w.heap.size,0,none⟩=some (.pointer (some ⟨fp,0,none⟩))/\W.cell? ⟨fp,0,none⟩=some (.map (some vb))/\W.cell? ⟨fp,1,none⟩=some (.map (some cb))/\W.cell? ⟨fp,2,none⟩=some (.map (some mb))/\W.cell? ⟨w.heap.size+1,1,none⟩=some (.string X)/\W.cell? ⟨w.heap.size+1+1,0,none⟩=some (.int .i64 K2)/\W.cell? ⟨w.heap.size+1+1,1,none⟩=some (.string X2)/\W.cell? ⟨w.heap.size+1+1,2,none⟩=some (.int .i64 Z2)/\W.cell? ⟨w.heap.size+1+1,3,none⟩=some (.slice A2 m2 cp2)/\(Instr.lookup 77 (.map (some vb)) (.string X) true).run Tryz.prog W=.ok (.tuple #[.agg #[],.bool qa]) W/\(Instr.lookup 88 (.map (some cb)) (.string X) false).run Tryz.prog W=.ok (.int .i64 (cnt:Nat)) W)
    (first|(exact SOF.out _ (λg hg=>rfl))|(exact SOF.out _ (λg hg=>Below.heap_alloc _ _ _ hg)))
    ((fail))
   all_goals
    clear e1 e2 e3 e4 e5 e6 e7 e8 e9 e10 e11;cases qa with
    |false =>
     have hno:zbc vars bd p t r=r:=by
      unfold zbc;exact if_neg (λh=>of_decide_eq_false HQA.out (by rw[HX.out];exact h.2.1))
     have HNO:=hidE hno;clear hno;go_upto_region 4 with fail
     obtain⟨V4,hV4⟩:∃V,(W3.alloc (.cells #[] 116)).drew=V:=⟨_,rfl⟩;rw[hV4]
     have hk4:∀g,g<W3.heap.size->V4.heap[g]?=W3.heap[g]?:=λg hg=>by rw[<-hV4];exact Below.heap_alloc W3 _ g hg
     have SOF4:Hid (∀W:World,W.heap=V4.heap->(λW:World=>W.cell? ⟨w.heap.size,0,none⟩=some (.pointer (some ⟨fp,0,none⟩))/\W.cell? ⟨fp,0,none⟩=some (.map (some vb))/\W.cell? ⟨fp,1,none⟩=some (.map (some cb))/\W.cell? ⟨fp,2,none⟩=some (.map (some mb))/\W.cell? ⟨w.heap.size+1,1,none⟩=some (.string X)/\W.cell? ⟨w.heap.size+1+1,0,none⟩=some (.int .i64 K2)/\W.cell? ⟨w.heap.size+1+1,1,none⟩=some (.string X2)/\W.cell? ⟨w.heap.size+1+1,2,none⟩=some (.int .i64 Z2)/\W.cell? ⟨w.heap.size+1+1,3,none⟩=some (.slice A2 m2 cp2)/\(Instr.lookup 77 (.map (some vb)) (.string X) true).run Tryz.prog W=.ok (.tuple #[.agg #[],.bool false]) W/\(Instr.lookup 88 (.map (some cb)) (.string X) false).run Tryz.prog W=.ok (.int .i64 (cnt:Nat)) W) W):=hidE λW hW=>SOF.out W (λg hg=>by rw[hW];exact hk4 g hg);have HK4:=hidE hk4;have C4:Hid (Chg (only mb) W3 V4):=hidE (by rw[<-hV4];exact((Chg.refl (only mb) W3).alloc _).drew);clear hV4 hk4;go_region
     all_goals
      go_wp2_with fail
      go_meet
      case rel =>
       refine hidE ⟨?_,C4.out.drew⟩;rw[HNO.out]
       have hls:=LS.out;exact(HI3.out.keep (w':=V4.drew) (HK4.out _ (by omega)) (HK4.out _ (by omega)) (HK4.out _ (by omega)) (HK4.out _ (by omega)) (λg hg=>HK4.out g (by have:=(HST.out g hg).1;omega))).mono (Nat.le_succ _)
    |true =>
     go_upto_region 4 with fail
     obtain⟨V4,hV4⟩:∃V,(W3.alloc (.cells #[] 116)).drew=V:=⟨_,rfl⟩;rw[hV4]
     have hk4:∀g,g<W3.heap.size->V4.heap[g]?=W3.heap[g]?:=λg hg=>by rw[<-hV4];exact Below.heap_alloc W3 _ g hg
     have SOF4:Hid (∀W:World,W.heap=V4.heap->(λW:World=>W.cell? ⟨w.heap.size,0,none⟩=some (.pointer (some ⟨fp,0,none⟩))/\W.cell? ⟨fp,0,none⟩=some (.map (some vb))/\W.cell? ⟨fp,1,none⟩=some (.map (some cb))/\W.cell? ⟨fp,2,none⟩=some (.map (some mb))/\W.cell? ⟨w.heap.size+1,1,none⟩=some (.string X)/\W.cell? ⟨w.heap.size+1+1,0,none⟩=some (.int .i64 K2)/\W.cell? ⟨w.heap.size+1+1,1,none⟩=some (.string X2)/\W.cell? ⟨w.heap.size+1+1,2,none⟩=some (.int .i64 Z2)/\W.cell? ⟨w.heap.size+1+1,3,none⟩=some (.slice A2 m2 cp2)/\(Instr.lookup 77 (.map (some vb)) (.string X) true).run Tryz.prog W=.ok (.tuple #[.agg #[],.bool true]) W/\(Instr.lookup 88 (.map (some cb)) (.string X) false).run Tryz.prog W=.ok (.int .i64 (cnt:Nat)) W) W):=hidE λW hW=>SOF.out W (λg hg=>by rw[hW];exact hk4 g hg);have HK4:=hidE hk4;have C4:Hid (Chg (only mb) W3 V4):=hidE (by rw[<-hV4];exact((Chg.refl (only mb) W3).alloc _).drew);have hS4:W3.heap.size<=V4.heap.size:=by rw[<-hV4];simp
     clear hV4 hk4;obtain⟨z,hz⟩:∃z,decide (cnt=0)=z:=⟨_,rfl⟩;have hz0:((cnt:Int)==0)=z:=by rw[<-hz];exact Bool.eq_iff_iff.2 (by simp)
     have HZ:=hidE hz;clear hz;go_region_held3 (λW:World=>W.cell? ⟨w.heap.size,0,none⟩=some (.pointer (some ⟨fp,0,none⟩))/\W.cell? ⟨fp,0,none⟩=some (.map (some vb))/\W.cell? ⟨fp,1,none⟩=some (.map (some cb))/\W.cell? ⟨fp,2,none⟩=some (.map (some mb))/\W.cell? ⟨w.heap.size+1,1,none⟩=some (.string X)/\W.cell? ⟨w.heap.size+1+1,0,none⟩=some (.int .i64 K2)/\W.cell? ⟨w.heap.size+1+1,1,none⟩=some (.string X2)/\W.cell? ⟨w.heap.size+1+1,2,none⟩=some (.int .i64 Z2)/\W.cell? ⟨w.heap.size+1+1,3,none⟩=some (.slice A2 m2 cp2)/\(Instr.lookup 77 (.map (some vb)) (.string X) true).run Tryz.prog W=.ok (.tuple #[.agg #[],.bool true]) W/\(Instr.lookup 88 (.map (some cb)) (.string X) false).run Tryz.prog W=.ok (.int .i64 (cnt:Nat)) W) (exact SOF4.out _ rfl) ((fail))
     all_goals
      cases z with
      |false =>
       have hno:zbc vars bd p t r=r:=by
        unfold zbc;exact if_neg (λh=>of_decide_eq_false HZ.out (by rw[<-HCNT.out,HX.out];exact h.2.2))
       have HNO:=hidE hno;clear hno;go_wp2_with fail
       go_meet
       case rel =>
        refine hidE ⟨?_,C4.out.drew⟩;rw[HNO.out]
        have hls:=LS.out;exact(HI3.out.keep (w':=V4.drew) (HK4.out _ (by omega)) (HK4.out _ (by omega)) (HK4.out _ (by omega)) (HK4.out _ (by omega)) (λg hg=>HK4.out g (by have:=(HST.out g hg).1;omega))).mono (Nat.le_succ _)
      |true =>
       go_upto_region 5 with fail
       have hyes:zbc vars bd p t r=(X.data.toList,t)::r:=by
        unfold zbc;rw[<-HX.out]
        exact if_pos ⟨hk1,of_decide_eq_true HQA.out,by rw[HCNT.out];exact of_decide_eq_true HZ.out⟩
       obtain⟨V5,hV5⟩:∃V,V4.drew=V:=⟨_,rfl⟩;rw[hV5]
       have hh5:V5.heap=V4.heap:=by rw[<-hV5];rfl
       have hls:=LS.out;obtain⟨q3,qb1,qb2,qb3⟩:=HI3.out.fo;obtain⟨w1,hrun,hm1,hg1⟩:=zh7 mkVal (w:=V5.drew) (qb1.keep (w':=V5.drew) (by show V5.heap[mb]?=_;rw[hh5];exact HK4.out mb (by omega))) (by have:=HCB.out;omega) X HX24.out ⟨K2,X2,Z2,A2,m2,cp2⟩ trivial;replace hrun:(Instr.mapUpdate 65 (.map (some mb)) (.string X) (.agg #[.int .i64 K2,.string X2,.int .i64 Z2,.slice A2 m2 cp2])).run Tryz.prog V5.drew=.ok () w1:=hrun;obtain⟨y1,y2,y3,y4,y5,y6,y7,y8,y9,-,-⟩:=SOF4.out V5 hh5;have HYES:=hidE hyes;have HM1:=hidE hm1;have HG1:=hidE hg1;have HH5:=hidE hh5;have C5:Hid (Chg (only mb) W3 V5):=hidE (by rw[<-hV5];exact C4.out.drew);have QB:=hidE (And.intro qb2 qb3);clear hyes hV5 hh5 hls qb1 qb2 qb3 hm1 hg1 y2 y3;go_region
       all_goals
        go_wp2_with fail
        go_meet
        case rel =>
         have hls:=LS.out;have hk:∀g,g<W3.heap.size->g≠mb->w1.heap[g]?=W3.heap[g]?:=λg hg hne=>(HG1.out.block g (by show g<V5.heap.size;rw[HH5.out];omega) (λe=>by injection e with e;exact hne e)).trans (by show V5.heap[g]?=_;rw[HH5.out];exact HK4.out g hg);obtain⟨q2',qa1,qa2,qa3,qa4⟩:=HI3.out.cn;refine hidE ⟨⟨HI3.out.fin.same (hk fp (by omega) (λe=>hmf e.symm)),HI3.out.va.keep (hk vb (by omega) (λe=>hmv e.symm)),⟨q2',qa1.keep (hk cb (by omega) hcm),qa2,by omega,by omega⟩,⟨_,HM1.out,?_,by rw[List.length_cons];have:=QB.out.2;omega⟩⟩,C5.out.drew.grown (w:=V5.drew) HG1.out (λj hj=>.inr (by injection hj with hj;exact hj.symm))⟩;rw[HYES.out]
         have hkS:∀g,St g->w1.heap[g]?=W3.heap[g]?:=λg hg=>hk g (by have:=(HST.out g hg).1;omega) (HST.out g hg).2.2;exact⟨rfl,HU.out.keep (λ_ h=>h) (λg hg=>(hkS g hg).trans (LB.out.block g (HST.out g hg).1)),RelV.keep (λ_ h=>h) hkS _ _ QB.out.1⟩
  ·have d1:((K:Int)==1)=false:=by rw[HK.out];exact kF _ 1 hk1
   have hno:zbc vars bd p t r=r:=by
    unfold zbc;exact if_neg (λh=>hk1 h.1)
   have HNO:=hidE hno;clear hno;go_wp2_with fail
   go_meet
   case rel =>
    refine hidE ⟨?_,Chg.refl _ _⟩;rw[HNO.out]
    exact HI3.out.mono (Nat.le_succ _)
 case rest =>
  obtain⟨hi4,hc4⟩:=hcut.out;have hls:=LS.out;have hs4:=hc4.size;have b0:Blk wc w.heap.size 143 #[.pointer (some ⟨fp,0,none⟩)]:=Blk.chg L0.out hc4 (by unfold only;omega);have b1:Blk wc (w.heap.size+1) 26 #[.int .i64 K,.string X,.int .i64 Z,.slice A m cp]:=Blk.chg L1.out hc4 (by unfold only;omega);have b2:Blk wc (w.heap.size+1+1) 26 #[.int .i64 K2,.string X2,.int .i64 Z2,.slice A2 m2 cp2]:=Blk.chg L2.out hc4 (by unfold only;omega);have hcw:Chg (λg=>g=cb\/g=mb) w wc:=(Chg.of_below LB.out).trans' hc4 (λg _ h=>.inr h);have HFI:Hid (FdI fp vb cb mb vars bd St (zbc vars bd p t r) (c+1) wc):=hidE hi4;have HCW:=hidE hcw;have HDS:Hid (bdIn p bd=bd):=hidE (HFIN.out 0).2.1;have hszw:w.heap.size+3<=wc.heap.size:=by omega
  clear hcut hi4 hc4 hcw hls hs4 e0 e1 e2 e3 g0 g1 g2 g3 z0 f0 f1 f2;obtain⟨mn,hmn⟩:∃mn,min m m2=mn:=⟨_,rfl⟩;obtain⟨e0,e1,e2,e3,-⟩:=zaa b1;obtain⟨g0,g1,g2,g3,-⟩:=zaa b2;have B0:=hidE b0;have B1:=hidE b1;have B2:=hidE b2;have hmnM:mn<=m/\mn<=m2:=by omega
  have HMN:Hid (min m m2=mn):=hidE hmn;have hmni:min (m:Int) (m2:Int)=(mn:Int):=by omega
  clear b0 b1 b2 hmn;go_upto_block 1 with fail
  clear hmni e0 e1 e2 e3 g0 g1 g2 g3;go_wp2_with fail
  go_loopg [59] mn (λgg vi wr=>HeadFd fp vb cb mb vars bd St (zbc vars bd p t r) (c+1) (kids p) (kids t) mn wc gg vi wr)
  case atStart =>
   exact⟨0,rfl,rfl,Nat.zero_le _,by rw[List.take_zero,List.take_zero,zaM];exact HFI.out,Chg.refl _ _⟩
  case round =>
   obtain⟨i,rfl,rfl,hin,hfd,hc⟩:=hrel;have FD:=hidE hfd;have CC:=hidE hc;have hsz:=hc.size;clear hfd hc;by_cases hlt:i<mn
   ·have him:i<m:=by omega
    have him2:i<m2:=by omega
    have hcwr:=HCW.out.trans CC.out;have hkS:∀g,S g->wr.heap[g]?=w.heap[g]?:=λg hg=>hcwr.block g (HS.out g hg).1 (λh=>by rcases h with h|h;exact(HS.out g hg).2.1 h;exact(HS.out g hg).2.2 h);have hkT:∀g,St g->wr.heap[g]?=w.heap[g]?:=λg hg=>hcwr.block g (HST.out g hg).1 (λh=>by rcases h with h|h;exact(HST.out g hg).2.1 h;exact(HST.out g hg).2.2 h);obtain⟨g,a,K5,X5,Z5,A5,n5,c5,rfl,hg,e0,e1,e2,e3,hua,hrd,hsa⟩:=zaP HA.out HM.out (show i<m by omega) hkS;obtain⟨g',b,K6,X6,Z6,A6,n6,c6,rfl,hg',f0,f1,f2,f3,hub,hrd',-⟩:=zaP HA2.out HM2.out (show i<m2 by omega) hkT;have hna:Nm a:=by obtain⟨hi',rfl⟩:=List.getElem?_eq_some_iff.1 hua;exact HNM.out i hi'
    have hsl:zab ((kids p).take (i+1))=zab ((kids p).take i)+a.size:=zbC (kids p) i a (List.getElem?_eq_some_iff.1 hua);have hsk:zab ((kids p).take (i+1))+1<=p.size:=by rw[zak p];exact Nat.succ_le_succ (za1 (kids p) (i+1))
    have hnx:=zhm vars bd (kids p) (kids t) (zbc vars bd p t r) i a b hua hub;have hcall:=ih a b bd (zaM vars bd ((kids p).take i) ((kids t).take i) (zbc vars bd p t r)) (c+1+3*zab ((kids p).take i)) S _ _ wr.drew (by have:=HN.out;omega) (by omega) (FD.out.keep (w':=wr.drew) rfl rfl rfl rfl (λ_ _=>rfl)) (hrd.keep (S':=S) (w':=wr.drew) (λ_ h=>h) (λ_ _=>rfl)) (hrd'.keep (S':=St) (w':=wr.drew) (λ_ h=>h) (λ_ _=>rfl))
     (λg hg=>⟨by have:=(HS.out g hg).1;show g<wr.heap.size;omega,(HS.out g hg).2⟩) (λg hg=>⟨by have:=(HST.out g hg).1;show g<wr.heap.size;omega,(HST.out g hg).2⟩) hna (by have:=HCB.out;omega)
    rw[<-hnx]at hcall
    have hce:c+1+3*zab ((kids p).take i)+3*a.size=c+1+3*zab ((kids p).take (i+1)):=by omega
    rw[hce]at hcall
    have HCALL:=hidE hcall;have hgl:=zbW e0;have hgl':=zbW f0;have hgS:=HS.out g hg;have hgT:=HST.out g' hg';have SOFL:Hid (∀W:World,(∀q,q<wr.heap.size->q≠cb->q≠mb->W.heap[q]?=wr.heap[q]?)->(λW:World=>W.cell? ⟨w.heap.size,0,none⟩=some (.pointer (some ⟨fp,0,none⟩))/\W.cell? ⟨w.heap.size+1,3,none⟩=some (.slice (some ⟨g,0,none⟩) m cp)/\W.cell? ⟨w.heap.size+1+1,3,none⟩=some (.slice (some ⟨g',0,none⟩) m2 cp2)/\W.cell? ⟨g,i*4,none⟩=some (.int .i64 K5)/\W.cell? ⟨g,i*4+1,none⟩=some (.string X5)/\W.cell? ⟨g,i*4+2,none⟩=some (.int .i64 Z5)/\W.cell? ⟨g,i*4+3,none⟩=some (.slice A5 n5 c5)/\W.cell? ⟨g',i*4,none⟩=some (.int .i64 K6)/\W.cell? ⟨g',i*4+1,none⟩=some (.string X6)/\W.cell? ⟨g',i*4+2,none⟩=some (.int .i64 Z6)/\W.cell? ⟨g',i*4+3,none⟩=some (.slice A6 n6 c6)) W):=hidE λW hW=>by
     have y0:=B0.out.chg CC.out (λh=>by omega);have y1:=B1.out.chg CC.out (λh=>by omega);have y2:=B2.out.chg CC.out (λh=>by omega);have x0:Blk W w.heap.size 143 #[.pointer (some ⟨fp,0,none⟩)]:=y0.same (hW _ (by omega) (by omega) (by omega));have x1:Blk W (w.heap.size+1) 26 #[.int .i64 K,.string X,.int .i64 Z,.slice (some ⟨g,0,none⟩) m cp]:=y1.same (hW _ (by omega) (by omega) (by omega));have x2:Blk W (w.heap.size+1+1) 26 #[.int .i64 K2,.string X2,.int .i64 Z2,.slice (some ⟨g',0,none⟩) m2 cp2]:=y2.same (hW _ (by omega) (by omega) (by omega));have kg:=hW g hgl hgS.2.1 hgS.2.2;have kg':=hW g' hgl' hgT.2.1 hgT.2.2;exact⟨x0.cell 0,x1.cell 3,x2.cell 3,(World.cell?_of_block (w:=wr) (a:=⟨g,i*4,none⟩) kg).trans e0,(World.cell?_of_block (w:=wr) (a:=⟨g,i*4+1,none⟩) kg).trans e1,(World.cell?_of_block (w:=wr) (a:=⟨g,i*4+2,none⟩) kg).trans e2,(World.cell?_of_block (w:=wr) (a:=⟨g,i*4+3,none⟩) kg).trans e3,
      (World.cell?_of_block (w:=wr) (a:=⟨g',i*4,none⟩) kg').trans f0,(World.cell?_of_block (w:=wr) (a:=⟨g',i*4+1,none⟩) kg').trans f1,(World.cell?_of_block (w:=wr) (a:=⟨g',i*4+2,none⟩) kg').trans f2,(World.cell?_of_block (w:=wr) (a:=⟨g',i*4+3,none⟩) kg').trans f3⟩
    have KW0:Hid (∀q,q<wr.heap.size->q≠cb->q≠mb->wr.drew.heap[q]?=wr.heap[q]?):=hidE (λ_ _ _ _=>rfl);clear hkS hkT hua hub hrd hrd' hna hnx hcall hce e0 e1 e2 e3 f0 f1 f2 f3 hsa hcwr hgl hgl' hgS hgT;go_wp2_with fail
    go_region_held3 (λW:World=>W.cell? ⟨w.heap.size,0,none⟩=some (.pointer (some ⟨fp,0,none⟩))/\W.cell? ⟨w.heap.size+1,3,none⟩=some (.slice (some ⟨g,0,none⟩) m cp)/\W.cell? ⟨w.heap.size+1+1,3,none⟩=some (.slice (some ⟨g',0,none⟩) m2 cp2)/\W.cell? ⟨g,i*4,none⟩=some (.int .i64 K5)/\W.cell? ⟨g,i*4+1,none⟩=some (.string X5)/\W.cell? ⟨g,i*4+2,none⟩=some (.int .i64 Z5)/\W.cell? ⟨g,i*4+3,none⟩=some (.slice A5 n5 c5)/\W.cell? ⟨g',i*4,none⟩=some (.int .i64 K6)/\W.cell? ⟨g',i*4+1,none⟩=some (.string X6)/\W.cell? ⟨g',i*4+2,none⟩=some (.int .i64 Z6)/\W.cell? ⟨g',i*4+3,none⟩=some (.slice A6 n6 c6)) (first|(with_reducible exact SOFL.out _ KW0.out)|(with_reducible exact SOFL.out _ KW1.out))
     ((first|((with_reducible refine HCALL.out.mono ?_);rintro e w5 ⟨rfl,fd5,c5'⟩;have KW1:Hid (∀q,q<wr.heap.size->q≠cb->q≠mb->w5.heap[q]?=wr.heap[q]?):=hidE (λq hq h1 h2=>c5'.block q hq (λh=>by rcases h with h|h;exact h1 h;exact h2 h));have FD5:=hidE fd5;have C5:=hidE c5';clear fd5 c5')))
    all_goals
     go_wp2_with fail
     go_roundg (mn-(i+1))
     case measure=>omega
     case rel=>exact⟨i+1,rfl,by go_num,by omega,FD5.out,CC.out.drew.trans C5.out⟩
   ·have hie:i=mn:=by omega
    subst hie;have hfe:=zfR vars bd (kids p) (kids t) (zbc vars bd p t r) i (by rw[HM.out,HM2.out];exact HMN.out.symm);have FDE:=FD;rw[hfe]at FDE
    have CR:=CC;clear hfe FD CC;go_wp2_with fail
    go_outline
    refine⟨_,results_none rfl _ _ _,rfl,?_,(HCW.out.trans CR.out)⟩;have h:=FDE.out;have h1:=(HFIN.out 0).1;rw[HDS.out]at h1
    rw[h1]at h
    exact h.mono (by have h2:=(HFIN.out (c+1)).2.2;have h3:=za1 (kids p) i;omega)
end Go.Proofs.YtaomnlcplmkokaaGreatDoor
namespace Go.Proofs.YtaomnlcplmkokaaGreatDoor
open Go.RowKit Lx Tx Go.Maps Go.WideMaps Go.Shelf
set_option maxRecDepth 100000
theorem zmr(n fp vb cb mb:Nat)(vars:List Name)(St:Nat->Prop)(hcf:cb≠fp)(hcv:cb≠vb)(hcm:cb≠mb)(ih:zjU n fp vb cb mb vars St)
  (p t:Ty)(bd:List Name)(r:List (Name × Ty))(c:Nat)(S:Nat->Prop)(v u:Value)(w:World)(hk5:kd p=5)(hn:p.size<=n+1)(h6:n<1000000)(hi:FdI fp vb cb mb vars bd St r c w)(hv:RdV S w p v)(hu:RdV St w t u)(hS:∀g,S g->g<w.heap.size/\g≠cb/\g≠mb)(hSt:∀g,St g->g<w.heap.size/\g≠cb/\g≠mb)(hnm:Nm p)(hc:c+3*p.size<=900000000):Calls Tryz.prog 61 #[.pointer (some ⟨fp,0,none⟩),v,u] w λe w'=>e=.returned (.tuple #[])/\FdI fp vb cb mb vars bd St (zaN vars bd p t r) (c+3*p.size) w'/\Chg (λg=>g=cb\/g=mb) w w':=by
 have hmf:∀(fn:Fn) (first cap:Array Value) (w:World),(Instr.makeFunc fn first cap).run Tryz.prog w=.ok (.func fn first cap) w:=λ_ _ _ _=>rfl;obtain⟨K,X,Z,A,m,cp,rfl,hK,hX,hZ,hm,ha⟩:=hv.parts;obtain⟨K2,X2,Z2,A2,m2,cp2,rfl,hK2,hX2,hZ2,hm2,ha2⟩:=hu.parts;have hX24:X.size<=maxLen:=by have:=zc4 hnm;rw[<-hX]at this;unfold maxLen;omega
 obtain⟨l0,l1,l2,ls,lb⟩:=zcs w (.cells #[.pointer (some ⟨fp,0,none⟩)] 143) (.cells #[.int .i64 K,.string X,.int .i64 Z,.slice A m cp] 26) (.cells #[.int .i64 K2,.string X2,.int .i64 Z2,.slice A2 m2 cp2] 26);obtain⟨W3,hW3⟩:∃W,((w.alloc (.cells #[.pointer (some ⟨fp,0,none⟩)] 143)).alloc (.cells #[.int .i64 K,.string X,.int .i64 Z,.slice A m cp] 26)).alloc (.cells #[.int .i64 K2,.string X2,.int .i64 Z2,.slice A2 m2 cp2] 26)=W:=⟨_,rfl⟩;rw[hW3]at l0 l1 l2 ls lb
 obtain⟨hfl,hvl,hcl,hml⟩:=hi.lts;have hi3:FdI fp vb cb mb vars bd St r c W3:=hi.below (λg hg=>(hSt g hg).1) lb;obtain⟨e0,e1,e2,e3,-⟩:=zaa (show Blk W3 (w.heap.size+1) 26 _ from l1);obtain⟨z0,-,-⟩:=zao (show Blk W3 w.heap.size 143 _ from l0);have f1:=Blk.cell hi3.fin 1;replace f1:W3.cell? ⟨fp,1,none⟩=some (.map (some cb)):=f1;have d1:((K:Int)==1)=false:=by rw[hK];exact kF _ 1 (by omega)
 have d5:((K:Int)==5)=true:=by rw[hK,hk5];rfl
 have hbx:X.data.toList=(nmB p).data.toList:=by rw[hX]
 have hfin:∀c',zaM vars (X.data.toList::bd) (kids p) (kids t) (zbc vars bd p t r)=zaN vars bd p t r/\c'+3*zab (kids p)+3=c'+3*p.size:=λc'=>⟨by rw[zhk vars bd p t r];unfold bdIn;rw[if_pos hk5,hbx],by rw[zak p];omega⟩;have hno:zbc vars bd p t r=r:=by
  unfold zbc;exact if_neg (λh=>by have:=h.1;omega)
 obtain⟨q2,qa1,qa2,qa3,qa4⟩:=hi3.cn;obtain⟨cnt,hcnt⟩:∃cnt,bd.count X.data.toList=cnt:=⟨_,rfl⟩;have hbl:cnt<=c:=by rw[<-hcnt];exact Nat.le_trans List.count_le_length qa4
 have hlk:=(qa1.keep (w':=W3.drew) rfl).get X hX24;rw[ziA,qa2,hcnt]at hlk
 replace hlk:(Instr.lookup 88 (.map (some cb)) (.string X) false).run Tryz.prog W3.drew=.ok (.int .i64 (cnt:Nat)) W3.drew:=hlk;have hwr:IntKind.i64.wrap ((cnt:Int)+1)=(cnt:Int)+1:=IntWalk.i64_in _ (by omega);obtain⟨w1,hrun,hm1,hg1⟩:=zh7 mkInt (w:=W3.drew) (qa1.keep (w':=W3.drew) rfl) (by omega) X hX24 (cnt+1) trivial;replace hrun:(Instr.mapUpdate 88 (.map (some cb)) (.string X) (.int .i64 ((cnt:Int)+1))).run Tryz.prog W3.drew=.ok () w1:=hrun;have hk1:∀g,g<W3.heap.size->g≠cb->w1.heap[g]?=W3.heap[g]?:=λg hg hne=>hg1.block g hg (λe=>by injection e with e;exact hne e);have hfi:FdI fp vb cb mb vars (X.data.toList::bd) St r (c+1) w1:=by
  obtain⟨q3,qb1,qb2,qb3⟩:=hi3.fo;exact⟨hi3.fin.same (hk1 fp (by omega) (λe=>hcf e.symm)),hi3.va.keep (hk1 vb (by omega) (λe=>hcv e.symm)),⟨_,hm1,ziz qa2 X.data.toList (cnt+1) (by rw[List.count_cons_self,hcnt]) (λx hx=>by rw[List.count_cons_of_ne (λe=>hx e.symm)]),by rw[List.length_cons];omega,by rw[List.length_cons];omega⟩,
   ⟨q3,qb1.keep (hk1 mb (by omega) (λe=>hcm e.symm)),RelV.keep (λ_ h=>h) (λg hg=>hk1 g (by have:=(hSt g hg).1;omega) (hSt g hg).2.1) _ _ qb2,by omega⟩⟩
 have b0:Blk w1 w.heap.size 143 #[.pointer (some ⟨fp,0,none⟩)]:=Blk.same (w:=W3) l0 (hk1 _ (by omega) (by omega));have b1:Blk w1 (w.heap.size+1) 26 #[.int .i64 K,.string X,.int .i64 Z,.slice A m cp]:=Blk.same (w:=W3) l1 (hk1 _ (by omega) (by omega));have b2:Blk w1 (w.heap.size+1+1) 26 #[.int .i64 K2,.string X2,.int .i64 Z2,.slice A2 m2 cp2]:=Blk.same (w:=W3) l2 (hk1 _ (by omega) (by omega));have hcw:Chg (λg=>g=cb\/g=mb) w w1:=(Chg.of_below lb).drew.grown (w:=W3.drew) hg1 (λj hj=>.inr (by injection hj with hj;exact .inl hj.symm));have HFI:Hid (FdI fp vb cb mb vars (X.data.toList::bd) St (zbc vars bd p t r) (c+1) w1):=hidE (by rw[hno];exact hfi);have HCW:=hidE hcw;have hszw:w.heap.size+3<=w1.heap.size:=by have:=hg1.size;have:W3.drew.heap.size=W3.heap.size:=rfl;omega
 have HS:=hidE hS;have HST:=hidE hSt;have HNM:Hid (∀i (hi:i<(kids p).length),Nm (kids p)[i]):=hidE λi hi=>zbu hnm i hi;have HM:=hidE hm;have HM2:=hidE hm2;have HA:=hidE ha;have HA2:=hidE ha2;have HX24:=hidE hX24;have HW3:=hidE hW3;have HFIN:=hidE hfin;have HN:=hidE hn;have HCB:=hidE hc;have HB0:=hidE b0;have HB1:=hidE b1;have HB2:=hidE b2;have hm6:m<=n:=by have:=zaW p;omega
 clear hv hu hS hSt hnm hK hX hZ hm ha hK2 hX2 hZ2 hm2 ha2 l0 l1 l2 ls lb hi hi3 hX24 hW3 hfin hn hc hno qa1 qa2 qa3 qa4 hcnt hm1 hg1 hk1 hfi b0 b1 b2 hcw hbx hk5;go_enter_defers Tryz.func61,Tryz.ntmps61
 go_upto_region 1 with fail
 rw[HW3.out]
 go_wp2_with fail
 go_region
 all_goals
  clear hlk hrun hwr e0 e1 e2 e3 z0 f1;have b0:=HB0.out;have b1:=HB1.out;have b2:=HB2.out;obtain⟨mn,hmn⟩:∃mn,min m m2=mn:=⟨_,rfl⟩;obtain⟨e0,e1,e2,e3,-⟩:=zaa b1;obtain⟨g0,g1,g2,g3,-⟩:=zaa b2;have B0:=hidE b0;have B1:=hidE b1;have B2:=hidE b2;have hmnM:mn<=m/\mn<=m2:=by omega
  have HMN:Hid (min m m2=mn):=hidE hmn;have hmni:min (m:Int) (m2:Int)=(mn:Int):=by omega
  clear b0 b1 b2 hmn;go_upto_block 1 with fail
  clear hmni e0 e1 e2 e3 g0 g1 g2 g3;go_wp2_with fail
  go_loopg [59] mn (λgg vi wr=>HeadFd fp vb cb mb vars (X.data.toList::bd) St (zbc vars bd p t r) (c+1) (kids p) (kids t) mn w1 gg vi wr)
  case atStart =>
   exact⟨0,rfl,rfl,Nat.zero_le _,by rw[List.take_zero,List.take_zero,zaM];exact HFI.out,Chg.refl _ _⟩
  case round =>
   obtain⟨i,rfl,rfl,hin,hfd,hc⟩:=hrel;have FD:=hidE hfd;have CC:=hidE hc;have hsz:=hc.size;clear hfd hc;by_cases hlt:i<mn
   ·have him:i<m:=by omega
    have him2:i<m2:=by omega
    have hcwr:=HCW.out.trans CC.out;have hkS:∀g,S g->wr.heap[g]?=w.heap[g]?:=λg hg=>hcwr.block g (HS.out g hg).1 (λh=>by rcases h with h|h;exact(HS.out g hg).2.1 h;exact(HS.out g hg).2.2 h);have hkT:∀g,St g->wr.heap[g]?=w.heap[g]?:=λg hg=>hcwr.block g (HST.out g hg).1 (λh=>by rcases h with h|h;exact(HST.out g hg).2.1 h;exact(HST.out g hg).2.2 h);obtain⟨g,a,K5,X5,Z5,A5,n5,c5,rfl,hg,e0,e1,e2,e3,hua,hrd,hsa⟩:=zaP HA.out HM.out (show i<m by omega) hkS;obtain⟨g',b,K6,X6,Z6,A6,n6,c6,rfl,hg',f0,f1,f2,f3,hub,hrd',-⟩:=zaP HA2.out HM2.out (show i<m2 by omega) hkT;have hna:Nm a:=by obtain⟨hi',rfl⟩:=List.getElem?_eq_some_iff.1 hua;exact HNM.out i hi'
    have hsl:zab ((kids p).take (i+1))=zab ((kids p).take i)+a.size:=zbC (kids p) i a (List.getElem?_eq_some_iff.1 hua);have hsk:zab ((kids p).take (i+1))+1<=p.size:=by rw[zak p];exact Nat.succ_le_succ (za1 (kids p) (i+1))
    have hnx:=zhm vars (X.data.toList::bd) (kids p) (kids t) (zbc vars bd p t r) i a b hua hub;have hcall:=ih a b (X.data.toList::bd) (zaM vars (X.data.toList::bd) ((kids p).take i) ((kids t).take i) (zbc vars bd p t r)) (c+1+3*zab ((kids p).take i)) S _ _ wr.drew (by have:=HN.out;omega) (by omega) (FD.out.keep (w':=wr.drew) rfl rfl rfl rfl (λ_ _=>rfl)) (hrd.keep (S':=S) (w':=wr.drew) (λ_ h=>h) (λ_ _=>rfl)) (hrd'.keep (S':=St) (w':=wr.drew) (λ_ h=>h) (λ_ _=>rfl))
     (λg hg=>⟨by have:=(HS.out g hg).1;show g<wr.heap.size;omega,(HS.out g hg).2⟩) (λg hg=>⟨by have:=(HST.out g hg).1;show g<wr.heap.size;omega,(HST.out g hg).2⟩) hna (by have:=HCB.out;omega)
    rw[<-hnx]at hcall
    have hce:c+1+3*zab ((kids p).take i)+3*a.size=c+1+3*zab ((kids p).take (i+1)):=by omega
    rw[hce]at hcall
    have HCALL:=hidE hcall;have hgl:=zbW e0;have hgl':=zbW f0;have hgS:=HS.out g hg;have hgT:=HST.out g' hg';have SOFL:Hid (∀W:World,(∀q,q<wr.heap.size->q≠cb->q≠mb->W.heap[q]?=wr.heap[q]?)->(λW:World=>W.cell? ⟨w.heap.size,0,none⟩=some (.pointer (some ⟨fp,0,none⟩))/\W.cell? ⟨w.heap.size+1,3,none⟩=some (.slice (some ⟨g,0,none⟩) m cp)/\W.cell? ⟨w.heap.size+1+1,3,none⟩=some (.slice (some ⟨g',0,none⟩) m2 cp2)/\W.cell? ⟨g,i*4,none⟩=some (.int .i64 K5)/\W.cell? ⟨g,i*4+1,none⟩=some (.string X5)/\W.cell? ⟨g,i*4+2,none⟩=some (.int .i64 Z5)/\W.cell? ⟨g,i*4+3,none⟩=some (.slice A5 n5 c5)/\W.cell? ⟨g',i*4,none⟩=some (.int .i64 K6)/\W.cell? ⟨g',i*4+1,none⟩=some (.string X6)/\W.cell? ⟨g',i*4+2,none⟩=some (.int .i64 Z6)/\W.cell? ⟨g',i*4+3,none⟩=some (.slice A6 n6 c6)) W):=hidE λW hW=>by
     have y0:=B0.out.chg CC.out (λh=>by omega);have y1:=B1.out.chg CC.out (λh=>by omega);have y2:=B2.out.chg CC.out (λh=>by omega);have x0:Blk W w.heap.size 143 #[.pointer (some ⟨fp,0,none⟩)]:=y0.same (hW _ (by omega) (by omega) (by omega));have x1:Blk W (w.heap.size+1) 26 #[.int .i64 K,.string X,.int .i64 Z,.slice (some ⟨g,0,none⟩) m cp]:=y1.same (hW _ (by omega) (by omega) (by omega));have x2:Blk W (w.heap.size+1+1) 26 #[.int .i64 K2,.string X2,.int .i64 Z2,.slice (some ⟨g',0,none⟩) m2 cp2]:=y2.same (hW _ (by omega) (by omega) (by omega));have kg:=hW g hgl hgS.2.1 hgS.2.2;have kg':=hW g' hgl' hgT.2.1 hgT.2.2;exact⟨x0.cell 0,x1.cell 3,x2.cell 3,(World.cell?_of_block (w:=wr) (a:=⟨g,i*4,none⟩) kg).trans e0,(World.cell?_of_block (w:=wr) (a:=⟨g,i*4+1,none⟩) kg).trans e1,(World.cell?_of_block (w:=wr) (a:=⟨g,i*4+2,none⟩) kg).trans e2,(World.cell?_of_block (w:=wr) (a:=⟨g,i*4+3,none⟩) kg).trans e3,
      (World.cell?_of_block (w:=wr) (a:=⟨g',i*4,none⟩) kg').trans f0,(World.cell?_of_block (w:=wr) (a:=⟨g',i*4+1,none⟩) kg').trans f1,(World.cell?_of_block (w:=wr) (a:=⟨g',i*4+2,none⟩) kg').trans f2,(World.cell?_of_block (w:=wr) (a:=⟨g',i*4+3,none⟩) kg').trans f3⟩
    have KW0:Hid (∀q,q<wr.heap.size->q≠cb->q≠mb->wr.drew.heap[q]?=wr.heap[q]?):=hidE (λ_ _ _ _=>rfl);clear hkS hkT hua hub hrd hrd' hna hnx hcall hce e0 e1 e2 e3 f0 f1 f2 f3 hsa hcwr hgl hgl' hgS hgT;go_wp2_with fail
    go_region_held3 (λW:World=>W.cell? ⟨w.heap.size,0,none⟩=some (.pointer (some ⟨fp,0,none⟩))/\W.cell? ⟨w.heap.size+1,3,none⟩=some (.slice (some ⟨g,0,none⟩) m cp)/\W.cell? ⟨w.heap.size+1+1,3,none⟩=some (.slice (some ⟨g',0,none⟩) m2 cp2)/\W.cell? ⟨g,i*4,none⟩=some (.int .i64 K5)/\W.cell? ⟨g,i*4+1,none⟩=some (.string X5)/\W.cell? ⟨g,i*4+2,none⟩=some (.int .i64 Z5)/\W.cell? ⟨g,i*4+3,none⟩=some (.slice A5 n5 c5)/\W.cell? ⟨g',i*4,none⟩=some (.int .i64 K6)/\W.cell? ⟨g',i*4+1,none⟩=some (.string X6)/\W.cell? ⟨g',i*4+2,none⟩=some (.int .i64 Z6)/\W.cell? ⟨g',i*4+3,none⟩=some (.slice A6 n6 c6)) (first|(with_reducible exact SOFL.out _ KW0.out)|(with_reducible exact SOFL.out _ KW1.out))
     ((first|((with_reducible refine HCALL.out.mono ?_);rintro e w5 ⟨rfl,fd5,c5'⟩;have KW1:Hid (∀q,q<wr.heap.size->q≠cb->q≠mb->w5.heap[q]?=wr.heap[q]?):=hidE (λq hq h1 h2=>c5'.block q hq (λh=>by rcases h with h|h;exact h1 h;exact h2 h));have FD5:=hidE fd5;have C5:=hidE c5';clear fd5 c5')))
    all_goals
     go_wp2_with fail
     go_roundg (mn-(i+1))
     case measure=>omega
     case rel=>exact⟨i+1,rfl,by go_num,by omega,FD5.out,CC.out.drew.trans C5.out⟩
   ·have hie:i=mn:=by omega
    subst hie;have hfe:=zfR vars (X.data.toList::bd) (kids p) (kids t) (zbc vars bd p t r) i (by rw[HM.out,HM2.out];exact HMN.out.symm);have FDE:=FD;rw[hfe]at FDE
    have CR:=CC;clear hfe FD CC;go_wp2_with fail
    have hsl:=za1 (kids p) i;have hcb:=HCB.out;have hfc:=(HFIN.out c).2;refine leaves_cons (f:=86) (args:=#[.pointer (some ⟨w.heap.size,0,none⟩),.pointer (some ⟨w.heap.size+1,0,none⟩)]) (by simp) (by simp[go_sem]) ?_;refine(zpN fp vb cb mb w.heap.size (w.heap.size+1) vars bd St _ _ K Z X A m cp .returning wr FDE.out (B0.out.chg CR.out (λh=>by omega)) (B1.out.chg CR.out (λh=>by omega)) HX24.out (by omega) (λg hg=>by have:=(HST.out g hg).1;omega) (λh=>(HST.out cb h).2.1 rfl) hcf hcv hcm).mono ?_;rintro e u' w8 ⟨rfl,rfl,fd8,c8⟩;refine⟨_,results_none rfl _ _ _,rfl,?_,(HCW.out.trans CR.out).trans' c8 (λg _ h=>.inl h)⟩;rw[(HFIN.out 0).1]at fd8
    exact fd8.mono (by omega)
set_option maxRecDepth 100000
theorem zc5(a:Addr)(n:Nat):(a.add n).block=a.block:=by unfold Addr.add;split <;> rfl
theorem znX {w w':World} {a:Addr}(h:w'.heap[a.block]?=w.heap[a.block]?)(i:Nat):w'.cell? (a.add i)=w.cell? (a.add i) :=
 World.cell?_of_block (w:=w) (a:=a.add i) (by rw[zc5];exact h)
def RowA(w:World)(v:Value)(l:List Value):Prop :=
 ∃A c,v=.slice A l.length c/\(0<l.length->∃a,A=some a/\a.block<w.heap.size/\∀j u,l[j]?=some u->w.cell? (a.add j)=some u)
theorem RowV.toA {w:World} {v:Value} {l:List Value}(h:RowV w v l):RowA w v l:=by
 obtain⟨A,c,h1,h2⟩:=h;refine⟨A,c,h1,λhp=>?_⟩;obtain⟨g,h3,h4,h5⟩:=h2 hp;refine⟨⟨g,0,none⟩,h3,h4,λj u hu=>?_⟩;have hadd:(⟨g,0,none⟩:Addr).add j=⟨g,j,none⟩:=by unfold Addr.add;split <;> simp_all
 rw[hadd]
 exact h5 j u hu
theorem RowA.below {w w':World} {v:Value} {l:List Value}(h:RowA w v l)(hb:Below w.heap.size w w'):RowA w' v l:=by
 obtain⟨A,c,h1,h2⟩:=h;refine⟨A,c,h1,λhp=>?_⟩;obtain⟨a,h3,h4,h5⟩:=h2 hp;exact⟨a,h3,Nat.lt_of_lt_of_le h4 hb.size,λj u hu=>(hb.cell (p:=a.add j) (by rw[zc5];exact h4)).trans (h5 j u hu)⟩
def zrn(w:World)(g:Nat)(L:List (List Name)):Prop :=
 ∀j (hj:j<L.length),∃A cp,w.cell? ⟨g,j,none⟩=some (.slice A L[j].length cp)/\RowA w (.slice A L[j].length cp) (strV L[j])
theorem zpP(L:List (List Name))(g c:Nat)(w:World)(h:zrn w g L)(hg:g<w.heap.size)(hl:∀x∈L.flatten,x.length<=maxLen)(hlen:L.flatten.length<=10000000)(hL:L.length<=1000):Calls Tryz.prog 39 #[.slice (some ⟨g,0,none⟩) L.length c] w λe w'=>e=.returned (.map (some w.heap.size))/\MapE mkSet w' w.heap.size (units L.flatten)/\Below w.heap.size w w':=by
 have hmm:∀w,(Instr.makeMap 77 none).run Tryz.prog w=.ok (.map (some w.heap.size)) (w.alloc (.map #[] 0)):=λ_=>rfl;have H:=hidE h;have HL:=hidE hl;have HF:=hidE hlen;obtain⟨n,hn⟩:∃n,L.length=n:=⟨_,rfl⟩;have HN:=hidE hn;rw[hn]at hL ⊢
 clear h hl hn hlen;go_enter Tryz.func39,Tryz.ntmps39
 go_wp2_with fail
 go_loopg [11] n (λgg vi wr=>zoX w.heap.size L (w.alloc (.map #[] 0)) gg vi wr)
 case atStart =>
  exact⟨0,rfl,by rw[HN.out];omega,Nat.zero_le _,by rw[List.take_zero];exact MapE.made mkSet w,Chg.refl _ _⟩
 case round =>
  obtain⟨j,rfl,hgg,hj,hm,hc⟩:=hrel;have HM:=hidE hm;have HC:=hidE hc;rw[HN.out]at hgg hj
  clear hm hc;by_cases hjn:j<n
  ·have hj':j<L.length:=by rw[HN.out];exact hjn
   obtain⟨A,cp,hcell,hrow⟩:=H.out j hj';have hgw:wr.heap[g]?=w.heap[g]?:=(HC.out.block g (by simp;omega) (by unfold only;omega)).trans (Below.heap_alloc _ _ _ hg);have hx0:wr.cell? ⟨g,j,none⟩=some (.slice A L[j].length cp):=(World.cell?_of_block (w:=w) (a:=⟨g,j,none⟩) hgw).trans hcell;obtain⟨m,hm⟩:∃m,L[j].length=m:=⟨_,rfl⟩;have hmb:m<=10000000:=by have:=zfr L j m hj';have:=HF.out;rw[List.length_append,List.length_take,hm]at *;omega
   have HMM:=hidE hm;have HR:=hidE hrow;rw[hm]at hx0
   have gk_old:=hgg;clear hcell hgw hrow hm;go_wp2_with fail
   go_loopg [17] m (λgg vi wr'=>zq9 w.heap.size (L.take j).flatten L[j] (w.alloc (.map #[] 0)) gg vi wr')
   case atStart =>
    exact⟨0,rfl,by rw[HMM.out];omega,Nat.zero_le _,by rw[List.take_zero,List.append_nil];exact HM.out,HC.out⟩
   case round =>
    obtain⟨i,rfl,hgi,hi,hm2,hc2⟩:=hrel;have HM2:=hidE hm2;have HC2:=hidE hc2;rw[HMM.out]at hgi hi
    clear hm2 hc2;by_cases hlt:i<m
    ·have hlt':i<L[j].length:=by rw[HMM.out];exact hlt
     obtain⟨A',c',hv,hp⟩:=HR.out;obtain⟨a2,hA',hg2,hcl⟩:=hp (by rw[zaJ];omega);injection hv with hv _ hv2;rw[hA']at hv
     subst hv;have hgw2:=(HC2.out.block a2.block (by simp;omega) (by unfold only;omega)).trans (Below.heap_alloc w (.map #[] 0) a2.block hg2);obtain⟨y,hy⟩:∃y,L[j][i]=y:=⟨_,rfl⟩;have hx:=hcl i _ (zha L[j] i hlt');rw[<-znX hgw2 i]at hx
     have hX24:L[j][i].length<=maxLen:=HL.out _ (List.mem_flatten.2 ⟨_,List.getElem_mem hj',List.getElem_mem hlt'⟩);have HTK:Hid (L[j].take (i+1)=L[j].take i++[y]):=hidE (by rw[List.take_succ_eq_append_getElem hlt',hy]);rw[hy]at hx hX24
     clear hy;obtain⟨X,hX⟩:∃X:ByteArray,(⟨y.toArray⟩:ByteArray)=X:=⟨_,rfl⟩;have HXL:Hid (X.data.toList=y):=hidE (by rw[<-hX]);have HX:Hid (X.size<=maxLen):=hidE (by rw[<-hX];show y.toArray.size<=maxLen;rw[List.size_toArray];exact hX24);have HUL:Hid ((units ((L.take j).flatten++L[j].take i)).length<1000000000):=hidE (by have:=zfr L j i hj';have:=HF.out;unfold units;rw[List.length_map,List.length_reverse];omega);rw[hX]at hx
     clear hcl hgw2 hX hp hA' hv2 hlt' hX24;go_wp2_with (at_mapUpdate;refine zb5 mkSet _ rfl _ _ _ rfl w.heap.size (units ((L.take j).flatten++L[j].take i)) rfl HM2.out HUL.out X HX.out rfl () trivial rfl ?_;intro w1 hm1 hg1;have HM1:=hidE hm1;have HG1:=hidE hg1;clear hm1 hg1)
     go_roundg (m-(i+1))
     case measure=>omega
     case rel =>
      refine⟨i+1,by go_num,by rw[HMM.out],by rw[HMM.out];omega,?_,HC2.out.grown HG1.out (λk hk=>.inr (by injection hk with hk;exact hk.symm))⟩;rw[HTK.out,<-List.append_assoc,zdQ,<-HXL.out]
      exact HM1.out
    ·have hend:L[j].take i=L[j]:=List.take_of_length_le (by rw[HMM.out];omega)
     have HE:=hidE hend;clear hend;go_wp2_with fail
     go_roundg (n-(j+1))
     case measure=>omega
     case rel =>
      refine⟨j+1,by go_num,by rw[HN.out],by rw[HN.out];omega,?_,HC2.out⟩;have:=HM2.out;rw[HE.out]at this
      rw[zgd L j hj']
      exact this
  ·have hend:L.take j=L:=List.take_of_length_le (by have:=HN.out;omega)
   have HE:=hidE hend;clear hend;go_wp2_with fail
   go_ret
   refine⟨rfl,by have:=HM.out;rw[HE.out]at this;exact this,((Below.refl _ w).alloc (Nat.le_refl _) _).trans (HC.out.toBelow (by simp) (λk hk h=>by unfold only at h;omega))⟩
set_option maxRecDepth 100000
theorem zjW(fp vb cb mb:Nat)(vars:List Name)(St:Nat->Prop)(hcf:cb≠fp)(hcv:cb≠vb)(hcm:cb≠mb)(hmf:mb≠fp)(hmv:mb≠vb):∀n,zjU n fp vb cb mb vars St
 |0=>λp t bd r c S v u w hn _ _ _ _ _ _ _ _=>by rw[zak]at hn;omega
 |n+1=>λp t bd r c S v u w hn h6 hi hv hu hS hSt hnm hc=>by
  have ih:=zjW fp vb cb mb vars St hcf hcv hcm hmf hmv n;by_cases h5:kd p=5
  ·exact zmr n fp vb cb mb vars St hcf hcv hcm ih p t bd r c S v u w h5 hn (by omega) hi hv hu hS hSt hnm hc
  ·exact zjV n fp vb cb mb vars St hcm hmf hmv ih p t bd r c S v u w h5 hn (by omega) hi hv hu hS hSt hnm hc
theorem zms(L:List Name)(A1:Option Addr)(n c1:Nat)(w1:World)(hrv:RowA w1 (.slice A1 n c1) (strV L))(hn:L.length=n)(hl:∀x∈L,x.length<=maxLen)(hs:L.length<=10000000):Calls Tryz.prog 39 #[.slice (some ⟨w1.heap.size,0,none⟩) 1 1] (w1.alloc (.cells #[.slice A1 n c1] 22)) λe w'=>e=.returned (.map (some (w1.heap.size+1)))/\MapE mkSet w' (w1.heap.size+1) (units L)/\Below (w1.heap.size+1) (w1.alloc (.cells #[.slice A1 n c1] 22)) w':=by
 have h:=zpP [L] w1.heap.size 1 (w1.alloc (.cells #[.slice A1 n c1] 22)) (λj hj=>by
  have hj0:j=0:=by simp at hj;omega
  subst hj0;refine⟨A1,c1,?_,?_⟩
  ·have:=Blk.cell (heap_alloc_new w1 (.cells #[.slice A1 n c1] 22)) 0
   rw[<-hn]at this ⊢
   exact this
  ·show RowA _ (.slice A1 L.length c1) _
   rw[hn]
   exact hrv.below ((Below.refl _ w1).alloc (Nat.le_refl _) _)) (by simp) (by intro x hx;exact hl x (by simpa using hx)) (by simpa using hs) (by simp)
 simp only[List.flatten_cons,List.flatten_nil,List.append_nil,size_alloc]at h;exact h
def FndPst(vars:List Name)(p t:Ty)(St:Nat->Prop)(w:World)(e:Ending)(w':World):Prop :=
 ∃mb q,e=.returned (.map (some mb))/\w.heap.size<=mb/\MapE mkVal w' mb q/\RelV St w' (zaN vars [] p t []) q/\q.length<=3*p.size/\Below w.heap.size w w'
theorem zpO(p t:Ty)(vars:List Name)(S St:Nat->Prop)(v u:Value)(A1:Option Addr)(nv cv:Nat)(w:World)(hv:RdV S w p v)(hu:RdV St w t u)(hS:∀g,S g->g<w.heap.size)(hSt:∀g,St g->g<w.heap.size)(hvs:RowA w (.slice A1 nv cv) (strV vars))(hnv:vars.length=nv)(hl:∀x∈vars,x.length<=maxLen)(hvl:nv<=10000000)(hnm:Nm p)(hsz:p.size<=1000000):Calls Tryz.prog 30 #[v,u,.slice A1 nv cv] w (FndPst vars p t St w):=by
 obtain⟨K,X,Z,A,m,cp,rfl,-,-,-,-,-⟩:=hv.parts;obtain⟨K2,X2,Z2,A2,m2,cp2,rfl,-,-,-,-,-⟩:=hu.parts;have hm1:∀w,(Instr.makeMap 88 none).run Tryz.prog w=.ok (.map (some w.heap.size)) (w.alloc (.map #[] 0)):=λ_=>rfl;have hm2:∀w,(Instr.makeMap 65 none).run Tryz.prog w=.ok (.map (some w.heap.size)) (w.alloc (.map #[] 0)):=λ_=>rfl;obtain⟨l0,l1,ls,lb⟩:=za8 w (.cells #[.int .i64 K,.string X,.int .i64 Z,.slice A m cp] 26) (.cells #[.int .i64 K2,.string X2,.int .i64 Z2,.slice A2 m2 cp2] 26);obtain⟨W2,hW2⟩:∃W,(w.alloc (.cells #[.int .i64 K,.string X,.int .i64 Z,.slice A m cp] 26)).alloc (.cells #[.int .i64 K2,.string X2,.int .i64 Z2,.slice A2 m2 cp2] 26)=W:=⟨_,rfl⟩;rw[hW2]at l0 l1 ls lb
 have hset:=zms vars A1 nv cv W2 (hvs.below lb) hnv hl (by omega);have L0:=hidE l0;have L1:Hid (Blk W2 (w.heap.size+1) 26 #[.int .i64 K2,.string X2,.int .i64 Z2,.slice A2 m2 cp2]):=hidE l1;have LS:=hidE ls;have LB:=hidE lb;have HSET:=hidE hset;have HW2:=hidE hW2;have HV:=hidE hv;have HU:=hidE hu;have HS:=hidE hS;have HST:=hidE hSt;have HNM:=hidE hnm;clear hv hu hS hSt hvs hnv hl hnm l0 l1 ls lb hset hW2;go_enter Tryz.func30,Tryz.ntmps30
 go_upto_region 1 with fail
 rw[HW2.out]
 go_wp2_with fail
 refine HSET.out.mono ?_;rintro e w3 ⟨rfl,hm3,b3⟩;have hs3:=b3.size;simp only[size_alloc]at hs3;have hls:=LS.out;have b3':Below W2.heap.size W2 w3:=((Below.refl _ W2).alloc (Nat.le_refl _) _).trans (b3.mono (Nat.le_succ _));have HM3:=hidE hm3;have B3:=hidE b3';clear hm3 b3 b3' HSET hls;go_upto_region 2 with fail
 obtain⟨q0,q1,q2,qs,qb⟩:=zcs w3 (.map #[] 0) (.map #[] 0) (.cells #[.map (some (W2.heap.size+1)),.map (some w3.heap.size),.map (some (w3.heap.size+1))] 109);obtain⟨V,hV⟩:∃V,((w3.alloc (.map #[] 0)).alloc (.map #[] 0)).alloc (.cells #[.map (some (W2.heap.size+1)),.map (some w3.heap.size),.map (some (w3.heap.size+1))] 109)=V:=⟨_,rfl⟩;rw[hV]at q0 q1 q2 qs qb
 rw[hV]
 have hls:=LS.out;have hsw3:=B3.out.size;have hbV:Below W2.heap.size W2 V:=B3.out.trans (qb.mono (by omega));have hwV:Below w.heap.size w V:=LB.out.trans (hbV.mono (by omega));have h0:Blk V w.heap.size 26 #[.int .i64 K,.string X,.int .i64 Z,.slice A m cp]:=Blk.below (w:=W2) L0.out hbV (by omega);have h1:Blk V (w.heap.size+1) 26 #[.int .i64 K2,.string X2,.int .i64 Z2,.slice A2 m2 cp2]:=Blk.below (w:=W2) L1.out hbV (by omega);have hm3l:=HM3.out.lt;have hfi:FdI (w3.heap.size+1+1) (W2.heap.size+1) w3.heap.size (w3.heap.size+1) vars [] St [] 0 V :=
  ⟨q2,HM3.out.keep (qb.block _ hm3l),⟨[],MapE.laid mkInt q0,λ_=>rfl,Nat.le_refl _,Nat.le_refl _⟩,⟨[],MapE.laid mkVal q1,trivial,Nat.le_refl _⟩⟩
 have hcall:=zjW (w3.heap.size+1+1) (W2.heap.size+1) w3.heap.size (w3.heap.size+1) vars St (by omega) (by omega) (by omega) (by omega) (by omega) p.size p t [] [] 0 S _ _ V (Nat.le_refl _) hsz hfi (HV.out.keep (S':=S) (w':=V) (λ_ h=>h) (λg hg=>hwV.block g (HS.out g hg))) (HU.out.keep (S':=St) (w':=V) (λ_ h=>h) (λg hg=>hwV.block g (HST.out g hg)))
  (λg hg=>by have:=HS.out g hg;omega) (λg hg=>by have:=HST.out g hg;omega) HNM.out (by omega)
 obtain⟨e0,e1,e2,e3,-⟩:=zaa h0;obtain⟨g0,g1,g2,g3,-⟩:=zaa h1;have HCALL:=hidE hcall;have HWV:=hidE hwV;have HQS:=hidE qs;clear hcall hfi h0 h1 hbV hwV hm3l hV q0 q1 q2 qs qb hls;go_wp2_with fail
 refine HCALL.out.mono ?_;rintro e w5 ⟨rfl,fd5,c5⟩;have x2:=Blk.cell fd5.fin 2;replace x2:w5.cell? ⟨w3.heap.size+1+1,2,none⟩=some (.map (some (w3.heap.size+1))):=x2;have FD5:=hidE fd5;have C5:=hidE c5;clear fd5 c5 HCALL e0 e1 e2 e3 g0 g1 g2 g3;go_wp2_with fail
 go_ret
 have hls:=LS.out;obtain⟨q,hq1,hq2,hq3⟩:=FD5.out.fo;exact⟨w3.heap.size+1,q,rfl,by omega,hq1,hq2,by omega,HWV.out.trans (C5.out.toBelow (B:=w.heap.size) (by have:=HQS.out;omega) (λk hk h=>by omega))⟩
end Go.Proofs.YtaomnlcplmkokaaGreatDoor
