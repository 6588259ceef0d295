/-
  Contracts of the code's functions, part 33.
-/
import Derived.Test.YtmbmjneibkihkaaGreatDoorDaAE
import Derived.Test.YtmbmjneibkihkaaGreatDoorDaK
import Derived.Test.YtmbmjneibkihkaaGreatDoorDaL
import Derived.Deep.CutRange
namespace Go.Proofs.YtmbmjneibkihkaaGreatDoor
open Go.RowKit Lx Tx Sx
set_option maxRecDepth 100000
theorem cns_kid(o:List Nm)(e:Ex)(i:Nat)(x:Ex)(hx:(kidsE e)[i]? = some x):addA (addA o (preC e++Sx.kF (λ_=>cns) e i)) (cns x)=addA o (preC e++Sx.kF (λ_=>cns) e (i+1)):=by
 rw[Sx.kF_snoc _ e i x hx,<-addA_append,List.append_assoc]
theorem cns_alt(o:List Nm)(e:Ex)(i:Nat)(a:Al)(ha:(altsE e)[i]? = some a):addA (addA o (preC e++(Sx.kF (λ_=>cns) e (kidsE e).length++((altsE e).take i).flatMap cns1))) (cns1 a)=addA o (preC e++(Sx.kF (λ_=>cns) e (kidsE e).length++((altsE e).take (i+1)).flatMap cns1)):=by
 rw[flat_snoc cns1 _ i a ha,<-addA_append,List.append_assoc,List.append_assoc]
theorem cns1_eq(a:Al):cns1 a=[alCn a]++cns (alB a):=by cases a;rfl
theorem preC_kid(e:Ex)(i:Nat)(k:Ex)(h:(kidsE e)[i]? = some k):preC e=[]:=by cases e <;> first|rfl|(simp[kidsE]at h)
theorem preC_len(e:Ex)(i:Nat)(k:Ex)(h:(kidsE e)[i]? = some k):(preC e).length+(Sx.kF (λ_=>cns) e i).length+k.wt<=e.wt:=by
 have:=kid_wt2 (λ_=>cns) (λ_=>cns_wt) e i k h
 rw[preC_kid e i k h,List.length_nil]
 omega
theorem preC_alt(e:Ex)(i:Nat)(a:Al)(h:(altsE e)[i]? = some a):preC e=[]:=by cases e <;> first|rfl|(simp[altsE]at h)
def CnOK(n:Nat):Prop:=∀(e:Ex)(S:Nat->Prop)(v vo:Value)(o:List Nm)(w:World),e.size<=n->RdX S w e v->(∀g,S g->g<w.heap.size)->RowV w vo (Go.Proofs.YtmbmjneibkihkaaGreatDoor.strV o)->o.length+e.wt<=500000 ->
 Calls Tryz.prog 70 #[v,vo] w λen w'=>∃v',en=.returned v'/\RowV w' v' (Go.Proofs.YtmbmjneibkihkaaGreatDoor.strV (addA o (cns e)))/\Below w.heap.size w w'
set_option maxHeartbeats 12800000 in
theorem d9_cons_step(n:Nat)(IH:CnOK n)(e:Ex)(S:Nat->Prop)(v vo:Value)(o:List Nm)(w:World)(hsz:e.size<=n+1)(hv:RdX S w e v)(hS:∀g,S g->g<w.heap.size)(ho:RowV w vo (Go.Proofs.YtmbmjneibkihkaaGreatDoor.strV o))(hol:o.length+e.wt<=500000) :
  Calls Tryz.prog 70 #[v,vo] w λen w'=>∃v',en=.returned v'/\RowV w' v' (Go.Proofs.YtmbmjneibkihkaaGreatDoor.strV (addA o (cns e)))/\Below w.heap.size w w':=by
 obtain⟨K,X,Z,A0,m,q,KA,kc,LA,lc,rfl,hin⟩:=hv.shape
 obtain⟨kd,hkd⟩:∃x,kdE e=x:=⟨_,rfl⟩
 obtain⟨Y,hY⟩:∃Y:ByteArray,⟨(nmE e).toArray⟩=Y:=⟨_,rfl⟩
 obtain⟨td,htd⟩:∃x,toE e=x:=⟨_,rfl⟩
 obtain⟨kn,hkn⟩:∃x,(kidsE e).length=x:=⟨_,rfl⟩
 obtain⟨ln,hln⟩:∃x,(altsE e).length=x:=⟨_,rfl⟩
 obtain⟨q2,hq2⟩:∃q,decide (kdE e=2)=q:=⟨_,rfl⟩
 have d2:((kd:Int)==2)=q2:=by rw[<-hkd,<-hq2];exact kdE_int e 2
 have hpre:preC e=if q2=true then[Y.data.toList] else[]:=by
  rw[<-hq2,<-hY]
  cases e <;> simp[preC,kdE,nmE]
 have hall:=cns_all e
 rw[hkd,hY,htd,hkn,hln]
 rw[hkn]at hall
 obtain⟨W0,hW0⟩:∃W,w.alloc (.cells #[.int .i64 (kd:Nat),.string Y,.bool td,.int .i64 K,.string X,.int .i64 Z,.slice A0 m q,.slice KA kn kc,.slice LA ln lc] 48)=W:=⟨_,rfl⟩
 have hlw:Below w.heap.size w W0:=hW0▸(Below.refl _ w).alloc (Nat.le_refl _) _
 have hs0:w.heap.size+1<=W0.heap.size/\W0.heap.size<=w.heap.size+1:=by rw[<-hW0];simp
 have hbk:Blk W0 w.heap.size 48 #[.int .i64 (kd:Nat),.string Y,.bool td,.int .i64 K,.string X,.int .i64 Z,.slice A0 m q,.slice KA kn kc,.slice LA ln lc]:=hW0▸heap_alloc_new _ _
 have hwt1:1<=e.wt:=wt_pos e
 have HO:=hidE (ho.below hlw)
 have HAD:=hidE (d9_add vo o Y W0 (ho.below hlw) (by omega))
 have HLW:=hidE hlw
 have HBX:=hidE hbk
 have HIN:=hidE hin
 have HS:=hidE hS
 have HKN:=hidE hkn
 have HLN:=hidE hln
 have HIH:=hidE IH
 have HN:=hidE (And.intro hsz hol)
 have HPRE:=hidE hpre
 have HALL:=hidE hall
 have hkn2:kn<=2:=by rw[<-hkn];cases e <;> simp[kidsE]
 have hln5:ln<=500000:=by
  have:∀l:List Al,l.length<=wtA l:=λl=>by
   induction l with
   | nil=>exact Nat.zero_le _
   | cons a r ih=>cases a;simp only[wtA,Al.wt,List.length_cons];omega
  rw[<-hln]
  cases e with
  | cs e l=>have:=this l;simp only[altsE,Ex.wt]at *;omega
  | _=>simp[altsE]
 obtain⟨⟨f0,f1,f2,f3,f4,f5,f6,f7,f8⟩,-,hlt0⟩:=blk_facts9 hbk
 clear ho hin hS hkn hln IH hsz hol hkd hq2 hY htd hv hlw hbk hpre hall
 go_enter Tryz.func70,Tryz.ntmps70
 go_upto_if 9 with fail
 try rw[hW0]
 clear hW0
 go_cut [1] from 10 to 13 (λs1 wx=>Hid (RowV wx s1 (Go.Proofs.YtmbmjneibkihkaaGreatDoor.strV (addA o (preC e))))/\Hid (Below W0.heap.size W0 wx))
 case first =>
  cases q2 with
  | true =>
   go_wp2_with fail
   refine HAD.out.mono ?_
   rintro en w2 ⟨v2,rfl,h2,b2⟩
   have H2:=hidE h2
   have B2:=hidE b2
   clear h2 b2
   go_wp2_with fail
   go_meet
   case rel=>exact⟨hidE (by rw[HPRE.out];exact H2.out),B2⟩
  | false =>
   go_wp2_with fail
   go_meet
   case rel=>exact⟨hidE (by rw[HPRE.out];exact HO.out),hidE (Below.refl _ _)⟩
 case rest =>
  obtain⟨hU0,hB0⟩:=hcut
  have HU0:Hid (RowV wc u1 (Go.Proofs.YtmbmjneibkihkaaGreatDoor.strV (addA o (preC e++Sx.kF (λ_=>cns) e 0)))):=hidE (by rw[Sx.kF,List.append_nil];exact hU0.out)
  clear hU0 f0 f1 f2 f3 f4 f5 f6 f7 f8 HAD
  go_wp2_with fail
  go_loopg [1,5] kn (λgg vu vi wr=>∃i:Nat,gg=kn-i/\vi=.int .i64 (i:Nat)/\i<=kn/\Hid (RowV wr vu (Go.Proofs.YtmbmjneibkihkaaGreatDoor.strV (addA o (preC e++Sx.kF (λ_=>cns) e i))))/\Hid (Below W0.heap.size W0 wr))
  case atStart=>exact⟨0,rfl,rfl,by omega,HU0,hB0⟩
  case round =>
   obtain⟨i,rfl,rfl,hi,hU,hBe⟩:=hrel
   have hsr:=hBe.out.size
   obtain⟨⟨f0,f1,f2,f3,f4,f5,f6,f7,f8⟩,-,hlw⟩:=blk_facts9 (HBX.out.below hBe.out (by omega))
   by_cases hlt:i<kn
   ·obtain⟨x,hx⟩:∃x,(kidsE e)[i]? = some x:=⟨_,List.getElem?_eq_getElem (by rw[HKN.out];exact hlt)⟩
    obtain⟨g,rfl,hSg,hat⟩:=HIN.out.kid i x hx
    have hkeep:∀g,S g->wr.heap[g]? = w.heap[g]?:=λg hg=>(hBe.out.block g (by have:=HS.out g hg;omega)).trans (HLW.out.block g (HS.out g hg))
    obtain⟨k1,x1,t1,K1,X1,Z1,B1,m1,q1,KA1,kn1,kc1,LA1,ln1,lc1,c0,c1,c2,c3,c4,c5,c6,c7,c8,hrd⟩:=(hat.keep (λ_ h=>h) hkeep (hkeep g hSg)).cells
    have hgl:=lt_cell c0
    have hw1:=preC_len e i x hx
    have hw2:=(kid_wt cns (λ_=>cns) (λ_ _=>Nat.le_refl _) cns_wt e i x hx).2
    have ii0:(0:Int)<=(i:Int):=by omega
    have ii1:(i:Int)<(kn:Int):=by omega
    have h1:=HIH.out x S _ u1 (addA o (preC e++Sx.kF (λ_=>cns) e i)) wr (by have:=HN.out.1;omega) hrd (λg hg=>by have:=HS.out g hg;omega) hU.out (by have:=addA_len (o:=o) (l:=preC e++Sx.kF (λ_=>cns) e i);rw[List.length_append]at this;have:=HN.out.2;omega)
    rw[cns_kid o e i x hx]at h1
    have HCALL:=hidE h1
    clear hx hSg hat hkeep hrd hw1 hw2 h1
    go_wp2_with fail
    refine HCALL.out.mono ?_
    rintro e' w2 ⟨v2,rfl,h2,b2⟩
    have H2:=hidE h2
    have HB2:=hidE (hBe.out.trans (b2.mono hsr))
    clear h2 b2 HCALL
    go_wp2_with fail
    go_roundg (kn-(i+1))
    case measure=>omega
    case rel=>exact⟨i+1,rfl,by go_num,by omega,H2,HB2⟩
   ·have hik:i=kn:=by omega
    subst hik
    clear f0 f1 f2 f3 f4 f5 f6
    have HUA:Hid (RowV wr u1 (Go.Proofs.YtmbmjneibkihkaaGreatDoor.strV (addA o (preC e++(Sx.kF (λ_=>cns) e (kidsE e).length++((altsE e).take 0).flatMap cns1))))):=hidE (by rw[List.take_zero,List.flatMap_nil,List.append_nil,HKN.out];exact hU.out)
    clear hU
    go_wp2_with fail
    go_loopg [1,6] ln (λgg vu vi wx=>∃j:Nat,gg=ln-j/\vi=.int .i64 (j:Nat)/\j<=ln/\Hid (RowV wx vu (Go.Proofs.YtmbmjneibkihkaaGreatDoor.strV (addA o (preC e++(Sx.kF (λ_=>cns) e (kidsE e).length++((altsE e).take j).flatMap cns1)))))/\Hid (Below W0.heap.size W0 wx))
    case atStart=>exact⟨0,rfl,rfl,by omega,HUA,hBe⟩
    case round =>
     obtain⟨j,rfl,rfl,hj,hU,hBx⟩:=hrel
     have hsx:=hBx.out.size
     have hlw:w.heap.size<wr.heap.size:=by omega
     have f8:=(HBX.out.below hBx.out (by omega)).cell 8
     replace f8:wr.cell? ⟨w.heap.size,8,none⟩=some (.slice LA ln lc):=f8
     by_cases hlt2:j<ln
     ·obtain⟨x,hx⟩:∃x,(altsE e)[j]? = some x:=⟨_,List.getElem?_eq_getElem (by rw[HLN.out];exact hlt2)⟩
      obtain⟨g,rfl,hSg,hat⟩:=HIN.out.alt j x hx
      have hkeep:∀g,S g->wr.heap[g]? = w.heap[g]?:=λg hg=>(hBx.out.block g (by have:=HS.out g hg;omega)).trans (HLW.out.block g (HS.out g hg))
      obtain⟨V,vv,a0,-,-,hbody⟩:=AlIn.cellsV (AlIn.keep (λ_ h=>h) hkeep x g _ (hkeep g hSg) hat)
      obtain⟨k1,x1,t1,K1,X1,Z1,B1,m1,q1,KA1,kn1,kc1,LA1,ln1,lc1,c0,c1,c2,c3,c4,c5,c6,c7,c8,hrd⟩:=hbody.cells
      have hgl:=lt_cell c0
      obtain⟨hw1,hw2⟩:=alt_wt cns (λ_=>cns) cns1 (λ_ _=>Nat.le_refl _) cns_wt cns1_wt e j x hx
      have hpa:=preC_alt e j x hx
      have ii0:(0:Int)<=(j:Int):=by omega
      have ii1:(j:Int)<(ln:Int):=by omega
      obtain⟨OL,hOL⟩:∃l,addA o (preC e++(Sx.kF (λ_=>cns) e (kidsE e).length++((altsE e).take j).flatMap cns1))=l:=⟨_,rfl⟩
      have hol:OL.length+1+(alB x).wt<=500000:=by
       have h5:=addA_len (o:=o) (l:=preC e++(Sx.kF (λ_=>cns) e (kidsE e).length++((altsE e).take j).flatMap cns1))
       rw[hOL,hpa,List.nil_append,List.length_append]at h5
       have:=HN.out.2
       omega
      obtain⟨C,hC⟩:∃C:ByteArray,⟨(alCn x).toArray⟩=C:=⟨_,rfl⟩
      have hC2:C.data.toList=alCn x:=by rw[<-hC]
      rw[hC]at a0
      rw[hOL]at hU
      have HADD:Hid (∀W,Below wr.heap.size wr W->Calls Tryz.prog 120 #[u1,.string C] W λen w'=>∃v',en=.returned v'/\RowV w' v' (Go.Proofs.YtmbmjneibkihkaaGreatDoor.strV (add1 OL C.data.toList))/\Below wr.heap.size wr w'):=hidE λW hb=>(d9_add u1 OL C W (hU.out.below hb) (by omega)).mono λen w' ⟨v',h1,h2,h3⟩=>⟨v',h1,h2,hb.trans (h3.mono hb.size)⟩
      have HCALL:Hid (∀(W:World) (v2:Value),Below wr.heap.size wr W->RowV W v2 (Go.Proofs.YtmbmjneibkihkaaGreatDoor.strV (add1 OL C.data.toList))->Calls Tryz.prog 70 #[.agg #[.int .i64 k1,.string x1,.bool t1,.int .i64 K1,.string X1,.int .i64 Z1,.slice B1 m1 q1,.slice KA1 kn1 kc1,.slice LA1 ln1 lc1],v2] W (λen w'=>∃v',en=.returned v'/\RowV w' v' (Go.Proofs.YtmbmjneibkihkaaGreatDoor.strV (addA o (preC e++(Sx.kF (λ_=>cns) e (kidsE e).length++((altsE e).take (j+1)).flatMap cns1))))/\Below wr.heap.size wr w')):=hidE λW v2 hbW hrow=>by
       have hl1:(add1 OL C.data.toList).length<=OL.length+1:=by unfold add1;split <;> simp
       have h1:=HIH.out (alB x) S _ v2 (add1 OL C.data.toList) W (by have:=HN.out.1;omega) (hrd.keep (λ_ h=>h) (λg hg=>hbW.block g (by have:=HS.out g hg;omega))) (λg hg=>by have:=HS.out g hg;have:=hbW.size;omega) hrow (by omega)
       have he:addA (add1 OL C.data.toList) (cns (alB x))=addA o (preC e++(Sx.kF (λ_=>cns) e (kidsE e).length++((altsE e).take (j+1)).flatMap cns1)):=by
        rw[<-cns_alt o e j x hx,hOL,cns1_eq,hC2,addA_append,addA_one]
       rw[he]at h1
       exact h1.mono λen w' ⟨v',k1,k2,k3⟩=>⟨v',k1,k2,hbW.trans (k3.mono hbW.size)⟩
      have HKS:Hid (∀W,Below wr.heap.size wr W->W.cell? ⟨w.heap.size,8,none⟩=some (.slice (some ⟨g,0,none⟩) ln lc)/\W.cell? ⟨g,j*11,none⟩=some (.string C)/\W.cell? ⟨g,j*11+2,none⟩=some (.int .i64 k1)/\W.cell? ⟨g,j*11+2+1,none⟩=some (.string x1)/\W.cell? ⟨g,j*11+2+2,none⟩=some (.bool t1)/\W.cell? ⟨g,j*11+2+3,none⟩=some (.int .i64 K1)/\W.cell? ⟨g,j*11+2+4,none⟩=some (.string X1)/\W.cell? ⟨g,j*11+2+5,none⟩=some (.int .i64 Z1)/\W.cell? ⟨g,j*11+2+6,none⟩=some (.slice B1 m1 q1)/\W.cell? ⟨g,j*11+2+7,none⟩=some (.slice KA1 kn1 kc1)/\W.cell? ⟨g,j*11+2+8,none⟩=some (.slice LA1 ln1 lc1)):=hidE λW hb=>⟨(hb.cell (p:=⟨w.heap.size,8,none⟩) hlw).trans f8,(hb.cell (p:=⟨g,j*11,none⟩) hgl).trans a0,(hb.cell (p:=⟨g,j*11+2,none⟩) hgl).trans c0,(hb.cell (p:=⟨g,j*11+2+1,none⟩) hgl).trans c1,(hb.cell (p:=⟨g,j*11+2+2,none⟩) hgl).trans c2,(hb.cell (p:=⟨g,j*11+2+3,none⟩) hgl).trans c3,(hb.cell (p:=⟨g,j*11+2+4,none⟩) hgl).trans c4,(hb.cell (p:=⟨g,j*11+2+5,none⟩) hgl).trans c5,(hb.cell (p:=⟨g,j*11+2+6,none⟩) hgl).trans c6,(hb.cell (p:=⟨g,j*11+2+7,none⟩) hgl).trans c7,(hb.cell (p:=⟨g,j*11+2+8,none⟩) hgl).trans c8⟩
      clear hx hSg hat hkeep hrd hw1 hw2 hbody hpa hOL hC hC2 hU
      go_wp2_with fail
      go_region_held3 (λW:World=>W.cell? ⟨w.heap.size,8,none⟩=some (.slice (some ⟨g,0,none⟩) ln lc)/\W.cell? ⟨g,j*11,none⟩=some (.string C)/\W.cell? ⟨g,j*11+2,none⟩=some (.int .i64 k1)/\W.cell? ⟨g,j*11+2+1,none⟩=some (.string x1)/\W.cell? ⟨g,j*11+2+2,none⟩=some (.bool t1)/\W.cell? ⟨g,j*11+2+3,none⟩=some (.int .i64 K1)/\W.cell? ⟨g,j*11+2+4,none⟩=some (.string X1)/\W.cell? ⟨g,j*11+2+5,none⟩=some (.int .i64 Z1)/\W.cell? ⟨g,j*11+2+6,none⟩=some (.slice B1 m1 q1)/\W.cell? ⟨g,j*11+2+7,none⟩=some (.slice KA1 kn1 kc1)/\W.cell? ⟨g,j*11+2+8,none⟩=some (.slice LA1 ln1 lc1)) (first|exact HKS.out _ (Below.refl _ _)|exact HKS.out _ (Below.refl _ _).drew|exact HKS.out _ B3.out|exact HKS.out _ B2.out)
       (first|(go_at_call 120;(with_reducible refine(HADD.out _ (by first|exact Below.refl _ _|exact(Below.refl _ _).drew)).mono ?_);rintro en w2 ⟨v2,rfl,h2,b2⟩;have H2:=hidE h2;have B2:=hidE b2;clear h2 b2)|(go_at_call 70;(with_reducible refine(HCALL.out _ _ B2.out H2.out).mono ?_);rintro en w3 ⟨v3,rfl,h3,b3⟩;have H3:=hidE h3;have B3:=hidE b3;clear h3 b3))
      all_goals
       have HB4:=hidE (hBx.out.trans (B3.out.mono hsx))
       go_wp2_with fail
       go_roundg (ln-(j+1))
       case measure=>omega
       case rel=>exact⟨j+1,rfl,by go_num,by omega,H3,HB4⟩
     ·have hjl:j=ln:=by omega
      subst hjl
      have HU1:Hid (RowV wr u1 (Go.Proofs.YtmbmjneibkihkaaGreatDoor.strV (addA o (cns e)))):=hidE (by
       have:=hU.out
       rw[List.take_of_length_le (by rw[HLN.out];exact Nat.le_refl _),HKN.out,<-HALL.out]at this
       exact this)
      clear hU
      go_wp2_with fail
      go_ret
      exact⟨_,rfl,HU1.out,HLW.out.trans (hBx.out.mono (by omega))⟩
theorem d9_cons(n:Nat):CnOK n:=by
 induction n with
 | zero=>intro e S v vo o w hsz;have:1<=e.size:=by { cases e <;> simp only[Ex.size] <;> omega };omega
 | succ n ih=>intro e S v vo o w hsz hv hS ho hol;exact d9_cons_step n ih e S v vo o w hsz hv hS ho hol
end Go.Proofs.YtmbmjneibkihkaaGreatDoor

namespace Go.Proofs.YtmbmjneibkihkaaGreatDoor
open Go.RowKit Lx Tx Sx
set_option maxRecDepth 100000
theorem bis_kid(o:List Nm)(e:Ex)(i:Nat)(x:Ex)(hx:(kidsE e)[i]? = some x):addA (addA o (preB e++Sx.kF (λ_=>bis) e i)) (bis x)=addA o (preB e++Sx.kF (λ_=>bis) e (i+1)):=by
 rw[Sx.kF_snoc _ e i x hx,<-addA_append,List.append_assoc]
theorem bis_alt(o:List Nm)(e:Ex)(i:Nat)(a:Al)(ha:(altsE e)[i]? = some a):addA (addA o (preB e++(Sx.kF (λ_=>bis) e (kidsE e).length++((altsE e).take i).flatMap bis1))) (bis1 a)=addA o (preB e++(Sx.kF (λ_=>bis) e (kidsE e).length++((altsE e).take (i+1)).flatMap bis1)):=by
 rw[flat_snoc bis1 _ i a ha,<-addA_append,List.append_assoc,List.append_assoc]
theorem bis1_eq(a:Al):bis1 a=alVs a++bis (alB a):=by cases a;rfl
theorem preB_bnd(e:Ex):(preB e).length=Sx.bnd e:=by cases e <;> rfl
theorem preB_len(e:Ex)(i:Nat)(k:Ex)(h:(kidsE e)[i]? = some k):(preB e).length+(Sx.kF (λ_=>bis) e i).length+k.wt<=e.wt:=by
 have:=kid_wt2 (λ_=>bis) (λ_=>bis_wt) e i k h
 rw[preB_bnd]
 omega
theorem preB_alt(e:Ex)(i:Nat)(a:Al)(h:(altsE e)[i]? = some a):preB e=[]:=by cases e <;> first|rfl|(simp[altsE]at h)
def BdOK(n:Nat):Prop:=∀(e:Ex)(S:Nat->Prop)(v vo:Value)(o:List Nm)(w:World),e.size<=n->RdX S w e v->(∀g,S g->g<w.heap.size)->RowV w vo (Go.Proofs.YtmbmjneibkihkaaGreatDoor.strV o)->o.length+e.wt<=500000 ->
 Calls Tryz.prog 72 #[v,vo] w λen w'=>∃v',en=.returned v'/\RowV w' v' (Go.Proofs.YtmbmjneibkihkaaGreatDoor.strV (addA o (bis e)))/\Below w.heap.size w w'
set_option maxHeartbeats 12800000 in
theorem d9_bounds_step(n:Nat)(IH:BdOK n)(e:Ex)(S:Nat->Prop)(v vo:Value)(o:List Nm)(w:World)(hsz:e.size<=n+1)(hv:RdX S w e v)(hS:∀g,S g->g<w.heap.size)(ho:RowV w vo (Go.Proofs.YtmbmjneibkihkaaGreatDoor.strV o))(hol:o.length+e.wt<=500000) :
  Calls Tryz.prog 72 #[v,vo] w λen w'=>∃v',en=.returned v'/\RowV w' v' (Go.Proofs.YtmbmjneibkihkaaGreatDoor.strV (addA o (bis e)))/\Below w.heap.size w w':=by
 obtain⟨K,X,Z,A0,m,q,KA,kc,LA,lc,rfl,hin⟩:=hv.shape
 obtain⟨kd,hkd⟩:∃x,kdE e=x:=⟨_,rfl⟩
 obtain⟨Y,hY⟩:∃Y:ByteArray,⟨(nmE e).toArray⟩=Y:=⟨_,rfl⟩
 obtain⟨td,htd⟩:∃x,toE e=x:=⟨_,rfl⟩
 obtain⟨kn,hkn⟩:∃x,(kidsE e).length=x:=⟨_,rfl⟩
 obtain⟨ln,hln⟩:∃x,(altsE e).length=x:=⟨_,rfl⟩
 obtain⟨q3,hq3⟩:∃q,decide (kdE e=3)=q:=⟨_,rfl⟩
 obtain⟨q5,hq5⟩:∃q,decide (kdE e=5)=q:=⟨_,rfl⟩
 have d3:((kd:Int)==3)=q3:=by rw[<-hkd,<-hq3];exact kdE_int e 3
 have d5:((kd:Int)==5)=q5:=by rw[<-hkd,<-hq5];exact kdE_int e 5
 have hpre:preB e=if(q3||q5)=true then[Y.data.toList] else[]:=by
  rw[<-hq3,<-hq5,<-hY]
  cases e <;> simp[preB,kdE,nmE]
 have hall:=bis_all e
 rw[hkd,hY,htd,hkn,hln]
 rw[hkn]at hall
 obtain⟨W0,hW0⟩:∃W,w.alloc (.cells #[.int .i64 (kd:Nat),.string Y,.bool td,.int .i64 K,.string X,.int .i64 Z,.slice A0 m q,.slice KA kn kc,.slice LA ln lc] 48)=W:=⟨_,rfl⟩
 have hlw:Below w.heap.size w W0:=hW0▸(Below.refl _ w).alloc (Nat.le_refl _) _
 have hs0:w.heap.size+1<=W0.heap.size/\W0.heap.size<=w.heap.size+1:=by rw[<-hW0];simp
 have hbk:Blk W0 w.heap.size 48 #[.int .i64 (kd:Nat),.string Y,.bool td,.int .i64 K,.string X,.int .i64 Z,.slice A0 m q,.slice KA kn kc,.slice LA ln lc]:=hW0▸heap_alloc_new _ _
 have hwt1:1<=e.wt:=wt_pos e
 have HO:=hidE (ho.below hlw)
 have HAD:=hidE (d9_add vo o Y W0 (ho.below hlw) (by omega))
 have HLW:=hidE hlw
 have HBX:=hidE hbk
 have HIN:=hidE hin
 have HS:=hidE hS
 have HKN:=hidE hkn
 have HLN:=hidE hln
 have HIH:=hidE IH
 have HN:=hidE (And.intro hsz hol)
 have HPRE:=hidE hpre
 have HALL:=hidE hall
 have hkn2:kn<=2:=by rw[<-hkn];cases e <;> simp[kidsE]
 have hln5:ln<=500000:=by
  have:∀l:List Al,l.length<=wtA l:=λl=>by
   induction l with
   | nil=>exact Nat.zero_le _
   | cons a r ih=>cases a;simp only[wtA,Al.wt,List.length_cons];omega
  rw[<-hln]
  cases e with
  | cs e l=>have:=this l;simp only[altsE,Ex.wt]at *;omega
  | _=>simp[altsE]
 obtain⟨⟨f0,f1,f2,f3,f4,f5,f6,f7,f8⟩,-,hlt0⟩:=blk_facts9 hbk
 clear ho hin hS hkn hln IH hsz hol hkd hq3 hq5 hY htd hv hlw hbk hpre hall
 go_enter Tryz.func72,Tryz.ntmps72
 go_upto_region 1 with fail
 try rw[hW0]
 clear hW0
 go_cut [15] from 8 to 19 (λu wx=>u=.bool (q3||q5)/\wx=W0)
 case first =>
  cases q3 with
  | true =>
   go_wp2_with fail
   go_meet
   case rel=>exact⟨rfl,rfl⟩
  | false =>
   go_wp2_with fail
   go_meet
   case rel=>exact⟨rfl,rfl⟩
 obtain⟨rfl,rfl⟩:=hcut
 obtain⟨W0,hw0⟩:∃y,y=wc:=⟨_,rfl⟩
 subst hw0
 obtain⟨q35,hq35⟩:∃q,(q3||q5)=q:=⟨_,rfl⟩
 rw[hq35]at HPRE ⊢
 clear hq35 d3 d5
 go_upto_if 15 with fail
 go_cut [1] from 16 to 19 (λs1 wx=>Hid (RowV wx s1 (Go.Proofs.YtmbmjneibkihkaaGreatDoor.strV (addA o (preB e))))/\Hid (Below W0.heap.size W0 wx))
 case first =>
  cases q35 with
  | true =>
   go_wp2_with fail
   refine HAD.out.mono ?_
   rintro en w2 ⟨v2,rfl,h2,b2⟩
   have H2:=hidE h2
   have B2:=hidE b2
   clear h2 b2
   go_wp2_with fail
   go_meet
   case rel=>exact⟨hidE (by rw[HPRE.out];exact H2.out),B2⟩
  | false =>
   go_wp2_with fail
   go_meet
   case rel=>exact⟨hidE (by rw[HPRE.out];exact HO.out),hidE (Below.refl _ _)⟩
 case rest =>
  obtain⟨hU0,hB0⟩:=hcut
  have HU0:Hid (RowV wc u1 (Go.Proofs.YtmbmjneibkihkaaGreatDoor.strV (addA o (preB e++Sx.kF (λ_=>bis) e 0)))):=hidE (by rw[Sx.kF,List.append_nil];exact hU0.out)
  clear hU0 f0 f1 f2 f3 f4 f5 f6 f7 f8 HAD
  go_wp2_with fail
  go_loopg [1,5] kn (λgg vu vi wr=>∃i:Nat,gg=kn-i/\vi=.int .i64 (i:Nat)/\i<=kn/\Hid (RowV wr vu (Go.Proofs.YtmbmjneibkihkaaGreatDoor.strV (addA o (preB e++Sx.kF (λ_=>bis) e i))))/\Hid (Below W0.heap.size W0 wr))
  case atStart=>exact⟨0,rfl,rfl,by omega,HU0,hB0⟩
  case round =>
   obtain⟨i,rfl,rfl,hi,hU,hBe⟩:=hrel
   have hsr:=hBe.out.size
   obtain⟨⟨f0,f1,f2,f3,f4,f5,f6,f7,f8⟩,-,hlw⟩:=blk_facts9 (HBX.out.below hBe.out (by omega))
   by_cases hlt:i<kn
   ·obtain⟨x,hx⟩:∃x,(kidsE e)[i]? = some x:=⟨_,List.getElem?_eq_getElem (by rw[HKN.out];exact hlt)⟩
    obtain⟨g,rfl,hSg,hat⟩:=HIN.out.kid i x hx
    have hkeep:∀g,S g->wr.heap[g]? = w.heap[g]?:=λg hg=>(hBe.out.block g (by have:=HS.out g hg;omega)).trans (HLW.out.block g (HS.out g hg))
    obtain⟨k1,x1,t1,K1,X1,Z1,B1,m1,q1,KA1,kn1,kc1,LA1,ln1,lc1,c0,c1,c2,c3,c4,c5,c6,c7,c8,hrd⟩:=(hat.keep (λ_ h=>h) hkeep (hkeep g hSg)).cells
    have hgl:=lt_cell c0
    have hw1:=preB_len e i x hx
    have hw2:=(kid_wt bis (λ_=>bis) (λ_ _=>Nat.le_refl _) bis_wt e i x hx).2
    have ii0:(0:Int)<=(i:Int):=by omega
    have ii1:(i:Int)<(kn:Int):=by omega
    have h1:=HIH.out x S _ u1 (addA o (preB e++Sx.kF (λ_=>bis) e i)) wr (by have:=HN.out.1;omega) hrd (λg hg=>by have:=HS.out g hg;omega) hU.out (by have:=addA_len (o:=o) (l:=preB e++Sx.kF (λ_=>bis) e i);rw[List.length_append]at this;have:=HN.out.2;omega)
    rw[bis_kid o e i x hx]at h1
    have HCALL:=hidE h1
    clear hx hSg hat hkeep hrd hw1 hw2 h1
    go_wp2_with fail
    refine HCALL.out.mono ?_
    rintro e' w2 ⟨v2,rfl,h2,b2⟩
    have H2:=hidE h2
    have HB2:=hidE (hBe.out.trans (b2.mono hsr))
    clear h2 b2 HCALL
    go_wp2_with fail
    go_roundg (kn-(i+1))
    case measure=>omega
    case rel=>exact⟨i+1,rfl,by go_num,by omega,H2,HB2⟩
   ·have hik:i=kn:=by omega
    subst hik
    clear f0 f1 f2 f3 f4 f5 f6
    have HUA:Hid (RowV wr u1 (Go.Proofs.YtmbmjneibkihkaaGreatDoor.strV (addA o (preB e++(Sx.kF (λ_=>bis) e (kidsE e).length++((altsE e).take 0).flatMap bis1))))):=hidE (by rw[List.take_zero,List.flatMap_nil,List.append_nil,HKN.out];exact hU.out)
    clear hU
    go_wp2_with fail
    go_loopg [1,6] ln (λgg vu vi wx=>∃j:Nat,gg=ln-j/\vi=.int .i64 (j:Nat)/\j<=ln/\Hid (RowV wx vu (Go.Proofs.YtmbmjneibkihkaaGreatDoor.strV (addA o (preB e++(Sx.kF (λ_=>bis) e (kidsE e).length++((altsE e).take j).flatMap bis1)))))/\Hid (Below W0.heap.size W0 wx))
    case atStart=>exact⟨0,rfl,rfl,by omega,HUA,hBe⟩
    case round =>
     obtain⟨j,rfl,rfl,hj,hU,hBx⟩:=hrel
     have hsx:=hBx.out.size
     have hlw:w.heap.size<wr.heap.size:=by omega
     have f8:=(HBX.out.below hBx.out (by omega)).cell 8
     replace f8:wr.cell? ⟨w.heap.size,8,none⟩=some (.slice LA ln lc):=f8
     by_cases hlt2:j<ln
     ·obtain⟨x,hx⟩:∃x,(altsE e)[j]? = some x:=⟨_,List.getElem?_eq_getElem (by rw[HLN.out];exact hlt2)⟩
      obtain⟨g,rfl,hSg,hat⟩:=HIN.out.alt j x hx
      have hkeep:∀g,S g->wr.heap[g]? = w.heap[g]?:=λg hg=>(hBx.out.block g (by have:=HS.out g hg;omega)).trans (HLW.out.block g (HS.out g hg))
      obtain⟨V,vv,-,a1,hvs,hbody⟩:=AlIn.cellsV (AlIn.keep (λ_ h=>h) hkeep x g _ (hkeep g hSg) hat)
      have HEX:=hidE hbody
      have hgl:=lt_cell a1
      obtain⟨hw1,hw2⟩:=alt_wt bis (λ_=>bis) bis1 (λ_ _=>Nat.le_refl _) bis_wt bis1_wt e j x hx
      have hpa:=preB_alt e j x hx
      have ii0:(0:Int)<=(j:Int):=by omega
      have ii1:(j:Int)<(ln:Int):=by omega
      obtain⟨OL,hOL⟩:∃l,addA o (preB e++(Sx.kF (λ_=>bis) e (kidsE e).length++((altsE e).take j).flatMap bis1))=l:=⟨_,rfl⟩
      have hol:OL.length+(alVs x).length+(alB x).wt<=500000:=by
       have h5:=addA_len (o:=o) (l:=preB e++(Sx.kF (λ_=>bis) e (kidsE e).length++((altsE e).take j).flatMap bis1))
       rw[hOL,hpa,List.nil_append,List.length_append]at h5
       have:=HN.out.2
       omega
      rw[hOL]at hU
      obtain⟨vl,hvl⟩:∃l,alVs x=l:=⟨_,rfl⟩
      obtain⟨vn,hvn⟩:∃n,vl.length=n:=⟨_,rfl⟩
      have HFIN:Hid (addA (addA OL vl) (bis (alB x))=addA o (preB e++(Sx.kF (λ_=>bis) e (kidsE e).length++((altsE e).take (j+1)).flatMap bis1))):=hidE (by
       rw[<-bis_alt o e j x hx,hOL,bis1_eq,hvl,addA_append])
      rw[hvl,hvn]at hol
      rw[hvl]at hvs
      rw[hvl,hvn]at a1
      have HVR:=hidE (NmsIn.row hvs (λg hg=>by have:=HS.out g hg;omega) vv)
      rw[hvn]at HVR
      have HVN:=hidE hvn
      have HBR:Hid (∀(W:World) (v2:Value),Below wr.heap.size wr W->RowV W v2 (Go.Proofs.YtmbmjneibkihkaaGreatDoor.strV (addA OL vl))->∃(k1:Int) (x1:ByteArray) (t1:Bool) (K1:Int) (X1:ByteArray) (Z1:Int) (B1:Option Addr) (m1 q1:Nat) (KA1:Option Addr) (kn1 kc1:Nat) (LA1:Option Addr) (ln1 lc1:Nat),W.cell? ⟨g,j*11+2,none⟩=some (.int .i64 k1)/\W.cell? ⟨g,j*11+2+1,none⟩=some (.string x1)/\W.cell? ⟨g,j*11+2+2,none⟩=some (.bool t1)/\W.cell? ⟨g,j*11+2+3,none⟩=some (.int .i64 K1)/\W.cell? ⟨g,j*11+2+4,none⟩=some (.string X1)/\W.cell? ⟨g,j*11+2+5,none⟩=some (.int .i64 Z1)/\W.cell? ⟨g,j*11+2+6,none⟩=some (.slice B1 m1 q1)/\W.cell? ⟨g,j*11+2+7,none⟩=some (.slice KA1 kn1 kc1)/\W.cell? ⟨g,j*11+2+8,none⟩=some (.slice LA1 ln1 lc1) /\
        Calls Tryz.prog 72 #[.agg #[.int .i64 k1,.string x1,.bool t1,.int .i64 K1,.string X1,.int .i64 Z1,.slice B1 m1 q1,.slice KA1 kn1 kc1,.slice LA1 ln1 lc1],v2] W (λen w'=>∃v',en=.returned v'/\RowV w' v' (Go.Proofs.YtmbmjneibkihkaaGreatDoor.strV (addA o (preB e++(Sx.kF (λ_=>bis) e (kidsE e).length++((altsE e).take (j+1)).flatMap bis1))))/\Below wr.heap.size wr w')):=hidE λW v2 hbW hrow=>by
       obtain⟨k1,x1,t1,K1,X1,Z1,B1,m1,q1,KA1,kn1,kc1,LA1,ln1,lc1,c0,c1,c2,c3,c4,c5,c6,c7,c8,hrd⟩:=(HEX.out.keep (λ_ h=>h) (λg hg=>hbW.block g (by have:=HS.out g hg;omega)) (hbW.block g (by have:=HS.out g hSg;omega))).cells
       refine⟨k1,x1,t1,K1,X1,Z1,B1,m1,q1,KA1,kn1,kc1,LA1,ln1,lc1,c0,c1,c2,c3,c4,c5,c6,c7,c8,?_⟩
       have hl1:(addA OL vl).length<=OL.length+vn:=by have:=addA_len (o:=OL) (l:=vl);omega
       have h1:=HIH.out (alB x) S _ v2 (addA OL vl) W (by have:=HN.out.1;omega) hrd (λg hg=>by have:=HS.out g hg;have:=hbW.size;omega) hrow (by omega)
       rw[HFIN.out]at h1
       exact h1.mono λen w' ⟨v',k1,k2,k3⟩=>⟨v',k1,k2,hbW.trans (k3.mono hbW.size)⟩
      have HU2:=hidE hU.out
      clear hx hSg hat hkeep hw1 hw2 hbody hpa hOL hvl hvn hvs hU HEX HFIN
      go_wp2_with fail
      obtain⟨wq,hwq⟩:∃y,y=wr:=⟨_,rfl⟩
      subst hwq
      go_loopg [1,7] vn (λgg vu vi wy=>∃k:Nat,gg=vn-k/\vi=.int .i64 (k:Nat)/\k<=vn/\Hid (RowV wy vu (Go.Proofs.YtmbmjneibkihkaaGreatDoor.strV (addA OL (vl.take k))))/\Hid (Below wq.heap.size wq wy))
      case atStart=>exact⟨0,rfl,rfl,by omega,HU2,hidE (Below.refl _ _)⟩
      case round =>
       obtain⟨k,rfl,rfl,hk,hU,hBy⟩:=hrel
       have hsy:=hBy.out.size
       have f8:=(hBy.out.cell (p:=⟨w.heap.size,8,none⟩) hlw).trans f8
       have a1:=(hBy.out.cell (p:=⟨g,j*11+1,none⟩) hgl).trans a1
       by_cases hlt3:k<vn
       ·obtain⟨g2,c2,heq,hel⟩:=HVR.out.at_ k (by rw[strV_len,HVN.out];exact hlt3)
        injection heq with heq1 heq2 heq3
        subst heq1
        have hgl2:=lt_cell hel
        have hkl:k<vl.length:=by rw[HVN.out];exact hlt3
        obtain⟨C,hC⟩:∃C:ByteArray,⟨(vl[k]'hkl).toArray⟩=C:=⟨_,rfl⟩
        have hC2:C.data.toList=vl[k]'hkl:=by rw[<-hC]
        have hel2:(Go.Proofs.YtmbmjneibkihkaaGreatDoor.strV vl)[k]'(by rw[strV_len];exact hkl)=.string C:=by rw[<-hC];simp[Go.Proofs.YtmbmjneibkihkaaGreatDoor.strV]
        have hel:=(hBy.out.cell (p:=⟨g2,k,none⟩) hgl2).trans hel
        rw[hel2]at hel
        have hln:(addA OL (vl.take k)).length<=OL.length+k:=by
         have:=addA_len (o:=OL) (l:=vl.take k)
         rw[List.length_take]at this
         omega
        have hq:add1 (addA OL (vl.take k)) C.data.toList=addA OL (vl.take (k+1)):=by
         rw[List.take_add_one,List.getElem?_eq_getElem hkl,addA_append,hC2];rfl
        have h1:=d9_add u1 (addA OL (vl.take k)) C wr hU.out (by omega)
        rw[hq]at h1
        have HCALL:=hidE h1
        have kk0:(0:Int)<=(k:Int):=by omega
        have kk1:(k:Int)<(vn:Int):=by omega
        clear h1 hq hln hel2 hC2 hC hkl heq2 heq3 HBR HVR
        go_wp2_with fail
        refine HCALL.out.mono ?_
        rintro e' w2 ⟨v2,rfl,h2,b2⟩
        have H2:=hidE h2
        have HB2:=hidE (hBy.out.trans (b2.mono hsy))
        clear h2 b2 HCALL
        go_wp2_with fail
        go_roundg (vn-(k+1))
        case measure=>omega
        case rel=>exact⟨k+1,rfl,by go_num,by omega,H2,HB2⟩
       ·have hkv:k=vn:=by omega
        subst hkv
        have HU3:Hid (RowV wr u1 (Go.Proofs.YtmbmjneibkihkaaGreatDoor.strV (addA OL vl))):=hidE (by
         have:=hU.out
         rw[List.take_of_length_le (by rw[HVN.out];exact Nat.le_refl _)]at this
         exact this)
        obtain⟨k1,x1,t1,K1,X1,Z1,B1,m1,q1,KA1,kn1,kc1,LA1,ln1,lc1,c0,c1,c2,c3,c4,c5,c6,c7,c8,hcall⟩:=HBR.out wr u1 hBy.out HU3.out
        have HCALL:=hidE hcall
        clear hcall hU HU3 HBR HVR
        go_wp2_with fail
        refine HCALL.out.mono ?_
        rintro e' w2 ⟨v2,rfl,h2,b2⟩
        have H2:=hidE h2
        have HB2:=hidE (hBx.out.trans (b2.mono hsx))
        clear h2 b2 HCALL
        go_wp2_with fail
        go_roundg (ln-(j+1))
        case measure=>omega
        case rel=>exact⟨j+1,rfl,by go_num,by omega,H2,HB2⟩
     ·have hjl:j=ln:=by omega
      subst hjl
      have HU1:Hid (RowV wr u1 (Go.Proofs.YtmbmjneibkihkaaGreatDoor.strV (addA o (bis e)))):=hidE (by
       have:=hU.out
       rw[List.take_of_length_le (by rw[HLN.out];exact Nat.le_refl _),HKN.out,<-HALL.out]at this
       exact this)
      clear hU
      go_wp2_with fail
      go_ret
      exact⟨_,rfl,HU1.out,HLW.out.trans (hBx.out.mono (by omega))⟩
theorem d9_bounds(n:Nat):BdOK n:=by
 induction n with
 | zero=>intro e S v vo o w hsz;have:1<=e.size:=by { cases e <;> simp only[Ex.size] <;> omega };omega
 | succ n ih=>intro e S v vo o w hsz hv hS ho hol;exact d9_bounds_step n ih e S v vo o w hsz hv hS ho hol
end Go.Proofs.YtmbmjneibkihkaaGreatDoor

namespace Go.Proofs.YtmbmjneibkihkaaGreatDoor
open Go.RowKit Lx Tx Sx
set_option maxRecDepth 100000
theorem ex_cellsT {S:Nat->Prop} {w:World} {e:Ex} {v:Value}(h:RdX S w e v):∃(Y:ByteArray)(K:Int)(X:ByteArray)(Z:Int)(A0:Option Addr)(m q:Nat)(KA:Option Addr)(kn kc:Nat)(LA:Option Addr)(ln lc:Nat),
  v=.agg #[.int .i64 (kdE e:Nat),.string Y,.bool (toE e),.int .i64 K,.string X,.int .i64 Z,.slice A0 m q,.slice KA kn kc,.slice LA ln lc]/\∀t,tyE e=some t->RdV S w t (.agg #[.int .i64 K,.string X,.int .i64 Z,.slice A0 m q]):=by
 obtain⟨P,rfl,hT,-⟩:=h
 obtain⟨K,X,Z,B,m,q,hs⟩:=tyC_shape (tyE e) P.A P.a
 refine⟨_,K,X,Z,B,m,q,P.K,_,_,P.L,_,P.l,by rw[exC,hs];rfl,λt ht=>?_⟩
 rw[ht]at hs hT
 refine⟨P.A,P.a,?_,hT⟩
 exact congrArg (λl:List Value=>Value.agg l.toArray) hs.symm
theorem ty_cases(e:Ex):(toE e=true/\∃t,tyE e=some t/\t.size<=e.wt)\/(toE e=false/\kdE e=7/\∃t,tyE e=some t/\t.size<=e.wt)\/(toE e=false/\kdE e≠7/\tyE e=none):=by
 cases e with
 | lt x t a b =>
  cases t with
  | none=>exact .inr (.inr ⟨rfl,by simp[kdE],rfl⟩)
  | some t=>exact .inl ⟨rfl,t,rfl,by simp only[Ex.wt,toldW];omega⟩
 | ann e t=>exact .inr (.inl ⟨rfl,rfl,t,rfl,by simp only[Ex.wt];omega⟩)
 | _=>exact .inr (.inr ⟨rfl,by simp[kdE],rfl⟩)
set_option maxHeartbeats 6400000 in
theorem r8_deepT(n:Nat):∀(e:Ex)(S:Nat->Prop)(v:Value)(w:World),e.size<=n->n<=400000->e.wt<=1000000->RdX S w e v->(∀g,S g->g<w.heap.size) ->
  Calls Tryz.prog 53 #[v] w λen w'=>en=.returned (.bool e.deepT)/\Below w.heap.size w w':=by
 induction n with
 | zero=>intro e S v w h;have:1<=e.size:=by { cases e <;> simp only[Ex.size] <;> omega };omega
 | succ n ih =>
  intro e S v w hn h5 hwt hv hS
  have hpl:=parts_le e
  have hdp:=deep_parts e
  obtain⟨Y,K,X,Z,A0,m,q,KA,kn,kc,LA,ln,lc,rfl,hty⟩:=ex_cellsT hv
  obtain⟨kd,hkd⟩:∃k,kdE e=k:=⟨_,rfl⟩
  obtain⟨td,htd⟩:∃k,toE e=k:=⟨_,rfl⟩
  have htc:=ty_cases e
  rw[hkd,htd]at htc
  rw[hkd,htd]at hv ⊢
  obtain⟨W0,hW0⟩:∃W,w.alloc (.cells #[.int .i64 (kd:Nat),.string Y,.bool td,.int .i64 K,.string X,.int .i64 Z,.slice A0 m q,.slice KA kn kc,.slice LA ln lc] 48)=W:=⟨_,rfl⟩
  have hlw:Below w.heap.size w W0:=hW0▸(Below.refl _ w).alloc (Nat.le_refl _) _
  have hs0:w.heap.size+1<=W0.heap.size/\W0.heap.size<=w.heap.size+1:=by rw[<-hW0];simp
  have hbk:Blk W0 w.heap.size 48 #[.int .i64 (kd:Nat),.string Y,.bool td,.int .i64 K,.string X,.int .i64 Z,.slice A0 m q,.slice KA kn kc,.slice LA ln lc]:=hW0▸heap_alloc_new _ _
  have HIN:Hid (∀W,Below W0.heap.size W0 W->Calls Tryz.prog 59 #[.agg #[.int .i64 (kd:Nat),.string Y,.bool td,.int .i64 K,.string X,.int .i64 Z,.slice A0 m q,.slice KA kn kc,.slice LA ln lc]] W (InP e W)):=hidE λW hb=>r8_inner e S _ W (hv.keep (λ_ h=>h) (λg hg=>(hb.block g (by have:=hS g hg;omega)).trans (hlw.block g (hS g hg)))) (λg hg=>by have:=hS g hg;have:=hb.size;omega) (by omega)
  have HTY:Hid (∀t,tyE e=some t->t.size<=e.wt->Calls Tryz.prog 94 #[.agg #[.int .i64 K,.string X,.int .i64 Z,.slice A0 m q]] W0 λen w'=>en=.returned (.int .i64 (t.depth:Nat))/\Below W0.heap.size W0 w'):=hidE λt ht hz=>ref2_depth 1000000 t S _ W0 (by omega) (by omega) ((hty t ht).keep (λ_ h=>h) (λg hg=>hlw.block g (hS g hg))) (λg hg=>by have:=hS g hg;omega)
  obtain⟨L,hL⟩:∃L,parts e=L:=⟨_,rfl⟩
  obtain⟨pn,hpn⟩:∃k,L.length=k:=⟨_,rfl⟩
  unfold InP at HIN
  rw[hL,hpn]at HIN
  rw[hL,hpn]at hpl
  rw[hL]at hdp
  have hpn9:pn<=400000:=by omega
  have HLW:=hidE hlw
  have HIH:=hidE ih
  have HN:=hidE (And.intro hn (And.intro h5 hwt))
  have HL:=hidE hL
  have HPN:=hidE hpn
  have HBK:=hidE hbk
  obtain⟨R,hR⟩:∃R,e.deepT=R:=⟨_,rfl⟩
  rw[hR]at hdp
  have HDP:=hidE hdp
  have HTC:=hidE htc
  obtain⟨⟨f0,f1,f2,f3,f4,f5,f6,f7,f8⟩,-,hlt0⟩:=blk_facts9 hbk
  rw[hR]
  clear hv hS hn h5 ih hL hpn hlw hbk hR hty htc hwt hdp hkd htd
  go_enter Tryz.func53,Tryz.ntmps53
  go_upto_region 1 with fail
  try rw[hW0]
  clear hW0
  go_cut [18] from 6 to 32 (λu wx=>u=.bool (deepO (tyE e))/\Hid (Below W0.heap.size W0 wx))
  case first =>
   rcases HTC.out with⟨rfl,t,ht,hz⟩|⟨rfl,rfl,t,ht,hz⟩|⟨rfl,hk,ht⟩
   ·have HT:=hidE (HTY.out t ht hz)
    obtain⟨D,hD⟩:∃D,t.depth=D:=⟨_,rfl⟩
    rw[hD]at HT
    have HO:Hid (deepO (tyE e)=decide (50<D)):=hidE (by rw[ht,deepO,hD])
    clear ht hz hD HTY
    go_wp2_with fail
    refine HT.out.mono ?_
    rintro en w3 ⟨rfl,b3⟩
    have B3:=hidE b3
    clear b3 HT
    by_cases h50:50<D
    ·have dd:decide ((50:Int)<(D:Int))=true:=decide_eq_true (by omega)
     go_wp2_with fail
     go_meet
     case rel=>exact⟨by rw[HO.out,decide_eq_true h50],B3⟩
    ·have dd:decide ((50:Int)<(D:Int))=false:=decide_eq_false (by omega)
     go_wp2_with fail
     go_meet
     case rel=>exact⟨by rw[HO.out,decide_eq_false h50],B3⟩
   ·have HT:=hidE (HTY.out t ht hz)
    obtain⟨D,hD⟩:∃D,t.depth=D:=⟨_,rfl⟩
    rw[hD]at HT
    have HO:Hid (deepO (tyE e)=decide (50<D)):=hidE (by rw[ht,deepO,hD])
    clear ht hz hD HTY
    go_wp2_with fail
    refine HT.out.mono ?_
    rintro en w3 ⟨rfl,b3⟩
    have B3:=hidE b3
    clear b3 HT
    by_cases h50:50<D
    ·have dd:decide ((50:Int)<(D:Int))=true:=decide_eq_true (by omega)
     go_wp2_with fail
     go_meet
     case rel=>exact⟨by rw[HO.out,decide_eq_true h50],B3⟩
    ·have dd:decide ((50:Int)<(D:Int))=false:=decide_eq_false (by omega)
     go_wp2_with fail
     go_meet
     case rel=>exact⟨by rw[HO.out,decide_eq_false h50],B3⟩
   ·have d7:((kd:Int)==7)=false:=by rw[beq_eq_false_iff_ne];omega
    have HO:Hid (deepO (tyE e)=false):=hidE (by rw[ht];rfl)
    clear ht HTY
    go_wp2_with fail
    go_meet
    case rel=>exact⟨by rw[HO.out],hidE (Below.refl _ _)⟩
  case rest =>
   obtain⟨rfl,hbc⟩:=hcut
   have hbk:=HBK.out.below hbc.out (by omega)
   obtain⟨⟨f0,f1,f2,f3,f4,f5,f6,f7,f8⟩,-,hlt0⟩:=blk_facts9 hbk
   have hsc:=hbc.out.size
   clear hbk HTY
   obtain⟨d0,hd0⟩:∃q,deepO (tyE e)=q:=⟨_,rfl⟩
   rw[hd0]
   have HD0:=hidE hd0
   clear hd0
   cases d0 with
   | true =>
    have hr:Hid (R=true):=hidE (by rw[HDP.out,HD0.out];rfl)
    go_wp2_with fail
    go_ret
    exact⟨ret_bool hr.out.symm,HLW.out.trans (hbc.out.mono (by omega))⟩
   | false =>
    go_wp2_with fail
    refine(HIN.out _ hbc.out).mono ?_
    rintro en w2 ⟨A,c,rfl,hl,b2⟩
    have hs2:=b2.size
    have HLL:=hidE hl
    have HB2:=hidE (HLW.out.trans ((hbc.out.mono (by omega)).trans (b2.mono (by omega))))
    clear hl b2 HIN f0 f1 f2 f3 f4 f5 f6 f7 f8
    go_wp2_with fail
    go_loopg [4] pn (λgg vi wr=>∃i:Nat,gg=pn-i/\vi=.int .i64 (i:Nat)/\i<=pn/\Hid ((L.take i).any Ex.deepT=false)/\Hid (Below w2.heap.size w2 wr))
    case atStart=>exact⟨0,rfl,rfl,by omega,hidE rfl,hidE (Below.refl _ _)⟩
    case round =>
     obtain⟨i,rfl,rfl,hi,hd,hB⟩:=hrel
     have hsr:=hB.out.size
     by_cases hlt:i<pn
     ·obtain⟨x,hx⟩:∃x,L[i]? = some x:=⟨_,List.getElem?_eq_getElem (by rw[HPN.out];exact hlt)⟩
      obtain⟨g,rfl,hSg,hat⟩:=HLL.out.exAt i x hx
      have hkeep:∀g,g<w2.heap.size->wr.heap[g]? = w2.heap[g]?:=λg hg=>hB.out.block g hg
      obtain⟨k1,x1,t1,K1,X1,Z1,B1,m1,q1,KA1,kn1,kc1,LA1,ln1,lc1,c0,c1,c2,c3,c4,c5,c6,c7,c8,hrd⟩:=(hat.keep (λ_ h=>h) hkeep (hkeep g hSg)).cells
      have hgl:=lt_cell c0
      have ii0:(0:Int)<=(i:Int):=by omega
      have ii1:(i:Int)<(pn:Int):=by omega
      have hxx:(parts e)[i]? = some x:=by rw[HL.out];exact hx
      have hpx:=part_lt e i x hxx
      have hwx:=part_wt e x (List.mem_of_getElem? hxx)
      have hcall:=HIH.out x _ _ wr (by have:=HN.out.1;omega) (by have:=HN.out.2.1;omega) (by have:=HN.out.2.2;omega) hrd (λg hg=>by omega)
      obtain⟨D,hD⟩:∃D,x.deepT=D:=⟨_,rfl⟩
      have HST:Hid ((L.take (i+1)).any Ex.deepT=D):=hidE (by rw[any_take L i x hx,hd.out,hD];rfl)
      have HTR:Hid (D=true->R=true):=hidE (λh=>by
       rw[HDP.out,HD0.out,Bool.false_or,List.any_eq_true]
       exact⟨x,List.mem_of_getElem? hx,by rw[hD,h]⟩)
      rw[hD]at hcall
      have HCALL:=hidE hcall
      clear hx hSg hat hkeep hrd hxx hpx hcall hD hwx
      go_wp2_with fail
      refine HCALL.out.mono ?_
      rintro en w3 ⟨rfl,b3⟩
      have HB3:=hidE (hB.out.trans (b3.mono hsr))
      clear b3 HCALL
      cases D with
      | true =>
       go_wp2_with fail
       go_ret
       exact⟨ret_bool (HTR.out (by trivial)).symm,HB2.out.trans (HB3.out.mono (by have:=HB2.out.size;omega))⟩
      | false =>
       go_wp2_with fail
       go_roundg (pn-(i+1))
       case measure=>omega
       case rel=>exact⟨i+1,rfl,by go_num,by omega,HST,HB3⟩
     ·have hip:i=pn:=by omega
      subst hip
      have hr:Hid (R=false):=hidE (by
       rw[HDP.out,HD0.out,Bool.false_or]
       have:=hd.out
       rwa [List.take_of_length_le (by rw[HPN.out];exact Nat.le_refl _)]at this)
      go_wp2_with fail
      go_ret
      exact⟨ret_bool hr.out.symm,HB2.out.trans (hB.out.mono (by have:=HB2.out.size;omega))⟩
end Go.Proofs.YtmbmjneibkihkaaGreatDoor
