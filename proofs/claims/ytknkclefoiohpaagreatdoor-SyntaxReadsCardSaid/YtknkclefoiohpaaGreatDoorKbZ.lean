/-
  Contracts of the code's functions, part 26.
-/
import Derived.Test.YtknkclefoiohpaaGreatDoorKbX
import Derived.Test.YtknkclefoiohpaaGreatDoorKbI
import Derived.Test.YtknkclefoiohpaaGreatDoorKbJ
import Derived.Deep.CutRange
namespace Go.Proofs.YtknkclefoiohpaaGreatDoor
open Go.RowKit Lx Tx Sx
set_option maxRecDepth 100000
theorem ex_cellsT {S:Nat->Prop} {w:World} {e:Ex} {v:Value}(h:RdX S w e v):∃(Y:ByteArray)(K:Int)(X:ByteArray)(Z:Int)(A0:Option Addr)(m q:Nat)(KA:Option Addr)(kn kc:Nat)(LA:Option Addr)(ln lc:Nat),
  v=.agg #[.int .i64 (kdE e:Nat),.string Y,.bool (toE e),.int .i64 K,.string X,.int .i64 Z,.slice A0 m q,.slice KA kn kc,.slice LA ln lc]/\∀t,tyE e=some t->RdV S w t (.agg #[.int .i64 K,.string X,.int .i64 Z,.slice A0 m q]):=by
 obtain⟨P,rfl,hT,-⟩:=h
 obtain⟨K,X,Z,B,m,q,hs⟩:=tyC_shape (tyE e) P.A P.a
 refine⟨_,K,X,Z,B,m,q,P.K,_,_,P.L,_,P.l,by rw[exC,hs];rfl,λt ht=>?_⟩
 rw[ht]at hs hT
 refine⟨P.A,P.a,?_,hT⟩
 exact congrArg (λl:List Value=>Value.agg l.toArray) hs.symm
theorem ty_cases(e:Ex):(toE e=true/\∃t,tyE e=some t/\t.size<=e.wt)\/(toE e=false/\kdE e=7/\∃t,tyE e=some t/\t.size<=e.wt)\/(toE e=false/\kdE e≠7/\tyE e=none):=by
 cases e with
 | lt x t a b =>
  cases t with
  | none=>exact .inr (.inr ⟨rfl,by simp[kdE],rfl⟩)
  | some t=>exact .inl ⟨rfl,t,rfl,by simp only[Ex.wt,toldW];omega⟩
 | ann e t=>exact .inr (.inl ⟨rfl,rfl,t,rfl,by simp only[Ex.wt];omega⟩)
 | _=>exact .inr (.inr ⟨rfl,by simp[kdE],rfl⟩)
set_option maxHeartbeats 6400000 in
theorem r8_deepT(n:Nat):∀(e:Ex)(S:Nat->Prop)(v:Value)(w:World),e.size<=n->n<=400000->e.wt<=1000000->RdX S w e v->(∀g,S g->g<w.heap.size) ->
  Calls Tryz.prog 45 #[v] w λen w'=>en=.returned (.bool e.deepT)/\Below w.heap.size w w':=by
 induction n with
 | zero=>intro e S v w h;have:1<=e.size:=by { cases e <;> simp only[Ex.size] <;> omega };omega
 | succ n ih =>
  intro e S v w hn h5 hwt hv hS
  have hpl:=parts_le e
  have hdp:=deep_parts e
  obtain⟨Y,K,X,Z,A0,m,q,KA,kn,kc,LA,ln,lc,rfl,hty⟩:=ex_cellsT hv
  obtain⟨kd,hkd⟩:∃k,kdE e=k:=⟨_,rfl⟩
  obtain⟨td,htd⟩:∃k,toE e=k:=⟨_,rfl⟩
  have htc:=ty_cases e
  rw[hkd,htd]at htc
  rw[hkd,htd]at hv ⊢
  obtain⟨W0,hW0⟩:∃W,w.alloc (.cells #[.int .i64 (kd:Nat),.string Y,.bool td,.int .i64 K,.string X,.int .i64 Z,.slice A0 m q,.slice KA kn kc,.slice LA ln lc] 48)=W:=⟨_,rfl⟩
  have hlw:Below w.heap.size w W0:=hW0▸(Below.refl _ w).alloc (Nat.le_refl _) _
  have hs0:w.heap.size+1<=W0.heap.size/\W0.heap.size<=w.heap.size+1:=by rw[<-hW0];simp
  have hbk:Blk W0 w.heap.size 48 #[.int .i64 (kd:Nat),.string Y,.bool td,.int .i64 K,.string X,.int .i64 Z,.slice A0 m q,.slice KA kn kc,.slice LA ln lc]:=hW0▸heap_alloc_new _ _
  have HIN:Hid (∀W,Below W0.heap.size W0 W->Calls Tryz.prog 51 #[.agg #[.int .i64 (kd:Nat),.string Y,.bool td,.int .i64 K,.string X,.int .i64 Z,.slice A0 m q,.slice KA kn kc,.slice LA ln lc]] W (InP e W)):=hidE λW hb=>r8_inner e S _ W (hv.keep (λ_ h=>h) (λg hg=>(hb.block g (by have:=hS g hg;omega)).trans (hlw.block g (hS g hg)))) (λg hg=>by have:=hS g hg;have:=hb.size;omega) (by omega)
  have HTY:Hid (∀t,tyE e=some t->t.size<=e.wt->Calls Tryz.prog 86 #[.agg #[.int .i64 K,.string X,.int .i64 Z,.slice A0 m q]] W0 λen w'=>en=.returned (.int .i64 (t.depth:Nat))/\Below W0.heap.size W0 w'):=hidE λt ht hz=>ref2_depth 1000000 t S _ W0 (by omega) (by omega) ((hty t ht).keep (λ_ h=>h) (λg hg=>hlw.block g (hS g hg))) (λg hg=>by have:=hS g hg;omega)
  obtain⟨L,hL⟩:∃L,parts e=L:=⟨_,rfl⟩
  obtain⟨pn,hpn⟩:∃k,L.length=k:=⟨_,rfl⟩
  unfold InP at HIN
  rw[hL,hpn]at HIN
  rw[hL,hpn]at hpl
  rw[hL]at hdp
  have hpn9:pn<=400000:=by omega
  have HLW:=hidE hlw
  have HIH:=hidE ih
  have HN:=hidE (And.intro hn (And.intro h5 hwt))
  have HL:=hidE hL
  have HPN:=hidE hpn
  have HBK:=hidE hbk
  obtain⟨R,hR⟩:∃R,e.deepT=R:=⟨_,rfl⟩
  rw[hR]at hdp
  have HDP:=hidE hdp
  have HTC:=hidE htc
  obtain⟨⟨f0,f1,f2,f3,f4,f5,f6,f7,f8⟩,-,hlt0⟩:=blk_facts9 hbk
  rw[hR]
  clear hv hS hn h5 ih hL hpn hlw hbk hR hty htc hwt hdp hkd htd
  go_enter Tryz.func45,Tryz.ntmps45
  go_upto_region 1 with fail
  try rw[hW0]
  clear hW0
  go_cut [18] from 6 to 32 (λu wx=>u=.bool (deepO (tyE e))/\Hid (Below W0.heap.size W0 wx))
  case first =>
   rcases HTC.out with⟨rfl,t,ht,hz⟩|⟨rfl,rfl,t,ht,hz⟩|⟨rfl,hk,ht⟩
   ·have HT:=hidE (HTY.out t ht hz)
    obtain⟨D,hD⟩:∃D,t.depth=D:=⟨_,rfl⟩
    rw[hD]at HT
    have HO:Hid (deepO (tyE e)=decide (50<D)):=hidE (by rw[ht,deepO,hD])
    clear ht hz hD HTY
    go_wp2_with fail
    refine HT.out.mono ?_
    rintro en w3 ⟨rfl,b3⟩
    have B3:=hidE b3
    clear b3 HT
    by_cases h50:50<D
    ·have dd:decide ((50:Int)<(D:Int))=true:=decide_eq_true (by omega)
     go_wp2_with fail
     go_meet
     case rel=>exact⟨by rw[HO.out,decide_eq_true h50],B3⟩
    ·have dd:decide ((50:Int)<(D:Int))=false:=decide_eq_false (by omega)
     go_wp2_with fail
     go_meet
     case rel=>exact⟨by rw[HO.out,decide_eq_false h50],B3⟩
   ·have HT:=hidE (HTY.out t ht hz)
    obtain⟨D,hD⟩:∃D,t.depth=D:=⟨_,rfl⟩
    rw[hD]at HT
    have HO:Hid (deepO (tyE e)=decide (50<D)):=hidE (by rw[ht,deepO,hD])
    clear ht hz hD HTY
    go_wp2_with fail
    refine HT.out.mono ?_
    rintro en w3 ⟨rfl,b3⟩
    have B3:=hidE b3
    clear b3 HT
    by_cases h50:50<D
    ·have dd:decide ((50:Int)<(D:Int))=true:=decide_eq_true (by omega)
     go_wp2_with fail
     go_meet
     case rel=>exact⟨by rw[HO.out,decide_eq_true h50],B3⟩
    ·have dd:decide ((50:Int)<(D:Int))=false:=decide_eq_false (by omega)
     go_wp2_with fail
     go_meet
     case rel=>exact⟨by rw[HO.out,decide_eq_false h50],B3⟩
   ·have d7:((kd:Int)==7)=false:=by rw[beq_eq_false_iff_ne];omega
    have HO:Hid (deepO (tyE e)=false):=hidE (by rw[ht];rfl)
    clear ht HTY
    go_wp2_with fail
    go_meet
    case rel=>exact⟨by rw[HO.out],hidE (Below.refl _ _)⟩
  case rest =>
   obtain⟨rfl,hbc⟩:=hcut
   have hbk:=HBK.out.below hbc.out (by omega)
   obtain⟨⟨f0,f1,f2,f3,f4,f5,f6,f7,f8⟩,-,hlt0⟩:=blk_facts9 hbk
   have hsc:=hbc.out.size
   clear hbk HTY
   obtain⟨d0,hd0⟩:∃q,deepO (tyE e)=q:=⟨_,rfl⟩
   rw[hd0]
   have HD0:=hidE hd0
   clear hd0
   cases d0 with
   | true =>
    have hr:Hid (R=true):=hidE (by rw[HDP.out,HD0.out];rfl)
    go_wp2_with fail
    go_ret
    exact⟨ret_bool hr.out.symm,HLW.out.trans (hbc.out.mono (by omega))⟩
   | false =>
    go_wp2_with fail
    refine(HIN.out _ hbc.out).mono ?_
    rintro en w2 ⟨A,c,rfl,hl,b2⟩
    have hs2:=b2.size
    have HLL:=hidE hl
    have HB2:=hidE (HLW.out.trans ((hbc.out.mono (by omega)).trans (b2.mono (by omega))))
    clear hl b2 HIN f0 f1 f2 f3 f4 f5 f6 f7 f8
    go_wp2_with fail
    go_loopg [4] pn (λgg vi wr=>∃i:Nat,gg=pn-i/\vi=.int .i64 (i:Nat)/\i<=pn/\Hid ((L.take i).any Ex.deepT=false)/\Hid (Below w2.heap.size w2 wr))
    case atStart=>exact⟨0,rfl,rfl,by omega,hidE rfl,hidE (Below.refl _ _)⟩
    case round =>
     obtain⟨i,rfl,rfl,hi,hd,hB⟩:=hrel
     have hsr:=hB.out.size
     by_cases hlt:i<pn
     ·obtain⟨x,hx⟩:∃x,L[i]? = some x:=⟨_,List.getElem?_eq_getElem (by rw[HPN.out];exact hlt)⟩
      obtain⟨g,rfl,hSg,hat⟩:=HLL.out.exAt i x hx
      have hkeep:∀g,g<w2.heap.size->wr.heap[g]? = w2.heap[g]?:=λg hg=>hB.out.block g hg
      obtain⟨k1,x1,t1,K1,X1,Z1,B1,m1,q1,KA1,kn1,kc1,LA1,ln1,lc1,c0,c1,c2,c3,c4,c5,c6,c7,c8,hrd⟩:=(hat.keep (λ_ h=>h) hkeep (hkeep g hSg)).cells
      have hgl:=lt_cell c0
      have ii0:(0:Int)<=(i:Int):=by omega
      have ii1:(i:Int)<(pn:Int):=by omega
      have hxx:(parts e)[i]? = some x:=by rw[HL.out];exact hx
      have hpx:=part_lt e i x hxx
      have hwx:=part_wt e x (List.mem_of_getElem? hxx)
      have hcall:=HIH.out x _ _ wr (by have:=HN.out.1;omega) (by have:=HN.out.2.1;omega) (by have:=HN.out.2.2;omega) hrd (λg hg=>by omega)
      obtain⟨D,hD⟩:∃D,x.deepT=D:=⟨_,rfl⟩
      have HST:Hid ((L.take (i+1)).any Ex.deepT=D):=hidE (by rw[any_take L i x hx,hd.out,hD];rfl)
      have HTR:Hid (D=true->R=true):=hidE (λh=>by
       rw[HDP.out,HD0.out,Bool.false_or,List.any_eq_true]
       exact⟨x,List.mem_of_getElem? hx,by rw[hD,h]⟩)
      rw[hD]at hcall
      have HCALL:=hidE hcall
      clear hx hSg hat hkeep hrd hxx hpx hcall hD hwx
      go_wp2_with fail
      refine HCALL.out.mono ?_
      rintro en w3 ⟨rfl,b3⟩
      have HB3:=hidE (hB.out.trans (b3.mono hsr))
      clear b3 HCALL
      cases D with
      | true =>
       go_wp2_with fail
       go_ret
       exact⟨ret_bool (HTR.out (by trivial)).symm,HB2.out.trans (HB3.out.mono (by have:=HB2.out.size;omega))⟩
      | false =>
       go_wp2_with fail
       go_roundg (pn-(i+1))
       case measure=>omega
       case rel=>exact⟨i+1,rfl,by go_num,by omega,HST,HB3⟩
     ·have hip:i=pn:=by omega
      subst hip
      have hr:Hid (R=false):=hidE (by
       rw[HDP.out,HD0.out,Bool.false_or]
       have:=hd.out
       rwa [List.take_of_length_le (by rw[HPN.out];exact Nat.le_refl _)]at this)
      go_wp2_with fail
      go_ret
      exact⟨ret_bool hr.out.symm,HB2.out.trans (hB.out.mono (by have:=HB2.out.size;omega))⟩
end Go.Proofs.YtknkclefoiohpaaGreatDoor
