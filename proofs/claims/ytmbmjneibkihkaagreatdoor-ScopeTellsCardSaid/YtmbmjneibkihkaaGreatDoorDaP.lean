/-
  Contracts of the code's functions, part 16.
-/
import Derived.Test.YtmbmjneibkihkaaGreatDoorDaM
import Derived.Test.YtmbmjneibkihkaaGreatDoorDaF
import Derived.Test.YtmbmjneibkihkaaGreatDoorDaJ
import Derived.Deep.RegionHeld3
namespace Go.Proofs.YtmbmjneibkihkaaGreatDoor
open Go.RowKit Lx Tx Sx
set_option maxRecDepth 100000
theorem NmsIn.row {S:Nat->Prop} {w:World} {vs:List Nm} {V:Option Addr}(h:NmsIn S w vs V)(hS:∀g,S g->g<w.heap.size)(c:Nat):RowV w (.slice V vs.length c) (Go.Proofs.YtmbmjneibkihkaaGreatDoor.strV vs):=by
 refine⟨V,c,by rw[strV_len],λhn=>?_⟩
 obtain⟨g,h1,h2,h3⟩:=h (λe=>by rw[e]at hn;simp[Go.Proofs.YtmbmjneibkihkaaGreatDoor.strV]at hn)
 refine⟨g,h1,hS g h2,λj u hu=>?_⟩
 have:=h3 j u (by simpa[Go.Proofs.YtmbmjneibkihkaaGreatDoor.strV,Sx.strV] using hu)
 rwa [Nat.zero_add]at this
theorem kdE_int(e:Ex)(k:Nat):((kdE e:Int) ==(k:Int))=decide (kdE e=k):=by
 by_cases h:kdE e=k
 ·rw[h];simp
 ·rw[decide_eq_false h,beq_eq_false_iff_ne];omega
theorem AlIn.cellsV {S:Nat->Prop} {w:World} {a:Al} {g o:Nat}(h:AlIn S w a g o):∃(V:Option Addr)(v:Nat),w.cell? ⟨g,o,none⟩=some (.string ⟨(alCn a).toArray⟩)/\w.cell? ⟨g,o+1,none⟩=some (.slice V (alVs a).length v)/\NmsIn S w (alVs a) V/\ExAt S w (alB a) g (o+2):=by
 cases a with
 | mk c vs b =>
  rw[AlIn]at h
  obtain⟨h1,⟨V,v,h2,h4⟩,h3⟩:=h
  exact⟨V,v,h1,h2,h4,h3⟩
theorem fr1_eq(a:Al):fr1 a=but (alVs a) (fr (alB a)):=by cases a;rfl
theorem bK_eq(e:Ex)(i:Nat):bK e i=if(decide (kdE e=3) ||(decide (kdE e=5)&&decide (i=1)))=true then[nmE e] else[]:=by
 cases e <;> simp[bK,kdE,nmE]
def FrR(b o:List Nm)(e:Ex)(w:World)(en:Ending)(w':World):Prop:=∃v',en=.returned v'/\RowV w' v' (Go.Proofs.YtmbmjneibkihkaaGreatDoor.strV (frAD b o e))/\Below w.heap.size w w'
def FrOK(n:Nat):Prop:=∀(e:Ex)(S:Nat->Prop)(v vb vo:Value)(b o:List Nm)(w:World),e.size<=n->RdX S w e v->(∀g,S g->g<w.heap.size)->RowV w vb (Go.Proofs.YtmbmjneibkihkaaGreatDoor.strV b)->RowV w vo (Go.Proofs.YtmbmjneibkihkaaGreatDoor.strV o)->b.length+e.wt<=500000->o.length+e.wt<=500000 ->
 Calls Tryz.prog 68 #[v,vb,vo] w (FrR b o e w)
set_option maxHeartbeats 3200000 in
theorem d9_free_var(x:Nm)(S:Nat->Prop)(v vb vo:Value)(b o:List Nm)(w:World)(hv:RdX S w (.var x) v)(hb:RowV w vb (Go.Proofs.YtmbmjneibkihkaaGreatDoor.strV b))(ho:RowV w vo (Go.Proofs.YtmbmjneibkihkaaGreatDoor.strV o))(hbl:b.length<=500000)(hol:o.length<=500000) :
  Calls Tryz.prog 68 #[v,vb,vo] w (FrR b o (.var x) w):=by
 obtain⟨K,X,Z,A0,m,q,KA,kc,LA,lc,rfl,-⟩:=hv.shape
 simp only[kdE,nmE,toE,kidsE,altsE,List.length_nil]
 obtain⟨Y,hY⟩:∃Y:ByteArray,⟨x.toArray⟩=Y:=⟨_,rfl⟩
 rw[hY]
 have hx:Y.data.toList=x:=by rw[<-hY]
 obtain⟨W0,hW0⟩:∃W,w.alloc (.cells #[.int .i64 1,.string Y,.bool false,.int .i64 K,.string X,.int .i64 Z,.slice A0 m q,.slice KA 0 kc,.slice LA 0 lc] 48)=W:=⟨_,rfl⟩
 have hlw:Below w.heap.size w W0:=hW0▸(Below.refl _ w).alloc (Nat.le_refl _) _
 have hb1:=ref2_has vb b Y W0 (hb.below hlw) (by omega)
 have ha1:=d9_add vo o Y W0 (ho.below hlw) (by omega)
 rw[hx]at hb1 ha1
 obtain⟨p,hp⟩:∃p,decide (x∈b)=p:=⟨_,rfl⟩
 rw[hp]at hb1
 have HB1:=hidE hb1
 have HA1:=hidE ha1
 have HLW:=hidE hlw
 have HO:=hidE (ho.below hlw)
 have HF:Hid (frAD b o (.var x)=if p=true then o else add1 o x):=hidE (by rw[frAD_var,<-hp];by_cases h:x∈b <;> simp[h])
 have hbk:Blk W0 w.heap.size 48 #[.int .i64 1,.string Y,.bool false,.int .i64 K,.string X,.int .i64 Z,.slice A0 m q,.slice KA 0 kc,.slice LA 0 lc]:=hW0▸heap_alloc_new _ _
 have f0:=hbk.cell 0
 replace f0:W0.cell? ⟨w.heap.size,0,none⟩=some (.int .i64 1):=f0
 have f1:=hbk.cell 1
 replace f1:W0.cell? ⟨w.heap.size,1,none⟩=some (.string Y):=f1
 have hlt:=hbk.lt
 clear hb ho hb1 ha1 hp hx hY hbl hol hv hbk hlw
 unfold FrR
 go_enter Tryz.func68,Tryz.ntmps68
 go_wp2_with fail
 try rw[hW0]
 refine HB1.out.mono ?_
 rintro e w1 ⟨rfl,rfl⟩
 clear HB1
 try clear hW0
 cases p with
 | true =>
  go_wp2_with fail
  go_ret
  exact⟨_,rfl,by rw[HF.out];exact HO.out,HLW.out⟩
 | false =>
  go_wp2_with fail
  refine HA1.out.mono ?_
  rintro e w2 ⟨v2,rfl,h2,b2⟩
  go_wp2_with fail
  go_ret
  exact⟨_,rfl,by rw[HF.out];exact h2,HLW.out.trans (b2.mono HLW.out.size)⟩
end Go.Proofs.YtmbmjneibkihkaaGreatDoor
