import Derived.Test.YtknkclefoiohpaaGreatDoorKaK
import Derived.Test.YtknkclefoiohpaaGreatDoorKaH
set_option maxHeartbeats 12800000
namespace Go.Proofs.YtknkclefoiohpaaGreatDoor
open Go.RowKit Lx Tx Sx
set_option maxRecDepth 100000
theorem NmsIn.row {S:Nat->Prop} {w:World} {vs:List Nm} {V:Option Addr}(h:NmsIn S w vs V)(hS:∀g,S g->g<w.heap.size)(c:Nat):RowV w (.slice V vs.length c) (Go.Proofs.YtknkclefoiohpaaGreatDoor.strV vs):=by
 refine⟨V,c,by rw[zaR],λhn=>?_⟩;obtain⟨g,h1,h2,h3⟩:=h (λe=>by rw[e]at hn;simp[Go.Proofs.YtknkclefoiohpaaGreatDoor.strV]at hn);refine⟨g,h1,hS g h2,λj u hu=>?_⟩;have:=h3 j u (by simpa[Go.Proofs.YtknkclefoiohpaaGreatDoor.strV,Sx.strV] using hu);rwa [uJ]at this
theorem zcP(e:Ex)(k:Nat):((kdE e:Int) ==(k:Int))=decide (kdE e=k):=by
 by_cases h:kdE e=k
 ·rw[h];simp
 ·rw[ux h,uo];omega
theorem AlIn.cellsV {S:Nat->Prop} {w:World} {a:Al} {g o:Nat}(h:AlIn S w a g o):∃(V:Option Addr)(v : {v:Nat //(alVs a).length<=v}),w.cell? ⟨g,o,none⟩=some (.string ⟨(alCn a).toArray⟩)/\w.cell? ⟨g,o+1,none⟩=some (.slice V (alVs a).length v)/\NmsIn S w (alVs a) V/\ExAt S w (alB a) g (o+2):=by
 cases a with
 |mk c vs b =>
  rw[AlIn]at h
  obtain⟨h1,⟨V,v,h2,h4⟩,h3⟩:=h;exact⟨V,v,h1,h2,h4,h3⟩
theorem zpf(a:Al):fr1 a=but (alVs a) (fr (alB a)):=by cases a;rfl
theorem zpQ(e:Ex)(i:Nat):bK e i=if(decide (kdE e=3) ||(decide (kdE e=5)&&decide (i=1)))=true then[nmE e] else[]:=by
 cases e <;> simp[bK,kdE,nmE]
def FrR(b o:List Nm)(e:Ex)(w:World)(en:Ending)(w':World):Prop:=∃v',en=.returned v'/\RowV w' v' (Go.Proofs.YtknkclefoiohpaaGreatDoor.strV (frAD b o e))/\Below w.heap.size w w'
def FrOK(n:Nat):Prop:=∀(e:Ex)(S:Nat->Prop)(v vb vo:Value)(b o:List Nm)(w:World),e.size<=n->RdX S w e v->(∀g,S g->g<w.heap.size)->RowV w vb (Go.Proofs.YtknkclefoiohpaaGreatDoor.strV b)->RowV w vo (Go.Proofs.YtknkclefoiohpaaGreatDoor.strV o)->b.length+e.wt<=500000->o.length+e.wt<=500000 ->
 Calls Tryz.prog 122 #[v,vb,vo] w (FrR b o e w)
theorem zh7(x:Nm)(S:Nat->Prop)(v vb vo:Value)(b o:List Nm)(w:World)(hv:RdX S w (.var x) v)(hb:RowV w vb (Go.Proofs.YtknkclefoiohpaaGreatDoor.strV b))(ho:RowV w vo (Go.Proofs.YtknkclefoiohpaaGreatDoor.strV o))(aC:b.length<=500000)(gZ:o.length<=500000):Calls Tryz.prog 122 #[v,vb,vo] w (FrR b o (.var x) w):=by
 obtain⟨K,X,Z,A0,m,q,KA,kc,LA,lc,rfl,-⟩:=hv.shape;simp only[kdE,nmE,toE,zac,zad,uF];obtain⟨Y,hY⟩:∃Y:ByteArray,⟨x.toArray⟩=Y:=⟨_,rfl⟩;rw[hY]
 have hx:Y.data.toList=x:=by rw[<-hY]
 obtain⟨W0,ai⟩:∃W,w.alloc (.cells #[.int .i64 1,.string Y,.bool false,.int .i64 K,.string X,.int .i64 Z,.slice A0 m q,.slice KA 0 kc,.slice LA 0 lc] 48)=W:=⟨_,rfl⟩;have ax:Below w.heap.size w W0:=ai▸(ua _ w).alloc (tV _) _;have aN:=zbE vb b Y W0 (hb.below ax) (by omega);have ha1:=zeg vo o Y W0 (ho.below ax) (by omega);rw[hx]at aN ha1
 obtain⟨p,hp⟩:∃p,decide (x∈b)=p:=⟨_,rfl⟩;rw[hp]at aN
 have aJ:=wJ aN;have nZ:=wJ ha1;have bM:=wJ ax;have HO:=wJ (ho.below ax);have HF:Hid (frAD b o (.var x)=if p=true then o else add1 o x):=wJ (by rw[zmr,<-hp];by_cases h:x∈b <;> simp[h]);have aa:Blk W0 w.heap.size 48 #[.int .i64 1,.string Y,.bool false,.int .i64 K,.string X,.int .i64 Z,.slice A0 m q,.slice KA 0 kc,.slice LA 0 lc]:=ai▸tW _ _;have f0:=aa.cell 0;replace f0:W0.cell? ⟨w.heap.size,0,none⟩=some (.int .i64 1):=f0;have f1:=aa.cell 1;replace f1:W0.cell? ⟨w.heap.size,1,none⟩=some (.string Y):=f1;have ah:=aa.lt;clear hb ho aN ha1 hp hx hY aC gZ hv aa ax;unfold FrR;go_enter Tryz.func122,Tryz.ntmps122
 go_wp2_with fail
 try rw[ai]
 refine aJ.out.mono ?_;rintro e w1 ⟨rfl,rfl⟩;clear aJ;try clear ai
 cases p with
 |true =>
  go_wp2_with fail
  go_ret
  exact⟨_,rfl,by rw[HF.out];exact HO.out,bM.out⟩
 |false =>
  go_wp2_with fail
  refine nZ.out.mono ?_;rintro e w2 ⟨v2,rfl,h2,b2⟩;go_wp2_with fail
  go_ret
  exact⟨_,rfl,by rw[HF.out];exact h2,bM.out.trans (b2.mono bM.out.size)⟩
end Go.Proofs.YtknkclefoiohpaaGreatDoor
