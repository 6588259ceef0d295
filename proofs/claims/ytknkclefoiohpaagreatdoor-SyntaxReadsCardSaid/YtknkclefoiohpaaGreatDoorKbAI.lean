/-
  Contracts of the code's functions, part 35.
-/
import Derived.Test.YtknkclefoiohpaaGreatDoorKbAB
import Derived.Test.YtknkclefoiohpaaGreatDoorKbH
import Derived.Test.YtknkclefoiohpaaGreatDoorKbAH
import Derived.Test.YtknkclefoiohpaaGreatDoorKbI
import Derived.Test.YtknkclefoiohpaaGreatDoorKbAG
namespace Go.Proofs.YtknkclefoiohpaaGreatDoor
open Go.RowKit Lx Tx Sx
set_option maxRecDepth 100000
def mustE(e:Ex)(p:Nat):Bool:=(e.wide &&(p != 0)) ||(e.isApp &&(p==2))
def outE(e:Ex)(p:Nat):Nm:=par (mustE e p) e.print
theorem outE_0(e:Ex):outE e 0=e.print:=by simp[outE,mustE,par]
theorem outE_1(e:Ex):outE e 1=par e.wide e.print:=by simp[outE,mustE]
theorem outE_2(e:Ex):outE e 2=par (e.wide||e.isApp) e.print:=by simp[outE,mustE]
theorem must_kd(e:Ex)(p:Nat):(kdE e=3\/kdE e=5\/kdE e=6)/\mustE e p=(p != 0)\/kdE e=4/\mustE e p=(p==2)\/(kdE e≠3/\kdE e≠5/\kdE e≠6/\kdE e≠4)/\mustE e p=false:=by
 cases e <;> simp[kdE,mustE,Ex.wide,Ex.isApp]
set_option maxHeartbeats 1600000 in
theorem wr_must(e:Ex)(p:Nat)(S:Nat->Prop)(v:Value)(w:World)(hv:RdX S w e v) :
  Calls Tryz.prog 101 #[v,.int .i64 (p:Nat)] w λen w'=>en=.returned (.bool (mustE e p))/\Below w.heap.size w w':=by
 obtain⟨K,X,Z,A0,m,q,KA,kc,LA,lc,rfl,-⟩:=hv.shape
 obtain⟨kd,hkd⟩:∃x,kdE e=x:=⟨_,rfl⟩
 obtain⟨Y,hY⟩:∃Y:ByteArray,⟨(nmE e).toArray⟩=Y:=⟨_,rfl⟩
 obtain⟨td,htd⟩:∃x,toE e=x:=⟨_,rfl⟩
 obtain⟨kn,hkn⟩:∃x,(kidsE e).length=x:=⟨_,rfl⟩
 obtain⟨ln,hln⟩:∃x,(altsE e).length=x:=⟨_,rfl⟩
 have hm:=must_kd e p
 rw[hkd]at hm
 rw[hkd,hY,htd,hkn,hln]
 obtain⟨R,hR⟩:∃R,mustE e p=R:=⟨_,rfl⟩
 rw[hR]at hm ⊢
 obtain⟨W0,hW0⟩:∃W,w.alloc (.cells #[.int .i64 (kd:Nat),.string Y,.bool td,.int .i64 K,.string X,.int .i64 Z,.slice A0 m q,.slice KA kn kc,.slice LA ln lc] 39)=W:=⟨_,rfl⟩
 have hlw:Below w.heap.size w W0:=hW0▸(Below.refl _ w).alloc (Nat.le_refl _) _
 have hbk:Blk W0 w.heap.size 39 #[.int .i64 (kd:Nat),.string Y,.bool td,.int .i64 K,.string X,.int .i64 Z,.slice A0 m q,.slice KA kn kc,.slice LA ln lc]:=hW0▸heap_alloc_new _ _
 obtain⟨⟨f0,f1,f2,f3,f4,f5,f6,f7,f8⟩,-,hlt0⟩:=blk_facts9 hbk
 have HLW:=hidE hlw
 have e0:((p:Int) != 0)=(p != 0):=by cases p with
  | zero=>rfl
  | succ n=>rw[show((n+1:Nat) != 0)=true by simp,bne_iff_ne];omega
 have e2:((p:Int)==2)=(p==2):=by
  by_cases h:p=2
  ·subst h;rfl
  ·rw[beq_eq_false_iff_ne.2 h,beq_eq_false_iff_ne];omega
 obtain⟨P0,hP0⟩:∃x,(p != 0)=x:=⟨_,rfl⟩
 obtain⟨P2,hP2⟩:∃x,(p==2)=x:=⟨_,rfl⟩
 rw[hP0]at e0 hm
 rw[hP2]at e2 hm
 clear hv hkd hY htd hkn hln hlw hbk hR hP0 hP2 f1 f2 f3 f4 f5 f6 f7 f8
 go_enter Tryz.func101,Tryz.ntmps101
 go_upto_region 1 with fail
 try rw[hW0]
 clear hW0
 rcases hm with⟨h,rfl⟩|⟨rfl,rfl⟩|⟨⟨h3,h5,h6,h4⟩,rfl⟩
 ·rcases h with rfl|rfl|rfl
  all_goals
   go_wp2_with fail
   go_ret
   exact⟨rfl,HLW.out⟩
 ·go_wp2_with fail
  go_ret
  exact⟨rfl,HLW.out⟩
 ·have d3:((kd:Int)==3)=false:=by rw[beq_eq_false_iff_ne];omega
  have d4:((kd:Int)==4)=false:=by rw[beq_eq_false_iff_ne];omega
  have d5:((kd:Int)==5)=false:=by rw[beq_eq_false_iff_ne];omega
  have d6:((kd:Int)==6)=false:=by rw[beq_eq_false_iff_ne];omega
  go_wp2_with fail
  go_ret
  exact⟨rfl,HLW.out⟩
set_option maxHeartbeats 3200000 in
theorem wr_kid(e:Ex)(i:Nat)(x:Ex)(S:Nat->Prop)(v:Value)(w:World)(hv:RdX S w e v)(hS:∀g,S g->g<w.heap.size)(hx:(kidsE e)[i]? = some x) :
  Calls Tryz.prog 143 #[v,.int .i64 (i:Nat)] w λen w'=>(∃(k1:Int) (x1:ByteArray) (t1:Bool) (K1:Int) (X1:ByteArray) (Z1:Int) (B1:Option Addr) (m1 q1:Nat) (KA1:Option Addr) (kn1 kc1:Nat) (LA1:Option Addr) (ln1 lc1:Nat),en=.returned (.agg #[.int .i64 k1,.string x1,.bool t1,.int .i64 K1,.string X1,.int .i64 Z1,.slice B1 m1 q1,.slice KA1 kn1 kc1,.slice LA1 ln1 lc1])/\RdX S w' x (.agg #[.int .i64 k1,.string x1,.bool t1,.int .i64 K1,.string X1,.int .i64 Z1,.slice B1 m1 q1,.slice KA1 kn1 kc1,.slice LA1 ln1 lc1]))/\Below w.heap.size w w':=by
 obtain⟨K,X,Z,A0,m,q,KA,kc,LA,lc,rfl,hin⟩:=hv.shape
 obtain⟨kd,hkd⟩:∃x,kdE e=x:=⟨_,rfl⟩
 obtain⟨Y,hY⟩:∃Y:ByteArray,⟨(nmE e).toArray⟩=Y:=⟨_,rfl⟩
 obtain⟨td,htd⟩:∃x,toE e=x:=⟨_,rfl⟩
 obtain⟨kn,hkn⟩:∃x,(kidsE e).length=x:=⟨_,rfl⟩
 obtain⟨ln,hln⟩:∃x,(altsE e).length=x:=⟨_,rfl⟩
 have hik:i<kn:=by rw[<-hkn];exact(List.getElem?_eq_some_iff.1 hx).1
 obtain⟨g,rfl,hSg,hat⟩:=hin.kid i x hx
 obtain⟨k1,x1,t1,K1,X1,Z1,B1,m1,q1,KA1,kn1,kc1,LA1,ln1,lc1,c0,c1,c2,c3,c4,c5,c6,c7,c8,hrd⟩:=hat.cells
 rw[hkd,hY,htd,hkn,hln]
 have hgw:=hS g hSg
 obtain⟨W0,hW0⟩:∃W,(w.alloc (.cells #[.int .i64 (kd:Nat),.string Y,.bool td,.int .i64 K,.string X,.int .i64 Z,.slice A0 m q,.slice (some ⟨g,0,none⟩) kn kc,.slice LA ln lc] 39)).alloc (.cells #[.int .i64 0,.string ⟨#[]⟩,.bool false,.int .i64 0,.string ⟨#[]⟩,.int .i64 0,.slice none 0 0,.slice none 0 0,.slice none 0 0] 39)=W:=⟨_,rfl⟩
 have hlw:Below w.heap.size w W0:=hW0▸((Below.refl _ w).alloc (Nat.le_refl _) _).alloc (by simp) _
 have hs0:w.heap.size+2<=W0.heap.size:=by rw[<-hW0];simp
 have hbk:Blk W0 w.heap.size 39 #[.int .i64 (kd:Nat),.string Y,.bool td,.int .i64 K,.string X,.int .i64 Z,.slice A0 m q,.slice (some ⟨g,0,none⟩) kn kc,.slice LA ln lc]:=hW0▸(Below.heap_alloc _ _ _ (by simp)).trans (heap_alloc_new _ _)
 have hbr:Blk W0 (w.heap.size+1) 39 #[.int .i64 0,.string ⟨#[]⟩,.bool false,.int .i64 0,.string ⟨#[]⟩,.int .i64 0,.slice none 0 0,.slice none 0 0,.slice none 0 0]:=by
  rw[<-hW0]
  have:=heap_alloc_new (w.alloc (.cells #[.int .i64 (kd:Nat),.string Y,.bool td,.int .i64 K,.string X,.int .i64 Z,.slice A0 m q,.slice (some ⟨g,0,none⟩) kn kc,.slice LA ln lc] 39)) (.cells #[.int .i64 0,.string ⟨#[]⟩,.bool false,.int .i64 0,.string ⟨#[]⟩,.int .i64 0,.slice none 0 0,.slice none 0 0,.slice none 0 0] 39)
  rw[size_alloc]at this
  exact this
 have d0:=(hlw.cell (p:=⟨g,i*9,none⟩) hgw).trans c0
 have d1:=(hlw.cell (p:=⟨g,i*9+1,none⟩) hgw).trans c1
 have d2:=(hlw.cell (p:=⟨g,i*9+2,none⟩) hgw).trans c2
 have d3:=(hlw.cell (p:=⟨g,i*9+3,none⟩) hgw).trans c3
 have d4:=(hlw.cell (p:=⟨g,i*9+4,none⟩) hgw).trans c4
 have d5:=(hlw.cell (p:=⟨g,i*9+5,none⟩) hgw).trans c5
 have d6:=(hlw.cell (p:=⟨g,i*9+6,none⟩) hgw).trans c6
 have d7:=(hlw.cell (p:=⟨g,i*9+7,none⟩) hgw).trans c7
 have d8:=(hlw.cell (p:=⟨g,i*9+8,none⟩) hgw).trans c8
 have hgl:=lt_cell d0
 have HLW:=hidE hlw
 have HBR:=hidE hbr
 have HRD:=hidE (hrd.keep (S':=S) (λ_ h=>h) (λk hk=>hlw.block k (hS k hk)))
 have HS:=hidE hS
 obtain⟨⟨f0,f1,f2,f3,f4,f5,f6,f7,f8⟩,-,hlt0⟩:=blk_facts9 hbk
 obtain⟨⟨y0,y1,y2,y3,y4,y5,y6,y7,y8⟩,⟨z0,z1,z2,z3,z4,z5,z6,z7,z8⟩,hly⟩:=blk_facts9 hbr
 have ii0:(0:Int)<=(i:Int):=by omega
 have ii1:(i:Int)<(kn:Int):=by omega
 have ii2:decide ((kn:Int)<=(i:Int))=false:=decide_eq_false (by omega)
 clear hv hin hkd hY htd hkn hln hx hS hSg hat hrd hlw hbk hbr c0 c1 c2 c3 c4 c5 c6 c7 c8
 go_enter Tryz.func143,Tryz.ntmps143
 go_upto_region 1 with fail
 try rw[hW0]
 clear hW0
 go_wp2_with fail
 try simp only[Exit.inBlock,Exit.then]
 refine bodyPost_ret (results_cell_row rfl _ _ (w.heap.size+1) 39 _ (0,0) _ rfl (blk_set9 _ _ _ _ _ _ _ _ _ HBR.out) Tryz.underlying39 rfl (by kernel_rfl)) rfl ?_
 exact⟨⟨k1,x1,t1,K1,X1,Z1,B1,m1,q1,KA1,kn1,kc1,LA1,ln1,lc1,rfl,HRD.out.keep (λ_ h=>h) (λk hk=>set9_far _ _ _ _ _ _ _ _ _ _ _ _ (by have:=HS.out k hk;omega))⟩,HLW.out.trans (below_set9 (Below.refl _ _) (by omega) _ _ _ _ _ _ _ _ _)⟩
end Go.Proofs.YtknkclefoiohpaaGreatDoor

namespace Go.Proofs.YtknkclefoiohpaaGreatDoor
open Go.RowKit Lx Tx Sx
set_option maxRecDepth 100000
theorem WPX.next {B b:Nat} {l:List UInt8} {w w1 w2:World}(h:WPX B b l w w1)(k:Below w1.heap.size w1 w2):WPX B b l w w2:=h.below (by have:=h.1.lt;omega) k
def PutP(B b:Nat)(l:List UInt8)(w:World)(e:Ending)(w':World):Prop:=e=.returned (.tuple #[])/\WPX B b l w w'
theorem wr_puts {B b:Nat} {l:List UInt8} {w w1:World}(h:WPX B b l w w1)(xs:List ByteArray)(cs:Array Value)(hcs:cs.toList=xs.map Value.string)(n:Nat)(hn:xs.length=n)(hn9:n<=100000)(L:List UInt8)(hL:(xs.map (λx=>x.data.toList)).flatten=L)(hlen:l.length+L.length<=50000000000000) :
  Calls Tryz.prog 87 #[.pointer (some ⟨b,0,none⟩),.slice (some ⟨w1.heap.size,0,none⟩) n n] (w1.alloc (.cells cs 9)) (PutP B b (l++L) w):=by
 have hbl:=h.1.lt
 have hA:=h.next ((Below.refl _ w1).alloc (Nat.le_refl _) (.cells cs 9))
 have e1:((xs.map (λx=>x.data.toList)).map Sx.strV).toArray=cs:=by
  apply Array.toList_inj.1
  rw[hcs,List.map_map]
  rfl
 have:=wr_Put B b l (xs.map (λx=>x.data.toList)) w1.heap.size n n (w1.alloc (.cells cs 9)) hA.1 (by simp;omega) (by rw[e1];exact heap_alloc_new _ _) (by omega) (by rw[List.length_map];exact hn) hn9 (by rw[hL];exact hlen)
 rw[hL]at this
 exact this.mono λe w' ⟨h1,h2⟩=>⟨h1,hA.trans h2⟩
theorem wr_put1 {B b:Nat} {l:List UInt8} {w w1:World}(h:WPX B b l w w1)(X:ByteArray)(hlen:l.length+X.size<=50000000000000) :
  Calls Tryz.prog 87 #[.pointer (some ⟨b,0,none⟩),.slice (some ⟨w1.heap.size,0,none⟩) 1 1] (w1.alloc (.cells #[.string X] 9)) (PutP B b (l++X.data.toList) w) :=
 wr_puts h [X] #[.string X] rfl 1 rfl (by decide) _ (by simp) (by rw[<-Lib.size_eq];exact hlen)
theorem wr_put2 {B b:Nat} {l:List UInt8} {w w1:World}(h:WPX B b l w w1)(X Y:ByteArray)(hlen:l.length+X.size+Y.size<=50000000000000) :
  Calls Tryz.prog 87 #[.pointer (some ⟨b,0,none⟩),.slice (some ⟨w1.heap.size,0,none⟩) 2 2] (w1.alloc (.cells #[.string X,.string Y] 9)) (PutP B b (l++(X.data.toList++Y.data.toList)) w) :=
 wr_puts h [X,Y] #[.string X,.string Y] rfl 2 rfl (by decide) _ (by simp) (by rw[List.length_append,<-Lib.size_eq,<-Lib.size_eq];omega)
theorem wr_put3 {B b:Nat} {l:List UInt8} {w w1:World}(h:WPX B b l w w1)(X Y Z:ByteArray)(hlen:l.length+X.size+Y.size+Z.size<=50000000000000) :
  Calls Tryz.prog 87 #[.pointer (some ⟨b,0,none⟩),.slice (some ⟨w1.heap.size,0,none⟩) 3 3] (w1.alloc (.cells #[.string X,.string Y,.string Z] 9)) (PutP B b (l++(X.data.toList++(Y.data.toList++Z.data.toList))) w) :=
 wr_puts h [X,Y,Z] #[.string X,.string Y,.string Z] rfl 3 rfl (by decide) _ (by simp) (by rw[List.length_append,List.length_append,<-Lib.size_eq,<-Lib.size_eq,<-Lib.size_eq];omega)
theorem wr_put1d {B b:Nat} {l:List UInt8} {w:World}(h:BldX B b l w)(X:ByteArray)(hlen:l.length+X.size<=50000000000000) :
  Calls Tryz.prog 87 #[.pointer (some ⟨b,0,none⟩),.slice (some ⟨w.heap.size,0,none⟩) 1 1] (w.alloc (.cells #[.string X] 9)).drew (PutP B b (l++X.data.toList) w) :=
 wr_put1 (w1:=w.drew) ((WPX.refl h).next (Below.refl _ w).drew) X hlen
theorem wr_put2d {B b:Nat} {l:List UInt8} {w:World}(h:BldX B b l w)(X Y:ByteArray)(hlen:l.length+X.size+Y.size<=50000000000000) :
  Calls Tryz.prog 87 #[.pointer (some ⟨b,0,none⟩),.slice (some ⟨w.heap.size,0,none⟩) 2 2] (w.alloc (.cells #[.string X,.string Y] 9)).drew (PutP B b (l++(X.data.toList++Y.data.toList)) w) :=
 wr_put2 (w1:=w.drew) ((WPX.refl h).next (Below.refl _ w).drew) X Y hlen
theorem wr_put3d {B b:Nat} {l:List UInt8} {w:World}(h:BldX B b l w)(X Y Z:ByteArray)(hlen:l.length+X.size+Y.size+Z.size<=50000000000000) :
  Calls Tryz.prog 87 #[.pointer (some ⟨b,0,none⟩),.slice (some ⟨w.heap.size,0,none⟩) 3 3] (w.alloc (.cells #[.string X,.string Y,.string Z] 9)).drew (PutP B b (l++(X.data.toList++(Y.data.toList++Z.data.toList))) w) :=
 wr_put3 (w1:=w.drew) ((WPX.refl h).next (Below.refl _ w).drew) X Y Z hlen
structure XIn (e:Ex) (S:Nat->Prop) (v:Value) (B b:Nat) (l:List UInt8) (w:World):Prop where
 ok:e.Ok
 wt:e.wt<=9000
 rd:RdX S w e v
 lt:∀g,S g->g<B
 bld:BldX B b l w
 glob:0<B
 tab:Tab w
theorem ok_part(e x:Ex)(h:x∈parts e)(hok:e.Ok):x.Ok:=by
 cases e with
 | var v=>simp[parts,kidsE,altsE]at h
 | con v=>simp[parts,kidsE,altsE]at h
 | lam v b=>simp[parts,kidsE,altsE]at h;subst h;exact hok.2
 | app a b=>simp[parts,kidsE,altsE]at h;exact h.elim (λh=>h▸hok.1) (λh=>h▸hok.2)
 | lt v t a b=>simp[parts,kidsE,altsE]at h;exact h.elim (λh=>h▸hok.2.2.1) (λh=>h▸hok.2.2.2)
 | ann b t=>simp[parts,kidsE,altsE]at h;subst h;exact hok.1
 | cs b l =>
  simp[parts,kidsE,altsE]at h
  rcases h with rfl|⟨a,ha,rfl⟩
  ·exact hok.1
  ·have:∀l:List Al,okA l->a∈l->(alB a).Ok:=λl=>by
    induction l with
    | nil=>intro _ h;cases h
    | cons c r ih =>
     intro h1 h2
     rcases List.mem_cons.1 h2 with rfl|h2
     ·cases a;exact h1.1.2.2
     ·exact ih h1.2 h2
   exact this l hok.2 ha
theorem WPX.rdX {S:Nat->Prop} {B b:Nat} {l:List UInt8} {w w1:World} {e:Ex} {v:Value}(h:WPX B b l w w1)(hr:RdX S w e v)(hS:∀g,S g->g<B):RdX S w1 e v:=hr.keep (λ_ h=>h) (λg hg=>h.2.1.block g (hS g hg))
theorem print_wt(e:Ex)(hok:e.Ok):e.print.length+10<=100*e.wt:=printE_len e hok
def WXp(n:Nat):Prop:=∀(e:Ex)(p:Nat)(S:Nat->Prop)(v:Value)(B b:Nat)(l:List UInt8)(w:World),e.size<=n->p<=2->XIn e S v B b l w->l.length+(outE e p).length<=40000000000000 ->
 Calls Tryz.prog 46 #[.pointer (some ⟨b,0,none⟩),v,.int .i64 (p:Nat)] w (PutP B b (l++outE e p) w)
def WBp(n:Nat):Prop:=∀(e:Ex)(S:Nat->Prop)(v:Value)(B b:Nat)(l:List UInt8)(w:World),e.size<=n->XIn e S v B b l w->l.length+e.print.length<=40000000000000 ->
 Calls Tryz.prog 102 #[.pointer (some ⟨b,0,none⟩),v] w (PutP B b (l++e.print) w)
theorem XIn.at {e:Ex} {S:Nat->Prop} {v:Value} {B b:Nat} {l l1:List UInt8} {w w1:World}(h:XIn e S v B b l w)(k:WPX B b l1 w w1):XIn e S v B b l1 w1 :=
 ⟨h.ok,h.wt,k.rdX h.rd h.lt,h.lt,k.1,h.glob,k.tab h.tab h.glob⟩
theorem XIn.part {e x:Ex} {S:Nat->Prop} {v v':Value} {B b:Nat} {l l1:List UInt8} {w w1:World}(h:XIn e S v B b l w)(hx:x∈parts e)(k:WPX B b l1 w w1)(hr:RdX S w1 x v'):XIn x S v' B b l1 w1 :=
 ⟨ok_part e x hx h.ok,Nat.le_trans (part_wt e x hx) h.wt,hr,h.lt,k.1,h.glob,k.tab h.tab h.glob⟩
set_option maxHeartbeats 3200000 in
theorem wr_expr(n:Nat)(HB:WBp n):WXp n:=by
 intro e p S v B b l w hn hp hX hll
 have hbl:=hX.bld.lt
 obtain⟨K,X,Z,A0,m,q,KA,kc,LA,lc,rfl,-⟩:=hX.rd.shape
 obtain⟨kd,hkd⟩:∃x,kdE e=x:=⟨_,rfl⟩
 obtain⟨Y,hY⟩:∃Y:ByteArray,⟨(nmE e).toArray⟩=Y:=⟨_,rfl⟩
 obtain⟨td,htd⟩:∃x,toE e=x:=⟨_,rfl⟩
 obtain⟨kn,hkn⟩:∃x,(kidsE e).length=x:=⟨_,rfl⟩
 obtain⟨ln,hln⟩:∃x,(altsE e).length=x:=⟨_,rfl⟩
 rw[hkd,hY,htd,hkn,hln]at hX ⊢
 obtain⟨W0,hW0⟩:∃W,w.alloc (.cells #[.int .i64 (kd:Nat),.string Y,.bool td,.int .i64 K,.string X,.int .i64 Z,.slice A0 m q,.slice KA kn kc,.slice LA ln lc] 39)=W:=⟨_,rfl⟩
 have hlw:Below w.heap.size w W0:=hW0▸(Below.refl _ w).alloc (Nat.le_refl _) _
 have hbk:Blk W0 w.heap.size 39 #[.int .i64 (kd:Nat),.string Y,.bool td,.int .i64 K,.string X,.int .i64 Z,.slice A0 m q,.slice KA kn kc,.slice LA ln lc]:=hW0▸heap_alloc_new _ _
 have HX:=hidE hX
 have H0:=hidE ((WPX.refl hX.bld).next hlw)
 have HBK:=hidE hbk
 have HM:=hidE (wr_must e p S _ W0 (H0.out.rdX hX.rd hX.lt))
 have HHB:=hidE HB
 have HN:=hidE hn
 have HOU:Hid (outE e p=par (mustE e p) e.print):=hidE rfl
 obtain⟨q1,hq1⟩:∃q,mustE e p=q:=⟨_,rfl⟩
 rw[hq1]at HM HOU
 rw[HOU.out]at hll ⊢
 obtain⟨⟨f0,f1,f2,f3,f4,f5,f6,f7,f8⟩,-,hlt0⟩:=blk_facts9 hbk
 clear hX hlw hbk hkd hY htd hkn hln hq1 HB hn
 go_enter Tryz.func46,Tryz.ntmps46
 go_upto_region 1 with fail
 try rw[hW0]
 clear hW0
 go_wp2_with fail
 refine HM.out.mono ?_
 rintro en w1 ⟨rfl,b1⟩
 have H1:=hidE (H0.out.next b1)
 have hbk:=HBK.out.below b1 hlt0
 have HBK:=hidE hbk
 clear f0 f1 f2 f3 f4 f5 f6 f7 f8 HM H0
 obtain⟨⟨f0,f1,f2,f3,f4,f5,f6,f7,f8⟩,-,hlt1⟩:=blk_facts9 hbk
 have hbl1:=H1.out.1.lt
 clear b1 hbk
 cases q1 with
 | false =>
  have HC:=hidE (HHB.out e S _ B b l w1 HN.out (HX.out.at H1.out) (by simpa[par] using hll))
  go_wp2_with fail
  refine HC.out.mono ?_
  rintro en w2 ⟨rfl,h2⟩
  have H2:=hidE (H1.out.trans h2)
  clear h2 HC
  go_wp2_with fail
  first|go_end0|refine bodyPost_ret (results_none rfl _ _ _) rfl ?_
  exact⟨rfl,by rw[par,if_neg (by decide)];exact H2.out⟩
 | true =>
  have hl2:l.length+e.print.length+2<=40000000000000:=by rw[par,if_pos rfl]at hll;simp at hll;omega
  have HP1:=hidE (wr_put1 (WPX.refl H1.out.1) ⟨#[40]⟩ (by show l.length+1<=_;omega))
  go_wp2_with fail
  refine HP1.out.mono ?_
  rintro en w2 ⟨rfl,h2⟩
  have H2:=hidE (H1.out.trans h2)
  have hs2:=h2.sz
  have hbk:=h2.blk HBK.out (by omega) (by decide)
  clear f0 f1 f2 f3 f4 f5 f6 f7 f8 HP1
  obtain⟨⟨f0,f1,f2,f3,f4,f5,f6,f7,f8⟩,-,hlt2⟩:=blk_facts9 hbk
  have HC:=hidE (HHB.out e S _ B b (l++[40]) w2 HN.out (HX.out.at H2.out) (by rw[List.length_append];simp;omega))
  clear h2 hbk
  go_wp2_with fail
  refine HC.out.mono ?_
  rintro en w3 ⟨rfl,h3⟩
  have H3:=hidE (H2.out.trans h3)
  have hbl3:=h3.1.lt
  have HP3:=hidE (wr_put1 (WPX.refl h3.1) ⟨#[41]⟩ (by show(l++[40]++e.print).length+1<=_;rw[List.length_append,List.length_append];simp;omega))
  clear h3 HC
  go_wp2_with fail
  refine HP3.out.mono ?_
  rintro en w4 ⟨rfl,h4⟩
  have H4:=hidE (H3.out.trans h4)
  clear h4 HP3
  go_wp2_with fail
  first|go_end0|refine bodyPost_ret (results_none rfl _ _ _) rfl ?_
  refine⟨rfl,?_⟩
  have:=H4.out
  rw[par,if_pos rfl]
  rwa [show l++[40]++e.print++(⟨#[41]⟩:ByteArray).data.toList=l++40::(e.print++[41]) by simp]at this
end Go.Proofs.YtknkclefoiohpaaGreatDoor

namespace Go.Proofs.YtknkclefoiohpaaGreatDoor
open Go.RowKit Lx Tx Sx
set_option maxRecDepth 100000
theorem bx_facts {e:Ex} {S:Nat->Prop} {B b:Nat} {l:List UInt8} {w:World} {v:Value}(h:XIn e S v B b l w):∃(Y:ByteArray)(td:Bool)(K:Int)(X:ByteArray)(Z:Int)(A0:Option Addr)(m q:Nat)(KA:Option Addr)(kn kc:Nat)(LA:Option Addr)(ln lc:Nat),
  v=.agg #[.int .i64 (kdE e:Nat),.string Y,.bool td,.int .i64 K,.string X,.int .i64 Z,.slice A0 m q,.slice KA kn kc,.slice LA ln lc]/\Y.data.toList=nmE e/\td=toE e/\kn=(kidsE e).length/\ln=(altsE e).length/\∀t,tyE e=some t->RdV S w t (.agg #[.int .i64 K,.string X,.int .i64 Z,.slice A0 m q]):=by
 obtain⟨P,rfl,hT,-⟩:=h.rd
 obtain⟨K,X,Z,B0,m,q,hs⟩:=tyC_shape (tyE e) P.A P.a
 refine⟨⟨(nmE e).toArray⟩,toE e,K,X,Z,B0,m,q,P.K,_,_,P.L,_,P.l,by rw[exC,hs];rfl,by simp,rfl,rfl,rfl,λt ht=>?_⟩
 rw[ht]at hs hT
 exact⟨P.A,P.a,congrArg (λl:List Value=>Value.agg l.toArray) hs.symm,hT⟩
set_option maxHeartbeats 3200000 in
theorem bare_nm(e:Ex)(he:(kdE e=1\/kdE e=2)/\e.print=nmE e)(S:Nat->Prop)(v:Value)(B b:Nat)(l:List UInt8)(w:World)(hX:XIn e S v B b l w)(hll:l.length+e.print.length<=40000000000000) :
  Calls Tryz.prog 102 #[.pointer (some ⟨b,0,none⟩),v] w (PutP B b (l++e.print) w):=by
 obtain⟨Y,td,K,X,Z,A0,m,q,KA,kn,kc,LA,ln,lc,rfl,hY,-,-,-,-⟩:=bx_facts hX
 obtain⟨kd,hkd⟩:∃x,kdE e=x:=⟨_,rfl⟩
 rw[he.2,<-hY]at hll ⊢
 rw[hkd]at he hX ⊢
 have hbl:=hX.bld.lt
 obtain⟨W0,hW0⟩:∃W,w.alloc (.cells #[.int .i64 (kd:Nat),.string Y,.bool td,.int .i64 K,.string X,.int .i64 Z,.slice A0 m q,.slice KA kn kc,.slice LA ln lc] 39)=W:=⟨_,rfl⟩
 have hlw:Below w.heap.size w W0:=hW0▸(Below.refl _ w).alloc (Nat.le_refl _) _
 have hbk:Blk W0 w.heap.size 39 #[.int .i64 (kd:Nat),.string Y,.bool td,.int .i64 K,.string X,.int .i64 Z,.slice A0 m q,.slice KA kn kc,.slice LA ln lc]:=hW0▸heap_alloc_new _ _
 have H0:=hidE ((WPX.refl hX.bld).next hlw)
 have hYs:l.length+Y.size<=40000000000000:=by rw[Lib.size_eq];exact hll
 have HP:=hidE (wr_put1d H0.out.1 Y (by omega))
 obtain⟨⟨f0,f1,f2,f3,f4,f5,f6,f7,f8⟩,-,hlt0⟩:=blk_facts9 hbk
 have hk:=he.1
 clear hX hlw hbk hkd hY he hll hYs
 go_enter Tryz.func102,Tryz.ntmps102
 go_upto_region 1 with fail
 try rw[hW0]
 clear hW0
 rcases hk with rfl|rfl
 all_goals
  go_wp2_with fail
  go_region_with (go_at_call 87;(with_reducible refine HP.out.mono ?_);rintro en w2 ⟨rfl,h2⟩)
  all_goals
   go_wp2_with fail
   first|go_end0|refine bodyPost_ret (results_none rfl _ _ _) rfl ?_
   exact⟨rfl,H0.out.trans h2⟩
end Go.Proofs.YtknkclefoiohpaaGreatDoor

namespace Go.Proofs.YtknkclefoiohpaaGreatDoor
open Go.RowKit Lx Tx Sx
set_option maxRecDepth 100000
set_option maxHeartbeats 6400000 in
theorem bare_lam(n:Nat)(HW:WXp n)(x:Nm)(y:Ex)(S:Nat->Prop)(v:Value)(B b:Nat)(l:List UInt8)(w:World)(hn:(Ex.lam x y).size<=n+1)(hX:XIn (Ex.lam x y) S v B b l w)(hll:l.length+(Ex.lam x y).print.length<=40000000000000) :
  Calls Tryz.prog 102 #[.pointer (some ⟨b,0,none⟩),v] w (PutP B b (l++(Ex.lam x y).print) w):=by
 obtain⟨Y,td,K,X,Z,A0,m,q,KA,kn,kc,LA,ln,lc,rfl,hY,htd,hkn,hln,hty⟩:=bx_facts hX
 replace hX:XIn (Ex.lam x y) S (.agg #[.int .i64 3,.string Y,.bool td,.int .i64 K,.string X,.int .i64 Z,.slice A0 m q,.slice KA kn kc,.slice LA ln lc]) B b l w:=hX
 show Calls Tryz.prog _ #[_,.agg #[.int .i64 3,.string Y,.bool td,.int .i64 K,.string X,.int .i64 Z,.slice A0 m q,.slice KA kn kc,.slice LA ln lc]] w _
 have hbl:=hX.bld.lt
 obtain⟨W0,hW0⟩:∃W,w.alloc (.cells #[.int .i64 3,.string Y,.bool td,.int .i64 K,.string X,.int .i64 Z,.slice A0 m q,.slice KA kn kc,.slice LA ln lc] 39)=W:=⟨_,rfl⟩
 have hlw:Below w.heap.size w W0:=hW0▸(Below.refl _ w).alloc (Nat.le_refl _) _
 have hbk:Blk W0 w.heap.size 39 #[.int .i64 3,.string Y,.bool td,.int .i64 K,.string X,.int .i64 Z,.slice A0 m q,.slice KA kn kc,.slice LA ln lc]:=hW0▸heap_alloc_new _ _
 have H0:=hidE ((WPX.refl hX.bld).next hlw)
 have HX:=hidE hX
 have HBK:=hidE hbk
 have HHW:=hidE HW
 have HLT:=hidE hX.lt
 have hlt0:=hbk.lt
 have HN:Hid (y.size<=n):=hidE (by rw[Ex.size]at hn;omega)
 have hpr:(Ex.lam x y).print=92::x++[32,45,62,32]++y.print:=by rw[Ex.print];rfl
 have hY2:Y.data.toList=x:=hY
 have hYs:Y.size=x.length:=by rw[Lib.size_eq,hY2]
 rw[hpr]at hll ⊢
 simp only[List.length_append,List.length_cons,List.length_nil]at hll
 clear hty hln hkn htd
 obtain⟨⟨f0,f1,f2,f3,f4,f5,f6,f7,f8⟩,-,-⟩:=blk_facts9 hbk
 clear hX hlw hbk HW hn
 go_enter Tryz.func102,Tryz.ntmps102
 go_upto_region 1 with fail
 try rw[hW0]
 clear hW0
 have HP2:=hidE (wr_put3d H0.out.1 ⟨#[92]⟩ Y ⟨#[32,45,62,32]⟩ (by show l.length+1+Y.size+4<=_;omega))
 go_wp2_with fail
 go_region_with (go_at_call 87;(with_reducible refine HP2.out.mono ?_);rintro en w2 ⟨rfl,h2⟩)
 all_goals
  rw[hY2]at h2
  have H2:=hidE (H0.out.trans h2)
  replace H2:Hid (WPX B b (l++(92::x++[32,45,62,32])) w w2):=hidE (by have:=H2.out;simpa[List.append_assoc,sArr,sCol,sEq,wLet,wIn,wCase,wOf] using this)
  have hbk2:=h2.blk HBK.out (by omega) (by decide)
  have HBK:=hidE hbk2
  clear f0 f1 f2 f3 f4 f5 f6 f7 f8
  obtain⟨⟨f0,f1,f2,f3,f4,f5,f6,f7,f8⟩,-,hlt2⟩:=blk_facts9 hbk2
  have hs2:=h2.sz
  clear hbk2
  clear h2
  have hbl2:=H2.out.1.lt
  have HK3:=hidE (wr_kid (Ex.lam x y) 0 y S _ w2 (H2.out.rdX HX.out.rd HLT.out) (λg hg=>by have:=HLT.out g hg;omega) rfl)
  go_wp2_with fail
  refine HK3.out.mono ?_
  rintro en k3 ⟨⟨a0,a1,a2,a3,a4,a5,a6,a7,a8,a9,b0,b1,b2,b3,b4,rfl,hr3⟩,c3⟩
  have G3:=hidE (H2.out.next c3)
  have hck3:=c3.size
  have HE3:=hidE (HHW.out y 0 S _ B b _ k3 (by have:=HN.out;omega) (by decide) (HX.out.part (x:=y) (by simp[parts,kidsE,altsE]) G3.out hr3) (by rw[outE_0];simp only[List.length_append,List.length_cons,List.length_nil];omega))
  have hbc3:=HBK.out.below c3 (by omega)
  have HBK:=hidE hbc3
  clear HK3 c3 hr3 hbc3
  go_wp2_with fail
  refine HE3.out.mono ?_
  rintro en w3 ⟨rfl,h3⟩
  clear HE3
  have H3:=hidE (G3.out.trans h3)
  replace H3:Hid (WPX B b (l++(92::x++[32,45,62,32]++y.print)) w w3):=hidE (by have:=H3.out;simpa[List.append_assoc,sArr,sCol,sEq,wLet,wIn,wCase,wOf,outE_0] using this)
  clear h3
  have hbl3:=H3.out.1.lt
  go_wp2_with fail
  first|go_end0|refine bodyPost_ret (results_none rfl _ _ _) rfl ?_
  refine⟨rfl,?_⟩
  have:=H3.out
  simpa[List.append_assoc] using this
set_option maxHeartbeats 6400000 in
theorem bare_app2(n:Nat)(HW:WXp n)(x y:Ex)(S:Nat->Prop)(v:Value)(B b:Nat)(l:List UInt8)(w:World)(hn:(Ex.app x y).size<=n+1)(hX:XIn (Ex.app x y) S v B b l w)(hll:l.length+(Ex.app x y).print.length<=40000000000000) :
  Calls Tryz.prog 102 #[.pointer (some ⟨b,0,none⟩),v] w (PutP B b (l++(Ex.app x y).print) w):=by
 obtain⟨Y,td,K,X,Z,A0,m,q,KA,kn,kc,LA,ln,lc,rfl,hY,htd,hkn,hln,hty⟩:=bx_facts hX
 replace hX:XIn (Ex.app x y) S (.agg #[.int .i64 4,.string Y,.bool td,.int .i64 K,.string X,.int .i64 Z,.slice A0 m q,.slice KA kn kc,.slice LA ln lc]) B b l w:=hX
 show Calls Tryz.prog _ #[_,.agg #[.int .i64 4,.string Y,.bool td,.int .i64 K,.string X,.int .i64 Z,.slice A0 m q,.slice KA kn kc,.slice LA ln lc]] w _
 have hbl:=hX.bld.lt
 obtain⟨W0,hW0⟩:∃W,w.alloc (.cells #[.int .i64 4,.string Y,.bool td,.int .i64 K,.string X,.int .i64 Z,.slice A0 m q,.slice KA kn kc,.slice LA ln lc] 39)=W:=⟨_,rfl⟩
 have hlw:Below w.heap.size w W0:=hW0▸(Below.refl _ w).alloc (Nat.le_refl _) _
 have hbk:Blk W0 w.heap.size 39 #[.int .i64 4,.string Y,.bool td,.int .i64 K,.string X,.int .i64 Z,.slice A0 m q,.slice KA kn kc,.slice LA ln lc]:=hW0▸heap_alloc_new _ _
 have H0:=hidE ((WPX.refl hX.bld).next hlw)
 have HX:=hidE hX
 have HBK:=hidE hbk
 have HHW:=hidE HW
 have HLT:=hidE hX.lt
 have hlt0:=hbk.lt
 have HN:Hid (x.size<=n/\y.size<=n):=hidE (by rw[Ex.size]at hn;omega)
 have hpr:(Ex.app x y).print=outE x 1++[32]++outE y 2:=by rw[Ex.print,outE_1,outE_2]
 rw[hpr]at hll ⊢
 simp only[List.length_append,List.length_cons,List.length_nil]at hll
 clear hty hln hkn htd hY
 obtain⟨⟨f0,f1,f2,f3,f4,f5,f6,f7,f8⟩,-,-⟩:=blk_facts9 hbk
 clear hX hlw hbk HW hn
 go_enter Tryz.func102,Tryz.ntmps102
 go_upto_region 1 with fail
 try rw[hW0]
 clear hW0
 have HK2:=hidE (wr_kid (Ex.app x y) 0 x S _ W0 (H0.out.rdX HX.out.rd HLT.out) (λg hg=>by have:=HLT.out g hg;omega) rfl)
 go_wp2_with fail
 refine HK2.out.mono ?_
 rintro en k2 ⟨⟨a0,a1,a2,a3,a4,a5,a6,a7,a8,a9,b0,b1,b2,b3,b4,rfl,hr2⟩,c2⟩
 have G2:=hidE (H0.out.next c2)
 have hck2:=c2.size
 have HE2:=hidE (HHW.out x 1 S _ B b _ k2 (by have:=HN.out;omega) (by decide) (HX.out.part (x:=x) (by simp[parts,kidsE,altsE]) G2.out hr2) (by omega))
 have hbc2:=HBK.out.below c2 (by omega)
 have HBK:=hidE hbc2
 clear HK2 c2 hr2 hbc2
 go_wp2_with fail
 refine HE2.out.mono ?_
 rintro en w2 ⟨rfl,h2⟩
 clear HE2
 have H2:=hidE (G2.out.trans h2)
 replace H2:Hid (WPX B b (l++outE x 1) w w2):=hidE (by have:=H2.out;simpa[List.append_assoc,sArr,sCol,sEq,wLet,wIn,wCase,wOf,outE_0] using this)
 have hbk2:=h2.blk HBK.out (by omega) (by decide)
 have HBK:=hidE hbk2
 clear f0 f1 f2 f3 f4 f5 f6 f7 f8
 obtain⟨⟨f0,f1,f2,f3,f4,f5,f6,f7,f8⟩,-,hlt2⟩:=blk_facts9 hbk2
 have hs2:=h2.sz
 clear hbk2
 clear h2
 have hbl2:=H2.out.1.lt
 have HP3:=hidE (wr_put1 (WPX.refl H2.out.1) ⟨#[32]⟩ (by show(l++outE x 1).length+1<=_;rw[List.length_append];omega))
 go_wp2_with fail
 refine HP3.out.mono ?_
 rintro en w3 ⟨rfl,h3⟩
 clear HP3
 have H3:=hidE (H2.out.trans h3)
 replace H3:Hid (WPX B b (l++outE x 1++[32]) w w3):=hidE (by have:=H3.out;simpa[List.append_assoc,sArr,sCol,sEq,wLet,wIn,wCase,wOf] using this)
 have hbk3:=h3.blk HBK.out (by omega) (by decide)
 have HBK:=hidE hbk3
 clear f0 f1 f2 f3 f4 f5 f6 f7 f8
 obtain⟨⟨f0,f1,f2,f3,f4,f5,f6,f7,f8⟩,-,hlt3⟩:=blk_facts9 hbk3
 have hs3:=h3.sz
 clear hbk3
 clear h3
 have hbl3:=H3.out.1.lt
 have HK4:=hidE (wr_kid (Ex.app x y) 1 y S _ w3 (H3.out.rdX HX.out.rd HLT.out) (λg hg=>by have:=HLT.out g hg;omega) rfl)
 go_wp2_with fail
 refine HK4.out.mono ?_
 rintro en k4 ⟨⟨a0,a1,a2,a3,a4,a5,a6,a7,a8,a9,b0,b1,b2,b3,b4,rfl,hr4⟩,c4⟩
 have G4:=hidE (H3.out.next c4)
 have hck4:=c4.size
 have HE4:=hidE (HHW.out y 2 S _ B b _ k4 (by have:=HN.out;omega) (by decide) (HX.out.part (x:=y) (by simp[parts,kidsE,altsE]) G4.out hr4) (by simp only[List.length_append,List.length_cons,List.length_nil];omega))
 have hbc4:=HBK.out.below c4 (by omega)
 have HBK:=hidE hbc4
 clear HK4 c4 hr4 hbc4
 go_wp2_with fail
 refine HE4.out.mono ?_
 rintro en w4 ⟨rfl,h4⟩
 clear HE4
 have H4:=hidE (G4.out.trans h4)
 replace H4:Hid (WPX B b (l++(outE x 1++[32]++outE y 2)) w w4):=hidE (by have:=H4.out;simpa[List.append_assoc,sArr,sCol,sEq,wLet,wIn,wCase,wOf,outE_0] using this)
 clear h4
 have hbl4:=H4.out.1.lt
 go_wp2_with fail
 first|go_end0|refine bodyPost_ret (results_none rfl _ _ _) rfl ?_
 refine⟨rfl,?_⟩
 have:=H4.out
 simpa[List.append_assoc] using this
end Go.Proofs.YtknkclefoiohpaaGreatDoor

namespace Go.Proofs.YtknkclefoiohpaaGreatDoor
open Go.RowKit Lx Tx Sx
set_option maxRecDepth 100000
set_option maxHeartbeats 6400000 in
theorem bare_ann(n:Nat)(HW:WXp n)(y:Ex)(t:Ty)(S:Nat->Prop)(v:Value)(B b:Nat)(l:List UInt8)(w:World)(hn:(Ex.ann y t).size<=n+1)(hX:XIn (Ex.ann y t) S v B b l w)(hll:l.length+(Ex.ann y t).print.length<=40000000000000) :
  Calls Tryz.prog 102 #[.pointer (some ⟨b,0,none⟩),v] w (PutP B b (l++(Ex.ann y t).print) w):=by
 obtain⟨Y,td,K,X,Z,A0,m,q,KA,kn,kc,LA,ln,lc,rfl,hY,htd,hkn,hln,hty⟩:=bx_facts hX
 replace hX:XIn (Ex.ann y t) S (.agg #[.int .i64 7,.string Y,.bool td,.int .i64 K,.string X,.int .i64 Z,.slice A0 m q,.slice KA kn kc,.slice LA ln lc]) B b l w:=hX
 show Calls Tryz.prog _ #[_,.agg #[.int .i64 7,.string Y,.bool td,.int .i64 K,.string X,.int .i64 Z,.slice A0 m q,.slice KA kn kc,.slice LA ln lc]] w _
 have hbl:=hX.bld.lt
 obtain⟨W0,hW0⟩:∃W,w.alloc (.cells #[.int .i64 7,.string Y,.bool td,.int .i64 K,.string X,.int .i64 Z,.slice A0 m q,.slice KA kn kc,.slice LA ln lc] 39)=W:=⟨_,rfl⟩
 have hlw:Below w.heap.size w W0:=hW0▸(Below.refl _ w).alloc (Nat.le_refl _) _
 have hbk:Blk W0 w.heap.size 39 #[.int .i64 7,.string Y,.bool td,.int .i64 K,.string X,.int .i64 Z,.slice A0 m q,.slice KA kn kc,.slice LA ln lc]:=hW0▸heap_alloc_new _ _
 have H0:=hidE ((WPX.refl hX.bld).next hlw)
 have HX:=hidE hX
 have HBK:=hidE hbk
 have HHW:=hidE HW
 have HLT:=hidE hX.lt
 have hlt0:=hbk.lt
 have HN:Hid (y.size<=n):=hidE (by rw[Ex.size]at hn;omega)
 have hpr:(Ex.ann y t).print=40::y.print++[32,58,32]++t.print++[41]:=by rw[Ex.print];rfl
 have HTY:Hid (t.size<=1000000/\Tx.Nm t/\RdV S w t (.agg #[.int .i64 K,.string X,.int .i64 Z,.slice A0 m q])/\t.print.length<=10000000000):=hidE ⟨by have:=hX.wt;rw[Ex.wt]at this;omega,hX.ok.2,hty t rfl,by have h1:=print_wt _ hX.ok;have h2:=hX.wt;rw[hpr]at h1;simp only[List.length_append,List.length_cons,List.length_nil]at h1;omega⟩
 obtain⟨TP,hTP⟩:∃P:ByteArray,⟨t.print.toArray⟩=P:=⟨_,rfl⟩
 have HTP:Hid ((⟨t.print.toArray⟩:ByteArray)=TP):=hidE hTP
 have HTQ:Hid (TP.data.toList=t.print):=hidE (by rw[<-hTP])
 have hTs:TP.size=t.print.length:=by rw[<-hTP];rfl
 rw[hpr]at hll ⊢
 simp only[List.length_append,List.length_cons,List.length_nil]at hll
 clear hty hln hkn htd hY hTP
 obtain⟨⟨f0,f1,f2,f3,f4,f5,f6,f7,f8⟩,-,-⟩:=blk_facts9 hbk
 clear hX hlw hbk HW hn
 go_enter Tryz.func102,Tryz.ntmps102
 go_upto_region 1 with fail
 try rw[hW0]
 clear hW0
 have HP2:=hidE (wr_put1 (WPX.refl H0.out.1) ⟨#[40]⟩ (by show l.length+1<=_;omega))
 go_wp2_with fail
 refine HP2.out.mono ?_
 rintro en w2 ⟨rfl,h2⟩
 clear HP2
 have H2:=hidE (H0.out.trans h2)
 replace H2:Hid (WPX B b (l++[40]) w w2):=hidE (by have:=H2.out;simpa[List.append_assoc,sArr,sCol,sEq,wLet,wIn,wCase,wOf] using this)
 have hbk2:=h2.blk HBK.out (by omega) (by decide)
 have HBK:=hidE hbk2
 clear f0 f1 f2 f3 f4 f5 f6 f7 f8
 obtain⟨⟨f0,f1,f2,f3,f4,f5,f6,f7,f8⟩,-,hlt2⟩:=blk_facts9 hbk2
 have hs2:=h2.sz
 clear hbk2
 clear h2
 have hbl2:=H2.out.1.lt
 have HK3:=hidE (wr_kid (Ex.ann y t) 0 y S _ w2 (H2.out.rdX HX.out.rd HLT.out) (λg hg=>by have:=HLT.out g hg;omega) rfl)
 go_wp2_with fail
 refine HK3.out.mono ?_
 rintro en k3 ⟨⟨a0,a1,a2,a3,a4,a5,a6,a7,a8,a9,b0,b1,b2,b3,b4,rfl,hr3⟩,c3⟩
 have G3:=hidE (H2.out.next c3)
 have hck3:=c3.size
 have HE3:=hidE (HHW.out y 0 S _ B b _ k3 (by have:=HN.out;omega) (by decide) (HX.out.part (x:=y) (by simp[parts,kidsE,altsE]) G3.out hr3) (by rw[outE_0];simp only[List.length_append,List.length_cons,List.length_nil];omega))
 have hbc3:=HBK.out.below c3 (by omega)
 have HBK:=hidE hbc3
 clear HK3 c3 hr3 hbc3
 go_wp2_with fail
 refine HE3.out.mono ?_
 rintro en w3 ⟨rfl,h3⟩
 clear HE3
 have H3:=hidE (G3.out.trans h3)
 replace H3:Hid (WPX B b (l++(40::y.print)) w w3):=hidE (by have:=H3.out;simpa[List.append_assoc,sArr,sCol,sEq,wLet,wIn,wCase,wOf,outE_0] using this)
 have hbk3:=h3.blk HBK.out (by omega) (by decide)
 have HBK:=hidE hbk3
 clear f0 f1 f2 f3 f4 f5 f6 f7 f8
 obtain⟨⟨f0,f1,f2,f3,f4,f5,f6,f7,f8⟩,-,hlt3⟩:=blk_facts9 hbk3
 have hs3:=h3.sz
 clear hbk3
 clear h3
 have hbl3:=H3.out.1.lt
 have HT4:Hid (∀U,Below w3.heap.size w3 U->Calls Tryz.prog 22 #[.agg #[.int .i64 K,.string X,.int .i64 Z,.slice A0 m q]] U λe w'=>e=.returned (.string TP)/\Below U.heap.size U w'):=hidE λU hU=>(tc_print t S _ U HTY.out.1 HTY.out.2.1 (HTY.out.2.2.1.keep (λ_ h=>h) (λg hg=>(hU.block g (by have:=HLT.out g hg;omega)).trans (H3.out.2.1.block g (HLT.out g hg)))) (λg hg=>by have:=HLT.out g hg;have:=hU.size;omega) ((H3.out.tab HX.out.tab HX.out.glob).below hU) HTY.out.2.2.2).mono λe w' ⟨h1,h2⟩=>⟨by rw[h1,HTP.out],h2⟩
 go_wp2_with fail
 go_region_with (first
  |(go_at_call 22;(with_reducible refine(HT4.out _ (by first|exact Below.refl _ _|exact(Below.refl _ _).drew)).mono ?_);rintro en k4 ⟨rfl,c4⟩;have GK4:Hid (Below w3.heap.size w3 k4):=hidE ((Below.refl w3.heap.size w3).drew.trans c4);have G4:=hidE (H3.out.next GK4.out);have HP4:=hidE (wr_put3 (WPX.refl G4.out.1) ⟨#[32,58,32]⟩ TP ⟨#[41]⟩ (by show(l++(40::y.print)).length+3+TP.size+1<=_;simp only[List.length_append,List.length_cons];omega));clear c4)
  |(go_at_call 87;(with_reducible refine HP4.out.mono ?_);rintro en w4 ⟨rfl,h4⟩))
 all_goals
  rw[HTQ.out]at h4
  have hbc4:=HBK.out.below GK4.out (by omega)
  have HBK:=hidE hbc4
  have hck4:=GK4.out.size
  have H4:=hidE (G4.out.trans h4)
  replace H4:Hid (WPX B b (l++(40::y.print++[32,58,32]++t.print++[41])) w w4):=hidE (by have:=H4.out;simpa[List.append_assoc,sArr,sCol,sEq,wLet,wIn,wCase,wOf] using this)
  clear h4
  have hbl4:=H4.out.1.lt
  go_wp2_with fail
  first|go_end0|refine bodyPost_ret (results_none rfl _ _ _) rfl ?_
  refine⟨rfl,?_⟩
  have:=H4.out
  simpa[List.append_assoc] using this
set_option maxHeartbeats 6400000 in
theorem let_none(n:Nat)(HW:WXp n)(x:Nm)(y z:Ex)(S:Nat->Prop)(v:Value)(B b:Nat)(l:List UInt8)(w:World)(hn:(Ex.lt x none y z).size<=n+1)(hX:XIn (Ex.lt x none y z) S v B b l w)(hll:l.length+(Ex.lt x none y z).print.length<=40000000000000) :
  Calls Tryz.prog 144 #[.pointer (some ⟨b,0,none⟩),v] w (PutP B b (l++(Ex.lt x none y z).print) w):=by
 obtain⟨Y,td,K,X,Z,A0,m,q,KA,kn,kc,LA,ln,lc,rfl,hY,rfl,hkn,hln,hty⟩:=bx_facts hX
 replace hX:XIn (Ex.lt x none y z) S (.agg #[.int .i64 5,.string Y,.bool false,.int .i64 K,.string X,.int .i64 Z,.slice A0 m q,.slice KA kn kc,.slice LA ln lc]) B b l w:=hX
 show Calls Tryz.prog _ #[_,.agg #[.int .i64 5,.string Y,.bool false,.int .i64 K,.string X,.int .i64 Z,.slice A0 m q,.slice KA kn kc,.slice LA ln lc]] w _
 have hbl:=hX.bld.lt
 obtain⟨W0,hW0⟩:∃W,w.alloc (.cells #[.int .i64 5,.string Y,.bool false,.int .i64 K,.string X,.int .i64 Z,.slice A0 m q,.slice KA kn kc,.slice LA ln lc] 39)=W:=⟨_,rfl⟩
 have hlw:Below w.heap.size w W0:=hW0▸(Below.refl _ w).alloc (Nat.le_refl _) _
 have hbk:Blk W0 w.heap.size 39 #[.int .i64 5,.string Y,.bool false,.int .i64 K,.string X,.int .i64 Z,.slice A0 m q,.slice KA kn kc,.slice LA ln lc]:=hW0▸heap_alloc_new _ _
 have H0:=hidE ((WPX.refl hX.bld).next hlw)
 have HX:=hidE hX
 have HBK:=hidE hbk
 have HHW:=hidE HW
 have HLT:=hidE hX.lt
 have hlt0:=hbk.lt
 have HN:Hid (y.size<=n/\z.size<=n):=hidE (by rw[Ex.size]at hn;omega)
 have hpr:(Ex.lt x none y z).print=[108,101,116,32]++x++([])++[32,61,32]++y.print++[32,105,110,32]++z.print:=by rw[Ex.print];simp[toldS,sEq,wLet,wIn]
 have hY2:Y.data.toList=x:=hY
 have hYs:Y.size=x.length:=by rw[Lib.size_eq,hY2]
 rw[hpr]at hll ⊢
 simp only[List.length_append,List.length_cons,List.length_nil]at hll
 clear hty hln hkn
 obtain⟨⟨f0,f1,f2,f3,f4,f5,f6,f7,f8⟩,-,-⟩:=blk_facts9 hbk
 clear hX hlw hbk HW hn
 go_enter Tryz.func144,Tryz.ntmps144
 go_upto_region 1 with fail
 try rw[hW0]
 clear hW0
 have HP2:=hidE (wr_put2d H0.out.1 ⟨#[108,101,116,32]⟩ Y (by show l.length+4+Y.size<=_;omega))
 go_wp2_with fail
 go_region_with (go_at_call 87;(with_reducible refine HP2.out.mono ?_);rintro en w2 ⟨rfl,h2⟩)
 all_goals
  rw[hY2]at h2
  have H2:=hidE (H0.out.trans h2)
  replace H2:Hid (WPX B b (l++([108,101,116,32]++x)) w w2):=hidE (by have:=H2.out;simpa[List.append_assoc,sArr,sCol,sEq,wLet,wIn,wCase,wOf] using this)
  have hbk2:=h2.blk HBK.out (by omega) (by decide)
  have HBK:=hidE hbk2
  clear f0 f1 f2 f3 f4 f5 f6 f7 f8
  obtain⟨⟨f0,f1,f2,f3,f4,f5,f6,f7,f8⟩,-,hlt2⟩:=blk_facts9 hbk2
  have hs2:=h2.sz
  clear hbk2
  clear h2
  have hbl2:=H2.out.1.lt
  have HP3:=hidE (wr_put1 (WPX.refl H2.out.1) ⟨#[32,61,32]⟩ (by show(l++([108,101,116,32]++x)).length+3<=_;simp only[List.length_append,List.length_cons,List.length_nil];omega))
  go_wp2_with fail
  refine HP3.out.mono ?_
  rintro en w3 ⟨rfl,h3⟩
  clear HP3
  have H3:=hidE (H2.out.trans h3)
  replace H3:Hid (WPX B b (l++([108,101,116,32]++x++[32,61,32])) w w3):=hidE (by have:=H3.out;simpa[List.append_assoc,sArr,sCol,sEq,wLet,wIn,wCase,wOf] using this)
  have hbk3:=h3.blk HBK.out (by omega) (by decide)
  have HBK:=hidE hbk3
  clear f0 f1 f2 f3 f4 f5 f6 f7 f8
  obtain⟨⟨f0,f1,f2,f3,f4,f5,f6,f7,f8⟩,-,hlt3⟩:=blk_facts9 hbk3
  have hs3:=h3.sz
  clear hbk3
  clear h3
  have hbl3:=H3.out.1.lt
  have HK4:=hidE (wr_kid (Ex.lt x none y z) 0 y S _ w3 (H3.out.rdX HX.out.rd HLT.out) (λg hg=>by have:=HLT.out g hg;omega) rfl)
  go_wp2_with fail
  refine HK4.out.mono ?_
  rintro en k4 ⟨⟨a0,a1,a2,a3,a4,a5,a6,a7,a8,a9,b0,b1,b2,b3,b4,rfl,hr4⟩,c4⟩
  have G4:=hidE (H3.out.next c4)
  have hck4:=c4.size
  have HE4:=hidE (HHW.out y 0 S _ B b _ k4 (by have:=HN.out;omega) (by decide) (HX.out.part (x:=y) (by simp[parts,kidsE,altsE]) G4.out hr4) (by rw[outE_0];simp only[List.length_append,List.length_cons,List.length_nil];omega))
  have hbc4:=HBK.out.below c4 (by omega)
  have HBK:=hidE hbc4
  clear HK4 c4 hr4 hbc4
  go_wp2_with fail
  refine HE4.out.mono ?_
  rintro en w4 ⟨rfl,h4⟩
  clear HE4
  have H4:=hidE (G4.out.trans h4)
  replace H4:Hid (WPX B b (l++([108,101,116,32]++x++[32,61,32]++y.print)) w w4):=hidE (by have:=H4.out;simpa[List.append_assoc,sArr,sCol,sEq,wLet,wIn,wCase,wOf,outE_0] using this)
  have hbk4:=h4.blk HBK.out (by omega) (by decide)
  have HBK:=hidE hbk4
  clear f0 f1 f2 f3 f4 f5 f6 f7 f8
  obtain⟨⟨f0,f1,f2,f3,f4,f5,f6,f7,f8⟩,-,hlt4⟩:=blk_facts9 hbk4
  have hs4:=h4.sz
  clear hbk4
  clear h4
  have hbl4:=H4.out.1.lt
  have HP5:=hidE (wr_put1 (WPX.refl H4.out.1) ⟨#[32,105,110,32]⟩ (by show(l++([108,101,116,32]++x++[32,61,32]++y.print)).length+4<=_;simp only[List.length_append,List.length_cons,List.length_nil];omega))
  go_wp2_with fail
  refine HP5.out.mono ?_
  rintro en w5 ⟨rfl,h5⟩
  clear HP5
  have H5:=hidE (H4.out.trans h5)
  replace H5:Hid (WPX B b (l++([108,101,116,32]++x++[32,61,32]++y.print++[32,105,110,32])) w w5):=hidE (by have:=H5.out;simpa[List.append_assoc,sArr,sCol,sEq,wLet,wIn,wCase,wOf] using this)
  have hbk5:=h5.blk HBK.out (by omega) (by decide)
  have HBK:=hidE hbk5
  clear f0 f1 f2 f3 f4 f5 f6 f7 f8
  obtain⟨⟨f0,f1,f2,f3,f4,f5,f6,f7,f8⟩,-,hlt5⟩:=blk_facts9 hbk5
  have hs5:=h5.sz
  clear hbk5
  clear h5
  have hbl5:=H5.out.1.lt
  have HK6:=hidE (wr_kid (Ex.lt x none y z) 1 z S _ w5 (H5.out.rdX HX.out.rd HLT.out) (λg hg=>by have:=HLT.out g hg;omega) rfl)
  go_wp2_with fail
  refine HK6.out.mono ?_
  rintro en k6 ⟨⟨a0,a1,a2,a3,a4,a5,a6,a7,a8,a9,b0,b1,b2,b3,b4,rfl,hr6⟩,c6⟩
  have G6:=hidE (H5.out.next c6)
  have hck6:=c6.size
  have HE6:=hidE (HHW.out z 0 S _ B b _ k6 (by have:=HN.out;omega) (by decide) (HX.out.part (x:=z) (by simp[parts,kidsE,altsE]) G6.out hr6) (by rw[outE_0];simp only[List.length_append,List.length_cons,List.length_nil];omega))
  have hbc6:=HBK.out.below c6 (by omega)
  have HBK:=hidE hbc6
  clear HK6 c6 hr6 hbc6
  go_wp2_with fail
  refine HE6.out.mono ?_
  rintro en w6 ⟨rfl,h6⟩
  clear HE6
  have H6:=hidE (G6.out.trans h6)
  replace H6:Hid (WPX B b (l++([108,101,116,32]++x++[32,61,32]++y.print++[32,105,110,32]++z.print)) w w6):=hidE (by have:=H6.out;simpa[List.append_assoc,sArr,sCol,sEq,wLet,wIn,wCase,wOf,outE_0] using this)
  clear h6
  have hbl6:=H6.out.1.lt
  go_wp2_with fail
  first|go_end0|refine bodyPost_ret (results_none rfl _ _ _) rfl ?_
  refine⟨rfl,?_⟩
  have:=H6.out
  simpa[List.append_assoc] using this
set_option maxHeartbeats 6400000 in
theorem let_some(n:Nat)(HW:WXp n)(x:Nm)(t:Ty)(y z:Ex)(S:Nat->Prop)(v:Value)(B b:Nat)(l:List UInt8)(w:World)(hn:(Ex.lt x (some t) y z).size<=n+1)(hX:XIn (Ex.lt x (some t) y z) S v B b l w)(hll:l.length+(Ex.lt x (some t) y z).print.length<=40000000000000) :
  Calls Tryz.prog 144 #[.pointer (some ⟨b,0,none⟩),v] w (PutP B b (l++(Ex.lt x (some t) y z).print) w):=by
 obtain⟨Y,td,K,X,Z,A0,m,q,KA,kn,kc,LA,ln,lc,rfl,hY,rfl,hkn,hln,hty⟩:=bx_facts hX
 replace hX:XIn (Ex.lt x (some t) y z) S (.agg #[.int .i64 5,.string Y,.bool true,.int .i64 K,.string X,.int .i64 Z,.slice A0 m q,.slice KA kn kc,.slice LA ln lc]) B b l w:=hX
 show Calls Tryz.prog _ #[_,.agg #[.int .i64 5,.string Y,.bool true,.int .i64 K,.string X,.int .i64 Z,.slice A0 m q,.slice KA kn kc,.slice LA ln lc]] w _
 have hbl:=hX.bld.lt
 obtain⟨W0,hW0⟩:∃W,w.alloc (.cells #[.int .i64 5,.string Y,.bool true,.int .i64 K,.string X,.int .i64 Z,.slice A0 m q,.slice KA kn kc,.slice LA ln lc] 39)=W:=⟨_,rfl⟩
 have hlw:Below w.heap.size w W0:=hW0▸(Below.refl _ w).alloc (Nat.le_refl _) _
 have hbk:Blk W0 w.heap.size 39 #[.int .i64 5,.string Y,.bool true,.int .i64 K,.string X,.int .i64 Z,.slice A0 m q,.slice KA kn kc,.slice LA ln lc]:=hW0▸heap_alloc_new _ _
 have H0:=hidE ((WPX.refl hX.bld).next hlw)
 have HX:=hidE hX
 have HBK:=hidE hbk
 have HHW:=hidE HW
 have HLT:=hidE hX.lt
 have hlt0:=hbk.lt
 have HN:Hid (y.size<=n/\z.size<=n):=hidE (by rw[Ex.size]at hn;omega)
 have hpr:(Ex.lt x (some t) y z).print=[108,101,116,32]++x++([32,58,32]++t.print)++[32,61,32]++y.print++[32,105,110,32]++z.print:=by rw[Ex.print];simp[toldS,sCol,sEq,wLet,wIn]
 have hY2:Y.data.toList=x:=hY
 have hYs:Y.size=x.length:=by rw[Lib.size_eq,hY2]
 have HTY:Hid (t.size<=1000000/\Tx.Nm t/\RdV S w t (.agg #[.int .i64 K,.string X,.int .i64 Z,.slice A0 m q])/\t.print.length<=10000000000):=hidE ⟨by have:=hX.wt;rw[Ex.wt,toldW]at this;omega,hX.ok.2.1 t rfl,hty t rfl,by have h1:=print_wt _ hX.ok;have h2:=hX.wt;rw[hpr]at h1;simp only[List.length_append,List.length_cons,List.length_nil]at h1;omega⟩
 obtain⟨TP,hTP⟩:∃P:ByteArray,⟨t.print.toArray⟩=P:=⟨_,rfl⟩
 have HTP:Hid ((⟨t.print.toArray⟩:ByteArray)=TP):=hidE hTP
 have HTQ:Hid (TP.data.toList=t.print):=hidE (by rw[<-hTP])
 have hTs:TP.size=t.print.length:=by rw[<-hTP];rfl
 rw[hpr]at hll ⊢
 simp only[List.length_append,List.length_cons,List.length_nil]at hll
 clear hty hln hkn hTP
 obtain⟨⟨f0,f1,f2,f3,f4,f5,f6,f7,f8⟩,-,-⟩:=blk_facts9 hbk
 clear hX hlw hbk HW hn
 go_enter Tryz.func144,Tryz.ntmps144
 go_upto_region 1 with fail
 try rw[hW0]
 clear hW0
 have HP2:=hidE (wr_put2d H0.out.1 ⟨#[108,101,116,32]⟩ Y (by show l.length+4+Y.size<=_;omega))
 go_wp2_with fail
 go_region_with (go_at_call 87;(with_reducible refine HP2.out.mono ?_);rintro en w2 ⟨rfl,h2⟩)
 all_goals
  rw[hY2]at h2
  have H2:=hidE (H0.out.trans h2)
  replace H2:Hid (WPX B b (l++([108,101,116,32]++x)) w w2):=hidE (by have:=H2.out;simpa[List.append_assoc,sArr,sCol,sEq,wLet,wIn,wCase,wOf] using this)
  have hbk2:=h2.blk HBK.out (by omega) (by decide)
  have HBK:=hidE hbk2
  clear f0 f1 f2 f3 f4 f5 f6 f7 f8
  obtain⟨⟨f0,f1,f2,f3,f4,f5,f6,f7,f8⟩,-,hlt2⟩:=blk_facts9 hbk2
  have hs2:=h2.sz
  clear hbk2
  clear h2
  have hbl2:=H2.out.1.lt
  have HT3:Hid (∀U,Below w2.heap.size w2 U->Calls Tryz.prog 22 #[.agg #[.int .i64 K,.string X,.int .i64 Z,.slice A0 m q]] U λe w'=>e=.returned (.string TP)/\Below U.heap.size U w'):=hidE λU hU=>(tc_print t S _ U HTY.out.1 HTY.out.2.1 (HTY.out.2.2.1.keep (λ_ h=>h) (λg hg=>(hU.block g (by have:=HLT.out g hg;omega)).trans (H2.out.2.1.block g (HLT.out g hg)))) (λg hg=>by have:=HLT.out g hg;have:=hU.size;omega) ((H2.out.tab HX.out.tab HX.out.glob).below hU) HTY.out.2.2.2).mono λe w' ⟨h1,h2⟩=>⟨by rw[h1,HTP.out],h2⟩
  go_wp2_with fail
  go_region_with (first
   |(go_at_call 22;(with_reducible refine(HT3.out _ (by first|exact Below.refl _ _|exact(Below.refl _ _).drew)).mono ?_);rintro en k3 ⟨rfl,c3⟩;have GK3:Hid (Below w2.heap.size w2 k3):=hidE ((Below.refl w2.heap.size w2).drew.trans c3);have G3:=hidE (H2.out.next GK3.out);have HP3:=hidE (wr_put2 (WPX.refl G3.out.1) ⟨#[32,58,32]⟩ TP (by show(l++([108,101,116,32]++x)).length+3+TP.size<=_;simp only[List.length_append,List.length_cons,List.length_nil];omega));clear c3)
   |(go_at_call 87;(with_reducible refine HP3.out.mono ?_);rintro en w3 ⟨rfl,h3⟩))
  all_goals
   rw[HTQ.out]at h3
   have hbc3:=HBK.out.below GK3.out (by omega)
   have HBK:=hidE hbc3
   have hck3:=GK3.out.size
   have H3:=hidE (G3.out.trans h3)
   replace H3:Hid (WPX B b (l++([108,101,116,32]++x++([32,58,32]++t.print))) w w3):=hidE (by have:=H3.out;simpa[List.append_assoc,sArr,sCol,sEq,wLet,wIn,wCase,wOf] using this)
   have hbk3:=h3.blk HBK.out (by omega) (by decide)
   have HBK:=hidE hbk3
   clear f0 f1 f2 f3 f4 f5 f6 f7 f8
   obtain⟨⟨f0,f1,f2,f3,f4,f5,f6,f7,f8⟩,-,hlt3⟩:=blk_facts9 hbk3
   have hs3:=h3.sz
   clear hbk3
   clear h3
   have hbl3:=H3.out.1.lt
   have HP4:=hidE (wr_put1 (WPX.refl H3.out.1) ⟨#[32,61,32]⟩ (by show(l++([108,101,116,32]++x++([32,58,32]++t.print))).length+3<=_;simp only[List.length_append,List.length_cons,List.length_nil];omega))
   go_wp2_with fail
   refine HP4.out.mono ?_
   rintro en w4 ⟨rfl,h4⟩
   clear HP4
   have H4:=hidE (H3.out.trans h4)
   replace H4:Hid (WPX B b (l++([108,101,116,32]++x++([32,58,32]++t.print)++[32,61,32])) w w4):=hidE (by have:=H4.out;simpa[List.append_assoc,sArr,sCol,sEq,wLet,wIn,wCase,wOf] using this)
   have hbk4:=h4.blk HBK.out (by omega) (by decide)
   have HBK:=hidE hbk4
   clear f0 f1 f2 f3 f4 f5 f6 f7 f8
   obtain⟨⟨f0,f1,f2,f3,f4,f5,f6,f7,f8⟩,-,hlt4⟩:=blk_facts9 hbk4
   have hs4:=h4.sz
   clear hbk4
   clear h4
   have hbl4:=H4.out.1.lt
   have HK5:=hidE (wr_kid (Ex.lt x (some t) y z) 0 y S _ w4 (H4.out.rdX HX.out.rd HLT.out) (λg hg=>by have:=HLT.out g hg;omega) rfl)
   go_wp2_with fail
   refine HK5.out.mono ?_
   rintro en k5 ⟨⟨a0,a1,a2,a3,a4,a5,a6,a7,a8,a9,b0,b1,b2,b3,b4,rfl,hr5⟩,c5⟩
   have G5:=hidE (H4.out.next c5)
   have hck5:=c5.size
   have HE5:=hidE (HHW.out y 0 S _ B b _ k5 (by have:=HN.out;omega) (by decide) (HX.out.part (x:=y) (by simp[parts,kidsE,altsE]) G5.out hr5) (by rw[outE_0];simp only[List.length_append,List.length_cons,List.length_nil];omega))
   have hbc5:=HBK.out.below c5 (by omega)
   have HBK:=hidE hbc5
   clear HK5 c5 hr5 hbc5
   go_wp2_with fail
   refine HE5.out.mono ?_
   rintro en w5 ⟨rfl,h5⟩
   clear HE5
   have H5:=hidE (G5.out.trans h5)
   replace H5:Hid (WPX B b (l++([108,101,116,32]++x++([32,58,32]++t.print)++[32,61,32]++y.print)) w w5):=hidE (by have:=H5.out;simpa[List.append_assoc,sArr,sCol,sEq,wLet,wIn,wCase,wOf,outE_0] using this)
   have hbk5:=h5.blk HBK.out (by omega) (by decide)
   have HBK:=hidE hbk5
   clear f0 f1 f2 f3 f4 f5 f6 f7 f8
   obtain⟨⟨f0,f1,f2,f3,f4,f5,f6,f7,f8⟩,-,hlt5⟩:=blk_facts9 hbk5
   have hs5:=h5.sz
   clear hbk5
   clear h5
   have hbl5:=H5.out.1.lt
   have HP6:=hidE (wr_put1 (WPX.refl H5.out.1) ⟨#[32,105,110,32]⟩ (by show(l++([108,101,116,32]++x++([32,58,32]++t.print)++[32,61,32]++y.print)).length+4<=_;simp only[List.length_append,List.length_cons,List.length_nil];omega))
   go_wp2_with fail
   refine HP6.out.mono ?_
   rintro en w6 ⟨rfl,h6⟩
   clear HP6
   have H6:=hidE (H5.out.trans h6)
   replace H6:Hid (WPX B b (l++([108,101,116,32]++x++([32,58,32]++t.print)++[32,61,32]++y.print++[32,105,110,32])) w w6):=hidE (by have:=H6.out;simpa[List.append_assoc,sArr,sCol,sEq,wLet,wIn,wCase,wOf] using this)
   have hbk6:=h6.blk HBK.out (by omega) (by decide)
   have HBK:=hidE hbk6
   clear f0 f1 f2 f3 f4 f5 f6 f7 f8
   obtain⟨⟨f0,f1,f2,f3,f4,f5,f6,f7,f8⟩,-,hlt6⟩:=blk_facts9 hbk6
   have hs6:=h6.sz
   clear hbk6
   clear h6
   have hbl6:=H6.out.1.lt
   have HK7:=hidE (wr_kid (Ex.lt x (some t) y z) 1 z S _ w6 (H6.out.rdX HX.out.rd HLT.out) (λg hg=>by have:=HLT.out g hg;omega) rfl)
   go_wp2_with fail
   refine HK7.out.mono ?_
   rintro en k7 ⟨⟨a0,a1,a2,a3,a4,a5,a6,a7,a8,a9,b0,b1,b2,b3,b4,rfl,hr7⟩,c7⟩
   have G7:=hidE (H6.out.next c7)
   have hck7:=c7.size
   have HE7:=hidE (HHW.out z 0 S _ B b _ k7 (by have:=HN.out;omega) (by decide) (HX.out.part (x:=z) (by simp[parts,kidsE,altsE]) G7.out hr7) (by rw[outE_0];simp only[List.length_append,List.length_cons,List.length_nil];omega))
   have hbc7:=HBK.out.below c7 (by omega)
   have HBK:=hidE hbc7
   clear HK7 c7 hr7 hbc7
   go_wp2_with fail
   refine HE7.out.mono ?_
   rintro en w7 ⟨rfl,h7⟩
   clear HE7
   have H7:=hidE (G7.out.trans h7)
   replace H7:Hid (WPX B b (l++([108,101,116,32]++x++([32,58,32]++t.print)++[32,61,32]++y.print++[32,105,110,32]++z.print)) w w7):=hidE (by have:=H7.out;simpa[List.append_assoc,sArr,sCol,sEq,wLet,wIn,wCase,wOf,outE_0] using this)
   clear h7
   have hbl7:=H7.out.1.lt
   go_wp2_with fail
   first|go_end0|refine bodyPost_ret (results_none rfl _ _ _) rfl ?_
   refine⟨rfl,?_⟩
   have:=H7.out
   simpa[List.append_assoc] using this
end Go.Proofs.YtknkclefoiohpaaGreatDoor
