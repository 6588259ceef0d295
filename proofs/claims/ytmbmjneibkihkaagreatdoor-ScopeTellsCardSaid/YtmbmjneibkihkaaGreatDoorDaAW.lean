/-
  Contracts of the code's functions, part 49.
-/
import Derived.Test.YtmbmjneibkihkaaGreatDoorDaAG
import Derived.Test.YtmbmjneibkihkaaGreatDoorDaAU
import Derived.Test.YtmbmjneibkihkaaGreatDoorDaAV
import Derived.Deep.RegionHeld3
import Derived.Deep.CutRange
namespace Go.Proofs.YtmbmjneibkihkaaGreatDoor
open Go.RowKit Lx Tx Sx
set_option maxRecDepth 100000
theorem nil_row(w:World):RowV w (.slice none 0 0) (Go.Proofs.YtmbmjneibkihkaaGreatDoor.strV []):=⟨none,0,rfl,λh=>absurd h (by simp[Go.Proofs.YtmbmjneibkihkaaGreatDoor.strV])⟩
theorem RowV.nms {w:World} {v:Value} {L:List Nm}(h:RowV w v (Go.Proofs.YtmbmjneibkihkaaGreatDoor.strV L)):∃A c,v=.slice A L.length c/\NmsIn (λg=>g<w.heap.size) w L A:=by
 obtain⟨A,c,rfl,hp⟩:=h
 refine⟨A,c,by rw[strV_len],λhL=>?_⟩
 obtain⟨g,h1,h2,h3⟩:=hp (by rw[strV_len];exact List.length_pos_iff.2 hL)
 refine⟨g,h1,h2,λj u hu=>?_⟩
 rw[Nat.zero_add]
 exact h3 j u (by simpa[Go.Proofs.YtmbmjneibkihkaaGreatDoor.strV,Sx.strV] using hu)
def RowP(w:World)(L:List Nm)(e:Ending)(w':World):Prop:=∃v,e=.returned v/\RowV w' v (Go.Proofs.YtmbmjneibkihkaaGreatDoor.strV L)/\Below w.heap.size w w'
set_option maxHeartbeats 1600000 in
theorem d9_Free(e:Ex)(S:Nat->Prop)(v:Value)(w:World)(hv:RdX S w e v)(hS:∀g,S g->g<w.heap.size)(hwt:e.wt<=9000):Calls Tryz.prog 27 #[v] w (RowP w (freeE e)):=by
 obtain⟨K,X,Z,A0,m,q,KA,kc,LA,lc,rfl,hin⟩:=hv.shape
 obtain⟨kd,hkd⟩:∃x,kdE e=x:=⟨_,rfl⟩
 obtain⟨Y,hY⟩:∃Y:ByteArray,⟨(nmE e).toArray⟩=Y:=⟨_,rfl⟩
 obtain⟨td,htd⟩:∃x,toE e=x:=⟨_,rfl⟩
 obtain⟨kn,hkn⟩:∃x,(kidsE e).length=x:=⟨_,rfl⟩
 obtain⟨ln,hln⟩:∃x,(altsE e).length=x:=⟨_,rfl⟩
 rw[hkd,hY,htd,hkn,hln]at hv ⊢
 obtain⟨W0,hW0⟩:∃W,w.alloc (.cells #[.int .i64 (kd:Nat),.string Y,.bool td,.int .i64 K,.string X,.int .i64 Z,.slice A0 m q,.slice KA kn kc,.slice LA ln lc] 48)=W:=⟨_,rfl⟩
 have hlw:Below w.heap.size w W0:=hW0▸(Below.refl _ w).alloc (Nat.le_refl _) _
 have hbk:Blk W0 w.heap.size 48 #[.int .i64 (kd:Nat),.string Y,.bool td,.int .i64 K,.string X,.int .i64 Z,.slice A0 m q,.slice KA kn kc,.slice LA ln lc]:=hW0▸heap_alloc_new _ _
 obtain⟨⟨f0,f1,f2,f3,f4,f5,f6,f7,f8⟩,-,hlt0⟩:=blk_facts9 hbk
 have h1:=d9_free e.size e S _ (.slice none 0 0) (.slice none 0 0) [] [] W0 (Nat.le_refl _) (hv.keep (λ_ h=>h) (λg hg=>hlw.block g (hS g hg))) (λg hg=>by have:=hS g hg;have:=hlw.size;omega) (nil_row _) (nil_row _) (by simp only[List.length_nil];omega) (by simp only[List.length_nil];omega)
 have HC:=hidE h1
 have HLW:=hidE hlw
 have HF:Hid (frAD [] [] e=freeE e):=hidE (by unfold frAD freeE;rw[but_nil])
 clear hv hin hkd hY htd hkn hln hlw hbk h1 hS
 go_enter Tryz.func27,Tryz.ntmps27
 go_wp2_with fail
 try rw[hW0]
 refine HC.out.mono ?_
 rintro e1 w1 ⟨v1,rfl,h2,b2⟩
 have H2:=hidE h2
 have B2:=hidE b2
 clear h2 b2 HC hW0
 go_wp2_with fail
 go_ret
 exact⟨_,rfl,by rw[<-HF.out];exact H2.out,HLW.out.trans (B2.out.mono HLW.out.size)⟩
set_option maxHeartbeats 1600000 in
theorem d9_Cons(e:Ex)(S:Nat->Prop)(v:Value)(w:World)(hv:RdX S w e v)(hS:∀g,S g->g<w.heap.size)(hwt:e.wt<=9000):Calls Tryz.prog 29 #[v] w (RowP w (consE e)):=by
 obtain⟨K,X,Z,A0,m,q,KA,kc,LA,lc,rfl,hin⟩:=hv.shape
 obtain⟨kd,hkd⟩:∃x,kdE e=x:=⟨_,rfl⟩
 obtain⟨Y,hY⟩:∃Y:ByteArray,⟨(nmE e).toArray⟩=Y:=⟨_,rfl⟩
 obtain⟨td,htd⟩:∃x,toE e=x:=⟨_,rfl⟩
 obtain⟨kn,hkn⟩:∃x,(kidsE e).length=x:=⟨_,rfl⟩
 obtain⟨ln,hln⟩:∃x,(altsE e).length=x:=⟨_,rfl⟩
 rw[hkd,hY,htd,hkn,hln]at hv ⊢
 obtain⟨W0,hW0⟩:∃W,w.alloc (.cells #[.int .i64 (kd:Nat),.string Y,.bool td,.int .i64 K,.string X,.int .i64 Z,.slice A0 m q,.slice KA kn kc,.slice LA ln lc] 48)=W:=⟨_,rfl⟩
 have hlw:Below w.heap.size w W0:=hW0▸(Below.refl _ w).alloc (Nat.le_refl _) _
 have hbk:Blk W0 w.heap.size 48 #[.int .i64 (kd:Nat),.string Y,.bool td,.int .i64 K,.string X,.int .i64 Z,.slice A0 m q,.slice KA kn kc,.slice LA ln lc]:=hW0▸heap_alloc_new _ _
 obtain⟨⟨f0,f1,f2,f3,f4,f5,f6,f7,f8⟩,-,hlt0⟩:=blk_facts9 hbk
 have h1:=d9_cons e.size e S _ (.slice none 0 0) [] W0 (Nat.le_refl _) (hv.keep (λ_ h=>h) (λg hg=>hlw.block g (hS g hg))) (λg hg=>by have:=hS g hg;have:=hlw.size;omega) (nil_row _) (by simp only[List.length_nil];omega)
 have HC:=hidE h1
 have HLW:=hidE hlw
 have HF:Hid (addA [] (cns e)=consE e):=hidE rfl
 clear hv hin hkd hY htd hkn hln hlw hbk h1 hS
 go_enter Tryz.func29,Tryz.ntmps29
 go_wp2_with fail
 try rw[hW0]
 refine HC.out.mono ?_
 rintro e1 w1 ⟨v1,rfl,h2,b2⟩
 have H2:=hidE h2
 have B2:=hidE b2
 clear h2 b2 HC hW0
 go_wp2_with fail
 go_ret
 exact⟨_,rfl,by rw[<-HF.out];exact H2.out,HLW.out.trans (B2.out.mono HLW.out.size)⟩
set_option maxHeartbeats 1600000 in
theorem d9_Bound(e:Ex)(S:Nat->Prop)(v:Value)(w:World)(hv:RdX S w e v)(hS:∀g,S g->g<w.heap.size)(hwt:e.wt<=9000):Calls Tryz.prog 31 #[v] w (RowP w (boundE e)):=by
 obtain⟨K,X,Z,A0,m,q,KA,kc,LA,lc,rfl,hin⟩:=hv.shape
 obtain⟨kd,hkd⟩:∃x,kdE e=x:=⟨_,rfl⟩
 obtain⟨Y,hY⟩:∃Y:ByteArray,⟨(nmE e).toArray⟩=Y:=⟨_,rfl⟩
 obtain⟨td,htd⟩:∃x,toE e=x:=⟨_,rfl⟩
 obtain⟨kn,hkn⟩:∃x,(kidsE e).length=x:=⟨_,rfl⟩
 obtain⟨ln,hln⟩:∃x,(altsE e).length=x:=⟨_,rfl⟩
 rw[hkd,hY,htd,hkn,hln]at hv ⊢
 obtain⟨W0,hW0⟩:∃W,w.alloc (.cells #[.int .i64 (kd:Nat),.string Y,.bool td,.int .i64 K,.string X,.int .i64 Z,.slice A0 m q,.slice KA kn kc,.slice LA ln lc] 48)=W:=⟨_,rfl⟩
 have hlw:Below w.heap.size w W0:=hW0▸(Below.refl _ w).alloc (Nat.le_refl _) _
 have hbk:Blk W0 w.heap.size 48 #[.int .i64 (kd:Nat),.string Y,.bool td,.int .i64 K,.string X,.int .i64 Z,.slice A0 m q,.slice KA kn kc,.slice LA ln lc]:=hW0▸heap_alloc_new _ _
 obtain⟨⟨f0,f1,f2,f3,f4,f5,f6,f7,f8⟩,-,hlt0⟩:=blk_facts9 hbk
 have h1:=d9_bounds e.size e S _ (.slice none 0 0) [] W0 (Nat.le_refl _) (hv.keep (λ_ h=>h) (λg hg=>hlw.block g (hS g hg))) (λg hg=>by have:=hS g hg;have:=hlw.size;omega) (nil_row _) (by simp only[List.length_nil];omega)
 have HC:=hidE h1
 have HLW:=hidE hlw
 have HF:Hid (addA [] (bis e)=boundE e):=hidE rfl
 clear hv hin hkd hY htd hkn hln hlw hbk h1 hS
 go_enter Tryz.func31,Tryz.ntmps31
 go_wp2_with fail
 try rw[hW0]
 refine HC.out.mono ?_
 rintro e1 w1 ⟨v1,rfl,h2,b2⟩
 have H2:=hidE h2
 have B2:=hidE b2
 clear h2 b2 HC hW0
 go_wp2_with fail
 go_ret
 exact⟨_,rfl,by rw[<-HF.out];exact H2.out,HLW.out.trans (B2.out.mono HLW.out.size)⟩
end Go.Proofs.YtmbmjneibkihkaaGreatDoor

namespace Go.Proofs.YtmbmjneibkihkaaGreatDoor
open Go.RowKit Lx Tx Sx Go.Maps Go.WideMaps Go.Shelf
set_option maxRecDepth 100000
def NmQ(U0:World)(L:List Nm)(e:Ending)(w':World):Prop:=∃A n c,e=.returned (.slice A n c)/\n=L.length/\NmsIn (λg=>g<w'.heap.size) w' L A/\Below U0.heap.size U0 w'
theorem NmsP.q {U0 U w':World} {L:List Nm} {e:Ending}(hU:Below U0.heap.size U0 U)(h:NmsP U L e w'):NmQ U0 L e w':=by
 obtain⟨A,n,c,rfl,hn,hm,hb⟩:=h
 exact⟨A,n,c,rfl,hn,hm.keep (λ_ h=>h.2) (λ_ _=>rfl),hU.trans (hb.mono hU.size)⟩
theorem RowP.q {U0 U w':World} {L:List Nm} {e:Ending}(hU:Below U0.heap.size U0 U)(h:RowP U L e w'):NmQ U0 L e w':=by
 obtain⟨v,rfl,hr,hb⟩:=h
 obtain⟨A,c,rfl,hm⟩:=hr.nms
 exact⟨A,_,c,rfl,rfl,hm,hU.trans (hb.mono hU.size)⟩
theorem names_q(L:List Nm)(hl:L.length<=1000000)(W:World)(U:World)(A C:Option Addr)(n m c d:Nat)(U':World)(hW:Below W.heap.size W U)(hn:n=L.length)(hm:m=L.length)(hA:NmsIn (λg=>g<U.heap.size) U L A)(hC:NmsIn (λg=>g<U.heap.size) U L C)(hU:Below U.heap.size U U') :
  Calls Tryz.prog 25 #[.slice A n c,.slice C m d] U' λe w'=>e=.returned (.bool true)/\Below W.heap.size W w':=by
 subst hn hm
 refine(sc_names L L _ _ A C c d U' (hA.keep (λ_ h=>h) (λg hg=>hU.block g hg)) (hC.keep (λ_ h=>h) (λg hg=>hU.block g hg)) hl).mono ?_
 rintro e w' ⟨rfl,hb⟩
 exact⟨by rw[decide_eq_true rfl],(hW.trans (hU.mono hW.size)).trans (hb.mono (by have:=hW.size;have:=hU.size;omega))⟩
set_option maxHeartbeats 25600000 in
theorem s9_tells(s:ByteArray)(w:World)(hs:s.size<=maxLen):Calls Tryz.prog 6 #[.string s] w λe w'=>e=.returned (.bool true)/\Below w.heap.size w w':=by
 have HAW:=hidE (s9_awake w)
 have HP:=hidE (λU=>sx_parseExpr s U hs)
 have HQ:=hidE (λU=>r8_parseExpr s U hs)
 clear hs
 go_enter Tryz.func6,Tryz.ntmps6
 go_wp2_with fail
 refine HAW.out.mono ?_
 rintro e wa ⟨rfl,ba⟩
 have BA:=hidE ba
 clear ba HAW
 go_wp2_with fail
 refine(HP.out _).mono ?_
 rintro e w1 ⟨b1,hcs⟩
 have B1:=hidE (BA.out.trans (b1.mono BA.out.size))
 have hs1:=b1.size
 clear HP
 rcases hcs with⟨n,hn,hp,rfl⟩|⟨x,cs,hsh,hok,hwt,hp,rfl,hx⟩
 ·have dn:((n:Int) != 0)=true:=neqT _ _ (by omega)
  unfold exZ
  clear hp hn b1
  go_wp2_with fail
  refine(HQ.out _).mono ?_
  rintro e w2 ⟨b2,cs2,⟨k,x0,t,K,X0,Z,B,m,q,KA,kn,kc,LA,ln,lc,rfl⟩,hc2⟩
  obtain⟨i,rfl⟩:∃i:Nat,e=.returned (.tuple #[.agg #[.int .i64 k,.string x0,.bool t,.int .i64 K,.string X0,.int .i64 Z,.slice B m q,.slice KA kn kc,.slice LA ln lc],.int .i64 (i:Nat)]):=by
   rcases hc2 with⟨n,-,-,rfl⟩|⟨y,-,-,-,rfl,-⟩
   ·exact⟨n,rfl⟩
   ·exact⟨0,rfl⟩
  have B2:=hidE ((B1.out.alloc B1.out.size _).trans (b2.mono (by have:=B1.out.size;simp;omega)))
  clear b2 hc2 HQ
  go_wp2_with fail
  go_ret
  exact⟨rfl,B2.out.alloc B2.out.size _⟩
 ·obtain⟨k,x0,t,K,X0,Z,B,m,q,KA,kn,kc,LA,ln,lc,rfl⟩:=hsh
  obtain⟨W1,hW1⟩:∃y,w1.alloc (.cells #[.int .i64 k,.string x0,.bool t,.int .i64 K,.string X0,.int .i64 Z,.slice B m q,.slice KA kn kc,.slice LA ln lc] 39)=y:=⟨_,rfl⟩
  have hbW:Below w1.heap.size w1 W1:=hW1▸(Below.refl _ w1).alloc (Nat.le_refl _) _
  have hsW:w1.heap.size+1<=W1.heap.size/\W1.heap.size<=w1.heap.size+1:=by rw[<-hW1];simp
  have HBX:=hidE (hW1▸heap_alloc_new w1 _:Blk W1 w1.heap.size 39 #[.int .i64 k,.string x0,.bool t,.int .i64 K,.string X0,.int .i64 Z,.slice B m q,.slice KA kn kc,.slice LA ln lc])
  have BX:=hidE (B1.out.trans (hbW.mono B1.out.size))
  have HX:Hid (pcE.Cs (λg=>g<W1.heap.size) W1 x [.int .i64 k,.string x0,.bool t,.int .i64 K,.string X0,.int .i64 Z,.slice B m q,.slice KA kn kc,.slice LA ln lc]):=hidE (pcE.keep (λg hg=>by omega) (λg hg=>hbW.block g hg.2) hx)
  have HPE:=hidE hp
  have HOK:=hidE hok
  have HWT:=hidE hwt
  clear b1 hp hx hbW hok hwt
  go_upto_region 3 with fail
  try rw[hW1]
  clear hW1
  go_wp2_with fail
  refine(HQ.out _).mono ?_
  rintro e w2 ⟨b2,cs2,⟨k2,x2,t2,K2,X2,Z2,B2,m2,q2,KA2,kn2,kc2,LA2,ln2,lc2,rfl⟩,hc2⟩
  have hs2:=b2.size
  rcases hc2 with⟨n,hn,hp2,rfl⟩|⟨y,-,-,hp2,rfl,hy⟩
  ·rw[HPE.out]at hp2;cases hp2
  ·rw[HPE.out]at hp2
   injection hp2 with hp2
   subst hp2
   obtain⟨W2,hW2⟩:∃y,w2.alloc (.cells #[.int .i64 k2,.string x2,.bool t2,.int .i64 K2,.string X2,.int .i64 Z2,.slice B2 m2 q2,.slice KA2 kn2 kc2,.slice LA2 ln2 lc2] 48)=y:=⟨_,rfl⟩
   have hbW2:Below w2.heap.size w2 W2:=hW2▸(Below.refl _ w2).alloc (Nat.le_refl _) _
   have hsW2:w2.heap.size+1<=W2.heap.size/\W2.heap.size<=w2.heap.size+1:=by rw[<-hW2];simp
   have HBY:=hidE (hW2▸heap_alloc_new w2 _:Blk W2 w2.heap.size 48 #[.int .i64 k2,.string x2,.bool t2,.int .i64 K2,.string X2,.int .i64 Z2,.slice B2 m2 q2,.slice KA2 kn2 kc2,.slice LA2 ln2 lc2])
   have hbX2:Below W1.heap.size W1 W2:=b2.trans (hbW2.mono hs2)
   have BZ:=hidE (BX.out.trans (hbX2.mono BX.out.size))
   have HBX2:=hidE (HBX.out.below hbX2 (by omega))
   have HX2:Hid (pcE.Cs (λg=>g<W2.heap.size) W2 x [.int .i64 k,.string x0,.bool t,.int .i64 K,.string X0,.int .i64 Z,.slice B m q,.slice KA kn kc,.slice LA ln lc]):=hidE (pcE.keep (λg hg=>by omega) (λg hg=>hbX2.block g hg) HX.out)
   have HY2:Hid (pcE.Cs (λg=>g<W2.heap.size) W2 x [.int .i64 k2,.string x2,.bool t2,.int .i64 K2,.string X2,.int .i64 Z2,.slice B2 m2 q2,.slice KA2 kn2 kc2,.slice LA2 ln2 lc2]):=hidE (pcE.keep (λg hg=>by omega) (λg hg=>hbW2.block g hg.2) hy)
   have HW2:=hidE hW2
   clear b2 hy hbW2 hbX2 hW2 HX HBX BX HQ HPE
   have hla:=len_all x
   have hwt:=HWT.out
   have HSF:Hid (∀U0 U,Below W2.heap.size W2 U0->Below U0.heap.size U0 U->Calls Tryz.prog 26 #[.agg #[.int .i64 k,.string x0,.bool t,.int .i64 K,.string X0,.int .i64 Z,.slice B m q,.slice KA kn kc,.slice LA ln lc]] U (NmQ U0 (freeE x))):=hidE λU0 U h0 hU=>(sc_FreeP x (λg=>g<W2.heap.size) _ U ((rdX_cs.2 HX2.out).keep (λ_ h=>h) (λg hg=>(hU.block g (by have:=h0.size;omega)).trans (h0.block g hg))) (λg hg=>by have:=h0.size;have:=hU.size;omega) HOK.out (by omega)).mono λ_ _ h=>h.q hU
   have HRF:Hid (∀U0 U,Below W2.heap.size W2 U0->Below U0.heap.size U0 U->Calls Tryz.prog 27 #[.agg #[.int .i64 k2,.string x2,.bool t2,.int .i64 K2,.string X2,.int .i64 Z2,.slice B2 m2 q2,.slice KA2 kn2 kc2,.slice LA2 ln2 lc2]] U (NmQ U0 (freeE x))):=hidE λU0 U h0 hU=>(d9_Free x (λg=>g<W2.heap.size) _ U ((rdX_cs.2 HY2.out).keep (λ_ h=>h) (λg hg=>(hU.block g (by have:=h0.size;omega)).trans (h0.block g hg))) (λg hg=>by have:=h0.size;have:=hU.size;omega) (by omega)).mono λ_ _ h=>h.q hU
   have HNF:=hidE (names_q (freeE x) (by omega))
   have HSC:Hid (∀U0 U,Below W2.heap.size W2 U0->Below U0.heap.size U0 U->Calls Tryz.prog 28 #[.agg #[.int .i64 k,.string x0,.bool t,.int .i64 K,.string X0,.int .i64 Z,.slice B m q,.slice KA kn kc,.slice LA ln lc]] U (NmQ U0 (consE x))):=hidE λU0 U h0 hU=>(sc_ConsP x (λg=>g<W2.heap.size) _ U ((rdX_cs.2 HX2.out).keep (λ_ h=>h) (λg hg=>(hU.block g (by have:=h0.size;omega)).trans (h0.block g hg))) (λg hg=>by have:=h0.size;have:=hU.size;omega) HOK.out (by omega)).mono λ_ _ h=>h.q hU
   have HRC:Hid (∀U0 U,Below W2.heap.size W2 U0->Below U0.heap.size U0 U->Calls Tryz.prog 29 #[.agg #[.int .i64 k2,.string x2,.bool t2,.int .i64 K2,.string X2,.int .i64 Z2,.slice B2 m2 q2,.slice KA2 kn2 kc2,.slice LA2 ln2 lc2]] U (NmQ U0 (consE x))):=hidE λU0 U h0 hU=>(d9_Cons x (λg=>g<W2.heap.size) _ U ((rdX_cs.2 HY2.out).keep (λ_ h=>h) (λg hg=>(hU.block g (by have:=h0.size;omega)).trans (h0.block g hg))) (λg hg=>by have:=h0.size;have:=hU.size;omega) (by omega)).mono λ_ _ h=>h.q hU
   have HNC:=hidE (names_q (consE x) (by omega))
   have HSB:Hid (∀U0 U,Below W2.heap.size W2 U0->Below U0.heap.size U0 U->Calls Tryz.prog 30 #[.agg #[.int .i64 k,.string x0,.bool t,.int .i64 K,.string X0,.int .i64 Z,.slice B m q,.slice KA kn kc,.slice LA ln lc]] U (NmQ U0 (boundE x))):=hidE λU0 U h0 hU=>(sc_BoundP x (λg=>g<W2.heap.size) _ U ((rdX_cs.2 HX2.out).keep (λ_ h=>h) (λg hg=>(hU.block g (by have:=h0.size;omega)).trans (h0.block g hg))) (λg hg=>by have:=h0.size;have:=hU.size;omega) HOK.out (by omega)).mono λ_ _ h=>h.q hU
   have HRB:Hid (∀U0 U,Below W2.heap.size W2 U0->Below U0.heap.size U0 U->Calls Tryz.prog 31 #[.agg #[.int .i64 k2,.string x2,.bool t2,.int .i64 K2,.string X2,.int .i64 Z2,.slice B2 m2 q2,.slice KA2 kn2 kc2,.slice LA2 ln2 lc2]] U (NmQ U0 (boundE x))):=hidE λU0 U h0 hU=>(d9_Bound x (λg=>g<W2.heap.size) _ U ((rdX_cs.2 HY2.out).keep (λ_ h=>h) (λg hg=>(hU.block g (by have:=h0.size;omega)).trans (h0.block g hg))) (λg hg=>by have:=h0.size;have:=hU.size;omega) (by omega)).mono λ_ _ h=>h.q hU
   have HNB:=hidE (names_q (boundE x) (by omega))
   have HKS:Hid (∀U,Below W2.heap.size W2 U->U.cell? ⟨w1.heap.size,0,none⟩=some (.int .i64 k)/\U.cell? ⟨w1.heap.size,1,none⟩=some (.string x0)/\U.cell? ⟨w1.heap.size,2,none⟩=some (.bool t)/\U.cell? ⟨w1.heap.size,3,none⟩=some (.int .i64 K)/\U.cell? ⟨w1.heap.size,4,none⟩=some (.string X0)/\U.cell? ⟨w1.heap.size,5,none⟩=some (.int .i64 Z)/\U.cell? ⟨w1.heap.size,6,none⟩=some (.slice B m q)/\U.cell? ⟨w1.heap.size,7,none⟩=some (.slice KA kn kc)/\U.cell? ⟨w1.heap.size,8,none⟩=some (.slice LA ln lc)/\U.cell? ⟨w2.heap.size,0,none⟩=some (.int .i64 k2)/\U.cell? ⟨w2.heap.size,1,none⟩=some (.string x2)/\U.cell? ⟨w2.heap.size,2,none⟩=some (.bool t2)/\U.cell? ⟨w2.heap.size,3,none⟩=some (.int .i64 K2)/\U.cell? ⟨w2.heap.size,4,none⟩=some (.string X2)/\U.cell? ⟨w2.heap.size,5,none⟩=some (.int .i64 Z2)/\U.cell? ⟨w2.heap.size,6,none⟩=some (.slice B2 m2 q2)/\U.cell? ⟨w2.heap.size,7,none⟩=some (.slice KA2 kn2 kc2)/\U.cell? ⟨w2.heap.size,8,none⟩=some (.slice LA2 ln2 lc2)):=hidE (λU hU=>by
    obtain⟨⟨a0,a1,a2,a3,a4,a5,a6,a7,a8⟩,-,-⟩:=blk_facts9 (HBX2.out.below hU (by omega))
    obtain⟨⟨y0,y1,y2,y3,y4,y5,y6,y7,y8⟩,-,-⟩:=blk_facts9 (HBY.out.below hU (by omega))
    exact⟨a0,a1,a2,a3,a4,a5,a6,a7,a8,y0,y1,y2,y3,y4,y5,y6,y7,y8⟩)
   clear hla hwt HX2 HY2 HOK HWT
   go_upto_region 6 with fail
   rw[HW2.out]
   clear HW2
   have BN:=hidE (Below.refl W2.heap.size W2)
   obtain⟨Wn,hWn⟩:∃U,U=W2:=⟨_,rfl⟩
   rw[<-hWn]
   have BN:Hid (Below W2.heap.size W2 Wn):=by rw[hWn];exact BN
   clear hWn
   go_cut [8] from 25 to 29 (λv wx=>v=.bool true/\Hid (Below Wn.heap.size Wn wx))
   case first =>
    obtain⟨a0,a1,a2,a3,a4,a5,a6,a7,a8,y0,y1,y2,y3,y4,y5,y6,y7,y8⟩:=HKS.out Wn BN.out
    go_wp2_with fail
    go_region_held3 (λU:World=>U.cell? ⟨w1.heap.size,0,none⟩=some (.int .i64 k)/\U.cell? ⟨w1.heap.size,1,none⟩=some (.string x0)/\U.cell? ⟨w1.heap.size,2,none⟩=some (.bool t)/\U.cell? ⟨w1.heap.size,3,none⟩=some (.int .i64 K)/\U.cell? ⟨w1.heap.size,4,none⟩=some (.string X0)/\U.cell? ⟨w1.heap.size,5,none⟩=some (.int .i64 Z)/\U.cell? ⟨w1.heap.size,6,none⟩=some (.slice B m q)/\U.cell? ⟨w1.heap.size,7,none⟩=some (.slice KA kn kc)/\U.cell? ⟨w1.heap.size,8,none⟩=some (.slice LA ln lc)/\U.cell? ⟨w2.heap.size,0,none⟩=some (.int .i64 k2)/\U.cell? ⟨w2.heap.size,1,none⟩=some (.string x2)/\U.cell? ⟨w2.heap.size,2,none⟩=some (.bool t2)/\U.cell? ⟨w2.heap.size,3,none⟩=some (.int .i64 K2)/\U.cell? ⟨w2.heap.size,4,none⟩=some (.string X2)/\U.cell? ⟨w2.heap.size,5,none⟩=some (.int .i64 Z2)/\U.cell? ⟨w2.heap.size,6,none⟩=some (.slice B2 m2 q2)/\U.cell? ⟨w2.heap.size,7,none⟩=some (.slice KA2 kn2 kc2)/\U.cell? ⟨w2.heap.size,8,none⟩=some (.slice LA2 ln2 lc2)) (first|exact HKS.out _ BN.out|exact HKS.out _ BN.out.drew|exact HKS.out _ (BN.out.trans (BY.out.mono BN.out.size))|exact HKS.out _ (BN.out.trans (BX.out.mono BN.out.size))|exact HKS.out _ (BN.out.trans (HZ.out.mono BN.out.size)))
     (first
      |(go_at_call 26;(with_reducible refine(HSF.out Wn _ BN.out (by first|exact Below.refl _ _|exact(Below.refl _ _).drew)).mono ?_);rintro e wx ⟨A1,n1,c1,rfl,hn1,hm1,hb1⟩;have HN1:=hidE hn1;have HM1:=hidE hm1;have BX:=hidE hb1;clear hn1 hm1 hb1)
      |(go_at_call 27;(with_reducible refine(HRF.out Wn _ BN.out (by first|exact Below.refl _ _|exact(Below.refl _ _).drew)).mono ?_);rintro e wy ⟨A2,n2,c2,rfl,hn2,hm2,hb2⟩;have HN2:=hidE hn2;have HM2:=hidE hm2;have BY:=hidE hb2;clear hn2 hm2 hb2)
      |(go_at_call 27;(with_reducible refine(HRF.out wx _ (BN.out.trans (BX.out.mono BN.out.size)) (by first|exact Below.refl _ _|exact(Below.refl _ _).drew)).mono ?_);rintro e wy ⟨A2,n2,c2,rfl,hn2,hm2,hb2⟩;have HN2:=hidE hn2;have HM2:=hidE hm2;replace HM1:=hidE (HM1.out.keep (S:=λg=>g<wx.heap.size) (S':=λg=>g<wy.heap.size) (λg h=>Nat.lt_of_lt_of_le h hb2.size) (λg hg=>hb2.block g hg));have BY:=hidE (BX.out.trans (hb2.mono BX.out.size));have hq:Hid (Below wy.heap.size wy wy):=hidE (Below.refl _ _);clear hn2 hm2 hb2)
      |(go_at_call 26;(with_reducible refine(HSF.out wy _ (BN.out.trans (BY.out.mono BN.out.size)) (by first|exact Below.refl _ _|exact(Below.refl _ _).drew)).mono ?_);rintro e wx ⟨A1,n1,c1,rfl,hn1,hm1,hb1⟩;have HN1:=hidE hn1;have HM1:=hidE hm1;replace HM2:=hidE (HM2.out.keep (S:=λg=>g<wy.heap.size) (S':=λg=>g<wx.heap.size) (λg h=>Nat.lt_of_lt_of_le h hb1.size) (λg hg=>hb1.block g hg));have BX:=hidE (BY.out.trans (hb1.mono BY.out.size));have hq:Hid (Below wx.heap.size wx wx):=hidE (Below.refl _ _);clear hn1 hm1 hb1)
      |(go_at_call 25;(with_reducible refine(HNF.out Wn _ _ _ _ _ _ _ _ (by first|exact BY.out|exact BX.out) HN1.out HN2.out HM1.out HM2.out (by first|exact Below.refl _ _|exact(Below.refl _ _).drew)).mono ?_);rintro e wz ⟨rfl,hbz⟩;have HZ:=hidE hbz;clear hbz))
    all_goals
     go_wp2_with fail
     go_meet
     case rel=>exact⟨rfl,HZ.out |> hidE⟩
   obtain⟨rfl,hBc⟩:=hcut
   have BN:=hidE (BN.out.trans (hBc.out.mono BN.out.size))
   obtain⟨Wn,hWn⟩:∃U,U=wc:=⟨_,rfl⟩
   subst hWn
   go_upto_region 7 with fail
   go_cut [9] from 30 to 34 (λv wx=>v=.bool true/\Hid (Below Wn.heap.size Wn wx))
   case first =>
    obtain⟨a0,a1,a2,a3,a4,a5,a6,a7,a8,y0,y1,y2,y3,y4,y5,y6,y7,y8⟩:=HKS.out Wn BN.out
    go_wp2_with fail
    go_region_held3 (λU:World=>U.cell? ⟨w1.heap.size,0,none⟩=some (.int .i64 k)/\U.cell? ⟨w1.heap.size,1,none⟩=some (.string x0)/\U.cell? ⟨w1.heap.size,2,none⟩=some (.bool t)/\U.cell? ⟨w1.heap.size,3,none⟩=some (.int .i64 K)/\U.cell? ⟨w1.heap.size,4,none⟩=some (.string X0)/\U.cell? ⟨w1.heap.size,5,none⟩=some (.int .i64 Z)/\U.cell? ⟨w1.heap.size,6,none⟩=some (.slice B m q)/\U.cell? ⟨w1.heap.size,7,none⟩=some (.slice KA kn kc)/\U.cell? ⟨w1.heap.size,8,none⟩=some (.slice LA ln lc)/\U.cell? ⟨w2.heap.size,0,none⟩=some (.int .i64 k2)/\U.cell? ⟨w2.heap.size,1,none⟩=some (.string x2)/\U.cell? ⟨w2.heap.size,2,none⟩=some (.bool t2)/\U.cell? ⟨w2.heap.size,3,none⟩=some (.int .i64 K2)/\U.cell? ⟨w2.heap.size,4,none⟩=some (.string X2)/\U.cell? ⟨w2.heap.size,5,none⟩=some (.int .i64 Z2)/\U.cell? ⟨w2.heap.size,6,none⟩=some (.slice B2 m2 q2)/\U.cell? ⟨w2.heap.size,7,none⟩=some (.slice KA2 kn2 kc2)/\U.cell? ⟨w2.heap.size,8,none⟩=some (.slice LA2 ln2 lc2)) (first|exact HKS.out _ BN.out|exact HKS.out _ BN.out.drew|exact HKS.out _ (BN.out.trans (BY.out.mono BN.out.size))|exact HKS.out _ (BN.out.trans (BX.out.mono BN.out.size))|exact HKS.out _ (BN.out.trans (HZ.out.mono BN.out.size)))
     (first
      |(go_at_call 28;(with_reducible refine(HSC.out Wn _ BN.out (by first|exact Below.refl _ _|exact(Below.refl _ _).drew)).mono ?_);rintro e wx ⟨A1,n1,c1,rfl,hn1,hm1,hb1⟩;have HN1:=hidE hn1;have HM1:=hidE hm1;have BX:=hidE hb1;clear hn1 hm1 hb1)
      |(go_at_call 29;(with_reducible refine(HRC.out Wn _ BN.out (by first|exact Below.refl _ _|exact(Below.refl _ _).drew)).mono ?_);rintro e wy ⟨A2,n2,c2,rfl,hn2,hm2,hb2⟩;have HN2:=hidE hn2;have HM2:=hidE hm2;have BY:=hidE hb2;clear hn2 hm2 hb2)
      |(go_at_call 29;(with_reducible refine(HRC.out wx _ (BN.out.trans (BX.out.mono BN.out.size)) (by first|exact Below.refl _ _|exact(Below.refl _ _).drew)).mono ?_);rintro e wy ⟨A2,n2,c2,rfl,hn2,hm2,hb2⟩;have HN2:=hidE hn2;have HM2:=hidE hm2;replace HM1:=hidE (HM1.out.keep (S:=λg=>g<wx.heap.size) (S':=λg=>g<wy.heap.size) (λg h=>Nat.lt_of_lt_of_le h hb2.size) (λg hg=>hb2.block g hg));have BY:=hidE (BX.out.trans (hb2.mono BX.out.size));have hq:Hid (Below wy.heap.size wy wy):=hidE (Below.refl _ _);clear hn2 hm2 hb2)
      |(go_at_call 28;(with_reducible refine(HSC.out wy _ (BN.out.trans (BY.out.mono BN.out.size)) (by first|exact Below.refl _ _|exact(Below.refl _ _).drew)).mono ?_);rintro e wx ⟨A1,n1,c1,rfl,hn1,hm1,hb1⟩;have HN1:=hidE hn1;have HM1:=hidE hm1;replace HM2:=hidE (HM2.out.keep (S:=λg=>g<wy.heap.size) (S':=λg=>g<wx.heap.size) (λg h=>Nat.lt_of_lt_of_le h hb1.size) (λg hg=>hb1.block g hg));have BX:=hidE (BY.out.trans (hb1.mono BY.out.size));have hq:Hid (Below wx.heap.size wx wx):=hidE (Below.refl _ _);clear hn1 hm1 hb1)
      |(go_at_call 25;(with_reducible refine(HNC.out Wn _ _ _ _ _ _ _ _ (by first|exact BY.out|exact BX.out) HN1.out HN2.out HM1.out HM2.out (by first|exact Below.refl _ _|exact(Below.refl _ _).drew)).mono ?_);rintro e wz ⟨rfl,hbz⟩;have HZ:=hidE hbz;clear hbz))
    all_goals
     go_wp2_with fail
     go_meet
     case rel=>exact⟨rfl,HZ.out |> hidE⟩
   obtain⟨rfl,hBc⟩:=hcut
   have BN:=hidE (BN.out.trans (hBc.out.mono BN.out.size))
   obtain⟨Wn,hWn⟩:∃U,U=wc:=⟨_,rfl⟩
   subst hWn
   go_upto_region 8 with fail
   go_cut [10] from 35 to 39 (λv wx=>v=.bool true/\Hid (Below Wn.heap.size Wn wx))
   case first =>
    obtain⟨a0,a1,a2,a3,a4,a5,a6,a7,a8,y0,y1,y2,y3,y4,y5,y6,y7,y8⟩:=HKS.out Wn BN.out
    go_wp2_with fail
    go_region_held3 (λU:World=>U.cell? ⟨w1.heap.size,0,none⟩=some (.int .i64 k)/\U.cell? ⟨w1.heap.size,1,none⟩=some (.string x0)/\U.cell? ⟨w1.heap.size,2,none⟩=some (.bool t)/\U.cell? ⟨w1.heap.size,3,none⟩=some (.int .i64 K)/\U.cell? ⟨w1.heap.size,4,none⟩=some (.string X0)/\U.cell? ⟨w1.heap.size,5,none⟩=some (.int .i64 Z)/\U.cell? ⟨w1.heap.size,6,none⟩=some (.slice B m q)/\U.cell? ⟨w1.heap.size,7,none⟩=some (.slice KA kn kc)/\U.cell? ⟨w1.heap.size,8,none⟩=some (.slice LA ln lc)/\U.cell? ⟨w2.heap.size,0,none⟩=some (.int .i64 k2)/\U.cell? ⟨w2.heap.size,1,none⟩=some (.string x2)/\U.cell? ⟨w2.heap.size,2,none⟩=some (.bool t2)/\U.cell? ⟨w2.heap.size,3,none⟩=some (.int .i64 K2)/\U.cell? ⟨w2.heap.size,4,none⟩=some (.string X2)/\U.cell? ⟨w2.heap.size,5,none⟩=some (.int .i64 Z2)/\U.cell? ⟨w2.heap.size,6,none⟩=some (.slice B2 m2 q2)/\U.cell? ⟨w2.heap.size,7,none⟩=some (.slice KA2 kn2 kc2)/\U.cell? ⟨w2.heap.size,8,none⟩=some (.slice LA2 ln2 lc2)) (first|exact HKS.out _ BN.out|exact HKS.out _ BN.out.drew|exact HKS.out _ (BN.out.trans (BY.out.mono BN.out.size))|exact HKS.out _ (BN.out.trans (BX.out.mono BN.out.size))|exact HKS.out _ (BN.out.trans (HZ.out.mono BN.out.size)))
     (first
      |(go_at_call 30;(with_reducible refine(HSB.out Wn _ BN.out (by first|exact Below.refl _ _|exact(Below.refl _ _).drew)).mono ?_);rintro e wx ⟨A1,n1,c1,rfl,hn1,hm1,hb1⟩;have HN1:=hidE hn1;have HM1:=hidE hm1;have BX:=hidE hb1;clear hn1 hm1 hb1)
      |(go_at_call 31;(with_reducible refine(HRB.out Wn _ BN.out (by first|exact Below.refl _ _|exact(Below.refl _ _).drew)).mono ?_);rintro e wy ⟨A2,n2,c2,rfl,hn2,hm2,hb2⟩;have HN2:=hidE hn2;have HM2:=hidE hm2;have BY:=hidE hb2;clear hn2 hm2 hb2)
      |(go_at_call 31;(with_reducible refine(HRB.out wx _ (BN.out.trans (BX.out.mono BN.out.size)) (by first|exact Below.refl _ _|exact(Below.refl _ _).drew)).mono ?_);rintro e wy ⟨A2,n2,c2,rfl,hn2,hm2,hb2⟩;have HN2:=hidE hn2;have HM2:=hidE hm2;replace HM1:=hidE (HM1.out.keep (S:=λg=>g<wx.heap.size) (S':=λg=>g<wy.heap.size) (λg h=>Nat.lt_of_lt_of_le h hb2.size) (λg hg=>hb2.block g hg));have BY:=hidE (BX.out.trans (hb2.mono BX.out.size));have hq:Hid (Below wy.heap.size wy wy):=hidE (Below.refl _ _);clear hn2 hm2 hb2)
      |(go_at_call 30;(with_reducible refine(HSB.out wy _ (BN.out.trans (BY.out.mono BN.out.size)) (by first|exact Below.refl _ _|exact(Below.refl _ _).drew)).mono ?_);rintro e wx ⟨A1,n1,c1,rfl,hn1,hm1,hb1⟩;have HN1:=hidE hn1;have HM1:=hidE hm1;replace HM2:=hidE (HM2.out.keep (S:=λg=>g<wy.heap.size) (S':=λg=>g<wx.heap.size) (λg h=>Nat.lt_of_lt_of_le h hb1.size) (λg hg=>hb1.block g hg));have BX:=hidE (BY.out.trans (hb1.mono BY.out.size));have hq:Hid (Below wx.heap.size wx wx):=hidE (Below.refl _ _);clear hn1 hm1 hb1)
      |(go_at_call 25;(with_reducible refine(HNB.out Wn _ _ _ _ _ _ _ _ (by first|exact BY.out|exact BX.out) HN1.out HN2.out HM1.out HM2.out (by first|exact Below.refl _ _|exact(Below.refl _ _).drew)).mono ?_);rintro e wz ⟨rfl,hbz⟩;have HZ:=hidE hbz;clear hbz))
    all_goals
     go_wp2_with fail
     go_meet
     case rel=>exact⟨rfl,HZ.out |> hidE⟩
   obtain⟨rfl,hBc⟩:=hcut
   have BN:=hidE (BN.out.trans (hBc.out.mono BN.out.size))
   obtain⟨Wn,hWn⟩:∃U,U=wc:=⟨_,rfl⟩
   subst hWn
   go_wp2_with fail
   go_ret
   exact⟨rfl,BZ.out.trans (BN.out.mono BZ.out.size)⟩
end Go.Proofs.YtmbmjneibkihkaaGreatDoor
