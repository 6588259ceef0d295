/-
  Contracts of the code's functions, part 9.
-/
import Derived.Test.YtknkclefoiohpaaGreatDoorKbH
import Derived.Test.YtknkclefoiohpaaGreatDoorKbD
import Derived.Deep.RegionHeld3
import Derived.Deep.RegionWith
import Derived.Deep.LoopGhost
namespace Go.Proofs.YtknkclefoiohpaaGreatDoor
open Go.RowKit Lx Tx Sx
set_option maxRecDepth 100000
set_option maxHeartbeats 1600000 in
theorem sx_size1(x:Ex)(S:Nat->Prop)(v:Value)(g a:Nat)(w:World)(hb:Blk w g 3 #[.int .i64 (a:Nat)])(hv:RdX S w x v)(ha:a+x.size<=1000000000)
  (HC:∀W,Below w.heap.size w W->Calls Tryz.prog 15 #[v] W λe w'=>e=.returned (.int .i64 (x.size:Nat))/\Below W.heap.size W w') :
  Calls Tryz.prog 48 #[v,.pointer (some ⟨g,0,none⟩)] w λe w'=>e=.returned (.tuple #[])/\Blk w' g 3 #[.int .i64 (a+x.size:Nat)]/\Chg (only g) w w':=by
 obtain⟨K,X,Z,B,m,q,KA,kc,LA,lc,rfl,-⟩:=hv.shape
 obtain⟨kd,hkd⟩:∃y,kdE x=y:=⟨_,rfl⟩
 obtain⟨nm,hnm⟩:∃y:ByteArray,⟨(nmE x).toArray⟩=y:=⟨_,rfl⟩
 obtain⟨td,htd⟩:∃y,toE x=y:=⟨_,rfl⟩
 obtain⟨kn,hkn⟩:∃y,(kidsE x).length=y:=⟨_,rfl⟩
 obtain⟨ln,hln⟩:∃y,(altsE x).length=y:=⟨_,rfl⟩
 obtain⟨sz,hsz⟩:∃y,x.size=y:=⟨_,rfl⟩
 rw[hkd,hnm,htd,hkn,hln,hsz]at HC
 rw[hkd,hnm,htd,hkn,hln,hsz]
 rw[hsz]at ha
 have hbl:=hb.lt
 obtain⟨W1,hW1⟩:∃W,w.alloc (.cells #[.int .i64 (kd:Nat),.string nm,.bool td,.int .i64 K,.string X,.int .i64 Z,.slice B m q,.slice KA kn kc,.slice LA ln lc] 39)=W:=⟨_,rfl⟩
 have hbx:Blk W1 w.heap.size 39 #[.int .i64 (kd:Nat),.string nm,.bool td,.int .i64 K,.string X,.int .i64 Z,.slice B m q,.slice KA kn kc,.slice LA ln lc]:=hW1▸heap_alloc_new _ _
 have hb1:Below w.heap.size w W1:=hW1▸(Below.refl _ w).alloc (Nat.le_refl _) _
 have hbg:Blk W1 g 3 #[.int .i64 (a:Nat)]:=(hb1.block g hbl).trans hb
 have hs1:W1.heap.size=w.heap.size+1:=by rw[<-hW1];simp
 have SOF:Hid (∀W,Below W1.heap.size W1 W->W.cell? ⟨g,0,none⟩=some (.int .i64 (a:Nat))/\W.cell? ⟨w.heap.size,0,none⟩=some (.int .i64 (kd:Nat))/\W.cell? ⟨w.heap.size,1,none⟩=some (.string nm)/\W.cell? ⟨w.heap.size,2,none⟩=some (.bool td) /\
   W.cell? ⟨w.heap.size,3,none⟩=some (.int .i64 K)/\W.cell? ⟨w.heap.size,4,none⟩=some (.string X)/\W.cell? ⟨w.heap.size,5,none⟩=some (.int .i64 Z)/\W.cell? ⟨w.heap.size,6,none⟩=some (.slice B m q)/\W.cell? ⟨w.heap.size,7,none⟩=some (.slice KA kn kc)/\W.cell? ⟨w.heap.size,8,none⟩=some (.slice LA ln lc)) :=
  hidE λW hW=>by
   have h1:Blk W g 3 #[.int .i64 (a:Nat)]:=(hW.block g hbg.lt).trans hbg
   have h2:Blk W w.heap.size 39 #[.int .i64 (kd:Nat),.string nm,.bool td,.int .i64 K,.string X,.int .i64 Z,.slice B m q,.slice KA kn kc,.slice LA ln lc]:=(hW.block _ hbx.lt).trans hbx
   exact⟨h1.cell 0,h2.cell 0,h2.cell 1,h2.cell 2,h2.cell 3,h2.cell 4,h2.cell 5,h2.cell 6,h2.cell 7,h2.cell 8⟩
 have B4:Hid (Below W1.heap.size W1 W1.drew):=hidE (Below.refl _ W1).drew
 have HCC:Hid (∀W,Below W1.heap.size W1 W->Calls Tryz.prog 15 #[.agg #[.int .i64 (kd:Nat),.string nm,.bool td,.int .i64 K,.string X,.int .i64 Z,.slice B m q,.slice KA kn kc,.slice LA ln lc]] W λe w'=>e=.returned (.int .i64 (sz:Nat))/\Below W.heap.size W w') :=
  hidE λW hW=>HC W (hb1.trans (hW.mono (by omega)))
 have FRZ:Hid (∀W,Below W1.heap.size W1 W->Blk W g 3 #[.int .i64 (a:Nat)]):=hidE λW hW=>(hW.block g hbg.lt).trans hbg
 have HBG:=hidE hbg
 have HB1:=hidE hb1
 obtain⟨x0,x1,x2,x3,x4,x5,x6,x7,x8,x9⟩:=SOF.out W1 (Below.refl _ _)
 have hfr:=hbg.frozen 0
 have hgl:=hbg.lt
 clear hkd hnm htd hkn hln hsz hv HC hb hbx hb1 hbg
 go_enter Tryz.func48,Tryz.ntmps48
 go_upto_region 1 with fail
 try rw[hW1]
 clear hW1
 go_region_with (((with_reducible refine(HCC.out _ B4.out).mono ?_);rintro e w5 ⟨rfl,b5⟩;have B5:=hidE (B4.out.trans (b5.mono B4.out.size));have hf5:=(FRZ.out _ B5.out).frozen 0;have hl5:=(FRZ.out _ B5.out).lt;have hc5:=(FRZ.out _ B5.out).cell 0;clear b5))
 all_goals
  have hbk:=heap_setCell_same w5 g 0 _ _ (.int .i64 (IntKind.i64.wrap ((a:Int)+(sz:Int)))) (FRZ.out _ B5.out)
  have hcc:=((Chg.of_below (M:=only g) HB1.out).trans' (Chg.of_below (M:=only g) B5.out) (λ_ _ h=>h)).setCell (p:=⟨g,0,none⟩) (.inr rfl) (.int .i64 (IntKind.i64.wrap ((a:Int)+(sz:Int))))
  have hwr:Value.int .i64 (IntKind.i64.wrap ((a:Int)+(sz:Int)))=.int .i64 ((a+sz:Nat):Int):=by rw[IntWalk.i64_in _ (by omega)];simp
  rw[hwr]at hbk hcc ⊢
  have HBK:=hidE hbk
  have HCC2:=hidE hcc
  clear hbk hcc hwr
  go_wp2_with fail
  first|go_end0|refine bodyPost_ret (results_none rfl _ _ _) rfl ?_
  exact⟨rfl,HBK.out,HCC2.out⟩
theorem sum_take(l:List Ex)(i:Nat)(x:Ex)(h:l[i]? = some x):((l.take (i+1)).map Ex.size).sum=((l.take i).map Ex.size).sum+x.size:=by
 rw[List.take_add_one,h]
 simp
theorem sum_take_le(l:List Ex)(i:Nat):((l.take i).map Ex.size).sum<=(l.map Ex.size).sum:=by
 have:=congrArg (λl=>(l.map Ex.size).sum) (List.take_append_drop i l)
 simp only[List.map_append,List.sum_append]at this
 omega
set_option maxHeartbeats 3200000 in
theorem sx_size(n:Nat):∀(e:Ex)(S:Nat->Prop)(v:Value)(w:World),e.size<=n->n<=100000->RdX S w e v->(∀g,S g->g<w.heap.size) ->
  Calls Tryz.prog 15 #[v] w λe' w'=>e'=.returned (.int .i64 (e.size:Nat))/\Below w.heap.size w w':=by
 induction n with
 | zero=>intro e S v w h;have:=size_parts e;omega
 | succ n ih =>
  intro e S v w hn h5 hv hS
  obtain⟨K,X,Z,B,m,q,KA,kc,LA,lc,rfl,-⟩:=hv.shape
  have hps:=size_parts e
  have hpl:(parts e).length<=n:=by
   have h1:∀l:List Ex,l.length<=(l.map Ex.size).sum:=by
    intro l
    induction l with
    | nil=>simp
    | cons x r ih=>have:=size_parts x;simp only[List.map_cons,List.sum_cons,List.length_cons];omega
   have:=h1 (parts e)
   omega
  obtain⟨W1,hW1⟩:∃W,w.alloc (.cells #[.int .i64 (kdE e:Nat),.string ⟨(nmE e).toArray⟩,.bool (toE e),.int .i64 K,.string X,.int .i64 Z,.slice B m q,.slice KA (kidsE e).length kc,.slice LA (altsE e).length lc] 39)=W:=⟨_,rfl⟩
  obtain⟨W2,hW2⟩:∃W,W1.alloc (.cells #[.int .i64 1] 3)=W:=⟨_,rfl⟩
  have hs1:W1.heap.size=w.heap.size+1:=by rw[<-hW1];simp
  have hs2:W2.heap.size=w.heap.size+2:=by rw[<-hW2];simp;omega
  have hb2:Below w.heap.size w W2:=by rw[<-hW2,<-hW1];exact((Below.refl _ w).alloc (Nat.le_refl _) _).alloc (by simp) _
  have hcell:Blk W2 (w.heap.size+1) 3 #[.int .i64 1]:=by
   have:=heap_alloc_new W1 (.cells #[.int .i64 1] 3)
   rw[hs1,hW2]at this
   exact this
  have HLT:∀w',Blk w' (w.heap.size+1) 3 #[.int .i64 1]\/w.heap.size+1<w'.heap.size->∀g,S g->g<w'.heap.size:=λw' h g hg=>by
   have:=hS g hg
   rcases h with h|h
   ·have:=h.lt;omega
   ·omega
  have HE:=sx_eachPart e S (only (w.heap.size+1)) 48 #[.pointer (some ⟨w.heap.size+1,0,none⟩)]
   (λi W=>Blk W (w.heap.size+1) 3 #[.int .i64 ((1+(((parts e).take i).map Ex.size).sum:Nat):Int)]) _ W2 (λ_ _=>rfl)
   (λi a b h _ hk=>(hk _ rfl).trans h) (λi a h g hg=>by unfold only at hg;subst hg;exact h.lt)
   (hv.keep (λ_ h=>h) (λg hg=>hb2.block g (hS g hg))) (λg hg=>⟨by have:=hS g hg;omega,by have:=hS g hg;unfold only;omega⟩) hcell (by omega)
   (λi x v' w' hx hi hx'=>by
    have hsx:=sum_take (parts e) i x hx
    have hle:=sum_take_le (parts e) (i+1)
    have:=sx_size1 x S v' (w.heap.size+1) (1+(((parts e).take i).map Ex.size).sum) w' hi hx' (by omega) (λW hW=>ih x S v' W (by omega) (by omega) (hx'.keep (λ_ h=>h) (λg hg=>hW.block g (HLT w' (.inr hi.lt) g hg))) (λg hg=>by have:=HLT w' (.inr hi.lt) g hg;have:=hW.size;omega))
    refine this.mono ?_
    rintro e' w'' ⟨rfl,h1,h2⟩
    refine⟨rfl,?_,h2⟩
    rw[hsx,<-Nat.add_assoc]
    exact h1)
  rw[List.take_of_length_le (Nat.le_refl _),<-hps]at HE
  have HB2:=hidE hb2
  have HEE:=hidE HE
  have HS2:=hidE hs2
  obtain⟨kd,hkd⟩:∃y,kdE e=y:=⟨_,rfl⟩
  obtain⟨nm,hnm⟩:∃y:ByteArray,⟨(nmE e).toArray⟩=y:=⟨_,rfl⟩
  obtain⟨td,htd⟩:∃y,toE e=y:=⟨_,rfl⟩
  obtain⟨kn,hkn⟩:∃y,(kidsE e).length=y:=⟨_,rfl⟩
  obtain⟨ln,hln⟩:∃y,(altsE e).length=y:=⟨_,rfl⟩
  obtain⟨sz,hsz⟩:∃y,e.size=y:=⟨_,rfl⟩
  rw[hkd,hnm,htd,hkn,hln]at hW1 HEE ⊢
  rw[hsz]at HEE ⊢
  subst hW1
  subst hW2
  clear hkd hnm htd hkn hln hsz hv HE hb2 hs1 hs2 hcell hps hpl ih hn hS HLT
  go_enter Tryz.func15,Tryz.ntmps15
  go_wp2_with fail
  refine HEE.out.mono ?_
  rintro e' w3 ⟨rfl,h3,c3⟩
  have f0:=h3.cell 0
  have C3:=hidE c3
  clear h3 c3 HEE
  go_wp2_with fail
  go_ret
  exact⟨rfl,HB2.out.trans (C3.out.toBelow (by have:=HS2.out;omega) (λk hk=>by unfold only;omega))⟩
end Go.Proofs.YtknkclefoiohpaaGreatDoor

namespace Go.Proofs.YtknkclefoiohpaaGreatDoor
open Go.RowKit Lx Tx Sx
set_option maxRecDepth 100000
set_option maxHeartbeats 1600000 in
theorem sx_depth1(x:Ex)(S:Nat->Prop)(v:Value)(g a:Nat)(w:World)(hb:Blk w g 3 #[.int .i64 (a:Nat)])(hv:RdX S w x v)
  (HC:∀W,Below w.heap.size w W->Calls Tryz.prog 16 #[v] W λe w'=>e=.returned (.int .i64 (x.depth:Nat))/\Below W.heap.size W w') :
  Calls Tryz.prog 49 #[v,.pointer (some ⟨g,0,none⟩)] w λe w'=>e=.returned (.tuple #[])/\Blk w' g 3 #[.int .i64 (max a x.depth:Nat)]/\Chg (only g) w w':=by
 obtain⟨K,X,Z,B,m,q,KA,kc,LA,lc,rfl,-⟩:=hv.shape
 obtain⟨kd,hkd⟩:∃y,kdE x=y:=⟨_,rfl⟩
 obtain⟨nm,hnm⟩:∃y:ByteArray,⟨(nmE x).toArray⟩=y:=⟨_,rfl⟩
 obtain⟨td,htd⟩:∃y,toE x=y:=⟨_,rfl⟩
 obtain⟨kn,hkn⟩:∃y,(kidsE x).length=y:=⟨_,rfl⟩
 obtain⟨ln,hln⟩:∃y,(altsE x).length=y:=⟨_,rfl⟩
 obtain⟨sz,hsz⟩:∃y,x.depth=y:=⟨_,rfl⟩
 rw[hkd,hnm,htd,hkn,hln,hsz]at HC
 rw[hkd,hnm,htd,hkn,hln,hsz]
 have hbl:=hb.lt
 obtain⟨W1,hW1⟩:∃W,w.alloc (.cells #[.int .i64 (kd:Nat),.string nm,.bool td,.int .i64 K,.string X,.int .i64 Z,.slice B m q,.slice KA kn kc,.slice LA ln lc] 39)=W:=⟨_,rfl⟩
 have hbx:Blk W1 w.heap.size 39 #[.int .i64 (kd:Nat),.string nm,.bool td,.int .i64 K,.string X,.int .i64 Z,.slice B m q,.slice KA kn kc,.slice LA ln lc]:=hW1▸heap_alloc_new _ _
 have hb1:Below w.heap.size w W1:=hW1▸(Below.refl _ w).alloc (Nat.le_refl _) _
 have hbg:Blk W1 g 3 #[.int .i64 (a:Nat)]:=(hb1.block g hbl).trans hb
 have hs1:W1.heap.size=w.heap.size+1:=by rw[<-hW1];simp
 have SOF:Hid (∀W,Below W1.heap.size W1 W->W.cell? ⟨g,0,none⟩=some (.int .i64 (a:Nat))/\W.cell? ⟨w.heap.size,0,none⟩=some (.int .i64 (kd:Nat))/\W.cell? ⟨w.heap.size,1,none⟩=some (.string nm)/\W.cell? ⟨w.heap.size,2,none⟩=some (.bool td) /\
   W.cell? ⟨w.heap.size,3,none⟩=some (.int .i64 K)/\W.cell? ⟨w.heap.size,4,none⟩=some (.string X)/\W.cell? ⟨w.heap.size,5,none⟩=some (.int .i64 Z)/\W.cell? ⟨w.heap.size,6,none⟩=some (.slice B m q)/\W.cell? ⟨w.heap.size,7,none⟩=some (.slice KA kn kc)/\W.cell? ⟨w.heap.size,8,none⟩=some (.slice LA ln lc)) :=
  hidE λW hW=>by
   have h1:Blk W g 3 #[.int .i64 (a:Nat)]:=(hW.block g hbg.lt).trans hbg
   have h2:Blk W w.heap.size 39 #[.int .i64 (kd:Nat),.string nm,.bool td,.int .i64 K,.string X,.int .i64 Z,.slice B m q,.slice KA kn kc,.slice LA ln lc]:=(hW.block _ hbx.lt).trans hbx
   exact⟨h1.cell 0,h2.cell 0,h2.cell 1,h2.cell 2,h2.cell 3,h2.cell 4,h2.cell 5,h2.cell 6,h2.cell 7,h2.cell 8⟩
 have B4:Hid (Below W1.heap.size W1 W1.drew):=hidE (Below.refl _ W1).drew
 have HCC:Hid (∀W,Below W1.heap.size W1 W->Calls Tryz.prog 16 #[.agg #[.int .i64 (kd:Nat),.string nm,.bool td,.int .i64 K,.string X,.int .i64 Z,.slice B m q,.slice KA kn kc,.slice LA ln lc]] W λe w'=>e=.returned (.int .i64 (sz:Nat))/\Below W.heap.size W w') :=
  hidE λW hW=>HC W (hb1.trans (hW.mono (by omega)))
 have FRZ:Hid (∀W,Below W1.heap.size W1 W->Blk W g 3 #[.int .i64 (a:Nat)]):=hidE λW hW=>(hW.block g hbg.lt).trans hbg
 have HBG:=hidE hbg
 have HB1:=hidE hb1
 obtain⟨x0,x1,x2,x3,x4,x5,x6,x7,x8,x9⟩:=SOF.out W1 (Below.refl _ _)
 have hfr:=hbg.frozen 0
 have hgl:=hbg.lt
 clear hkd hnm htd hkn hln hsz hv HC hb hbx hb1 hbg
 go_enter Tryz.func49,Tryz.ntmps49
 go_upto_region 1 with fail
 try rw[hW1]
 clear hW1
 go_region_with (((with_reducible refine(HCC.out _ B4.out).mono ?_);rintro e w5 ⟨rfl,b5⟩;have B5:=hidE (B4.out.trans (b5.mono B4.out.size));have hf5:=(FRZ.out _ B5.out).frozen 0;have hl5:=(FRZ.out _ B5.out).lt;have hc5:=(FRZ.out _ B5.out).cell 0;clear b5))
 all_goals
  have hbk:=heap_setCell_same w5 g 0 _ _ (.int .i64 (if a<sz then(sz:Int) else(a:Int))) (FRZ.out _ B5.out)
  have hcc:=((Chg.of_below (M:=only g) HB1.out).trans' (Chg.of_below (M:=only g) B5.out) (λ_ _ h=>h)).setCell (p:=⟨g,0,none⟩) (.inr rfl) (.int .i64 (if a<sz then(sz:Int) else(a:Int)))
  have hwr:Value.int .i64 (if a<sz then(sz:Int) else(a:Int))=.int .i64 ((max a sz:Nat):Int):=by
   congr 1
   split <;> omega
  rw[hwr]at hbk hcc ⊢
  have HBK:=hidE hbk
  have HCC2:=hidE hcc
  clear hbk hcc hwr
  go_wp2_with fail
  first|go_end0|refine bodyPost_ret (results_none rfl _ _ _) rfl ?_
  exact⟨rfl,HBK.out,HCC2.out⟩
theorem foldmax_snoc(l:List Nat)(a x:Nat):(l++[x]).foldl max a=max (l.foldl max a) x:=by rw[List.foldl_append];rfl
theorem foldmax_le(l:List Nat)(a:Nat):a<=l.foldl max a:=by
 induction l generalizing a with
 | nil=>exact Nat.le_refl _
 | cons x r ih=>exact Nat.le_trans (Nat.le_max_left a x) (ih _)
theorem foldmax_ge(l:List Nat):∀a x,x∈l->x<=l.foldl max a:=by
 induction l with
 | nil=>intro a x h;simp at h
 | cons y r ih =>
  intro a x h
  rcases List.mem_cons.1 h with rfl|h
  ·exact Nat.le_trans (Nat.le_max_right a x) (foldmax_le r _)
  ·exact ih _ x h
theorem dm_take(l:List Ex)(i:Nat)(x:Ex)(h:l[i]? = some x):((l.take (i+1)).map Ex.depth).foldl max 0=max (((l.take i).map Ex.depth).foldl max 0) x.depth:=by
 rw[List.take_add_one,h,List.map_append,Option.toList_some,List.map_cons,List.map_nil,foldmax_snoc]
theorem dm_take_le(l:List Ex)(i:Nat):((l.take i).map Ex.depth).foldl max 0<=(l.map Ex.depth).foldl max 0:=by
 have:=congrArg (λl=>(l.map Ex.depth).foldl max 0) (List.take_append_drop i l)
 simp only[List.map_append,List.foldl_append]at this
 rw[<-this]
 exact foldmax_le _ _
theorem dm_mem(l:List Ex)(i:Nat)(x:Ex)(h:l[i]? = some x):x.depth<=(l.map Ex.depth).foldl max 0:=foldmax_ge _ _ _ (List.mem_map.2 ⟨x,List.mem_iff_getElem?.2 ⟨i,h⟩,rfl⟩)
mutual
theorem depth_leS:∀e:Ex,e.depth<=e.size
 | .var _=>by unfold Ex.size Ex.depth;omega
 | .con _=>by unfold Ex.size Ex.depth;omega
 | .lam _ e=>by have:=depth_leS e;unfold Ex.size Ex.depth;omega
 | .app a b=>by have:=depth_leS a;have:=depth_leS b;unfold Ex.size Ex.depth;omega
 | .lt _ t a b=>by have:=depth_leS a;have:=depth_leS b;unfold Ex.size Ex.depth;omega
 | .cs e l=>by have:=depth_leS e;have:=depth_leSA l;unfold Ex.size Ex.depth;omega
 | .ann e t=>by have:=depth_leS e;unfold Ex.size Ex.depth;omega
theorem depth_leS1:∀a:Al,a.depth<=a.size
 | .mk _ _ b=>by have:=depth_leS b;unfold Al.size Al.depth;omega
theorem depth_leSA:∀l:List Al,depthA l<=sizeA l
 | []=>by unfold sizeA depthA;omega
 | a::r=>by have:=depth_leS1 a;have:=depth_leSA r;unfold sizeA depthA;omega
end
set_option maxHeartbeats 3200000 in
theorem sx_depth(n:Nat):∀(e:Ex)(S:Nat->Prop)(v:Value)(w:World),e.size<=n->n<=100000->RdX S w e v->(∀g,S g->g<w.heap.size) ->
  Calls Tryz.prog 16 #[v] w λe' w'=>e'=.returned (.int .i64 (e.depth:Nat))/\Below w.heap.size w w':=by
 induction n with
 | zero=>intro e S v w h;have:=size_parts e;omega
 | succ n ih =>
  intro e S v w hn h5 hv hS
  obtain⟨K,X,Z,B,m,q,KA,kc,LA,lc,rfl,-⟩:=hv.shape
  have hps:=size_parts e
  have hdp:=depth_parts e
  have hds:=depth_leS e
  have hpl:(parts e).length<=n:=by
   have h1:∀l:List Ex,l.length<=(l.map Ex.size).sum:=by
    intro l
    induction l with
    | nil=>simp
    | cons x r ih=>have:=size_parts x;simp only[List.map_cons,List.sum_cons,List.length_cons];omega
   have:=h1 (parts e)
   omega
  obtain⟨W1,hW1⟩:∃W,w.alloc (.cells #[.int .i64 (kdE e:Nat),.string ⟨(nmE e).toArray⟩,.bool (toE e),.int .i64 K,.string X,.int .i64 Z,.slice B m q,.slice KA (kidsE e).length kc,.slice LA (altsE e).length lc] 39)=W:=⟨_,rfl⟩
  obtain⟨W2,hW2⟩:∃W,W1.alloc (.cells #[.int .i64 0] 3)=W:=⟨_,rfl⟩
  have hs1:W1.heap.size=w.heap.size+1:=by rw[<-hW1];simp
  have hs2:W2.heap.size=w.heap.size+2:=by rw[<-hW2];simp;omega
  have hb2:Below w.heap.size w W2:=by rw[<-hW2,<-hW1];exact((Below.refl _ w).alloc (Nat.le_refl _) _).alloc (by simp) _
  have hcell:Blk W2 (w.heap.size+1) 3 #[.int .i64 0]:=by
   have:=heap_alloc_new W1 (.cells #[.int .i64 0] 3)
   rw[hs1,hW2]at this
   exact this
  have HLT:∀w',Blk w' (w.heap.size+1) 3 #[.int .i64 1]\/w.heap.size+1<w'.heap.size->∀g,S g->g<w'.heap.size:=λw' h g hg=>by
   have:=hS g hg
   rcases h with h|h
   ·have:=h.lt;omega
   ·omega
  have HE:=sx_eachPart e S (only (w.heap.size+1)) 49 #[.pointer (some ⟨w.heap.size+1,0,none⟩)]
   (λi W=>Blk W (w.heap.size+1) 3 #[.int .i64 ((((parts e).take i).map Ex.depth).foldl max 0:Nat)]) _ W2 (λ_ _=>rfl)
   (λi a b h _ hk=>(hk _ rfl).trans h) (λi a h g hg=>by unfold only at hg;subst hg;exact h.lt)
   (hv.keep (λ_ h=>h) (λg hg=>hb2.block g (hS g hg))) (λg hg=>⟨by have:=hS g hg;omega,by have:=hS g hg;unfold only;omega⟩) hcell (by omega)
   (λi x v' w' hx hi hx'=>by
    have hsx:=dm_take (parts e) i x hx
    have hle:=dm_take_le (parts e) i
    have hxm:=dm_mem (parts e) i x hx
    have hsx2:=sum_take (parts e) i x hx
    have hle2:=sum_take_le (parts e) (i+1)
    have:=sx_depth1 x S v' (w.heap.size+1) ((((parts e).take i).map Ex.depth).foldl max 0) w' hi hx' (λW hW=>ih x S v' W (by omega) (by omega) (hx'.keep (λ_ h=>h) (λg hg=>hW.block g (HLT w' (.inr hi.lt) g hg))) (λg hg=>by have:=HLT w' (.inr hi.lt) g hg;have:=hW.size;omega))
    refine this.mono ?_
    rintro e' w'' ⟨rfl,h1,h2⟩
    refine⟨rfl,?_,h2⟩
    rw[hsx]
    exact h1)
  rw[List.take_of_length_le (Nat.le_refl _)]at HE
  obtain⟨D,hD⟩:∃y,((parts e).map Ex.depth).foldl max 0=y:=⟨_,rfl⟩
  rw[hD]at HE hdp
  have hDs:D<=100000:=by omega
  have HB2:=hidE hb2
  have HEE:=hidE HE
  have HS2:=hidE hs2
  obtain⟨kd,hkd⟩:∃y,kdE e=y:=⟨_,rfl⟩
  obtain⟨nm,hnm⟩:∃y:ByteArray,⟨(nmE e).toArray⟩=y:=⟨_,rfl⟩
  obtain⟨td,htd⟩:∃y,toE e=y:=⟨_,rfl⟩
  obtain⟨kn,hkn⟩:∃y,(kidsE e).length=y:=⟨_,rfl⟩
  obtain⟨ln,hln⟩:∃y,(altsE e).length=y:=⟨_,rfl⟩
  rw[hdp]
  rw[hkd,hnm,htd,hkn,hln]at hW1 HEE ⊢
  subst hW1
  subst hW2
  clear hkd hnm htd hkn hln hv HE hb2 hs1 hs2 hcell hps hpl ih hn hS HLT hdp hds hD
  go_enter Tryz.func16,Tryz.ntmps16
  go_wp2_with fail
  refine HEE.out.mono ?_
  rintro e' w3 ⟨rfl,h3,c3⟩
  have f0:=h3.cell 0
  have C3:=hidE c3
  clear h3 c3 HEE
  go_wp2_with fail
  go_ret
  exact⟨ret_i64 (by simp),HB2.out.trans (C3.out.toBelow (by have:=HS2.out;omega) (λk hk=>by unfold only;omega))⟩
end Go.Proofs.YtknkclefoiohpaaGreatDoor

namespace Go.Proofs.YtknkclefoiohpaaGreatDoor
open Go.RowKit Lx Tx
set_option maxRecDepth 100000
set_option maxHeartbeats 800000 in
theorem tc_depth(n:Nat):∀(t:Ty)(S:Nat->Prop)(v:Value)(w:World),t.size<=n->n<=1000000->RdV S w t v->(∀g,S g->g<w.heap.size) ->
  Calls Tryz.prog 54 #[v] w λe w'=>e=.returned (.int .i64 (t.depth:Nat))/\Below w.heap.size w w':=by
 induction n with
 | zero=>intro t S v w h;rw[size_kids]at h;omega
 | succ n ih =>
  intro t S v w hn h5 hv hS
  obtain⟨K,X,Z,A,m,c,rfl,-,-,-,hm,ha⟩:=hv.parts
  obtain⟨R,hR⟩:∃R,t.depth=R:=⟨_,rfl⟩
  have hR1:depthL (kids t)+1=R:=by rw[<-depth_kids];exact hR
  have hm6:m<=n:=by have:=kids_len t;omega
  have hR6:R<=n+1:=by have:=depth_size t;omega
  have HM:=hidE hm
  have HA:=hidE ha
  have IH:=hidE ih
  have HS:=hidE hS
  have HN:=hidE hn
  have HR1:=hidE hR1
  rw[hR]
  clear hm hR ha ih hS hn hR1 hv
  go_enter Tryz.func54,Tryz.ntmps54
  go_wp2
  go_loopg [3,9] m (λgg va vi wr=>∃i a:Nat,gg=m-i/\va=.int .i64 a/\vi=.int .i64 i/\i<=m/\Hid (depthL ((kids t).take i)=a)/\Below (w.heap.size+1) (w.alloc (.cells #[.int .i64 K,.string X,.int .i64 Z,.slice A m c] 35)) wr)
  case atStart=>exact⟨0,0,rfl,rfl,rfl,by omega,hidE rfl,Below.refl _ _⟩
  case round =>
   obtain⟨i,a,rfl,rfl,rfl,hi,hd,hb⟩:=hrel
   have HB:=hidE hb
   clear hb
   by_cases hlt:i<m
   ·obtain⟨g,u,K1,X1,Z1,A1,n1,c1,rfl,hg,e0,e1,e2,e3,hu,hrd,hsz⟩:=kid_cells (w':=wr) HA.out HM.out hlt (λg hg=>by rw[HB.out.block g (by have:=HS.out g hg;omega),Below.heap_alloc _ _ _ (HS.out g hg)])
    have hgl:=lt_cell e0
    have hbs:=HB.out.size
    simp at hbs
    have hcall:=IH.out u S _ (wr.alloc (.cells #[.int .i64 K1,.string X1,.int .i64 Z1,.slice A1 n1 c1] 35)) (by have:=HN.out;omega) (by omega) (hrd.keep (λ_ h=>h) (λg hg=>Below.heap_alloc _ _ _ (by have:=HS.out g hg;omega))) (λg hg=>by have:=HS.out g hg;simp;omega)
    have hmx:=hidE (depth_take _ _ _ _ hd hu)
    obtain⟨D,hD⟩:∃D,u.depth=D:=⟨_,rfl⟩
    rw[hD]at hmx hcall
    clear hrd hu hD
    go_wp2_with fail
    refine hcall.mono ?_
    rintro e w1 ⟨rfl,b1⟩
    have HB2:=hidE ((HB.out.alloc (by omega) _).trans (b1.mono (by simp;omega)))
    clear b1 hcall
    go_wp2_with fail
    all_goals
     go_roundg (m-(i+1))
     case measure=>omega
     case rel=>exact⟨i+1,_,rfl,rfl,by go_num,by omega,hidE (by rw[hmx.out];omega),HB2.out⟩
   ·have hr:=hidE (show a+1=R by rw[List.take_of_length_le (by rw[HM.out];omega)]at hd;rw[hd.out]at HR1;exact HR1.out)
    have ha6:a<1000001:=by have:=hr.out;omega
    go_wp2_with fail
    go_ret
    exact⟨ret_i64 (by rw[<-hr.out];simp;omega),((Below.refl _ w).alloc (Nat.le_refl _) _).trans (HB.out.mono (by omega))⟩
set_option maxHeartbeats 800000 in
theorem tc_depth0(K Z:Int)(X:ByteArray)(A:Option Addr)(c:Nat)(w:World) :
  Calls Tryz.prog 54 #[.agg #[.int .i64 K,.string X,.int .i64 Z,.slice A 0 c]] w λe w'=>e=.returned (.int .i64 1)/\Below w.heap.size w w':=by
 go_enter Tryz.func54,Tryz.ntmps54
 go_wp2
 go_loopg [3,9] 0 (λgg va vi wr=>gg=0/\va=.int .i64 0/\vi=.int .i64 0/\Below (w.heap.size+1) (w.alloc (.cells #[.int .i64 K,.string X,.int .i64 Z,.slice A 0 c] 35)) wr)
 case atStart=>exact⟨rfl,rfl,rfl,Below.refl _ _⟩
 case round =>
  obtain⟨rfl,rfl,rfl,hb⟩:=hrel
  have HB:=hidE hb
  clear hb
  go_wp2_with fail
  go_ret
  exact⟨rfl,((Below.refl _ w).alloc (Nat.le_refl _) _).trans (HB.out.mono (by omega))⟩
end Go.Proofs.YtknkclefoiohpaaGreatDoor

namespace Go.Proofs.YtknkclefoiohpaaGreatDoor
open Go.RowKit Lx Tx Sx
set_option maxRecDepth 100000
def RdO(S:Nat->Prop)(w:World)(t:Option Ty)(v:Value):Prop :=
 match t with
 | none=>v=.agg #[.int .i64 0,.string ⟨#[]⟩,.int .i64 0,.slice none 0 0]
 | some u=>RdV S w u v
theorem RdO.keep {S S':Nat->Prop} {w w':World} {t:Option Ty} {v:Value}(h:RdO S w t v)(hS:∀g,S g->S' g)(hk:∀g,S g->w'.heap[g]? = w.heap[g]?):RdO S' w' t v:=by
 cases t with
 | none=>exact h
 | some u=>exact RdV.keep h hS hk
theorem Sx.RdX.shape2 {S:Nat->Prop} {w:World} {e:Ex} {v:Value}(h:RdX S w e v):∃(K:Int)(X:ByteArray)(Z:Int)(B:Option Addr)(m q:Nat)(KA:Option Addr)(kc:Nat)(LA:Option Addr)(lc:Nat),
  v=.agg #[.int .i64 (kdE e:Nat),.string ⟨(nmE e).toArray⟩,.bool (toE e),.int .i64 K,.string X,.int .i64 Z,.slice B m q,.slice KA (kidsE e).length kc,.slice LA (altsE e).length lc] /\
   RdO S w (tyE e) (.agg #[.int .i64 K,.string X,.int .i64 Z,.slice B m q]):=by
 obtain⟨P,rfl,ht,_⟩:=h
 unfold exC
 revert ht
 cases tyE e with
 | none=>intro _;exact⟨0,⟨#[]⟩,0,none,0,0,P.K,_,P.L,P.l,rfl,rfl⟩
 | some t=>intro ht;exact⟨_,_,_,_,_,_,P.K,_,P.L,P.l,rfl,P.A,P.a,rfl,ht⟩
def tyW:Option Ty->Nat
 | none=>0
 | some t=>t.size
theorem tc_depthO(t:Option Ty)(S:Nat->Prop)(v:Value)(w:World)(hn:tyW t<=1000000)(hv:RdO S w t v)(hS:∀g,S g->g<w.heap.size) :
  ∃d:Nat,(decide (50<d)=deepO t)/\d<=1000001/\Calls Tryz.prog 54 #[v] w λe w'=>e=.returned (.int .i64 (d:Nat))/\Below w.heap.size w w':=by
 cases t with
 | none =>
  subst hv
  exact⟨1,rfl,by omega,tc_depth0 0 0 ⟨#[]⟩ none 0 w⟩
 | some u =>
  exact⟨u.depth,rfl,by have:=depth_size u;simp only[tyW]at hn;omega,tc_depth 1000000 u S v w hn (Nat.le_refl _) hv hS⟩
set_option maxHeartbeats 800000 in
theorem sx_typeDeep(t:Option Ty)(S:Nat->Prop)(K:Int)(X:ByteArray)(Z:Int)(B:Option Addr)(m q:Nat)(w:World)(hn:tyW t<=1000000)(hv:RdO S w t (.agg #[.int .i64 K,.string X,.int .i64 Z,.slice B m q]))(hS:∀g,S g->g<w.heap.size) :
  Calls Tryz.prog 77 #[.agg #[.int .i64 K,.string X,.int .i64 Z,.slice B m q]] w λe w'=>e=.returned (.bool (deepO t))/\Below w.heap.size w w':=by
 obtain⟨d,hd,hd2,hc⟩:=tc_depthO t S _ (w.alloc (.cells #[.int .i64 K,.string X,.int .i64 Z,.slice B m q] 35)) hn (hv.keep (λ_ h=>h) (λg hg=>Below.heap_alloc _ _ _ (hS g hg))) (λg hg=>by have:=hS g hg;simp;omega)
 have HC:=hidE hc
 have d1:decide ((50:Int)<(d:Nat))=deepO t:=by
  rw[<-hd]
  by_cases h:50<d <;> simp[h] <;> omega
 obtain⟨R,hR⟩:∃R,deepO t=R:=⟨_,rfl⟩
 rw[hR]at d1 ⊢
 clear hc hd hv hS hn hR
 go_enter Tryz.func77,Tryz.ntmps77
 go_wp2_with fail
 refine HC.out.mono ?_
 rintro e w1 ⟨rfl,b1⟩
 have B1:=hidE (((Below.refl w.heap.size w).alloc (Nat.le_refl _) (.cells #[.int .i64 K,.string X,.int .i64 Z,.slice B m q] 35)).trans (b1.mono (by simp)))
 clear b1 HC
 cases R
 all_goals
  go_wp2_with fail
  go_ret
  exact⟨rfl,B1.out⟩
end Go.Proofs.YtknkclefoiohpaaGreatDoor

namespace Go.Proofs.YtknkclefoiohpaaGreatDoor
open Go.RowKit Lx Tx Sx
set_option maxRecDepth 100000
theorem tyW_wt(e:Ex):tyW (tyE e)<=e.wt:=by
 cases e with
 | lt x t a b =>
  cases t <;> simp only[tyE,tyW,Ex.wt,toldW] <;> omega
 | ann e t=>simp only[tyE,tyW,Ex.wt];omega
 | _=>simp[tyE,tyW]
theorem alB_wt:∀(l:List Al)(x:Ex),x∈l.map alB->x.wt<=wtA l
 | [],x,h=>by simp at h
 | .mk c vs b::r,x,h=>by
  simp only[wtA,Al.wt]
  rcases List.mem_cons.1 h with rfl|h
  ·omega
  ·have:=alB_wt r x h;omega
theorem part_wt(e x:Ex)(h:x∈parts e):x.wt<=e.wt:=by
 unfold parts at h
 rcases List.mem_append.1 h with h|h
 ·cases e <;> simp only[kidsE,List.mem_cons,List.not_mem_nil,or_false]at h <;> simp only[Ex.wt]
  ·subst h;omega
  ·rcases h with rfl|rfl <;> omega
  ·rcases h with rfl|rfl <;> omega
  ·subst h;omega
  ·subst h;omega
 ·cases e <;> simp only[altsE,List.map_nil,List.not_mem_nil]at h
  have:=alB_wt _ x h
  simp only[Ex.wt]
  omega
set_option maxHeartbeats 1600000 in
theorem sx_deepT1(x:Ex)(S:Nat->Prop)(v:Value)(g:Nat)(a:Bool)(w:World)(hb:Blk w g 4 #[.bool a])(hv:RdX S w x v)
  (HC:∀W,Below w.heap.size w W->Calls Tryz.prog 99 #[v] W λe w'=>e=.returned (.bool x.deepT)/\Below W.heap.size W w') :
  Calls Tryz.prog 142 #[v,.pointer (some ⟨g,0,none⟩)] w λe w'=>e=.returned (.tuple #[])/\Blk w' g 4 #[.bool (a||x.deepT)]/\Chg (only g) w w':=by
 obtain⟨K,X,Z,B,m,q,KA,kc,LA,lc,rfl,-⟩:=hv.shape
 obtain⟨kd,hkd⟩:∃y,kdE x=y:=⟨_,rfl⟩
 obtain⟨nm,hnm⟩:∃y:ByteArray,⟨(nmE x).toArray⟩=y:=⟨_,rfl⟩
 obtain⟨td,htd⟩:∃y,toE x=y:=⟨_,rfl⟩
 obtain⟨kn,hkn⟩:∃y,(kidsE x).length=y:=⟨_,rfl⟩
 obtain⟨ln,hln⟩:∃y,(altsE x).length=y:=⟨_,rfl⟩
 obtain⟨dt,hdt⟩:∃y,x.deepT=y:=⟨_,rfl⟩
 rw[hkd,hnm,htd,hkn,hln,hdt]at HC
 rw[hkd,hnm,htd,hkn,hln,hdt]
 have hbl:=hb.lt
 have hb1:Below w.heap.size w (w.alloc (.cells #[.int .i64 (kd:Nat),.string nm,.bool td,.int .i64 K,.string X,.int .i64 Z,.slice B m q,.slice KA kn kc,.slice LA ln lc] 39)):=(Below.refl _ w).alloc (Nat.le_refl _) _
 have HB1:=hidE hb1
 have HCC:=hidE (HC _ hb1)
 have HB:=hidE hb
 have f0:=hb.cell 0
 replace f0:w.cell? ⟨g,0,none⟩=some (.bool a):=f0
 have fr:=hb.frozen 0
 clear hkd hnm htd hkn hln hdt hv HC hb hb1
 go_enter Tryz.func142,Tryz.ntmps142
 cases a with
 | true =>
  go_wp2_with fail
  have hbk:Blk (w.setCell ⟨g,0,none⟩ (.bool true)) g 4 #[.bool true]:=heap_setCell_same w g 0 _ _ (.bool true) HB.out
  have hcc:=((Chg.refl (only g) w).setCell (p:=⟨g,0,none⟩) (.inr rfl) (.bool true)).alloc (.cells #[.int .i64 (kd:Nat),.string nm,.bool td,.int .i64 K,.string X,.int .i64 Z,.slice B m q,.slice KA kn kc,.slice LA ln lc] 39)
  first|go_end0|refine bodyPost_ret (results_none rfl _ _ _) rfl ?_
  exact⟨rfl,hbk.alloc _,hcc⟩
 | false =>
  go_wp2_with fail
  refine HCC.out.mono ?_
  rintro e w2 ⟨rfl,b2⟩
  have B2:=hidE (HB1.out.trans (b2.mono HB1.out.size))
  have hb2:Blk w2 g 4 #[.bool false]:=(B2.out.block g hbl).trans HB.out
  have f2:=hb2.cell 0
  replace f2:w2.cell? ⟨g,0,none⟩=some (.bool false):=f2
  have fr2:=hb2.frozen 0
  have hl2:=hb2.lt
  have HBK:=hidE (heap_setCell_same w2 g 0 _ _ (.bool dt) hb2)
  have HCC2:=hidE ((Chg.of_below (M:=only g) B2.out).setCell (p:=⟨g,0,none⟩) (.inr rfl) (.bool dt))
  clear b2 hb2 HCC
  go_wp2_with fail
  first|go_end0|refine bodyPost_ret (results_none rfl _ _ _) rfl ?_
  exact⟨rfl,HBK.out,HCC2.out⟩
end Go.Proofs.YtknkclefoiohpaaGreatDoor

namespace Go.Proofs.YtknkclefoiohpaaGreatDoor
open Go.RowKit Lx Tx Sx
set_option maxRecDepth 100000
theorem any_take(l:List Ex)(i:Nat)(x:Ex)(h:l[i]? = some x):(l.take (i+1)).any Ex.deepT=((l.take i).any Ex.deepT||x.deepT):=by
 rw[List.take_add_one,h,List.any_append]
 simp
set_option maxHeartbeats 3200000 in
theorem sx_hasDeep(n:Nat):∀(e:Ex)(S:Nat->Prop)(v:Value)(w:World),e.size<=n->n<=100000->e.wt<=1000000->RdX S w e v->(∀g,S g->g<w.heap.size) ->
  Calls Tryz.prog 99 #[v] w λe' w'=>e'=.returned (.bool e.deepT)/\Below w.heap.size w w':=by
 induction n with
 | zero=>intro e S v w h;have:=size_parts e;omega
 | succ n ih =>
  intro e S v w hn h5 hwt hv hS
  obtain⟨K,X,Z,B,m,q,KA,kc,LA,lc,rfl,hro⟩:=hv.shape2
  have hps:=size_parts e
  have hdp:=deep_parts e
  have hpl:(parts e).length<=n:=by
   have h1:∀l:List Ex,l.length<=(l.map Ex.size).sum:=by
    intro l
    induction l with
    | nil=>simp
    | cons x r ih=>have:=size_parts x;simp only[List.map_cons,List.sum_cons,List.length_cons];omega
   have:=h1 (parts e)
   omega
  obtain⟨W1,hW1⟩:∃W,w.alloc (.cells #[.int .i64 (kdE e:Nat),.string ⟨(nmE e).toArray⟩,.bool (toE e),.int .i64 K,.string X,.int .i64 Z,.slice B m q,.slice KA (kidsE e).length kc,.slice LA (altsE e).length lc] 39)=W:=⟨_,rfl⟩
  have hb1:Below w.heap.size w W1:=by rw[<-hW1];exact(Below.refl _ w).alloc (Nat.le_refl _) _
  have hs1:W1.heap.size=w.heap.size+1:=by rw[<-hW1];simp
  have hbx:Blk W1 w.heap.size 39 #[.int .i64 (kdE e:Nat),.string ⟨(nmE e).toArray⟩,.bool (toE e),.int .i64 K,.string X,.int .i64 Z,.slice B m q,.slice KA (kidsE e).length kc,.slice LA (altsE e).length lc]:=by
   have:=heap_alloc_new w (.cells #[.int .i64 (kdE e:Nat),.string ⟨(nmE e).toArray⟩,.bool (toE e),.int .i64 K,.string X,.int .i64 Z,.slice B m q,.slice KA (kidsE e).length kc,.slice LA (altsE e).length lc] 39)
   rw[hW1]at this
   exact this
  have HT:=hidE (sx_typeDeep (tyE e) S K X Z B m q W1 (by have:=tyW_wt e;omega) (hro.keep (λ_ h=>h) (λg hg=>hb1.block g (hS g hg))) (λg hg=>by have:=hS g hg;omega))
  have HE:Hid (∀(W2 W3:World) (a:Bool),Below W1.heap.size W1 W2->W3=W2.alloc (.cells #[.bool a] 4)->a=deepO (tyE e)->Calls Tryz.prog 47 #[.agg #[.int .i64 (kdE e:Nat),.string ⟨(nmE e).toArray⟩,.bool (toE e),.int .i64 K,.string X,.int .i64 Z,.slice B m q,.slice KA (kidsE e).length kc,.slice LA (altsE e).length lc],.func (.func 142) #[] #[.pointer (some ⟨W2.heap.size,0,none⟩)]] W3
    λe' w'=>e'=.returned (.tuple #[])/\Blk w' W2.heap.size 4 #[.bool e.deepT]/\Chg (only W2.heap.size) W3 w'):=by
   refine hidE λW2 W3 a h2 h3 ha=>?_
   have hz2:=h2.size
   have hk3:∀g,g<W2.heap.size->W3.heap[g]? = W2.heap[g]?:=λg hg=>by rw[h3];exact Below.heap_alloc _ _ _ hg
   have hs3:W3.heap.size=W2.heap.size+1:=by rw[h3];simp
   have hkS:∀g,S g->W3.heap[g]? = w.heap[g]?:=λg hg=>by
    have:=hS g hg
    rw[hk3 g (by omega),h2.block g (by omega),hb1.block g this]
   have hc3:Blk W3 W2.heap.size 4 #[.bool a]:=by rw[h3];exact heap_alloc_new W2 _
   have:=sx_eachPart e S (only W2.heap.size) 142 #[.pointer (some ⟨W2.heap.size,0,none⟩)]
    (λi W=>Blk W W2.heap.size 4 #[.bool (a ||((parts e).take i).any Ex.deepT)]) _ W3 (λ_ _=>rfl)
    (λi a b h _ hk=>(hk _ rfl).trans h) (λi a h g hg=>by unfold only at hg;subst hg;exact h.lt)
    (hv.keep (λ_ h=>h) hkS) (λg hg=>⟨by have:=hS g hg;omega,by have:=hS g hg;unfold only;omega⟩) (by simpa using hc3) (by omega)
    (λi x v' w' hx hi hx'=>by
     have hsx2:=sum_take (parts e) i x hx
     have hle2:=sum_take_le (parts e) (i+1)
     have hwx:=part_wt e x (List.mem_iff_getElem?.2 ⟨i,hx⟩)
     have hlt:∀g,S g->g<w'.heap.size:=λg hg=>by have:=hS g hg;have:=hi.lt;omega
     have:=sx_deepT1 x S v' W2.heap.size (a ||((parts e).take i).any Ex.deepT) w' hi hx' (λW hW=>ih x S v' W (by omega) (by omega) (by omega) (hx'.keep (λ_ h=>h) (λg hg=>hW.block g (hlt g hg))) (λg hg=>by have:=hlt g hg;have:=hW.size;omega))
     refine this.mono ?_
     rintro e' w'' ⟨rfl,h1,h2⟩
     refine⟨rfl,?_,h2⟩
     rw[any_take _ _ _ hx,<-Bool.or_assoc]
     exact h1)
   rw[List.take_of_length_le (Nat.le_refl _),ha,<-hdp]at this
   exact this
  have HB1:=hidE hb1
  have HBX:=hidE hbx
  have HDP:=hidE hdp
  clear hdp hps hpl ih hn hS hro hv hb1 hbx hwt
  obtain⟨kd,hkd⟩:∃y,kdE e=y:=⟨_,rfl⟩
  obtain⟨nm,hnm⟩:∃y:ByteArray,⟨(nmE e).toArray⟩=y:=⟨_,rfl⟩
  obtain⟨td,htd⟩:∃y,toE e=y:=⟨_,rfl⟩
  obtain⟨kn,hkn⟩:∃y,(kidsE e).length=y:=⟨_,rfl⟩
  obtain⟨ln,hln⟩:∃y,(altsE e).length=y:=⟨_,rfl⟩
  obtain⟨dt,hdt⟩:∃y,e.deepT=y:=⟨_,rfl⟩
  obtain⟨d0,hd0⟩:∃y,deepO (tyE e)=y:=⟨_,rfl⟩
  rw[hkd,hnm,htd,hkn,hln]at hW1 HE HBX ⊢
  rw[hdt]at HE ⊢
  rw[hd0]at HE HT
  obtain⟨f3,f4,f5,f6⟩:W1.cell? ⟨w.heap.size,3,none⟩=some (.int .i64 K)/\W1.cell? ⟨w.heap.size,4,none⟩=some (.string X)/\W1.cell? ⟨w.heap.size,5,none⟩=some (.int .i64 Z)/\W1.cell? ⟨w.heap.size,6,none⟩=some (.slice B m q) :=
   ⟨HBX.out.cell 3,HBX.out.cell 4,HBX.out.cell 5,HBX.out.cell 6⟩
  clear hkd hnm htd hkn hln hdt hd0 HDP
  go_enter Tryz.func99,Tryz.ntmps99
  go_wp2_with fail
  try rw[hW1]
  refine HT.out.mono ?_
  rintro e' w2 ⟨rfl,b2⟩
  have hb2:=(b2.block w.heap.size (by omega)).trans HBX.out
  have hsz2:=b2.size
  have HB2:Hid (Blk w2 w.heap.size 39 #[.int .i64 (kd:Nat),.string nm,.bool td,.int .i64 K,.string X,.int .i64 Z,.slice B m q,.slice KA kn kc,.slice LA ln lc]):=hidE hb2
  obtain⟨g0,g1,g2,g3,g4,g5,g6,g7,g8⟩:w2.cell? ⟨w.heap.size,0,none⟩=some (.int .i64 (kd:Nat))/\w2.cell? ⟨w.heap.size,1,none⟩=some (.string nm)/\w2.cell? ⟨w.heap.size,2,none⟩=some (.bool td) /\
   w2.cell? ⟨w.heap.size,3,none⟩=some (.int .i64 K)/\w2.cell? ⟨w.heap.size,4,none⟩=some (.string X)/\w2.cell? ⟨w.heap.size,5,none⟩=some (.int .i64 Z)/\w2.cell? ⟨w.heap.size,6,none⟩=some (.slice B m q)/\w2.cell? ⟨w.heap.size,7,none⟩=some (.slice KA kn kc)/\w2.cell? ⟨w.heap.size,8,none⟩=some (.slice LA ln lc) :=
   ⟨HB2.out.cell 0,HB2.out.cell 1,HB2.out.cell 2,HB2.out.cell 3,HB2.out.cell 4,HB2.out.cell 5,HB2.out.cell 6,HB2.out.cell 7,HB2.out.cell 8⟩
  have hlw:=HB2.out.lt
  have HCE:=hidE (HE.out w2 _ d0 b2 rfl rfl)
  have B2:=hidE b2
  clear f3 f4 f5 f6 hW1 HT HE hb2 b2
  go_wp2_with fail
  refine HCE.out.mono ?_
  rintro e' w3 ⟨rfl,h3,c3⟩
  have h0:=h3.cell 0
  replace h0:w3.cell? ⟨w2.heap.size,0,none⟩=some (.bool dt):=h0
  have C3:=hidE c3
  have HL3:=h3.lt
  clear h3 c3 HCE
  go_wp2_with fail
  go_ret
  exact⟨rfl,(HB1.out.trans (B2.out.mono HB1.out.size)).trans ((((Chg.refl (only w2.heap.size) w2).alloc _).trans C3.out).toBelow (by have:=HB1.out.size;omega) (λk hk=>by unfold only;have:=HB1.out.size;omega))⟩
end Go.Proofs.YtknkclefoiohpaaGreatDoor
