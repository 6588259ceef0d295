/-
  Contracts of the code's functions, part 45.
-/
import Derived.Test.YtmbmjneibkihkaaGreatDoorDaAQ
import Derived.Test.YtmbmjneibkihkaaGreatDoorDaAR
import Derived.Deep.Cut
import Derived.Deep.CutRange
import Derived.Deep.MidRow
namespace Go.Proofs.YtmbmjneibkihkaaGreatDoor
open Go.RowKit Lx Tx Sx Go.Maps Go.WideMaps Go.Shelf
set_option maxRecDepth 100000
structure MisB (w:World) (co:Nat) (e:Ex) (pb fb:Nat) (V0:Option Addr) (v0 nb:Nat) (wx:World):Prop where
 n:nb=(boundE e).length
 lw:Below w.heap.size w wx
 hpb:Blk wx pb 134 #[.slice (some ⟨fb,0,none⟩) 1 1]
 hfb:Blk wx fb 189 #[.slice V0 nb v0,.func (.func 123) #[.map (some (co+2))] #[],.int .i64 90]
 nm:NmsIn (λg=>w.heap.size+2<=g/\g<wx.heap.size/\g≠pb/\g≠fb) wx (boundE e) V0
 ne:pb≠fb
 low:w.heap.size+2<=pb/\w.heap.size+2<=fb
theorem ek_mis:∀args w,(callFunc 124 args).run Tryz.prog w=.ok (.enter 124 args) w:=enters_of Tryz.func124 (by kernel_rfl) rfl
def v0C(co:Nat)(V0:Option Addr)(nb v0:Nat):List Value:=[.slice V0 nb v0,.func (.func 123) #[.map (some (co+2))] #[],.int .i64 90]
theorem MisB.walk_start {da co:Nat} {m:Mets} {e:Ex} {S:Nat->Prop} {v:Value} {w wx:World} {pb fb v0 nb:Nat} {V0:Option Addr}(h:MisB w co e pb fb V0 v0 nb wx)(hM:MetsAt da co m w)(hv:RdX S w e v)(hS:∀g,S g->g<w.heap.size/\¬metB da co g)(hsz:m.size+e.wt<=9000)(hok:e.Ok) :
  Calls Tryz.prog 117 #[v,.func (.func 124) #[] #[.pointer (some ⟨pb,0,none⟩)]] wx λe' w'=>e'=.returned (.tuple #[]) /\
   Sta (IMis (metB da co) w pb (w.heap.size+2) (v0C co V0 nb v0) (boundE e) V0) (λg=>metB da co g\/g=pb\/g=fb) wx (0+cost (evs e)) (runS stM (evs e) []) w':=by
 have hs:=h.lw.size
 have hpb:=h.hpb.lt
 have hfb:=h.hfb.lt
 have hlow:=h.low
 have h4:=cost_wt e
 have h2:=size_wt e
 refine sc_walkOK 124 #[.pointer (some ⟨pb,0,none⟩)] 1000000 (IMis (metB da co) w pb (w.heap.size+2) (v0C co V0 nb v0) (boundE e) V0) stM (IMis.inv _ _ _ _ _ _ _) ek_mis (sc_misused1 _ _ _ _ _ _ _ 1000000 (Nat.le_refl _)) 90001 (Nat.le_refl _) 0 [] (λg=>metB da co g\/g=pb\/g=fb) e S v wx (by omega) ⟨[],?_⟩ (hv.keep (λ_ h=>h) (λg hg=>h.lw.block g (hS g hg).1)) (λg hg=>⟨by have:=(hS g hg).1;omega,?_⟩) hok (by omega)
 ·have hnM:∀g,w.heap.size+2<=g/\g<wx.heap.size/\g≠pb/\g≠fb->¬(metB da co g\/g=pb\/g=fb):=by
   rintro g hg (e1|e1|e1)
   ·have:=hM.lt g e1;omega
   ·exact hg.2.2.1 e1
   ·exact hg.2.2.2 e1
  have hall:∀g,(metB da co g\/g=pb\/g=fb)->g<wx.heap.size/\(w.heap.size+2<=g\/metB da co g):=by
   rintro g (hg|hg|hg)
   ·exact⟨by have:=hM.lt g hg;omega,.inr hg⟩
   ·exact⟨by omega,.inl (by omega)⟩
   ·exact⟨by omega,.inl (by omega)⟩
  have hrow:wx.ownsRow (w.heap.size+2) 189 3 (.slice (some ⟨fb,0,none⟩) 1 1) 1 (v0C co V0 nb v0++[]):=⟨rfl,.inr ⟨fb,1,_,rfl,by omega,h.hfb,Nat.le_refl _,by unfold maxLen;omega,rfl,rfl⟩⟩
  exact { len:=Nat.le_refl _,ll:=rfl,recs:=λi xs r h1 _=>by simp at h1,nd:=by simp,nm0:=h.nm.keep (λg hg=>⟨⟨hg.2.1,hnM g hg⟩,hg.1⟩) (λ_ _=>rfl),low:=⟨.inr (.inl rfl),by omega⟩,old:=λg hg=>⟨.inl hg,by have:=hM.lt g hg;omega,h.lw.block g (hM.lt g hg)⟩,all:=hall,row:=⟨fb,1,h.hpb,hrow,.inr (.inr rfl),h.ne.symm,by simp⟩ }
 ·have:=hS g hg
  rintro(e1|e1|e1)
  ·exact this.2 e1
  ·omega
  ·omega
theorem MisB.walk_end {da co:Nat} {m:Mets} {e:Ex} {w wx w2:World} {pb fb v0 nb c base:Nat} {V0 V1:Option Addr} {v0l:List Value} {x0:List Nm} {s:List (List Nm)} {L:List BF} {M:Nat->Prop} {t0 t1:TypeId} {cs0 cs1:Array Value}(h:MisB w co e pb fb V0 v0 nb wx)(hM:MetsAt da co m w)
  (hmi:MisI (metB da co) w pb base v0l x0 V1 c s L M w2)(hch:Chg (λg=>metB da co g\/g=pb\/g=fb) wx w2)(c0:Blk wx w.heap.size t0 cs0)(c1:Blk wx (w.heap.size+1) t1 cs1) :
  Below w.heap.size w w2/\Blk w2 w.heap.size t0 cs0/\Blk w2 (w.heap.size+1) t1 cs1:=by
 have hs:=h.lw.size
 have hlow:=h.low
 have hno:∀k,w.heap.size<=k->k<w.heap.size+2->¬(metB da co k\/k=pb\/k=fb):=λk h1 h2 e1=>by
  rcases e1 with e1|e1|e1
  ·have:=hM.lt k e1;omega
  ·omega
  ·omega
 refine⟨h.lw.trans ⟨hch.os,hch.tape,hch.output,hch.size,λj hj=>?_⟩,c0.same (hch.block _ c0.lt (hno _ (by omega) (by omega))),c1.same (hch.block _ c1.lt (hno _ (by omega) (by omega)))⟩
 by_cases hB:metB da co j
 ·exact(hmi.old j hB).2.2.trans (h.lw.block j hj).symm
 ·exact hch.block j (by omega) (by
   rintro(e1|e1|e1)
   ·exact hB e1
   ·omega
   ·omega)
theorem mis_end {da co:Nat}(hd:da<co) {m:Mets} {e:Ex} {w w2:World} {M:Nat->Prop} {s:List (List Nm)} {L:List BF} {c g pb v0 nb sn:Nat} {V0:Option Addr}(hM:MetsAt da co m w)(hok:e.Ok)(hsz:m.size+e.wt<=9000)(hsl:runS stM (evs e) []=s)(hsn:s.length=sn)
  (hmi:MisI (metB da co) w pb (w.heap.size+2) (v0C co V0 nb v0) (boundE e) V0 c s L M w2)(hc:c<=40000)(k3:M g)(hgb:w.heap.size+2<=g)(k5:∀r∈L,r.f≠g)(hb2:Below w.heap.size w w2)(hnb:nb=(boundE e).length)
  (w3 w4 w5:World)(A3 A4:Option Addr)(n3 n4 c3 c4 g5 c5:Nat)(h24:Below w2.heap.size w2 w4)(h23:w2.heap.size<=w3.heap.size)(hn3:n3=(freeE e).length)(hn4:n4=(consE e).length)(hr3:w3.ownsRow w2.heap.size 9 1 (.slice A3 n3 c3) n3 ((freeE e).map Sx.strV))(hr4:w4.ownsRow w3.heap.size 9 1 (.slice A4 n4 c4) n4 ((consE e).map Sx.strV))(h34:Below w3.heap.size w3 w4)
  {N6:List Value} (hN6:N6=[.slice A3 n3 c3,.func (.func 122) #[.map (some (co+2))] #[],.int .i64 91,.slice A4 n4 c4,.func (.func 122) #[.map (some co)] #[],.int .i64 91]) {o:Obj}
  (ho:w5.ownsRow (w.heap.size+2) 189 3 (.slice (some ⟨g5,0,none⟩) (sn+1+2) c5) (sn+1+2) (v0C co V0 nb v0++L.flatMap BF.cells++N6))(hg:(w4.alloc o).grownBy w5 (some g))(hat:some g=some g5\/g5=w4.heap.size+1) :
  LPostF da co w (mis m.b m.c e) (MetsAt da co m) (.returned (.slice (some ⟨g5,0,none⟩) (sn+1+2) c5)) w5:=by
 subst hN6
 have hs2:=hb2.size
 have hs4:=h24.size
 have hs5:=hg.size
 simp at hs5
 have hgl:=(hmi.all g k3).1
 have hs34:=h34.size
 have h4:=cost_wt e
 have hl:=len_all e
 have hb5:Below w.heap.size w w5:=((hb2.trans (h24.mono hs2)).alloc (by omega) o).grown hg (by simp;omega) (λk hk=>by injection hk with hk;omega)
 have hfar:∀k,k<w4.heap.size->k≠g->w5.heap[k]? = w4.heap[k]?:=λk h1 h2=>(hg.block k (by simp;omega) (λe=>by injection e with e;exact h2 e)).trans (Below.heap_alloc _ _ _ h1)
 have hfar2:∀k,k<w2.heap.size->k≠g->w5.heap[k]? = w2.heap[k]?:=λk h1 h2=>(hfar k (by omega) h2).trans (h24.block k h1)
 have hMl:∀k,M k->k<w2.heap.size:=λk hk=>(hmi.all k hk).1
 have hLl:∀r∈L,r.f<w2.heap.size:=λr hr=>by
  obtain⟨i,hi⟩:=List.mem_iff_getElem?.1 hr
  have hil:=(List.getElem?_eq_some_iff.1 hi).1
  obtain⟨-,-,-,a4,-⟩:=hmi.recs i _ r (List.getElem?_eq_getElem (by rw[<-hmi.ll];exact hil)) hi
  exact a4.lt
 refine first_mis hd (M:=M) (L:=L) (s:=s) (hM.below hb5) hM.lt hb5 hsl.symm hmi.ll hnb hn3 hn4 (λi xs r h1 h2=>?_) (λk hk=>(hmi.old k hk).1) hmi.nd (hmi.nm0.keep (λk hk=>⟨⟨by omega,hk.1.2⟩,by omega⟩) (λk hk=>hfar2 k hk.1.1 (λe=>hk.1.2 (e▸k3))))
  ((own_nms hn3 hr3).keep (λk hk=>⟨⟨by omega,λe=>by have:=hMl k e;omega⟩,by omega⟩) (λk hk=>(hfar k (by omega) (by omega)).trans (h34.block k hk.2)))
  ((own_nms hn4 hr4).keep (λk hk=>⟨⟨by omega,λe=>by have:=hMl k e;omega⟩,by omega⟩) (λk hk=>hfar k hk.2 (by omega)))
  (Value.ownsLow ho (by omega)) (λr hr=>?_) (by omega) (by have:=hmi.len;omega) (ok_24 e hok) (by omega) (λxs hx=>?_)
 ·obtain⟨a1,a2,a3,a4,a5,a6⟩:=hmi.recs i xs r h1 h2
  exact⟨a1,a2.keep (λk hk=>⟨by omega,hk.2⟩) (λk hk=>hfar2 k hk.1 (λe=>hk.2 (e▸k3))),a3,a4.keep (hfar2 _ a4.lt (k5 r (List.mem_of_getElem? h2))),a5,by omega⟩
 ·rcases hat with e1|e1
  ·injection e1 with e1
   exact e1▸k5 r hr
  ·have:=hLl r hr;omega
 ·have:=bi_len (evs e) xs (hsl▸hx)
  omega
set_option maxHeartbeats 12800000 in
theorem sc_misused_bind {da co:Nat}(hd:da<co)(m:Mets)(n:Nm)(e:Ex)(S:Nat->Prop)(k:Int)(x:ByteArray)(t:Bool)(K:Int)(X1:ByteArray)(Z:Int)(B:Option Addr)(mm q:Nat)(KA:Option Addr)(kn kc:Nat)(LA:Option Addr)(ln lc:Nat)(w:World)(hM:MetsAt da co m w)
  (hv:RdX S w e (.agg #[.int .i64 k,.string x,.bool t,.int .i64 K,.string X1,.int .i64 Z,.slice B mm q,.slice KA kn kc,.slice LA ln lc]))(hS:∀g,S g->g<w.heap.size/\¬metB da co g)(hsz:m.size+e.wt<=9000)(hok:e.Ok) :
  Calls Tryz.prog 75 #[.agg #[.map (some da),.map (some co),.map (some (co+1)),.map (some (co+2))],
   .agg #[.int .i64 3,.string ⟨n.toArray⟩,.slice none 0 0,.slice none 0 0,.int .i64 0,.string ⟨#[]⟩,.int .i64 0,.slice none 0 0,.int .i64 k,.string x,.bool t,.int .i64 K,.string X1,.int .i64 Z,.slice B mm q,.slice KA kn kc,.slice LA ln lc]] w
   (LPostF da co w (mis m.b m.c e) (MetsAt da co m)):=by
 obtain⟨X,hX⟩:∃X:ByteArray,⟨n.toArray⟩=X:=⟨_,rfl⟩
 rw[hX]
 obtain⟨W,hW⟩:∃W,(w.alloc (.cells #[.map (some da),.map (some co),.map (some (co+1)),.map (some (co+2))] 130)).alloc (.cells #[.int .i64 3,.string X,.slice none 0 0,.slice none 0 0,.int .i64 0,.string ⟨#[]⟩,.int .i64 0,.slice none 0 0,.int .i64 k,.string x,.bool t,.int .i64 K,.string X1,.int .i64 Z,.slice B mm q,.slice KA kn kc,.slice LA ln lc] 59)=W:=⟨_,rfl⟩
 have hb:Below w.heap.size w W:=hW▸((Below.refl _ w).alloc (Nat.le_refl _) _).alloc (by simp) _
 have hz:W.heap.size=w.heap.size+1+1:=by rw[<-hW];simp
 have B1:Hid (Blk W (w.heap.size+1) 59 #[.int .i64 3,.string X,.slice none 0 0,.slice none 0 0,.int .i64 0,.string ⟨#[]⟩,.int .i64 0,.slice none 0 0,.int .i64 k,.string x,.bool t,.int .i64 K,.string X1,.int .i64 Z,.slice B mm q,.slice KA kn kc,.slice LA ln lc]):=hidE (hW▸two_top _ _ _ _ rfl)
 have B0:Hid (Blk W w.heap.size 130 #[.map (some da),.map (some co),.map (some (co+1)),.map (some (co+2))]):=hidE (hW▸Blk.alloc (heap_alloc_new w _) _)
 have g0:W.cell? ⟨w.heap.size+1,0,none⟩=some (.int .i64 3):=B1.out.cell 0
 have hkS:∀ {U:World},Below W.heap.size W U->∀g,S g->U.heap[g]? = w.heap[g]?:=λhU g hg=>(hb.trans (hU.mono (by omega))).block g (hS g hg).1
 have HC:Hid (∀U,Below W.heap.size W U->Calls Tryz.prog 30 #[.agg #[.int .i64 k,.string x,.bool t,.int .i64 K,.string X1,.int .i64 Z,.slice B mm q,.slice KA kn kc,.slice LA ln lc]] U (λe' w'=>∃A2 n2 c2,e'=.returned (.slice A2 n2 c2)/\n2=(boundE e).length/\w'.ownsRow U.heap.size 9 1 (.slice A2 n2 c2) n2 ((boundE e).map Sx.strV)/\Below U.heap.size U w'/\Below W.heap.size W w')):=hidE (λU hU=>by
  refine(sc_Bound e S _ U (hv.keep (λ_ h=>h) (hkS hU)) (λg hg=>by have:=(hS g hg).1;have:=hU.size;omega) hok (by have:=size_wt e;omega) (by have:=cost_wt e;omega)).mono ?_
  rintro e' w' ⟨A2,n2,c2,rfl,hn,hr,hbl⟩
  exact⟨A2,n2,c2,rfl,hn,hr,hbl,hU.trans (hbl.mono hU.size)⟩)
 have HLD:Hid (∀U,Below W.heap.size W U->(U.cell? ⟨w.heap.size,3,none⟩=some (.map (some (co+2)))/\U.cell? ⟨w.heap.size+1,8,none⟩=some (.int .i64 k)/\U.cell? ⟨w.heap.size+1,9,none⟩=some (.string x)/\U.cell? ⟨w.heap.size+1,10,none⟩=some (.bool t)/\U.cell? ⟨w.heap.size+1,11,none⟩=some (.int .i64 K)/\U.cell? ⟨w.heap.size+1,12,none⟩=some (.string X1)/\U.cell? ⟨w.heap.size+1,13,none⟩=some (.int .i64 Z)/\U.cell? ⟨w.heap.size+1,14,none⟩=some (.slice B mm q)/\U.cell? ⟨w.heap.size+1,15,none⟩=some (.slice KA kn kc)/\U.cell? ⟨w.heap.size+1,16,none⟩=some (.slice LA ln lc))):=hidE λU hU=>by
  have c0:=B0.out.below hU (by omega)
  have c1:=B1.out.below hU (by omega)
  exact⟨c0.cell 3,c1.cell 8,c1.cell 9,c1.cell 10,c1.cell 11,c1.cell 12,c1.cell 13,c1.cell 14,c1.cell 15,c1.cell 16⟩
 have HB1:=hidE hb
 have BB:Hid (Below W.heap.size W W):=hidE (Below.refl _ _)
 clear hb hkS
 go_enter Tryz.func75,Tryz.ntmps75
 go_upto_region 3 with fail
 try rw[hW]
 clear hW g0
 go_cut [5] from 9 (λv5 wx=>∃pb fb V0 v0 nb,v5=.pointer (some ⟨pb,0,none⟩)/\Hid (Below W.heap.size W wx)/\Hid (MisB w co e pb fb V0 v0 nb wx))
 case first =>
  refine wp_region_held_drew (S:=λU:World=>U.cell? ⟨w.heap.size,3,none⟩=some (.map (some (co+2)))/\U.cell? ⟨w.heap.size+1,8,none⟩=some (.int .i64 k)/\U.cell? ⟨w.heap.size+1,9,none⟩=some (.string x)/\U.cell? ⟨w.heap.size+1,10,none⟩=some (.bool t)/\U.cell? ⟨w.heap.size+1,11,none⟩=some (.int .i64 K)/\U.cell? ⟨w.heap.size+1,12,none⟩=some (.string X1)/\U.cell? ⟨w.heap.size+1,13,none⟩=some (.int .i64 Z)/\U.cell? ⟨w.heap.size+1,14,none⟩=some (.slice B mm q)/\U.cell? ⟨w.heap.size+1,15,none⟩=some (.slice KA kn kc)/\U.cell? ⟨w.heap.size+1,16,none⟩=some (.slice LA ln lc)) (by kernel_rfl) ?_ (λhHeld=>?_)
  ·refine HLD.out _ ?_;(repeat first|(with_reducible exact BB.out)|(with_reducible refine Below.drew ?_)|(with_reducible refine Below.setCell ?_ (by have:=BB.out.size;first|omega|(simp;done)|(simp;omega)) _)|(with_reducible refine Below.alloc ?_ (by have:=BB.out.size;first|omega|(simp;done)|(simp;omega)) _))
  refine takeH (i:=0) (d:=9) (v:=?_) rfl rfl (by kernel_rfl) (by kernel_rfl) (by kernel_rfl) (λ_ _ _ h=>h) (Or.inl ⟨by rfl,?_⟩) (by assumption) ?_
  rotate_left 1
  ·(intro w hSw;(try dsimp only at hSw);go_simp;(try with_reducible rfl))
  simp only[List.setIfInBounds_toArray,List.set_cons_zero,List.set_cons_succ]
  refine takeH (i:=1) (d:=10) (v:=?_) rfl rfl (by kernel_rfl) (by kernel_rfl) (by kernel_rfl) (λ_ _ _ h=>h) (Or.inl ⟨by rfl,?_⟩) (by assumption) ?_
  rotate_left 1
  ·(intro w hSw;(try dsimp only at hSw);go_simp;(try with_reducible rfl))
  simp only[List.setIfInBounds_toArray,List.set_cons_zero,List.set_cons_succ]
  refine takeH (i:=3) (d:=12) (v:=?_) rfl rfl (by kernel_rfl) (by kernel_rfl) (by kernel_rfl) (λ_ _ _ h=>h) (Or.inl ⟨by rfl,?_⟩) (by assumption) ?_
  rotate_left 1
  ·(intro w hSw;(try dsimp only at hSw);go_simp;(try with_reducible rfl))
  simp only[List.setIfInBounds_toArray,List.set_cons_zero,List.set_cons_succ]
  refine takeH (i:=4) (d:=13) (v:=?_) rfl rfl (by kernel_rfl) (by kernel_rfl) (by kernel_rfl) (λ_ _ _ h=>h) (Or.inl ⟨by rfl,?_⟩) (by assumption) ?_
  rotate_left 1
  ·(intro w hSw;(try dsimp only at hSw);go_simp;(try with_reducible rfl))
  simp only[List.setIfInBounds_toArray,List.set_cons_zero,List.set_cons_succ]
  refine takeH (i:=5) (d:=14) (v:=?_) rfl rfl (by kernel_rfl) (by kernel_rfl) (by kernel_rfl) (λ_ _ _ h=>h) (Or.inl ⟨by rfl,?_⟩) (by assumption) ?_
  rotate_left 1
  ·(intro w hSw;(try dsimp only at hSw);go_simp;(try with_reducible rfl))
  simp only[List.setIfInBounds_toArray,List.set_cons_zero,List.set_cons_succ]
  refine wpAnyH_ready (rs:=[2,8]) (by kernel_rfl) (by simp) ?_
  refine AllReadyH.cons (i:=2) rfl (λK hK=>?_) ?_
  ·go_simp
   with_reducible refine(HC.out _ (by(repeat first|(with_reducible exact BB.out)|(with_reducible refine Below.drew ?_)|(with_reducible refine Below.setCell ?_ (by have:=BB.out.size;first|omega|(simp;done)|(simp;omega)) _)|(with_reducible refine Below.alloc ?_ (by have:=BB.out.size;first|omega|(simp;done)|(simp;omega)) _)))).mono ?_
   rintro e' w2 ⟨A2,n2,c2,rfl,hn2,hr2,b2,bb2⟩
   have HN2:=hidE hn2
   have HR2:=hidE hr2
   have B2:=hidE b2
   replace BB:=hidE bb2
   clear hn2 hr2 b2 bb2 HC
   go_wp2_with fail
   refine hK.out _ _ ?_ (λhHeld=>?_)
   ·try dsimp only
    refine HLD.out _ ?_;(repeat first|(with_reducible exact BB.out)|(with_reducible refine Below.drew ?_)|(with_reducible refine Below.setCell ?_ (by have:=BB.out.size;first|omega|(simp;done)|(simp;omega)) _)|(with_reducible refine Below.alloc ?_ (by have:=BB.out.size;first|omega|(simp;done)|(simp;omega)) _))
   clear hK K
   refine takeH (i:=6) (d:=15) (v:=?_) rfl rfl (by kernel_rfl) (by kernel_rfl) (by kernel_rfl) (λ_ _ _ h=>h) (Or.inl ⟨by rfl,?_⟩) (by assumption) ?_
   rotate_left 1
   ·(intro w hSw;(try dsimp only at hSw);go_simp;(try with_reducible rfl))
   simp only[List.setIfInBounds_toArray,List.set_cons_zero,List.set_cons_succ]
   refine wpAnyH_ready (rs:=[7,8]) (by kernel_rfl) (by simp) ?_
   refine AllReadyH.cons (i:=7) rfl (λK hK=>?_) ?_
   ·go_simp
    refine hK.out _ _ ?_ (λhHeld=>?_)
    ·try dsimp only
     refine HLD.out _ ?_;(repeat first|(with_reducible exact BB.out)|(with_reducible refine Below.drew ?_)|(with_reducible refine Below.setCell ?_ (by have:=BB.out.size;first|omega|(simp;done)|(simp;omega)) _)|(with_reducible refine Below.alloc ?_ (by have:=BB.out.size;first|omega|(simp;done)|(simp;omega)) _))
    clear hK K
    refine wpAnyH_ready (rs:=[8]) (by kernel_rfl) (by simp) ?_
    refine AllReadyH.cons (i:=8) rfl (λK hK=>?_) ?_
    ·go_simp
     refine hK.out _ _ ?_ (λhHeld=>?_)
     ·try dsimp only
      refine HLD.out _ ?_;(repeat first|(with_reducible exact BB.out)|(with_reducible refine Below.drew ?_)|(with_reducible refine Below.setCell ?_ (by have:=BB.out.size;first|omega|(simp;done)|(simp;omega)) _)|(with_reducible refine Below.alloc ?_ (by have:=BB.out.size;first|omega|(simp;done)|(simp;omega)) _))
     clear hK K
     refine wpAnyH_ready (rs:=[9]) (by kernel_rfl) (by simp) ?_
     refine AllReadyH.cons (i:=9) rfl (λK hK=>?_) ?_
     ·go_simp
      refine hK.out _ _ ?_ (λhHeld=>?_)
      ·try dsimp only
       refine HLD.out _ ?_;(repeat first|(with_reducible exact BB.out)|(with_reducible refine Below.drew ?_)|(with_reducible refine Below.setCell ?_ (by have:=BB.out.size;first|omega|(simp;done)|(simp;omega)) _)|(with_reducible refine Below.alloc ?_ (by have:=BB.out.size;first|omega|(simp;done)|(simp;omega)) _))
      clear hK K
      refine wpAnyH_done (by kernel_rfl) ?_ _
      go_wp2_with fail
      go_meet
      case rel =>
       have hbs:=BB.out.size
       have LW:=(BB.out.alloc BB.out.size (.cells #[.slice A2 n2 c2,.func (.func 123) #[.map (some (co+2))] #[],.int .i64 90] 189)).alloc (by simp;omega) (.cells #[.slice (some ⟨w2.heap.size,0,none⟩) 1 1] 134)
       refine⟨w2.heap.size+1,w2.heap.size,A2,c2,n2,rfl,hidE LW,hidE ⟨HN2.out,HB1.out.trans (LW.mono (by omega)),two_top _ _ _ _ rfl,Blk.alloc (heap_alloc_new w2 _) _,(own_nms HN2.out HR2.out).keep (λg hg=>?_) (λg hg=>?_),by omega,by omega,by omega⟩⟩
       ·have:=hg.1
        simp at this
        exact⟨by omega,by have:=hg.2;simp;omega,by omega,by omega⟩
       ·exact(Below.heap_alloc _ _ _ (by have:=hg.2;simp;omega)).trans (Below.heap_alloc _ _ _ hg.2)
     exact AllReadyH.nil
    exact AllReadyH.nil
   refine AllReadyH.cons (i:=8) rfl (λK hK=>?_) ?_
   ·go_simp
    refine hK.out _ _ ?_ (λhHeld=>?_)
    ·try dsimp only
     refine HLD.out _ ?_;(repeat first|(with_reducible exact BB.out)|(with_reducible refine Below.drew ?_)|(with_reducible refine Below.setCell ?_ (by have:=BB.out.size;first|omega|(simp;done)|(simp;omega)) _)|(with_reducible refine Below.alloc ?_ (by have:=BB.out.size;first|omega|(simp;done)|(simp;omega)) _))
    clear hK K
    refine wpAnyH_ready (rs:=[7]) (by kernel_rfl) (by simp) ?_
    refine AllReadyH.cons (i:=7) rfl (λK hK=>?_) ?_
    ·go_simp
     refine hK.out _ _ ?_ (λhHeld=>?_)
     ·try dsimp only
      refine HLD.out _ ?_;(repeat first|(with_reducible exact BB.out)|(with_reducible refine Below.drew ?_)|(with_reducible refine Below.setCell ?_ (by have:=BB.out.size;first|omega|(simp;done)|(simp;omega)) _)|(with_reducible refine Below.alloc ?_ (by have:=BB.out.size;first|omega|(simp;done)|(simp;omega)) _))
     clear hK K
     refine wpAnyH_ready (rs:=[9]) (by kernel_rfl) (by simp) ?_
     refine AllReadyH.cons (i:=9) rfl (λK hK=>?_) ?_
     ·go_simp
      refine hK.out _ _ ?_ (λhHeld=>?_)
      ·try dsimp only
       refine HLD.out _ ?_;(repeat first|(with_reducible exact BB.out)|(with_reducible refine Below.drew ?_)|(with_reducible refine Below.setCell ?_ (by have:=BB.out.size;first|omega|(simp;done)|(simp;omega)) _)|(with_reducible refine Below.alloc ?_ (by have:=BB.out.size;first|omega|(simp;done)|(simp;omega)) _))
      clear hK K
      refine wpAnyH_done (by kernel_rfl) ?_ _
      go_wp2_with fail
      go_meet
      case rel =>
       have hbs:=BB.out.size
       have LW:=(BB.out.alloc BB.out.size (.cells #[.slice (some ⟨w2.heap.size+1,0,none⟩) 1 1] 134)).alloc (by simp;omega) (.cells #[.slice A2 n2 c2,.func (.func 123) #[.map (some (co+2))] #[],.int .i64 90] 189)
       refine⟨w2.heap.size,w2.heap.size+1,A2,c2,n2,rfl,hidE LW,hidE ⟨HN2.out,HB1.out.trans (LW.mono (by omega)),Blk.alloc (heap_alloc_new w2 _) _,two_top _ _ _ _ rfl,(own_nms HN2.out HR2.out).keep (λg hg=>?_) (λg hg=>?_),by omega,by omega,by omega⟩⟩
       ·have:=hg.1
        simp at this
        exact⟨by omega,by have:=hg.2;simp;omega,by omega,by omega⟩
       ·exact(Below.heap_alloc _ _ _ (by have:=hg.2;simp;omega)).trans (Below.heap_alloc _ _ _ hg.2)
     exact AllReadyH.nil
    exact AllReadyH.nil
   exact AllReadyH.nil
  refine AllReadyH.cons (i:=8) rfl (λK hK=>?_) ?_
  ·go_simp
   refine hK.out _ _ ?_ (λhHeld=>?_)
   ·try dsimp only
    refine HLD.out _ ?_;(repeat first|(with_reducible exact BB.out)|(with_reducible refine Below.drew ?_)|(with_reducible refine Below.setCell ?_ (by have:=BB.out.size;first|omega|(simp;done)|(simp;omega)) _)|(with_reducible refine Below.alloc ?_ (by have:=BB.out.size;first|omega|(simp;done)|(simp;omega)) _))
   clear hK K
   refine wpAnyH_ready (rs:=[2]) (by kernel_rfl) (by simp) ?_
   refine AllReadyH.cons (i:=2) rfl (λK hK=>?_) ?_
   ·go_simp
    with_reducible refine(HC.out _ (by(repeat first|(with_reducible exact BB.out)|(with_reducible refine Below.drew ?_)|(with_reducible refine Below.setCell ?_ (by have:=BB.out.size;first|omega|(simp;done)|(simp;omega)) _)|(with_reducible refine Below.alloc ?_ (by have:=BB.out.size;first|omega|(simp;done)|(simp;omega)) _)))).mono ?_
    rintro e' w2 ⟨A2,n2,c2,rfl,hn2,hr2,b2,bb2⟩
    have HN2:=hidE hn2
    have HR2:=hidE hr2
    have B2:=hidE b2
    replace BB:=hidE bb2
    clear hn2 hr2 b2 bb2 HC
    have hp:Blk (w2.alloc (.cells #[.slice A2 n2 c2,.func (.func 123) #[.map (some (co+2))] #[],.int .i64 90] 189)) (w.heap.size+1+1) 134 #[.slice none 0 0]:=(Blk.below (hz▸heap_alloc_new W _) B2.out (by simp;omega)).alloc _
    obtain⟨p0,p1,p2⟩:=blk_facts1 hp
    have HP:=hidE hp
    clear hp
    go_wp2_with fail
    refine hK.out _ _ ?_ (λhHeld=>?_)
    ·try dsimp only
     refine HLD.out _ ?_;(repeat first|(with_reducible exact BB.out)|(with_reducible refine Below.drew ?_)|(with_reducible refine Below.setCell ?_ (by have:=BB.out.size;first|omega|(simp;done)|(simp;omega)) _)|(with_reducible refine Below.alloc ?_ (by have:=BB.out.size;first|omega|(simp;done)|(simp;omega)) _))
    clear hK K
    refine takeH (i:=6) (d:=15) (v:=?_) rfl rfl (by kernel_rfl) (by kernel_rfl) (by kernel_rfl) (λ_ _ _ h=>h) (Or.inl ⟨by rfl,?_⟩) (by assumption) ?_
    rotate_left 1
    ·(intro w hSw;(try dsimp only at hSw);go_simp;(try with_reducible rfl))
    simp only[List.setIfInBounds_toArray,List.set_cons_zero,List.set_cons_succ]
    refine wpAnyH_ready (rs:=[7]) (by kernel_rfl) (by simp) ?_
    refine AllReadyH.cons (i:=7) rfl (λK hK=>?_) ?_
    ·go_simp
     refine hK.out _ _ ?_ (λhHeld=>?_)
     ·try dsimp only
      refine HLD.out _ ?_;(repeat first|(with_reducible exact BB.out)|(with_reducible refine Below.drew ?_)|(with_reducible refine Below.setCell ?_ (by have:=BB.out.size;first|omega|(simp;done)|(simp;omega)) _)|(with_reducible refine Below.alloc ?_ (by have:=BB.out.size;first|omega|(simp;done)|(simp;omega)) _))
     clear hK K
     refine wpAnyH_ready (rs:=[9]) (by kernel_rfl) (by simp) ?_
     refine AllReadyH.cons (i:=9) rfl (λK hK=>?_) ?_
     ·go_simp
      refine hK.out _ _ ?_ (λhHeld=>?_)
      ·try dsimp only
       refine HLD.out _ ?_;(repeat first|(with_reducible exact BB.out)|(with_reducible refine Below.drew ?_)|(with_reducible refine Below.setCell ?_ (by have:=BB.out.size;first|omega|(simp;done)|(simp;omega)) _)|(with_reducible refine Below.alloc ?_ (by have:=BB.out.size;first|omega|(simp;done)|(simp;omega)) _))
      clear hK K
      refine wpAnyH_done (by kernel_rfl) ?_ _
      go_wp2_with fail
      go_meet
      case rel =>
       have hbs:=BB.out.size
       have LW:=(BB.out.alloc BB.out.size (.cells #[.slice A2 n2 c2,.func (.func 123) #[.map (some (co+2))] #[],.int .i64 90] 189)).setCell (p:=⟨w.heap.size+1+1,0,none⟩) (by show W.heap.size<=w.heap.size+1+1;omega) (.slice (some ⟨w2.heap.size,0,none⟩) 1 1)
       have hbz:=B2.out.size
       simp at hbz
       refine⟨w.heap.size+1+1,w2.heap.size,A2,c2,n2,rfl,hidE LW,hidE ⟨HN2.out,HB1.out.trans (LW.mono (by omega)),heap_setCell_same _ _ 0 _ _ _ HP.out,(Blk.same (heap_alloc_new w2 _) (Below.heap_setCell _ ⟨w.heap.size+1+1,0,none⟩ _ w2.heap.size (by show w2.heap.size≠w.heap.size+1+1;omega))),(own_nms HN2.out HR2.out).keep (λg hg=>?_) (λg hg=>?_),by omega,by omega,by omega⟩⟩
       ·have:=hg.1
        simp at this
        exact⟨by omega,by have:=hg.2;simp;omega,by omega,by omega⟩
       ·have:=hg.1
        simp at this
        exact(Below.heap_setCell _ ⟨w.heap.size+1+1,0,none⟩ _ g (by show g≠w.heap.size+1+1;omega)).trans (Below.heap_alloc _ _ _ hg.2)
     exact AllReadyH.nil
    exact AllReadyH.nil
   exact AllReadyH.nil
  exact AllReadyH.nil
 case rest =>
  obtain⟨pb,fb,V0,v0,nb,rfl,hlw,hmb⟩:=hcut
  have hwz:=hlw.out.size
  have c1:=B1.out.below hlw.out (by omega)
  have c0:=B0.out.below hlw.out (by omega)
  have e8:wc.cell? ⟨w.heap.size+1,8,none⟩=some (.int .i64 k):=c1.cell 8
  have e9:wc.cell? ⟨w.heap.size+1,9,none⟩=some (.string x):=c1.cell 9
  have e10:wc.cell? ⟨w.heap.size+1,10,none⟩=some (.bool t):=c1.cell 10
  have e11:wc.cell? ⟨w.heap.size+1,11,none⟩=some (.int .i64 K):=c1.cell 11
  have e12:wc.cell? ⟨w.heap.size+1,12,none⟩=some (.string X1):=c1.cell 12
  have e13:wc.cell? ⟨w.heap.size+1,13,none⟩=some (.int .i64 Z):=c1.cell 13
  have e14:wc.cell? ⟨w.heap.size+1,14,none⟩=some (.slice B mm q):=c1.cell 14
  have e15:wc.cell? ⟨w.heap.size+1,15,none⟩=some (.slice KA kn kc):=c1.cell 15
  have e16:wc.cell? ⟨w.heap.size+1,16,none⟩=some (.slice LA ln lc):=c1.cell 16
  have C1:=hidE c1
  have C0:=hidE c0
  have hco4:=cost_wt e
  have hsz2:=size_wt e
  have hW:=hmb.out.walk_start hM hv hS hsz hok
  have HW:=hidE hW
  have HMB:=hmb
  clear hlw c1 c0 hW BB HLD HC
  go_wp2_with fail
  refine HW.out.mono ?_
  rintro e1 w2 ⟨rfl,M,⟨L,hmi⟩,hMs,hch⟩
  obtain⟨sl,hsl⟩:∃y,runS stM (evs e) []=y:=⟨_,rfl⟩
  rw[hsl]at hmi
  obtain⟨hb2,hd0,hd1⟩:=HMB.out.walk_end hM hmi hch C0.out C1.out
  obtain⟨g,cp,k1,k2,k3,k4,k5⟩:=hmi.row
  obtain⟨sn,hsn⟩:∃y,sl.length=y:=⟨_,rfl⟩
  rw[hsn]at k1 k2
  have HSN:Hid (sn<=40000):=hidE (by have:=hmi.len;omega)
  obtain⟨i0,hi0,hz0,hz1,hz2⟩:=info_parts infoFa
  have HLD5:Hid (∀U,Below w2.heap.size w2 U->(λU:World=>U.cell? ⟨pb,0,none⟩=some (.slice (some ⟨g,0,none⟩) (sn+1) cp)/\U.cell? ⟨w.heap.size,3,none⟩=some (.map (some (co+2)))/\U.cell? ⟨w.heap.size,1,none⟩=some (.map (some co))/\U.cell? ⟨w.heap.size+1,8,none⟩=some (.int .i64 k)/\U.cell? ⟨w.heap.size+1,9,none⟩=some (.string x)/\U.cell? ⟨w.heap.size+1,10,none⟩=some (.bool t)/\U.cell? ⟨w.heap.size+1,11,none⟩=some (.int .i64 K)/\U.cell? ⟨w.heap.size+1,12,none⟩=some (.string X1)/\U.cell? ⟨w.heap.size+1,13,none⟩=some (.int .i64 Z)/\U.cell? ⟨w.heap.size+1,14,none⟩=some (.slice B mm q)/\U.cell? ⟨w.heap.size+1,15,none⟩=some (.slice KA kn kc)/\U.cell? ⟨w.heap.size+1,16,none⟩=some (.slice LA ln lc)) U):=hidE λU hU=>by
   have c0:=hd0.below hU hd0.lt
   have c1:=hd1.below hU hd1.lt
   have cp:=k1.below hU k1.lt
   exact⟨cp.cell 0,c0.cell 3,c0.cell 1,c1.cell 8,c1.cell 9,c1.cell 10,c1.cell 11,c1.cell 12,c1.cell 13,c1.cell 14,c1.cell 15,c1.cell 16⟩
  have HGL:Hid (g<w2.heap.size):=hidE (hmi.all g k3).1
  have HB2:=hidE hb2
  have hvU:∀U,Below w2.heap.size w2 U->RdX S U e (.agg #[.int .i64 k,.string x,.bool t,.int .i64 K,.string X1,.int .i64 Z,.slice B mm q,.slice KA kn kc,.slice LA ln lc]):=λU hU=>hv.keep (λ_ h=>h) (λg hg=>(hb2.trans (hU.mono hb2.size)).block g (hS g hg).1)
  have hSU:∀U,Below w2.heap.size w2 U->∀g,S g->g<U.heap.size:=λU hU g hg=>by have:=(hS g hg).1;have:=hU.size;have:=hb2.size;omega
  have HCF:Hid (∀U,Below w2.heap.size w2 U->Calls Tryz.prog 26 #[.agg #[.int .i64 k,.string x,.bool t,.int .i64 K,.string X1,.int .i64 Z,.slice B mm q,.slice KA kn kc,.slice LA ln lc]] U (λe' w'=>∃A2 n2 c2,e'=.returned (.slice A2 n2 c2)/\n2=(freeE e).length/\w'.ownsRow U.heap.size 9 1 (.slice A2 n2 c2) n2 ((freeE e).map Sx.strV)/\Below U.heap.size U w'/\Below w2.heap.size w2 w')):=hidE (λU hU=>by
   refine(sc_Free e S _ U (hvU U hU) (hSU U hU) hok (by omega) (by omega)).mono ?_
   rintro e' w' ⟨A2,n2,c2,rfl,hn,hr,hbl⟩
   exact⟨A2,n2,c2,rfl,hn,hr,hbl,hU.trans (hbl.mono hU.size)⟩)
  have HCC:Hid (∀U,Below w2.heap.size w2 U->Calls Tryz.prog 28 #[.agg #[.int .i64 k,.string x,.bool t,.int .i64 K,.string X1,.int .i64 Z,.slice B mm q,.slice KA kn kc,.slice LA ln lc]] U (λe' w'=>∃A2 n2 c2,e'=.returned (.slice A2 n2 c2)/\n2=(consE e).length/\w'.ownsRow U.heap.size 9 1 (.slice A2 n2 c2) n2 ((consE e).map Sx.strV)/\Below U.heap.size U w'/\Below w2.heap.size w2 w')):=hidE (λU hU=>by
   refine(sc_Cons e S _ U (hvU U hU) (hSU U hU) hok (by omega) (by omega)).mono ?_
   rintro e' w' ⟨A2,n2,c2,rfl,hn,hr,hbl⟩
   exact⟨A2,n2,c2,rfl,hn,hr,hbl,hU.trans (hbl.mono hU.size)⟩)
  have hgb:=(k2.lt g rfl).1
  obtain⟨vs,hvs⟩:∃y,v0C co V0 nb v0++L.flatMap BF.cells=y:=⟨_,rfl⟩
  rw[hvs]at k2
  have HFIN:=hidE (λ(w3 w4 w5:World) (A3 A4:Option Addr) (n3 n4 c3 c4 g5 c5:Nat) a1 a2 a3 a4 a5 a6 a7 (a8:w5.ownsRow (w.heap.size+2) 189 3 (.slice (some ⟨g5,0,none⟩) (sn+1+2) c5) (sn+1+2) (vs++[.slice A3 n3 c3,.func (.func 122) #[.map (some (co+2))] #[],.int .i64 91,.slice A4 n4 c4,.func (.func 122) #[.map (some co)] #[],.int .i64 91])) (a9:(w4.alloc (.cells #[.slice A3 n3 c3,.func (.func 122) #[.map (some (co+2))] #[],.int .i64 91,.slice A4 n4 c4,.func (.func 122) #[.map (some co)] #[],.int .i64 91] 189)).grownBy w5 (some g)) a10=>mis_end hd hM hok hsz hsl hsn hmi (by omega) k3 hgb k5 hb2 HMB.out.n w3 w4 w5 A3 A4 n3 n4 c3 c4 g5 c5 a1 a2 a3 a4 a5 a6 a7 rfl (hvs▸a8) a9 a10)
  have K2:=hidE k2
  have HLG:Hid (∀U U',Below w2.heap.size w2 U->U.grownBy U' (some g)->(λU:World=>U.cell? ⟨pb,0,none⟩=some (.slice (some ⟨g,0,none⟩) (sn+1) cp)/\U.cell? ⟨w.heap.size,3,none⟩=some (.map (some (co+2)))/\U.cell? ⟨w.heap.size,1,none⟩=some (.map (some co))/\U.cell? ⟨w.heap.size+1,8,none⟩=some (.int .i64 k)/\U.cell? ⟨w.heap.size+1,9,none⟩=some (.string x)/\U.cell? ⟨w.heap.size+1,10,none⟩=some (.bool t)/\U.cell? ⟨w.heap.size+1,11,none⟩=some (.int .i64 K)/\U.cell? ⟨w.heap.size+1,12,none⟩=some (.string X1)/\U.cell? ⟨w.heap.size+1,13,none⟩=some (.int .i64 Z)/\U.cell? ⟨w.heap.size+1,14,none⟩=some (.slice B mm q)/\U.cell? ⟨w.heap.size+1,15,none⟩=some (.slice KA kn kc)/\U.cell? ⟨w.heap.size+1,16,none⟩=some (.slice LA ln lc)) U'):=hidE λU U' hU hG=>by
   have hk:∀k,k<w2.heap.size->k≠g->U'.heap[k]? = w2.heap[k]?:=λk h1 h2=>(hG.block k (by have:=hU.size;omega) (λe=>by injection e with e;exact h2 e)).trans (hU.block k h1)
   have c0:=hd0.same (hk _ hd0.lt (by omega))
   have c1:=hd1.same (hk _ hd1.lt (by omega))
   have cp:=k1.same (hk _ k1.lt k4.symm)
   exact⟨cp.cell 0,c0.cell 3,c0.cell 1,c1.cell 8,c1.cell 9,c1.cell 10,c1.cell 11,c1.cell 12,c1.cell 13,c1.cell 14,c1.cell 15,c1.cell 16⟩
  have BC:Hid (Below w2.heap.size w2 w2):=hidE (Below.refl _ _)
  clear e8 e9 e10 e11 e12 e13 e14 e15 e16 hmi hch hMs k1 k2 k3 hsl hsn hb2 hd0 hd1 hvU hSU HW hvs
  go_upto_region 5 with fail
  refine wp_region_held_drew (S:=λU:World=>U.cell? ⟨pb,0,none⟩=some (.slice (some ⟨g,0,none⟩) (sn+1) cp)/\U.cell? ⟨w.heap.size,3,none⟩=some (.map (some (co+2)))/\U.cell? ⟨w.heap.size,1,none⟩=some (.map (some co))/\U.cell? ⟨w.heap.size+1,8,none⟩=some (.int .i64 k)/\U.cell? ⟨w.heap.size+1,9,none⟩=some (.string x)/\U.cell? ⟨w.heap.size+1,10,none⟩=some (.bool t)/\U.cell? ⟨w.heap.size+1,11,none⟩=some (.int .i64 K)/\U.cell? ⟨w.heap.size+1,12,none⟩=some (.string X1)/\U.cell? ⟨w.heap.size+1,13,none⟩=some (.int .i64 Z)/\U.cell? ⟨w.heap.size+1,14,none⟩=some (.slice B mm q)/\U.cell? ⟨w.heap.size+1,15,none⟩=some (.slice KA kn kc)/\U.cell? ⟨w.heap.size+1,16,none⟩=some (.slice LA ln lc)) (by kernel_rfl) ?_ (λhHeld=>?_)
  ·refine HLD5.out _ ?_;(repeat first|(with_reducible exact BC.out)|(with_reducible refine Below.drew ?_)|(with_reducible refine Below.alloc ?_ (by have:=BC.out.size;first|omega|(simp;done)|(simp;omega)) _))
  refine takeH (i:=0) (d:=21) (v:=?_) rfl rfl (by kernel_rfl) (by kernel_rfl) (by kernel_rfl) (λ_ _ _ h=>h) (Or.inl ⟨by rfl,?_⟩) (by assumption) ?_
  rotate_left 1
  ·(intro w hSw;(try dsimp only at hSw);go_simp;(try with_reducible rfl))
  simp only[List.setIfInBounds_toArray,List.set_cons_zero,List.set_cons_succ]
  refine takeH (i:=1) (d:=22) (v:=?_) rfl rfl (by kernel_rfl) (by kernel_rfl) (by kernel_rfl) (λ_ _ _ h=>h) (Or.inl ⟨by rfl,?_⟩) (by assumption) ?_
  rotate_left 1
  ·(intro w hSw;(try dsimp only at hSw);go_simp;(try with_reducible rfl))
  simp only[List.setIfInBounds_toArray,List.set_cons_zero,List.set_cons_succ]
  refine takeH (i:=2) (d:=23) (v:=?_) rfl rfl (by kernel_rfl) (by kernel_rfl) (by kernel_rfl) (λ_ _ _ h=>h) (Or.inl ⟨by rfl,?_⟩) (by assumption) ?_
  rotate_left 1
  ·(intro w hSw;(try dsimp only at hSw);go_simp;(try with_reducible rfl))
  simp only[List.setIfInBounds_toArray,List.set_cons_zero,List.set_cons_succ]
  refine takeH (i:=4) (d:=25) (v:=?_) rfl rfl (by kernel_rfl) (by kernel_rfl) (by kernel_rfl) (λ_ _ _ h=>h) (Or.inl ⟨by rfl,?_⟩) (by assumption) ?_
  rotate_left 1
  ·(intro w hSw;(try dsimp only at hSw);go_simp;(try with_reducible rfl))
  simp only[List.setIfInBounds_toArray,List.set_cons_zero,List.set_cons_succ]
  refine takeH (i:=5) (d:=26) (v:=?_) rfl rfl (by kernel_rfl) (by kernel_rfl) (by kernel_rfl) (λ_ _ _ h=>h) (Or.inl ⟨by rfl,?_⟩) (by assumption) ?_
  rotate_left 1
  ·(intro w hSw;(try dsimp only at hSw);go_simp;(try with_reducible rfl))
  simp only[List.setIfInBounds_toArray,List.set_cons_zero,List.set_cons_succ]
  refine takeH (i:=6) (d:=27) (v:=?_) rfl rfl (by kernel_rfl) (by kernel_rfl) (by kernel_rfl) (λ_ _ _ h=>h) (Or.inl ⟨by rfl,?_⟩) (by assumption) ?_
  rotate_left 1
  ·(intro w hSw;(try dsimp only at hSw);go_simp;(try with_reducible rfl))
  simp only[List.setIfInBounds_toArray,List.set_cons_zero,List.set_cons_succ]
  refine takeH (i:=8) (d:=29) (v:=?_) rfl rfl (by kernel_rfl) (by kernel_rfl) (by kernel_rfl) (λ_ _ _ h=>h) (Or.inl ⟨by rfl,?_⟩) (by assumption) ?_
  rotate_left 1
  ·(intro w hSw;(try dsimp only at hSw);go_simp;(try with_reducible rfl))
  simp only[List.setIfInBounds_toArray,List.set_cons_zero,List.set_cons_succ]
  refine takeH (i:=9) (d:=30) (v:=?_) rfl rfl (by kernel_rfl) (by kernel_rfl) (by kernel_rfl) (λ_ _ _ h=>h) (Or.inl ⟨by rfl,?_⟩) (by assumption) ?_
  rotate_left 1
  ·(intro w hSw;(try dsimp only at hSw);go_simp;(try with_reducible rfl))
  simp only[List.setIfInBounds_toArray,List.set_cons_zero,List.set_cons_succ]
  refine takeH (i:=11) (d:=32) (v:=?_) rfl rfl (by kernel_rfl) (by kernel_rfl) (by kernel_rfl) (λ_ _ _ h=>h) (Or.inl ⟨by rfl,?_⟩) (by assumption) ?_
  rotate_left 1
  ·(intro w hSw;(try dsimp only at hSw);go_simp;(try with_reducible rfl))
  simp only[List.setIfInBounds_toArray,List.set_cons_zero,List.set_cons_succ]
  refine takeH (i:=12) (d:=33) (v:=?_) rfl rfl (by kernel_rfl) (by kernel_rfl) (by kernel_rfl) (λ_ _ _ h=>h) (Or.inl ⟨by rfl,?_⟩) (by assumption) ?_
  rotate_left 1
  ·(intro w hSw;(try dsimp only at hSw);go_simp;(try with_reducible rfl))
  simp only[List.setIfInBounds_toArray,List.set_cons_zero,List.set_cons_succ]
  refine takeH (i:=13) (d:=34) (v:=?_) rfl rfl (by kernel_rfl) (by kernel_rfl) (by kernel_rfl) (λ_ _ _ h=>h) (Or.inl ⟨by rfl,?_⟩) (by assumption) ?_
  rotate_left 1
  ·(intro w hSw;(try dsimp only at hSw);go_simp;(try with_reducible rfl))
  simp only[List.setIfInBounds_toArray,List.set_cons_zero,List.set_cons_succ]
  refine wpAnyH_ready (rs:=[3]) (by kernel_rfl) (by simp) ?_
  refine AllReadyH.cons (i:=3) rfl (λK hK=>?_) ?_
  ·go_simp
   with_reducible refine(HCF.out _ (by(repeat first|(with_reducible exact BC.out)|(with_reducible refine Below.drew ?_)|(with_reducible refine Below.alloc ?_ (by have:=BC.out.size;first|omega|(simp;done)|(simp;omega)) _)))).mono ?_
   rintro e' w3 ⟨A3,n3,c3,rfl,hn,hr,bl,bb⟩
   have HN3:=hidE hn
   have HR3:=hidE hr
   have BL3:=hidE bl
   replace BC:=hidE bb
   clear hn hr bl bb
   go_wp2_with fail
   refine hK.out _ _ ?_ (λhHeld=>?_)
   ·try dsimp only
    refine HLD5.out _ ?_;(repeat first|(with_reducible exact BC.out)|(with_reducible refine Below.drew ?_)|(with_reducible refine Below.alloc ?_ (by have:=BC.out.size;first|omega|(simp;done)|(simp;omega)) _))
   clear hK K
   refine takeH (i:=7) (d:=28) (v:=?_) rfl rfl (by kernel_rfl) (by kernel_rfl) (by kernel_rfl) (λ_ _ _ h=>h) (Or.inl ⟨by rfl,?_⟩) (by assumption) ?_
   rotate_left 1
   ·(intro w hSw;(try dsimp only at hSw);go_simp;(try with_reducible rfl))
   simp only[List.setIfInBounds_toArray,List.set_cons_zero,List.set_cons_succ]
   refine wpAnyH_ready (rs:=[10]) (by kernel_rfl) (by simp) ?_
   refine AllReadyH.cons (i:=10) rfl (λK hK=>?_) ?_
   ·go_simp
    with_reducible refine(HCC.out _ (by(repeat first|(with_reducible exact BC.out)|(with_reducible refine Below.drew ?_)|(with_reducible refine Below.alloc ?_ (by have:=BC.out.size;first|omega|(simp;done)|(simp;omega)) _)))).mono ?_
    rintro e' w4 ⟨A4,n4,c4,rfl,hn,hr,bl,bb⟩
    have HN4:=hidE hn
    have HR4:=hidE hr
    have BL4:=hidE bl
    replace BC:=hidE bb
    clear hn hr bl bb
    go_wp2_with fail
    refine hK.out _ _ ?_ (λhHeld=>?_)
    ·try dsimp only
     refine HLD5.out _ ?_;(repeat first|(with_reducible exact BC.out)|(with_reducible refine Below.drew ?_)|(with_reducible refine Below.alloc ?_ (by have:=BC.out.size;first|omega|(simp;done)|(simp;omega)) _))
    clear hK K
    refine takeH (i:=14) (d:=35) (v:=?_) rfl rfl (by kernel_rfl) (by kernel_rfl) (by kernel_rfl) (λ_ _ _ h=>h) (Or.inl ⟨by rfl,?_⟩) (by assumption) ?_
    rotate_left 1
    ·(intro w hSw;(try dsimp only at hSw);go_simp;(try with_reducible rfl))
    simp only[List.setIfInBounds_toArray,List.set_cons_zero,List.set_cons_succ]
    refine wpAnyH_ready (rs:=[15]) (by kernel_rfl) (by simp) ?_
    refine AllReadyH.cons (i:=15) rfl (λK hK=>?_) ?_
    ·go_simp
     refine hK.out _ _ ?_ (λhHeld=>?_)
     ·try dsimp only
      refine HLD5.out _ ?_;(repeat first|(with_reducible exact BC.out)|(with_reducible refine Below.drew ?_)|(with_reducible refine Below.alloc ?_ (by have:=BC.out.size;first|omega|(simp;done)|(simp;omega)) _))
     clear hK K
     refine wpAnyH_ready (rs:=[16]) (by kernel_rfl) (by simp) ?_
     refine AllReadyH.cons (i:=16) rfl (λK hK=>?_) ?_
     ·skip
      have HO:=hidE ((own_keepb K2.out (λa ha=>by injection ha with ha;subst ha;exact BC.out.block g HGL.out)).alloc (.cells #[.slice A3 n3 c3,.func (.func 122) #[.map (some (co+2))] #[],.int .i64 91,.slice A4 n4 c4,.func (.func 122) #[.map (some co)] #[],.int .i64 91] 189))
      refine step_append_lies _ rfl (.tmp 21) (.tmp 36) 134 rfl (w.heap.size+2) 189 i0 _ 3 40 Tryz.underlying134 hi0 hz0 hz1 hz2 rfl (by decide) _ (sn+1) vs rfl HO.out ⟨w4.heap.size,0,none⟩ 2 2 [.slice A3 n3 c3,.func (.func 122) #[.map (some (co+2))] #[],.int .i64 91,.slice A4 n4 c4,.func (.func 122) #[.map (some co)] #[],.int .i64 91] rfl rfl (World.news_of_block (heap_alloc_new _ _)) (by intro u hu;simp at hu;rcases hu with rfl|rfl|rfl|rfl|rfl|rfl <;> rfl) (by decide) (by have:=HSN.out;unfold maxLen;omega) (by have:=HSN.out;omega) (by have:=BC.out.size;have:=HGL.out;simp;omega) _ rfl ?_
      intro g5 c5 w5 hown5 hgrow hat hlt5
      have HO5:=hidE hown5
      have HG5:=hidE hgrow
      have HT5:=hidE hat
      clear hown5 hgrow hat HO
      go_simp
      refine hK.out _ _ ?_ (λhHeld=>?_)
      ·try dsimp only
       exact HLG.out _ _ (BC.out.alloc BC.out.size _) HG5.out
      clear hK K
      refine takeH (i:=17) (d:=4) (v:=?_) rfl rfl (by kernel_rfl) (by kernel_rfl) (by kernel_rfl) (λ_ _ _ h=>h) (Or.inl ⟨by rfl,?_⟩) (by assumption) ?_
      rotate_left 1
      ·(intro w hSw;(try dsimp only at hSw);go_simp;(try with_reducible rfl))
      simp only[List.setIfInBounds_toArray,List.set_cons_zero,List.set_cons_succ]
      refine wpAnyH_done (by kernel_rfl) ?_ _
      go_wp2_with fail
      go_ret
      exact HFIN.out w3 w4 w5 A3 A4 n3 n4 c3 c4 g5 c5 BC.out BL3.out.size HN3.out HN4.out HR3.out HR4.out BL4.out HO5.out HG5.out (HT5.out.imp id (λh=>h.trans (by simp)))
     exact AllReadyH.nil
    exact AllReadyH.nil
   exact AllReadyH.nil
  exact AllReadyH.nil
end Go.Proofs.YtmbmjneibkihkaaGreatDoor

namespace Go.Proofs.YtmbmjneibkihkaaGreatDoor
open Go.RowKit Lx Tx Sx Go.Maps Go.WideMaps Go.Shelf
set_option maxRecDepth 100000
theorem wpList_ins {V:Type}(m:MK V)(w:World) {ops:Array Oper} {rest:List Oper} {o:Oper} {a:Act} {Q:Exit->Act->World->Prop}
  (hg:o.guard=none)(mo x vo:Operand)(hop:o.op=Op.insert m.t mo x vo)(b:Nat)(r:List (Name × V))(hm:a.eval mo=.map (some b))(h:MapE m w b r)(hn:r.length<100000000000000)(X:ByteArray)(hX:X.size<=maxLen)
  (hx:a.eval x=.string X)(v:V)(hok:m.ok v)(hv:a.eval vo=m.val v)(hK:∀w',MapE m w' b ((X.data.toList,v)::r)->w.grownBy w' (some b)->wpList Tryz.prog ops Q rest (a.put o.dst undef) w') :
  wpList Tryz.prog ops Q (o::rest) a w:=by
 obtain⟨n,hnr,h⟩:=h
 refine wpList_plain hg λK' hK'=>?_
 obtain⟨w',hrun,r1,r2⟩:=h.update strKeyed m.hT (by unfold maxLen;omega) (strKey X hX) (m.hR v hok)
 unfold Oper.wp
 simp[execOp,hop,hm,hx,hv,hrun,Result.andThen]
 exact hK' _ _ (hK w' (MapE.of (r:=(X.data.toList,v)::r) r1) r2)
set_option maxHeartbeats 3200000 in
theorem sc_misused_no(da co si bi:Nat)(k0:Int)(hk:k0≠3)(X:ByteArray)(A0:Option Addr)(m0 c0:Nat)(A1:Option Addr)(m1 c1:Nat)(K0:Int)(X0:ByteArray)(Z0:Int)(B0:Option Addr)(n0 d0:Nat)(k1:Int)(X1:ByteArray)(t1:Bool)(K1:Int)(X2:ByteArray)(Z1:Int)(B1:Option Addr)(n1 d1:Nat)(C1:Option Addr)(p1 e1:Nat)(D1:Option Addr)(q1 f1:Nat)(w:World) :
  Calls Tryz.prog 75 #[.agg #[.map (some da),.map (some co),.map (some si),.map (some bi)],
   .agg #[.int .i64 k0,.string X,.slice A0 m0 c0,.slice A1 m1 c1,.int .i64 K0,.string X0,.int .i64 Z0,.slice B0 n0 d0,.int .i64 k1,.string X1,.bool t1,.int .i64 K1,.string X2,.int .i64 Z1,.slice B1 n1 d1,.slice C1 p1 e1,.slice D1 q1 f1]] w λe w'=>e=.returned (.slice none 0 0)/\Below w.heap.size w w':=by
 obtain⟨W,hW⟩:∃W,(w.alloc (.cells #[.map (some da),.map (some co),.map (some si),.map (some bi)] 130)).alloc (.cells #[.int .i64 k0,.string X,.slice A0 m0 c0,.slice A1 m1 c1,.int .i64 K0,.string X0,.int .i64 Z0,.slice B0 n0 d0,.int .i64 k1,.string X1,.bool t1,.int .i64 K1,.string X2,.int .i64 Z1,.slice B1 n1 d1,.slice C1 p1 e1,.slice D1 q1 f1] 59)=W:=⟨_,rfl⟩
 have hb:Below w.heap.size w W:=hW▸((Below.refl _ w).alloc (Nat.le_refl _) _).alloc (by simp) _
 have b1:Blk W (w.heap.size+1) 59 #[.int .i64 k0,.string X,.slice A0 m0 c0,.slice A1 m1 c1,.int .i64 K0,.string X0,.int .i64 Z0,.slice B0 n0 d0,.int .i64 k1,.string X1,.bool t1,.int .i64 K1,.string X2,.int .i64 Z1,.slice B1 n1 d1,.slice C1 p1 e1,.slice D1 q1 f1]:=hW▸two_top _ _ _ _ rfl
 have g0:W.cell? ⟨w.heap.size+1,0,none⟩=some (.int .i64 k0):=b1.cell 0
 have d:(k0 != 3)=true:=by simpa using hk
 have HB:=hidE hb
 clear b1 hb hk
 go_enter Tryz.func75,Tryz.ntmps75
 go_wp2_with fail
 go_ret
 exact⟨rfl,HB.out⟩
theorem sc_look2 {da co:Nat}(hd:da<co)(m:Mets)(x:De)(S:Nat->Prop)(cs:List Value)(w:World)(hM:MetsAt da co m w)(hv:pcD.Cs S w x cs)(hS:∀g,S g->g<w.heap.size/\¬metB da co g)(hsz:m.size+x.wt<=9000)(hok:De.Ok x) :
  Calls Tryz.prog 75 #[.agg #[.map (some da),.map (some co),.map (some (co+1)),.map (some (co+2))],.agg cs.toArray] w (LPostF da co w (lookA 2 m x) (MetsAt da co (nextA 2 m x))):=by
 have hno:∀e w',(e=.returned (.slice none 0 0)/\Below w.heap.size w w')->LPostF da co w none (MetsAt da co m) e w':=by
  rintro e w' ⟨rfl,hb⟩
  exact LPostF.none hb (λW h=>(hM.below hb).below h)
 cases x with
 | data n ps l =>
  obtain⟨V,v,A,a,rfl,-⟩:=hv
  exact(sc_misused_no da co (co+1) (co+2) 1 (by decide) ⟨n.toArray⟩ V ps.length v A l.length a 0 ⟨#[]⟩ 0 none 0 0 0 ⟨#[]⟩ false 0 ⟨#[]⟩ 0 none 0 0 none 0 0 none 0 0 w).mono hno
 | sig n t =>
  obtain⟨A,a,rfl,-⟩:=hv
  obtain⟨K,X,Z,B,mm,q,hs⟩:=tyC_shape (some t) A a
  rw[show([.int .i64 2,Sx.strV n,.slice none 0 0,.slice none 0 0]++tyV t A a++exZl).toArray=#[.int .i64 2,.string ⟨n.toArray⟩,.slice none 0 0,.slice none 0 0,.int .i64 K,.string X,.int .i64 Z,.slice B mm q,.int .i64 0,.string ⟨#[]⟩,.bool false,.int .i64 0,.string ⟨#[]⟩,.int .i64 0,.slice none 0 0,.slice none 0 0,.slice none 0 0] by rw[show tyV t A a=tyC (some t) A a from rfl,hs];rfl]
  exact(sc_misused_no da co (co+1) (co+2) 2 (by decide) ⟨n.toArray⟩ none 0 0 none 0 0 K X Z B mm q 0 ⟨#[]⟩ false 0 ⟨#[]⟩ 0 none 0 0 none 0 0 none 0 0 w).mono hno
 | bind n e =>
  obtain⟨P,rfl,h1,h2⟩:=hv
  obtain⟨k1,x1,t1,K1,X1,Z1,B1,m1,q1,KA1,kn1,kc1,LA1,ln1,lc1,hs⟩:=exC_shape e P
  have hx:RdX S w e (.agg (exC e P).toArray):=rdX_cs.2 ⟨P,rfl,h1,h2⟩
  rw[hs]at hx
  rw[show([.int .i64 3,Sx.strV n,.slice none 0 0,.slice none 0 0]++tyZl++exC e P).toArray=#[.int .i64 3,.string ⟨n.toArray⟩,.slice none 0 0,.slice none 0 0,.int .i64 0,.string ⟨#[]⟩,.int .i64 0,.slice none 0 0,.int .i64 k1,.string x1,.bool t1,.int .i64 K1,.string X1,.int .i64 Z1,.slice B1 m1 q1,.slice KA1 kn1 kc1,.slice LA1 ln1 lc1] by rw[hs];rfl]
  exact sc_misused_bind hd m n e S k1 x1 t1 K1 X1 Z1 B1 m1 q1 KA1 kn1 kc1 LA1 ln1 lc1 w hM hx hS (by simp only[De.wt]at hsz;omega) hok.2
def lkF(j:Nat):Nat:=if j=0 then 73 else if j=1 then 74 else 75
theorem lkF_ek(j:Nat):∀args w,(callFunc (lkF j) args).run Tryz.prog w=.ok (.enter (lkF j) args) w:=by
 unfold lkF
 split
 ·exact enters_of Tryz.func73 (by kernel_rfl) rfl
 ·split
  ·exact enters_of Tryz.func74 (by kernel_rfl) rfl
  ·exact enters_of Tryz.func75 (by kernel_rfl) rfl
theorem sc_look {da co:Nat}(hd:da<co)(j:Nat)(hj:j<3)(m:Mets)(x:De)(S:Nat->Prop)(cs:List Value)(w:World)(hM:MetsAt da co m w)(hv:pcD.Cs S w x cs)(hS:∀g,S g->g<w.heap.size/\¬metB da co g)(hsz:m.size+x.wt<=9000)(hok:De.Ok x) :
  Calls Tryz.prog (lkF j) #[.agg #[.map (some da),.map (some co),.map (some (co+1)),.map (some (co+2))],.agg cs.toArray] w (LPostF da co w (lookA j m x) (MetsAt da co (nextA j m x))):=by
 match j,hj with
 | 0,_=>exact sc_look0 hd m x S cs w hM hv hS (by omega) hok
 | 1,_=>exact sc_look1 hd m x S cs w hM hv (by omega) hok
 | 2,_=>exact sc_look2 hd m x S cs w hM hv hS hsz hok
end Go.Proofs.YtmbmjneibkihkaaGreatDoor

namespace Go.Proofs.YtmbmjneibkihkaaGreatDoor
open Go.RowKit Lx Tx Sx
set_option maxRecDepth 100000
def letP(P1:Option (List Tok)):Option (List Tok):=if isO 6 [58] P1=true then((nxO 6 [58] P1).bind typ).map (·.2) else P1
def letA(f:Nat)(P2:Option (List Tok)):Option (Ex × List Tok):=(nxO 6 [61] P2).bind (rdE f)
def letB(f:Nat)(P2:Option (List Tok)):Option (Ex × List Tok):=(nxO 3 wIn ((letA f P2).map (·.2))).bind (rdE f)
theorem let_all(f:Nat)(l:List Tok):(letF f l).map (·.2)=(letB f (letP (nxO 1 [] (some l)))).map (·.2) /\
  ∀x r,letF f l=some (x,r)->∃t a b ra,x=.lt (txO (some l)) t a b/\letA f (letP (nxO 1 [] (some l)))=some (a,ra)/\letB f (letP (nxO 1 [] (some l)))=some (b,r) /\
   (isO 6 [58] (nxO 1 [] (some l))=true->∃t' rt,(nxO 6 [58] (nxO 1 [] (some l))).bind typ=some (t',rt)/\t=some t')/\(isO 6 [58] (nxO 1 [] (some l))=false->t=none):=by
 have key:∀(t:Option Ty) (p:Option (List Tok)),(letO f (txO (some l)) t p).map (·.2)=(letB f p).map (·.2)/\∀x r,letO f (txO (some l)) t p=some (x,r)->∃a b ra,x=.lt (txO (some l)) t a b/\letA f p=some (a,ra)/\letB f p=some (b,r):=by
  intro t p
  refine⟨letO_snd f _ t p,λx r h=>?_⟩
  obtain⟨a,b,ra,h1,h2,h3⟩:=letO_some h
  exact⟨a,b,ra,h1,h2,by rw[letB,letA,h2];exact h3⟩
 rw[let_o]
 obtain⟨P1,hP1⟩:∃P,nxO 1 [] (some l)=P:=⟨_,rfl⟩
 rw[hP1,letP]
 by_cases hq:isO 6 [58] P1=true
 ·rw[if_pos hq,if_pos hq]
  cases hT:(nxO 6 [58] P1).bind typ with
  | none=>exact⟨rfl,λx r h=>by cases h⟩
  | some y =>
   rw[Option.bind_some,Option.map_some]
   obtain⟨k1,k2⟩:=key (some y.1) (some y.2)
   refine⟨k1,λx r h=>?_⟩
   obtain⟨a,b,ra,h1,h2,h3⟩:=k2 x r h
   exact⟨_,a,b,ra,h1,h2,h3,λ_=>⟨y.1,y.2,rfl,rfl⟩,λh=>by rw[hq]at h;cases h⟩
 ·rw[if_neg hq,if_neg hq]
  obtain⟨k1,k2⟩:=key none P1
  refine⟨k1,λx r h=>?_⟩
  obtain⟨a,b,ra,h1,h2,h3⟩:=k2 x r h
  exact⟨_,a,b,ra,h1,h2,h3,λh=>absurd h hq,λ_=>rfl⟩
theorem rdE_let(f:Nat)(l:List Tok)(h:isO 3 wLet (some l)=true):rdE (f+2) l=letF f l.tail:=by
 have h3:isHd l 3 wLet=true:=by rw[<-isO_hd _ _ (by decide)];exact h
 have h6:¬isHd l 6 [92]=true:=by
  intro h'
  simp only[isHd,Bool.and_eq_true,beq_iff_eq]at h3 h'
  omega
 rw[rdE_eq,if_neg h6,if_pos h3,rdLet_eq]
structure LetM (ts:List Tok) (w:World) (ge:Nat) (X:ByteArray) (P1:Option (List Tok)) (q:Bool) (zk:Int) (K:Int) (S:ByteArray) (Z:Int) (T:Option Addr) (m c:Nat) (wx:World):Prop where
 p:PAt ts (letP P1) zk
 e:Blk wx ge 48 #[.int .i64 5,.string X,.bool q,.int .i64 K,.string S,.int .i64 Z,.slice T m c,.slice none 0 0,.slice none 0 0]
 r:Blk wx w.heap.size 48 #[.int .i64 0,.string ⟨#[]⟩,.bool false,.int .i64 0,.string ⟨#[]⟩,.int .i64 0,.slice none 0 0,.slice none 0 0,.slice none 0 0]
 b:Below w.heap.size w wx
 t1:q=true->∀t rt,(nxO 6 [58] P1).bind typ=some (t,rt)->TyL (λg=>ge<g/\g<wx.heap.size) wx (some t) [.int .i64 K,.string S,.int .i64 Z,.slice T m c]
 t0:q=false->TyL (λg=>ge<g/\g<wx.heap.size) wx none [.int .i64 K,.string S,.int .i64 Z,.slice T m c]
theorem LetM.below {ts:List Tok} {w:World} {ge:Nat} {X:ByteArray} {P1:Option (List Tok)} {q:Bool} {zk K:Int} {S:ByteArray} {Z:Int} {T:Option Addr} {m c:Nat} {wx wy:World}(h:LetM ts w ge X P1 q zk K S Z T m c wx)(hb:Below wx.heap.size wx wy):LetM ts w ge X P1 q zk K S Z T m c wy :=
 ⟨h.p,h.e.below hb h.e.lt,h.r.below hb h.r.lt,h.b.trans (hb.mono h.b.size),λhq t rt ht=>(h.t1 hq t rt ht).keep (λg hg=>⟨hg.1,by have:=hb.size;omega⟩) (λg hg=>hb.block g hg.2),λhq=>(h.t0 hq).keep (λg hg=>⟨hg.1,by have:=hb.size;omega⟩) (λg hg=>hb.block g hg.2)⟩
set_option maxHeartbeats 12800000 in
theorem r8_read_let(f:Nat)(ts:List Tok)(v:Value)(hG:AllG ts)(hn:ts.length<=100000)(IH:Rd8 ts v (f+1))(w:World)(i:Nat)(hv:RdT w v ts)(hq:isO 3 wLet (some (ts.drop i))=true)(hf:3*(ts.drop i).length+3<=f+2) :
  Calls Tryz.prog 52 #[v,.int .i64 (i:Nat)] w (XP8 ts w (rdE (f+2) (ts.drop i))):=by
 have hlt:=isO_lt (by decide) hq
 have hp0:PAt ts (some (ts.drop i)) (i:Nat):=PAt.some_ ts i (by omega)
 obtain⟨hp1,-,-⟩:=pat_next (by decide) hp0 hq
 have e1:nxO 3 wLet (some (ts.drop i))=some (ts.drop i).tail:=by rw[nxO,hq,if_pos rfl];rfl
 rw[e1]at hp1
 have hl1:(ts.drop i).tail.length+1=(ts.drop i).length:=by
  obtain⟨l,h1,h2,h3,-⟩:=nxO_len (by decide) e1
  injection h1 with h1
  subst h1
  omega
 have hq6:isO 6 [92] (some (ts.drop i))=false:=by
  rw[Bool.eq_false_iff]
  intro h'
  rw[isO_hd _ _ (by decide)]at hq h'
  simp only[isHd,Bool.and_eq_true,beq_iff_eq]at hq h'
  omega
 have HI1:Hid (∀W,Below w.heap.size w W->Calls Tryz.prog 42 #[v,.int .i64 (i:Nat),.int .i64 6,.string ⟨#[92]⟩] W λe w'=>e=.returned (.bool false)/\W=w'):=hidE λW hb=>by
  have:=r8_is v ts _ _ 6 ⟨#[92]⟩ 6 rfl (by decide) W (hv.below hb) hp0
  rwa [show(⟨#[92]⟩:ByteArray).data.toList=[92] from rfl,hq6]at this
 have HI2:Hid (∀W,Below w.heap.size w W->Calls Tryz.prog 42 #[v,.int .i64 (i:Nat),.int .i64 3,.string ⟨#[108,101,116]⟩] W λe w'=>e=.returned (.bool true)/\W=w'):=hidE λW hb=>by
  have:=r8_is v ts _ _ 3 ⟨#[108,101,116]⟩ 3 rfl (by decide) W (hv.below hb) hp0
  rwa [show(⟨#[108,101,116]⟩:ByteArray).data.toList=wLet from rfl,hq]at this
 obtain⟨O,hO⟩:∃O,rdE (f+2) (ts.drop i)=O:=⟨_,rfl⟩
 rw[hO]
 rw[rdE_let f _ hq]at hO
 obtain⟨hA1,hA2⟩:=let_all f (ts.drop i).tail
 rw[hO]at hA1 hA2
 have HN1:=hidE (λW (hb:Below w.heap.size w W)=>r8_next v ts _ _ 1 ⟨#[]⟩ 1 rfl (by decide) W (hv.below hb) hn hp1)
 have HTX:=hidE (λW (hb:Below w.heap.size w W)=>r8_text v ts _ _ W (hv.below hb) hp1)
 obtain⟨P1,hP1⟩:∃P,nxO 1 [] (some (ts.drop i).tail)=P:=⟨_,rfl⟩
 obtain⟨X,hX⟩:∃X:ByteArray,⟨(txO (some (ts.drop i).tail)).toArray⟩=X:=⟨_,rfl⟩
 have hX2:txO (some (ts.drop i).tail)=X.data.toList:=by rw[<-hX]
 rw[hP1,hX2]at hA2
 rw[hP1]at hA1
 rw[hX]at HTX
 have hlenP:∀r,P1=some r->3*r.length+3<=f:=λr hr=>by
  obtain⟨l2,hl2,-,h5,-⟩:=nxO_len (by decide) (hP1.trans hr)
  injection hl2 with hl2
  subst hl2
  omega
 have hpg1:∀z,PAt ts P1 z->∀r,letP P1=some r->AllG r/\3*r.length+3<=f:=λz hz r hr=>by
  rw[letP]at hr
  by_cases hc:isO 6 [58] P1=true
  ·rw[if_pos hc]at hr
   cases hT:(nxO 6 [58] P1).bind typ with
   | none=>rw[hT]at hr;cases hr
   | some y =>
    rw[hT]at hr
    replace hr:y.2=r:=by injection hr
    subst hr
    cases hN:nxO 6 [58] P1 with
    | none=>rw[hN]at hT;cases hT
    | some r1 =>
     rw[hN,Option.bind_some]at hT
     obtain⟨l,hl,h2,h3,-⟩:=nxO_len (by decide) hN
     have g1:AllG r1:=by rw[<-h2];exact AllG.tail' (hz.good hG l hl)
     obtain⟨-,g2,h4⟩:=typ_facts g1 hT
     have:=hlenP l hl
     exact⟨g2,by omega⟩
  ·rw[if_neg hc]at hr
   exact⟨hz.good hG r hr,hlenP r hr⟩
 have hlenA:∀z,PAt ts P1 z->∀r,nxO 6 [61] (letP P1)=some r->AllG r/\3*r.length+3<=f:=λz hz r hr=>by
  obtain⟨l,hl,h2,h3,-⟩:=nxO_len (by decide) hr
  obtain⟨g1,h4⟩:=hpg1 z hz l hl
  exact⟨by rw[<-h2];exact AllG.tail' g1,by omega⟩
 have hlenB:∀z,PAt ts P1 z->∀r,nxO 3 wIn ((letA f (letP P1)).map (·.2))=some r->3*r.length+3<=f:=λz hz r hr=>by
  obtain⟨l,hl,h2,h3,-⟩:=nxO_len (by decide) hr
  cases hA:letA f (letP P1) with
  | none=>rw[hA]at hl;cases hl
  | some y =>
   rw[hA]at hl
   replace hl:y.2=l:=by injection hl
   subst hl
   rw[letA]at hA
   cases hN:nxO 6 [61] (letP P1) with
   | none=>rw[hN]at hA;cases hA
   | some r1 =>
    rw[hN,Option.bind_some]at hA
    obtain⟨g1,h4⟩:=hlenA z hz r1 hN
    have:=(rdE_len f r1 y.1 y.2 g1 hA).2
    omega
 have HP1:=hidE hP1
 have HA1:=hidE hA1
 have HA2:=hidE hA2
 have HLA:=hidE hlenA
 have HLB:=hidE hlenB
 have HV:=hidE hv
 have HIH:=hidE IH
 have HG:=hidE hG
 have hi9:(i:Int)<100000:=by omega
 obtain⟨W0,hW0⟩:∃W,w.alloc (.cells #[.int .i64 0,.string ⟨#[]⟩,.bool false,.int .i64 0,.string ⟨#[]⟩,.int .i64 0,.slice none 0 0,.slice none 0 0,.slice none 0 0] 48)=W:=⟨_,rfl⟩
 have hal:Below w.heap.size w W0:=hW0▸(Below.refl _ w).alloc (Nat.le_refl _) _
 have hs0:w.heap.size+1<=W0.heap.size/\W0.heap.size<=w.heap.size+1:=by rw[<-hW0];simp
 have hbk:Blk W0 w.heap.size 48 #[.int .i64 0,.string ⟨#[]⟩,.bool false,.int .i64 0,.string ⟨#[]⟩,.int .i64 0,.slice none 0 0,.slice none 0 0,.slice none 0 0]:=hW0▸heap_alloc_new _ _
 have HAL:=hidE hal
 have HBK:=hidE hbk
 clear hv hq hf IH hlt hp0 hp1 e1 hl1 hP1 hX hX2 hlenP hpg1 hlenA hlenB hO hal hbk hA1 hA2 hq6 hG
 go_enter Tryz.func52,Tryz.ntmps52
 go_wp2_with fail
 try rw[hW0]
 refine(HI1.out _ HAL.out).mono ?_
 rintro e w1 ⟨rfl,rfl⟩
 clear HI1 hW0
 go_wp2_with fail
 refine(HI2.out _ HAL.out).mono ?_
 rintro e w1 ⟨rfl,rfl⟩
 clear HI2
 go_wp2_with fail
 refine(HTX.out _ HAL.out).mono ?_
 rintro e w1 ⟨rfl,rfl⟩
 clear HTX
 obtain⟨W1,hW1⟩:∃W,W0.alloc (.cells #[.int .i64 5,.string X,.bool false,.int .i64 0,.string ⟨#[]⟩,.int .i64 0,.slice none 0 0,.slice none 0 0,.slice none 0 0] 48)=W:=⟨_,rfl⟩
 have hb1:Below W0.heap.size W0 W1:=hW1▸(Below.refl _ W0).alloc (Nat.le_refl _) _
 have hs1:W0.heap.size+1<=W1.heap.size/\W1.heap.size<=W0.heap.size+1:=by rw[<-hW1];simp
 have he1:Blk W1 W0.heap.size 48 #[.int .i64 5,.string X,.bool false,.int .i64 0,.string ⟨#[]⟩,.int .i64 0,.slice none 0 0,.slice none 0 0,.slice none 0 0]:=hW1▸heap_alloc_new _ _
 have HB1:=hidE (HAL.out.trans (hb1.mono (by omega)))
 have HBK1:=hidE (HBK.out.below hb1 (by omega))
 have HE1:=hidE he1
 have HW1:=hidE hW1
 clear hb1 he1 hW1 HBK
 go_upto_region 9 with fail
 rw[HW1.out]
 clear HW1
 go_wp2_with fail
 refine(HN1.out _ HB1.out).mono ?_
 rintro e w1 ⟨rfl,za,rfl,hza⟩
 replace hza:=(show(⟨#[]⟩:ByteArray).data.toList=[] from rfl)▸hza
 rw[HP1.out]at hza
 have HZA:=hidE hza
 have HIC:=hidE (r8_is v ts P1 za 6 ⟨#[58]⟩ 6 rfl (by decide) W1 (HV.out.below HB1.out) hza)
 have hlo:=hza.lo
 obtain⟨q,hq⟩:∃q,isO 6 [58] P1=q:=⟨_,rfl⟩
 rw[show(⟨#[58]⟩:ByteArray).data.toList=[58] from rfl,hq]at HIC
 have HQ:=hidE hq
 clear hza HN1 hq
 go_wp2_with fail
 refine HIC.out.mono ?_
 rintro e w1 ⟨rfl,rfl⟩
 clear HIC
 obtain⟨W2,hW2⟩:∃W,W1.setCell ⟨W0.heap.size,2,none⟩ (.bool q)=W:=⟨_,rfl⟩
 have hs2:W1.heap.size<=W2.heap.size/\W2.heap.size<=W1.heap.size:=by rw[<-hW2];simp
 have he2:Blk W2 W0.heap.size 48 #[.int .i64 5,.string X,.bool q,.int .i64 0,.string ⟨#[]⟩,.int .i64 0,.slice none 0 0,.slice none 0 0,.slice none 0 0]:=hW2▸heap_setCell_same _ _ 2 _ _ _ HE1.out
 have HB2:Hid (Below w.heap.size w W2):=hidE (hW2▸HB1.out.setCell (p:=⟨W0.heap.size,2,none⟩) (by simp;omega) _)
 have HBK2:Hid (Blk W2 w.heap.size 48 #[.int .i64 0,.string ⟨#[]⟩,.bool false,.int .i64 0,.string ⟨#[]⟩,.int .i64 0,.slice none 0 0,.slice none 0 0,.slice none 0 0]):=hidE (HBK1.out.same (hW2▸Below.heap_setCell _ ⟨W0.heap.size,2,none⟩ _ _ (by simp;omega)))
 have HE2:=hidE he2
 have HW2:=hidE hW2
 obtain⟨⟨g0,g1,g2,g3,g4,g5,g6,g7,g8⟩,⟨z0,z1,z2,z3,z4,z5,z6,z7,z8⟩,hle⟩:=blk_facts9 HE1.out
 clear he2 hW2
 go_upto_region 11 with fail
 rw[HW2.out]
 clear HW2 g0 g1 g2 g3 g4 g5 g6 g7 g8 z0 z1 z2 z3 z4 z5 z6 z7 z8 HE1 HBK1
 obtain⟨⟨g0,g1,g2,g3,g4,g5,g6,g7,g8⟩,⟨z0,z1,z2,z3,z4,z5,z6,z7,z8⟩,hle⟩:=blk_facts9 HE2.out
 go_upto_if 72 with fail
 go_cut [12] from 73 to 80 (λs12 wx=>∃zk K S Z T m c,s12=.int .i64 zk/\Hid (LetM ts w W0.heap.size X P1 q zk K S Z T m c wx)/\W2.heap.size<=wx.heap.size)
 case first =>
  cases q with
  | false =>
   go_wp2_with fail
   go_meet
   case rel =>
    refine⟨za,0,⟨#[]⟩,0,none,0,0,rfl,hidE ⟨?_,HE2.out,HBK2.out,HB2.out,(λh=>by cases h),(λ_=>⟨none,0,rfl,trivial⟩)⟩,Nat.le_refl _⟩
    rw[letP,HQ.out,if_neg (by decide)];exact HZA.out
  | true =>
   obtain⟨hpn,hza0,hza1⟩:=pat_next (by decide) HZA.out HQ.out
   have HT:=hidE (r8_typ v ts _ (za+1) W2 (HV.out.below HB2.out) HG.out hn hpn)
   clear hpn
   go_wp2_with fail
   refine HT.out.mono ?_
   rintro e w3 ⟨b3,tK,tX,tZ,tA,tm,tc,zt,rfl,hpt,htc⟩
   have hs3:=b3.size
   have he3:=HE2.out.below b3 (by omega)
   obtain⟨⟨g0,g1,g2,g3,g4,g5,g6,g7,g8⟩,⟨z0,z1,z2,z3,z4,z5,z6,z7,z8⟩,hle⟩:=blk_facts9 he3
   have HE3:=hidE he3
   have HBK3:=hidE (HBK2.out.below b3 (by omega))
   have HB3:=hidE (HB2.out.trans (b3.mono (by omega)))
   have HPT:=hidE hpt
   have HTC:=hidE htc
   clear he3 b3 hpt htc HT
   go_wp2_with fail
   go_meet
   case rel =>
    have hz:∀x:World,((((w3.setCell ⟨W0.heap.size,3,none⟩ (.int .i64 tK)).setCell ⟨W0.heap.size,4,none⟩ (.string tX)).setCell ⟨W0.heap.size,5,none⟩ (.int .i64 tZ)).setCell ⟨W0.heap.size,6,none⟩ (.slice tA tm tc))=x->x.heap.size=w3.heap.size:=λx h=>by rw[<-h];simp
    refine⟨zt,tK,tX,tZ,tA,tm,tc,rfl,hidE ⟨?_,blk_so9_3 _ _ _ _ HE3.out,HBK3.out.same (so9_3_far _ _ _ _ _ _ _ (by omega)),below_so9_3 HB3.out _ _ _ _ (by omega),(λ_ t rt ht=>?_),(λh=>by cases h)⟩,by rw[hz _ rfl];exact hs3⟩
    ·rw[letP,HQ.out,if_pos rfl];exact HPT.out
    ·obtain⟨A',a',hv',hA'⟩:=HTC.out t rt ht
     injection hv' with hv'
     have hv':=congrArg Array.toList hv'
     simp only[List.cons.injEq,Value.int.injEq,Value.string.injEq,Value.slice.injEq,and_true,true_and]at hv'
     obtain⟨rfl,rfl,rfl,rfl,rfl,rfl⟩:=hv'
     exact⟨tA,tc,rfl,Args.keep (λg hg=>⟨by omega,by rw[hz _ rfl];exact hg.2⟩) (λg hg=>so9_3_far _ _ _ _ _ _ _ (by omega)) _ _ hA'⟩
 case rest =>
  rename World=>V0
  obtain⟨zk,K,S,Z,T,m,c,rfl,hmid,hsv⟩:=hcut
  clear g0 g1 g2 g3 g4 g5 g6 g7 g8 z0 z1 z2 z3 z4 z5 z6 z7 z8 HE2 HBK2 HB2
  have HM0:=hidE hmid.out
  have HNA:=hidE (r8_next v ts (letP P1) zk 6 ⟨#[61]⟩ 6 rfl (by decide) V0 (HV.out.below hmid.out.b) hn hmid.out.p)
  clear hmid
  go_wp2_with fail
  refine HNA.out.mono ?_
  rintro e w4 ⟨rfl,zq,rfl,hzq⟩
  replace hzq:=(show(⟨#[61]⟩:ByteArray).data.toList=[61] from rfl)▸hzq
  have hR:=HIH.out f (by omega) V0 _ zq (HV.out.below HM0.out.b) hzq (λr hr=>(HLA.out za HZA.out r hr).2)
  rw[show(nxO 6 [61] (letP P1)).bind (rdE f)=letA f (letP P1) from rfl]at hR
  obtain⟨MA,hMA⟩:∃M,letA f (letP P1)=M:=⟨_,rfl⟩
  rw[hMA]at hR
  have HMA:=hidE hMA
  have HR:=hidE hR
  clear hzq hR hMA HNA
  go_wp2_with fail
  refine HR.out.mono ?_
  rintro e w5 ⟨b5,cs,ze,hsh,rfl,hpe,hcs⟩
  obtain⟨ck,cx,ct,cK,cX,cZ,cB,cm,cq,cKA,ckn,ckc,cLA,cln,clc,rfl⟩:=hsh
  have hs5:=b5.size
  obtain⟨W5,hW5⟩:∃W,w5.alloc (.cells #[.int .i64 ck,.string cx,.bool ct,.int .i64 cK,.string cX,.int .i64 cZ,.slice cB cm cq,.slice cKA ckn ckc,.slice cLA cln clc] 48)=W:=⟨_,rfl⟩
  have hbw:Below w5.heap.size w5 W5:=hW5▸(Below.refl _ w5).alloc (Nat.le_refl _) _
  have hsW5:w5.heap.size+1<=W5.heap.size/\W5.heap.size<=w5.heap.size+1:=by rw[<-hW5];simp
  have hbx:Blk W5 w5.heap.size 48 #[.int .i64 ck,.string cx,.bool ct,.int .i64 cK,.string cX,.int .i64 cZ,.slice cB cm cq,.slice cKA ckn ckc,.slice cLA cln clc]:=hW5▸heap_alloc_new _ _
  have HM5:=hidE (HM0.out.below (b5.trans (hbw.mono hs5)))
  have HBX:=hidE hbx
  have HCS:Hid (∀y r,MA=some (y,r)->pcE.Cs (λg=>W0.heap.size<g/\g<w5.heap.size) W5 y [.int .i64 ck,.string cx,.bool ct,.int .i64 cK,.string cX,.int .i64 cZ,.slice cB cm cq,.slice cKA ckn ckc,.slice cLA cln clc]):=hidE λy r ho=>pcE.keep (λg hg=>⟨by omega,hg.2⟩) (λg hg=>hbw.block g hg.2) (hcs y r ho)
  have HNB:=hidE (r8_next v ts (MA.map (·.2)) ze 3 ⟨#[105,110]⟩ 3 rfl (by decide) W5 (HV.out.below HM5.out.b) hn hpe)
  have HW5:=hidE hW5
  clear b5 hbw hbx hpe hcs HR hW5 HM0
  go_upto_region 14 with fail
  rw[HW5.out]
  clear HW5
  go_wp2_with fail
  refine HNB.out.mono ?_
  rintro e w6 ⟨rfl,zr,rfl,hzr⟩
  replace hzr:PAt ts (nxO 3 wIn (MA.map (·.2))) zr:=hzr
  have hR:=HIH.out f (by omega) W5 _ zr (HV.out.below HM5.out.b) hzr (λr hr=>by rw[<-HMA.out]at hr;exact HLB.out za HZA.out r hr)
  rw[<-HMA.out,show(nxO 3 wIn ((letA f (letP P1)).map (·.2))).bind (rdE f)=letB f (letP P1) from rfl]at hR
  obtain⟨MB,hMB⟩:∃M,letB f (letP P1)=M:=⟨_,rfl⟩
  rw[hMB]at hR
  have HMB:=hidE hMB
  have HR:=hidE hR
  clear hzr hR hMB HNB
  go_wp2_with fail
  refine HR.out.mono ?_
  rintro e w7 ⟨b7,ds,zl,hsh,rfl,hpl,hds⟩
  obtain⟨dk,dx,dt,dK,dX,dZ,dB,dm,dq,dKA,dkn,dkc,dLA,dln,dlc,rfl⟩:=hsh
  have hs7:=b7.size
  obtain⟨W7,hW7⟩:∃W,w7.alloc (.cells #[.int .i64 dk,.string dx,.bool dt,.int .i64 dK,.string dX,.int .i64 dZ,.slice dB dm dq,.slice dKA dkn dkc,.slice dLA dln dlc] 48)=W:=⟨_,rfl⟩
  have hbw:Below w7.heap.size w7 W7:=hW7▸(Below.refl _ w7).alloc (Nat.le_refl _) _
  have hsW7:w7.heap.size+1<=W7.heap.size/\W7.heap.size<=w7.heap.size+1:=by rw[<-hW7];simp
  have hby:Blk W7 w7.heap.size 48 #[.int .i64 dk,.string dx,.bool dt,.int .i64 dK,.string dX,.int .i64 dZ,.slice dB dm dq,.slice dKA dkn dkc,.slice dLA dln dlc]:=hW7▸heap_alloc_new _ _
  have hbb:Below W5.heap.size W5 W7:=b7.trans (hbw.mono hs7)
  have HM7:=hidE (HM5.out.below hbb)
  have HBX7:=hidE (HBX.out.below hbb (by omega))
  have HBY:=hidE hby
  have HCX:Hid (∀y r,MA=some (y,r)->pcE.Cs (λg=>W0.heap.size<g/\g<w5.heap.size) W7 y [.int .i64 ck,.string cx,.bool ct,.int .i64 cK,.string cX,.int .i64 cZ,.slice cB cm cq,.slice cKA ckn ckc,.slice cLA cln clc]):=hidE λy r ho=>pcE.keep (λ_ h=>h) (λg hg=>hbb.block g (by have:=hg.2;omega)) (HCS.out y r ho)
  have HCY:Hid (∀y r,MB=some (y,r)->pcE.Cs (λg=>W0.heap.size<g/\g<w7.heap.size) W7 y [.int .i64 dk,.string dx,.bool dt,.int .i64 dK,.string dX,.int .i64 dZ,.slice dB dm dq,.slice dKA dkn dkc,.slice dLA dln dlc]):=hidE λy r ho=>pcE.keep (λg hg=>⟨by omega,hg.2⟩) (λg hg=>hbw.block g hg.2) (hds y r ho)
  have HPL:=hidE hpl
  have HW7:=hidE hW7
  clear b7 hbw hby hbb hpl hds HR hW7 HM5 HBX HCS
  go_upto_region 15 with fail
  rw[HW7.out]
  clear HW7
  obtain⟨W8,hW8⟩:∃W,(W7.setCell ⟨W0.heap.size,7,none⟩ (.slice (some ⟨W7.heap.size,0,none⟩) 2 2)).alloc (.cells #[.int .i64 ck,.string cx,.bool ct,.int .i64 cK,.string cX,.int .i64 cZ,.slice cB cm cq,.slice cKA ckn ckc,.slice cLA cln clc,.int .i64 dk,.string dx,.bool dt,.int .i64 dK,.string dX,.int .i64 dZ,.slice dB dm dq,.slice dKA dkn dkc,.slice dLA dln dlc] 48)=W:=⟨_,rfl⟩
  have hs8:W7.heap.size+1<=W8.heap.size/\W8.heap.size<=W7.heap.size+1:=by rw[<-hW8];simp
  have hf8:∀k,k<W7.heap.size->k≠W0.heap.size->W8.heap[k]? = W7.heap[k]?:=λk h1 h2=>hW8▸(Below.heap_alloc _ _ _ (by simp;exact h1)).trans (Below.heap_setCell _ ⟨W0.heap.size,7,none⟩ _ k h2)
  have he8:Blk W8 W0.heap.size 48 #[.int .i64 5,.string X,.bool q,.int .i64 K,.string S,.int .i64 Z,.slice T m c,.slice (some ⟨W7.heap.size,0,none⟩) 2 2,.slice none 0 0]:=hW8▸Blk.alloc (heap_setCell_same _ _ 7 _ _ _ HM7.out.e) _
  have hn8:Blk W8 W7.heap.size 48 #[.int .i64 ck,.string cx,.bool ct,.int .i64 cK,.string cX,.int .i64 cZ,.slice cB cm cq,.slice cKA ckn ckc,.slice cLA cln clc,.int .i64 dk,.string dx,.bool dt,.int .i64 dK,.string dX,.int .i64 dZ,.slice dB dm dq,.slice dKA dkn dkc,.slice dLA dln dlc]:=hW8▸alloc_at _ _ _ (by simp)
  have HB8:Hid (Below w.heap.size w W8):=hidE (hW8▸(HM7.out.b.setCell (p:=⟨W0.heap.size,7,none⟩) (by simp;omega) _).alloc (by simp;omega) _)
  have HR8:Hid (Blk W8 w.heap.size 48 #[.int .i64 0,.string ⟨#[]⟩,.bool false,.int .i64 0,.string ⟨#[]⟩,.int .i64 0,.slice none 0 0,.slice none 0 0,.slice none 0 0]):=hidE (HM7.out.r.same (hf8 _ (by omega) (by omega)))
  have HCX8:Hid (∀y r,MA=some (y,r)->pcE.Cs (λg=>W0.heap.size<g/\g<w5.heap.size) W8 y [.int .i64 ck,.string cx,.bool ct,.int .i64 cK,.string cX,.int .i64 cZ,.slice cB cm cq,.slice cKA ckn ckc,.slice cLA cln clc]):=hidE λy r ho=>pcE.keep (λ_ h=>h) (λg hg=>hf8 g (by have:=hg.2;omega) (by have:=hg.1;omega)) (HCX.out y r ho)
  have HCY8:Hid (∀y r,MB=some (y,r)->pcE.Cs (λg=>W0.heap.size<g/\g<w7.heap.size) W8 y [.int .i64 dk,.string dx,.bool dt,.int .i64 dK,.string dX,.int .i64 dZ,.slice dB dm dq,.slice dKA dkn dkc,.slice dLA dln dlc]):=hidE λy r ho=>pcE.keep (λ_ h=>h) (λg hg=>hf8 g (by have:=hg.2;omega) (by have:=hg.1;omega)) (HCY.out y r ho)
  have HT1:Hid (q=true->∀t rt,(nxO 6 [58] P1).bind typ=some (t,rt)->TyL (λg=>W0.heap.size<g/\g<W7.heap.size) W8 (some t) [.int .i64 K,.string S,.int .i64 Z,.slice T m c]):=hidE λhq t rt ht=>(HM7.out.t1 hq t rt ht).keep (λ_ h=>h) (λg hg=>hf8 g hg.2 (by have:=hg.1;omega))
  have HT0:Hid (q=false->TyL (λg=>W0.heap.size<g/\g<W7.heap.size) W8 none [.int .i64 K,.string S,.int .i64 Z,.slice T m c]):=hidE λhq=>(HM7.out.t0 hq).keep (λ_ h=>h) (λg hg=>hf8 g hg.2 (by have:=hg.1;omega))
  have HE8:=hidE he8
  have HN8:=hidE hn8
  have HW8:=hidE hW8
  obtain⟨⟨g0,g1,g2,g3,g4,g5,g6,g7,g8⟩,⟨z0,z1,z2,z3,z4,z5,z6,z7,z8⟩,hle⟩:=blk_facts9 HM7.out.e
  obtain⟨⟨x0,x1,x2,x3,x4,x5,x6,x7,x8⟩,-,hlx⟩:=blk_facts9 HBX7.out
  obtain⟨⟨y0,y1,y2,y3,y4,y5,y6,y7,y8⟩,-,hly⟩:=blk_facts9 HBY.out
  clear he8 hn8 hW8 hf8 HM7 HBX7 HBY HCX HCY
  go_upto_region 16 with fail
  rw[HW8.out]
  clear HW8 g0 g1 g2 g3 g4 g5 g6 g7 g8 z0 z1 z2 z3 z4 z5 z6 z7 z8 x0 x1 x2 x3 x4 x5 x6 x7 x8 y0 y1 y2 y3 y4 y5 y6 y7 y8
  obtain⟨⟨g0,g1,g2,g3,g4,g5,g6,g7,g8⟩,-,-⟩:=blk_facts9 HE8.out
  obtain⟨⟨y0,y1,y2,y3,y4,y5,y6,y7,y8⟩,⟨z0,z1,z2,z3,z4,z5,z6,z7,z8⟩,hly⟩:=blk_facts9 HR8.out
  go_wp2_with fail
  try simp only[Exit.inBlock,Exit.then]
  refine bodyPost_ret (results_ct rfl _ _ w.heap.size 48 _ (0,0) _ rfl (blk_set9 _ _ _ _ _ _ _ _ _ HR8.out) Tryz.underlying48 rfl (by kernel_rfl)) rfl ?_
  refine xp8_set9 HB8.out ?_ (λy r ho=>?_)
  ·rw[HA1.out,HMB.out];exact HPL.out
  ·obtain⟨t,a,b,ra,rfl,h1,h2,h3,h4⟩:=HA2.out y r ho
   rw[HMA.out]at h1
   rw[HMB.out]at h2
   have hty:TyL (λg=>W0.heap.size<g/\g<W7.heap.size) W8 t [.int .i64 K,.string S,.int .i64 Z,.slice T m c]/\q=toE (.lt X.data.toList t a b):=by
    cases hq:q with
    | true =>
     obtain⟨t',rt,h5,rfl⟩:=h3 (by rw[HQ.out,hq])
     exact⟨HT1.out hq t' rt h5,rfl⟩
    | false =>
     obtain rfl:=h4 (by rw[HQ.out,hq])
     exact⟨HT0.out hq,rfl⟩
   obtain⟨⟨TA,ta,hT1,hT2⟩,hqt⟩:=hty
   refine⟨⟨TA,ta,some ⟨W7.heap.size,0,none⟩,0,none,0⟩,by simp only[exC,tyE,hT1,<-hqt];simp[kdE,nmE,kidsE,altsE,Sx.strV],hT2.keep (λg hg=>⟨by omega,by omega⟩) (λ_ _=>rfl),?_⟩
   rw[ExIn]
   exact⟨_,rfl,⟨by omega,by omega⟩,kids_new (pcE.keep (S':=λg=>W0.heap.size<g/\g<w7.heap.size) (λg hg=>⟨hg.1,by have:=hg.2;omega⟩) (λ_ _=>rfl) (HCX8.out a ra h1)) (HCY8.out b r h2) (λg hg=>⟨by omega,by omega⟩) (λ_ _=>rfl) HN8.out⟩
end Go.Proofs.YtmbmjneibkihkaaGreatDoor
