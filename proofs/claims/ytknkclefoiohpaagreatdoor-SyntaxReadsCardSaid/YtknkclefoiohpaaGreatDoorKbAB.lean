/-
  Contracts of the code's functions, part 28.
-/
import Derived.Test.YtknkclefoiohpaaGreatDoorKbAA
import Derived.Test.YtknkclefoiohpaaGreatDoorKbD
import Derived.Deep.RegionHeld3
import Derived.Deep.CutRange
namespace Go.Proofs.YtknkclefoiohpaaGreatDoor
open Go.RowKit Lx Tx
set_option maxRecDepth 100000
set_option maxHeartbeats 1000000 in
theorem wr_copyCheck_fresh(b:Nat)(w:World)(h0:w.cell? ⟨b,0,none⟩=some (.pointer none))(hsh:w.shape? b=some (92,2))(hfz:w.frozen? ⟨b,0,none⟩=false) :
  Calls Tryz.prog 153 #[.pointer (some ⟨b,0,none⟩)] w λe w'=>e=.returned (.tuple #[])/\w'=w.setCell ⟨b,0,none⟩ (.pointer (some ⟨b,0,none⟩)):=by
 obtain⟨j,hj,hjs⟩:=Option.map_eq_some_iff.1 bld_size
 go_enter Tryz.func153,Tryz.ntmps153
 go_wp2
 rw[Lib.run_to_unsafe w ⟨b,0,none⟩ Tryz.underlying86 Tryz.underlying225 hj (by rw[hjs];decide) hsh (Nat.zero_lt_succ 1)]
 simp only[Result.andThen]
 rw[Oper.upon_value]
 go_wp2
 rw[run_callFunc_extern Tryz.func177 (by kernel_rfl) (by kernel_rfl) (by kernel_rfl) (e:=Extern.AbiNoEscape.same) (by kernel_rfl)]
 rw[Lib.run_noEscape]
 simp only[Result.andThen]
 rw[Oper.upon_value]
 go_wp2
 rw[Lib.run_from_unsafe w ⟨b,0,none⟩ Tryz.underlying225 Tryz.underlying86 hj hsh (by kernel_rfl)]
 simp only[Result.andThen]
 rw[Oper.upon_value]
 go_wp2
 go_end0
 exact⟨rfl,rfl⟩
set_option maxHeartbeats 1000000 in
theorem wr_copyCheck_used(b:Nat)(w:World)(h0:w.cell? ⟨b,0,none⟩=some (.pointer (some ⟨b,0,none⟩))) :
  Calls Tryz.prog 153 #[.pointer (some ⟨b,0,none⟩)] w λe w'=>e=.returned (.tuple #[])/\w'=w:=by
 obtain⟨j,hj,_⟩:=Option.map_eq_some_iff.1 bld_size
 go_enter Tryz.func153,Tryz.ntmps153
 go_wp2
 rw[Lib.run_neq_ptr_same w _ Tryz.underlying86 hj]
 go_wp2
 go_end0
 exact⟨rfl,rfl⟩
theorem wr_copyCheck(B b:Nat)(bs:List Value)(w:World)(h:Lib.IsBuilderF 92 5 B b bs w) :
  Calls Tryz.prog 153 #[.pointer (some ⟨b,0,none⟩)] w λe w'=>e=.returned (.tuple #[])/\(Lib.BuilderAtF 92 5 B b (.pointer (some ⟨b,0,none⟩)) bs w'/\Below B w w'/\Lib.OthersKept 5 (some b) w w'):=by
 rcases h with h|h
 ·refine(wr_copyCheck_fresh b w h.cell0 h.shape h.frozen0).mono ?_
  rintro e w' ⟨rfl,rfl⟩
  exact⟨rfl,h.used _,(Below.refl B w).setCell (p:=⟨b,0,none⟩) h.1 _,(Lib.OthersKept.refl _ _ w).setCell ⟨b,0,none⟩ rfl _⟩
 ·refine(wr_copyCheck_used b w h.cell0).mono ?_
  rintro e w' ⟨rfl,rfl⟩
  exact⟨rfl,h,Below.refl B _,Lib.OthersKept.refl _ _ _⟩
set_option maxHeartbeats 2000000 in
theorem wr_WriteString(B b:Nat)(bs:List Value)(s:ByteArray)(w:World)(h:Lib.IsBuilderF 92 5 B b bs w)(hlen:bs.length+s.size<=140737488355328)(hBw:B<=w.heap.size) :
  Calls Tryz.prog 134 #[.pointer (some ⟨b,0,none⟩),.string s] w λe w'=>e=.returned (.tuple #[.int .i64 s.size,.nilIface])/\(Lib.BuilderAtF 92 5 B b (.pointer (some ⟨b,0,none⟩)) (bs++Lib.strCells s) w'/\Below B w w'/\Lib.OthersKept 5 (some b) w w'):=by
 obtain⟨i0,hi,hz0,hz1,hz2⟩:=info_parts byte_info
 go_enter Tryz.func134,Tryz.ntmps134
 go_wp2_with (go_at_call 153;refine(wr_copyCheck B b bs _ h).mono ?_)
 rintro e w1 ⟨rfl,h1,hb1,hk1⟩
 obtain⟨hB,v,hbk,hown,hne⟩:=h1
 have c0:w1.cell? ⟨b,0,none⟩=some (.pointer (some ⟨b,0,none⟩)):=by rw[Lib.cell_of_heap hbk];rfl
 have c1:w1.cell? ⟨b,1,none⟩=some v:=by rw[Lib.cell_of_heap hbk];rfl
 go_wp2_with (at_builtin;refine Lib.wpList_append_own_stringF _ rfl _ _ 55 9 rfl B 5 i0 Tryz.underlying55 Tryz.underlying9 hi hz0 hz1 hz2 _ _ _ rfl hown s rfl ?c3 ?c4 ?c5 ?_)
 case c3=>unfold maxLen;omega
 case c4=>omega
 case c5=>have:=hb1.size;omega
 intro v' w2 hown' hgrow _
 have hlt:b<w1.heap.size:=by
  rcases Nat.lt_or_ge b w1.heap.size with h'|h'
  ·exact h'
  ·simp[Array.getElem?_eq_none h']at hbk
 have hb2:w2.heap[b]? = some (.cells #[.pointer (some ⟨b,0,none⟩),v] 92 (0,0)):=by
  rw[hgrow.block b hlt (λe=>hne e.symm)]
  exact hbk
 have d0:w2.cell? ⟨b,0,none⟩=some (.pointer (some ⟨b,0,none⟩)):=by rw[Lib.cell_of_heap hb2];rfl
 have d1:w2.cell? ⟨b,1,none⟩=some v:=by rw[Lib.cell_of_heap hb2];rfl
 have f1:w2.frozen? ⟨b,1,none⟩=false:=Lib.frozen_of_heap hb2 1
 obtain⟨ao,n',cap,rfl⟩:∃ao n' cap,v'=.slice ao n' cap:=by
  rcases hown'.2 with⟨hv,_⟩|⟨g,cap,cur,fz,hv,_⟩
  ·exact⟨_,_,_,hv⟩
  ·exact⟨_,_,_,hv⟩
 go_wp2
 go_ret2
 refine⟨rfl,?_,?_,(hk1.grown hgrow (Lib.ownsRowF_kind hown)).setCell ⟨b,1,none⟩ rfl _⟩
 ·exact Lib.BuilderAtF.put (T:=92) (e:=5) hB hb2 (bs':=bs++Lib.strCells s) (by simpa[Lib.strCells_length] using hown') (by decide)
 ·exact(hb1.grown hgrow (by have:=hb1.size;omega) (λk hk=>(hown.lt k hk).1)).setCell (p:=⟨b,1,none⟩) hB _
def BldX(B b:Nat)(l:List UInt8)(w:World):Prop:=Lib.IsBuilderF 92 5 B b (Lib.byteCells l) w
def WPX(B b:Nat)(l:List UInt8)(w w':World):Prop:=BldX B b l w'/\Below B w w'/\Lib.OthersKept 5 (some b) w w'
theorem BldX.below {B b:Nat} {l:List UInt8} {w w':World}(h:BldX B b l w)(hb:Below w.heap.size w w'):BldX B b l w':=by
 have key:∀p,Lib.BuilderAtF 92 5 B b p (Lib.byteCells l) w->Lib.BuilderAtF 92 5 B b p (Lib.byteCells l) w':=by
  intro p h
  have hlt:=h.lt
  obtain⟨hB,v,hbk,hown,hne⟩:=h
  exact⟨hB,v,(hb.block b hlt).trans hbk,hown.kept (grown_of_below hb) (by cases hv:v.ownBlock <;> simp),hne⟩
 rcases h with h|h
 ·exact .inl (key _ h)
 ·exact .inr (key _ h)
theorem BldX.lt {B b:Nat} {l:List UInt8} {w:World}(h:BldX B b l w):B<=b/\b<w.heap.size:=by
 rcases h with h|h
 ·exact⟨h.1,h.lt⟩
 ·exact⟨h.1,h.lt⟩
theorem WPX.refl {B b:Nat} {l:List UInt8} {w:World}(h:BldX B b l w):WPX B b l w w:=⟨h,Below.refl _ _,Lib.OthersKept.refl _ _ _⟩
theorem WPX.trans {B b:Nat} {l l':List UInt8} {w w1 w2:World}(h:WPX B b l w w1)(k:WPX B b l' w1 w2):WPX B b l' w w2:=⟨k.1,h.2.1.trans k.2.1,h.2.2.trans k.2.2⟩
theorem WPX.below {B b:Nat} {l:List UInt8} {w w1 w2:World}(h:WPX B b l w w1)(hB:B<=w1.heap.size)(k:Below w1.heap.size w1 w2):WPX B b l w w2 :=
 ⟨h.1.below k,h.2.1.trans (k.mono hB),h.2.2.trans (others_below k)⟩
theorem WPX.blk {B b g:Nat} {l:List UInt8} {t:TypeId} {cs:Array Value} {w w1:World}(h:WPX B b l w w1)(k:Blk w g t cs)(hg:g≠b)(ht:t≠5):Blk w1 g t cs :=
 h.2.2 g _ k (by simpa using hg) (λc fz e=>ht (by injection e))
theorem wr_ws(B b:Nat)(l:List UInt8)(s:ByteArray)(w:World)(h:BldX B b l w)(hlen:l.length<=60000000000000)(hs:s.size<=60000000000000)(hBw:B<=w.heap.size) :
  Calls Tryz.prog 134 #[.pointer (some ⟨b,0,none⟩),.string s] w λe w'=>e=.returned (.tuple #[.int .i64 s.size,.nilIface])/\WPX B b (l++s.data.toList) w w':=by
 refine(wr_WriteString B b _ _ w h (by rw[Lib.byteCells_length];omega) hBw).mono ?_
 rintro e w' ⟨rfl,h1,h2,h3⟩
 exact⟨rfl,.inr (by rw[Lib.byteCells_append];exact h1),h2,h3⟩
theorem WPX.sz {B b:Nat} {l:List UInt8} {w w1:World}(h:WPX B b l w w1):w.heap.size<=w1.heap.size:=h.2.1.size
theorem WPX.tab {B b:Nat} {l:List UInt8} {w w1:World}(h:WPX B b l w w1)(ht:Tab w)(hB:0<B):Tab w1:=ht.belowB hB h.2.1
theorem byte_cells:Tryz.prog.cellsOf 5=1:=by kernel_rfl
set_option maxHeartbeats 1000000 in
theorem wr_String(B b:Nat)(l:List UInt8)(w:World)(h:BldX B b l w)(h0:l≠[]) :
  Calls Tryz.prog 38 #[.pointer (some ⟨b,0,none⟩)] w λe w'=>e=.returned (.string ⟨l.toArray⟩)/\Below B w w':=by
 obtain⟨p,hAt⟩:∃p,Lib.BuilderAtF 92 5 B b p (Lib.byteCells l) w:=by
  rcases h with h|h
  ·exact⟨_,h⟩
  ·exact⟨_,h⟩
 obtain⟨hB,v,hbk,hown,hne⟩:=hAt
 have hl0:l.length≠0:=by simpa using h0
 rw[Lib.byteCells_length]at hown
 obtain⟨g,cap,cur,fz,rfl,hbg,hg,hfz,hnc,hcm,hcs,htake⟩:∃g cap cur fz,v=.slice (some ⟨g,0,none⟩) l.length cap/\B<=g/\w.heap[g]? = some (.cells cur 5 fz)/\fz.2<=l.length*1/\l.length<=cap/\cap<=maxLen/\cur.size=cap*1/\cur.toList.take (l.length*1)=Lib.byteCells l:=by
  rcases hown.2 with⟨_,hz⟩|⟨g,cap,cur,fz,hv,r⟩
  ·exact absurd hz hl0
  ·exact⟨g,cap,cur,fz,hv,r⟩
 have c1:w.drew.cell? ⟨b,1,none⟩=some (.slice (some ⟨g,0,none⟩) l.length cap):=by
  have:w.drew.heap[b]? = some (.cells #[p,.slice (some ⟨g,0,none⟩) l.length cap] 92 (0,0)):=hbk
  rw[Lib.cell_of_heap this];rfl
 have hSD:(Builtin.unsafeSliceData_ #[55] 164 #[.slice (some ⟨g,0,none⟩) l.length cap]).run Tryz.prog w.drew=.ok (.pointer (some ⟨g,0,none⟩)) w.drew :=
  Lib.run_unsafeSliceData_row _ _ _ _ _ _ (by omega)
 have hUS:(Builtin.unsafeString_ #[164,3] 9 #[.pointer (some ⟨g,0,none⟩),.int .i64 l.length]).run Tryz.prog w.drew=.ok (.string ⟨l.toArray⟩) (w.drew.freeze ⟨g,0,none⟩ l.length):=by
  refine Lib.run_unsafeString_row w.drew 164 3 9 5 Tryz.underlying164 byte_cells g cur.size (by have hg':w.drew.heap[g]? = some (.cells cur 5 fz):=hg;simp[World.shape?,hg']) l h0 (by omega) (by unfold maxLen at hcm;omega) ?_
  intro j x hx
  exact hown.cells (g:=g) rfl j (.int .u8 x.toNat) (by simp[Lib.byteCells,hx])
 have hgl:b<w.heap.size:=by
  rcases Nat.lt_or_ge b w.heap.size with h'|h'
  ·exact h'
  ·simp[Array.getElem?_eq_none h']at hbk
 have HBG:=hidE (Lib.below_freeze (Below.drew (Below.refl B w)) (p:=⟨g,0,none⟩) hbg l.length)
 clear hown hne hg hfz htake
 have mixed:Tryz.prog.follows Departure.mixedOrders=true:=by kernel_rfl
 go_enter Tryz.func38,Tryz.ntmps38
 go_wp2
 go_region_o
 all_goals
  go_wp2
  go_ret
  exact⟨rfl,HBG.out⟩
end Go.Proofs.YtknkclefoiohpaaGreatDoor

namespace Go.Proofs.YtknkclefoiohpaaGreatDoor
open Go.RowKit Lx Tx Sx
set_option maxRecDepth 100000
theorem flatN_take(ts:List Nm)(i:Nat)(x:Nm)(h:ts[i]? = some x):(ts.take (i+1)).flatten=(ts.take i).flatten++x:=by
 rw[List.take_add_one,h,List.flatten_append]
 simp
theorem flatN_len(ts:List Nm)(i:Nat):(ts.take i).flatten.length<=ts.flatten.length:=by
 conv=>rhs;rw[<-List.take_append_drop i ts,List.flatten_append,List.length_append]
 omega
theorem flatN_len1(ts:List Nm)(i:Nat)(x:Nm)(h:ts[i]? = some x):(ts.take i).flatten.length+x.length<=ts.flatten.length:=by
 have:=flatN_len ts (i+1)
 rw[flatN_take ts i x h,List.length_append]at this
 exact this
set_option maxHeartbeats 1600000 in
theorem wr_Put(B b:Nat)(l:List UInt8)(ts:List Nm)(g n c:Nat)(w:World)(h:BldX B b l w)(hBw:B<=w.heap.size)(hb:Blk w g 9 (ts.map Sx.strV).toArray)(hgb:g≠b)(hn:ts.length=n)(hn9:n<=100000)(hlen:l.length+ts.flatten.length<=50000000000000) :
  Calls Tryz.prog 87 #[.pointer (some ⟨b,0,none⟩),.slice (some ⟨g,0,none⟩) n c] w λe w'=>e=.returned (.tuple #[])/\WPX B b (l++ts.flatten) w w':=by
 have HB:=hidE hb
 have HN:=hidE hn
 have H0:=hidE (WPX.refl h)
 have hglw:=hb.lt
 clear hb hn h
 go_enter Tryz.func87,Tryz.ntmps87
 go_wp2_with fail
 go_loopg [8] n (λgg vi wr=>∃i:Nat,gg=n-i/\vi=.int .i64 (i:Nat)/\i<=n/\Hid (WPX B b (l++(ts.take i).flatten) w wr))
 case atStart=>exact⟨0,rfl,rfl,by omega,hidE (by rw[List.take_zero,List.flatten_nil,List.append_nil];exact H0.out)⟩
 case round =>
  obtain⟨i,rfl,rfl,hi,hW⟩:=hrel
  have hsr:=hW.out.sz
  by_cases hlt:i<n
  ·obtain⟨x,hx⟩:∃x,ts[i]? = some x:=⟨_,List.getElem?_eq_getElem (by rw[HN.out];exact hlt)⟩
   obtain⟨X,hX⟩:∃X:ByteArray,⟨x.toArray⟩=X:=⟨_,rfl⟩
   have hX2:X.data.toList=x:=by rw[<-hX]
   have hXs:X.size=x.length:=by rw[<-hX];rfl
   have hbk:=hW.out.blk HB.out hgb (by decide)
   have c0:wr.cell? ⟨g,i,none⟩=some (.string X):=by
    rw[Lib.cell_of_heap hbk]
    simp[hx,Sx.strV,hX]
   have hgl:=lt_cell c0
   have hl1:=flatN_len1 ts i x hx
   have hnx:=flatN_take ts i x hx
   have hl2:(l++(ts.take i).flatten).length<=50000000000000:=by rw[List.length_append];omega
   have HCALL:=hidE (wr_ws B b (l++(ts.take i).flatten) X wr hW.out.1 (by omega) (by omega) (by omega))
   rw[hX2,List.append_assoc,<-hnx]at HCALL
   have ii0:(0:Int)<=(i:Int):=by omega
   have ii1:(i:Int)<(n:Int):=by omega
   clear hx hX hX2 hbk hl1 hnx hl2
   go_wp2_with fail
   refine HCALL.out.mono ?_
   rintro e w2 ⟨rfl,h2⟩
   have HW2:=hidE (hW.out.trans h2)
   clear h2 HCALL
   go_wp2_with fail
   go_roundg (n-(i+1))
   case measure=>omega
   case rel=>exact⟨i+1,rfl,by go_num,by omega,HW2⟩
  ·have hin:i=n:=by omega
   subst hin
   have HF:Hid (WPX B b (l++ts.flatten) w wr):=hidE (by have:=hW.out;rwa [List.take_of_length_le (by rw[HN.out];exact Nat.le_refl _)]at this)
   clear hW
   go_wp2_with fail
   first|go_end0|refine bodyPost_ret (results_none rfl _ _ _) rfl ?_
   exact⟨rfl,HF.out⟩
theorem spaced_take(vs:List Nm)(i:Nat)(x:Nm)(h:vs[i]? = some x):spaced (vs.take (i+1))=spaced (vs.take i)++[[32],x].flatten:=by
 unfold spaced
 rw[List.take_add_one,h,List.flatMap_append]
 simp
theorem spaced_len(vs:List Nm)(i:Nat):(spaced (vs.take i)).length<=(spaced vs).length:=by
 have:spaced vs=spaced (vs.take i)++spaced (vs.drop i):=by
  unfold spaced
  rw[<-List.flatMap_append,List.take_append_drop]
 rw[this,List.length_append]
 omega
set_option maxHeartbeats 1600000 in
theorem wr_Names(B b:Nat)(l:List UInt8)(vs:List Nm)(S:Nat->Prop)(V:Option Addr)(n c:Nat)(w:World)(h:BldX B b l w)(hv:NmsIn S w vs V)(hS:∀g,S g->g<B)(hn:vs.length=n)(hn9:n<=100000)(hlen:l.length+(spaced vs).length<=50000000000000) :
  Calls Tryz.prog 88 #[.pointer (some ⟨b,0,none⟩),.string ⟨#[32]⟩,.slice V n c] w λe w'=>e=.returned (.tuple #[])/\WPX B b (l++spaced vs) w w':=by
 have HV:=hidE hv
 have HN:=hidE hn
 have HS:=hidE hS
 have H0:=hidE (WPX.refl h)
 have hbB:=h.lt
 clear hv hn h hS
 go_enter Tryz.func88,Tryz.ntmps88
 go_wp2_with fail
 go_loopg [10] n (λgg vi wr=>∃i:Nat,gg=n-i/\vi=.int .i64 (i:Nat)/\i<=n/\Hid (WPX B b (l++spaced (vs.take i)) w wr))
 case atStart=>exact⟨0,rfl,rfl,by omega,hidE (by rw[List.take_zero];simpa[spaced] using H0.out)⟩
 case round =>
  obtain⟨i,rfl,rfl,hi,hW⟩:=hrel
  have hsr:=hW.out.sz
  by_cases hlt:i<n
  ·obtain⟨x,hx⟩:∃x,vs[i]? = some x:=⟨_,List.getElem?_eq_getElem (by rw[HN.out];exact hlt)⟩
   obtain⟨g,rfl,hSg,hrow⟩:=HV.out (by intro e;rw[e]at hx;simp at hx)
   obtain⟨X,hX⟩:∃X:ByteArray,⟨x.toArray⟩=X:=⟨_,rfl⟩
   have hX2:X.data.toList=x:=by rw[<-hX]
   have hgB:=HS.out g hSg
   have c0:wr.cell? ⟨g,i,none⟩=some (.string X):=by
    have h1:=hrow i (Sx.strV x) (by rw[List.getElem?_map,hx];rfl)
    rw[Nat.zero_add]at h1
    exact(World.cell?_of_block (w:=w) (a:=⟨g,i,none⟩) (hW.out.2.1.block g hgB)).trans (h1.trans (by rw[Sx.strV,hX]))
   have hgl:=lt_cell c0
   have hnx:=spaced_take vs i x hx
   have hl1:=spaced_len vs (i+1)
   rw[hnx,List.length_append]at hl1
   have HA:=hidE (hW.out.below (by omega) ((Below.refl _ wr).alloc (Nat.le_refl _) (.cells #[.string ⟨#[32]⟩,.string X] 9)))
   have HCALL:=hidE (wr_Put B b (l++spaced (vs.take i)) [[32],x] wr.heap.size 2 2 (wr.alloc (.cells #[.string ⟨#[32]⟩,.string X] 9)) HA.out.1 (by simp;omega) (by rw[show([[32],x].map Sx.strV).toArray=#[.string ⟨#[32]⟩,.string X] by simp[Sx.strV,hX]];exact heap_alloc_new _ _) (by have:=hW.out.1.lt;omega) rfl (by omega) (by rw[List.length_append];omega))
   rw[List.append_assoc,<-hnx]at HCALL
   have ii0:(0:Int)<=(i:Int):=by omega
   have ii1:(i:Int)<(n:Int):=by omega
   clear hx hSg hrow hX hX2 hnx hl1
   go_wp2_with fail
   refine HCALL.out.mono ?_
   rintro e w2 ⟨rfl,h2⟩
   have HW2:=hidE (HA.out.trans h2)
   clear h2 HCALL
   go_wp2_with fail
   go_roundg (n-(i+1))
   case measure=>omega
   case rel=>exact⟨i+1,rfl,by go_num,by omega,HW2⟩
  ·have hin:i=n:=by omega
   subst hin
   have HF:Hid (WPX B b (l++spaced vs) w wr):=hidE (by have:=hW.out;rwa [List.take_of_length_le (by rw[HN.out];exact Nat.le_refl _)]at this)
   clear hW
   go_wp2_with fail
   first|go_end0|refine bodyPost_ret (results_none rfl _ _ _) rfl ?_
   exact⟨rfl,HF.out⟩
end Go.Proofs.YtknkclefoiohpaaGreatDoor
