/-
  Contracts of the code's functions, part 8.
-/
import Derived.Test.YtknkclefoiohpaaGreatDoorKbF
import Derived.Test.YtknkclefoiohpaaGreatDoorKbG
import Derived.Test.YtknkclefoiohpaaGreatDoorKbD
import Derived.Deep.RegionHeld3
import Derived.Deep.Cut
import Derived.Deep.LoopGhost
namespace Go.Proofs.YtknkclefoiohpaaGreatDoor
open Go.RowKit Lx Tx
set_option maxRecDepth 100000
structure Chg (M:Nat->Prop) (w w':World):Prop where
 os:w'.os=w.os
 tape:w'.tape=w.tape
 output:w'.output=w.output
 size:w.heap.size<=w'.heap.size
 block:∀k,k<w.heap.size->¬M k->w'.heap[k]? = w.heap[k]?
theorem Chg.refl(M:Nat->Prop)(w:World):Chg M w w:=⟨rfl,rfl,rfl,Nat.le_refl _,λ_ _ _=>rfl⟩
theorem Chg.trans' {M M1:Nat->Prop} {a b c:World}(h:Chg M a b)(k:Chg M1 b c)(hm:∀i,i<a.heap.size->M1 i->M i):Chg M a c :=
 ⟨k.os.trans h.os,k.tape.trans h.tape,k.output.trans h.output,Nat.le_trans h.size k.size,λi hi hn=>(k.block i (Nat.lt_of_lt_of_le hi h.size) (λe=>hn (hm i hi e))).trans (h.block i hi hn)⟩
theorem Chg.trans {M:Nat->Prop} {a b c:World}(h:Chg M a b)(k:Chg M b c):Chg M a c:=h.trans' k (λ_ _ e=>e)
theorem Chg.alloc {M:Nat->Prop} {a w:World}(h:Chg M a w)(o:Obj):Chg M a (w.alloc o) :=
 ⟨h.os,h.tape,h.output,Nat.le_trans h.size (by simp),λi hi hn=>(Below.heap_alloc w o i (Nat.lt_of_lt_of_le hi h.size)).trans (h.block i hi hn)⟩
theorem Chg.setCell {M:Nat->Prop} {a w:World}(h:Chg M a w) {p:Addr}(hp:a.heap.size<=p.block\/M p.block)(u:Value):Chg M a (w.setCell p u) :=
 have hb:Below 0 w (w.setCell p u):=(Below.refl 0 w).setCell (Nat.zero_le _) u
 ⟨hb.os.trans h.os,hb.tape.trans h.tape,hb.output.trans h.output,Nat.le_trans h.size hb.size,λi hi hn=>(Below.heap_setCell w p u i (λe=>by
  rcases hp with hp|hp
  ·omega
  ·exact hn (e▸hp))).trans (h.block i hi hn)⟩
theorem Chg.drew {M:Nat->Prop} {a w:World}(h:Chg M a w):Chg M a w.drew:=⟨h.os,h.tape,h.output,h.size,h.block⟩
theorem Chg.grown {M:Nat->Prop} {a w w':World} {row:Option Nat}(h:Chg M a w)(hg:w.grownBy w' row)(hr:∀k,row=some k->a.heap.size<=k\/M k):Chg M a w' :=
 have hb:Below 0 w w':=(Below.refl 0 w).grown hg (Nat.zero_le _) (λ_ _=>Nat.zero_le _)
 ⟨hb.os.trans h.os,hb.tape.trans h.tape,hb.output.trans h.output,Nat.le_trans h.size hb.size,λi hi hn=>(hg.block i (Nat.lt_of_lt_of_le hi h.size) (λe=>by
  rcases hr i e.symm with hp|hp
  ·omega
  ·exact hn hp)).trans (h.block i hi hn)⟩
theorem Chg.of_below {M:Nat->Prop} {w w':World}(h:Below w.heap.size w w'):Chg M w w':=⟨h.os,h.tape,h.output,h.size,λi hi _=>h.block i hi⟩
theorem Chg.below {M:Nat->Prop} {a b c:World}(h:Chg M a b)(k:Below b.heap.size b c):Chg M a c:=h.trans (Chg.of_below k)
theorem Chg.belowB {M:Nat->Prop} {a b c:World} {B:Nat}(h:Chg M a b)(k:Below B b c)(hB:a.heap.size<=B):Chg M a c :=
 ⟨k.os.trans h.os,k.tape.trans h.tape,k.output.trans h.output,Nat.le_trans h.size k.size,λi hi hn=>(k.block i (by omega)).trans (h.block i hi hn)⟩
theorem Chg.toBelow {M:Nat->Prop} {w w':World} {B:Nat}(h:Chg M w w')(hB:B<=w.heap.size)(hm:∀k,k<B->¬M k):Below B w w' :=
 ⟨h.os,h.tape,h.output,h.size,λi hi=>h.block i (by omega) (hm i hi)⟩
theorem Blk.same {w w':World} {g:Nat} {t:TypeId} {cs:Array Value}(h:Blk w g t cs)(he:w'.heap[g]? = w.heap[g]?):Blk w' g t cs:=he.trans h
theorem Blk.chg {M:Nat->Prop} {w w':World} {g:Nat} {t:TypeId} {cs:Array Value}(h:Blk w g t cs)(hc:Chg M w w')(hm:¬M g):Blk w' g t cs:=(hc.block g h.lt hm).trans h
def Toks(S:Nat->Prop)(w:World)(v:Value)(l:List Tok):Prop :=
 ∃A c,v=.slice A l.length c/\l.length<=c/\(0<l.length->∃g o,A=some ⟨g,o,none⟩/\S g/\∀j u,(toksV l)[j]? = some u->w.cell? ⟨g,o+j,none⟩=some u)
theorem Toks.keep {S:Nat->Prop} {w w':World} {v:Value} {l:List Tok}(h:Toks S w v l)(hk:∀g,S g->w'.heap[g]? = w.heap[g]?):Toks S w' v l:=by
 obtain⟨A,c,hv,hc,hp⟩:=h
 refine⟨A,c,hv,hc,λh0=>?_⟩
 obtain⟨g,o,hA,hg,hcell⟩:=hp h0
 exact⟨g,o,hA,hg,λj u hu=>by rw[World.cell?_of_block (w:=w) (hk g hg)];exact hcell j u hu⟩
theorem Toks.head {S:Nat->Prop} {w:World} {v:Value} {t:Tok} {r:List Tok}(h:Toks S w v (t::r)) :
  ∃g o c,v=.slice (some ⟨g,o,none⟩) (r.length+1) c/\r.length+1<=c/\S g/\w.cell? ⟨g,o,none⟩=some (.int .i64 (t.kind:Nat))/\w.cell? ⟨g,o+1,none⟩=some (.string ⟨t.text.toArray⟩)/\w.cell? ⟨g,o+2,none⟩=some (.int .i64 (t.at_:Nat)) /\
   ∀A,(0<r.length->A=some ⟨g,o+3,none⟩)->Toks S w (.slice A r.length (c-1)) r:=by
 obtain⟨A,c,hv,hc,hp⟩:=h
 obtain⟨g,o,rfl,hg,hcell⟩:=hp (by simp)
 refine⟨g,o,c,hv,hc,hg,hcell 0 _ rfl,hcell 1 _ rfl,hcell 2 _ rfl,λA hA=>⟨A,c-1,rfl,by simp at hc;omega,λh0=>⟨g,o+3,hA h0,hg,λj u hu=>?_⟩⟩⟩
 have:=hcell (3+j) u (by
  show(tokV t++toksV r)[3+j]? = _
  rw[List.getElem?_append_right (by show 3<=3+j;omega)]
  show(toksV r)[3+j-3]? = _
  rw[Nat.add_sub_cancel_left];exact hu)
 rwa [<-Nat.add_assoc]at this
theorem lt_cell {w:World} {g o:Nat} {v:Value}(h:w.cell? ⟨g,o,none⟩=some v):g<w.heap.size:=by
 refine Nat.lt_of_not_le λhl=>?_
 have e:w.heap[g]? = none:=Array.getElem?_eq_none hl
 simp[World.cell?,e]at h
def Rdr(S:Nat->Prop)(w:World)(b:Nat)(l:List Tok):Prop:=∃v,Blk w b 172 #[v]/\Toks S w v l
theorem Rdr.lt {S:Nat->Prop} {w:World} {b:Nat} {l:List Tok}(h:Rdr S w b l):b<w.heap.size:=by obtain⟨v,h1,_⟩:=h;exact h1.lt
theorem Rdr.keep {S:Nat->Prop} {w w':World} {b:Nat} {l:List Tok}(h:Rdr S w b l)(hb:w'.heap[b]? = w.heap[b]?)(hk:∀g,S g->w'.heap[g]? = w.heap[g]?):Rdr S w' b l:=by
 obtain⟨v,h1,h2⟩:=h
 exact⟨v,h1.same hb,h2.keep hk⟩
theorem Rdr.below {S:Nat->Prop} {w w':World} {b:Nat} {l:List Tok}(h:Rdr S w b l)(hb:Below w.heap.size w w')(hS:∀g,S g->g<w.heap.size):Rdr S w' b l :=
 h.keep (hb.block b h.lt) (λg hg=>hb.block g (hS g hg))
theorem Rdr.alloc {S:Nat->Prop} {w:World} {b:Nat} {l:List Tok}(h:Rdr S w b l)(o:Obj)(hS:∀g,S g->g<w.heap.size):Rdr S (w.alloc o) b l :=
 h.below ((Below.refl _ w).alloc (Nat.le_refl _) o) hS
def hd(l:List Tok):Tok:=l.headD ⟨0,[],0⟩
def tokA(t:Tok):Value:=.agg #[.int .i64 (t.kind:Nat),.string ⟨t.text.toArray⟩,.int .i64 (t.at_:Nat)]
set_option maxHeartbeats 400000 in
theorem tc_next(S:Nat->Prop)(b:Nat)(l:List Tok)(w:World)(h:Rdr S w b l)(hl:l.length<=100000) :
  Calls Tryz.prog 172 #[.pointer (some ⟨b,0,none⟩)] w λe w'=>e=.returned (tokA (hd l))/\Below w.heap.size w w':=by
 obtain⟨v,hb,ht⟩:=h
 have hbl:=hb.lt
 have f0:=hb.cell 0
 cases l with
 | nil =>
  obtain⟨A,c,rfl,hc,-⟩:=ht
  clear hb hc hl
  replace f0:w.cell? ⟨b,0,none⟩=some (.slice A 0 c):=f0
  go_enter Tryz.func172,Tryz.ntmps172
  go_wp2
  exact bodyPost_ret (results_cell_row rfl _ _ w.heap.size 152 _ (0,0) _ rfl (heap_alloc_new _ _) Tryz.underlying152 rfl (by kernel_rfl)) rfl ⟨rfl,(Below.refl _ w).alloc (Nat.le_refl _) _⟩
 | cons t r =>
  obtain⟨g,o,c,rfl,hc,hg,c0,c1,c2,-⟩:=ht.head
  obtain⟨n,hn⟩:∃n,r.length=n:=⟨_,rfl⟩
  rw[List.length_cons]at hl
  rw[hn]at f0 hl
  replace f0:w.cell? ⟨b,0,none⟩=some (.slice (some ⟨g,o,none⟩) (n+1) c):=f0
  have hz:((n:Int)+1==0)=false:=by rw[Bool.eq_false_iff];intro e;simp at e;omega
  have hgl:=lt_cell c0
  clear hb hc ht hn hg
  go_enter Tryz.func172,Tryz.ntmps172
  go_wp2
  exact bodyPost_ret (results_cell_row rfl _ _ w.heap.size 152 _ (0,0) _ rfl (heap_alloc_new _ _) Tryz.underlying152 rfl (by kernel_rfl)) rfl ⟨rfl,(Below.refl _ w).alloc (Nat.le_refl _) _⟩
def isHd(l:List Tok)(k:Nat)(X:List UInt8):Bool:=(hd l).kind==k &&(hd l).text==X
set_option maxHeartbeats 400000 in
theorem tc_at(S:Nat->Prop)(b:Nat)(l:List Tok)(k:Nat)(K:Int)(hK:K=k)(X:ByteArray)(w:World)(h:Rdr S w b l)(hl:l.length<=100000) :
  Calls Tryz.prog 168 #[.pointer (some ⟨b,0,none⟩),.int .i64 K,.string X] w λe w'=>e=.returned (.bool (isHd l k X.data.toList))/\Below w.heap.size w w':=by
 subst hK
 have HC:=tc_next S b l w h hl
 unfold isHd
 unfold tokA at HC
 obtain⟨m,hm⟩:∃m,(hd l).kind=m:=⟨_,rfl⟩
 obtain⟨T,hT⟩:∃T:ByteArray,⟨(hd l).text.toArray⟩=T:=⟨_,rfl⟩
 have hT':(hd l).text=T.data.toList:=by rw[<-hT]
 obtain⟨R,hR⟩:∃R,((hd l).kind==k &&(hd l).text==X.data.toList)=R:=⟨_,rfl⟩
 rw[hR]
 rw[hm,hT']at hR
 rw[hm,hT]at HC
 obtain⟨a,ha⟩:∃a,(hd l).at_=a:=⟨_,rfl⟩
 rw[ha]at HC
 clear hT hT' hm ha
 have hbl:=h.lt
 clear h hl
 by_cases hk:m=k
 ·have d1:((m:Int) ==(k:Int))=true:=by rw[hk];simp
  by_cases hx:T.data.toList=X.data.toList
  ·have d2:(T.toList==X.toList)=true:=by rw[Lib.toList_data,Lib.toList_data,hx];simp
   have hr:=hidE (show R=true by rw[<-hR,hk,hx];simp)
   clear hk hx hR
   go_enter Tryz.func168,Tryz.ntmps168
   go_wp2_with (go_at_call 172;refine HC.mono ?_;rintro e w1 ⟨rfl,b1⟩)
   go_ret
   exact⟨ret_bool hr.out.symm,b1.alloc b1.size _⟩
  ·have d2:(T.toList==X.toList)=false:=by rw[Lib.toList_data,Lib.toList_data];exact beq_eq_false_iff_ne.2 hx
   have hr:=hidE (show R=false by rw[<-hR,hk,beq_eq_false_iff_ne.2 hx];simp)
   clear hk hx hR
   go_enter Tryz.func168,Tryz.ntmps168
   go_wp2_with (go_at_call 172;refine HC.mono ?_;rintro e w1 ⟨rfl,b1⟩)
   go_ret
   exact⟨ret_bool hr.out.symm,b1.alloc b1.size _⟩
 ·have d1:((m:Int) ==(k:Int))=false:=by rw[Bool.eq_false_iff];intro e;simp at e;omega
  have hr:=hidE (show R=false by rw[<-hR,beq_eq_false_iff_ne.2 hk];simp)
  clear hk hR
  go_enter Tryz.func168,Tryz.ntmps168
  go_wp2_with (go_at_call 172;refine HC.mono ?_;rintro e w1 ⟨rfl,b1⟩)
  go_ret
  exact⟨ret_bool hr.out.symm,b1.alloc b1.size _⟩
def only(b:Nat):Nat->Prop:=λk=>k=b
theorem rdr_set(S:Nat->Prop)(w:World)(b:Nat)(v u:Value)(l:List Tok)(hb:Blk w b 172 #[v])(ht:Toks S w u l)(hS:∀g,S g->g≠b):Rdr S (w.setCell ⟨b,0,none⟩ u) b l :=
 ⟨u,heap_setCell_same _ b 0 _ _ u hb,ht.keep (λg hg=>Below.heap_setCell w _ u g (hS g hg))⟩
def took(l:List Tok)(k:Nat)(X:List UInt8):List Tok:=if isHd l k X=true then l.tail else l
set_option maxHeartbeats 1600000 in
theorem tc_take(S:Nat->Prop)(b:Nat)(l:List Tok)(k:Nat)(K:Int)(hK:K=k)(X:ByteArray)(w:World)(h:Rdr S w b l)(hS:∀g,S g->g≠b/\g<w.heap.size)(hl:l.length<=100000)(hk0:k≠0) :
  Calls Tryz.prog 136 #[.pointer (some ⟨b,0,none⟩),.int .i64 K,.string X] w λe w'=>e=.returned (.bool (isHd l k X.data.toList))/\Rdr S w' b (took l k X.data.toList)/\Chg (only b) w w':=by
 subst hK
 have HC:=tc_at S b l k k rfl X w h hl
 obtain⟨q,hq⟩:∃q,isHd l k X.data.toList=q:=⟨_,rfl⟩
 unfold took
 rw[hq]at HC ⊢
 cases q with
 | true =>
  cases l with
  | nil=>exfalso;simp[isHd,hd]at hq;exact hk0 hq.1.symm
  | cons t r =>
   simp only[if_true,List.tail_cons]
   have HH:=hidE h
   have HS:=hidE hS
   obtain⟨n,hn⟩:∃n,r.length=n:=⟨_,rfl⟩
   have HN:=hidE hn
   rw[List.length_cons,hn]at hl
   clear h hS hq hk0 hn
   go_enter Tryz.func136,Tryz.ntmps136
   go_wp2_with fail
   refine HC.mono ?_
   rintro e w1 ⟨rfl,b1⟩
   obtain⟨v,hb,ht⟩:=HH.out.below b1 (λg hg=>(HS.out g hg).2)
   have hbl:=hb.lt
   have f0:=hb.cell 0
   have f1:=hb.frozen 0
   obtain⟨g,o,c,rfl,hc,hg,c0,c1,c2,hrest⟩:=ht.head
   replace f0:w1.cell? ⟨b,0,none⟩=some (.slice (some ⟨g,o,none⟩) (r.length+1) c):=f0
   have HB:=hidE hb
   have HR:=hidE hrest
   have B1:=hidE b1
   rw[HN.out]at hc f0
   clear hb ht hg hrest b1 c0 c1 c2 HC
   by_cases hc1:c=1
   ·obtain rfl:n=0:=by omega
    subst hc1
    go_wp2_with fail
    go_ret
    have h1:=HR.out (some ⟨g,o,none⟩) (λh0=>by rw[HN.out]at h0;omega)
    rw[HN.out]at h1
    exact⟨rfl,rdr_set S w1 b _ _ r HB.out h1 (λg hg=>(HS.out g hg).1),(Chg.of_below (M:=only b) B1.out).setCell (p:=⟨b,0,none⟩) (.inr rfl) _⟩
   ·have hc2:2<=c:=by omega
    go_wp2_with fail
    go_ret
    have h1:=HR.out (some ⟨g,o+3,none⟩) (λ_=>rfl)
    rw[HN.out]at h1
    exact⟨rfl,rdr_set S w1 b _ _ r HB.out h1 (λg hg=>(HS.out g hg).1),(Chg.of_below (M:=only b) B1.out).setCell (p:=⟨b,0,none⟩) (.inr rfl) _⟩
 | false =>
  simp only[Bool.false_eq_true,if_false]
  have HH:=hidE h
  have HS:=hidE hS
  clear h hS hl hq hk0
  go_enter Tryz.func136,Tryz.ntmps136
  go_wp2_with (go_at_call 168;refine HC.mono ?_;rintro e w1 ⟨rfl,b1⟩)
  go_ret
  exact⟨rfl,HH.out.below b1 (λg hg=>(HS.out g hg).2),Chg.of_below b1⟩
def anyT(l:List Tok)(k:Nat):ByteArray:=if(hd l).kind=k then⟨(hd l).text.toArray⟩ else⟨#[]⟩
def anyR(l:List Tok)(k:Nat):List Tok:=if(hd l).kind=k then l.tail else l
theorem run_kind(k a:Int)(X:ByteArray)(w:World):(Instr.field 152 (.agg #[.int .i64 k,.string X,.int .i64 a]) 0).run Tryz.prog w=.ok (.int .i64 k) w:=by kernel_rfl
set_option maxHeartbeats 1600000 in
theorem tc_takeAny(S:Nat->Prop)(b:Nat)(l:List Tok)(k:Nat)(K:Int)(hK:K=k)(w:World)(h:Rdr S w b l)(hS:∀g,S g->g≠b/\g<w.heap.size)(hl:l.length<=100000)(hk0:k≠0) :
  Calls Tryz.prog 162 #[.pointer (some ⟨b,0,none⟩),.int .i64 K] w λe w'=>e=.returned (.tuple #[.string (anyT l k),.bool ((hd l).kind==k)])/\Rdr S w' b (anyR l k)/\Chg (only b) w w':=by
 subst hK
 have hN:=tc_next S b l w h hl
 unfold tokA at hN
 obtain⟨m,hm⟩:∃m,(hd l).kind=m:=⟨_,rfl⟩
 obtain⟨X,hX⟩:∃X:ByteArray,⟨(hd l).text.toArray⟩=X:=⟨_,rfl⟩
 obtain⟨a,ha⟩:∃a,(hd l).at_=a:=⟨_,rfl⟩
 rw[hm,hX,ha]at hN
 have HH:=hidE h
 have HS:=hidE hS
 by_cases hk:m=k
 ·subst hk
  have e1:anyT l m=X:=by unfold anyT;rw[if_pos hm,hX]
  have e2:anyR l m=l.tail:=by unfold anyR;rw[if_pos hm]
  have e3:((hd l).kind==m)=true:=by rw[hm];simp
  have hq:isHd l m X.data.toList=true:=by unfold isHd;rw[hm,<-hX];simp
  rw[e1,e2,e3]
  have HT:Hid (∀W,Rdr S W b l->(∀g,S g->g≠b/\g<W.heap.size)->Calls Tryz.prog 136 #[.pointer (some ⟨b,0,none⟩),.int .i64 (m:Nat),.string X] W λe w'=>e=.returned (.bool true)/\Rdr S w' b l.tail/\Chg (only b) W w'):=hidE λW hr hs=>by
   have:=tc_take S b l m m rfl X W hr hs hl hk0
   rw[took,hq,if_pos rfl]at this
   exact this
  obtain⟨L,hL⟩:∃L,l.tail=L:=⟨_,rfl⟩
  rw[hL]at HT ⊢
  have d1:((m:Int) ==(m:Int))=true:=by simp
  have d2:((m:Int) !=(m:Int))=false:=by simp
  clear hm hX ha e1 e2 e3 hq hL h hS
  go_enter Tryz.func162,Tryz.ntmps162
  go_wp2_with fail
  refine hN.mono ?_
  rintro e w1 ⟨rfl,b1⟩
  obtain⟨V,hV⟩:∃V,w1.alloc (.cells #[.int .i64 (m:Nat),.string X,.int .i64 (a:Nat)] 152)=V:=⟨_,rfl⟩
  have hbk:Blk V w1.heap.size 152 #[.int .i64 (m:Nat),.string X,.int .i64 (a:Nat)]:=hV▸heap_alloc_new _ _
  have hvs:V.heap.size=w1.heap.size+1:=by rw[<-hV];simp
  have hb4:Below w.heap.size w V:=hV▸b1.alloc b1.size _
  have hs1:=b1.size
  have hbl:=HH.out.lt
  have R4:Hid (Rdr S V.drew b l):=hidE (HH.out.below hb4.drew (λg hg=>(HS.out g hg).2))
  have S4:Hid (∀g,S g->g≠b/\g<V.drew.heap.size):=hidE λg hg=>⟨(HS.out g hg).1,by have:=(HS.out g hg).2;show g<V.heap.size;omega⟩
  have B4:Hid (Chg (only b) V V.drew):=hidE (Chg.refl _ _).drew
  have BW:=hidE hb4
  have SOF:Hid (∀W,Chg (only b) V W->W.cell? ⟨w1.heap.size,1,none⟩=some (.string X)):=hidE λW hW=>(hbk.chg hW (by unfold only;omega)).cell 1
  have x0:=hbk.cell 0
  have x1:=hbk.cell 1
  replace x0:V.cell? ⟨w1.heap.size,0,none⟩=some (.int .i64 (m:Nat)):=x0
  replace x1:V.cell? ⟨w1.heap.size,1,none⟩=some (.string X):=x1
  clear hbk hvs hb4 hN b1
  go_upto_region 2 with fail
  try rw[hV]
  clear hV
  go_upto_region 4 with fail
  go_region_held3 (λW=>W.cell? ⟨w1.heap.size,1,none⟩=some (.string X)) (first|(with_reducible exact SOF.out _ B4.out)|(with_reducible exact SOF.out _ B5.out)) (((with_reducible refine(HT.out _ R4.out S4.out).mono ?_);rintro e w5 ⟨rfl,r5,b5⟩;have B5:=hidE (B4.out.trans b5);have R5:=hidE r5;clear b5 r5))
  all_goals
   go_wp2_with fail
   go_ret2
   exact⟨rfl,R5.out,(Chg.of_below BW.out).trans B5.out⟩
 ·have e1:anyT l k=⟨#[]⟩:=by unfold anyT;rw[if_neg (by rw[hm];exact hk)]
  have e2:anyR l k=l:=by unfold anyR;rw[if_neg (by rw[hm];exact hk)]
  have e3:((hd l).kind==k)=false:=by rw[hm];exact beq_eq_false_iff_ne.2 hk
  rw[e1,e2,e3]
  have d1:((m:Int) ==(k:Int))=false:=kF m k hk
  have d2:((m:Int) !=(k:Int))=true:=by simp only[bne,d1,Bool.not_false]
  clear hm hX ha e1 e2 e3 h hS
  go_enter Tryz.func162,Tryz.ntmps162
  go_wp2_with (go_at_call 172;refine hN.mono ?_;rintro e w1 ⟨rfl,b1⟩)
  go_ret2
  exact⟨rfl,HH.out.below (b1.alloc b1.size _) (λg hg=>(HS.out g hg).2),Chg.of_below (b1.alloc b1.size _)⟩
end Go.Proofs.YtknkclefoiohpaaGreatDoor

namespace Go.Proofs.YtknkclefoiohpaaGreatDoor
open Go.RowKit Lx Tx
set_option maxRecDepth 100000
def RdrS(S:Nat->Prop)(w:World)(b:Nat)(l:List Tok):Prop:=∃v,Blk w b 141 #[v]/\Toks S w v l
theorem RdrS.lt {S:Nat->Prop} {w:World} {b:Nat} {l:List Tok}(h:RdrS S w b l):b<w.heap.size:=by obtain⟨v,h1,_⟩:=h;exact h1.lt
theorem RdrS.keep {S:Nat->Prop} {w w':World} {b:Nat} {l:List Tok}(h:RdrS S w b l)(hb:w'.heap[b]? = w.heap[b]?)(hk:∀g,S g->w'.heap[g]? = w.heap[g]?):RdrS S w' b l:=by
 obtain⟨v,h1,h2⟩:=h
 exact⟨v,h1.same hb,h2.keep hk⟩
theorem RdrS.below {S:Nat->Prop} {w w':World} {b:Nat} {l:List Tok}(h:RdrS S w b l)(hb:Below w.heap.size w w')(hS:∀g,S g->g<w.heap.size):RdrS S w' b l :=
 h.keep (hb.block b h.lt) (λg hg=>hb.block g (hS g hg))
theorem RdrS.alloc {S:Nat->Prop} {w:World} {b:Nat} {l:List Tok}(h:RdrS S w b l)(o:Obj)(hS:∀g,S g->g<w.heap.size):RdrS S (w.alloc o) b l :=
 h.below ((Below.refl _ w).alloc (Nat.le_refl _) o) hS
set_option maxHeartbeats 400000 in
theorem sx_next(S:Nat->Prop)(b:Nat)(l:List Tok)(w:World)(h:RdrS S w b l)(hl:l.length<=100000) :
  Calls Tryz.prog 172 #[.pointer (some ⟨b,0,none⟩)] w λe w'=>e=.returned (tokA (hd l))/\Below w.heap.size w w':=by
 obtain⟨v,hb,ht⟩:=h
 have hbl:=hb.lt
 have f0:=hb.cell 0
 cases l with
 | nil =>
  obtain⟨A,c,rfl,hc,-⟩:=ht
  clear hb hc hl
  replace f0:w.cell? ⟨b,0,none⟩=some (.slice A 0 c):=f0
  go_enter Tryz.func172,Tryz.ntmps172
  go_wp2
  exact bodyPost_ret (results_cell_row rfl _ _ w.heap.size 152 _ (0,0) _ rfl (heap_alloc_new _ _) Tryz.underlying152 rfl (by kernel_rfl)) rfl ⟨rfl,(Below.refl _ w).alloc (Nat.le_refl _) _⟩
 | cons t r =>
  obtain⟨g,o,c,rfl,hc,hg,c0,c1,c2,-⟩:=ht.head
  obtain⟨n,hn⟩:∃n,r.length=n:=⟨_,rfl⟩
  rw[List.length_cons]at hl
  rw[hn]at f0 hl
  replace f0:w.cell? ⟨b,0,none⟩=some (.slice (some ⟨g,o,none⟩) (n+1) c):=f0
  have hz:((n:Int)+1==0)=false:=by rw[Bool.eq_false_iff];intro e;simp at e;omega
  have hgl:=lt_cell c0
  clear hb hc ht hn hg
  go_enter Tryz.func172,Tryz.ntmps172
  go_wp2
  exact bodyPost_ret (results_cell_row rfl _ _ w.heap.size 152 _ (0,0) _ rfl (heap_alloc_new _ _) Tryz.underlying152 rfl (by kernel_rfl)) rfl ⟨rfl,(Below.refl _ w).alloc (Nat.le_refl _) _⟩
set_option maxHeartbeats 400000 in
theorem sx_at(S:Nat->Prop)(b:Nat)(l:List Tok)(k:Nat)(K:Int)(hK:K=k)(X:ByteArray)(w:World)(h:RdrS S w b l)(hl:l.length<=100000) :
  Calls Tryz.prog 168 #[.pointer (some ⟨b,0,none⟩),.int .i64 K,.string X] w λe w'=>e=.returned (.bool (isHd l k X.data.toList))/\Below w.heap.size w w':=by
 subst hK
 have HC:=sx_next S b l w h hl
 unfold isHd
 unfold tokA at HC
 obtain⟨m,hm⟩:∃m,(hd l).kind=m:=⟨_,rfl⟩
 obtain⟨T,hT⟩:∃T:ByteArray,⟨(hd l).text.toArray⟩=T:=⟨_,rfl⟩
 have hT':(hd l).text=T.data.toList:=by rw[<-hT]
 obtain⟨R,hR⟩:∃R,((hd l).kind==k &&(hd l).text==X.data.toList)=R:=⟨_,rfl⟩
 rw[hR]
 rw[hm,hT']at hR
 rw[hm,hT]at HC
 obtain⟨a,ha⟩:∃a,(hd l).at_=a:=⟨_,rfl⟩
 rw[ha]at HC
 clear hT hT' hm ha
 have hbl:=h.lt
 clear h hl
 by_cases hk:m=k
 ·have d1:((m:Int) ==(k:Int))=true:=by rw[hk];simp
  by_cases hx:T.data.toList=X.data.toList
  ·have d2:(T.toList==X.toList)=true:=by rw[Lib.toList_data,Lib.toList_data,hx];simp
   have hr:=hidE (show R=true by rw[<-hR,hk,hx];simp)
   clear hk hx hR
   go_enter Tryz.func168,Tryz.ntmps168
   go_wp2_with (go_at_call 172;refine HC.mono ?_;rintro e w1 ⟨rfl,b1⟩)
   go_ret
   exact⟨ret_bool hr.out.symm,b1.alloc b1.size _⟩
  ·have d2:(T.toList==X.toList)=false:=by rw[Lib.toList_data,Lib.toList_data];exact beq_eq_false_iff_ne.2 hx
   have hr:=hidE (show R=false by rw[<-hR,hk,beq_eq_false_iff_ne.2 hx];simp)
   clear hk hx hR
   go_enter Tryz.func168,Tryz.ntmps168
   go_wp2_with (go_at_call 172;refine HC.mono ?_;rintro e w1 ⟨rfl,b1⟩)
   go_ret
   exact⟨ret_bool hr.out.symm,b1.alloc b1.size _⟩
 ·have d1:((m:Int) ==(k:Int))=false:=by rw[Bool.eq_false_iff];intro e;simp at e;omega
  have hr:=hidE (show R=false by rw[<-hR,beq_eq_false_iff_ne.2 hk];simp)
  clear hk hR
  go_enter Tryz.func168,Tryz.ntmps168
  go_wp2_with (go_at_call 172;refine HC.mono ?_;rintro e w1 ⟨rfl,b1⟩)
  go_ret
  exact⟨ret_bool hr.out.symm,b1.alloc b1.size _⟩
theorem rdrS_set(S:Nat->Prop)(w:World)(b:Nat)(v u:Value)(l:List Tok)(hb:Blk w b 141 #[v])(ht:Toks S w u l)(hS:∀g,S g->g≠b):RdrS S (w.setCell ⟨b,0,none⟩ u) b l :=
 ⟨u,heap_setCell_same _ b 0 _ _ u hb,ht.keep (λg hg=>Below.heap_setCell w _ u g (hS g hg))⟩
set_option maxHeartbeats 1600000 in
theorem sx_take(S:Nat->Prop)(b:Nat)(l:List Tok)(k:Nat)(K:Int)(hK:K=k)(X:ByteArray)(w:World)(h:RdrS S w b l)(hS:∀g,S g->g≠b/\g<w.heap.size)(hl:l.length<=100000)(hk0:k≠0) :
  Calls Tryz.prog 136 #[.pointer (some ⟨b,0,none⟩),.int .i64 K,.string X] w λe w'=>e=.returned (.bool (isHd l k X.data.toList))/\RdrS S w' b (took l k X.data.toList)/\Chg (only b) w w':=by
 subst hK
 have HC:=sx_at S b l k k rfl X w h hl
 obtain⟨q,hq⟩:∃q,isHd l k X.data.toList=q:=⟨_,rfl⟩
 unfold took
 rw[hq]at HC ⊢
 cases q with
 | true =>
  cases l with
  | nil=>exfalso;simp[isHd,hd]at hq;exact hk0 hq.1.symm
  | cons t r =>
   simp only[if_true,List.tail_cons]
   have HH:=hidE h
   have HS:=hidE hS
   obtain⟨n,hn⟩:∃n,r.length=n:=⟨_,rfl⟩
   have HN:=hidE hn
   rw[List.length_cons,hn]at hl
   clear h hS hq hk0 hn
   go_enter Tryz.func136,Tryz.ntmps136
   go_wp2_with fail
   refine HC.mono ?_
   rintro e w1 ⟨rfl,b1⟩
   obtain⟨v,hb,ht⟩:=HH.out.below b1 (λg hg=>(HS.out g hg).2)
   have hbl:=hb.lt
   have f0:=hb.cell 0
   have f1:=hb.frozen 0
   obtain⟨g,o,c,rfl,hc,hg,c0,c1,c2,hrest⟩:=ht.head
   replace f0:w1.cell? ⟨b,0,none⟩=some (.slice (some ⟨g,o,none⟩) (r.length+1) c):=f0
   have HB:=hidE hb
   have HR:=hidE hrest
   have B1:=hidE b1
   rw[HN.out]at hc f0
   clear hb ht hg hrest b1 c0 c1 c2 HC
   by_cases hc1:c=1
   ·obtain rfl:n=0:=by omega
    subst hc1
    go_wp2_with fail
    go_ret
    have h1:=HR.out (some ⟨g,o,none⟩) (λh0=>by rw[HN.out]at h0;omega)
    rw[HN.out]at h1
    exact⟨rfl,rdrS_set S w1 b _ _ r HB.out h1 (λg hg=>(HS.out g hg).1),(Chg.of_below (M:=only b) B1.out).setCell (p:=⟨b,0,none⟩) (.inr rfl) _⟩
   ·have hc2:2<=c:=by omega
    go_wp2_with fail
    go_ret
    have h1:=HR.out (some ⟨g,o+3,none⟩) (λ_=>rfl)
    rw[HN.out]at h1
    exact⟨rfl,rdrS_set S w1 b _ _ r HB.out h1 (λg hg=>(HS.out g hg).1),(Chg.of_below (M:=only b) B1.out).setCell (p:=⟨b,0,none⟩) (.inr rfl) _⟩
 | false =>
  simp only[Bool.false_eq_true,if_false]
  have HH:=hidE h
  have HS:=hidE hS
  clear h hS hl hq hk0
  go_enter Tryz.func136,Tryz.ntmps136
  go_wp2_with (go_at_call 168;refine HC.mono ?_;rintro e w1 ⟨rfl,b1⟩)
  go_ret
  exact⟨rfl,HH.out.below b1 (λg hg=>(HS.out g hg).2),Chg.of_below b1⟩
set_option maxHeartbeats 1600000 in
theorem sx_takeAny(S:Nat->Prop)(b:Nat)(l:List Tok)(k:Nat)(K:Int)(hK:K=k)(w:World)(h:RdrS S w b l)(hS:∀g,S g->g≠b/\g<w.heap.size)(hl:l.length<=100000)(hk0:k≠0) :
  Calls Tryz.prog 162 #[.pointer (some ⟨b,0,none⟩),.int .i64 K] w λe w'=>e=.returned (.tuple #[.string (anyT l k),.bool ((hd l).kind==k)])/\RdrS S w' b (anyR l k)/\Chg (only b) w w':=by
 subst hK
 have hN:=sx_next S b l w h hl
 unfold tokA at hN
 obtain⟨m,hm⟩:∃m,(hd l).kind=m:=⟨_,rfl⟩
 obtain⟨X,hX⟩:∃X:ByteArray,⟨(hd l).text.toArray⟩=X:=⟨_,rfl⟩
 obtain⟨a,ha⟩:∃a,(hd l).at_=a:=⟨_,rfl⟩
 rw[hm,hX,ha]at hN
 have HH:=hidE h
 have HS:=hidE hS
 by_cases hk:m=k
 ·subst hk
  have e1:anyT l m=X:=by unfold anyT;rw[if_pos hm,hX]
  have e2:anyR l m=l.tail:=by unfold anyR;rw[if_pos hm]
  have e3:((hd l).kind==m)=true:=by rw[hm];simp
  have hq:isHd l m X.data.toList=true:=by unfold isHd;rw[hm,<-hX];simp
  rw[e1,e2,e3]
  have HT:Hid (∀W,RdrS S W b l->(∀g,S g->g≠b/\g<W.heap.size)->Calls Tryz.prog 136 #[.pointer (some ⟨b,0,none⟩),.int .i64 (m:Nat),.string X] W λe w'=>e=.returned (.bool true)/\RdrS S w' b l.tail/\Chg (only b) W w'):=hidE λW hr hs=>by
   have:=sx_take S b l m m rfl X W hr hs hl hk0
   rw[took,hq,if_pos rfl]at this
   exact this
  obtain⟨L,hL⟩:∃L,l.tail=L:=⟨_,rfl⟩
  rw[hL]at HT ⊢
  have d1:((m:Int) ==(m:Int))=true:=by simp
  have d2:((m:Int) !=(m:Int))=false:=by simp
  clear hm hX ha e1 e2 e3 hq hL h hS
  go_enter Tryz.func162,Tryz.ntmps162
  go_wp2_with fail
  refine hN.mono ?_
  rintro e w1 ⟨rfl,b1⟩
  obtain⟨V,hV⟩:∃V,w1.alloc (.cells #[.int .i64 (m:Nat),.string X,.int .i64 (a:Nat)] 152)=V:=⟨_,rfl⟩
  have hbk:Blk V w1.heap.size 152 #[.int .i64 (m:Nat),.string X,.int .i64 (a:Nat)]:=hV▸heap_alloc_new _ _
  have hvs:V.heap.size=w1.heap.size+1:=by rw[<-hV];simp
  have hb4:Below w.heap.size w V:=hV▸b1.alloc b1.size _
  have hs1:=b1.size
  have hbl:=HH.out.lt
  have R4:Hid (RdrS S V.drew b l):=hidE (HH.out.below hb4.drew (λg hg=>(HS.out g hg).2))
  have S4:Hid (∀g,S g->g≠b/\g<V.drew.heap.size):=hidE λg hg=>⟨(HS.out g hg).1,by have:=(HS.out g hg).2;show g<V.heap.size;omega⟩
  have B4:Hid (Chg (only b) V V.drew):=hidE (Chg.refl _ _).drew
  have BW:=hidE hb4
  have SOF:Hid (∀W,Chg (only b) V W->W.cell? ⟨w1.heap.size,1,none⟩=some (.string X)):=hidE λW hW=>(hbk.chg hW (by unfold only;omega)).cell 1
  have x0:=hbk.cell 0
  have x1:=hbk.cell 1
  replace x0:V.cell? ⟨w1.heap.size,0,none⟩=some (.int .i64 (m:Nat)):=x0
  replace x1:V.cell? ⟨w1.heap.size,1,none⟩=some (.string X):=x1
  clear hbk hvs hb4 hN b1
  go_upto_region 2 with fail
  try rw[hV]
  clear hV
  go_upto_region 4 with fail
  go_region_held3 (λW=>W.cell? ⟨w1.heap.size,1,none⟩=some (.string X)) (first|(with_reducible exact SOF.out _ B4.out)|(with_reducible exact SOF.out _ B5.out)) (((with_reducible refine(HT.out _ R4.out S4.out).mono ?_);rintro e w5 ⟨rfl,r5,b5⟩;have B5:=hidE (B4.out.trans b5);have R5:=hidE r5;clear b5 r5))
  all_goals
   go_wp2_with fail
   go_ret2
   exact⟨rfl,R5.out,(Chg.of_below BW.out).trans B5.out⟩
 ·have e1:anyT l k=⟨#[]⟩:=by unfold anyT;rw[if_neg (by rw[hm];exact hk)]
  have e2:anyR l k=l:=by unfold anyR;rw[if_neg (by rw[hm];exact hk)]
  have e3:((hd l).kind==k)=false:=by rw[hm];exact beq_eq_false_iff_ne.2 hk
  rw[e1,e2,e3]
  have d1:((m:Int) ==(k:Int))=false:=kF m k hk
  have d2:((m:Int) !=(k:Int))=true:=by simp only[bne,d1,Bool.not_false]
  clear hm hX ha e1 e2 e3 h hS
  go_enter Tryz.func162,Tryz.ntmps162
  go_wp2_with (go_at_call 172;refine hN.mono ?_;rintro e w1 ⟨rfl,b1⟩)
  go_ret2
  exact⟨rfl,HH.out.below (b1.alloc b1.size _) (λg hg=>(HS.out g hg).2),Chg.of_below (b1.alloc b1.size _)⟩
end Go.Proofs.YtknkclefoiohpaaGreatDoor

namespace Go.Proofs.YtknkclefoiohpaaGreatDoor
open Go.RowKit Lx Tx
set_option maxRecDepth 100000
theorem eat_isHd(k:Nat)(hk:k≠0)(X:List UInt8)(l:List Tok):eat (λt=>t.kind==k&&t.text==X) l=if isHd l k X=true then some l.tail else none:=by
 cases l with
 | nil =>
  have:isHd [] k X=false:=by
   unfold isHd hd
   have:((0:Nat)==k)=false:=by simp;omega
   simp[this]
  rw[this];rfl
 | cons t r=>rfl
theorem tok1_any(k:Nat)(hk:k≠0)(l:List Tok):Sx.tok1 k l=if(hd l).kind=k then some ((hd l).text,l.tail) else none:=by
 cases l with
 | nil=>rw[Sx.tok1,if_neg];exact λe=>hk e.symm
 | cons t r=>rfl
set_option maxHeartbeats 400000 in
theorem sx_sign(S:Nat->Prop)(b:Nat)(l:List Tok)(X:ByteArray)(w:World)(h:RdrS S w b l)(hS:∀g,S g->g≠b/\g<w.heap.size)(hl:l.length<=100000) :
  Calls Tryz.prog 93 #[.pointer (some ⟨b,0,none⟩),.string X] w λe w'=>e=.returned (.bool (isHd l 6 X.data.toList))/\RdrS S w' b (took l 6 X.data.toList)/\Chg (only b) w w':=by
 have HT:=sx_take S b l 6 6 rfl X w h hS hl (by decide)
 have hbl:=h.lt
 clear h hS hl
 go_enter Tryz.func93,Tryz.ntmps93
 go_wp2_with fail
 refine HT.mono ?_
 rintro e w1 ⟨rfl,r1,b1⟩
 go_wp2_with fail
 go_ret
 exact⟨rfl,r1,b1⟩
set_option maxHeartbeats 400000 in
theorem sx_word(S:Nat->Prop)(b:Nat)(l:List Tok)(X:ByteArray)(w:World)(h:RdrS S w b l)(hS:∀g,S g->g≠b/\g<w.heap.size)(hl:l.length<=100000) :
  Calls Tryz.prog 95 #[.pointer (some ⟨b,0,none⟩),.string X] w λe w'=>e=.returned (.bool (isHd l 3 X.data.toList))/\RdrS S w' b (took l 3 X.data.toList)/\Chg (only b) w w':=by
 have HT:=sx_take S b l 3 3 rfl X w h hS hl (by decide)
 have hbl:=h.lt
 clear h hS hl
 go_enter Tryz.func95,Tryz.ntmps95
 go_wp2_with fail
 refine HT.mono ?_
 rintro e w1 ⟨rfl,r1,b1⟩
 go_wp2_with fail
 go_ret
 exact⟨rfl,r1,b1⟩
set_option maxHeartbeats 400000 in
theorem sx_variable(S:Nat->Prop)(b:Nat)(l:List Tok)(w:World)(h:RdrS S w b l)(hS:∀g,S g->g≠b/\g<w.heap.size)(hl:l.length<=100000) :
  Calls Tryz.prog 127 #[.pointer (some ⟨b,0,none⟩)] w λe w'=>e=.returned (.tuple #[.string (anyT l 1),.bool ((hd l).kind==1)])/\RdrS S w' b (anyR l 1)/\Chg (only b) w w':=by
 have HT:=sx_takeAny S b l 1 1 rfl w h hS hl (by decide)
 have hbl:=h.lt
 clear h hS hl
 go_enter Tryz.func127,Tryz.ntmps127
 go_wp2_with fail
 refine HT.mono ?_
 rintro e w1 ⟨rfl,r1,b1⟩
 go_wp2_with fail
 go_ret2
 exact⟨rfl,r1,b1⟩
set_option maxHeartbeats 400000 in
theorem sx_atVariable(S:Nat->Prop)(b:Nat)(l:List Tok)(w:World)(h:RdrS S w b l)(hl:l.length<=100000) :
  Calls Tryz.prog 171 #[.pointer (some ⟨b,0,none⟩)] w λe w'=>e=.returned (.bool ((hd l).kind==1))/\Below w.heap.size w w':=by
 have HT:=sx_next S b l w h hl
 unfold tokA at HT
 obtain⟨m,hm⟩:∃m,(hd l).kind=m:=⟨_,rfl⟩
 obtain⟨X,hX⟩:∃X:ByteArray,⟨(hd l).text.toArray⟩=X:=⟨_,rfl⟩
 obtain⟨a,ha⟩:∃a,(hd l).at_=a:=⟨_,rfl⟩
 rw[hm,hX,ha]at HT
 rw[hm]
 have hfl:=run_kind
 have hbl:=h.lt
 clear h hl hm hX ha
 by_cases k1:m=1
 ·subst k1
  go_enter Tryz.func171,Tryz.ntmps171
  go_wp2_with fail
  refine HT.mono ?_
  rintro e w1 ⟨rfl,b1⟩
  go_wp2_with fail
  go_ret
  exact⟨rfl,b1⟩
 ·have d1:=neq_int m 1 1 rfl k1
  have n1:=hidE (beq_eq_false_iff_ne.2 k1)
  clear k1
  go_enter Tryz.func171,Tryz.ntmps171
  go_wp2_with fail
  refine HT.mono ?_
  rintro e w1 ⟨rfl,b1⟩
  go_wp2_with fail
  go_ret
  exact⟨ret_bool n1.out.symm,b1⟩
def atomEB:List Tok->Bool
 | []=>false
 | t::_=>Sx.atomE t
theorem atomEB_eq(l:List Tok):atomEB l=((hd l).kind==1 ||(hd l).kind==2||isHd l 6 [40]):=by
 cases l <;> rfl
set_option maxHeartbeats 800000 in
theorem sx_atAtom(S:Nat->Prop)(b:Nat)(l:List Tok)(w:World)(h:RdrS S w b l)(hS:∀g,S g->g<w.heap.size)(hl:l.length<=100000) :
  Calls Tryz.prog 141 #[.pointer (some ⟨b,0,none⟩)] w λe w'=>e=.returned (.bool (atomEB l))/\Below w.heap.size w w':=by
 have HV:=hidE (sx_atVariable S b l w h hl)
 have HN:Hid (∀w1,Below w.heap.size w w1->Calls Tryz.prog 172 #[.pointer (some ⟨b,0,none⟩)] w1 λe w'=>e=.returned (tokA (hd l))/\Below w1.heap.size w1 w') :=
  hidE λw1 b1=>sx_next S b l w1 (h.below b1 hS) hl
 have HA:Hid (∀w1,Below w.heap.size w w1->Calls Tryz.prog 168 #[.pointer (some ⟨b,0,none⟩),.int .i64 6,.string ⟨#[40]⟩] w1 λe w'=>e=.returned (.bool (isHd l 6 [40]))/\Below w1.heap.size w1 w') :=
  hidE λw1 b1=>sx_at S b l 6 6 rfl ⟨#[40]⟩ w1 (h.below b1 hS) hl
 have hbl:=h.lt
 unfold tokA at HN
 rw[atomEB_eq]
 obtain⟨m,hm⟩:∃m,(hd l).kind=m:=⟨_,rfl⟩
 obtain⟨X,hX⟩:∃X:ByteArray,⟨(hd l).text.toArray⟩=X:=⟨_,rfl⟩
 obtain⟨a,ha⟩:∃a,(hd l).at_=a:=⟨_,rfl⟩
 obtain⟨q,hq⟩:∃q,isHd l 6 [40]=q:=⟨_,rfl⟩
 rw[hm,hX,ha]at HN
 rw[hq]at HA
 rw[hm]at HV
 rw[hm,hq]
 have hfl:=run_kind
 clear h hS hl hm hX ha hq
 by_cases k1:m=1
 ·subst k1
  go_enter Tryz.func141,Tryz.ntmps141
  go_wp2_with fail
  refine HV.out.mono ?_
  rintro e w1 ⟨rfl,b1⟩
  go_wp2_with fail
  go_ret
  exact⟨rfl,b1⟩
 ·have n1:=beq_eq_false_iff_ne.2 k1
  rw[n1]at HV ⊢
  by_cases k2:m=2
  ·subst k2
   clear n1 k1
   go_enter Tryz.func141,Tryz.ntmps141
   go_wp2_with fail
   refine HV.out.mono ?_
   rintro e w1 ⟨rfl,b1⟩
   have B1:=hidE b1
   clear b1
   go_wp2_with fail
   refine(HN.out w1 B1.out).mono ?_
   rintro e w2 ⟨rfl,b2⟩
   go_wp2_with fail
   go_ret
   exact⟨rfl,B1.out.trans (b2.mono B1.out.size)⟩
  ·have d2:=neq_int m 2 2 rfl k2
   have n2:=beq_eq_false_iff_ne.2 k2
   rw[n2]
   clear n1 n2 k1 k2
   go_enter Tryz.func141,Tryz.ntmps141
   go_wp2_with fail
   refine HV.out.mono ?_
   rintro e w1 ⟨rfl,b1⟩
   have B1:=hidE b1
   clear b1
   go_wp2_with fail
   refine(HN.out w1 B1.out).mono ?_
   rintro e w2 ⟨rfl,b2⟩
   have B2:=hidE (B1.out.trans (b2.mono B1.out.size))
   clear b2
   go_wp2_with fail
   refine(HA.out w2 B2.out).mono ?_
   rintro e w3 ⟨rfl,b3⟩
   go_wp2_with fail
   go_ret
   exact⟨rfl,B2.out.trans (b3.mono B2.out.size)⟩
end Go.Proofs.YtknkclefoiohpaaGreatDoor

namespace Go.Proofs.YtknkclefoiohpaaGreatDoor
open Go.RowKit Lx Tx
set_option maxRecDepth 100000
namespace Sx
theorem tyC_shape(t:Option Ty)(A:Option Addr)(c:Nat):∃(K:Int)(X:ByteArray)(Z:Int)(B:Option Addr)(m q:Nat),tyC t A c=[.int .i64 K,.string X,.int .i64 Z,.slice B m q]:=by
 cases t with
 | none=>exact⟨_,_,_,_,_,_,rfl⟩
 | some t=>exact⟨_,_,_,_,_,_,rfl⟩
theorem RdX.shape {S:Nat->Prop} {w:World} {e:Ex} {v:Value}(h:RdX S w e v):∃(K:Int)(X:ByteArray)(Z:Int)(B:Option Addr)(m q:Nat)(KA:Option Addr)(kc:Nat)(LA:Option Addr)(lc:Nat),
  v=.agg #[.int .i64 (kdE e:Nat),.string ⟨(nmE e).toArray⟩,.bool (toE e),.int .i64 K,.string X,.int .i64 Z,.slice B m q,.slice KA (kidsE e).length kc,.slice LA (altsE e).length lc]/\ExIn S w e KA LA:=by
 obtain⟨P,rfl,_,h⟩:=h
 obtain⟨K,X,Z,B,m,q,hs⟩:=tyC_shape (tyE e) P.A P.a
 exact⟨K,X,Z,B,m,q,P.K,_,P.L,P.l,by rw[exC,hs];rfl,h⟩
theorem ExAt.cells {S:Nat->Prop} {w:World} {e:Ex} {g o:Nat}(h:ExAt S w e g o):∃(k:Int)(x:ByteArray)(t:Bool)(K:Int)(X:ByteArray)(Z:Int)(B:Option Addr)(m q:Nat)(KA:Option Addr)(kn kc:Nat)(LA:Option Addr)(ln lc:Nat),
  w.cell? ⟨g,o,none⟩=some (.int .i64 k)/\w.cell? ⟨g,o+1,none⟩=some (.string x)/\w.cell? ⟨g,o+2,none⟩=some (.bool t)/\w.cell? ⟨g,o+3,none⟩=some (.int .i64 K)/\w.cell? ⟨g,o+4,none⟩=some (.string X) /\
   w.cell? ⟨g,o+5,none⟩=some (.int .i64 Z)/\w.cell? ⟨g,o+6,none⟩=some (.slice B m q)/\w.cell? ⟨g,o+7,none⟩=some (.slice KA kn kc)/\w.cell? ⟨g,o+8,none⟩=some (.slice LA ln lc) /\
   RdX S w e (.agg #[.int .i64 k,.string x,.bool t,.int .i64 K,.string X,.int .i64 Z,.slice B m q,.slice KA kn kc,.slice LA ln lc]):=by
 obtain⟨P,h1,h2,h3⟩:=h
 obtain⟨K,X,Z,B,m,q,hs⟩:=tyC_shape (tyE e) P.A P.a
 have hL:exC e P=[.int .i64 (kdE e:Nat),.string ⟨(nmE e).toArray⟩,.bool (toE e),.int .i64 K,.string X,.int .i64 Z,.slice B m q,.slice P.K (kidsE e).length ((kidsE e).length+P.k),.slice P.L (altsE e).length P.l]:=by rw[exC,hs];rfl
 rw[hL]at h1
 exact⟨_,_,_,K,X,Z,B,m,q,P.K,_,_,P.L,_,P.l,h1 0 _ rfl,h1 1 _ rfl,h1 2 _ rfl,h1 3 _ rfl,h1 4 _ rfl,h1 5 _ rfl,h1 6 _ rfl,h1 7 _ rfl,h1 8 _ rfl,P,by rw[hL],h2,h3⟩
theorem ExIn.kid {S:Nat->Prop} {w:World} {e:Ex} {K L:Option Addr}(h:ExIn S w e K L)(i:Nat)(x:Ex)(hx:(kidsE e)[i]? = some x):∃g,K=some ⟨g,0,none⟩/\S g/\ExAt S w x g (i*9):=by
 obtain⟨hi,rfl⟩:=List.getElem?_eq_some_iff.1 hx
 obtain⟨g,h1,h2,h3⟩:=((kids_at e K L).1 h).1 (by intro e';rw[e']at hi;simp at hi)
 have:=ExsAt.at_ _ g 0 i hi h3
 rw[Nat.zero_add]at this
 exact⟨g,h1,h2,this⟩
theorem ExIn.alt {S:Nat->Prop} {w:World} {e:Ex} {K L:Option Addr}(h:ExIn S w e K L)(i:Nat)(a:Al)(hx:(altsE e)[i]? = some a):∃g,L=some ⟨g,0,none⟩/\S g/\AlIn S w a g (i*11):=by
 obtain⟨hi,rfl⟩:=List.getElem?_eq_some_iff.1 hx
 obtain⟨g,h1,h2,h3⟩:=((kids_at e K L).1 h).2 (by intro e';rw[e']at hi;simp at hi)
 have:=AlsIn.at_ _ g 0 i hi h3
 rw[Nat.zero_add]at this
 exact⟨g,h1,h2,this⟩
theorem AlIn.cells {S:Nat->Prop} {w:World} {a:Al} {g o:Nat}(h:AlIn S w a g o):∃(x:ByteArray)(V:Option Addr)(n v:Nat),w.cell? ⟨g,o,none⟩=some (.string x)/\w.cell? ⟨g,o+1,none⟩=some (.slice V n v)/\ExAt S w (alB a) g (o+2):=by
 cases a with
 | mk c vs b =>
  rw[AlIn]at h
  obtain⟨h1,⟨V,v,h2,_⟩,h3⟩:=h
  exact⟨_,V,_,v.1,h1,h2,h3⟩
theorem parts_kid(e:Ex)(i:Nat)(x:Ex)(h:(kidsE e)[i]? = some x):(parts e)[i]? = some x:=by
 unfold parts
 rw[List.getElem?_append_left (List.getElem?_eq_some_iff.1 h).1]
 exact h
theorem parts_alt(e:Ex)(i:Nat)(a:Al)(h:(altsE e)[i]? = some a):(parts e)[(kidsE e).length+i]? = some (alB a):=by
 unfold parts
 rw[List.getElem?_append_right (by omega),Nat.add_sub_cancel_left,List.getElem?_map,h]
 rfl
theorem parts_len(e:Ex):(parts e).length=(kidsE e).length+(altsE e).length:=by unfold parts;simp
end Sx
open Sx
set_option maxHeartbeats 6400000 in
theorem sx_eachPart(e:Ex)(S M:Nat->Prop)(k:Nat)(caps:Array Value)(I:Nat->World->Prop)(v:Value)(w:World)(ec:∀args w,(callFunc k args).run Tryz.prog w=.ok (.enter k args) w)
  (hI:∀i w w',I i w->w.heap.size<=w'.heap.size->(∀g,M g->w'.heap[g]? = w.heap[g]?)->I i w')(hM:∀i w,I i w->∀g,M g->g<w.heap.size)
  (hv:RdX S w e v)(hS:∀g,S g->g<w.heap.size/\¬M g)(h0:I 0 w)(hsz:(parts e).length<=100000)
  (HV:∀i x v' w',(parts e)[i]? = some x->I i w'->RdX S w' x v'->Calls Tryz.prog k (#[v']++caps) w' λe' w''=>e'=.returned (.tuple #[])/\I (i+1) w''/\Chg M w' w'') :
  Calls Tryz.prog 47 #[v,.func (.func k) #[] caps] w λe' w'=>e'=.returned (.tuple #[])/\I (parts e).length w'/\Chg M w w':=by
 obtain⟨K,X,Z,B,m,q,KA,kc,LA,lc,rfl,hin⟩:=hv.shape
 obtain⟨kd,hkd⟩:∃x,kdE e=x:=⟨_,rfl⟩
 obtain⟨nm,hnm⟩:∃x:ByteArray,⟨(nmE e).toArray⟩=x:=⟨_,rfl⟩
 obtain⟨td,htd⟩:∃x,toE e=x:=⟨_,rfl⟩
 obtain⟨kn,hkn⟩:∃x,(kidsE e).length=x:=⟨_,rfl⟩
 obtain⟨ln,hln⟩:∃x,(altsE e).length=x:=⟨_,rfl⟩
 rw[hkd,hnm,htd,hkn,hln]
 rw[parts_len,hkn,hln]at hsz ⊢
 have HIN:=hidE hin
 have HS:=hidE hS
 have HKN:=hidE hkn
 have HLN:=hidE hln
 have HVV:=hidE HV
 have HI:=hidE hI
 have HM:=hidE hM
 have HI0:=hidE (hI 0 w (w.alloc (.cells #[.int .i64 (kd:Nat),.string nm,.bool td,.int .i64 K,.string X,.int .i64 Z,.slice B m q,.slice KA kn kc,.slice LA ln lc] 39)) h0 (by simp) (λg hg=>Below.heap_alloc _ _ _ (hM 0 w h0 g hg)))
 have hnM:¬M w.heap.size:=λh=>by have:=hM 0 w h0 w.heap.size h;omega
 have HNM:=hidE hnM
 clear hv hin hkd hnm htd hkn hln hS HV hI hM h0 hnM
 go_enter Tryz.func47,Tryz.ntmps47
 go_wp2_with fail
 obtain⟨W0,hW0⟩:∃W,w.alloc (.cells #[.int .i64 (kd:Nat),.string nm,.bool td,.int .i64 K,.string X,.int .i64 Z,.slice B m q,.slice KA kn kc,.slice LA ln lc] 39)=W:=⟨_,rfl⟩
 have hbox:Blk W0 w.heap.size 39 #[.int .i64 (kd:Nat),.string nm,.bool td,.int .i64 K,.string X,.int .i64 Z,.slice B m q,.slice KA kn kc,.slice LA ln lc]:=hW0▸heap_alloc_new _ _
 have hs0:W0.heap.size=w.heap.size+1:=by rw[<-hW0];simp
 have hc0:Chg M w W0:=hW0▸(Chg.refl M w).alloc _
 rw[hW0]at HI0 ⊢
 have HBOX:=hidE hbox
 have HC0:=hidE hc0
 have hi0:Hid (I 0 W0):=HI0
 clear hW0 hbox hc0
 go_loopg [11] kn (λgg vi wr=>∃i:Nat,gg=kn-i/\vi=.int .i64 (i:Nat)/\i<=kn/\Hid (I i wr)/\Hid (Chg M W0 wr))
 case atStart=>exact⟨0,rfl,rfl,by omega,hi0,hidE (Chg.refl M W0)⟩
 case round =>
  obtain⟨i,rfl,rfl,hi,hI1,hC1⟩:=hrel
  clear hi0
  have hsr:=hC1.out.size
  by_cases hlt:i<kn
  ·obtain⟨x,hx⟩:∃x,(kidsE e)[i]? = some x:=⟨_,List.getElem?_eq_getElem (by rw[HKN.out];exact hlt)⟩
   obtain⟨g,rfl,hSg,hat⟩:=HIN.out.kid i x hx
   have hcw:Chg M w wr:=HC0.out.trans hC1.out
   have hkeep:∀g,S g->wr.heap[g]? = w.heap[g]?:=λg hg=>hcw.block g (HS.out g hg).1 (HS.out g hg).2
   obtain⟨k1,x1,t1,K1,X1,Z1,B1,m1,q1,KA1,kn1,kc1,LA1,ln1,lc1,f0,f1,f2,f3,f4,f5,f6,f7,f8,hrd⟩:=(hat.keep (λ_ h=>h) hkeep (hkeep g hSg)).cells
   have hgl:=lt_cell f0
   have HCALL:=hidE (HVV.out i x _ (wr.alloc (.cells #[.int .i64 k1,.string x1,.bool t1,.int .i64 K1,.string X1,.int .i64 Z1,.slice B1 m1 q1,.slice KA1 kn1 kc1,.slice LA1 ln1 lc1] 39)) (parts_kid e i x hx)
    (HI.out i wr _ hI1.out (by simp) (λg hg=>Below.heap_alloc _ _ _ (HM.out i wr hI1.out g hg)))
    (hrd.keep (λ_ h=>h) (λg hg=>Below.heap_alloc _ _ _ (by have:=(HS.out g hg).1;omega))))
   clear hx hSg hat hcw hkeep hrd
   go_wp2_with fail
   refine HCALL.out.mono ?_
   rintro e' w2 ⟨rfl,i2,c2⟩
   have I2:=hidE i2
   have C2:=hidE ((hC1.out.alloc _).trans c2)
   clear i2 c2 HCALL
   go_wp2_with fail
   go_roundg (kn-(i+1))
   case measure=>omega
   case rel=>exact⟨i+1,rfl,by go_num,by omega,I2,C2⟩
  ·have hik:i=kn:=by omega
   subst hik
   obtain⟨W1,rfl⟩:∃X,X=wr:=⟨_,rfl⟩
   have hb1:=HBOX.out.chg hC1.out HNM.out
   have f8:=hb1.cell 8
   replace f8:W1.cell? ⟨w.heap.size,8,none⟩=some (.slice LA ln lc):=f8
   have hbl:=hb1.lt
   clear hb1
   go_wp2_with fail
   go_loopg [22] ln (λgg vi wx=>∃j:Nat,gg=ln-j/\vi=.int .i64 (j:Nat)/\j<=ln/\Hid (I (i+j) wx)/\Hid (Chg M W0 wx))
   case atStart=>exact⟨0,rfl,rfl,by omega,hI1,hC1⟩
   case round =>
    obtain⟨j,rfl,rfl,hj,hI2,hC2⟩:=hrel
    clear f8
    have hsr2:=hC2.out.size
    by_cases hlt2:j<ln
    ·obtain⟨x,hx⟩:∃x,(altsE e)[j]? = some x:=⟨_,List.getElem?_eq_getElem (by rw[HLN.out];exact hlt2)⟩
     obtain⟨g,rfl,hSg,hat⟩:=HIN.out.alt j x hx
     have hcw:Chg M w wr:=HC0.out.trans hC2.out
     have hkeep:∀g,S g->wr.heap[g]? = w.heap[g]?:=λg hg=>hcw.block g (HS.out g hg).1 (HS.out g hg).2
     obtain⟨xc,V,vn,vc,a0,a1,hbody⟩:=(AlIn.keep (λ_ h=>h) hkeep x g _ (hkeep g hSg) hat).cells
     obtain⟨k1,x1,t1,K1,X1,Z1,B1,m1,q1,KA1,kn1,kc1,LA1,ln1,lc1,f0,f1,f2,f3,f4,f5,f6,f7,f8,hrd⟩:=hbody.cells
     have hgl:=lt_cell f0
     have hpa:=parts_alt e j x hx
     rw[HKN.out]at hpa
     have HCALL:=hidE (HVV.out (i+j) (alB x) _ (wr.alloc (.cells #[.string xc,.slice V vn vc,.int .i64 k1,.string x1,.bool t1,.int .i64 K1,.string X1,.int .i64 Z1,.slice B1 m1 q1,.slice KA1 kn1 kc1,.slice LA1 ln1 lc1] 170)) hpa
      (HI.out (i+j) wr _ hI2.out (by simp) (λg hg=>Below.heap_alloc _ _ _ (HM.out (i+j) wr hI2.out g hg)))
      (hrd.keep (λ_ h=>h) (λg hg=>Below.heap_alloc _ _ _ (by have:=(HS.out g hg).1;omega))))
     clear hx hSg hat hcw hkeep hrd hbody hpa
     go_wp2_with fail
     refine HCALL.out.mono ?_
     rintro e' w2 ⟨rfl,i2,c2⟩
     have I2:=hidE i2
     have C2:=hidE ((hC2.out.alloc _).trans c2)
     clear i2 c2 HCALL
     go_wp2_with fail
     go_roundg (ln-(j+1))
     case measure=>omega
     case rel=>exact⟨j+1,rfl,by go_num,by omega,I2,C2⟩
    ·have hjl:j=ln:=by omega
     subst hjl
     go_wp2_with fail
     first|go_end0|refine bodyPost_ret (results_none rfl _ _ _) rfl ?_
     exact⟨rfl,hI2.out,HC0.out.trans hC2.out⟩
end Go.Proofs.YtknkclefoiohpaaGreatDoor
