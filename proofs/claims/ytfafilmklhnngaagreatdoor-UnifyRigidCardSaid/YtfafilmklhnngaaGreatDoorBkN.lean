import Derived.Test.YtfafilmklhnngaaGreatDoorBkM
import Derived.Deep.RegionHeld3
import Derived.Deep.Cut
set_option maxHeartbeats 12800000
namespace Go.Proofs.YtfafilmklhnngaaGreatDoor
open Go.RowKit Lx Tx
set_option maxRecDepth 100000
structure Chg (M:Nat->Prop) (w w':World):Prop where
 os:w'.os=w.os
 tape:w'.tape=w.tape
 output:w'.output=w.output
 size:w.heap.size<=w'.heap.size
 block:∀k,k<w.heap.size->¬M k->w'.heap[k]?=w.heap[k]?
theorem Chg.refl(M:Nat->Prop)(w:World):Chg M w w:=⟨rfl,rfl,rfl,Ai _,λ_ _ _=>rfl⟩
theorem Chg.trans' {M M1:Nat->Prop} {a b c:World}(h:Chg M a b)(k:Chg M1 b c)(hm:∀i,i<a.heap.size->M1 i->M i):Chg M a c :=
 ⟨k.os.trans h.os,k.tape.trans h.tape,k.output.trans h.output,AB h.size k.size,λi hi hn=>(k.block i (As hi h.size) (λe=>hn (hm i hi e))).trans (h.block i hi hn)⟩
theorem Chg.trans {M:Nat->Prop} {a b c:World}(h:Chg M a b)(k:Chg M b c):Chg M a c:=h.trans' k (λ_ _ e=>e)
theorem Chg.mono {M M1:Nat->Prop} {w w':World}(h:Chg M w w')(hm:∀i,i<w.heap.size->M i->M1 i):Chg M1 w w' :=
 ⟨h.os,h.tape,h.output,h.size,λi hi hn=>h.block i hi (λe=>hn (hm i hi e))⟩
theorem Chg.alloc {M:Nat->Prop} {a w:World}(h:Chg M a w)(o:Obj):Chg M a (w.alloc o) :=
 ⟨h.os,h.tape,h.output,AB h.size (by simp),λi hi hn=>(Below.heap_alloc w o i (As hi h.size)).trans (h.block i hi hn)⟩
theorem Chg.setCell {M:Nat->Prop} {a w:World}(h:Chg M a w) {p:Addr}(hp:a.heap.size<=p.block\/M p.block)(u:Value):Chg M a (w.setCell p u) :=
 have hb:Below 0 w (w.setCell p u):=(Below.refl 0 w).setCell (AV _) u;⟨hb.os.trans h.os,hb.tape.trans h.tape,hb.output.trans h.output,AB h.size hb.size,λi hi hn=>(Below.heap_setCell w p u i (λe=>by
  rcases hp with hp|hp
  ·omega
  ·exact hn (e▸hp))).trans (h.block i hi hn)⟩
theorem Chg.drewN {M:Nat->Prop} {a w:World}(h:Chg M a w)(n:Nat):Chg M a (w.drewN n):=⟨h.os,h.tape,h.output,h.size,h.block⟩
theorem Chg.drew {M:Nat->Prop} {a w:World}(h:Chg M a w):Chg M a w.drew:=⟨h.os,h.tape,h.output,h.size,h.block⟩
theorem Chg.grown {M:Nat->Prop} {a w w':World} {row:Option Nat}(h:Chg M a w)(hg:w.grownBy w' row)(hr:∀k,row=some k->a.heap.size<=k\/M k):Chg M a w' :=
 have hb:Below 0 w w':=(Below.refl 0 w).grown hg (AV _) (λ_ _=>AV _);⟨hb.os.trans h.os,hb.tape.trans h.tape,hb.output.trans h.output,AB h.size hb.size,λi hi hn=>(hg.block i (As hi h.size) (λe=>by
  rcases hr i e.symm with hp|hp
  ·omega
  ·exact hn hp)).trans (h.block i hi hn)⟩
theorem Chg.of_below {M:Nat->Prop} {w w':World}(h:Below w.heap.size w w'):Chg M w w':=⟨h.os,h.tape,h.output,h.size,λi hi _=>h.block i hi⟩
theorem Chg.below {M:Nat->Prop} {a b c:World}(h:Chg M a b)(k:Below b.heap.size b c):Chg M a c:=h.trans (Chg.of_below k)
theorem Chg.belowB {M:Nat->Prop} {a b c:World} {B:Nat}(h:Chg M a b)(k:Below B b c)(hB:a.heap.size<=B):Chg M a c :=
 ⟨k.os.trans h.os,k.tape.trans h.tape,k.output.trans h.output,AB h.size k.size,λi hi hn=>(k.block i (by omega)).trans (h.block i hi hn)⟩
theorem Chg.toBelow {M:Nat->Prop} {w w':World} {B:Nat}(h:Chg M w w')(hB:B<=w.heap.size)(hm:∀k,k<B->¬M k):Below B w w' :=
 ⟨h.os,h.tape,h.output,h.size,λi hi=>h.block i (by omega) (hm i hi)⟩
theorem Blk.same {w w':World} {g:Nat} {t:TypeId} {cs:Array Value}(h:Blk w g t cs)(he:w'.heap[g]?=w.heap[g]?):Blk w' g t cs:=he.trans h
theorem Blk.chg {M:Nat->Prop} {w w':World} {g:Nat} {t:TypeId} {cs:Array Value}(h:Blk w g t cs)(hc:Chg M w w')(hm:¬M g):Blk w' g t cs:=(hc.block g h.lt hm).trans h
def Toks(S:Nat->Prop)(w:World)(v:Value)(l:List Tok):Prop :=
 ∃A c,v=.slice A l.length c/\l.length<=c/\(0<l.length->∃g o,A=some ⟨g,o,none⟩/\S g/\∀j u,(zbf l)[j]?=some u->w.cell? ⟨g,o+j,none⟩=some u)
theorem Toks.keep {S:Nat->Prop} {w w':World} {v:Value} {l:List Tok}(h:Toks S w v l)(hk:∀g,S g->w'.heap[g]?=w.heap[g]?):Toks S w' v l:=by
 obtain⟨A,c,hv,hc,hp⟩:=h;refine⟨A,c,hv,hc,λh0=>?_⟩;obtain⟨g,o,hA,hg,au⟩:=hp h0;exact⟨g,o,hA,hg,λj u hu=>by rw[World.cell?_of_block (w:=w) (hk g hg)];exact au j u hu⟩
theorem Toks.head {S:Nat->Prop} {w:World} {v:Value} {t:Tok} {r:List Tok}(h:Toks S w v (t::r)):∃g o c,v=.slice (some ⟨g,o,none⟩) (r.length+1) c/\r.length+1<=c/\S g/\w.cell? ⟨g,o,none⟩=some (.int .i64 (t.kind:Nat))/\w.cell? ⟨g,o+1,none⟩=some (.string ⟨t.text.toArray⟩)/\w.cell? ⟨g,o+2,none⟩=some (.int .i64 (t.at_:Nat)) /\
   ∀A,(0<r.length->A=some ⟨g,o+3,none⟩)->Toks S w (.slice A r.length (c-1)) r:=by
 obtain⟨A,c,hv,hc,hp⟩:=h;obtain⟨g,o,rfl,hg,au⟩:=hp (by simp);refine⟨g,o,c,hv,hc,hg,au 0 _ rfl,au 1 _ rfl,au 2 _ rfl,λA hA=>⟨A,c-1,rfl,by simp at hc;omega,λh0=>⟨g,o+3,hA h0,hg,λj u hu=>?_⟩⟩⟩;have:=au (3+j) u (by
  show(tokV t++zbf r)[3+j]?=_;rw[AW (by show 3<=3+j;omega)]
  show(zbf r)[3+j-3]?=_;rw[Br];exact hu)
 rwa [<-BH]at this
theorem zbV {w:World} {g o:Nat} {v:Value}(h:w.cell? ⟨g,o,none⟩=some v):g<w.heap.size:=by
 refine Nat.lt_of_not_le λhl=>?_;have e:w.heap[g]?=none:=Cv hl;simp[World.cell?,e]at h
def Rdr(S:Nat->Prop)(w:World)(b:Nat)(l:List Tok):Prop:=∃v,Blk w b 171 #[v]/\Toks S w v l
theorem Rdr.lt {S:Nat->Prop} {w:World} {b:Nat} {l:List Tok}(h:Rdr S w b l):b<w.heap.size:=by obtain⟨v,h1,_⟩:=h;exact h1.lt
theorem Rdr.keep {S:Nat->Prop} {w w':World} {b:Nat} {l:List Tok}(h:Rdr S w b l)(hb:w'.heap[b]?=w.heap[b]?)(hk:∀g,S g->w'.heap[g]?=w.heap[g]?):Rdr S w' b l:=by
 obtain⟨v,h1,h2⟩:=h;exact⟨v,h1.same hb,h2.keep hk⟩
theorem Rdr.below {S:Nat->Prop} {w w':World} {b:Nat} {l:List Tok}(h:Rdr S w b l)(hb:Below w.heap.size w w')(hS:∀g,S g->g<w.heap.size):Rdr S w' b l :=
 h.keep (hb.block b h.lt) (λg hg=>hb.block g (hS g hg))
theorem Rdr.alloc {S:Nat->Prop} {w:World} {b:Nat} {l:List Tok}(h:Rdr S w b l)(o:Obj)(hS:∀g,S g->g<w.heap.size):Rdr S (w.alloc o) b l :=
 h.below ((Below.refl _ w).alloc (Ai _) o) hS
def hd(l:List Tok):Tok:=l.headD ⟨0,[],0⟩
def tokA(t:Tok):Value:=.agg #[.int .i64 (t.kind:Nat),.string ⟨t.text.toArray⟩,.int .i64 (t.at_:Nat)]
theorem zgC(S:Nat->Prop)(b:Nat)(l:List Tok)(w:World)(h:Rdr S w b l)(hl:l.length<=100000):Calls Tryz.prog 202 #[.pointer (some ⟨b,0,none⟩)] w λe w'=>e=.returned (tokA (hd l))/\Below w.heap.size w w':=by
 obtain⟨v,hb,ht⟩:=h;have bJ:=hb.lt;have f0:=hb.cell 0;cases l with
 |nil =>
  obtain⟨A,c,rfl,hc,-⟩:=ht;clear hb hc hl;replace f0:w.cell? ⟨b,0,none⟩=some (.slice A 0 c):=f0;go_enter Tryz.func202,Tryz.ntmps202
  go_wp2
  exact bodyPost_ret (results_cell_row rfl _ _ w.heap.size 176 _ (0,0) _ rfl (heap_alloc_new _ _) Tryz.underlying176 rfl (by kernel_rfl)) rfl ⟨rfl,(Below.refl _ w).alloc (Ai _) _⟩
 |cons t r =>
  obtain⟨g,o,c,rfl,hc,hg,c0,c1,c2,-⟩:=ht.head;obtain⟨n,hn⟩:∃n,r.length=n:=⟨_,rfl⟩;rw[Ao]at hl
  rw[hn]at f0 hl
  replace f0:w.cell? ⟨b,0,none⟩=some (.slice (some ⟨g,o,none⟩) (n+1) c):=f0;have hz:((n:Int)+1==0)=false:=by rw[AG];intro e;simp at e;omega
  have ik:=zbV c0;clear hb hc ht hn hg;go_enter Tryz.func202,Tryz.ntmps202
  go_wp2
  exact bodyPost_ret (results_cell_row rfl _ _ w.heap.size 176 _ (0,0) _ rfl (heap_alloc_new _ _) Tryz.underlying176 rfl (by kernel_rfl)) rfl ⟨rfl,(Below.refl _ w).alloc (Ai _) _⟩
def isHd(l:List Tok)(k:Nat)(X:List UInt8):Bool:=(hd l).kind==k &&(hd l).text==X
theorem zoG(S:Nat->Prop)(b:Nat)(l:List Tok)(k:Nat)(K:Int)(hK:K=k)(X:ByteArray)(w:World)(h:Rdr S w b l)(hl:l.length<=100000):Calls Tryz.prog 179 #[.pointer (some ⟨b,0,none⟩),.int .i64 K,.string X] w λe w'=>e=.returned (.bool (isHd l k X.data.toList))/\Below w.heap.size w w':=by
 subst hK;have HC:=zgC S b l w h hl;unfold isHd;unfold tokA at HC;obtain⟨m,hm⟩:∃m,(hd l).kind=m:=⟨_,rfl⟩;obtain⟨T,hT⟩:∃T:ByteArray,⟨(hd l).text.toArray⟩=T:=⟨_,rfl⟩;have yq:(hd l).text=T.data.toList:=by rw[<-hT]
 obtain⟨R,hR⟩:∃R,((hd l).kind==k &&(hd l).text==X.data.toList)=R:=⟨_,rfl⟩;rw[hR]
 rw[hm,yq]at hR
 rw[hm,hT]at HC
 obtain⟨a,ha⟩:∃a,(hd l).at_=a:=⟨_,rfl⟩;rw[ha]at HC
 clear hT yq hm ha;have bJ:=h.lt;clear h hl;by_cases hk:m=k
 ·have d1:((m:Int) ==(k:Int))=true:=by rw[hk];simp
  by_cases hx:T.data.toList=X.data.toList
  ·have d2:(T.toList==X.toList)=true:=by rw[Lib.toList_data,Lib.toList_data,hx];simp
   have hr:=CS (show R=true by rw[<-hR,hk,hx];simp);clear hk hx hR;go_enter Tryz.func179,Tryz.ntmps179
   go_wp2_with (go_at_call 202;refine HC.mono ?_;rintro e w1 ⟨rfl,b1⟩)
   go_ret
   exact⟨zax hr.out.symm,b1.alloc b1.size _⟩
  ·have d2:(T.toList==X.toList)=false:=by rw[Lib.toList_data,Lib.toList_data];exact AF.2 hx
   have hr:=CS (show R=false by rw[<-hR,hk,AF.2 hx];simp);clear hk hx hR;go_enter Tryz.func179,Tryz.ntmps179
   go_wp2_with (go_at_call 202;refine HC.mono ?_;rintro e w1 ⟨rfl,b1⟩)
   go_ret
   exact⟨zax hr.out.symm,b1.alloc b1.size _⟩
 ·have d1:((m:Int) ==(k:Int))=false:=by rw[AG];intro e;simp at e;omega
  have hr:=CS (show R=false by rw[<-hR,AF.2 hk];simp);clear hk hR;go_enter Tryz.func179,Tryz.ntmps179
  go_wp2_with (go_at_call 202;refine HC.mono ?_;rintro e w1 ⟨rfl,b1⟩)
  go_ret
  exact⟨zax hr.out.symm,b1.alloc b1.size _⟩
def only(b:Nat):Nat->Prop:=λk=>k=b
theorem zjL(S:Nat->Prop)(w:World)(b:Nat)(v u:Value)(l:List Tok)(hb:Blk w b 171 #[v])(ht:Toks S w u l)(hS:∀g,S g->g≠b):Rdr S (w.setCell ⟨b,0,none⟩ u) b l :=
 ⟨u,heap_setCell_same _ b 0 _ _ u hb,ht.keep (λg hg=>Below.heap_setCell w _ u g (hS g hg))⟩
def took(l:List Tok)(k:Nat)(X:List UInt8):List Tok:=if isHd l k X=true then l.tail else l
theorem zc3(S:Nat->Prop)(b:Nat)(l:List Tok)(k:Nat)(K:Int)(hK:K=k)(X:ByteArray)(w:World)(h:Rdr S w b l)(hS:∀g,S g->g≠b/\g<w.heap.size)(hl:l.length<=100000)(kX:k≠0):Calls Tryz.prog 140 #[.pointer (some ⟨b,0,none⟩),.int .i64 K,.string X] w λe w'=>e=.returned (.bool (isHd l k X.data.toList))/\Rdr S w' b (took l k X.data.toList)/\Chg (only b) w w':=by
 subst hK;have HC:=zoG S b l k k rfl X w h hl;obtain⟨q,hq⟩:∃q,isHd l k X.data.toList=q:=⟨_,rfl⟩;unfold took;rw[hq]at HC ⊢
 cases q with
 |true =>
  cases l with
  |nil=>exfalso;simp[isHd,hd]at hq;exact kX hq.1.symm
  |cons t r =>
   simp only[CA,List.tail_cons];have HH:=CS h;have HS:=CS hS;obtain⟨n,hn⟩:∃n,r.length=n:=⟨_,rfl⟩;have HN:=CS hn;rw[Ao,hn]at hl
   clear h hS hq kX hn;go_enter Tryz.func140,Tryz.ntmps140
   go_wp2_with fail
   refine HC.mono ?_;rintro e w1 ⟨rfl,b1⟩;obtain⟨v,hb,ht⟩:=HH.out.below b1 (λg hg=>(HS.out g hg).2);have bJ:=hb.lt;have f0:=hb.cell 0;have f1:=hb.frozen 0;obtain⟨g,o,c,rfl,hc,hg,c0,c1,c2,qQ⟩:=ht.head;replace f0:w1.cell? ⟨b,0,none⟩=some (.slice (some ⟨g,o,none⟩) (r.length+1) c):=f0;have HB:=CS hb;have HR:=CS qQ;have B1:=CS b1;rw[HN.out]at hc f0
   clear hb ht hg qQ b1 c0 c1 c2 HC;by_cases bc:c=1
   ·obtain rfl:n=0:=by omega
    subst bc;go_wp2_with fail
    go_ret
    have h1:=HR.out (some ⟨g,o,none⟩) (λh0=>by rw[HN.out]at h0;omega);rw[HN.out]at h1
    exact⟨rfl,zjL S w1 b _ _ r HB.out h1 (λg hg=>(HS.out g hg).1),(Chg.of_below (M:=only b) B1.out).setCell (p:=⟨b,0,none⟩) (.inr rfl) _⟩
   ·have cw:2<=c:=by omega
    go_wp2_with fail
    go_ret
    have h1:=HR.out (some ⟨g,o+3,none⟩) (λ_=>rfl);rw[HN.out]at h1
    exact⟨rfl,zjL S w1 b _ _ r HB.out h1 (λg hg=>(HS.out g hg).1),(Chg.of_below (M:=only b) B1.out).setCell (p:=⟨b,0,none⟩) (.inr rfl) _⟩
 |false =>
  simp only[Bg,BX];have HH:=CS h;have HS:=CS hS;clear h hS hl hq kX;go_enter Tryz.func140,Tryz.ntmps140
  go_wp2_with (go_at_call 179;refine HC.mono ?_;rintro e w1 ⟨rfl,b1⟩)
  go_ret
  exact⟨rfl,HH.out.below b1 (λg hg=>(HS.out g hg).2),Chg.of_below b1⟩
def anyT(l:List Tok)(k:Nat):ByteArray:=if(hd l).kind=k then⟨(hd l).text.toArray⟩ else⟨#[]⟩
def anyR(l:List Tok)(k:Nat):List Tok:=if(hd l).kind=k then l.tail else l
theorem zni(k a:Int)(X:ByteArray)(w:World):(Instr.field 176 (.agg #[.int .i64 k,.string X,.int .i64 a]) 0).run Tryz.prog w=.ok (.int .i64 k) w:=by kernel_rfl
theorem zd8(S:Nat->Prop)(b:Nat)(l:List Tok)(k:Nat)(K:Int)(hK:K=k)(w:World)(h:Rdr S w b l)(hS:∀g,S g->g≠b/\g<w.heap.size)(hl:l.length<=100000)(kX:k≠0):Calls Tryz.prog 180 #[.pointer (some ⟨b,0,none⟩),.int .i64 K] w λe w'=>e=.returned (.tuple #[.string (anyT l k),.bool ((hd l).kind==k)])/\Rdr S w' b (anyR l k)/\Chg (only b) w w':=by
 subst hK;have hN:=zgC S b l w h hl;unfold tokA at hN;obtain⟨m,hm⟩:∃m,(hd l).kind=m:=⟨_,rfl⟩;obtain⟨X,hX⟩:∃X:ByteArray,⟨(hd l).text.toArray⟩=X:=⟨_,rfl⟩;obtain⟨a,ha⟩:∃a,(hd l).at_=a:=⟨_,rfl⟩;rw[hm,hX,ha]at hN
 have HH:=CS h;have HS:=CS hS;by_cases hk:m=k
 ·subst hk
  have e1:anyT l m=X:=by unfold anyT;rw[Aq hm,hX]
  have e2:anyR l m=l.tail:=by unfold anyR;rw[Aq hm]
  have e3:((hd l).kind==m)=true:=by rw[hm];simp
  have hq:isHd l m X.data.toList=true:=by unfold isHd;rw[hm,<-hX];simp
  rw[e1,e2,e3]
  have HT:Hid (∀W,Rdr S W b l->(∀g,S g->g≠b/\g<W.heap.size)->Calls Tryz.prog 140 #[.pointer (some ⟨b,0,none⟩),.int .i64 (m:Nat),.string X] W λe w'=>e=.returned (.bool true)/\Rdr S w' b l.tail/\Chg (only b) W w'):=CS λW hr hs=>by
   have:=zc3 S b l m m rfl X W hr hs hl kX;rw[took,hq,Aq rfl]at this
   exact this
  obtain⟨L,hL⟩:∃L,l.tail=L:=⟨_,rfl⟩;rw[hL]at HT ⊢
  have d1:((m:Int) ==(m:Int))=true:=by simp
  have d2:((m:Int) !=(m:Int))=false:=by simp
  clear hm hX ha e1 e2 e3 hq hL h hS;go_enter Tryz.func180,Tryz.ntmps180
  go_wp2_with fail
  refine hN.mono ?_;rintro e w1 ⟨rfl,b1⟩;obtain⟨V,hV⟩:∃V,w1.alloc (.cells #[.int .i64 (m:Nat),.string X,.int .i64 (a:Nat)] 176)=V:=⟨_,rfl⟩;have an:Blk V w1.heap.size 176 #[.int .i64 (m:Nat),.string X,.int .i64 (a:Nat)]:=hV▸heap_alloc_new _ _;have uP:V.heap.size=w1.heap.size+1:=by rw[<-hV];simp
  have cT:Below w.heap.size w V:=hV▸b1.alloc b1.size _;have aF:=b1.size;have bJ:=HH.out.lt;have R4:Hid (Rdr S V.drew b l):=CS (HH.out.below cT.drew (λg hg=>(HS.out g hg).2));have S4:Hid (∀g,S g->g≠b/\g<V.drew.heap.size):=CS λg hg=>⟨(HS.out g hg).1,by have:=(HS.out g hg).2;show g<V.heap.size;omega⟩;have B4:Hid (Chg (only b) V V.drew):=CS (Chg.refl _ _).drew;have BW:=CS cT;have ck:Hid (∀W,Chg (only b) V W->W.cell? ⟨w1.heap.size,1,none⟩=some (.string X)):=CS λW hW=>(an.chg hW (by unfold only;omega)).cell 1;have x0:=an.cell 0;have x1:=an.cell 1;replace x0:V.cell? ⟨w1.heap.size,0,none⟩=some (.int .i64 (m:Nat)):=x0;replace x1:V.cell? ⟨w1.heap.size,1,none⟩=some (.string X):=x1;clear an uP cT hN b1;go_upto_region 2 with fail
  try rw[hV]
  clear hV;go_upto_region 4 with fail
  go_region_held3 (λW=>W.cell? ⟨w1.heap.size,1,none⟩=some (.string X)) (first|(with_reducible exact ck.out _ B4.out)|(with_reducible exact ck.out _ B5.out)) (((with_reducible refine(HT.out _ R4.out S4.out).mono ?_);rintro e w5 ⟨rfl,r5,b5⟩;have B5:=CS (B4.out.trans b5);have R5:=CS r5;clear b5 r5))
  all_goals
   go_wp2_with fail
   go_ret2
   exact⟨rfl,R5.out,(Chg.of_below BW.out).trans B5.out⟩
 ·have e1:anyT l k=⟨#[]⟩:=by unfold anyT;rw[Am (by rw[hm];exact hk)]
  have e2:anyR l k=l:=by unfold anyR;rw[Am (by rw[hm];exact hk)]
  have e3:((hd l).kind==k)=false:=by rw[hm];exact AF.2 hk
  rw[e1,e2,e3]
  have d1:((m:Int) ==(k:Int))=false:=kF m k hk;have d2:((m:Int) !=(k:Int))=true:=by simp only[bne,d1,Bool.not_false]
  clear hm hX ha e1 e2 e3 h hS;go_enter Tryz.func180,Tryz.ntmps180
  go_wp2_with (go_at_call 202;refine hN.mono ?_;rintro e w1 ⟨rfl,b1⟩)
  go_ret2
  exact⟨rfl,HH.out.below (b1.alloc b1.size _) (λg hg=>(HS.out g hg).2),Chg.of_below (b1.alloc b1.size _)⟩
end Go.Proofs.YtfafilmklhnngaaGreatDoor
