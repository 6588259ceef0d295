import Derived.Test.YtfafilmklhnngaaGreatDoorBsL
import Derived.Deep.RegionHeld3
import Derived.Deep.Cut
set_option maxHeartbeats 12800000
set_option maxRecDepth 100000
namespace Go.Proofs.YtfafilmklhnngaaGreatDoor
open Tryz
section
open Go.RowKit Lx Tx
structure b_ (M:Nat->Prop) (w w':World):Prop where
 os:w'.os=w.os
 tape:w'.tape=w.tape
 output:w'.output=w.output
 size:w.heap.size<=w'.heap.size
 block:∀k,k<w.heap.size->¬M k->w'.heap[k]?=w.heap[k]?
theorem b_.refl(M:Nat->Prop)(w:World):b_ M w w:=⟨rfl,rfl,rfl,BU _,λ_ _ _=>rfl⟩
theorem b_.trans' {M M1:Nat->Prop} {a b c:World}(h:b_ M a b)(k:b_ M1 b c)(hm:∀i,i<a.heap.size->M1 i->M i):b_ M a c :=
 ⟨k.os.trans h.os,k.tape.trans h.tape,k.output.trans h.output,Cm h.size k.size,λi hi hn=>(k.block i (Ci hi h.size) (λe=>hn (hm i hi e))).trans (h.block i hi hn)⟩
theorem b_.trans {M:Nat->Prop} {a b c:World}(h:b_ M a b)(k:b_ M b c):b_ M a c:=h.trans' k (λ_ _ e=>e)
theorem b_.mono {M M1:Nat->Prop} {w w':World}(h:b_ M w w')(hm:∀i,i<w.heap.size->M i->M1 i):b_ M1 w w' :=
 ⟨h.os,h.tape,h.output,h.size,λi hi hn=>h.block i hi (λe=>hn (hm i hi e))⟩
theorem b_.alloc {M:Nat->Prop} {a w:World}(h:b_ M a w)(o:Obj):b_ M a (w.alloc o) :=
 ⟨h.os,h.tape,h.output,Cm h.size (by simp),λi hi hn=>(BX w o i (Ci hi h.size)).trans (h.block i hi hn)⟩
theorem b_.setCell {M:Nat->Prop} {a w:World}(h:b_ M a w) {p:Addr}(hp:a.heap.size<=p.block\/M p.block)(u:Value):b_ M a (w.setCell p u) :=
 have hb:Below 0 w (w.setCell p u):=(Cc 0 w).setCell (Cw _) u;⟨hb.os.trans h.os,hb.tape.trans h.tape,hb.output.trans h.output,Cm h.size hb.size,λi hi hn=>(B8 w p u i (λe=>by
  rcases hp with hp|hp
  ·omega
  ·exact hn (e▸hp))).trans (h.block i hi hn)⟩
theorem b_.drewN {M:Nat->Prop} {a w:World}(h:b_ M a w)(n:Nat):b_ M a (w.drewN n):=⟨h.os,h.tape,h.output,h.size,h.block⟩
theorem b_.drew {M:Nat->Prop} {a w:World}(h:b_ M a w):b_ M a w.drew:=⟨h.os,h.tape,h.output,h.size,h.block⟩
theorem b_.grown {M:Nat->Prop} {a w w':World} {row:Option Nat}(h:b_ M a w)(hg:w.grownBy w' row)(hr:∀k,row=some k->a.heap.size<=k\/M k):b_ M a w' :=
 have hb:Below 0 w w':=(Cc 0 w).grown hg (Cw _) (λ_ _=>Cw _);⟨hb.os.trans h.os,hb.tape.trans h.tape,hb.output.trans h.output,Cm h.size hb.size,λi hi hn=>(hg.block i (Ci hi h.size) (λe=>by
  rcases hr i e.symm with hp|hp
  ·omega
  ·exact hn hp)).trans (h.block i hi hn)⟩
theorem b_.c_ {M:Nat->Prop} {w w':World}(h:Below w.heap.size w w'):b_ M w w':=⟨h.os,h.tape,h.output,h.size,λi hi _=>h.block i hi⟩
theorem b_.below {M:Nat->Prop} {a b c:World}(h:b_ M a b)(k:Below b.heap.size b c):b_ M a c:=h.trans (b_.c_ k)
theorem b_.Jz {M:Nat->Prop} {a b c:World} {B:Nat}(h:b_ M a b)(k:Below B b c)(hB:a.heap.size<=B):b_ M a c :=
 ⟨k.os.trans h.os,k.tape.trans h.tape,k.output.trans h.output,Cm h.size k.size,λi hi hn=>(k.block i (by omega)).trans (h.block i hi hn)⟩
theorem b_.toBelow {M:Nat->Prop} {w w':World} {B:Nat}(h:b_ M w w')(hB:B<=w.heap.size)(hm:∀k,k<B->¬M k):Below B w w' :=
 ⟨h.os,h.tape,h.output,h.size,λi hi=>h.block i (by omega) (hm i hi)⟩
theorem ar.same {w w':World} {g:Nat} {t:TypeId} {cs:Array Value}(h:ar w g t cs)(he:w'.heap[g]?=w.heap[g]?):ar w' g t cs:=he.trans h
theorem ar.iF {M:Nat->Prop} {w w':World} {g:Nat} {t:TypeId} {cs:Array Value}(h:ar w g t cs)(hc:b_ M w w')(hm:¬M g):ar w' g t cs:=(hc.block g h.lt hm).trans h
def Jt(S:Nat->Prop)(w:World)(v:Value)(l:List Tok):Prop :=
 ∃A c,v=.slice A l.length c/\l.length<=c/\(0<l.length->∃g o,A=some ⟨g,o,none⟩/\S g/\∀j u,(JR l)[j]?=some u->w.cell? ⟨g,o+j,none⟩=some u)
theorem Jt.al {S:Nat->Prop} {w w':World} {v:Value} {l:List Tok}(h:Jt S w v l)(hk:∀g,S g->w'.heap[g]?=w.heap[g]?):Jt S w' v l:=by
 obtain⟨A,c,hv,hc,hp⟩:=h;refine⟨A,c,hv,hc,λh0=>?_⟩;obtain⟨g,o,hA,hg,ay⟩:=hp h0;exact⟨g,o,hA,hg,λj u hu=>by rw[Ck (w:=w) (hk g hg)];exact ay j u hu⟩
theorem Jt.head {S:Nat->Prop} {w:World} {v:Value} {t:Tok} {r:List Tok}(h:Jt S w v (t::r)):∃g o c,v=.slice (some ⟨g,o,none⟩) (r.length+1) c/\r.length+1<=c/\S g/\w.cell? ⟨g,o,none⟩=some (.int .i64 (t.kind:Nat))/\w.cell? ⟨g,o+1,none⟩=some (.string ⟨t.text.toArray⟩)/\w.cell? ⟨g,o+2,none⟩=some (.int .i64 (t.at_:Nat)) /\
   ∀A,(0<r.length->A=some ⟨g,o+3,none⟩)->Jt S w (.slice A r.length (c-1)) r:=by
 obtain⟨A,c,hv,hc,hp⟩:=h;obtain⟨g,o,rfl,hg,ay⟩:=hp (by simp);refine⟨g,o,c,hv,hc,hg,ay 0 _ rfl,ay 1 _ rfl,ay 2 _ rfl,λA hA=>⟨A,c-1,rfl,by simp at hc;omega,λh0=>⟨g,o+3,hA h0,hg,λj u hu=>?_⟩⟩⟩;have:=ay (3+j) u (by
  show(Ks t++JR r)[3+j]?=_;rw[Db (by show 3<=3+j;omega)];show(JR r)[3+j-3]?=_;rw[Dv];exact hu)
 rwa [<-DN]at this
theorem M7 {w:World} {g o:Nat} {v:Value}(h:w.cell? ⟨g,o,none⟩=some v):g<w.heap.size:=by
 refine Nat.lt_of_not_le λhl=>?_;have e:w.heap[g]?=none:=Es hl;simp[World.cell?,e]at h
def FP(S:Nat->Prop)(w:World)(b:Nat)(l:List Tok):Prop:=∃v,ar w b 171 #[v]/\Jt S w v l
theorem FP.lt {S:Nat->Prop} {w:World} {b:Nat} {l:List Tok}(h:FP S w b l):b<w.heap.size:=by obtain⟨v,h1,_⟩:=h;exact h1.lt
theorem FP.al {S:Nat->Prop} {w w':World} {b:Nat} {l:List Tok}(h:FP S w b l)(hb:w'.heap[b]?=w.heap[b]?)(hk:∀g,S g->w'.heap[g]?=w.heap[g]?):FP S w' b l:=by
 obtain⟨v,h1,h2⟩:=h;exact⟨v,h1.same hb,h2.al hk⟩
theorem FP.below {S:Nat->Prop} {w w':World} {b:Nat} {l:List Tok}(h:FP S w b l)(hb:Below w.heap.size w w')(hS:∀g,S g->g<w.heap.size):FP S w' b l :=
 h.al (hb.block b h.lt) (λg hg=>hb.block g (hS g hg))
theorem FP.alloc {S:Nat->Prop} {w:World} {b:Nat} {l:List Tok}(h:FP S w b l)(o:Obj)(hS:∀g,S g->g<w.heap.size):FP S (w.alloc o) b l :=
 h.below ((Cc _ w).alloc (BU _) o) hS
def hd(l:List Tok):Tok:=l.headD ⟨0,[],0⟩
def Nf(t:Tok):Value:=.agg #[.int .i64 (t.kind:Nat),.string ⟨t.text.toArray⟩,.int .i64 (t.at_:Nat)]
theorem U8(S:Nat->Prop)(b:Nat)(l:List Tok)(w:World)(h:FP S w b l)(hl:l.length<=100000):Calls prog 202 #[.pointer (some ⟨b,0,none⟩)] w λe w'=>e=.returned (Nf (hd l))/\Below w.heap.size w w':=by
 obtain⟨v,hb,ht⟩:=h;have a8:=hb.lt;have f0:=hb.cell 0;cases l with
 |nil =>
  obtain⟨A,c,rfl,hc,-⟩:=ht;clear hb hc hl;replace f0:w.cell? ⟨b,0,none⟩=some (.slice A 0 c):=f0;go_in;go_wp2
  exact Ce (CW rfl _ _ w.heap.size 176 _ (0,0) _ rfl (BZ _ _) underlying176 rfl (by kernel_rfl)) rfl ⟨rfl,(Cc _ w).alloc (BU _) _⟩
 |cons t r =>
  obtain⟨g,o,c,rfl,hc,hg,c0,c1,c2,-⟩:=ht.head;obtain⟨n,hn⟩:∃n,r.length=n:=⟨_,rfl⟩;rw[Ca]at hl;rw[hn]at f0 hl;replace f0:w.cell? ⟨b,0,none⟩=some (.slice (some ⟨g,o,none⟩) (n+1) c):=f0;have hz:((n:Int)+1==0)=false:=by rw[Cz];intro e;simp at e;omega
  have kK:=M7 c0;clear hb hc ht hn hg;go_in;go_wp2
  exact Ce (CW rfl _ _ w.heap.size 176 _ (0,0) _ rfl (BZ _ _) underlying176 rfl (by kernel_rfl)) rfl ⟨rfl,(Cc _ w).alloc (BU _) _⟩
def Fl(l:List Tok)(k:Nat)(X:List UInt8):Bool:=(hd l).kind==k &&(hd l).text==X
theorem zqe(S:Nat->Prop)(b:Nat)(l:List Tok)(k:Nat)(K:Int)(hK:K=k)(X:ByteArray)(w:World)(h:FP S w b l)(hl:l.length<=100000):Calls prog 179 #[.pointer (some ⟨b,0,none⟩),.int .i64 K,.string X] w λe w'=>e=.returned (.bool (Fl l k X.data.toList))/\Below w.heap.size w w':=by
 subst hK;have HC:=U8 S b l w h hl;unfold Fl;unfold Nf at HC;obtain⟨m,hm⟩:∃m,(hd l).kind=m:=⟨_,rfl⟩;obtain⟨T,hT⟩:∃T:ByteArray,⟨(hd l).text.toArray⟩=T:=⟨_,rfl⟩;have nM:(hd l).text=T.data.toList:=by rw[<-hT]
 obtain⟨R,hR⟩:∃R,((hd l).kind==k &&(hd l).text==X.data.toList)=R:=⟨_,rfl⟩;rw[hR];rw[hm,nM]at hR;rw[hm,hT]at HC;obtain⟨a,ha⟩:∃a,(hd l).at_=a:=⟨_,rfl⟩;rw[ha]at HC;clear hT nM hm ha;have a8:=h.lt;clear h hl;by_cases hk:m=k
 ·have d1:((m:Int) ==(k:Int))=true:=by rw[hk];simp
  by_cases hx:T.data.toList=X.data.toList
  ·have d2:(T.toList==X.toList)=true:=by rw[CL,CL,hx];simp
   have hr:=EP (show R=true by rw[<-hR,hk,hx];simp);clear hk hx hR;go_in;go_wp2_with (go_at_call 202;refine HC.mono ?_;rintro e w1 ⟨rfl,b1⟩);go_ret
   exact⟨Iy hr.o.symm,b1.alloc b1.size _⟩
  ·have d2:(T.toList==X.toList)=false:=by rw[CL,CL];exact Cv.2 hx
   have hr:=EP (show R=false by rw[<-hR,hk,Cv.2 hx];simp);clear hk hx hR;go_in;go_wp2_with (go_at_call 202;refine HC.mono ?_;rintro e w1 ⟨rfl,b1⟩);go_ret
   exact⟨Iy hr.o.symm,b1.alloc b1.size _⟩
 ·have d1:((m:Int) ==(k:Int))=false:=by rw[Cz];intro e;simp at e;omega
  have hr:=EP (show R=false by rw[<-hR,Cv.2 hk];simp);clear hk hR;go_in;go_wp2_with (go_at_call 202;refine HC.mono ?_;rintro e w1 ⟨rfl,b1⟩);go_ret
  exact⟨Iy hr.o.symm,b1.alloc b1.size _⟩
def only(b:Nat):Nat->Prop:=λk=>k=b
theorem zkx(S:Nat->Prop)(w:World)(b:Nat)(v u:Value)(l:List Tok)(hb:ar w b 171 #[v])(ht:Jt S w u l)(hS:∀g,S g->g≠b):FP S (w.setCell ⟨b,0,none⟩ u) b l :=
 ⟨u,Cl _ b 0 _ _ u hb,ht.al (λg hg=>B8 w _ u g (hS g hg))⟩
def Kr(l:List Tok)(k:Nat)(X:List UInt8):List Tok:=if Fl l k X=true then l.tail else l
theorem PE(S:Nat->Prop)(b:Nat)(l:List Tok)(k:Nat)(K:Int)(hK:K=k)(X:ByteArray)(w:World)(h:FP S w b l)(hS:∀g,S g->g≠b/\g<w.heap.size)(hl:l.length<=100000)(mQ:k≠0):Calls prog 140 #[.pointer (some ⟨b,0,none⟩),.int .i64 K,.string X] w λe w'=>e=.returned (.bool (Fl l k X.data.toList))/\FP S w' b (Kr l k X.data.toList)/\b_ (only b) w w':=by
 subst hK;have HC:=zqe S b l k k rfl X w h hl;obtain⟨q,hq⟩:∃q,Fl l k X.data.toList=q:=⟨_,rfl⟩;unfold Kr;rw[hq]at HC ⊢;cases q with
 |true =>
  cases l with
  |nil=>exfalso;simp[Fl,hd]at hq;exact mQ hq.1.symm
  |cons t r =>
   simp only[Ez,List.tail_cons];have HH:=EP h;have HS:=EP hS;obtain⟨n,hn⟩:∃n,r.length=n:=⟨_,rfl⟩;have HN:=EP hn;rw[Ca,hn]at hl;clear h hS hq mQ hn;go_in;go_wp2_with fail;refine HC.mono ?_;rintro e w1 ⟨rfl,b1⟩;obtain⟨v,hb,ht⟩:=HH.o.below b1 (λg hg=>(HS.o g hg).2);have a8:=hb.lt;have f0:=hb.cell 0;have f1:=hb.frozen 0;obtain⟨g,o,c,rfl,hc,hg,c0,c1,c2,ss⟩:=ht.head;replace f0:w1.cell? ⟨b,0,none⟩=some (.slice (some ⟨g,o,none⟩) (r.length+1) c):=f0;have HB:=EP hb;have HR:=EP ss;have B1:=EP b1;rw[HN.o]at hc f0;clear hb ht hg ss b1 c0 c1 c2 HC;by_cases bj:c=1
   ·obtain rfl:n=0:=by omega
    subst bj;go_wp2_with fail;go_ret
    have h1:=HR.o (some ⟨g,o,none⟩) (λh0=>by rw[HN.o]at h0;omega);rw[HN.o]at h1;exact⟨rfl,zkx S w1 b _ _ r HB.o h1 (λg hg=>(HS.o g hg).1),(b_.c_ (M:=only b) B1.o).setCell (p:=⟨b,0,none⟩) (.inr rfl) _⟩
   ·have cH:2<=c:=by omega
    go_wp2_with fail;go_ret
    have h1:=HR.o (some ⟨g,o+3,none⟩) (λ_=>rfl);rw[HN.o]at h1;exact⟨rfl,zkx S w1 b _ _ r HB.o h1 (λg hg=>(HS.o g hg).1),(b_.c_ (M:=only b) B1.o).setCell (p:=⟨b,0,none⟩) (.inr rfl) _⟩
 |false =>
  simp only[Dg,D3];have HH:=EP h;have HS:=EP hS;clear h hS hl hq mQ;go_in;go_wp2_with (go_at_call 179;refine HC.mono ?_;rintro e w1 ⟨rfl,b1⟩);go_ret
  exact⟨rfl,HH.o.below b1 (λg hg=>(HS.o g hg).2),b_.c_ b1⟩
def Kt(l:List Tok)(k:Nat):ByteArray:=if(hd l).kind=k then⟨(hd l).text.toArray⟩ else⟨#[]⟩
def IG(l:List Tok)(k:Nat):List Tok:=if(hd l).kind=k then l.tail else l
theorem zoH(k a:Int)(X:ByteArray)(w:World):(Instr.field 176 (.agg #[.int .i64 k,.string X,.int .i64 a]) 0).run prog w=.ok (.int .i64 k) w:=by kernel_rfl
theorem VR(S:Nat->Prop)(b:Nat)(l:List Tok)(k:Nat)(K:Int)(hK:K=k)(w:World)(h:FP S w b l)(hS:∀g,S g->g≠b/\g<w.heap.size)(hl:l.length<=100000)(mQ:k≠0):Calls prog 180 #[.pointer (some ⟨b,0,none⟩),.int .i64 K] w λe w'=>e=.returned (.tuple #[.string (Kt l k),.bool ((hd l).kind==k)])/\FP S w' b (IG l k)/\b_ (only b) w w':=by
 subst hK;have hN:=U8 S b l w h hl;unfold Nf at hN;obtain⟨m,hm⟩:∃m,(hd l).kind=m:=⟨_,rfl⟩;obtain⟨X,hX⟩:∃X:ByteArray,⟨(hd l).text.toArray⟩=X:=⟨_,rfl⟩;obtain⟨a,ha⟩:∃a,(hd l).at_=a:=⟨_,rfl⟩;rw[hm,hX,ha]at hN;have HH:=EP h;have HS:=EP hS;by_cases hk:m=k
 ·subst hk
  have e1:Kt l m=X:=by unfold Kt;rw[Ch hm,hX]
  have e2:IG l m=l.tail:=by unfold IG;rw[Ch hm]
  have e3:((hd l).kind==m)=true:=by rw[hm];simp
  have hq:Fl l m X.data.toList=true:=by unfold Fl;rw[hm,<-hX];simp
  rw[e1,e2,e3];have HT:Hid (∀W,FP S W b l->(∀g,S g->g≠b/\g<W.heap.size)->Calls prog 140 #[.pointer (some ⟨b,0,none⟩),.int .i64 (m:Nat),.string X] W λe w'=>e=.returned (.bool true)/\FP S w' b l.tail/\b_ (only b) W w'):=EP λW hr hs=>by
   have:=PE S b l m m rfl X W hr hs hl mQ;rw[Kr,hq,Ch rfl]at this;exact this
  obtain⟨L,hL⟩:∃L,l.tail=L:=⟨_,rfl⟩;rw[hL]at HT ⊢;have d1:((m:Int) ==(m:Int))=true:=by simp
  have d2:((m:Int) !=(m:Int))=false:=by simp
  clear hm hX ha e1 e2 e3 hq hL h hS;go_in;go_wp2_with fail;refine hN.mono ?_;rintro e w1 ⟨rfl,b1⟩;obtain⟨V,hV⟩:∃V,w1.alloc (.cells #[.int .i64 (m:Nat),.string X,.int .i64 (a:Nat)] 176)=V:=⟨_,rfl⟩;have aq:ar V w1.heap.size 176 #[.int .i64 (m:Nat),.string X,.int .i64 (a:Nat)]:=hV▸BZ _ _;have qI:V.heap.size=w1.heap.size+1:=by rw[<-hV];simp
  have dW:Below w.heap.size w V:=hV▸b1.alloc b1.size _;have aH:=b1.size;have a8:=HH.o.lt;have R4:Hid (FP S V.drew b l):=EP (HH.o.below dW.drew (λg hg=>(HS.o g hg).2));have S4:Hid (∀g,S g->g≠b/\g<V.drew.heap.size):=EP λg hg=>⟨(HS.o g hg).1,by have:=(HS.o g hg).2;show g<V.heap.size;omega⟩;have B4:Hid (b_ (only b) V V.drew):=EP (b_.refl _ _).drew;have BW:=EP dW;have bh:Hid (∀W,b_ (only b) V W->W.cell? ⟨w1.heap.size,1,none⟩=some (.string X)):=EP λW hW=>(aq.iF hW (by unfold only;omega)).cell 1;have x0:=aq.cell 0;have x1:=aq.cell 1;replace x0:V.cell? ⟨w1.heap.size,0,none⟩=some (.int .i64 (m:Nat)):=x0;replace x1:V.cell? ⟨w1.heap.size,1,none⟩=some (.string X):=x1;clear aq qI dW hN b1;go_upto_region 2 with fail
  try rw[hV]
  clear hV;go_upto_region 4 with fail
  go_region_held3 (λW=>W.cell? ⟨w1.heap.size,1,none⟩=some (.string X)) (first|(with_reducible exact bh.o _ B4.o)|(with_reducible exact bh.o _ B5.o)) (((with_reducible refine(HT.o _ R4.o S4.o).mono ?_);rintro e w5 ⟨rfl,r5,b5⟩;have B5:=EP (B4.o.trans b5);have R5:=EP r5;clear b5 r5))
  all_goals
   go_wp2_with fail;go_ret2
   exact⟨rfl,R5.o,(b_.c_ BW.o).trans B5.o⟩
 ·have e1:Kt l k=⟨#[]⟩:=by unfold Kt;rw[Cg (by rw[hm];exact hk)]
  have e2:IG l k=l:=by unfold IG;rw[Cg (by rw[hm];exact hk)]
  have e3:((hd l).kind==k)=false:=by rw[hm];exact Cv.2 hk
  rw[e1,e2,e3];have d1:((m:Int) ==(k:Int))=false:=kF m k hk;have d2:((m:Int) !=(k:Int))=true:=by simp only[bne,d1,Bool.not_false]
  clear hm hX ha e1 e2 e3 h hS;go_in;go_wp2_with (go_at_call 202;refine hN.mono ?_;rintro e w1 ⟨rfl,b1⟩);go_ret2
  exact⟨rfl,HH.o.below (b1.alloc b1.size _) (λg hg=>(HS.o g hg).2),b_.c_ (b1.alloc b1.size _)⟩
end
end Go.Proofs.YtfafilmklhnngaaGreatDoor
