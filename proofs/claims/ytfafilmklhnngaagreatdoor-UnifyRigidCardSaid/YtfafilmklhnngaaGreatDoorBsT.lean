import Derived.Test.YtfafilmklhnngaaGreatDoorBsB
import Derived.Test.YtfafilmklhnngaaGreatDoorBsR
import Derived.Laws.EntriesVeiled
set_option maxHeartbeats 12800000
set_option maxRecDepth 100000
namespace Go.Proofs.YtfafilmklhnngaaGreatDoor
open Tryz
section
open Go.RowKit Lx Tx Go.Maps Go.WideMaps
abbrev Lq {κ:Type} : World->κ->Prop:=λ_ _=>True
def Jc(w:World)(b:Nat)(f:Name->Option Nat):Prop:=d_ SK Lq w b f
def Ku(w:World)(b:Nat)(f:Nat->Option Nat):Prop:=d_ IK Lq w b f
def e_(w:World)(b:Nat):Prop:=∃cs,w.heap[b]?=some (.cells cs 132 (0,0))
theorem e_.any {w:World} {b:Nat}(h:e_ w b):Laid w b:=by obtain⟨cs,h⟩:=h;exact⟨cs,_,h⟩
def Ms(w:World)(b:Nat)(f:Nat->Option Nat):Prop:=d_ PK e_ w b f
theorem LJ:Hu prog 9 SK Lq:=strKeys underlying9
theorem Rq:Hu prog 3 IK Lq:=Ny underlying3
theorem GQ:(prog.info? 132).map (λi=>i.size)=some 9:=by kernel_rfl
theorem Mt:Hu prog 75 PK Laid:=by
 cases h:prog.info? 132 with
 |none=>have:=GQ;rw[h]at this;cases this
 |some j =>
  refine Nr underlying75 h ?_;have:=GQ;rw[h]at this;simp only[DJ,Dj]at this;omega
theorem Pp(w:World):(zeroValue 75).run prog w=.ok (.pointer none) w:=by kernel_rfl
theorem ar.laid {w:World} {g:Nat} {cs:Array Value}(h:ar w g 132 cs):e_ w g:=⟨cs,h⟩
theorem JN:Hu prog 75 PK e_ where
 find w x es l hx hl h:=Mt.find w x es l hx.any (λp hp=>(hl p hp).any) h
 check:=Mt.check
 stays:=Mt.stays
 set w b es gn c c' x hb h:=by
  obtain⟨cs,h⟩:=h;refine⟨cs,?_⟩;rw[ChangeMaps.heap_setBlock_other hb _ (λe=>by rw[e,hb]at h;cases h)];exact h
def Lb(w:World)(N mb:Nat)(x:Name)(o:Option Nat):Prop :=
 ar w N 81 #[.map (some mb)]/\ar w (N+1) 9 #[SK x]/\ar w (N+2) 75 #[Hc o]/\ar w (N+3) 4 #[.bool o.isSome]
theorem Lb.al {w w':World} {N mb:Nat} {x:Name} {o:Option Nat}(h:Lb w N mb x o)(hk:∀k,N<=k->k<=N+3->w'.heap[k]?=w.heap[k]?):Lb w' N mb x o :=
 ⟨h.1.same (hk _ (by omega) (by omega)),h.2.1.same (hk _ (by omega) (by omega)),h.2.2.1.same (hk _ (by omega) (by omega)),h.2.2.2.same (hk _ (by omega) (by omega))⟩
def UP(N:Nat):Value:=.func (.func 116) #[] #[.pointer (some ⟨N+3,0,none⟩),.pointer (some ⟨N+2,0,none⟩),.pointer (some ⟨N,0,none⟩),.pointer (some ⟨N+1,0,none⟩)]
theorem zpp(mb:Nat)(f:Name->Option Nat)(x:Name)(p:Nat)(w:World)(h:Jc w mb f):Calls prog 69 #[.map (some mb),.string ⟨x.toArray⟩,.pointer (some ⟨p,0,none⟩)] w λe w'=>e=.returned (UP w.heap.size)/\Lb w' w.heap.size mb x (f x)/\Jc w' mb (λy=>if y=x then some p else f y)/\b_ (only mb) w w':=by
 have af:=h.lt;have h1:d_ SK Lq ((w.alloc (.cells #[.map (some mb)] 81)).alloc (.cells #[.string ⟨x.toArray⟩] 9)) mb f :=
  d_.al h ((BX _ _ _ (by simp;omega)).trans (BX _ _ _ af)) (λ_ h=>h)
 have bw:(Instr.lookup 81 (.map (some mb)) (.string ⟨x.toArray⟩) true).run prog ((w.alloc (.cells #[.map (some mb)] 81)).alloc (.cells #[.string ⟨x.toArray⟩] 9))=.ok (.tuple #[Hc (f x),.bool (f x).isSome]) ((w.alloc (.cells #[.map (some mb)] 81)).alloc (.cells #[.string ⟨x.toArray⟩] 9)) :=
  h1.look LJ underlying81 (Pp _) x trivial
 obtain⟨o,ho⟩:∃o:Option Addr,Hc (f x)=.pointer o:=by
  cases f x with
  |none=>exact⟨none,rfl⟩
  |some u=>exact⟨_,rfl⟩
 obtain⟨q,hq⟩:∃q,(f x).isSome=q:=⟨_,rfl⟩;unfold Lb;rw[ho,hq]at bw;rw[ho,hq];have bL:d_ SK Lq ((((w.alloc (.cells #[.map (some mb)] 81)).alloc (.cells #[.string ⟨x.toArray⟩] 9)).alloc (.cells #[.pointer o] 75)).alloc (.cells #[.bool q] 4)) mb f :=
  h1.al ((BX _ _ _ (by simp;omega)).trans (BX _ _ _ (by simp;omega))) (λ_ h=>h)
 obtain⟨w1,aC,aT,aS,aA⟩:=bL.store LJ underlying81 x p trivial;have fe:(Instr.mapUpdate 81 (.map (some mb)) (.string ⟨x.toArray⟩) (.pointer (some ⟨p,0,none⟩))).run prog ((((w.alloc (.cells #[.map (some mb)] 81)).alloc (.cells #[.string ⟨x.toArray⟩] 9)).alloc (.cells #[.pointer o] 75)).alloc (.cells #[.bool q] 4))=.ok () w1:=aC;have HM:=EP aT;have HG:=EP aS;have iZ:∀(fn:Fn) (first cap:Array Value) (w:World),(Instr.makeFunc fn first cap).run prog w=.ok (.func fn first cap) w:=λ_ _ _ _=>rfl;clear h h1 ho hq bL aC aT aS aA;go_in
 go_wp2_with fail;go_ret
 have hk:∀k,k<w.heap.size+4->k≠mb->w1.heap[k]? =((((w.alloc (.cells #[.map (some mb)] 81)).alloc (.cells #[.string ⟨x.toArray⟩] 9)).alloc (.cells #[.pointer o] 75)).alloc (.cells #[.bool q] 4)).heap[k]?:=λk hk ai=>HG.o.block k (by simp;omega) (λe=>ai (by injection e));refine⟨rfl,⟨?_,?_,?_,?_⟩,HM.o,?_⟩
 ·exact(hk _ (by omega) (by omega)).trans ((((ar.alloc (BZ w _) _).alloc _).alloc _))
 ·refine(hk _ (by omega) (by omega)).trans ?_
  have:=BZ (w.alloc (.cells #[.map (some mb)] 81)) (.cells #[.string ⟨x.toArray⟩] 9);rw[show(w.alloc (.cells #[.map (some mb)] 81)).heap.size=w.heap.size+1 by simp]at this;exact(ar.alloc this _).alloc _
 ·refine(hk _ (by omega) (by omega)).trans ?_
  have:=BZ ((w.alloc (.cells #[.map (some mb)] 81)).alloc (.cells #[.string ⟨x.toArray⟩] 9)) (.cells #[.pointer o] 75);rw[show((w.alloc (.cells #[.map (some mb)] 81)).alloc (.cells #[.string ⟨x.toArray⟩] 9)).heap.size=w.heap.size+2 by simp]at this;exact ar.alloc this _
 ·refine(hk _ (by omega) (by omega)).trans ?_
  have:=BZ (((w.alloc (.cells #[.map (some mb)] 81)).alloc (.cells #[.string ⟨x.toArray⟩] 9)).alloc (.cells #[.pointer o] 75)) (.cells #[.bool q] 4);rw[show(((w.alloc (.cells #[.map (some mb)] 81)).alloc (.cells #[.string ⟨x.toArray⟩] 9)).alloc (.cells #[.pointer o] 75)).heap.size=w.heap.size+3 by simp]at this;exact this
 ·exact(((((b_.refl (only mb) w).alloc _).alloc _).alloc _).alloc _).grown HG.o (λk hk=>.inr (by injection hk with hk;exact hk.symm))
theorem zlT(N mb:Nat)(f:Name->Option Nat)(x:Name)(o:Option Nat)(u:FrameMode)(w:World)(hc:Lb w N mb x o)(h:Jc w mb f):CallsD prog 116 #[.pointer (some ⟨N+3,0,none⟩),.pointer (some ⟨N+2,0,none⟩),.pointer (some ⟨N,0,none⟩),.pointer (some ⟨N+1,0,none⟩)] u w λe u' w'=>u'=u/\e=.returned (.tuple #[])/\Jc w' mb (λy=>if y=x then o else f y)/\b_ (only mb) w w':=by
 obtain⟨h0,h1,h2,h3⟩:=hc;unfold SK at h1;obtain⟨a0,-,l0⟩:=GG h0;obtain⟨a1,-,l1⟩:=GG h1;obtain⟨a2,-,l2⟩:=GG h2;obtain⟨a3,-,l3⟩:=GG h3;clear h0 h1 h2 h3;cases o with
 |none =>
  replace a3:w.cell? ⟨N+3,0,none⟩=some (.bool false):=a3;obtain⟨w1,aC,aT,aS,-⟩:=d_.drop h LJ underlying81 x trivial 0 9;have fe:∀tt,Hid ((Builtin.delete_ #[81,9] tt #[.map (some mb),.string ⟨x.toArray⟩]).run prog w=.ok (.tuple #[]) w1):=λtt=>EP aC;have HM:=EP aT;have HG:=EP aS;clear h a2 aC aT aS;go_enter_d func116,ntmps116
  go_wp2_with (at_delete;refine zjv _ w1 rfl _ _ _ _ rfl _ _ rfl rfl (fe _).o ?_);go_end0
  exact⟨rfl,HM.o,(b_.refl (only mb) w).grown HG.o (λk hk=>.inr (by injection hk with hk;exact hk.symm))⟩
 |some y =>
  replace a3:w.cell? ⟨N+3,0,none⟩=some (.bool true):=a3;replace a2:w.cell? ⟨N+2,0,none⟩=some (.pointer (some ⟨y,0,none⟩)):=a2;obtain⟨w1,aC,aT,aS,-⟩:=d_.store h LJ underlying81 x y trivial;have fe:(Instr.mapUpdate 81 (.map (some mb)) (.string ⟨x.toArray⟩) (.pointer (some ⟨y,0,none⟩))).run prog w=.ok () w1:=aC;have HM:=EP aT;have HG:=EP aS;clear h aC aT aS;go_enter_d func116,ntmps116;go_wp2_with fail;go_end0
  exact⟨rfl,HM.o,(b_.refl (only mb) w).grown HG.o (λk hk=>.inr (by injection hk with hk;exact hk.symm))⟩
def Hn(K:Int)(X:ByteArray)(Z:Int)(A:Option Addr)(m c:Nat):Array Value:=#[.int .i64 K,.string X,.int .i64 Z,.slice A m c,.slice none 0 0,.pointer none,.bool false,.bool false,.int .i64 0]
def Nn {κ:Type} [DecidableEq κ](kv:κ->Value)(mb:Nat)(f:κ->Option Nat)(x:κ)(cs:Array Value)(w:World)(e:Ending)(w':World):Prop :=
 ∃p,e=.returned (.pointer (some ⟨p,0,none⟩))/\d_ kv Lq w' mb (λy=>if y=x then some p else f y)/\(∀q,f x=some q->p=q)/\(f x=none->w.heap.size<=p/\ar w' p 132 cs)/\b_ (only mb) w w'
theorem zq1(mb:Nat)(f:Name->Option Nat)(x:Name)(K:Int)(X:ByteArray)(Z:Int)(A:Option Addr)(m c:Nat)(w:World)(h:Jc w mb f):Calls prog 67 #[.map (some mb),.string ⟨x.toArray⟩,.agg #[.int .i64 K,.string X,.int .i64 Z,.slice A m c]] w (Nn SK mb f x (Hn K X Z A m c) w):=by
 have af:=h.lt;have h1:d_ SK Lq (w.alloc (.cells #[.int .i64 K,.string X,.int .i64 Z,.slice A m c] 37)) mb f:=d_.al h (BX _ _ _ af) (λ_ h=>h);have bw:(Instr.lookup 81 (.map (some mb)) (.string ⟨x.toArray⟩) true).run prog (w.alloc (.cells #[.int .i64 K,.string X,.int .i64 Z,.slice A m c] 37))=.ok (.tuple #[Hc (f x),.bool (f x).isSome]) (w.alloc (.cells #[.int .i64 K,.string X,.int .i64 Z,.slice A m c] 37)) :=
  h1.look LJ underlying81 (Pp _) x trivial
 cases hf:f x with
 |some q =>
  rw[hf]at bw;replace bw:(Instr.lookup 81 (.map (some mb)) (.string ⟨x.toArray⟩) true).run prog (w.alloc (.cells #[.int .i64 K,.string X,.int .i64 Z,.slice A m c] 37))=.ok (.tuple #[.pointer (some ⟨q,0,none⟩),.bool true]) (w.alloc (.cells #[.int .i64 K,.string X,.int .i64 Z,.slice A m c] 37)):=bw;have HF:=EP hf;have H1:=EP h1;clear h h1 hf;go_in;go_wp2_with fail;go_ret
  refine⟨q,rfl,?_,(λq' hq=>by rw[HF.o]at hq;injection hq),(λhn=>by rw[HF.o]at hn;cases hn),(b_.refl (only mb) w).alloc _⟩;have:(λy=>if y=x then some q else f y)=f:=funext λy=>by
   by_cases hy:y=x
   ·rw[Ch hy,hy,HF.o]
   ·rw[Cg hy]
  rw[this];exact H1.o
 |none =>
  rw[hf]at bw;replace bw:(Instr.lookup 81 (.map (some mb)) (.string ⟨x.toArray⟩) true).run prog (w.alloc (.cells #[.int .i64 K,.string X,.int .i64 Z,.slice A m c] 37))=.ok (.tuple #[.pointer none,.bool false]) (w.alloc (.cells #[.int .i64 K,.string X,.int .i64 Z,.slice A m c] 37)):=bw;have bL:d_ SK Lq ((w.alloc (.cells #[.int .i64 K,.string X,.int .i64 Z,.slice A m c] 37)).alloc (.cells #[.int .i64 K,.string X,.int .i64 Z,.slice A m c,.slice none 0 0,.pointer none,.bool false,.bool false,.int .i64 0] 132)) mb f:=h1.al (BX _ _ _ (by simp;omega)) (λ_ h=>h);obtain⟨w1,aC,aT,aS,-⟩:=bL.store LJ underlying81 x (w.heap.size+1) trivial;have fe:(Instr.mapUpdate 81 (.map (some mb)) (.string ⟨x.toArray⟩) (.pointer (some ⟨w.heap.size+1,0,none⟩))).run prog ((w.alloc (.cells #[.int .i64 K,.string X,.int .i64 Z,.slice A m c] 37)).alloc (.cells #[.int .i64 K,.string X,.int .i64 Z,.slice A m c,.slice none 0 0,.pointer none,.bool false,.bool false,.int .i64 0] 132))=.ok () w1:=aC;have HF:=EP hf;have HM:=EP aT;have HG:=EP aS;clear h h1 hf bL aC aT aS;go_in;go_wp2_with fail;go_ret
  refine⟨w.heap.size+1,rfl,HM.o,(λq' hq=>by rw[HF.o]at hq;cases hq),λ_=>⟨by omega,?_⟩,(((b_.refl (only mb) w).alloc _).alloc _).grown HG.o (λk hk=>.inr (by injection hk with hk;exact hk.symm))⟩;refine(HG.o.block _ (by simp) (λe=>by injection e;omega)).trans ?_;have:=BZ (w.alloc (.cells #[.int .i64 K,.string X,.int .i64 Z,.slice A m c] 37)) (.cells (Hn K X Z A m c) 132);rw[show(w.alloc (.cells #[.int .i64 K,.string X,.int .i64 Z,.slice A m c] 37)).heap.size=w.heap.size+1 by simp]at this;exact this
theorem zq2(mb:Nat)(f:Nat->Option Nat)(x:Nat)(K:Int)(X:ByteArray)(Z:Int)(A:Option Addr)(m c:Nat)(w:World)(h:Ku w mb f):Calls prog 68 #[.map (some mb),.int .i64 (x:Nat),.agg #[.int .i64 K,.string X,.int .i64 Z,.slice A m c]] w (Nn IK mb f x (Hn K X Z A m c) w):=by
 have af:=h.lt;have h1:d_ IK Lq (w.alloc (.cells #[.int .i64 K,.string X,.int .i64 Z,.slice A m c] 37)) mb f:=d_.al h (BX _ _ _ af) (λ_ h=>h);have bw:(Instr.lookup 82 (.map (some mb)) (.int .i64 (x:Nat)) true).run prog (w.alloc (.cells #[.int .i64 K,.string X,.int .i64 Z,.slice A m c] 37))=.ok (.tuple #[Hc (f x),.bool (f x).isSome]) (w.alloc (.cells #[.int .i64 K,.string X,.int .i64 Z,.slice A m c] 37)) :=
  h1.look Rq underlying82 (Pp _) x trivial
 cases hf:f x with
 |some q =>
  rw[hf]at bw;replace bw:(Instr.lookup 82 (.map (some mb)) (.int .i64 (x:Nat)) true).run prog (w.alloc (.cells #[.int .i64 K,.string X,.int .i64 Z,.slice A m c] 37))=.ok (.tuple #[.pointer (some ⟨q,0,none⟩),.bool true]) (w.alloc (.cells #[.int .i64 K,.string X,.int .i64 Z,.slice A m c] 37)):=bw;have HF:=EP hf;have H1:=EP h1;clear h h1 hf;go_in;go_wp2_with fail;go_ret
  refine⟨q,rfl,?_,(λq' hq=>by rw[HF.o]at hq;injection hq),(λhn=>by rw[HF.o]at hn;cases hn),(b_.refl (only mb) w).alloc _⟩;have:(λy=>if y=x then some q else f y)=f:=funext λy=>by
   by_cases hy:y=x
   ·rw[Ch hy,hy,HF.o]
   ·rw[Cg hy]
  rw[this];exact H1.o
 |none =>
  rw[hf]at bw;replace bw:(Instr.lookup 82 (.map (some mb)) (.int .i64 (x:Nat)) true).run prog (w.alloc (.cells #[.int .i64 K,.string X,.int .i64 Z,.slice A m c] 37))=.ok (.tuple #[.pointer none,.bool false]) (w.alloc (.cells #[.int .i64 K,.string X,.int .i64 Z,.slice A m c] 37)):=bw;have bL:d_ IK Lq ((w.alloc (.cells #[.int .i64 K,.string X,.int .i64 Z,.slice A m c] 37)).alloc (.cells #[.int .i64 K,.string X,.int .i64 Z,.slice A m c,.slice none 0 0,.pointer none,.bool false,.bool false,.int .i64 0] 132)) mb f:=h1.al (BX _ _ _ (by simp;omega)) (λ_ h=>h);obtain⟨w1,aC,aT,aS,-⟩:=bL.store Rq underlying82 x (w.heap.size+1) trivial;have fe:(Instr.mapUpdate 82 (.map (some mb)) (.int .i64 (x:Nat)) (.pointer (some ⟨w.heap.size+1,0,none⟩))).run prog ((w.alloc (.cells #[.int .i64 K,.string X,.int .i64 Z,.slice A m c] 37)).alloc (.cells #[.int .i64 K,.string X,.int .i64 Z,.slice A m c,.slice none 0 0,.pointer none,.bool false,.bool false,.int .i64 0] 132))=.ok () w1:=aC;have HF:=EP hf;have HM:=EP aT;have HG:=EP aS;clear h h1 hf bL aC aT aS;go_in;go_wp2_with fail;go_ret
  refine⟨w.heap.size+1,rfl,HM.o,(λq' hq=>by rw[HF.o]at hq;cases hq),λ_=>⟨by omega,?_⟩,(((b_.refl (only mb) w).alloc _).alloc _).grown HG.o (λk hk=>.inr (by injection hk with hk;exact hk.symm))⟩;refine(HG.o.block _ (by simp) (λe=>by injection e;omega)).trans ?_;have:=BZ (w.alloc (.cells #[.int .i64 K,.string X,.int .i64 Z,.slice A m c] 37)) (.cells (Hn K X Z A m c) 132);rw[show(w.alloc (.cells #[.int .i64 K,.string X,.int .i64 Z,.slice A m c] 37)).heap.size=w.heap.size+1 by simp]at this;exact this
structure Nd where
 kd:Nat
 nm:ByteArray
 n:Nat
 kids:List Nat
 h_:Option Nat
 new:Bool
structure Dy where
 A:Value
 fl:Bool
 sr:Int
 row:Nat
def tR(w:World)(p:Nat)(x:Nd)(d:Dy):Prop :=
 ∃A c,ar w p 132 #[.int .i64 (x.kd:Nat),.string x.nm,.int .i64 (x.n:Nat),d.A,.slice A x.kids.length c,Hc x.h_,.bool x.new,.bool d.fl,.int .i64 d.sr] /\
  (x.kids≠[]->A=some ⟨d.row,0,none⟩/\∃cur,w.heap[d.row]?=some (.cells cur 75 (0,0))/\∀(j q:Nat),x.kids[j]?=some q->cur[j]?=some (PK q))
theorem tR.al {w w':World} {p:Nat} {x:Nd} {d:Dy}(h:tR w p x d)(h1:w'.heap[p]?=w.heap[p]?)(h2:x.kids≠[]->w'.heap[d.row]?=w.heap[d.row]?):tR w' p x d:=by
 obtain⟨A,c,hb,hr⟩:=h;refine⟨A,c,h1.trans hb,λhk=>?_⟩;obtain⟨e,cur,hc,hq⟩:=hr hk;exact⟨e,cur,(h2 hk).trans hc,hq⟩
theorem tR.lt {w:World} {p:Nat} {x:Nd} {d:Dy}(h:tR w p x d):p<w.heap.size:=by
 obtain⟨A,c,hb,_⟩:=h;exact hb.lt
theorem tR.Jw {w:World} {p:Nat} {x:Nd} {d:Dy}(h:tR w p x d)(hk:x.kids≠[]):d.row<w.heap.size:=by
 obtain⟨A,c,_,hr⟩:=h;obtain⟨_,cur,hc,_⟩:=hr hk;exact(BV.1 hc).1
theorem tR.laid {w:World} {p:Nat} {x:Nd} {d:Dy}(h:tR w p x d):e_ w p:=by
 obtain⟨A,c,hb,_⟩:=h;exact hb.laid
def l_(w:World)(G:Nat->Option Nd)(D:Nat->Dy):Prop:=∀p x,G p=some x->tR w p x (D p)
theorem l_.same {w w':World} {G:Nat->Option Nd} {D:Nat->Dy}(h:l_ w G D)(hk:∀k,k<w.heap.size->(∃cs t,w.heap[k]?=some (.cells cs t (0,0)))->w'.heap[k]?=w.heap[k]?):l_ w' G D :=
 λp x hx=>(h p x hx).al (by obtain⟨A,c,hb,_⟩:=h p x hx;exact hk p hb.lt ⟨_,_,hb⟩) (λhn=>by
  obtain⟨A,c,_,hr⟩:=h p x hx;obtain⟨_,cur,hc,_⟩:=hr hn;exact hk _ (BV.1 hc).1 ⟨_,_,hc⟩)
def Gn {κ α:Type} [DecidableEq κ](f:κ->α)(x:κ)(v:α):κ->α:=λy=>if y=x then v else f y
theorem Gm {κ α:Type} [DecidableEq κ](f:κ->α)(x:κ)(v:α):Gn f x v x=v:=Ch rfl
theorem Fk {κ α:Type} [DecidableEq κ](f:κ->α)(x:κ)(v:α)(y:κ)(h:y≠x):Gn f x v y=f y:=Cg h
inductive FF (G:Nat->Option Nd) (U:Nat->Option Nat):(Name->Option Nat)->Nat->Ty->List Nat->Prop
 |var (V:Name->Option Nat) (p:Nat) (x:Name):V x=some p->FF G U V p (.var x) []
 |mt (V:Name->Option Nat) (p:Nat) (n:Nat):U n=some p->FF G U V p (.mt n) []
 |app (V:Name->Option Nat) (p:Nat) (t:Ty) (ps:List Nat) (aP:List (List Nat)):kd t=3\/kd t=4->G p=some ⟨kd t,ER t,0,ps,none,false⟩->ps.length=(kids t).length->aP.length=(kids t).length ->
   (∀(i q:Nat)(u:Ty)(ns:List Nat),ps[i]?=some q->(kids t)[i]?=some u->aP[i]?=some ns->FF G U V q u ns)->FF G U V p t (p::aP.flatten)
 |all (V:Name->Option Nat) (p:Nat) (x:Name) (t:Ty) (q c:Nat) (ns:List Nat):G p=some ⟨5,⟨x.toArray⟩,0,[q],some c,false⟩->G c=some ⟨1,⟨x.toArray⟩,0,[],none,true⟩->FF G U (Gn V x (some c)) q t ns->FF G U V p (.all x t) (p::c::ns)
theorem FF.more {G G':Nat->Option Nd} {U U':Nat->Option Nat} {V V':Name->Option Nat} {p:Nat} {t:Ty} {ns:List Nat}(h:FF G U V p t ns)(hG:∀q x,G q=some x->G' q=some x)(hU:∀n q,U n=some q->U' n=some q)(hV:∀x q,V x=some q->V' x=some q):FF G' U' V' p t ns:=by
 induction h generalizing V' with
 |var V p x h=>exact .var _ _ _ (hV _ _ h)
 |mt V p n h=>exact .mt _ _ _ (hU _ _ h)
 |app V p t ps aP h1 h2 h3 h4 h5 ih=>exact .app _ _ _ ps aP h1 (hG _ _ h2) h3 h4 (λi q u ns a b c=>ih i q u ns a b c hV)
 |all V p x t q c ns h1 h2 h3 ih =>
  refine .all _ _ _ _ q c ns (hG _ _ h1) (hG _ _ h2) (ih λy q hy=>?_);by_cases bU:y=x
  ·rw[bU,Gm]at hy ⊢;exact hy
  ·rw[Fk _ _ _ _ bU]at hy ⊢;exact hV y q hy
structure Lays (w:World) (mv mu:Nat) (G:Nat->Option Nd) (D:Nat->Dy) (V:Name->Option Nat) (U:Nat->Option Nat):Prop where
 ms:Jc w mv V
 mi:Ku w mu U
 pd:l_ w G D
 vn:∀x p,V x=some p->∃nw,G p=some ⟨1,⟨x.toArray⟩,0,[],none,nw⟩
 un:∀n p,U n=some p->G p=some ⟨2,⟨#[]⟩,n,[],none,false⟩
 dn:∀p x,G p=some x->(D p).fl=false/\(D p).sr=0/\∃a m c,(D p).A=.slice a m c
theorem Lays.al {w w':World} {mv mu:Nat} {G:Nat->Option Nd} {D:Nat->Dy} {V:Name->Option Nat} {U:Nat->Option Nat}(h:Lays w mv mu G D V U)(hk:∀k,k<w.heap.size->w'.heap[k]?=w.heap[k]?):Lays w' mv mu G D V U where
 ms:=d_.al h.ms (hk _ (d_.lt h.ms)) (λ_ h=>h)
 mi:=d_.al h.mi (hk _ (d_.lt h.mi)) (λ_ h=>h)
 pd:=h.pd.same λk hl _=>hk k hl
 vn:=h.vn
 un:=h.un
 dn:=h.dn
theorem Lays.lt {w:World} {mv mu:Nat} {G:Nat->Option Nd} {D:Nat->Dy} {V:Name->Option Nat} {U:Nat->Option Nat}(h:Lays w mv mu G D V U) {p:Nat} {x:Nd}(hp:G p=some x):p<w.heap.size:=(h.pd p x hp).lt
structure G6 (lo hi:Nat) (G G':Nat->Option Nd) (D D':Nat->Dy) (V V':Name->Option Nat) (U U':Nat->Option Nat):Prop where
 GD:∀q,q<lo->G' q=G q/\D' q=D q
 new:∀q x,G' q=some x->lo<=q->q<hi/\(x.kids≠[]->lo<=(D' q).row)
 vx:∀x p,V x=some p->V' x=some p
 ux:∀n p,U n=some p->U' n=some p
 vn:∀x p,V' x=some p->V x=some p\/V x=none/\G' p=some ⟨1,⟨x.toArray⟩,0,[],none,false⟩
theorem G6.refl {lo hi:Nat} {G:Nat->Option Nd} {D:Nat->Dy} {V:Name->Option Nat} {U:Nat->Option Nat}(h:∀q x,G q=some x->q<lo):G6 lo hi G G D D V V U U where
 GD _ _:=⟨rfl,rfl⟩
 new q x hx hl:=by have:=h q x hx;omega
 vx _ _ h:=h
 ux _ _ h:=h
 vn _ _ h:=.inl h
theorem G6.trans {lo vY hi:Nat} {G G1 G2:Nat->Option Nd} {D D1 D2:Nat->Dy} {V V1 V2:Name->Option Nat} {U U1 U2:Nat->Option Nat}(h:G6 lo vY G G1 D D1 V V1 U U1)(k:G6 vY hi G1 G2 D1 D2 V1 V2 U1 U2)(hl:lo<=vY)(hm:vY<=hi)
  (hv:∀x p,V1 x=some p->p<vY):G6 lo hi G G2 D D2 V V2 U U2 where
 GD q hq:=⟨(k.GD q (by omega)).1.trans (h.GD q hq).1,(k.GD q (by omega)).2.trans (h.GD q hq).2⟩
 new q x hx ku:=by
  by_cases WT:q<vY
  ·obtain⟨e1,e2⟩:=k.GD q WT
   rw[e1]at hx;obtain⟨h1,h2⟩:=h.new q x hx ku;exact⟨by omega,λhk=>by rw[e2];exact h2 hk⟩
  ·obtain⟨h1,h2⟩:=k.new q x hx (by omega)
   exact⟨h1,λhk=>by have:=h2 hk;omega⟩
 vx x p hx:=k.vx x p (h.vx x p hx)
 ux n p hn:=k.ux n p (h.ux n p hn)
 vn x p hx:=by
  rcases k.vn x p hx with h1|⟨h1,h2⟩
  ·rcases h.vn x p h1 with h3|⟨h3,h4⟩
   ·exact .inl h3
   ·exact .inr ⟨h3,by rw[(k.GD p (hv x p h1)).1];exact h4⟩
  ·refine .inr ⟨?_,h2⟩
   cases jK:V x with
   |none=>rfl
   |some q=>rw[h.vx x q jK]at h1;cases h1
theorem G6.gx {lo hi:Nat} {G G':Nat->Option Nd} {D D':Nat->Dy} {V V':Name->Option Nat} {U U':Nat->Option Nat}(h:G6 lo hi G G' D D' V V' U U')(hl:∀q x,G q=some x->q<lo):∀q x,G q=some x->G' q=some x :=
 λq x hx=>by rw[(h.GD q (hl q x hx)).1];exact hx
def EV(mv mu:Nat)(G:Nat->Option Nd)(D:Nat->Dy)(V:Name->Option Nat)(U:Nat->Option Nat)(t:Ty)(w:World)(e:Ending)(w':World):Prop :=
 ∃p ns G' D' V' U',e=.returned (.pointer (some ⟨p,0,none⟩))/\Lays w' mv mu G' D' V' U'/\G6 w.heap.size w'.heap.size G G' D D' V V' U U'/\FF G' U' V' p t ns/\ns.Nodup/\(∀q∈ns,w.heap.size<=q/\q<w'.heap.size)/\b_ (λg=>g=mv\/g=mu) w w'
def UX(n b:Nat)(mv mu:Nat)(S:Nat->Prop):Prop :=
 ∀(t:Ty) (v:Value) (w:World) (sl mk sr:Value) (G:Nat->Option Nd) (D:Nat->Dy) (V:Name->Option Nat) (U:Nat->Option Nat),t.size<=n->ar w b 85 #[sl,.map (some mv),.map (some mu),mk,sr]->Lays w mv mu G D V U->mv≠mu->nc S w t v ->
  (∀g,S g->g<w.heap.size/\g≠mv/\g≠mu)->Nm t->Calls prog 33 #[.pointer (some ⟨b,0,none⟩),v] w (EV mv mu G D V U t w)
end
end Go.Proofs.YtfafilmklhnngaaGreatDoor
