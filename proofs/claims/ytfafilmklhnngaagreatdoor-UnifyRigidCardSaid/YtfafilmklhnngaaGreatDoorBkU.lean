import Derived.Test.YtfafilmklhnngaaGreatDoorBkB
import Derived.Test.YtfafilmklhnngaaGreatDoorBkS
import Derived.Laws.EntriesVeiled
set_option maxHeartbeats 12800000
namespace Go.Proofs.YtfafilmklhnngaaGreatDoor
open Go.RowKit Lx Tx Go.Maps Go.WideMaps
set_option maxRecDepth 100000
abbrev okT {κ:Type} : World->κ->Prop:=λ_ _=>True
def MapS(w:World)(b:Nat)(f:Name->Option Nat):Prop:=MapK SK okT w b f
def MapI(w:World)(b:Nat)(f:Nat->Option Nat):Prop:=MapK IK okT w b f
def LaidQ(w:World)(b:Nat):Prop:=∃cs,w.heap[b]?=some (.cells cs 132 (0,0))
theorem LaidQ.any {w:World} {b:Nat}(h:LaidQ w b):Laid w b:=by obtain⟨cs,h⟩:=h;exact⟨cs,_,h⟩
def MapQ(w:World)(b:Nat)(f:Nat->Option Nat):Prop:=MapK PK LaidQ w b f
theorem keyS:KeyOK Tryz.prog 9 SK okT:=strKeys Tryz.underlying9
theorem keyI:KeyOK Tryz.prog 3 IK okT:=intKeys Tryz.underlying3
theorem infoPart:(Tryz.prog.info? 132).map (λi=>i.size)=some 9:=by kernel_rfl
theorem keyQ0:KeyOK Tryz.prog 75 PK Laid:=by
 cases h:Tryz.prog.info? 132 with
 |none=>have:=infoPart;rw[h]at this;cases this
 |some j =>
  refine ptrKeys Tryz.underlying75 h ?_;have:=infoPart;rw[h]at this
  simp only[BG,Bi]at this;omega
theorem zfd(w:World):(zeroValue 75).run Tryz.prog w=.ok (.pointer none) w:=by kernel_rfl
theorem Blk.laid {w:World} {g:Nat} {cs:Array Value}(h:Blk w g 132 cs):LaidQ w g:=⟨cs,h⟩
theorem keyQ:KeyOK Tryz.prog 75 PK LaidQ where
 find w x es l hx hl h:=keyQ0.find w x es l hx.any (λp hp=>(hl p hp).any) h
 check:=keyQ0.check
 stays:=keyQ0.stays
 set w b es fj c c' x hb h:=by
  obtain⟨cs,h⟩:=h;refine⟨cs,?_⟩;rw[ChangeMaps.heap_setBlock_other hb _ (λe=>by rw[e,hb]at h;cases h)]
  exact h
def CovP(w:World)(N mb:Nat)(x:Name)(o:Option Nat):Prop :=
 Blk w N 81 #[.map (some mb)]/\Blk w (N+1) 9 #[SK x]/\Blk w (N+2) 75 #[optV o]/\Blk w (N+3) 4 #[.bool o.isSome]
theorem CovP.keep {w w':World} {N mb:Nat} {x:Name} {o:Option Nat}(h:CovP w N mb x o)(hk:∀k,N<=k->k<=N+3->w'.heap[k]?=w.heap[k]?):CovP w' N mb x o :=
 ⟨h.1.same (hk _ (by omega) (by omega)),h.2.1.same (hk _ (by omega) (by omega)),h.2.2.1.same (hk _ (by omega) (by omega)),h.2.2.2.same (hk _ (by omega) (by omega))⟩
def ziQ(N:Nat):Value:=.func (.func 116) #[] #[.pointer (some ⟨N+3,0,none⟩),.pointer (some ⟨N+2,0,none⟩),.pointer (some ⟨N,0,none⟩),.pointer (some ⟨N+1,0,none⟩)]
theorem zn4(mb:Nat)(f:Name->Option Nat)(x:Name)(p:Nat)(w:World)(h:MapS w mb f):Calls Tryz.prog 69 #[.map (some mb),.string ⟨x.toArray⟩,.pointer (some ⟨p,0,none⟩)] w λe w'=>e=.returned (ziQ w.heap.size)/\CovP w' w.heap.size mb x (f x)/\MapS w' mb (λy=>if y=x then some p else f y)/\Chg (only mb) w w':=by
 have ah:=h.lt;have h1:MapK SK okT ((w.alloc (.cells #[.map (some mb)] 81)).alloc (.cells #[.string ⟨x.toArray⟩] 9)) mb f :=
  MapK.keep h ((Below.heap_alloc _ _ _ (by simp;omega)).trans (Below.heap_alloc _ _ _ ah)) (λ_ h=>h)
 have bV:(Instr.lookup 81 (.map (some mb)) (.string ⟨x.toArray⟩) true).run Tryz.prog ((w.alloc (.cells #[.map (some mb)] 81)).alloc (.cells #[.string ⟨x.toArray⟩] 9))=.ok (.tuple #[optV (f x),.bool (f x).isSome]) ((w.alloc (.cells #[.map (some mb)] 81)).alloc (.cells #[.string ⟨x.toArray⟩] 9)) :=
  h1.look keyS Tryz.underlying81 (zfd _) x trivial
 obtain⟨o,ho⟩:∃o:Option Addr,optV (f x)=.pointer o:=by
  cases f x with
  |none=>exact⟨none,rfl⟩
  |some u=>exact⟨_,rfl⟩
 obtain⟨q,hq⟩:∃q,(f x).isSome=q:=⟨_,rfl⟩;unfold CovP;rw[ho,hq]at bV
 rw[ho,hq]
 have cB:MapK SK okT ((((w.alloc (.cells #[.map (some mb)] 81)).alloc (.cells #[.string ⟨x.toArray⟩] 9)).alloc (.cells #[.pointer o] 75)).alloc (.cells #[.bool q] 4)) mb f :=
  h1.keep ((Below.heap_alloc _ _ _ (by simp;omega)).trans (Below.heap_alloc _ _ _ (by simp;omega))) (λ_ h=>h)
 obtain⟨w1,aA,aX,aY,aD⟩:=cB.store keyS Tryz.underlying81 x p trivial;have eD:(Instr.mapUpdate 81 (.map (some mb)) (.string ⟨x.toArray⟩) (.pointer (some ⟨p,0,none⟩))).run Tryz.prog ((((w.alloc (.cells #[.map (some mb)] 81)).alloc (.cells #[.string ⟨x.toArray⟩] 9)).alloc (.cells #[.pointer o] 75)).alloc (.cells #[.bool q] 4))=.ok () w1:=aA;have HM:=CS aX;have HG:=CS aY;have iI:∀(fn:Fn) (first cap:Array Value) (w:World),(Instr.makeFunc fn first cap).run Tryz.prog w=.ok (.func fn first cap) w:=λ_ _ _ _=>rfl;clear h h1 ho hq cB aA aX aY aD;go_enter Tryz.func69,Tryz.ntmps69
 go_wp2_with fail
 go_ret
 have hk:∀k,k<w.heap.size+4->k≠mb->w1.heap[k]? =((((w.alloc (.cells #[.map (some mb)] 81)).alloc (.cells #[.string ⟨x.toArray⟩] 9)).alloc (.cells #[.pointer o] 75)).alloc (.cells #[.bool q] 4)).heap[k]?:=λk hk af=>HG.out.block k (by simp;omega) (λe=>af (by injection e));refine⟨rfl,⟨?_,?_,?_,?_⟩,HM.out,?_⟩
 ·exact(hk _ (by omega) (by omega)).trans ((((Blk.alloc (heap_alloc_new w _) _).alloc _).alloc _))
 ·refine(hk _ (by omega) (by omega)).trans ?_
  have:=heap_alloc_new (w.alloc (.cells #[.map (some mb)] 81)) (.cells #[.string ⟨x.toArray⟩] 9);rw[show(w.alloc (.cells #[.map (some mb)] 81)).heap.size=w.heap.size+1 by simp]at this
  exact(Blk.alloc this _).alloc _
 ·refine(hk _ (by omega) (by omega)).trans ?_
  have:=heap_alloc_new ((w.alloc (.cells #[.map (some mb)] 81)).alloc (.cells #[.string ⟨x.toArray⟩] 9)) (.cells #[.pointer o] 75);rw[show((w.alloc (.cells #[.map (some mb)] 81)).alloc (.cells #[.string ⟨x.toArray⟩] 9)).heap.size=w.heap.size+2 by simp]at this
  exact Blk.alloc this _
 ·refine(hk _ (by omega) (by omega)).trans ?_
  have:=heap_alloc_new (((w.alloc (.cells #[.map (some mb)] 81)).alloc (.cells #[.string ⟨x.toArray⟩] 9)).alloc (.cells #[.pointer o] 75)) (.cells #[.bool q] 4);rw[show(((w.alloc (.cells #[.map (some mb)] 81)).alloc (.cells #[.string ⟨x.toArray⟩] 9)).alloc (.cells #[.pointer o] 75)).heap.size=w.heap.size+3 by simp]at this
  exact this
 ·exact(((((Chg.refl (only mb) w).alloc _).alloc _).alloc _).alloc _).grown HG.out (λk hk=>.inr (by injection hk with hk;exact hk.symm))
theorem zkW(N mb:Nat)(f:Name->Option Nat)(x:Name)(o:Option Nat)(u:FrameMode)(w:World)(hc:CovP w N mb x o)(h:MapS w mb f):CallsD Tryz.prog 116 #[.pointer (some ⟨N+3,0,none⟩),.pointer (some ⟨N+2,0,none⟩),.pointer (some ⟨N,0,none⟩),.pointer (some ⟨N+1,0,none⟩)] u w λe u' w'=>u'=u/\e=.returned (.tuple #[])/\MapS w' mb (λy=>if y=x then o else f y)/\Chg (only mb) w w':=by
 obtain⟨h0,h1,h2,h3⟩:=hc;unfold SK at h1;obtain⟨a0,-,l0⟩:=zad h0;obtain⟨a1,-,l1⟩:=zad h1;obtain⟨a2,-,l2⟩:=zad h2;obtain⟨a3,-,l3⟩:=zad h3;clear h0 h1 h2 h3;cases o with
 |none =>
  replace a3:w.cell? ⟨N+3,0,none⟩=some (.bool false):=a3;obtain⟨w1,aA,aX,aY,-⟩:=MapK.drop h keyS Tryz.underlying81 x trivial 0 9;have eD:∀tt,Hid ((Builtin.delete_ #[81,9] tt #[.map (some mb),.string ⟨x.toArray⟩]).run Tryz.prog w=.ok (.tuple #[]) w1):=λtt=>CS aA;have HM:=CS aX;have HG:=CS aY;clear h a2 aA aX aY;go_enter_d Tryz.func116,Tryz.ntmps116
  go_wp2_with (at_delete;refine ziM _ w1 rfl _ _ _ _ rfl _ _ rfl rfl (eD _).out ?_)
  go_end0
  exact⟨rfl,HM.out,(Chg.refl (only mb) w).grown HG.out (λk hk=>.inr (by injection hk with hk;exact hk.symm))⟩
 |some y =>
  replace a3:w.cell? ⟨N+3,0,none⟩=some (.bool true):=a3;replace a2:w.cell? ⟨N+2,0,none⟩=some (.pointer (some ⟨y,0,none⟩)):=a2;obtain⟨w1,aA,aX,aY,-⟩:=MapK.store h keyS Tryz.underlying81 x y trivial;have eD:(Instr.mapUpdate 81 (.map (some mb)) (.string ⟨x.toArray⟩) (.pointer (some ⟨y,0,none⟩))).run Tryz.prog w=.ok () w1:=aA;have HM:=CS aX;have HG:=CS aY;clear h aA aX aY;go_enter_d Tryz.func116,Tryz.ntmps116
  go_wp2_with fail
  go_end0
  exact⟨rfl,HM.out,(Chg.refl (only mb) w).grown HG.out (λk hk=>.inr (by injection hk with hk;exact hk.symm))⟩
def partNew(K:Int)(X:ByteArray)(Z:Int)(A:Option Addr)(m c:Nat):Array Value:=#[.int .i64 K,.string X,.int .i64 Z,.slice A m c,.slice none 0 0,.pointer none,.bool false,.bool false,.int .i64 0]
def OneP {κ:Type} [DecidableEq κ](kv:κ->Value)(mb:Nat)(f:κ->Option Nat)(x:κ)(cs:Array Value)(w:World)(e:Ending)(w':World):Prop :=
 ∃p,e=.returned (.pointer (some ⟨p,0,none⟩))/\MapK kv okT w' mb (λy=>if y=x then some p else f y)/\(∀q,f x=some q->p=q)/\(f x=none->w.heap.size<=p/\Blk w' p 132 cs)/\Chg (only mb) w w'
theorem zpt(mb:Nat)(f:Name->Option Nat)(x:Name)(K:Int)(X:ByteArray)(Z:Int)(A:Option Addr)(m c:Nat)(w:World)(h:MapS w mb f):Calls Tryz.prog 67 #[.map (some mb),.string ⟨x.toArray⟩,.agg #[.int .i64 K,.string X,.int .i64 Z,.slice A m c]] w (OneP SK mb f x (partNew K X Z A m c) w):=by
 have ah:=h.lt;have h1:MapK SK okT (w.alloc (.cells #[.int .i64 K,.string X,.int .i64 Z,.slice A m c] 37)) mb f:=MapK.keep h (Below.heap_alloc _ _ _ ah) (λ_ h=>h);have bV:(Instr.lookup 81 (.map (some mb)) (.string ⟨x.toArray⟩) true).run Tryz.prog (w.alloc (.cells #[.int .i64 K,.string X,.int .i64 Z,.slice A m c] 37))=.ok (.tuple #[optV (f x),.bool (f x).isSome]) (w.alloc (.cells #[.int .i64 K,.string X,.int .i64 Z,.slice A m c] 37)) :=
  h1.look keyS Tryz.underlying81 (zfd _) x trivial
 cases hf:f x with
 |some q =>
  rw[hf]at bV
  replace bV:(Instr.lookup 81 (.map (some mb)) (.string ⟨x.toArray⟩) true).run Tryz.prog (w.alloc (.cells #[.int .i64 K,.string X,.int .i64 Z,.slice A m c] 37))=.ok (.tuple #[.pointer (some ⟨q,0,none⟩),.bool true]) (w.alloc (.cells #[.int .i64 K,.string X,.int .i64 Z,.slice A m c] 37)):=bV;have HF:=CS hf;have H1:=CS h1;clear h h1 hf;go_enter Tryz.func67,Tryz.ntmps67
  go_wp2_with fail
  go_ret
  refine⟨q,rfl,?_,(λq' hq=>by rw[HF.out]at hq;injection hq),(λhn=>by rw[HF.out]at hn;cases hn),(Chg.refl (only mb) w).alloc _⟩;have:(λy=>if y=x then some q else f y)=f:=funext λy=>by
   by_cases hy:y=x
   ·rw[Aq hy,hy,HF.out]
   ·rw[Am hy]
  rw[this]
  exact H1.out
 |none =>
  rw[hf]at bV
  replace bV:(Instr.lookup 81 (.map (some mb)) (.string ⟨x.toArray⟩) true).run Tryz.prog (w.alloc (.cells #[.int .i64 K,.string X,.int .i64 Z,.slice A m c] 37))=.ok (.tuple #[.pointer none,.bool false]) (w.alloc (.cells #[.int .i64 K,.string X,.int .i64 Z,.slice A m c] 37)):=bV;have cB:MapK SK okT ((w.alloc (.cells #[.int .i64 K,.string X,.int .i64 Z,.slice A m c] 37)).alloc (.cells #[.int .i64 K,.string X,.int .i64 Z,.slice A m c,.slice none 0 0,.pointer none,.bool false,.bool false,.int .i64 0] 132)) mb f:=h1.keep (Below.heap_alloc _ _ _ (by simp;omega)) (λ_ h=>h);obtain⟨w1,aA,aX,aY,-⟩:=cB.store keyS Tryz.underlying81 x (w.heap.size+1) trivial;have eD:(Instr.mapUpdate 81 (.map (some mb)) (.string ⟨x.toArray⟩) (.pointer (some ⟨w.heap.size+1,0,none⟩))).run Tryz.prog ((w.alloc (.cells #[.int .i64 K,.string X,.int .i64 Z,.slice A m c] 37)).alloc (.cells #[.int .i64 K,.string X,.int .i64 Z,.slice A m c,.slice none 0 0,.pointer none,.bool false,.bool false,.int .i64 0] 132))=.ok () w1:=aA;have HF:=CS hf;have HM:=CS aX;have HG:=CS aY;clear h h1 hf cB aA aX aY;go_enter Tryz.func67,Tryz.ntmps67
  go_wp2_with fail
  go_ret
  refine⟨w.heap.size+1,rfl,HM.out,(λq' hq=>by rw[HF.out]at hq;cases hq),λ_=>⟨by omega,?_⟩,(((Chg.refl (only mb) w).alloc _).alloc _).grown HG.out (λk hk=>.inr (by injection hk with hk;exact hk.symm))⟩;refine(HG.out.block _ (by simp) (λe=>by injection e;omega)).trans ?_;have:=heap_alloc_new (w.alloc (.cells #[.int .i64 K,.string X,.int .i64 Z,.slice A m c] 37)) (.cells (partNew K X Z A m c) 132);rw[show(w.alloc (.cells #[.int .i64 K,.string X,.int .i64 Z,.slice A m c] 37)).heap.size=w.heap.size+1 by simp]at this
  exact this
theorem zpu(mb:Nat)(f:Nat->Option Nat)(x:Nat)(K:Int)(X:ByteArray)(Z:Int)(A:Option Addr)(m c:Nat)(w:World)(h:MapI w mb f):Calls Tryz.prog 68 #[.map (some mb),.int .i64 (x:Nat),.agg #[.int .i64 K,.string X,.int .i64 Z,.slice A m c]] w (OneP IK mb f x (partNew K X Z A m c) w):=by
 have ah:=h.lt;have h1:MapK IK okT (w.alloc (.cells #[.int .i64 K,.string X,.int .i64 Z,.slice A m c] 37)) mb f:=MapK.keep h (Below.heap_alloc _ _ _ ah) (λ_ h=>h);have bV:(Instr.lookup 82 (.map (some mb)) (.int .i64 (x:Nat)) true).run Tryz.prog (w.alloc (.cells #[.int .i64 K,.string X,.int .i64 Z,.slice A m c] 37))=.ok (.tuple #[optV (f x),.bool (f x).isSome]) (w.alloc (.cells #[.int .i64 K,.string X,.int .i64 Z,.slice A m c] 37)) :=
  h1.look keyI Tryz.underlying82 (zfd _) x trivial
 cases hf:f x with
 |some q =>
  rw[hf]at bV
  replace bV:(Instr.lookup 82 (.map (some mb)) (.int .i64 (x:Nat)) true).run Tryz.prog (w.alloc (.cells #[.int .i64 K,.string X,.int .i64 Z,.slice A m c] 37))=.ok (.tuple #[.pointer (some ⟨q,0,none⟩),.bool true]) (w.alloc (.cells #[.int .i64 K,.string X,.int .i64 Z,.slice A m c] 37)):=bV;have HF:=CS hf;have H1:=CS h1;clear h h1 hf;go_enter Tryz.func68,Tryz.ntmps68
  go_wp2_with fail
  go_ret
  refine⟨q,rfl,?_,(λq' hq=>by rw[HF.out]at hq;injection hq),(λhn=>by rw[HF.out]at hn;cases hn),(Chg.refl (only mb) w).alloc _⟩;have:(λy=>if y=x then some q else f y)=f:=funext λy=>by
   by_cases hy:y=x
   ·rw[Aq hy,hy,HF.out]
   ·rw[Am hy]
  rw[this]
  exact H1.out
 |none =>
  rw[hf]at bV
  replace bV:(Instr.lookup 82 (.map (some mb)) (.int .i64 (x:Nat)) true).run Tryz.prog (w.alloc (.cells #[.int .i64 K,.string X,.int .i64 Z,.slice A m c] 37))=.ok (.tuple #[.pointer none,.bool false]) (w.alloc (.cells #[.int .i64 K,.string X,.int .i64 Z,.slice A m c] 37)):=bV;have cB:MapK IK okT ((w.alloc (.cells #[.int .i64 K,.string X,.int .i64 Z,.slice A m c] 37)).alloc (.cells #[.int .i64 K,.string X,.int .i64 Z,.slice A m c,.slice none 0 0,.pointer none,.bool false,.bool false,.int .i64 0] 132)) mb f:=h1.keep (Below.heap_alloc _ _ _ (by simp;omega)) (λ_ h=>h);obtain⟨w1,aA,aX,aY,-⟩:=cB.store keyI Tryz.underlying82 x (w.heap.size+1) trivial;have eD:(Instr.mapUpdate 82 (.map (some mb)) (.int .i64 (x:Nat)) (.pointer (some ⟨w.heap.size+1,0,none⟩))).run Tryz.prog ((w.alloc (.cells #[.int .i64 K,.string X,.int .i64 Z,.slice A m c] 37)).alloc (.cells #[.int .i64 K,.string X,.int .i64 Z,.slice A m c,.slice none 0 0,.pointer none,.bool false,.bool false,.int .i64 0] 132))=.ok () w1:=aA;have HF:=CS hf;have HM:=CS aX;have HG:=CS aY;clear h h1 hf cB aA aX aY;go_enter Tryz.func68,Tryz.ntmps68
  go_wp2_with fail
  go_ret
  refine⟨w.heap.size+1,rfl,HM.out,(λq' hq=>by rw[HF.out]at hq;cases hq),λ_=>⟨by omega,?_⟩,(((Chg.refl (only mb) w).alloc _).alloc _).grown HG.out (λk hk=>.inr (by injection hk with hk;exact hk.symm))⟩;refine(HG.out.block _ (by simp) (λe=>by injection e;omega)).trans ?_;have:=heap_alloc_new (w.alloc (.cells #[.int .i64 K,.string X,.int .i64 Z,.slice A m c] 37)) (.cells (partNew K X Z A m c) 132);rw[show(w.alloc (.cells #[.int .i64 K,.string X,.int .i64 Z,.slice A m c] 37)).heap.size=w.heap.size+1 by simp]at this
  exact this
structure Nd where
 kd:Nat
 nm:ByteArray
 n:Nat
 kids:List Nat
 con:Option Nat
 new:Bool
structure Dy where
 A:Value
 fl:Bool
 sr:Int
 row:Nat
def PartC(w:World)(p:Nat)(x:Nd)(d:Dy):Prop :=
 ∃A c,Blk w p 132 #[.int .i64 (x.kd:Nat),.string x.nm,.int .i64 (x.n:Nat),d.A,.slice A x.kids.length c,optV x.con,.bool x.new,.bool d.fl,.int .i64 d.sr] /\
  (x.kids≠[]->A=some ⟨d.row,0,none⟩/\∃cur,w.heap[d.row]?=some (.cells cur 75 (0,0))/\∀(j q:Nat),x.kids[j]?=some q->cur[j]?=some (PK q))
theorem PartC.keep {w w':World} {p:Nat} {x:Nd} {d:Dy}(h:PartC w p x d)(h1:w'.heap[p]?=w.heap[p]?)(h2:x.kids≠[]->w'.heap[d.row]?=w.heap[d.row]?):PartC w' p x d:=by
 obtain⟨A,c,hb,hr⟩:=h;refine⟨A,c,h1.trans hb,λhk=>?_⟩;obtain⟨e,cur,hc,hq⟩:=hr hk;exact⟨e,cur,(h2 hk).trans hc,hq⟩
theorem PartC.lt {w:World} {p:Nat} {x:Nd} {d:Dy}(h:PartC w p x d):p<w.heap.size:=by
 obtain⟨A,c,hb,_⟩:=h;exact hb.lt
theorem PartC.row_lt {w:World} {p:Nat} {x:Nd} {d:Dy}(h:PartC w p x d)(hk:x.kids≠[]):d.row<w.heap.size:=by
 obtain⟨A,c,_,hr⟩:=h;obtain⟨_,cur,hc,_⟩:=hr hk;exact(Aj.1 hc).1
theorem PartC.laid {w:World} {p:Nat} {x:Nd} {d:Dy}(h:PartC w p x d):LaidQ w p:=by
 obtain⟨A,c,hb,_⟩:=h;exact hb.laid
def PartsD(w:World)(G:Nat->Option Nd)(D:Nat->Dy):Prop:=∀p x,G p=some x->PartC w p x (D p)
theorem PartsD.same {w w':World} {G:Nat->Option Nd} {D:Nat->Dy}(h:PartsD w G D)(hk:∀k,k<w.heap.size->(∃cs t,w.heap[k]?=some (.cells cs t (0,0)))->w'.heap[k]?=w.heap[k]?):PartsD w' G D :=
 λp x hx=>(h p x hx).keep (by obtain⟨A,c,hb,_⟩:=h p x hx;exact hk p hb.lt ⟨_,_,hb⟩) (λhn=>by
  obtain⟨A,c,_,hr⟩:=h p x hx;obtain⟨_,cur,hc,_⟩:=hr hn;exact hk _ (Aj.1 hc).1 ⟨_,_,hc⟩)
def upn {κ α:Type} [DecidableEq κ](f:κ->α)(x:κ)(v:α):κ->α:=λy=>if y=x then v else f y
theorem zal {κ α:Type} [DecidableEq κ](f:κ->α)(x:κ)(v:α):upn f x v x=v:=Aq rfl
theorem zac {κ α:Type} [DecidableEq κ](f:κ->α)(x:κ)(v:α)(y:κ)(h:y≠x):upn f x v y=f y:=Am h
inductive LayT (G:Nat->Option Nd) (U:Nat->Option Nat):(Name->Option Nat)->Nat->Ty->List Nat->Prop
 |var (V:Name->Option Nat) (p:Nat) (x:Name):V x=some p->LayT G U V p (.var x) []
 |mt (V:Name->Option Nat) (p:Nat) (n:Nat):U n=some p->LayT G U V p (.mt n) []
 |app (V:Name->Option Nat) (p:Nat) (t:Ty) (ps:List Nat) (aN:List (List Nat)):kd t=3\/kd t=4->G p=some ⟨kd t,nmB t,0,ps,none,false⟩->ps.length=(kids t).length->aN.length=(kids t).length ->
   (∀(i q:Nat)(u:Ty)(ns:List Nat),ps[i]?=some q->(kids t)[i]?=some u->aN[i]?=some ns->LayT G U V q u ns)->LayT G U V p t (p::aN.flatten)
 |all (V:Name->Option Nat) (p:Nat) (x:Name) (t:Ty) (q c:Nat) (ns:List Nat):G p=some ⟨5,⟨x.toArray⟩,0,[q],some c,false⟩->G c=some ⟨1,⟨x.toArray⟩,0,[],none,true⟩->LayT G U (upn V x (some c)) q t ns->LayT G U V p (.all x t) (p::c::ns)
theorem LayT.more {G G':Nat->Option Nd} {U U':Nat->Option Nat} {V V':Name->Option Nat} {p:Nat} {t:Ty} {ns:List Nat}(h:LayT G U V p t ns)(hG:∀q x,G q=some x->G' q=some x)(hU:∀n q,U n=some q->U' n=some q)(hV:∀x q,V x=some q->V' x=some q):LayT G' U' V' p t ns:=by
 induction h generalizing V' with
 |var V p x h=>exact .var _ _ _ (hV _ _ h)
 |mt V p n h=>exact .mt _ _ _ (hU _ _ h)
 |app V p t ps aN h1 h2 h3 h4 h5 ih=>exact .app _ _ _ ps aN h1 (hG _ _ h2) h3 h4 (λi q u ns a b c=>ih i q u ns a b c hV)
 |all V p x t q c ns h1 h2 h3 ih =>
  refine .all _ _ _ _ q c ns (hG _ _ h1) (hG _ _ h2) (ih λy q hy=>?_);by_cases bR:y=x
  ·rw[bR,zal]at hy ⊢;exact hy
  ·rw[zac _ _ _ _ bR]at hy ⊢;exact hV y q hy
structure Lays (w:World) (mv mu:Nat) (G:Nat->Option Nd) (D:Nat->Dy) (V:Name->Option Nat) (U:Nat->Option Nat):Prop where
 ms:MapS w mv V
 mi:MapI w mu U
 pd:PartsD w G D
 vn:∀x p,V x=some p->∃nw,G p=some ⟨1,⟨x.toArray⟩,0,[],none,nw⟩
 un:∀n p,U n=some p->G p=some ⟨2,⟨#[]⟩,n,[],none,false⟩
 dn:∀p x,G p=some x->(D p).fl=false/\(D p).sr=0/\∃a m c,(D p).A=.slice a m c
theorem Lays.keep {w w':World} {mv mu:Nat} {G:Nat->Option Nd} {D:Nat->Dy} {V:Name->Option Nat} {U:Nat->Option Nat}(h:Lays w mv mu G D V U)(hk:∀k,k<w.heap.size->w'.heap[k]?=w.heap[k]?):Lays w' mv mu G D V U where
 ms:=MapK.keep h.ms (hk _ (MapK.lt h.ms)) (λ_ h=>h)
 mi:=MapK.keep h.mi (hk _ (MapK.lt h.mi)) (λ_ h=>h)
 pd:=h.pd.same λk hl _=>hk k hl
 vn:=h.vn
 un:=h.un
 dn:=h.dn
theorem Lays.lt {w:World} {mv mu:Nat} {G:Nat->Option Nd} {D:Nat->Dy} {V:Name->Option Nat} {U:Nat->Option Nat}(h:Lays w mv mu G D V U) {p:Nat} {x:Nd}(hp:G p=some x):p<w.heap.size:=(h.pd p x hp).lt
structure LExt (lo hi:Nat) (G G':Nat->Option Nd) (D D':Nat->Dy) (V V':Name->Option Nat) (U U':Nat->Option Nat):Prop where
 old:∀q,q<lo->G' q=G q/\D' q=D q
 new:∀q x,G' q=some x->lo<=q->q<hi/\(x.kids≠[]->lo<=(D' q).row)
 vx:∀x p,V x=some p->V' x=some p
 ux:∀n p,U n=some p->U' n=some p
 vn:∀x p,V' x=some p->V x=some p\/V x=none/\G' p=some ⟨1,⟨x.toArray⟩,0,[],none,false⟩
theorem LExt.refl {lo hi:Nat} {G:Nat->Option Nd} {D:Nat->Dy} {V:Name->Option Nat} {U:Nat->Option Nat}(h:∀q x,G q=some x->q<lo):LExt lo hi G G D D V V U U where
 old _ _:=⟨rfl,rfl⟩
 new q x hx hl:=by have:=h q x hx;omega
 vx _ _ h:=h
 ux _ _ h:=h
 vn _ _ h:=.inl h
theorem LExt.trans {lo uF hi:Nat} {G G1 G2:Nat->Option Nd} {D D1 D2:Nat->Dy} {V V1 V2:Name->Option Nat} {U U1 U2:Nat->Option Nat}(h:LExt lo uF G G1 D D1 V V1 U U1)(k:LExt uF hi G1 G2 D1 D2 V1 V2 U1 U2)(hl:lo<=uF)(hm:uF<=hi)
  (hv:∀x p,V1 x=some p->p<uF):LExt lo hi G G2 D D2 V V2 U U2 where
 old q hq:=⟨(k.old q (by omega)).1.trans (h.old q hq).1,(k.old q (by omega)).2.trans (h.old q hq).2⟩
 new q x hx jf:=by
  by_cases hqm:q<uF
  ·obtain⟨e1,e2⟩:=k.old q hqm
   rw[e1]at hx
   obtain⟨h1,h2⟩:=h.new q x hx jf;exact⟨by omega,λhk=>by rw[e2];exact h2 hk⟩
  ·obtain⟨h1,h2⟩:=k.new q x hx (by omega)
   exact⟨h1,λhk=>by have:=h2 hk;omega⟩
 vx x p hx:=k.vx x p (h.vx x p hx)
 ux n p hn:=k.ux n p (h.ux n p hn)
 vn x p hx:=by
  rcases k.vn x p hx with h1|⟨h1,h2⟩
  ·rcases h.vn x p h1 with h3|⟨h3,h4⟩
   ·exact .inl h3
   ·exact .inr ⟨h3,by rw[(k.old p (hv x p h1)).1];exact h4⟩
  ·refine .inr ⟨?_,h2⟩
   cases kC:V x with
   |none=>rfl
   |some q=>rw[h.vx x q kC]at h1;cases h1
theorem LExt.gx {lo hi:Nat} {G G':Nat->Option Nd} {D D':Nat->Dy} {V V':Name->Option Nat} {U U':Nat->Option Nat}(h:LExt lo hi G G' D D' V V' U U')(hl:∀q x,G q=some x->q<lo):∀q x,G q=some x->G' q=some x :=
 λq x hx=>by rw[(h.old q (hl q x hx)).1];exact hx
def PartPost(mv mu:Nat)(G:Nat->Option Nd)(D:Nat->Dy)(V:Name->Option Nat)(U:Nat->Option Nat)(t:Ty)(w:World)(e:Ending)(w':World):Prop :=
 ∃p ns G' D' V' U',e=.returned (.pointer (some ⟨p,0,none⟩))/\Lays w' mv mu G' D' V' U'/\LExt w.heap.size w'.heap.size G G' D D' V V' U U'/\LayT G' U' V' p t ns/\ns.Nodup/\(∀q∈ns,w.heap.size<=q/\q<w'.heap.size)/\Chg (λg=>g=mv\/g=mu) w w'
def ziR(n b:Nat)(mv mu:Nat)(S:Nat->Prop):Prop :=
 ∀(t:Ty) (v:Value) (w:World) (sl mk sr:Value) (G:Nat->Option Nd) (D:Nat->Dy) (V:Name->Option Nat) (U:Nat->Option Nat),t.size<=n->Blk w b 85 #[sl,.map (some mv),.map (some mu),mk,sr]->Lays w mv mu G D V U->mv≠mu->RdV S w t v ->
  (∀g,S g->g<w.heap.size/\g≠mv/\g≠mu)->Nm t->Calls Tryz.prog 33 #[.pointer (some ⟨b,0,none⟩),v] w (PartPost mv mu G D V U t w)
end Go.Proofs.YtfafilmklhnngaaGreatDoor
