import Derived.Test.YtfafilmklhnngaaGreatDoorBkT
import Derived.Shelf.Abstract
set_option maxHeartbeats 12800000
namespace Go.Proofs.YtfafilmklhnngaaGreatDoor
open Go.RowKit Lx Tx Go.Maps Go.WideMaps Go.Shelf
set_option maxRecDepth 100000
theorem size_alloc(w:World)(o:Obj):(w.alloc o).heap.size=w.heap.size+1:=by simp
theorem zaZ(w:World)(o0 o1:Obj):((w.alloc o0).alloc o1).heap[w.heap.size]?=some o0/\((w.alloc o0).alloc o1).heap[w.heap.size+1]?=some o1/\((w.alloc o0).alloc o1).heap.size=w.heap.size+2/\Below w.heap.size w ((w.alloc o0).alloc o1) :=
 have s1:=size_alloc w o0;⟨(Below.heap_alloc _ _ _ (by omega)).trans (heap_alloc_new w o0),s1▸heap_alloc_new (w.alloc o0) o1,(size_alloc _ _).trans (by omega),((Below.refl _ w).alloc (Ai _) _).alloc (by omega) _⟩
theorem zcw(w:World)(o0 o1 o2:Obj):(((w.alloc o0).alloc o1).alloc o2).heap[w.heap.size]?=some o0/\(((w.alloc o0).alloc o1).alloc o2).heap[w.heap.size+1]?=some o1/\(((w.alloc o0).alloc o1).alloc o2).heap[w.heap.size+1+1]?=some o2 /\
  (((w.alloc o0).alloc o1).alloc o2).heap.size=w.heap.size+3/\Below w.heap.size w (((w.alloc o0).alloc o1).alloc o2):=by
 obtain⟨h0,h1,hs,hb⟩:=zaZ w o0 o1;exact⟨(Below.heap_alloc _ _ _ (by omega)).trans h0,(Below.heap_alloc _ _ _ (by omega)).trans h1,by have:=heap_alloc_new ((w.alloc o0).alloc o1) o2;rw[hs]at this;exact this,(size_alloc _ _).trans (by omega),hb.alloc (by omega) _⟩
theorem zcU(w:World)(o0 o1 o2 o3:Obj):((((w.alloc o0).alloc o1).alloc o2).alloc o3).heap[w.heap.size]?=some o0/\((((w.alloc o0).alloc o1).alloc o2).alloc o3).heap[w.heap.size+1]?=some o1 /\
  ((((w.alloc o0).alloc o1).alloc o2).alloc o3).heap[w.heap.size+1+1]?=some o2/\((((w.alloc o0).alloc o1).alloc o2).alloc o3).heap[w.heap.size+1+1+1]?=some o3/\((((w.alloc o0).alloc o1).alloc o2).alloc o3).heap.size=w.heap.size+4 /\
  Below w.heap.size w ((((w.alloc o0).alloc o1).alloc o2).alloc o3):=by
 obtain⟨h0,h1,h2,hs,hb⟩:=zcw w o0 o1 o2;exact⟨(Below.heap_alloc _ _ _ (by omega)).trans h0,(Below.heap_alloc _ _ _ (by omega)).trans h1,(Below.heap_alloc _ _ _ (by omega)).trans h2,by have:=heap_alloc_new (((w.alloc o0).alloc o1).alloc o2) o3;rw[hs]at this;exact this,(size_alloc _ _).trans (by omega),hb.alloc (by omega) _⟩
theorem ownsMade {H:Type} {P:Program} {k:TypeId} {R:Value->Option (DataW H × List MemPlace)} {w:World} {b:Nat}(h:w.heap[b]?=some (.map #[] 0)):w.ownsMap P k R b 0 (.map []) :=
 ⟨#[],0,h,⟨by simp,MapKept.stamped_empty 0,by simp⟩,Ai _,rfl⟩
theorem MapE.laid {V:Type}(m:MK V) {w:World} {b:Nat}(h:w.heap[b]?=some (.map #[] 0)):MapE m w b []:=⟨0,Ai _,ownsMade h⟩
theorem zhf {σ:Type}(k:Nat)(cN:Array Value)(I:Nat->σ->(Nat->Prop)->World->Prop)(g:Ty->σ->σ)(hI:Inv I)(ek:∀args w,(callFunc k args).run Tryz.prog w=.ok (.enter k args) w)(HD:Doer k cN I g)
  (c:Nat)(s:σ)(M:Nat->Prop)(t:Ty)(S:Nat->Prop)(v:Value)(w:World)(hi:I c s M w)(hv:RdV S w t v)(hS:∀g,S g->g<w.heap.size/\¬M g)(az:Nm t)(aD:t.size<=1000000)(hc:c+2*t.size<=10000000):Calls Tryz.prog 63 #[v,fnV k cN] w λe w'=>e=.returned (.tuple #[])/\∃M',I (c+2*t.size) (thr (atLeaf g) (λ_ _ s=>s) [] t s) M' w'/\(∀g,M' g->M g\/w.heap.size<=g)/\Chg M w w':=by
 obtain⟨K,X,Z,A,m,cp,rfl,-,-,-,-,-⟩:=hv.parts;have iI:∀(fn:Fn) (first cap:Array Value) (w:World),(Instr.makeFunc fn first cap).run Tryz.prog w=.ok (.func fn first cap) w:=λ_ _ _ _=>rfl;have HI:=CS hi;have HV:=CS hv;have HS:=CS hS;have bK:=CS az;have aC:=CS (hI.lt _ _ _ _ hi);have dY:∀w,(Instr.makeMap 116 none).run Tryz.prog w=.ok (.map (some w.heap.size)) (w.alloc (.map #[] 0)):=λ_=>rfl;clear hi hv hS az;unfold fnV;go_enter Tryz.func63,Tryz.ntmps63
 go_wp2_with fail
 obtain⟨_,h1,h2,h3,en,bl⟩:=zcU w (.cells #[.int .i64 K,.string X,.int .i64 Z,.slice A m cp] 37) (.cells #[.func (.func k) #[] cN] 125) (.map #[] 0) (.cells #[.map (some (w.heap.size+1+1))] 116);have rj:=hI.keep _ _ _ _ _ HI.out bl.size (λg hg=>bl.block g (aC.out g hg));have kB:=HV.out.keep (λ_ h=>h) (λg hg=>bl.block g (HS.out g hg).1);have hT:=zjQ t.size 109 111 #[.pointer (some ⟨w.heap.size+1+1+1,0,none⟩),.pointer (some ⟨w.heap.size+1,0,none⟩)] #[] (w.heap.size+1+1)
  (With2 I (w.heap.size+1+1+1) (w.heap.size+1) #[.map (some (w.heap.size+1+1))] #[fnV k cN] 116 125) (atLeaf g) (λ_ _ s=>s) (With2.inv hI _ _ _ _ _ _)
  (enters_of Tryz.func109 (by kernel_rfl) rfl) (enters_of Tryz.func111 (by kernel_rfl) rfl) (znG k cN _ _ _ I g hI ek HD)
  (zim 111 _ _ (With2.inv hI _ _ _ _ _ _) zkH)
  c s (λg=>M g\/g=w.heap.size+1+1+1\/g=w.heap.size+1) [] t S _ _ (Ai _) aD
  ⟨M,λ_=>Iff.rfl,rj,λh=>by have:=aC.out _ h;omega,λh=>by have:=aC.out _ h;omega,h3,h1⟩ (MapE.laid mkInt h2) (λh=>by
   rcases h with h|h|h
   ·have:=aC.out _ h;omega
   ·omega
   ·omega) kB (λg hg=>by
   obtain⟨x1,x2⟩:=HS.out g hg;refine⟨by omega,λh=>?_,by omega⟩;rcases h with h|h|h
   ·exact x2 h
   ·omega
   ·omega) bK.out (by omega) (by simp;omega) trivial
 unfold fnV at hT;refine hT.mono ?_;rintro e w1 ⟨rfl,M1,⟨M',fi,i1,-⟩,-,fY,b1⟩;have hr:∀g,M' g->M g\/w.heap.size<=g:=λg hg=>by
  rcases fY g ((fi g).2 (.inl hg)) with h|h
  ·rcases h with h|h|h
   ·exact .inl h
   ·exact .inr (by omega)
   ·exact .inr (by omega)
  ·exact .inr (by omega)
 have i2:=hI.mono _ _ _ _ _ i1 (BP (show c+2*t.size-0=c+2*t.size by omega));have nE:Chg M w w1:=(Chg.of_below bl).trans' b1 (λg hg h=>by
  rcases h with(h|h|h)|h
  ·exact h
  ·omega
  ·omega
  ·omega)
 have I2:=CS i2;have HR:=CS hr;have ov:=CS nE;clear hT rj kB h1 h2 h3 bl i1 i2 hr nE b1 fi fY;go_wp2_with fail
 first|go_end0|refine bodyPost_ret (results_none rfl _ _ _) rfl ?_
 exact⟨rfl,M',I2.out,HR.out,ov.out⟩
end Go.Proofs.YtfafilmklhnngaaGreatDoor
namespace Go.Proofs.YtfafilmklhnngaaGreatDoor
open Go.RowKit Lx Tx Go.Maps Go.WideMaps Go.Shelf
set_option maxRecDepth 100000
end Go.Proofs.YtfafilmklhnngaaGreatDoor
