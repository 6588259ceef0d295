import Derived.Test.YtfafilmklhnngaaGreatDoorBiT
import Derived.Shelf.Abstract
set_option maxHeartbeats 12800000
namespace Go.Proofs.YtfafilmklhnngaaGreatDoor
open Go.RowKit Lx Tx Go.Maps Go.WideMaps Go.Shelf
set_option maxRecDepth 100000
theorem size_alloc(w:World)(o:Obj):(w.alloc o).heap.size=w.heap.size+1:=by simp
theorem za2(w:World)(o0 o1:Obj):((w.alloc o0).alloc o1).heap[w.heap.size]?=some o0/\((w.alloc o0).alloc o1).heap[w.heap.size+1]?=some o1/\((w.alloc o0).alloc o1).heap.size=w.heap.size+2/\Below w.heap.size w ((w.alloc o0).alloc o1) :=
 have s1:=size_alloc w o0;⟨(Below.heap_alloc _ _ _ (by omega)).trans (heap_alloc_new w o0),s1▸heap_alloc_new (w.alloc o0) o1,(size_alloc _ _).trans (by omega),((Below.refl _ w).alloc (Nat.le_refl _) _).alloc (by omega) _⟩
theorem zcE(w:World)(o0 o1 o2:Obj):(((w.alloc o0).alloc o1).alloc o2).heap[w.heap.size]?=some o0/\(((w.alloc o0).alloc o1).alloc o2).heap[w.heap.size+1]?=some o1/\(((w.alloc o0).alloc o1).alloc o2).heap[w.heap.size+1+1]?=some o2 /\
  (((w.alloc o0).alloc o1).alloc o2).heap.size=w.heap.size+3/\Below w.heap.size w (((w.alloc o0).alloc o1).alloc o2):=by
 obtain⟨h0,h1,hs,hb⟩:=za2 w o0 o1;exact⟨(Below.heap_alloc _ _ _ (by omega)).trans h0,(Below.heap_alloc _ _ _ (by omega)).trans h1,by have:=heap_alloc_new ((w.alloc o0).alloc o1) o2;rw[hs]at this;exact this,(size_alloc _ _).trans (by omega),hb.alloc (by omega) _⟩
theorem zeG(w:World)(o0 o1 o2 o3:Obj):((((w.alloc o0).alloc o1).alloc o2).alloc o3).heap[w.heap.size]?=some o0/\((((w.alloc o0).alloc o1).alloc o2).alloc o3).heap[w.heap.size+1]?=some o1 /\
  ((((w.alloc o0).alloc o1).alloc o2).alloc o3).heap[w.heap.size+1+1]?=some o2/\((((w.alloc o0).alloc o1).alloc o2).alloc o3).heap[w.heap.size+1+1+1]?=some o3/\((((w.alloc o0).alloc o1).alloc o2).alloc o3).heap.size=w.heap.size+4 /\
  Below w.heap.size w ((((w.alloc o0).alloc o1).alloc o2).alloc o3):=by
 obtain⟨h0,h1,h2,hs,hb⟩:=zcE w o0 o1 o2;exact⟨(Below.heap_alloc _ _ _ (by omega)).trans h0,(Below.heap_alloc _ _ _ (by omega)).trans h1,(Below.heap_alloc _ _ _ (by omega)).trans h2,by have:=heap_alloc_new (((w.alloc o0).alloc o1).alloc o2) o3;rw[hs]at this;exact this,(size_alloc _ _).trans (by omega),hb.alloc (by omega) _⟩
theorem ownsMade {H:Type} {P:Program} {k:TypeId} {R:Value->Option (DataW H × List MemPlace)} {w:World} {b:Nat}(h:w.heap[b]?=some (.map #[] 0)):w.ownsMap P k R b 0 (.map []) :=
 ⟨#[],0,h,⟨by simp,MapKept.stamped_empty 0,by simp⟩,Nat.le_refl _,rfl⟩
theorem MapE.laid {V:Type}(m:MK V) {w:World} {b:Nat}(h:w.heap[b]?=some (.map #[] 0)):MapE m w b []:=⟨0,Nat.le_refl _,ownsMade h⟩
theorem zgx {σ:Type}(k:Nat)(caps:Array Value)(I:Nat->σ->(Nat->Prop)->World->Prop)(g:Ty->σ->σ)(hI:Inv I)(ek:∀args w,(callFunc k args).run Tryz.prog w=.ok (.enter k args) w)(HD:Doer k caps I g)
  (c:Nat)(s:σ)(M:Nat->Prop)(t:Ty)(S:Nat->Prop)(v:Value)(w:World)(hi:I c s M w)(hv:RdV S w t v)(hS:∀g,S g->g<w.heap.size/\¬M g)(hnm:Nm t)(hsz:t.size<=1000000)(hc:c+2*t.size<=10000000):Calls Tryz.prog 63 #[v,fnV k caps] w λe w'=>e=.returned (.tuple #[])/\∃M',I (c+2*t.size) (thr (atLeaf g) (λ_ _ s=>s) [] t s) M' w'/\(∀g,M' g->M g\/w.heap.size<=g)/\Chg M w w':=by
 obtain⟨K,X,Z,A,m,cp,rfl,-,-,-,-,-⟩:=hv.parts;have hmf:∀(fn:Fn) (first cap:Array Value) (w:World),(Instr.makeFunc fn first cap).run Tryz.prog w=.ok (.func fn first cap) w:=λ_ _ _ _=>rfl;have HI:=hidE hi;have HV:=hidE hv;have HS:=hidE hS;have HNM:=hidE hnm;have HLT:=hidE (hI.lt _ _ _ _ hi);have hmm:∀w,(Instr.makeMap 116 none).run Tryz.prog w=.ok (.map (some w.heap.size)) (w.alloc (.map #[] 0)):=λ_=>rfl;clear hi hv hS hnm;unfold fnV;go_enter Tryz.func63,Tryz.ntmps63
 go_wp2_with fail
 obtain⟨_,h1,h2,h3,hs4,bl⟩:=zeG w (.cells #[.int .i64 K,.string X,.int .i64 Z,.slice A m cp] 37) (.cells #[.func (.func k) #[] caps] 125) (.map #[] 0) (.cells #[.map (some (w.heap.size+1+1))] 116);have hi4:=hI.keep _ _ _ _ _ HI.out bl.size (λg hg=>bl.block g (HLT.out g hg));have hv4:=HV.out.keep (λ_ h=>h) (λg hg=>bl.block g (HS.out g hg).1);have hT:=znZ t.size 109 111 #[.pointer (some ⟨w.heap.size+1+1+1,0,none⟩),.pointer (some ⟨w.heap.size+1,0,none⟩)] #[] (w.heap.size+1+1)
  (With2 I (w.heap.size+1+1+1) (w.heap.size+1) #[.map (some (w.heap.size+1+1))] #[fnV k caps] 116 125) (atLeaf g) (λ_ _ s=>s) (With2.inv hI _ _ _ _ _ _)
  (enters_of Tryz.func109 (by kernel_rfl) rfl) (enters_of Tryz.func111 (by kernel_rfl) rfl) (zmu k caps _ _ _ I g hI ek HD)
  (zmv 111 _ _ (With2.inv hI _ _ _ _ _ _) zjC)
  c s (λg=>M g\/g=w.heap.size+1+1+1\/g=w.heap.size+1) [] t S _ _ (Nat.le_refl _) hsz
  ⟨M,λ_=>Iff.rfl,hi4,λh=>by have:=HLT.out _ h;omega,λh=>by have:=HLT.out _ h;omega,h3,h1⟩ (MapE.laid mkInt h2) (λh=>by
   rcases h with h|h|h
   ·have:=HLT.out _ h;omega
   ·omega
   ·omega) hv4 (λg hg=>by
   obtain⟨x1,x2⟩:=HS.out g hg;refine⟨by omega,λh=>?_,by omega⟩;rcases h with h|h|h
   ·exact x2 h
   ·omega
   ·omega) HNM.out (by omega) (by simp;omega) trivial
 unfold fnV at hT;refine hT.mono ?_;rintro e w1 ⟨rfl,M1,⟨M',hM',i1,-⟩,-,hM1,b1⟩;have hr:∀g,M' g->M g\/w.heap.size<=g:=λg hg=>by
  rcases hM1 g ((hM' g).2 (.inl hg)) with h|h
  ·rcases h with h|h|h
   ·exact .inl h
   ·exact .inr (by omega)
   ·exact .inr (by omega)
  ·exact .inr (by omega)
 have i2:=hI.mono _ _ _ _ _ i1 (Nat.le_of_eq (show c+2*t.size-0=c+2*t.size by omega));have hch:Chg M w w1:=(Chg.of_below bl).trans' b1 (λg hg h=>by
  rcases h with(h|h|h)|h
  ·exact h
  ·omega
  ·omega
  ·omega)
 have I2:=hidE i2;have HR:=hidE hr;have HCH:=hidE hch;clear hT hi4 hv4 h1 h2 h3 bl i1 i2 hr hch b1 hM' hM1;go_wp2_with fail
 first|go_end0|refine bodyPost_ret (results_none rfl _ _ _) rfl ?_
 exact⟨rfl,M',I2.out,HR.out,HCH.out⟩
set_option maxRecDepth 100000
theorem zk1(l:List Ty)(i:Nat)(hi:i<l.length)(h:l[i].poly=true):za3 l=true:=by
 induction l generalizing i with
 |nil=>simp at hi
 |cons a r ih =>
  rw[za3]
  cases i with
  |zero=>simp at h;simp[h]
  |succ i=>simp at h hi;simp[ih i hi h]
theorem zjL(t:Ty):t.poly=(kd t==5||za3 (kids t)):=by
 cases t <;> rw[Ty.poly,kids] <;> simp[za3,kd]
def zeq(n:Nat):Prop:=∀(t:Ty)(S:Nat->Prop)(v:Value)(w:World),t.size<=n->n<=1000000->RdV S w t v->(∀g,S g->g<w.heap.size) ->
 Calls Tryz.prog 23 #[v] w λe w'=>e=.returned (.bool t.poly)/\Below w.heap.size w w'
theorem zhA(n:Nat)(HP:zeq n)(t:Ty)(S:Nat->Prop)(A:Option Addr)(m c:Nat)(w:World)(ht:t.size<=n+1)(h6:n<=1000000)(hm:(kids t).length=m)(ha:Args S w t A)(hS:∀g,S g->g<w.heap.size):Calls Tryz.prog 106 #[.slice A m c,.func (.func 23) #[] #[]] w λe w'=>∃r:Int,e=.returned (.int .i64 r)/\(decide (r≥0)=za3 (kids t))/\Below w.heap.size w w':=by
 have ek:∀args w,(callFunc 23 args).run Tryz.prog w=.ok (.enter 23 args) w:=enters_of Tryz.func23 (by kernel_rfl) rfl;have hm6:m<=n:=by have:=zbk t;omega
 have HM:=hidE hm;have HA:=hidE ha;have HS:=hidE hS;clear hm ha hS;go_enter Tryz.func106,Tryz.ntmps106
 go_wp2_with fail
 go_loopg [8] m (λgg vi wr=>∃i:Nat,gg=m-i/\vi=.int .i64 i/\i<=m/\Hid (za3 ((kids t).take i)=false)/\Below w.heap.size w wr)
 case atStart=>exact⟨0,rfl,rfl,Nat.zero_le _,hidE (by rw[List.take_zero,za3]),Below.refl _ _⟩
 case round =>
  obtain⟨i,hgg,rfl,hi,hpl,hb⟩:=hrel;have HB:=hidE hb;have hbs:=hb.size;clear hb;by_cases hlt:i<m
  ·obtain⟨g,u,K,X,Z,A1,n1,c1,rfl,hg,e0,e1,e2,e3,hu,hr,hsu⟩:=zbT HA.out HM.out hlt (λq hq=>HB.out.block q (HS.out q hq))
   obtain⟨hil,hue⟩:=List.getElem?_eq_some_iff.1 hu;have hcall:=HP u S _ wr (by omega) h6 hr (λq hq=>by have:=HS.out q hq;omega);obtain⟨q,hq⟩:∃q,u.poly=q:=⟨_,rfl⟩;rw[hq]at hcall
   have HC:=hidE hcall;have HTK:Hid (za3 ((kids t).take (i+1))=q):=hidE (by rw[List.take_succ_eq_append_getElem hil,zju,hpl.out,hue,hq];rfl);have HIN:Hid (q=true->za3 (kids t)=true):=hidE (λh=>zk1 _ i hil (by rw[hue,hq,h]));clear hu hr hsu hcall hil hue hq;go_wp2_with fail
   refine HC.out.mono ?_;rintro e w1 ⟨rfl,b1⟩;have B1:=hidE (HB.out.trans (b1.mono hbs));clear b1 HC;cases q with
   |true =>
    go_wp2_with fail
    go_ret
    exact⟨(i:Int),rfl,by rw[HIN.out (by first|rfl|trivial)];simp,B1.out⟩
   |false =>
    go_wp2_with fail
    go_roundg (m-(i+1))
    case measure=>omega
    case rel=>exact⟨i+1,rfl,by go_num,by omega,HTK,B1.out⟩
  ·have hend:(kids t).take i=kids t:=List.take_of_length_le (by have:=HM.out;omega)
   have HE:=hidE hend;clear hend;go_wp2_with fail
   go_ret
   exact⟨-1,rfl,by have:=hpl.out;rw[HE.out]at this;rw[this];rfl,HB.out⟩
theorem zfA(n:Nat)(HP:zeq n)(t:Ty)(S:Nat->Prop)(A:Option Addr)(m c:Nat)(w:World)(ht:t.size<=n+1)(h6:n<=1000000)(hm:(kids t).length=m)(ha:Args S w t A)(hS:∀g,S g->g<w.heap.size):Calls Tryz.prog 61 #[.slice A m c,.func (.func 23) #[] #[]] w λe w'=>e=.returned (.bool (za3 (kids t)))/\Below w.heap.size w w':=by
 have HC:=hidE (zhA n HP t S A m c w ht h6 hm ha hS);clear hm ha hS;go_enter Tryz.func61,Tryz.ntmps61
 go_wp2_with fail
 refine HC.out.mono ?_;rintro e w1 ⟨r,rfl,hr,b1⟩;have HR:=hidE hr;clear hr;go_wp2_with fail
 go_ret
 exact⟨zav HR.out,b1⟩
theorem ziA(n:Nat)(HP:zeq n):zeq (n+1):=by
 intro t S v w hn h6 hv hS;obtain⟨K,X,Z,A,m,c,rfl,hK,-,-,hm,ha⟩:=hv.parts;have hal:=(Below.refl _ w).alloc (Nat.le_refl _) (.cells #[.int .i64 K,.string X,.int .i64 Z,.slice A m c] 37);have hcall:=zfA n HP t S A m c (w.alloc (.cells #[.int .i64 K,.string X,.int .i64 Z,.slice A m c] 37)) hn (by omega) hm (ha.keep (λ_ h=>h) (λg hg=>hal.block g (hS g hg))) (λg hg=>by have:=hS g hg;simp;omega);have hpk:=zjL t;have HC:=hidE hcall;have HAL:=hidE hal;obtain⟨q,hq⟩:∃q,za3 (kids t)=q:=⟨_,rfl⟩;rw[hq]at HC hpk
 by_cases h5:kd t=5
 ·have d5:((K:Int)==5)=true:=by rw[hK,h5];rfl
  have HT:Hid (t.poly=true):=hidE (by rw[hpk,h5];rfl);clear hv hS hcall hal hK hm ha hpk h5 hq;go_enter Tryz.func23,Tryz.ntmps23
  go_wp2_with fail
  go_ret
  exact⟨by rw[HT.out];rfl,HAL.out⟩
 ·have d5:((K:Int)==5)=false:=by rw[hK];exact kF _ 5 h5
  have HT:Hid (t.poly=q):=hidE (by rw[hpk,beq_eq_false_iff_ne.2 h5];rfl);clear hv hS hcall hal hK hm ha hpk h5 hq;go_enter Tryz.func23,Tryz.ntmps23
  go_wp2_with fail
  refine HC.out.mono ?_;rintro e w1 ⟨rfl,b1⟩;have B1:=hidE (HAL.out.trans (b1.mono (by simp)));clear b1 HC;go_wp2_with fail
  go_ret
  exact⟨by rw[HT.out];rfl,B1.out⟩
theorem zn7(t:Ty)(S:Nat->Prop)(v:Value)(w:World)(hsz:t.size<=1000000)(hv:RdV S w t v)(hS:∀g,S g->g<w.heap.size):Calls Tryz.prog 23 #[v] w λe w'=>e=.returned (.bool t.poly)/\Below w.heap.size w w':=by
 have:∀n,zeq n:=by
  intro n;induction n with
  |zero=>intro t S v w hn;rw[zas]at hn;omega
  |succ n ih=>exact ziA n ih
 exact this t.size t S v w (Nat.le_refl _) hsz hv hS
end Go.Proofs.YtfafilmklhnngaaGreatDoor
