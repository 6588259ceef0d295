import Derived.Test.YtfafilmklhnngaaGreatDoorBsS
import Derived.Shelf.Abstract
set_option maxHeartbeats 12800000
set_option maxRecDepth 100000
namespace Go.Proofs.YtfafilmklhnngaaGreatDoor
open Tryz
section
open Go.RowKit Lx Tx Go.Maps Go.WideMaps Go.Shelf
set_option maxRecDepth 100000
theorem size_alloc(w:World)(o:Obj):(w.alloc o).heap.size=w.heap.size+1:=by simp
theorem IC(w:World)(o0 o1:Obj):((w.alloc o0).alloc o1).heap[w.heap.size]?=some o0/\((w.alloc o0).alloc o1).heap[w.heap.size+1]?=some o1/\((w.alloc o0).alloc o1).heap.size=w.heap.size+2/\Below w.heap.size w ((w.alloc o0).alloc o1) :=
 have s1:=size_alloc w o0;⟨(BX _ _ _ (by omega)).trans (BZ w o0),s1▸BZ (w.alloc o0) o1,(size_alloc _ _).trans (by omega),((Cc _ w).alloc (BU _) _).alloc (by omega) _⟩
theorem MU(w:World)(o0 o1 o2:Obj):(((w.alloc o0).alloc o1).alloc o2).heap[w.heap.size]?=some o0/\(((w.alloc o0).alloc o1).alloc o2).heap[w.heap.size+1]?=some o1/\(((w.alloc o0).alloc o1).alloc o2).heap[w.heap.size+1+1]?=some o2 /\
  (((w.alloc o0).alloc o1).alloc o2).heap.size=w.heap.size+3/\Below w.heap.size w (((w.alloc o0).alloc o1).alloc o2):=by
 obtain⟨h0,h1,hs,hb⟩:=IC w o0 o1;exact⟨(BX _ _ _ (by omega)).trans h0,(BX _ _ _ (by omega)).trans h1,by have:=BZ ((w.alloc o0).alloc o1) o2;rw[hs]at this;exact this,(size_alloc _ _).trans (by omega),hb.alloc (by omega) _⟩
theorem MS(w:World)(o0 o1 o2 o3:Obj):((((w.alloc o0).alloc o1).alloc o2).alloc o3).heap[w.heap.size]?=some o0/\((((w.alloc o0).alloc o1).alloc o2).alloc o3).heap[w.heap.size+1]?=some o1 /\
  ((((w.alloc o0).alloc o1).alloc o2).alloc o3).heap[w.heap.size+1+1]?=some o2/\((((w.alloc o0).alloc o1).alloc o2).alloc o3).heap[w.heap.size+1+1+1]?=some o3/\((((w.alloc o0).alloc o1).alloc o2).alloc o3).heap.size=w.heap.size+4 /\
  Below w.heap.size w ((((w.alloc o0).alloc o1).alloc o2).alloc o3):=by
 obtain⟨h0,h1,h2,hs,hb⟩:=MU w o0 o1 o2;exact⟨(BX _ _ _ (by omega)).trans h0,(BX _ _ _ (by omega)).trans h1,(BX _ _ _ (by omega)).trans h2,by have:=BZ (((w.alloc o0).alloc o1).alloc o2) o3;rw[hs]at this;exact this,(size_alloc _ _).trans (by omega),hb.alloc (by omega) _⟩
theorem JB {H:Type} {P:Program} {k:TypeId} {R:Value->Option (DataW H × List MemPlace)} {w:World} {b:Nat}(h:w.heap[b]?=some (.map #[] 0)):w.ownsMap P k R b 0 (.map []) :=
 ⟨#[],0,h,⟨by simp,MapKept.stamped_empty 0,by simp⟩,BU _,rfl⟩
theorem iT.laid {V:Type}(m:MK V) {w:World} {b:Nat}(h:w.heap[b]?=some (.map #[] 0)):iT m w b []:=⟨0,BU _,JB h⟩
theorem zhX {σ:Type}(k:Nat)(dh:Array Value)(I:Nat->σ->(Nat->Prop)->World->Prop)(g:Ty->σ->σ)(hI:Inv I)(ek:∀args w,(callFunc k args).run prog w=.ok (.enter k args) w)(HD:No k dh I g)
  (c:Nat)(s:σ)(M:Nat->Prop)(t:Ty)(S:Nat->Prop)(v:Value)(w:World)(hi:I c s M w)(hv:nc S w t v)(hS:∀g,S g->g<w.heap.size/\¬M g)(aw:Nm t)(aA:t.size<=1000000000000)(hc:c+2*t.size<=8000000000000):Calls prog 63 #[v,FL k dh] w λe w'=>e=.returned (.tuple #[])/\∃M',I (c+2*t.size) (Hp (Ff g) (λ_ _ s=>s) [] t s) M' w'/\(∀g,M' g->M g\/w.heap.size<=g)/\b_ M w w':=by
 obtain⟨K,X,Z,A,m,cp,rfl,-,-,-,-,-⟩:=hv.parts;have iZ:∀(fn:Fn) (first cap:Array Value) (w:World),(Instr.makeFunc fn first cap).run prog w=.ok (.func fn first cap) w:=λ_ _ _ _=>rfl;have HI:=EP hi;have HV:=EP hv;have HS:=EP hS;have bQ:=EP aw;have au:=EP (hI.lt _ _ _ _ hi);have dU:∀w,(Instr.makeMap 116 none).run prog w=.ok (.map (some w.heap.size)) (w.alloc (.map #[] 0)):=λ_=>rfl;clear hi hv hS aw;unfold FL;go_in
 go_wp2_with fail;obtain⟨_,h1,h2,h3,dz,bl⟩:=MS w (.cells #[.int .i64 K,.string X,.int .i64 Z,.slice A m cp] 37) (.cells #[.func (.func k) #[] dh] 125) (.map #[] 0) (.cells #[.map (some (w.heap.size+1+1))] 116);have lR:=hI.al _ _ _ _ _ HI.o bl.size (λg hg=>bl.block g (au.o g hg));have my:=HV.o.al (λ_ h=>h) (λg hg=>bl.block g (HS.o g hg).1);have hT:=zqQ t.size 109 111 #[.pointer (some ⟨w.heap.size+1+1+1,0,none⟩),.pointer (some ⟨w.heap.size+1,0,none⟩)] #[] (w.heap.size+1+1)
  (JU I (w.heap.size+1+1+1) (w.heap.size+1) #[.map (some (w.heap.size+1+1))] #[FL k dh] 116 125) (Ff g) (λ_ _ s=>s) (JU.inv hI _ _ _ _ _ _)
  (enters_of func109 (by kernel_rfl) rfl) (enters_of func111 (by kernel_rfl) rfl) (zo3 k dh _ _ _ I g hI ek HD)
  (zo4 111 _ _ (JU.inv hI _ _ _ _ _ _) zlD)
  c s (λg=>M g\/g=w.heap.size+1+1+1\/g=w.heap.size+1) [] t S _ _ (BU _) aA
  ⟨M,λ_=>Iff.rfl,lR,λh=>by have:=au.o _ h;omega,λh=>by have:=au.o _ h;omega,h3,h1⟩ (iT.laid mkInt h2) (λh=>by
   rcases h with h|h|h
   ·have:=au.o _ h;omega
   ·omega
   ·omega) my (λg hg=>by
   obtain⟨x1,x2⟩:=HS.o g hg;refine⟨by omega,λh=>?_,by omega⟩;rcases h with h|h|h
   ·exact x2 h
   ·omega
   ·omega) bQ.o (by omega) (by simp;omega) trivial
 unfold FL at hT;refine hT.mono ?_;rintro e w1 ⟨rfl,M1,⟨M',kW,i1,-⟩,-,jC,b1⟩;have hr:∀g,M' g->M g\/w.heap.size<=g:=λg hg=>by
  rcases jC g ((kW g).2 (.inl hg)) with h|h
  ·rcases h with h|h|h
   ·exact .inl h
   ·exact .inr (by omega)
   ·exact .inr (by omega)
  ·exact .inr (by omega)
 have i2:=hI.mono _ _ _ _ _ i1 (DD (show c+2*t.size-0=c+2*t.size by omega));have lT:b_ M w w1:=(b_.c_ bl).trans' b1 (λg hg h=>by
  rcases h with(h|h|h)|h
  ·exact h
  ·omega
  ·omega
  ·omega)
 have I2:=EP i2;have HR:=EP hr;have p8:=EP lT;clear hT lR my h1 h2 h3 bl i1 i2 hr lT b1 kW jC;go_wp2_with fail;first|go_end0|refine Ce (CQ rfl _ _ _) rfl ?_
 exact⟨rfl,M',I2.o,HR.o,p8.o⟩
set_option maxRecDepth 100000
theorem zh8(l:List Ty)(i:Nat)(hi:i<l.length)(h:l[i].r_=true):IU l=true:=by
 induction l generalizing i with
 |nil=>simp at hi
 |cons a r ih =>
  rw[IU];cases i with
  |zero=>simp at h;simp[h]
  |succ i=>simp at h hi;simp[ih i hi h]
theorem V5(t:Ty):t.r_=(kd t==5||IU (kids t)):=by
 cases t <;> rw[Ty.r_,kids] <;> simp[IU,kd]
def Qi(n:Nat):Prop:=∀(t:Ty)(S:Nat->Prop)(v:Value)(w:World),t.size<=n->n<=1000000000000->nc S w t v->(∀g,S g->g<w.heap.size) ->
 Calls prog 23 #[v] w λe w'=>e=.returned (.bool t.r_)/\Below w.heap.size w w'
theorem zjj(n:Nat)(HP:Qi n)(t:Ty)(S:Nat->Prop)(A:Option Addr)(m c:Nat)(w:World)(ht:t.size<=n+1)(h6:n<=1000000000000)(hm:(kids t).length=m)(ha:j_ S w t A)(hS:∀g,S g->g<w.heap.size):Calls prog 106 #[.slice A m c,.func (.func 23) #[] #[]] w λe w'=>∃r:Int,e=.returned (.int .i64 r)/\(decide (r≥0)=IU (kids t))/\Below w.heap.size w w':=by
 have ek:∀args w,(callFunc 23 args).run prog w=.ok (.enter 23 args) w:=enters_of func23 (by kernel_rfl) rfl;have dI:m<=n:=by have:=LF t;omega
 have HM:=EP hm;have HA:=EP ha;have HS:=EP hS;clear hm ha hS;go_in;go_wp2_with fail;go_loopg [8] m (λgg vi wr=>∃i:Nat,gg=m-i/\vi=.int .i64 i/\i<=m/\Hid (IU ((kids t).take i)=false)/\Below w.heap.size w wr)
 case atStart=>exact⟨0,rfl,rfl,Cw _,EP (by rw[CK,IU]),Cc _ _⟩
 case round =>
  obtain⟨i,lS,rfl,hi,cL,hb⟩:=hrel;have HB:=EP hb;have rr:=hb.size;clear hb;by_cases af:i<m
  ·obtain⟨g,u,K,X,Z,A1,n1,c1,rfl,hg,e0,e1,e2,e3,hu,hr,j6⟩:=OB HA.o HM.o af (λq hq=>HB.o.block q (HS.o q hq))
   obtain⟨bP,WI⟩:=Cj.1 hu;have ah:=HP u S _ wr (by omega) h6 hr (λq hq=>by have:=HS.o q hq;omega);obtain⟨q,hq⟩:∃q,u.r_=q:=⟨_,rfl⟩;rw[hq]at ah;have HC:=EP ah;have eF:Hid (IU ((kids t).take (i+1))=q):=EP (by rw[CV bP,zlu,cL.o,WI,hq];rfl);have YG:Hid (q=true->IU (kids t)=true):=EP (λh=>zh8 _ i bP (by rw[WI,hq,h]));clear hu hr j6 ah bP WI hq;go_wp2_with fail;refine HC.o.mono ?_;rintro e w1 ⟨rfl,b1⟩;have B1:=EP (HB.o.trans (b1.mono rr));clear b1 HC;cases q with
   |true =>
    go_wp2_with fail;go_ret
    exact⟨(i:Int),rfl,by rw[YG.o (by first|rfl|trivial)];simp,B1.o⟩
   |false =>
    go_wp2_with fail;go_roundg (m-(i+1))
    case measure=>omega
    case rel=>exact⟨i+1,rfl,by go_num,by omega,eF,B1.o⟩
  ·have aJ:(kids t).take i=kids t:=Cq (by have:=HM.o;omega)
   have HE:=EP aJ;clear aJ;go_wp2_with fail;go_ret
   exact⟨-1,rfl,by have:=cL.o;rw[HE.o]at this;rw[this];rfl,HB.o⟩
theorem zgW(n:Nat)(HP:Qi n)(t:Ty)(S:Nat->Prop)(A:Option Addr)(m c:Nat)(w:World)(ht:t.size<=n+1)(h6:n<=1000000000000)(hm:(kids t).length=m)(ha:j_ S w t A)(hS:∀g,S g->g<w.heap.size):Calls prog 61 #[.slice A m c,.func (.func 23) #[] #[]] w λe w'=>e=.returned (.bool (IU (kids t)))/\Below w.heap.size w w':=by
 have HC:=EP (zjj n HP t S A m c w ht h6 hm ha hS);clear hm ha hS;go_in;go_wp2_with fail;refine HC.o.mono ?_;rintro e w1 ⟨r,rfl,hr,b1⟩;have HR:=EP hr;clear hr;go_wp2_with fail;go_ret
 exact⟨Iy HR.o,b1⟩
theorem zkk(n:Nat)(HP:Qi n):Qi (n+1):=by
 intro t S v w hn h6 hv hS;obtain⟨K,X,Z,A,m,c,rfl,hK,-,-,hm,ha⟩:=hv.parts;have ef:=(Cc _ w).alloc (BU _) (.cells #[.int .i64 K,.string X,.int .i64 Z,.slice A m c] 37);have ah:=zgW n HP t S A m c (w.alloc (.cells #[.int .i64 K,.string X,.int .i64 Z,.slice A m c] 37)) hn (by omega) hm (ha.al (λ_ h=>h) (λg hg=>ef.block g (hS g hg))) (λg hg=>by have:=hS g hg;simp;omega);have j7:=V5 t;have HC:=EP ah;have Uy:=EP ef;obtain⟨q,hq⟩:∃q,IU (kids t)=q:=⟨_,rfl⟩;rw[hq]at HC j7;by_cases h5:kd t=5
 ·have d5:((K:Int)==5)=true:=by rw[hK,h5];rfl
  have HT:Hid (t.r_=true):=EP (by rw[j7,h5];rfl);clear hv hS ah ef hK hm ha j7 h5 hq;go_in;go_wp2_with fail;go_ret
  exact⟨by rw[HT.o];rfl,Uy.o⟩
 ·have d5:((K:Int)==5)=false:=by rw[hK];exact kF _ 5 h5
  have HT:Hid (t.r_=q):=EP (by rw[j7,Cv.2 h5];rfl);clear hv hS ah ef hK hm ha j7 h5 hq;go_in;go_wp2_with fail;refine HC.o.mono ?_;rintro e w1 ⟨rfl,b1⟩;have B1:=EP (Uy.o.trans (b1.mono (by simp)));clear b1 HC;go_wp2_with fail;go_ret
  exact⟨by rw[HT.o];rfl,B1.o⟩
theorem Vo(t:Ty)(S:Nat->Prop)(v:Value)(w:World)(aA:t.size<=1000000000000)(hv:nc S w t v)(hS:∀g,S g->g<w.heap.size):Calls prog 23 #[v] w λe w'=>e=.returned (.bool t.r_)/\Below w.heap.size w w':=by
 have:∀n,Qi n:=by
  intro n;induction n with
  |zero=>intro t S v w hn;rw[Gv]at hn;omega
  |succ n ih=>exact zkk n ih
 exact this t.size t S v w (BU _) aA hv hS
end
end Go.Proofs.YtfafilmklhnngaaGreatDoor
