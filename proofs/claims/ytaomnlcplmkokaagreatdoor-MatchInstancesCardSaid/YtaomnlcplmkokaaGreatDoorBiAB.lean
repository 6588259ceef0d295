import Derived.Test.YtaomnlcplmkokaaGreatDoorBiY
import Derived.Test.YtaomnlcplmkokaaGreatDoorBiAA
set_option maxHeartbeats 12800000
namespace Go.Proofs.YtaomnlcplmkokaaGreatDoor
open Go.RowKit Lx Tx Go.Maps Go.WideMaps Go.Shelf
set_option maxRecDepth 100000
theorem zcv(t:Ty)(h:Nm t):∀x∈zam t,x.length<=24:=zeK t h
theorem ziu(t:Ty)(A1:Option Addr)(n c1:Nat)(w1:World)(hrv:RowV w1 (.slice A1 n c1) (strV (zam t)))(hn:(zam t).length=n)(hnm:Nm t)(hs:t.size<=1000000):Calls Tryz.prog 39 #[.slice (some ⟨w1.heap.size,0,none⟩) 1 1] (w1.alloc (.cells #[.slice A1 n c1] 22)) λe w'=>e=.returned (.map (some (w1.heap.size+1)))/\MapE mkSet w' (w1.heap.size+1) (units (zam t))/\Below (w1.heap.size+1) (w1.alloc (.cells #[.slice A1 n c1] 22)) w':=by
 have hfl:=za4 t;have h:=zkT [zam t] w1.heap.size 1 (w1.alloc (.cells #[.slice A1 n c1] 22)) (λj hj=>by
  have hj0:j=0:=by simp at hj;omega
  subst hj0;refine⟨A1,c1,?_,?_⟩
  ·have:=Blk.cell (heap_alloc_new w1 (.cells #[.slice A1 n c1] 22)) 0
   rw[<-hn]at this ⊢
   exact this
  ·show RowV _ (.slice A1 (zam t).length c1) _
   rw[hn]
   exact hrv.below ((Below.refl _ w1).alloc (Nat.le_refl _) _)) (by simp) (by intro x hx;exact zeK t hnm x (by simpa using hx)) (by simpa using(by omega:(zam t).length<=10000000)) (by simp)
 simp only[List.flatten_cons,List.flatten_nil,List.append_nil,size_alloc]at h;exact h
section
variable {σ:Type}
def addF(place:Ty->Option Ty)(t:Ty):List Name:=match place t with|some u=>zam u|none=>[]
def FrI(I:Nat->σ->World->Prop)(kl:Nat)(cl:Array Value)(gp gm fb:Nat)(L:List Name)(c:Nat)(s:σ)(w:World):Prop :=
 I c s w/\Blk w gp 112 #[fnV kl cl]/\Blk w gm 77 #[.map (some fb)]/\MapE mkSet w fb (units L)
end
set_option maxRecDepth 2000 in
theorem zlI {σ:Type}(kl:Nat)(cl:Array Value)(gp gm fb:Nat)(I:Nat->σ->World->Prop)(K M Su:Nat->Prop)(place:Ty->Option Ty)(hI:InvC I K)(hMK:∀g,M g->K g)(hSu:∀g,Su g->K g)(hfb:¬K fb)(hgp:¬M gp)(hgm:¬M gm)(hpf:gp≠fb)(hmf:gm≠fb)
  (el:∀args w,(callFunc kl args).run Tryz.prog w=.ok (.enter kl args) w)(HP:zdT kl cl I M Su place)(hpn:∀t u,place t=some u->Nm u/\u.size<=1000000)
  (c:Nat)(s:σ)(L:List Name)(t:Ty)(k:Int)(X:ByteArray)(Z:Int)(w:World)(hk12:kd t=1\/kd t=2)(hv:RdV (λ_=>False) w t (.agg #[.int .i64 k,.string X,.int .i64 Z,.slice none 0 0]))(hnm:Nm t)(hi:FrI I kl cl gp gm fb L c s w)(hL:∀x∈L,x.length<=24)(hLl:L.length<=90000000):Calls Tryz.prog 109 #[.agg #[.int .i64 k,.string X,.int .i64 Z,.slice none 0 0],.pointer (some ⟨gp,0,none⟩),.pointer (some ⟨gm,0,none⟩)] w λe w'=>e=.returned (.tuple #[])/\FrI I kl cl gp gm fb (L++addF place t) c s w'/\Chg (λg=>M g\/g=fb) w w':=by
 obtain⟨hi0,hp0,hm0,hf0⟩:=hi;have hlt:=hI.lt _ _ _ hi0;have hpl:=hp0.lt;have hml:=hm0.lt;have hfl:=hf0.lt;obtain⟨V0,hV0⟩:∃W,w.alloc (.cells #[.int .i64 k,.string X,.int .i64 Z,.slice none 0 0] 26)=W:=⟨_,rfl⟩;have hb0:Below w.heap.size w V0:=hV0▸(Below.refl _ w).alloc (Nat.le_refl _) _;have h3:Blk V0 w.heap.size 26 #[.int .i64 k,.string X,.int .i64 Z,.slice none 0 0]:=hV0▸heap_alloc_new _ _;have hiV:=hI.keep _ _ _ V0 hi0 hb0.size (λg hg=>hb0.block g (hlt g hg));have hcall:=HP c s t (λ_=>False) _ V0 hiV (hv.keep (λ_ h=>h) (λ_ h=>h.elim)) (λ_ h=>h.elim) hk12 hnm;have hp1:=hp0.below hb0 hpl;have cp:=Blk.cell hp1 0;unfold fnV at cp;obtain⟨f0,f1,f2,f3,-,-,-,-,-⟩:=zaa h3;have HCALL:=hidE hcall;have HF:=hidE hf0;have HP1:=hidE hp1;have HM0:=hidE hm0;have HB0:=hidE hb0;have HLT:=hidE hlt;have HPN:=hidE hpn;have HL:=hidE hL;have H3:=hidE h3;have hsz0:V0.heap.size=w.heap.size+1:=by rw[<-hV0];simp
 have HSZ0:=hidE hsz0;clear hi0 hp0 hm0 hf0 hlt hb0 h3 hiV hcall hp1 hpn hL hv hnm hk12 hsz0;go_enter Tryz.func109,Tryz.ntmps109
 go_wp2_with fail
 clear hV0;refine HCALL.out.mono ?_;rintro e w1 ⟨k1,x1,z1,a1,m1,p1,q1,rfl,hq1,hq2,hi1,c1⟩;have c1':Chg M w w1:=(Chg.of_below HB0.out).trans' c1 (λ_ _ h=>h);have hf1:MapE mkSet w1 fb (units L):=HF.out.keep (c1'.block fb hfl (λh=>hfb (hMK _ h)));have hgp1:Blk w1 gp 112 #[fnV kl cl]:=Blk.chg HP1.out c1 hgp;have hgm1:Blk w1 gm 77 #[.map (some fb)]:=HM0.out.chg c1' hgm;have C1:=hidE c1';have HF1:=hidE hf1;have HI1:=hidE hi1;have HGP:=hidE hgp1;have HGM:=hidE hgm1;have hlt1:=hI.lt _ _ _ hi1;have HLT1:=hidE hlt1;clear c1 c1' hf1 hi1 hgp1 hgm1 hlt1 HCALL f0 f1 f2 f3 H3 HP1 cp;cases q1 with
 |false =>
  have hn:addF place t=[]:=by unfold addF;rw[hq2 rfl]
  have HN:=hidE hn;clear hq1 hq2 hn;go_wp2_with fail
  first|go_end0|refine bodyPost_ret (results_none rfl _ _ _) rfl ?_
  refine⟨rfl,⟨hI.keep _ _ _ _ HI1.out (by simp) (λg hg=>Below.heap_alloc _ _ _ (HLT1.out g hg)),HGP.out.alloc _,HGM.out.alloc _,?_⟩,(C1.out.alloc _).mono (λ_ _ h=>.inl h)⟩;rw[HN.out,List.append_nil]
  exact HF1.out.keep (Below.heap_alloc _ _ _ HF1.out.lt)
 |true =>
  obtain⟨u,hu,hur⟩:=hq1 rfl;obtain⟨hnu,hsu⟩:=HPN.out t u hu;have hadd:addF place t=zam u:=by unfold addF;rw[hu]
  obtain⟨V1,hV1⟩:∃W,w1.alloc (.cells #[.int .i64 k1,.string x1,.int .i64 z1,.slice a1 m1 p1] 26)=W:=⟨_,rfl⟩;have hb1:Below w1.heap.size w1 V1:=hV1▸(Below.refl _ w1).alloc (Nat.le_refl _) _;have h4:Blk V1 w1.heap.size 26 #[.int .i64 k1,.string x1,.int .i64 z1,.slice a1 m1 p1]:=hV1▸heap_alloc_new _ _;have hs1:V1.heap.size=w1.heap.size+1:=by rw[<-hV1];simp
  obtain⟨n,hn⟩:∃n,(zam u).length=n:=⟨_,rfl⟩;have hcall:=zdg u (λg=>K g) _ V1.drew (hur.keep (S':=λg=>K g) (λg hg=>hSu g hg) (λg hg=>hb1.block g (HLT1.out g (hSu g hg)))) (λg hg=>by have:=HLT1.out g hg;have:=hb1.size;show g<V1.heap.size;omega) hnu hsu;rw[hn]at hcall
  have F1:=hidE hcall;have SOF:Hid (∀W:World,(∀g,g=gm\/g=w1.heap.size->W.heap[g]?=V1.heap[g]?)->(λW=>W.cell? ⟨gm,0,none⟩=some (.map (some fb))/\W.cell? ⟨w1.heap.size,0,none⟩=some (.int .i64 k1)/\W.cell? ⟨w1.heap.size,1,none⟩=some (.string x1)/\W.cell? ⟨w1.heap.size,2,none⟩=some (.int .i64 z1)/\W.cell? ⟨w1.heap.size,3,none⟩=some (.slice a1 m1 p1)) W):=hidE λW hW=>by
   have z:Blk W gm 77 #[.map (some fb)]:=(HGM.out.below hb1 HGM.out.lt).same (hW gm (.inl rfl));have y:Blk W w1.heap.size 26 #[.int .i64 k1,.string x1,.int .i64 z1,.slice a1 m1 p1]:=h4.same (hW _ (.inr rfl));exact⟨Blk.cell z 0,Blk.cell y 0,Blk.cell y 1,Blk.cell y 2,Blk.cell y 3⟩
  have GP:Hid (∀g,g=gm\/g=w1.heap.size->g<V1.heap.size/\g≠fb):=hidE λg hg=>by
   have:=HF1.out.lt;have:=HGM.out.lt;rcases hg with rfl|rfl
   ·exact⟨by omega,hmf⟩
   ·exact⟨by omega,by omega⟩
  have HV1:=hidE hV1;have HB1:=hidE hb1;have HS1:=hidE hs1;have HADD:=hidE hadd;have HU:=hidE (⟨hnu,hsu⟩:Nm u/\u.size<=1000000);have HN:=hidE hn;have HFV:=hidE (HF1.out.keep (hb1.block fb HF1.out.lt));clear hq1 hq2 hu hur hnu hsu hadd hb1 h4 hs1 hn hcall;go_upto_region 3 with fail
  clear hV1;go_region_held3 (λW=>W.cell? ⟨gm,0,none⟩=some (.map (some fb))/\W.cell? ⟨w1.heap.size,0,none⟩=some (.int .i64 k1)/\W.cell? ⟨w1.heap.size,1,none⟩=some (.string x1)/\W.cell? ⟨w1.heap.size,2,none⟩=some (.int .i64 z1)/\W.cell? ⟨w1.heap.size,3,none⟩=some (.slice a1 m1 p1))
   (first|(with_reducible exact SOF.out _ GK4.out)|(with_reducible exact SOF.out _ GK3.out)|(with_reducible exact SOF.out _ GK2.out)|(exact SOF.out _ (λg hg=>(Below.heap_alloc _ _ _ (GL2.out g hg)).trans (GK2.out g hg)))|(exact SOF.out _ (λg hg=>rfl)))
   ((first
    |((with_reducible refine F1.out.mono ?_);rintro e w2 ⟨A2,c2,rfl,ho2,hl2,b2⟩;have GK2:Hid (∀g,g=gm\/g=w1.heap.size->w2.heap[g]?=V1.heap[g]?):=hidE (λg hg=>b2.block g (GP.out g hg).1);have GL2:Hid (∀g,g=gm\/g=w1.heap.size->g<w2.heap.size):=hidE (λg hg=>Nat.lt_of_lt_of_le (GP.out g hg).1 b2.size);have B2:Hid (Below V1.heap.size V1 w2):=hidE ((Below.refl _ V1).drew.trans b2);have R2:=hidE (RowV.of_own ho2);clear ho2 hl2 b2)
    |((with_reducible refine(ziu u A2 n c2 w2 R2.out HN.out HU.out.1 HU.out.2).mono ?_);rintro e w3 ⟨rfl,hm3,b3⟩;have B3:Hid (Below V1.heap.size V1 w3):=hidE ((B2.out.alloc B2.out.size _).trans (b3.mono (by have:=B2.out.size;omega)));have GK3:Hid (∀g,g=gm\/g=w1.heap.size->w3.heap[g]?=V1.heap[g]?):=hidE (λg hg=>B3.out.block g (GP.out g hg).1);have HM3:=hidE hm3;clear hm3 b3)
    |((with_reducible refine(zlc L (zam u) fb (w2.heap.size+1) w3 (HFV.out.keep (B3.out.block fb HFV.out.lt)) HM3.out (by have:=HFV.out.lt;have:=B2.out.size;omega) HL.out (zcv u HU.out.1) (by have:=za4 u;have:=HU.out.2;omega)).mono ?_);rintro e w4 ⟨rfl,hm4,c4⟩;have GK4:Hid (∀g,g=gm\/g=w1.heap.size->w4.heap[g]?=V1.heap[g]?):=hidE (λg hg=>(c4.block g (Nat.lt_of_lt_of_le (GP.out g hg).1 B3.out.size) (GP.out g hg).2).trans (B3.out.block g (GP.out g hg).1));have HM4:=hidE hm4;have C4:=hidE c4;clear hm4 c4)))
  all_goals
   go_wp2_with fail
   first|go_end0|refine bodyPost_ret (results_none rfl _ _ _) rfl ?_
   have hA4:Chg (λg=>M g\/g=fb) w1 w4:=((Chg.of_below HB1.out).belowB B3.out HB1.out.size).trans' C4.out (λ_ _ h=>.inr h);have k4:∀g,g<w1.heap.size->g≠fb->w4.heap[g]?=w1.heap[g]?:=λg hg hne=>(C4.out.block g (Nat.lt_of_lt_of_le hg (Nat.le_trans HB1.out.size B3.out.size)) hne).trans ((B3.out.block g (Nat.lt_of_lt_of_le hg HB1.out.size)).trans (HB1.out.block g hg));refine⟨rfl,⟨hI.keep _ _ _ _ HI1.out hA4.size (λg hg=>k4 g (HLT1.out g hg) (λe=>hfb (e▸hg))),HGP.out.same (k4 _ HGP.out.lt hpf),HGM.out.same (k4 _ HGM.out.lt hmf),?_⟩,(C1.out.mono (λ_ _ h=>.inl h)).trans' hA4 (λ_ _ h=>h)⟩;rw[HADD.out]
   exact HM4.out
set_option maxRecDepth 100000
theorem zgY {w:World} {B n cp k:Nat} {A:Option Addr} {e:TypeId} {xs:List Value} {u:Value}(h:w.ownsRow B e 1 (.slice A n cp) n xs)(hu:xs[k]?=some u):∃g,A=some ⟨g,0,none⟩/\B<=g/\g<w.heap.size/\∀W:World,W.heap[g]?=w.heap[g]?->W.cell? ⟨g,k,none⟩=some u:=by
 have hc:=λg hg=>h.cells (g:=g) hg;have hlt:=h.lt;have hl:=h.1;have hk:=(List.getElem?_eq_some_iff.1 hu).1;rcases h.2 with⟨h0,h1⟩|⟨g,cap,cur,hv,hB,_⟩
 ·omega
 ·injection hv with h1 h2 h3
  subst h1;have hadd:(⟨g,0,none⟩:Addr).add k=⟨g,k,none⟩:=by unfold Addr.add;split <;> simp_all
  have h4:=hc g rfl k u hu;rw[hadd]at h4
  exact⟨g,rfl,hB,(hlt g rfl).2,λW hW=>(World.cell?_of_block (w:=w) (a:=⟨g,k,none⟩) hW).trans h4⟩
theorem zlJ(t:Ty)(h:Nm t):∀x∈zam t,Nm (.var x) :=
 zdh (λs=>∀x∈s,Nm (.var x)) _ _ (λenv u s hu hs=>by
  unfold atLeaf;split
  ·cases u with
   |var y =>
    intro x hx;rcases(zkW _ _ _).1 hx with rfl|hx
    ·exact hu
    ·exact hs x hx
   |_=>exact hs
  ·exact hs) (λ_ _ _ _ hs=>hs) t [] [] h (λ_ hx=>(List.not_mem_nil hx).elim)
theorem zpG(t:Ty)(h:Nm t):∀n∈zaX t,Nm (.mt n) :=
 zdh (λs=>∀x∈s,Nm (.mt x)) _ _ (λenv u s hu hs=>by
  unfold atLeaf;split
  ·cases u with
   |mt y =>
    intro x hx;have hx':x∈addN y s:=hx;unfold addN at hx';split at hx'
    ·exact hs x hx'
    ·rcases List.mem_append.1 hx' with h|h
     ·exact hs x h
     ·rw[List.mem_singleton.1 h];exact hu
   |_=>exact hs
  ·exact hs) (λ_ _ _ _ hs=>hs) t [] [] h (λ_ hx=>(List.not_mem_nil hx).elim)
theorem ziv {α:Type}(f:α->List Name)(l:List α)(i:Nat)(hi:i<l.length):(l.take (i+1)).flatMap f=(l.take i).flatMap f++f l[i]:=by
 rw[List.take_succ_eq_append_getElem hi,List.flatMap_append];simp
theorem zfI {α:Type}(f:α->List Name)(l:List α)(i:Nat):((l.take i).flatMap f).length<=(l.flatMap f).length:=by
 have h:l.flatMap f=(l.take i).flatMap f++(l.drop i).flatMap f:=by rw[<-List.flatMap_append,List.take_append_drop]
 rw[h,List.length_append]
 omega
section
variable {σ:Type}
def freeIn(place:Ty->Option Ty)(t:Ty):List Name:=(zam t).flatMap (λx=>addF place (.var x))++(zaX t).flatMap (λn=>addF place (.mt n))
theorem zcT {place:Ty->Option Ty}(h:∀t u,place t=some u->Nm u/\u.size<=1000000)(t:Ty):∀x∈addF place t,x.length<=24:=by
 unfold addF;cases e:place t with
 |none=>intro x hx;cases hx
 |some u=>exact zcv u (h t u e).1
theorem zcU {α:Type} {f:α->List Name}(h:∀a,∀x∈f a,x.length<=24)(l:List α):∀x∈l.flatMap f,x.length<=24:=λx hx=>by
 obtain⟨a,_,hx⟩:=List.mem_flatMap.1 hx;exact h a x hx
theorem zjQ {place:Ty->Option Ty}(h:∀t u,place t=some u->Nm u/\u.size<=1000000)(t:Ty):∀x∈freeIn place t,x.length<=24:=λx hx=>by
 rcases List.mem_append.1 hx with hx|hx
 ·exact zcU (λ_=>zcT h _) _ x hx
 ·exact zcU (λ_=>zcT h _) _ x hx
def znU {α:Type}(I:Nat->σ->World->Prop)(kl:Nat)(cl:Array Value)(gp gm fb:Nat)(pre:List Name)(f:α->List Name)(l:List α)(n c:Nat)(s:σ)(M:Nat->Prop)(w0:World)(gg:Nat)(vi:Value)(wr:World):Prop :=
 ∃i,gg=n-i/\vi=.int .i64 (i:Nat)/\i<=n/\FrI I kl cl gp gm fb (pre++(l.take i).flatMap f) c s wr/\Chg (λg=>M g\/g=fb) w0 wr
end
theorem zjR {σ:Type}(kl:Nat)(cl:Array Value)(I:Nat->σ->World->Prop)(K M Su:Nat->Prop)(place:Ty->Option Ty)(hI:InvC I K)(hMK:∀g,M g->K g)(hSu:∀g,Su g->K g)
  (el:∀args w,(callFunc kl args).run Tryz.prog w=.ok (.enter kl args) w)(HP:zdT kl cl I M Su place)(hpn:∀t u,place t=some u->Nm u/\u.size<=1000000)
  (c:Nat)(s:σ)(t:Ty)(S:Nat->Prop)(v:Value)(w:World)(hi:I c s w)(hv:RdV S w t v)(hS:∀g,S g->g<w.heap.size/\¬M g)(hnm:Nm t)(hsz:t.size<=1000000)(hroom:(freeIn place t).length<=90000000):Calls Tryz.prog 87 #[v,fnV kl cl] w λe w'=>e=.returned (.map (some (w.heap.size+2)))/\MapE mkSet w' (w.heap.size+2) (units (freeIn place t))/\I c s w'/\Chg M w w':=by
 obtain⟨K0,X,Z,A,m,cp,rfl,-,-,-,-,-⟩:=hv.parts;have hlt:=hI.lt _ _ _ hi;have hmf:∀(fn:Fn) (first cap:Array Value) (w:World),(Instr.makeFunc fn first cap).run Tryz.prog w=.ok (.func fn first cap) w:=λ_ _ _ _=>rfl;have hmm:∀w,(Instr.makeMap 77 none).run Tryz.prog w=.ok (.map (some w.heap.size)) (w.alloc (.map #[] 0)):=λ_=>rfl;obtain⟨l0,l1,l2,l3,ls,lb⟩:=zhR w (.cells #[.int .i64 K0,.string X,.int .i64 Z,.slice A m cp] 26) (.cells #[.func (.func kl) #[] cl] 112) (.map #[] 0) (.cells #[.map (some (w.heap.size+1+1))] 77);obtain⟨W4,hW4⟩:∃W,(((w.alloc (.cells #[.int .i64 K0,.string X,.int .i64 Z,.slice A m cp] 26)).alloc (.cells #[.func (.func kl) #[] cl] 112)).alloc (.map #[] 0)).alloc (.cells #[.map (some (w.heap.size+1+1))] 77)=W:=⟨_,rfl⟩;rw[hW4]at l0 l1 l2 l3 ls lb
 obtain⟨p0,p1,p2,p3,-⟩:=zaa (show Blk W4 w.heap.size 26 _ from l0);have hfree:=zdg t S _ W4 (hv.keep (λ_ h=>h) (λg hg=>lb.block g (hS g hg).1)) (λg hg=>by have:=(hS g hg).1;omega) hnm hsz;obtain⟨n,hn⟩:∃n,(zam t).length=n:=⟨_,rfl⟩;rw[hn]at hfree
 have hfr:FrI I kl cl (w.heap.size+1) (w.heap.size+1+1+1) (w.heap.size+1+1) [] c s W4:=⟨hI.keep _ _ _ _ hi lb.size (λg hg=>lb.block g (hlt g hg)),l1,l3,MapE.laid mkSet l2⟩;have hKg:∀g,w.heap.size<=g->¬K g:=λg hg h=>by have:=hlt g h;omega
 have hrm1:∀i,((zam t).take i |>.flatMap (λx=>addF place (.var x))).length<=90000000:=λi=>by
  have:=zfI (λx=>addF place (.var x)) (zam t) i;unfold freeIn at hroom;rw[List.length_append]at hroom
  omega
 have hrm2:∀i,((zam t).flatMap (λx=>addF place (.var x))++((zaX t).take i).flatMap (λx=>addF place (.mt x))).length<=90000000:=λi=>by
  have:=zfI (λx=>addF place (.mt x)) (zaX t) i;unfold freeIn at hroom;rw[List.length_append]at hroom ⊢
  omega
 have hsh1:∀i,∀x∈(zam t).take i |>.flatMap (λx=>addF place (.var x)),x.length<=24:=λi=>zcU (λ_=>zcT hpn _) _;have hsh2:∀i,∀x∈(zam t).flatMap (λx=>addF place (.var x))++((zaX t).take i).flatMap (λx=>addF place (.mt x)),x.length<=24:=λi x hx=>by
  rcases List.mem_append.1 hx with hx|hx
  ·exact zcU (λ_=>zcT hpn _) _ x hx
  ·exact zcU (λ_=>zcT hpn _) _ x hx
 have hNf:=zlJ t hnm;have hNm:=zpG t hnm;have HFREE:=hidE hfree;have HN:=hidE hn;have HFR:=hidE hfr;have HKG:=hidE hKg;have HR1:=hidE hrm1;have HR2:=hidE hrm2;have HS1:=hidE hsh1;have HS2:=hidE hsh2;have HNF:=hidE hNf;have HNM:=hidE hNm;have HW4:=hidE hW4;have LS:=hidE ls;have LB:=hidE lb;have L0:=hidE l0;have HV:=hidE hv;have HS:=hidE hS;have HNT:=hidE hnm;have HLT:=hidE hlt;have HPN:=hidE hpn;clear hfree hn hfr hKg hrm1 hrm2 hsh1 hsh2 hNf hNm ls lb l0 l1 l2 l3 hv hS hnm hlt hi hroom hpn;unfold fnV;go_enter Tryz.func87,Tryz.ntmps87
 go_upto_region 3 with fail
 clear hW4;go_wp2_with fail
 refine HFREE.out.mono ?_;rintro e w5 ⟨A5,cp5,rfl,ho5,hn5,b5⟩;have hfr5:FrI I kl cl (w.heap.size+1) (w.heap.size+1+1+1) (w.heap.size+1+1) [] c s w5:=by
  obtain⟨i0,i1,i2,i3⟩:=HFR.out;have hls:=LS.out;exact⟨hI.keep _ _ _ _ i0 b5.size (λg hg=>b5.block g (by have:=HLT.out g hg;omega)),i1.below b5 (by omega),i2.below b5 (by omega),i3.keep (b5.block _ (by omega))⟩
 have B5:=hidE b5;have O5:=hidE ho5;have FR5:=hidE hfr5;clear HFREE hfr5 b5 ho5 p0 p1 p2 p3;go_wp2_with fail
 go_loopg [16] n (λgg vi wr=>znU I kl cl (w.heap.size+1) (w.heap.size+1+1+1) (w.heap.size+1+1) [] (λx=>addF place (.var x)) (zam t) n c s M w5 gg vi wr)
 case atStart =>
  exact⟨0,rfl,rfl,Nat.zero_le _,by rw[List.take_zero];exact FR5.out,Chg.refl _ _⟩
 case round =>
  obtain⟨i,rfl,rfl,hin,hfr,hc⟩:=hrel;rw[List.nil_append]at hfr
  have FR:=hidE hfr;have HC:=hidE hc;clear hfr hc;by_cases hlt:i<n
  ·have hlt':i<(zam t).length:=by rw[HN.out];exact hlt
   obtain⟨g,rfl,hg1,hg2,hg3⟩:=zgY O5.out (zcq (zam t) i hlt');have hls:=LS.out;have e0:=hg3 wr (HC.out.block g hg2 (λh=>h.elim (λh=>HKG.out g (by omega) (hMK _ h)) (λh=>by omega)));have hcall:=zlI kl cl (w.heap.size+1) (w.heap.size+1+1+1) (w.heap.size+1+1) I K M Su place hI hMK hSu (HKG.out _ (by omega)) (λh=>HKG.out _ (by omega) (hMK _ h)) (λh=>HKG.out _ (by omega) (hMK _ h)) (by omega) (by omega) el HP HPN.out c s _ (.var (zam t)[i]) 1 ⟨(zam t)[i].toArray⟩ 0 wr (.inl rfl) ⟨none,0,rfl,trivial⟩ (HNF.out _ (List.getElem_mem hlt')) FR.out (HS1.out i) (HR1.out i);have hnx:=ziv (λx=>addF place (.var x)) (zam t) i hlt';obtain⟨X5,hX5⟩:∃X,(⟨(zam t)[i].toArray⟩:ByteArray)=X:=⟨_,rfl⟩;rw[hX5]at hcall e0
   have HCALL:=hidE hcall;have HNX:=hidE hnx;clear hcall hnx hX5 hg3;go_wp2_with fail
   refine HCALL.out.mono ?_;rintro e w6 ⟨rfl,hfr6,c6⟩;have FR6:=hidE hfr6;have HC6:=hidE (HC.out.trans c6);clear hfr6 c6 HCALL;go_wp2_with fail
   go_roundg (n-(i+1))
   case measure=>omega
   case rel =>
    refine⟨i+1,rfl,by go_num,by omega,?_,HC6.out⟩;rw[List.nil_append,HNX.out]
    exact FR6.out
  ·have hin':i=n:=by omega
   have hfl:((zam t).take i).flatMap (λx=>addF place (.var x))=(zam t).flatMap (λx=>addF place (.var x)):=by rw[List.take_of_length_le (by rw[HN.out];omega)]
   have FRe:Hid (FrI I kl cl (w.heap.size+1) (w.heap.size+1+1+1) (w.heap.size+1+1) ((zam t).flatMap (λx=>addF place (.var x))) c s wr):=by rw[<-hfl];exact FR
   have hcw:Chg (λg=>M g\/g=w.heap.size+1+1) W4 wr:=(Chg.of_below B5.out).trans' HC.out (λ_ _ h=>h);have hls:=LS.out;have h0:Blk wr w.heap.size 26 #[.int .i64 K0,.string X,.int .i64 Z,.slice A m cp]:=Blk.chg L0.out hcw (λh=>h.elim (λh=>HKG.out _ (Nat.le_refl _) (hMK _ h)) (λh=>by omega));obtain⟨q0,q1,q2,q3,-⟩:=zaa h0;have hmet:=zqS t S _ wr (HV.out.keep (λ_ h=>h) (λg hg=>(hcw.block g (by have:=(HS.out g hg).1;omega) (λh=>h.elim (HS.out g hg).2 (λh=>by have:=(HS.out g hg).1;omega))).trans (LB.out.block g (HS.out g hg).1))) (λg hg=>by have:=(HS.out g hg).1;have:=hcw.size;omega) HNT.out hsz;obtain⟨n2,hn2⟩:∃n,(zaX t).length=n:=⟨_,rfl⟩;rw[hn2]at hmet
   have HMET:=hidE hmet;have HN2:=hidE hn2;have HCW:=hidE hcw;clear hmet hn2 hcw h0 hfl hin';go_wp2_with fail
   refine HMET.out.mono ?_;rintro e w7 ⟨A7,cp7,rfl,ho7,hn7,b7⟩;have hfr7:FrI I kl cl (w.heap.size+1) (w.heap.size+1+1+1) (w.heap.size+1+1) ((zam t).flatMap (λx=>addF place (.var x))) c s w7:=by
    obtain⟨i0,i1,i2,i3⟩:=FRe.out;have hls:=LS.out;have hsz:=HCW.out.size;exact⟨hI.keep _ _ _ _ i0 b7.size (λg hg=>b7.block g (by have:=HLT.out g hg;omega)),i1.below b7 (by omega),i2.below b7 (by omega),i3.keep (b7.block _ (by omega))⟩
   have B7:=hidE b7;have O7:=hidE ho7;have FR7:=hidE hfr7;clear HMET hfr7 b7 ho7 q0 q1 q2 q3;go_wp2_with fail
   go_loopg [28] n2 (λgg vi wr=>znU I kl cl (w.heap.size+1) (w.heap.size+1+1+1) (w.heap.size+1+1) ((zam t).flatMap (λx=>addF place (.var x))) (λx=>addF place (.mt x)) (zaX t) n2 c s M w7 gg vi wr)
   case atStart =>
    exact⟨0,rfl,rfl,Nat.zero_le _,by rw[List.take_zero,List.flatMap_nil,List.append_nil];exact FR7.out,Chg.refl _ _⟩
   case round =>
    obtain⟨j,rfl,rfl,hjn,hfr,hc⟩:=hrel;have FRz:=hidE hfr;have HCz:=hidE hc;clear hfr hc;have hsz7:w.heap.size+4<=w7.heap.size:=by have:=HCW.out.size;have:=B7.out.size;omega
    by_cases hlt2:j<n2
    ·have hlt':j<(zaX t).length:=by rw[HN2.out];exact hlt2
     obtain⟨g,rfl,hg1,hg2,hg3⟩:=zgY O7.out (zif (zaX t) j hlt');have hgs:w.heap.size+4<=g:=by have:=HCW.out.size;omega
     have e0:=hg3 wr (HCz.out.block g hg2 (λh=>h.elim (λh=>HKG.out g (by omega) (hMK _ h)) (λh=>by omega)));have hcall:=zlI kl cl (w.heap.size+1) (w.heap.size+1+1+1) (w.heap.size+1+1) I K M Su place hI hMK hSu (HKG.out _ (by omega)) (λh=>HKG.out _ (by omega) (hMK _ h)) (λh=>HKG.out _ (by omega) (hMK _ h)) (by omega) (by omega) el HP HPN.out c s _ (.mt (zaX t)[j]) 2 ⟨#[]⟩ ((zaX t)[j]:Nat) wr (.inr rfl) ⟨none,0,rfl,trivial⟩ (HNM.out _ (List.getElem_mem hlt')) FRz.out (HS2.out j) (HR2.out j);have hnx:=ziv (λx=>addF place (.mt x)) (zaX t) j hlt';obtain⟨z5,hz5⟩:∃z,(zaX t)[j]=z:=⟨_,rfl⟩;rw[hz5]at hcall e0 hnx
     have HCALL:=hidE hcall;have HNX:=hidE hnx;clear hcall hnx hz5 hg3;go_wp2_with fail
     refine HCALL.out.mono ?_;rintro e w8 ⟨rfl,hfr8,c8⟩;have FR8:=hidE hfr8;have HC8:=hidE (HCz.out.trans c8);clear hfr8 c8 HCALL;go_wp2_with fail
     go_roundg (n2-(j+1))
     case measure=>omega
     case rel =>
      refine⟨j+1,rfl,by go_num,by omega,?_,HC8.out⟩;rw[HNX.out,<-List.append_assoc]
      exact FR8.out
    ·have hend:(zam t).flatMap (λx=>addF place (.var x))++((zaX t).take j).flatMap (λx=>addF place (.mt x))=freeIn place t:=by rw[List.take_of_length_le (by rw[HN2.out];omega)];rfl
     have HEND:=hidE hend;obtain⟨i0,i1,i2,i3⟩:=FRz.out;obtain⟨x0,-,-⟩:=zao i2;have I0:=hidE i0;have I3:=hidE i3;clear hend i0 i1 i2 i3;go_wp2_with fail
     go_ret
     refine⟨rfl,by rw[<-HEND.out];exact I3.out,I0.out,?_⟩;exact(Chg.of_below LB.out).trans' (HCW.out.trans' ((Chg.of_below B7.out).trans' HCz.out (λ_ _ h=>h)) (λ_ _ h=>h)) (λg hg h=>h.elim (λh=>h) (λh=>by omega))
end Go.Proofs.YtaomnlcplmkokaaGreatDoor
namespace Go.Proofs.YtaomnlcplmkokaaGreatDoor
open Go.RowKit Lx Tx Go.Maps Go.WideMaps Go.Shelf
set_option maxRecDepth 100000
def za5(cat tak:List Name)(x:Name)(k:Nat):Name × Nat:=if x∈cat then(nm 120 (zal 120 tak k),zal 120 tak k+1) else(x,k)
def zjS(kl:Nat)(cl:Array Value)(J:World->Prop)(Su:Nat->Prop)(place:Ty->Option Ty):Prop :=
 ∀(t:Ty) (S:Nat->Prop) (v:Value) (w:World),J w->RdV S w t v->(∀g,S g->g<w.heap.size)->kd t=1\/kd t=2->Nm t ->
  Calls Tryz.prog kl (#[v]++cl) w λe w'=>∃k x z a m p q,e=.returned (.tuple #[.agg #[.int .i64 k,.string x,.int .i64 z,.slice a m p],.bool q])/\(q=true->∃u,place t=some u/\RdV Su w' u (.agg #[.int .i64 k,.string x,.int .i64 z,.slice a m p]))/\(q=false->place t=none)/\Below w.heap.size w w'
structure Kept (J:World->Prop) (KJ:Nat->Prop):Prop where
 lt:∀w,J w->∀g,KJ g->g<w.heap.size
 keep:∀w w',J w->w.heap.size<=w'.heap.size->(∀g,KJ g->w'.heap[g]?=w.heap[g]?)->J w'
theorem Kept.below {J:World->Prop} {KJ:Nat->Prop}(h:Kept J KJ) {w w':World}(hj:J w)(hb:Below w.heap.size w w'):J w':=h.keep w w' hj hb.size (λg hg=>hb.block g (h.lt w hj g hg))
theorem ze8 {σ:Type} {kl:Nat} {cl:Array Value} {J:World->Prop} {Su:Nat->Prop} {place:Ty->Option Ty}(h:zjS kl cl J Su place)(I:Nat->σ->World->Prop)(K M:Nat->Prop)(hI:InvC I K)(hJ:∀c s w,I c s w->J w):zdT kl cl I M Su place:=by
 intro c s t S v w hi hv hS hk hn;refine(h t S v w (hJ _ _ _ hi) hv hS hk hn).mono ?_;rintro e w' ⟨k,x,z,a,m,p,q,he,h1,h2,hb⟩;exact⟨k,x,z,a,m,p,q,he,h1,h2,hI.keep _ _ _ _ hi hb.size (λg hg=>hb.block g (hI.lt _ _ _ hi g hg)),Chg.of_below hb⟩
structure PuN (J:World->Prop) (Su:Nat->Prop) (pb mb kl:Nat) (cl:Array Value) (vc vn:Value) (c:Nat) (k:Nat) (w:World):Prop where
 jj:J w
 su:∀g,Su g->g<w.heap.size
 pt:Pt w pb mb kl cl vc vn
def PuNK(KJ Su:Nat->Prop)(pb:Nat)(g:Nat):Prop:=g=pb\/KJ g\/Su g
theorem PuN.inv {J:World->Prop} {KJ Su:Nat->Prop}(hJ:Kept J KJ)(pb mb kl:Nat)(cl:Array Value)(vc vn:Value):InvC (PuN J Su pb mb kl cl vc vn) (PuNK KJ Su pb) where
 mono c c' s w h _:={ h with }
 lt c s w h g hg:=by
  rcases hg with rfl|hg|hg
  ·exact Blk.lt h.pt
  ·exact hJ.lt w h.jj g hg
  ·exact h.su g hg
 keep c s w w' h hs hk:=⟨hJ.keep w w' h.jj hs (λg hg=>hk g (.inr (.inl hg))),λg hg=>Nat.lt_of_lt_of_le (h.su g hg) hs,Blk.same h.pt (hk _ (.inl rfl))⟩
structure PuI (J:World->Prop) (Su:Nat->Prop) (pb mb kl:Nat) (cl:Array Value) (fb cb lb nb sb:Nat) (cat tak:List Name) (c:Nat) (k:Nat) (w:World):Prop where
 jj:J w
 su:∀g,Su g->g<w.heap.size
 pt:Pt w pb mb kl cl (.map (some fb)) (newV lb nb sb)
 ca:MapE mkSet w fb (units cat)
 new:NewI 120 lb nb sb cb tak k w
 tab:Tab w
 len:k<=c*(tak.length+1)
def PuIK(KJ Su:Nat->Prop)(pb fb cb lb nb sb:Nat)(g:Nat):Prop:=g=pb\/g=fb\/g=cb\/g=lb\/g=nb\/g=sb\/g=0\/KJ g\/Su g
theorem PuI.inv {J:World->Prop} {KJ Su:Nat->Prop}(hJ:Kept J KJ)(pb mb kl:Nat)(cl:Array Value)(fb cb lb nb sb:Nat)(cat tak:List Name):InvC (PuI J Su pb mb kl cl fb cb lb nb sb cat tak) (PuIK KJ Su pb fb cb lb nb sb) where
 mono c c' s w h hc:={ h with len:=Nat.le_trans h.len (Nat.mul_le_mul_right _ hc) }
 lt c s w h g hg:=by
  rcases hg with rfl|rfl|rfl|rfl|rfl|rfl|rfl|hg|hg
  ·exact Blk.lt h.pt
  ·exact h.ca.lt
  ·exact h.new.set.lt
  ·exact h.new.let_.lt
  ·exact h.new.num.lt
  ·exact h.new.cel.lt
  ·exact h.tab.lt
  ·exact hJ.lt w h.jj g hg
  ·exact h.su g hg
 keep c s w w' h hs hk:=by
  have k:∀g,PuIK KJ Su pb fb cb lb nb sb g->w'.heap[g]?=w.heap[g]?:=hk;unfold PuIK at k;exact
   {jj:=hJ.keep w w' h.jj hs (λg hg=>k g (by simp[hg]))
    su:=λg hg=>Nat.lt_of_lt_of_le (h.su g hg) hs
    pt:=Blk.same h.pt (k _ (by simp))
    ca:=h.ca.keep (k _ (by simp))
    new:=h.new.keep (k _ (by simp)) (k _ (by simp)) (k _ (by simp)) (k _ (by simp))
    tab:=h.tab.keep (k _ (by simp))
    len:=h.len }
theorem zri(lb nb sb:Nat):newV lb nb sb=fnV 65 #[.pointer (some ⟨lb,0,none⟩),.pointer (some ⟨nb,0,none⟩),.pointer (some ⟨sb,0,none⟩)]:=rfl
theorem PuI.bind {J:World->Prop} {KJ Su:Nat->Prop}(hJ:Kept J KJ)(pb mb kl:Nat)(cl:Array Value)(fb cb lb nb sb:Nat)(cat tak:List Name)(h0:nb≠lb)(h1:nb≠sb)(h2:nb≠cb)(h3:nb≠0)(h4:nb≠pb)(h5:nb≠fb)(h6:¬KJ nb)(htak:tak.length<=95000000):zmq (.map (some fb)) (newV lb nb sb) (PuI J Su pb mb kl cl fb cb lb nb sb cat tak) (only nb) (za5 cat tak) (λx=>decide (x∈cat)):=by
 refine⟨λc s X w hi hX=>?_,λx s hx=>?_,_,_,zri lb nb sb,enters_of Tryz.func65 (by kernel_rfl) rfl,λc s X w hi hX hc hin=>?_⟩
 ·have h:=hi.ca.getOk X (by unfold maxLen;omega)
  rw[zct]at h
  show _=Result.ok (Value.tuple #[Value.agg #[],Value.bool (decide (X.data.toList∈cat))]) w;by_cases hx:X.data.toList∈cat
  ·rw[if_pos hx]at h
   rw[decide_eq_true hx]
   exact h
  ·rw[if_neg hx]at h
   rw[decide_eq_false hx]
   exact h
 ·unfold za5
  rw[if_neg (of_decide_eq_false hx)]
 ·have hm:c*(tak.length+1)<=10000000*95000001:=Nat.mul_le_mul (by omega) (by omega)
  have hl:=hi.len;obtain⟨_,hk1,hk2⟩:=zaw 120 tak s (by omega);refine(zkU 120 lb nb sb cb tak s w hi.new hi.tab h0 h1 h2 h3 (by omega)).mono ?_;rintro e w1 ⟨rfl,n1,c1⟩;have hb:za5 cat tak X.data.toList s=(nm 120 (zal 120 tak s),zal 120 tak s+1):=by unfold za5;rw[if_pos (of_decide_eq_true hin)]
  rw[hb]
  have k:∀g,g<w.heap.size->g≠nb->w1.heap[g]?=w.heap[g]?:=λg hg hn=>c1.block g hg hn;refine⟨rfl,{ jj:=hJ.keep w w1 hi.jj c1.size (λg hg=>k g (hJ.lt w hi.jj g hg) (λe=>h6 (e▸hg))),su:=λg hg=>Nat.lt_of_lt_of_le (hi.su g hg) c1.size,pt:=Blk.same hi.pt (k _ (Blk.lt hi.pt) (λe=>h4 e.symm)),ca:=hi.ca.keep (k _ hi.ca.lt (λe=>h5 e.symm)),new:=n1,tab:=hi.tab.keep (k _ hi.tab.lt (λe=>h3 e.symm)),len:=?_ },c1⟩;show zal 120 tak s+1<=(c+1)*(tak.length+1);rw[Nat.add_mul]
  omega
def putP(place:Ty->Option Ty)(t:Ty):Ty:=(chg (za5 (freeIn place t) (freeIn place t++nts t)) (lfP place) [] t 0).1
def RPst(Su:Nat->Prop)(t:Ty)(w:World)(e:Ending)(w':World):Prop :=
 ∃k x z a m q,e=.returned (.agg #[.int .i64 k,.string x,.int .i64 z,.slice a m q])/\RdV (λg=>Su g\/(w.heap.size<=g/\g<w'.heap.size)) w' t (.agg #[.int .i64 k,.string x,.int .i64 z,.slice a m q])/\Below w.heap.size w w'
theorem zrj {w:World} {g:Nat} {t:TypeId} {a0 a1 a2 a3:Value}(b:Value)(h:Blk w g t #[a0,a1,a2,a3]):Blk (w.setCell ⟨g,2,none⟩ b) g t #[a0,a1,b,a3]:=heap_setCell_same _ g 2 _ t b h
theorem zrk {w:World} {g:Nat} {t:TypeId} {a0 a1 a2 a3:Value}(b:Value)(h:Blk w g t #[a0,a1,a2,a3]):Blk (w.setCell ⟨g,3,none⟩ b) g t #[a0,a1,a2,b]:=heap_setCell_same _ g 3 _ t b h
theorem zpH(t:Ty)(h:t.poly=false):∀u∈kids t,u.poly=false:=by
 intro u hu;obtain⟨i,hi,rfl⟩:=List.mem_iff_getElem.1 hu;rw[zfv,Bool.or_eq_false_iff]at h
 cases e:(kids t)[i].poly with
 |false=>rfl
 |true=>rw[zjl _ i hi e]at h;exact absurd h.2 (by simp)
theorem zpI(t:Ty)(h:t.poly=false):kd t≠5:=by
 intro e;rw[zfv,e]at h
 simp at h
def PuSt(w:World)(Su:Nat->Prop)(R:Ty)(W:World)(e:Ending)(w':World):Prop :=
 ∃k x z a m q,e=.returned (.agg #[.int .i64 k,.string x,.int .i64 z,.slice a m q])/\RdV (λg=>Su g\/(w.heap.size+4<=g/\g<w'.heap.size)) w' R (.agg #[.int .i64 k,.string x,.int .i64 z,.slice a m q])/\Chg (λg=>w.heap.size+2<=g) W w'
theorem zlK {σ:Type} {mb c:Nat} {I:Nat->σ->World->Prop} {M Su:Nat->Prop} {env:List (Name × Name)} {O:Ty × σ} {R:Ty} {w W w':World} {e:Ending}(hR:O.1=R)(hs:w.heap.size+4<=W.heap.size)(hM:∀g,M g\/g=mb->w.heap.size+2<=g)(h:CPst mb I M Su env c O W e w'):PuSt w Su R W e w':=by
 obtain⟨k,x,z,a,m,q,he,hr,-,-,hc⟩:=h;subst hR;exact⟨k,x,z,a,m,q,he,hr.keep (λg hg=>hg.elim .inl (λhg=>.inr ⟨by omega,hg.2⟩)) (λ_ _=>rfl),hc.mono (λg _ hg=>hM g hg)⟩
theorem zrl(kl:Nat)(cl:Array Value)(J:World->Prop)(KJ Su:Nat->Prop)(place:Ty->Option Ty)(hJ:Kept J KJ)(el:∀args w,(callFunc kl args).run Tryz.prog w=.ok (.enter kl args) w)(HP:zjS kl cl J Su place)(hpn:∀t u,place t=some u->Nm u/\u.size<=1000000)
  (t:Ty)(S:Nat->Prop)(v:Value)(w:World)(hj:J w)(hsu:∀g,Su g->g<w.heap.size)(hv:RdV S w t v)(hS:∀g,S g->g<w.heap.size)(hnm:Nm t)(hsz:t.size<=1000000)(hroom:(freeIn place t).length<=90000000)(ht:Tab w):Calls Tryz.prog 62 #[v,fnV kl cl] w (RPst Su (putP place t) w):=by
 obtain⟨K0,X,Z,A,m,cp,rfl,-,-,-,-,-⟩:=hv.parts;have hmm:∀w,(Instr.makeMap 65 none).run Tryz.prog w=.ok (.map (some w.heap.size)) (w.alloc (.map #[] 0)):=λ_=>rfl;have htl:=ht.lt;have hkj:=hJ.lt w hj;obtain⟨l0,l1,l2,l3,ls,lb⟩:=zhR w (.cells #[.int .i64 K0,.string X,.int .i64 Z,.slice A m cp] 26) (.cells #[.int .i64 0,.string ⟨#[]⟩,.int .i64 0,.slice none 0 0] 26) (.map #[] 0) (.cells #[.func (.func kl) #[] cl,.map (some (w.heap.size+1+1)),.map none,.nilFunc] 145);obtain⟨W4,hW4⟩:∃W,(((w.alloc (.cells #[.int .i64 K0,.string X,.int .i64 Z,.slice A m cp] 26)).alloc (.cells #[.int .i64 0,.string ⟨#[]⟩,.int .i64 0,.slice none 0 0] 26)).alloc (.map #[] 0)).alloc (.cells #[.func (.func kl) #[] cl,.map (some (w.heap.size+1+1)),.map none,.nilFunc] 145)=W:=⟨_,rfl⟩;rw[hW4]at l0 l1 l2 l3 ls lb
 obtain⟨p0,p1,p2,p3,-⟩:=zaa (show Blk W4 w.heap.size 26 _ from l0);have hv4:=hv.keep (S':=S) (w':=W4) (λ_ h=>h) (λg hg=>lb.block g (hS g hg));have hpo:=zmb t S _ W4 hsz hv4 (λg hg=>by have:=hS g hg;omega);have hj4:J W4:=hJ.below hj lb;have ht4:Tab W4:=ht.below lb;have HPO:=hidE hpo;have L0:Hid (Blk W4 w.heap.size 26 #[.int .i64 K0,.string X,.int .i64 Z,.slice A m cp]):=hidE l0;have L1:Hid (Blk W4 (w.heap.size+1) 26 #[.int .i64 0,.string ⟨#[]⟩,.int .i64 0,.slice none 0 0]):=hidE l1;have L2:=hidE l2;have L3:Hid (Blk W4 (w.heap.size+1+1+1) 145 #[fnV kl cl,.map (some (w.heap.size+1+1)),.map none,.nilFunc]):=hidE l3;have LS:=hidE ls;have LB:=hidE lb;have HJ4:=hidE hj4;have HT4:=hidE ht4;have HV4:=hidE hv4;have HS:=hidE hS;have HSU:=hidE hsu;have HKJ:=hidE hkj;have HNM:=hidE hnm;have HPN:=hidE hpn;obtain⟨q,hq⟩:∃q,t.poly=q:=⟨_,rfl⟩;rw[hq]at HPO
 have HQ:=hidE hq;obtain⟨R,hR⟩:∃R,putP place t=R:=⟨_,rfl⟩;rw[hR]
 have HR:=hidE hR;have HW4:=hidE hW4;clear hW4 hv hj hsu hS hnm ht hpn hv4 hpo hj4 ht4 l0 l1 l2 l3 ls lb hkj hq hR;unfold fnV;go_enter Tryz.func62,Tryz.ntmps62
 go_upto_region 2 with fail
 rw[HW4.out]
 go_wp2_with fail
 refine HPO.out.mono ?_;rintro e w5 ⟨rfl,b5⟩;have hs5:=b5.size;have B5:=hidE b5;clear HPO b5 p0 p1 p2 p3;go_upto_if 11 with fail
 go_cut [6] from 12 (λ_ wx=>Hid (Chg (only (w.heap.size+1+1+1)) W4 wx/\Calls Tryz.prog 90 #[.pointer (some ⟨w.heap.size+1+1+1,0,none⟩),.agg #[.int .i64 K0,.string X,.int .i64 Z,.slice A m cp]] wx (PuSt w Su R wx)))
 case first =>
  have hj5:J w5:=hJ.keep _ _ HJ4.out hs5 (λg hg=>B5.out.block g (hJ.lt _ HJ4.out g hg));have hsu5:∀g,Su g->g<w5.heap.size:=λg hg=>by have:=HSU.out g hg;have:=LS.out;omega
  have hv5:=HV4.out.keep (S':=S) (w':=w5) (λ_ h=>h) (λg hg=>B5.out.block g (by have:=HS.out g hg;have:=LS.out;omega));have HJ5:=hidE hj5;have HSU5:=hidE hsu5;have HV5:=hidE hv5;clear hj5 hsu5 hv5;cases q with
  |false =>
   go_wp2_with fail
   go_meet
   case rel =>
    have hls:=LS.out;have hput:=znT (w.heap.size+1+1+1) (w.heap.size+1+1) kl cl (.map none) .nilFunc (λ_=>false) (PuN J Su (w.heap.size+1+1+1) (w.heap.size+1+1) kl cl (.map none) .nilFunc) (PuNK KJ Su (w.heap.size+1+1+1)) (λ_=>False) Su (za5 (freeIn place t) (freeIn place t++nts t)) place (PuN.inv hJ _ _ _ _ _ _) (λ_ h=>h.elim) (λg hg=>⟨.inr (.inr hg),λh=>h⟩)
     (λh=>by
       rcases h with h|h|h;· omega
       ·have:=HKJ.out _ h;omega
       ·have:=HSU.out _ h;omega) (.inl rfl) (λh=>h) (λc s w h=>h.pt) el (ze8 HP _ _ _ (PuN.inv hJ _ _ _ _ _ _) (λ_ _ _ h=>h.jj)) (λt=>t.poly=false) zpH (λt h h5=>absurd h5 (zpI t h)) t.size 0 0 [] t S _ w5 HQ.out (Nat.le_refl _) hsz
     ⟨HJ5.out,HSU5.out,Blk.below L3.out B5.out (by omega)⟩ (MapE.laid mkTy ((B5.out.block _ (by omega)).trans L2.out)) HV5.out (λg hg=>⟨by have:=HS.out g hg;omega,λh=>h,by have:=HS.out g hg;omega⟩) HNM.out (by have:=zb6 t;omega) (by simp;omega)
    refine hidE ⟨Chg.of_below B5.out,hput.mono λe w' h=>zlK HR.out (by omega) (λg hg=>?_) h⟩;rcases hg with hg|hg
    ·exact hg.elim
    ·omega
  |true =>
   have hls:=LS.out;have hinv:InvC (λ(_:Nat) (_:Unit) w=>J w/\∀g,Su g->g<w.heap.size) (λg=>KJ g\/Su g) :=
    ⟨λ_ _ _ _ h _=>h,λ_ _ w h g hg=>hg.elim (hJ.lt w h.1 g) (h.2 g),λ_ _ w w' h hs hk=>⟨hJ.keep w w' h.1 hs (λg hg=>hk g (.inl hg)),λg hg=>Nat.lt_of_lt_of_le (h.2 g hg) hs⟩⟩
   have hfi:=zjR kl cl (λ(_:Nat) (_:Unit) w=>J w/\∀g,Su g->g<w.heap.size) (λg=>KJ g\/Su g) (λ_=>False) Su place hinv (λ_ h=>h.elim) (λ_ h=>.inr h) el (ze8 HP _ _ _ hinv (λ_ _ _ h=>h.1)) HPN.out 0 () t S _ w5 ⟨HJ5.out,HSU5.out⟩ HV5.out (λg hg=>⟨by have:=HS.out g hg;omega,λh=>h⟩) HNM.out hsz hroom;have h05:=Blk.below L0.out B5.out (by omega);obtain⟨p0,p1,p2,p3,-⟩:=zaa h05;have HCS:Hid (∀x∈freeIn place t,x.length<=24):=hidE (zjQ HPN.out t);obtain⟨C,hC⟩:∃C,freeIn place t=C:=⟨_,rfl⟩;have HC:=hidE hC;rw[hC]at hfi hroom HCS
   have HFI:=hidE hfi;have HROOM:=hidE hroom;clear hfi hC hroom h05;unfold fnV at HFI;go_wp2_with fail
   refine HFI.out.mono ?_;rintro e w6 ⟨rfl,hm6,-,c6⟩;have hs6:=c6.size;have hb6:Below W4.heap.size W4 w6:=B5.out.trans (c6.toBelow hs5 (λ_ _ h=>h));have hpb6:=Blk.below L3.out hb6 (by omega);obtain⟨-,y1,y2,y3,z0,z1,z2,z3,hpl⟩:=zaa hpb6;have HM6:=hidE hm6;have B6:=hidE hb6;have PB6:=hidE hpb6;clear hm6 c6 hb6 hpb6 HFI p0 p1 p2 p3;go_wp2_with fail
   obtain⟨V6,hV6⟩:∃W,w6.setCell ⟨w.heap.size+1+1+1,2,none⟩ (.map (some (w5.heap.size+2)))=W:=⟨_,rfl⟩;rw[hV6]
   have hs7:V6.heap.size=w6.heap.size:=by rw[<-hV6];simp
   have hpb7:Blk V6 (w.heap.size+1+1+1) 145 #[fnV kl cl,.map (some (w.heap.size+1+1)),.map (some (w5.heap.size+2)),.nilFunc]:=hV6▸zrj _ PB6.out;have hc7:Chg (only (w.heap.size+1+1+1)) W4 V6:=by rw[<-hV6];exact(Chg.of_below (M:=only (w.heap.size+1+1+1)) B6.out).setCell (p:=⟨w.heap.size+1+1+1,2,none⟩) (.inr rfl) _
   have hm7:MapE mkSet V6 (w5.heap.size+2) (units C):=HM6.out.keep (by rw[<-hV6];exact Below.heap_setCell w6 ⟨w.heap.size+1+1+1,2,none⟩ _ _ (by show w5.heap.size+2≠w.heap.size+1+1+1;omega));have HS7:=hidE hs7;have hml7:=hm7.lt;have hs7le:w6.heap.size<=V6.heap.size:=Nat.le_of_eq hs7.symm;have hcl:=zjP C (w5.heap.size+2) V6 hm7;clear hV6 y1 y2 y3 z0 z1 z2 z3 hs7;refine hcl.mono ?_;rintro e w7 ⟨rfl,hm8,b7⟩;have hs8:=b7.size;have hcl8:=hm8.lt;have hc8:Chg (only (w.heap.size+1+1+1)) W4 w7:=hc7.below b7;have h07:=Blk.chg L0.out hc8 (by unfold only;omega);obtain⟨p0,p1,p2,p3,-⟩:=zaa h07;have hv7:=HV4.out.keep (S':=S) (w':=w7) (λ_ h=>h) (λg hg=>hc8.block g (by have:=HS.out g hg;omega) (by have:=HS.out g hg;unfold only;omega));have hnt:=zjN t.size t S _ V6.heap.size C w7 (Nat.le_refl _) hsz hv7 (λg hg=>⟨by have:=HS.out g hg;omega,by have:=HS.out g hg;omega⟩) HNM.out hm8 (by have:=HROOM.out;omega);have HNT:=hidE hnt;have PB7:=hidE (hpb7.below b7 hpb7.lt);have HM7:=hidE (hm7.keep (b7.block _ hm7.lt));have C8:=hidE hc8;clear hpb7 hc7 hm7 hcl hm8 b7 hc8 h07 hv7 hnt;go_wp2_with fail
   refine HNT.out.mono ?_;rintro e w8 ⟨rfl,hm9,c9⟩;have hs9:=c9.size;have hnw:=zcx 120 ⟨#[120]⟩ rfl V6.heap.size (C++nts t) w8 hm9;have HNW:=hidE hnw;have PB8:=hidE (PB7.out.chg c9 (by unfold only;omega));have HM8:=hidE (HM7.out.keep (c9.block _ HM7.out.lt (by unfold only;omega)));have C9:=hidE (C8.out.trans' c9 (λg hg h=>by have h:g=V6.heap.size:=h;omega));clear hm9 c9 hnw HNT p0 p1 p2 p3;go_wp2_with fail
   refine HNW.out.mono ?_;rintro e w9 ⟨rfl,hn9,b9⟩;have hs10:=b9.size;have hpb9:=PB8.out.below b9 PB8.out.lt;obtain⟨-,y1,y2,y3,z0,z1,z2,z3,hpl9⟩:=zaa hpb9;have HN9:=hidE hn9;have PB9:=hidE hpb9;have HM9:=hidE (HM8.out.keep (b9.block _ HM8.out.lt));have C10:=hidE (C9.out.below b9);clear hn9 hpb9 b9 HNW;unfold newV;go_wp2_with fail
   go_meet
   case rel =>
    obtain⟨V9,hV9⟩:∃W,w9.setCell ⟨w.heap.size+1+1+1,3,none⟩ (newV w8.heap.size (w8.heap.size+2) (w8.heap.size+1))=W:=⟨_,rfl⟩;have hs7:=HS7.out;have hs11:V9.heap.size=w9.heap.size:=by rw[<-hV9];simp
    have k9:∀g,g≠w.heap.size+1+1+1->V9.heap[g]?=w9.heap[g]?:=λg hg=>by rw[<-hV9];exact Below.heap_setCell w9 ⟨w.heap.size+1+1+1,3,none⟩ _ _ hg
    have hpbV:Blk V9 (w.heap.size+1+1+1) 145 #[fnV kl cl,.map (some (w.heap.size+1+1)),.map (some (w5.heap.size+2)),newV w8.heap.size (w8.heap.size+2) (w8.heap.size+1)]:=hV9▸zrk _ PB9.out;have hcV:Chg (only (w.heap.size+1+1+1)) W4 V9:=by rw[<-hV9];exact C10.out.setCell (p:=⟨w.heap.size+1+1+1,3,none⟩) (.inr rfl) _
    show Hid (Chg (only (w.heap.size+1+1+1)) W4 (w9.setCell ⟨w.heap.size+1+1+1,3,none⟩ (newV w8.heap.size (w8.heap.size+2) (w8.heap.size+1)))/\Calls Tryz.prog 90 #[.pointer (some ⟨w.heap.size+1+1+1,0,none⟩),.agg #[.int .i64 K0,.string X,.int .i64 Z,.slice A m cp]] (w9.setCell ⟨w.heap.size+1+1+1,3,none⟩ (newV w8.heap.size (w8.heap.size+2) (w8.heap.size+1))) (PuSt w Su R (w9.setCell ⟨w.heap.size+1+1+1,3,none⟩ (newV w8.heap.size (w8.heap.size+2) (w8.heap.size+1)))));rw[hV9]
    have kV:∀g,g<w.heap.size->V9.heap[g]?=W4.heap[g]?:=λg hg=>hcV.block g (by omega) (by unfold only;omega);have hnew:NewI 120 w8.heap.size (w8.heap.size+2) (w8.heap.size+1) V6.heap.size (C++nts t) 0 V9:=HN9.out.keep (k9 _ (by omega)) (k9 _ (by omega)) (k9 _ (by omega)) (k9 _ (by omega));have hnl:=hnew.num.lt;have hjV:J V9:=hJ.keep W4 V9 HJ4.out (by omega) (λg hg=>kV g (HKJ.out g hg));have hcat:MapE mkSet V9 (w5.heap.size+2) (units C):=HM9.out.keep (k9 _ (by omega));have htab:Tab V9:=HT4.out.keep (kV _ htl);have hlen:(C++nts t).length<=95000000:=by rw[List.length_append,zc3];have:=HROOM.out;omega
    have hput:=znT (w.heap.size+1+1+1) (w.heap.size+1+1) kl cl (.map (some (w5.heap.size+2))) (newV w8.heap.size (w8.heap.size+2) (w8.heap.size+1)) (λx=>decide (x∈C)) (PuI J Su (w.heap.size+1+1+1) (w.heap.size+1+1) kl cl (w5.heap.size+2) V6.heap.size w8.heap.size (w8.heap.size+2) (w8.heap.size+1) C (C++nts t)) (PuIK KJ Su (w.heap.size+1+1+1) (w5.heap.size+2) V6.heap.size w8.heap.size (w8.heap.size+2) (w8.heap.size+1)) (only (w8.heap.size+2)) Su (za5 C (C++nts t)) place (PuI.inv hJ _ _ _ _ _ _ _ _ _ _ _) (λg hg=>by have hg:g=w8.heap.size+2:=hg;unfold PuIK;simp[hg]) (λg hg=>⟨by unfold PuIK;simp[hg],λh=>by have h:g=w8.heap.size+2:=h;have:=HSU.out g hg;omega⟩)
     (λh=>by
      rcases h with h|h|h|h|h|h|h|h|h
      ·omega
      ·omega
      ·omega
      ·omega
      ·omega
      ·omega
      ·omega
      ·have:=HKJ.out _ h;omega
      ·have:=HSU.out _ h;omega) (.inl rfl) (λh=>by have h:w.heap.size+1+1+1=w8.heap.size+2:=h;omega) (λc s w h=>h.pt) el (ze8 HP _ _ _ (PuI.inv hJ _ _ _ _ _ _ _ _ _ _ _) (λ_ _ _ h=>h.jj)) (λ_=>True) (λ_ _ _ _=>trivial) (λ_ _ _=>PuI.bind hJ _ _ _ _ _ _ _ _ _ _ _ (by omega) (by omega) (by omega) (by omega) (by omega) (by omega) (λh=>by have:=HKJ.out _ h;omega) hlen) t.size 0 0 [] t S _ V9 trivial (Nat.le_refl _) hsz
     ⟨hjV,λg hg=>by have:=HSU.out g hg;omega,hpbV,hcat,hnew,htab,Nat.zero_le _⟩ (MapE.laid mkTy ((hcV.block _ (by omega) (by unfold only;omega)).trans L2.out)) (HV4.out.keep (S':=S) (λ_ h=>h) (λg hg=>kV g (HS.out g hg))) (λg hg=>⟨by have:=HS.out g hg;omega,λh=>by have h:g=w8.heap.size+2:=h;have:=HS.out g hg;omega,by have:=HS.out g hg;omega⟩) HNM.out (by have:=zb6 t;omega) (by simp;omega)
    have hR:(chg (za5 C (C++nts t)) (lfP place) [] t 0).1=R:=by rw[<-HC.out];exact HR.out
    refine hidE ⟨hcV,hput.mono λe w' h=>zlK hR (by omega) (λg hg=>?_) h⟩;rcases hg with hg|hg
    ·have hg:g=w8.heap.size+2:=hg;omega
    ·omega
 case rest =>
  obtain⟨hc,hcall⟩:=hcut.out;have hls:=LS.out;have hsc:=hc.size;have h0:=Blk.chg L0.out hc (by unfold only;omega);obtain⟨p0,p1,p2,p3,-⟩:=zaa h0;have HC:=hidE hc;have HCALL:=hidE hcall;clear hcut hc hcall h0;go_wp2_with fail
  refine HCALL.out.mono ?_;rintro e w9 ⟨k',x',z',a',m',q',rfl,hr,c9⟩;have hs9:=c9.size;have h1:Blk w9 (w.heap.size+1) 26 #[.int .i64 0,.string ⟨#[]⟩,.int .i64 0,.slice none 0 0]:=Blk.chg (Blk.chg L1.out HC.out (by unfold only;omega)) c9 (by omega);obtain⟨i0,i1,i2,i3,i4,i5,i6,i7,i8⟩:=zaa h1;have K5:=hidE h1;have HRR:=hidE hr;have C9:=hidE c9;clear h1 hr c9 HCALL p0 p1 p2 p3;go_wp2_with fail
  have hb:=zad (.int .i64 k') (.string x') (.int .i64 z') (.slice a' m' q') K5.out;have hf:∀g,g≠w.heap.size+1->((((w9.setCell ⟨w.heap.size+1,0,none⟩ (.int .i64 k')).setCell ⟨w.heap.size+1,1,none⟩ (.string x')).setCell ⟨w.heap.size+1,2,none⟩ (.int .i64 z')).setCell ⟨w.heap.size+1,3,none⟩ (.slice a' m' q')).heap[g]?=w9.heap[g]?:=λg hg=>zaj _ _ _ _ _ _ _ hg;have hfs:((((w9.setCell ⟨w.heap.size+1,0,none⟩ (.int .i64 k')).setCell ⟨w.heap.size+1,1,none⟩ (.string x')).setCell ⟨w.heap.size+1,2,none⟩ (.int .i64 z')).setCell ⟨w.heap.size+1,3,none⟩ (.slice a' m' q')).heap.size=w9.heap.size:=by simp
  refine bodyPost_ret (results_cell_row rfl _ _ (w.heap.size+1) 26 _ (0,0) _ rfl hb Tryz.underlying26 rfl (by kernel_rfl)) rfl ⟨k',x',z',a',m',q',rfl,?_,?_⟩
  ·refine HRR.out.keep (λg h=>?_) (λg h=>hf g ?_)
   ·rcases h with h|h
    ·exact .inl h
    ·exact .inr ⟨by omega,by rw[hfs];exact h.2⟩
   ·rcases h with h|h
    ·have:=HSU.out g h;omega
    ·omega
  ·refine zaf ?_ _ _ _ _ (by omega)
   exact(LB.out.trans (HC.out.toBelow (B:=w.heap.size) (by omega) (λk hk h=>by have h:k=w.heap.size+1+1+1:=h;omega))).trans (C9.out.toBelow (B:=w.heap.size) (by omega) (λk hk h=>by omega))
structure TV where
 k:Int
 x:ByteArray
 z:Int
 a:Option Addr
 m:Nat
 p:Nat
def TV.val(v:TV):Value:=.agg #[.int .i64 v.k,.string v.x,.int .i64 v.z,.slice v.a v.m v.p]
def TV.zero:TV:=⟨0,⟨#[]⟩,0,none,0,0⟩
theorem TV.val_inj {v u:TV}(h:v.val=u.val):v=u:=by
 cases v;cases u
 unfold TV.val at h;injection h with h;have h:=congrArg Array.toList h;simp only[List.cons.injEq,Value.int.injEq,Value.string.injEq,Value.slice.injEq,and_true,true_and]at h;obtain⟨rfl,rfl,rfl,rfl,rfl,rfl⟩:=h;rfl
def encA:Option Addr->DataW Unit
 |none=>.nil
 |some ⟨b,o,none⟩=>.agg [.lit (.int .i64 (b:Nat)),.lit (.int .i64 (o:Nat))]
 |some ⟨b,o,some s⟩=>.agg [.lit (.int .i64 (b:Nat)),.lit (.int .i64 (o:Nat)),.lit (.int .i64 (s:Nat))]
theorem zpJ(a b:Option Addr)(h:encA a=encA b):a=b:=by
 rcases a with - |⟨a1,a2,- | a3⟩ <;> rcases b with - |⟨b1,b2,- | b3⟩ <;> simp[encA]at h ⊢
 ·omega
 ·omega
def TV.enc(v:TV):DataW Unit:=.agg [.lit (.int .i64 v.k),.lit (.string v.x.data.toList),.lit (.int .i64 v.z),encA v.a,.lit (.int .i64 (v.m:Nat)),.lit (.int .i64 (v.p:Nat))]
theorem TV.enc_inj {v u:TV}(h:v.enc=u.enc):v=u:=by
 obtain⟨k,⟨⟨x⟩⟩,z,a,m,p⟩:=v;obtain⟨k',⟨⟨x'⟩⟩,z',a',m',p'⟩:=u;simp[TV.enc]at h
 obtain⟨rfl,rfl,rfl,h4,h5,h6⟩:=h;have h5:m=m':=by omega
 have h6:p=p':=by omega
 rw[zpJ _ _ h4,h5,h6]
open Classical in
noncomputable def valElem (v:Value):Option (DataW Unit × List MemPlace):=if h:∃u:TV,v=u.val then some (h.choose.enc,[]) else none
theorem zeD(u:TV):valElem u.val=some (u.enc,[]):=by
 have h:∃u':TV,u.val=u'.val:=⟨u,rfl⟩;unfold valElem;rw[dif_pos h,<-TV.val_inj h.choose_spec]
theorem zgB {x:Value} {v:TV} {ps:List MemPlace}(h:valElem x=some (v.enc,ps)):x=v.val:=by
 unfold valElem at h;split at h
 ·rename_i hx
  injection h with h;injection h with h _;rw[<-TV.enc_inj h]
  exact hx.choose_spec
 ·cases h
theorem zld {x:Value} {y:DataW Unit × List MemPlace}(h:valElem x=some y):∃v:TV,x=v.val/\y=(v.enc,[]):=by
 unfold valElem at h;split at h
 ·rename_i hx
  injection h with h;exact⟨_,hx.choose_spec,h.symm⟩
 ·cases h
noncomputable def mkVal:MK TV where
 t:=65
 e:=26
 R:=valElem
 enc:=TV.enc
 val:=TV.val
 ok _:=True
 z:=TV.zero.val
 zd:=TV.zero.enc
 hT:=Tryz.underlying65
 hz _:=by kernel_rfl
 hR y _:=zeD _
 hzd:=zeD _
 inv _ _ _ h:=zgB h
 invz _ _ h:=zgB h
def RelV(S:Nat->Prop)(w:World):List (Name × Ty)->List (Name × TV)->Prop
 |[],[]=>True
 |(x,t)::r,(y,v)::q=>x=y/\RdV S w t v.val/\RelV S w r q
 |_,_=>False
theorem RelV.keep {S S':Nat->Prop} {w w':World}(hS:∀g,S g->S' g)(hk:∀g,S g->w'.heap[g]?=w.heap[g]?):∀(r:List (Name × Ty))(q:List (Name × TV)),RelV S w r q->RelV S' w' r q
 |[],[],_=>trivial
 |(x,t)::r,(y,v)::q,h=>by
  rw[RelV]at h ⊢
  exact⟨h.1,h.2.1.keep hS hk,RelV.keep hS hk r q h.2.2⟩
 |[],_::_,h=>h.elim
 |_::_,[],h=>h.elim
theorem RelV.found {S:Nat->Prop} {w:World}(x:Name):∀(r:List (Name × Ty))(q:List (Name × TV)),RelV S w r q ->
  (look x r=none/\look x q=none)\/∃t v,look x r=some t/\look x q=some v/\RdV S w t v.val
 |[],[],_=>.inl ⟨rfl,rfl⟩
 |(y,t)::r,(z,v)::q,h=>by
  rw[RelV]at h
  obtain⟨rfl,h1,h2⟩:=h;rw[look,look]
  by_cases hy:y=x
  ·rw[if_pos hy,if_pos hy];exact .inr ⟨t,v,rfl,rfl,h1⟩
  ·rw[if_neg hy,if_neg hy];exact RelV.found x r q h2
 |[],_::_,h=>h.elim
 |_::_,[],h=>h.elim
theorem RelV.len {S:Nat->Prop} {w:World} : ∀(r:List (Name × Ty))(q:List (Name × TV)),RelV S w r q->r.length=q.length
 |[],[],_=>rfl
 |(y,t)::r,(z,v)::q,h=>by
  rw[RelV]at h
  rw[List.length_cons,List.length_cons,RelV.len r q h.2.2]
 |[],_::_,h=>h.elim
 |_::_,[],h=>h.elim
def FndE(S:Nat->Prop)(w:World)(b:Nat)(r:List (Name × Ty)):Prop:=∃q,MapE mkVal w b q/\RelV S w r q
theorem FndE.lt {S:Nat->Prop} {w:World} {b:Nat} {r:List (Name × Ty)}(h:FndE S w b r):b<w.heap.size:=by obtain⟨_,h,_⟩:=h;exact h.lt
theorem FndE.keep {S S':Nat->Prop} {w w':World} {b:Nat} {r:List (Name × Ty)}(h:FndE S w b r)(hS:∀g,S g->S' g)(hb:w'.heap[b]?=w.heap[b]?)(hk:∀g,S g->w'.heap[g]?=w.heap[g]?):FndE S' w' b r:=by
 obtain⟨q,h1,h2⟩:=h;exact⟨q,h1.keep hb,RelV.keep hS hk r q h2⟩
def zay(r:List (Name × Ty)):Ty->Option Ty
 |.var x=>look x r
 |_=>none
def MJ(S:Nat->Prop)(fb mb:Nat)(r:List (Name × Ty))(w:World):Prop:=Blk w fb 65 #[.map (some mb)]/\FndE S w mb r/\∀g,S g->g<w.heap.size
def MKJ(S:Nat->Prop)(fb mb:Nat)(g:Nat):Prop:=g=fb\/g=mb\/S g
theorem MJ.kept(S:Nat->Prop)(fb mb:Nat)(r:List (Name × Ty)):Kept (MJ S fb mb r) (MKJ S fb mb) where
 lt w h g hg:=by
  obtain⟨h1,h2,h3⟩:=h;rcases hg with rfl|rfl|hg
  ·exact h1.lt
  ·exact h2.lt
  ·exact h3 g hg
 keep w w' h hs hk:=by
  obtain⟨h1,h2,h3⟩:=h;exact⟨h1.same (hk _ (.inl rfl)),h2.keep (λ_ h=>h) (hk _ (.inr (.inl rfl))) (λg hg=>hk g (.inr (.inr hg))),λg hg=>Nat.lt_of_lt_of_le (h3 g hg) hs⟩
theorem zpK(S:Nat->Prop)(fb mb:Nat)(r:List (Name × Ty)):zjS 63 #[.pointer (some ⟨fb,0,none⟩)] (MJ S fb mb r) S (zay r):=by
 intro t St v w hj hv hSt hk12 hnm;obtain⟨k,X,Z,A,m,cp,rfl,hk,hX,hZ,hkm,-⟩:=hv.parts;have hjk:=(MJ.kept S fb mb r).keep;have hlj:=(MJ.kept S fb mb r).lt w hj;obtain⟨l0,l1,ls,lb⟩:=za8 w (.cells #[.int .i64 k,.string X,.int .i64 Z,.slice A m cp] 26) (.cells #[.int .i64 0,.string ⟨#[]⟩,.int .i64 0,.slice none 0 0] 26);obtain⟨W2,hW2⟩:∃W,(w.alloc (.cells #[.int .i64 k,.string X,.int .i64 Z,.slice A m cp] 26)).alloc (.cells #[.int .i64 0,.string ⟨#[]⟩,.int .i64 0,.slice none 0 0] 26)=W:=⟨_,rfl⟩;rw[hW2]at l0 l1 ls lb
 have hj2:=hjk w W2 hj lb.size (λg hg=>lb.block g (hlj g hg));obtain⟨hb2,⟨q,hq1,hq2⟩,hs2⟩:=hj2;have hX24:X.size<=maxLen:=by have:=zc4 hnm;rw[<-hX]at this;unfold maxLen;omega
 have hlk:=hq1.getOk X hX24;have hxl:X.data.toList=(nmB t).data.toList:=by rw[hX]
 obtain⟨V,qb,hV,hqt,hqf⟩:∃(V:TV) (qb:Bool),(mkVal.valO (look X.data.toList q)=V.val/\(look X.data.toList q).isSome=qb)/\(qb=true->∃u,look X.data.toList r=some u/\RdV S W2 u V.val)/\(qb=false->look X.data.toList r=none):=by
  rcases RelV.found X.data.toList r q hq2 with⟨h1,h2⟩|⟨u,V,h1,h2,h3⟩
  ·rw[h1,h2];exact⟨TV.zero,false,⟨rfl,rfl⟩,(λh=>absurd h (by simp)),λ_=>rfl⟩
  ·rw[h1,h2];exact⟨V,true,⟨rfl,rfl⟩,(λ_=>⟨u,rfl,h3⟩),(λh=>absurd h (by simp))⟩
 rw[hV.1,hV.2]at hlk
 obtain⟨k',x',z',a',m',p'⟩:=V;unfold TV.val at hlk hqt;replace hlk:(Instr.lookup 65 (.map (some mb)) (.string X) true).run Tryz.prog W2=.ok (.tuple #[.agg #[.int .i64 k',.string x',.int .i64 z',.slice a' m' p'],.bool qb]) W2:=hlk;obtain⟨e0,e1,e2,e3,e4,e5,e6,e7,e8⟩:=zaa (show Blk W2 w.heap.size 26 _ from l0);obtain⟨o0,o1,o2⟩:=zao hb2;have HK:=hidE hk;have HX:=hidE hX;have HKM:=hidE hkm;have HW2:=hidE hW2;have HQT:=hidE hqt;have HQF:=hidE hqf;have LB:=hidE lb;have LS:=hidE ls;have L1:=hidE l1;have HS2:=hidE hs2;have HXL:=hidE hxl;have HSJ:=hidE hj.2.2;have L0:=hidE l0;clear hk hX hZ hkm hW2 hqt hqf lb ls l0 l1 hs2 hj hv hSt hnm hlj hb2 hq1 hq2 hX24 hxl hV hjk;go_enter Tryz.func63,Tryz.ntmps63
 go_upto_region 1 with fail
 rw[HW2.out]
 go_upto_region 2 with fail
 obtain⟨V3,hV3⟩:∃W,W2.alloc (.cells #[.int .i64 k',.string x',.int .i64 z',.slice a' m' p'] 26)=W:=⟨_,rfl⟩;rw[hV3]
 have hb3:Below W2.heap.size W2 V3:=hV3▸(Below.refl _ W2).alloc (Nat.le_refl _) _;have h5:Blk V3 W2.heap.size 26 #[.int .i64 k',.string x',.int .i64 z',.slice a' m' p']:=hV3▸heap_alloc_new _ _;have hls:=LS.out;have h1:Blk V3 (w.heap.size+1) 26 #[.int .i64 0,.string ⟨#[]⟩,.int .i64 0,.slice none 0 0]:=Blk.below (w:=W2) L1.out hb3 (by omega);have h0:Blk V3 w.heap.size 26 #[.int .i64 k,.string X,.int .i64 Z,.slice A m cp]:=Blk.below (w:=W2) L0.out hb3 (by omega);obtain⟨c0,c1,c2,c3,-⟩:=zaa h5;obtain⟨y0,y1,y2,y3,z0,z1,z2,z3,hyl⟩:=zaa h1;obtain⟨f0,-⟩:=zaa h0;have K1:=hidE h1;have HB3:=hidE hb3;have hout:∀g,g≠w.heap.size+1->((((V3.setCell ⟨w.heap.size+1,0,none⟩ (.int .i64 k')).setCell ⟨w.heap.size+1,1,none⟩ (.string x')).setCell ⟨w.heap.size+1,2,none⟩ (.int .i64 z')).setCell ⟨w.heap.size+1,3,none⟩ (.slice a' m' p')).drew.heap[g]?=V3.heap[g]?:=λg hg=>zaj _ _ _ _ _ _ _ hg;have hbel:Below w.heap.size w ((((V3.setCell ⟨w.heap.size+1,0,none⟩ (.int .i64 k')).setCell ⟨w.heap.size+1,1,none⟩ (.string x')).setCell ⟨w.heap.size+1,2,none⟩ (.int .i64 z')).setCell ⟨w.heap.size+1,3,none⟩ (.slice a' m' p')).drew:=(zaf (LB.out.trans (hb3.mono (by omega))) _ _ _ _ (by omega)).drew;have HOUT:=hidE hout;have HBEL:=hidE hbel;have HSZ:=hidE hls;have hkk:∀q',q'=(qb &&(k:Int)==1)->(q'=true->∃u,zay r t=some u/\RdV S ((((V3.setCell ⟨w.heap.size+1,0,none⟩ (.int .i64 k')).setCell ⟨w.heap.size+1,1,none⟩ (.string x')).setCell ⟨w.heap.size+1,2,none⟩ (.int .i64 z')).setCell ⟨w.heap.size+1,3,none⟩ (.slice a' m' p')).drew u (.agg #[.int .i64 k',.string x',.int .i64 z',.slice a' m' p']))/\(q'=false->zay r t=none):=by
  intro q' hq';subst hq';have hk:=HK.out;have hxl:=HXL.out;rw[hxl]at HQT HQF
  cases t with
  |var x =>
   have d1:((k:Int)==1)=true:=by rw[hk];rfl
   rw[d1,Bool.and_true]
   refine⟨λhq=>?_,λhq=>HQF.out hq⟩;obtain⟨u,h1,h2⟩:=HQT.out hq;refine⟨u,h1,h2.keep (λ_ h=>h) (λg hg=>(HOUT.out g ?_).trans (HB3.out.block g (HS2.out g hg)))⟩;have:=HSJ.out g hg;omega
  |mt n =>
   have d1:((k:Int)==1)=false:=by rw[hk];rfl
   rw[d1,Bool.and_false]
   exact⟨λh=>absurd h (by simp),λ_=>rfl⟩
  |con c l=>simp[kd]at hk12
  |fn a b=>simp[kd]at hk12
  |all x t=>simp[kd]at hk12
 have HKK:=hidE hkk;clear hV3 hb3 h5 hls h1 h0 hout hbel hkk HQT HQF hlk;cases qb with
 |false =>
  go_region
  all_goals
   go_wp2_with fail
   try simp only[Exit.inBlock,Exit.then]
   refine bodyPost_ret (zah rfl _ _ (w.heap.size+1) 26 _ (0,0) _ rfl (zad _ _ _ _ K1.out).drew Tryz.underlying26 rfl (by kernel_rfl)) rfl ?_;obtain⟨g1,g2⟩:=HKK.out false (by simp);exact⟨k',x',z',a',m',p',false,rfl,g1,g2,HBEL.out⟩
 |true =>
  cases hd:((k:Int)==1) with
  |false =>
   go_region
   all_goals
    go_wp2_with fail
    try simp only[Exit.inBlock,Exit.then]
    refine bodyPost_ret (zah rfl _ _ (w.heap.size+1) 26 _ (0,0) _ rfl (zad _ _ _ _ K1.out).drew Tryz.underlying26 rfl (by kernel_rfl)) rfl ?_;obtain⟨g1,g2⟩:=HKK.out false (by rw[hd];rfl);exact⟨k',x',z',a',m',p',false,rfl,g1,g2,HBEL.out⟩
  |true =>
   go_region
   all_goals
    go_wp2_with fail
    try simp only[Exit.inBlock,Exit.then]
    refine bodyPost_ret (zah rfl _ _ (w.heap.size+1) 26 _ (0,0) _ rfl (zad _ _ _ _ K1.out).drew Tryz.underlying26 rfl (by kernel_rfl)) rfl ?_;obtain⟨g1,g2⟩:=HKK.out true (by rw[hd];rfl);exact⟨k',x',z',a',m',p',true,rfl,g1,g2,HBEL.out⟩
end Go.Proofs.YtaomnlcplmkokaaGreatDoor
namespace Go.Proofs.YtaomnlcplmkokaaGreatDoor
open Go.RowKit Lx Tx Go.Maps Go.WideMaps Go.Shelf
set_option maxRecDepth 100000
theorem zlL(mb:Nat)(r:List (Name × Ty))(Sf:Nat->Prop)(hpn:∀t u,zay r t=some u->Nm u/\u.size<=1000000)
  (t:Ty)(S:Nat->Prop)(v:Value)(w:World)(hf:FndE Sf w mb r)(hSf:∀g,Sf g->g<w.heap.size)(hv:RdV S w t v)(hS:∀g,S g->g<w.heap.size)(hnm:Nm t)(hsz:t.size<=1000000)(hroom:(freeIn (zay r) t).length<=90000000)(ht:Tab w):Calls Tryz.prog 31 #[v,.map (some mb)] w (RPst Sf (putP (zay r) t) w):=by
 obtain⟨K0,X,Z,A,m,cp,rfl,-,-,-,-,-⟩:=hv.parts;have hmf:∀(fn:Fn) (first cap:Array Value) (w:World),(Instr.makeFunc fn first cap).run Tryz.prog w=.ok (.func fn first cap) w:=λ_ _ _ _=>rfl;have hfl:=hf.lt;obtain⟨l0,l1,l2,ls,lb⟩:=zcs w (.cells #[.int .i64 K0,.string X,.int .i64 Z,.slice A m cp] 26) (.cells #[.map (some mb)] 65) (.cells #[.int .i64 0,.string ⟨#[]⟩,.int .i64 0,.slice none 0 0] 26);obtain⟨W3,hW3⟩:∃W,((w.alloc (.cells #[.int .i64 K0,.string X,.int .i64 Z,.slice A m cp] 26)).alloc (.cells #[.map (some mb)] 65)).alloc (.cells #[.int .i64 0,.string ⟨#[]⟩,.int .i64 0,.slice none 0 0] 26)=W:=⟨_,rfl⟩;rw[hW3]at l0 l1 l2 ls lb
 obtain⟨p0,p1,p2,p3,-⟩:=zaa (show Blk W3 w.heap.size 26 _ from l0);have hput:=zrl 63 #[.pointer (some ⟨w.heap.size+1,0,none⟩)] (MJ Sf (w.heap.size+1) mb r) (MKJ Sf (w.heap.size+1) mb) Sf (zay r) (MJ.kept Sf (w.heap.size+1) mb r) (enters_of Tryz.func63 (by kernel_rfl) rfl) (zpK Sf (w.heap.size+1) mb r) hpn t S _ W3
  ⟨l1,hf.keep (λ_ h=>h) (lb.block _ hfl) (λg hg=>lb.block g (hSf g hg)),λg hg=>by have:=hSf g hg;omega⟩ (λg hg=>by have:=hSf g hg;omega) (hv.keep (S':=S) (λ_ h=>h) (λg hg=>lb.block g (hS g hg))) (λg hg=>by have:=hS g hg;omega) hnm hsz hroom (ht.below lb)
 obtain⟨R,hR⟩:∃R,putP (zay r) t=R:=⟨_,rfl⟩;rw[hR]at hput ⊢
 unfold fnV at hput;have HPUT:=hidE hput;have HW3:=hidE hW3;have L2:=hidE l2;have LS:=hidE ls;have LB:=hidE lb;have HSF:=hidE hSf;clear hf hSf hv hS hnm hroom ht l0 l1 l2 ls lb hW3 hput hR hpn;go_enter Tryz.func31,Tryz.ntmps31
 go_upto_region 1 with fail
 rw[HW3.out]
 go_wp2_with fail
 refine HPUT.out.mono ?_;rintro e w5 ⟨k',x',z',a',m',q',rfl,hr,b5⟩;have hs5:=b5.size;have hls:=LS.out;have kk3:Blk w5 (w.heap.size+1+1) 26 #[.int .i64 0,.string ⟨#[]⟩,.int .i64 0,.slice none 0 0]:=Blk.below (w:=W3) L2.out b5 (by omega);obtain⟨i0,i1,i2,i3,i4,i5,i6,i7,i8⟩:=zaa kk3;have HR:=hidE hr;have B5:=hidE b5;have K5:=hidE kk3;have HLS:=hidE hls;clear hr b5 kk3 HPUT p0 p1 p2 p3 hls;go_wp2_with fail
 have hls:=HLS.out;have hb:=zad (.int .i64 k') (.string x') (.int .i64 z') (.slice a' m' q') K5.out;have hf:∀g,g≠w.heap.size+1+1->((((w5.setCell ⟨w.heap.size+1+1,0,none⟩ (.int .i64 k')).setCell ⟨w.heap.size+1+1,1,none⟩ (.string x')).setCell ⟨w.heap.size+1+1,2,none⟩ (.int .i64 z')).setCell ⟨w.heap.size+1+1,3,none⟩ (.slice a' m' q')).heap[g]?=w5.heap[g]?:=λg hg=>zaj _ _ _ _ _ _ _ hg;have hfs:((((w5.setCell ⟨w.heap.size+1+1,0,none⟩ (.int .i64 k')).setCell ⟨w.heap.size+1+1,1,none⟩ (.string x')).setCell ⟨w.heap.size+1+1,2,none⟩ (.int .i64 z')).setCell ⟨w.heap.size+1+1,3,none⟩ (.slice a' m' q')).heap.size=w5.heap.size:=by simp
 refine bodyPost_ret (results_cell_row rfl _ _ (w.heap.size+1+1) 26 _ (0,0) _ rfl hb Tryz.underlying26 rfl (by kernel_rfl)) rfl ⟨k',x',z',a',m',q',rfl,?_,?_⟩
 ·refine HR.out.keep (λg h=>?_) (λg h=>hf g ?_)
  ·rcases h with h|h
   ·exact .inl h
   ·exact .inr ⟨by omega,by rw[hfs];exact h.2⟩
  ·rcases h with h|h
   ·have:=HSF.out g h;omega
   ·omega
 ·exact zaf (LB.out.trans (B5.out.mono (by omega))) _ _ _ _ (by omega)
set_option maxRecDepth 100000
theorem zjT(c:UInt8)(hc:c=112\/c=113)(k:Nat)(h:k<10 ^ 15):Gd 1 (nm c k):=by
 have hl:(dec k).length<=15:=zbK 20 15 k h (by omega);have hd:∀d∈c::dec k,inW d=true:=by
  intro d hd;rcases List.mem_cons.1 hd with rfl|hd
  ·rcases hc with rfl|rfl <;> decide
  ·simp[inW,zfF 20 k d hd]
 have hsp:=ze6 inW _ hd;have hk:wordKind (c::dec k)=1:=by
  unfold wordKind;rcases hc with rfl|rfl
  ·rw[if_neg (by simp[keys]),if_neg (by simp only[List.headD_cons];decide)]
  ·rw[if_neg (by simp[keys]),if_neg (by simp only[List.headD_cons];decide)]
 refine⟨by simp[nm],?_,by omega⟩;unfold nm;rw[first,if_pos (by rcases hc with rfl|rfl <;> decide),word,hsp,if_neg (by simp;omega),List.take_length]
 rw[hk]
def zaG(c:UInt8)(but:List Name):Ty->Nat->List Name
 |.all _ t,k=>nm c (zal c but k)::zaG c but t (zal c but k+1)
 |_,_=>[]
def zcm(c:UInt8)(but:List Name):Ty->Nat->List (Name × Name)->List (Name × Name)
 |.all x t,k,r=>zcm c but t (zal c but k+1) ((x,nm c (zal c but k))::r)
 |_,_,r=>r
def zbA:Ty->Ty
 |.all _ t=>zbA t
 |t=>t
def asVars(r:List (Name × Name)):List (Name × Ty):=r.map λp=>(p.1,.var p.2)
def tvVar(y:Name):TV:=⟨1,⟨y.toArray⟩,0,none,0,0⟩
def asVals(r:List (Name × Name)):List (Name × TV):=r.map λp=>(p.1,tvVar p.2)
def zaV(c:UInt8)(but:List Name)(t:Ty)(k:Nat):Ty:=putP (zay (asVars (zcm c but t k []))) (zbA t)
theorem zpL(S:Nat->Prop)(w:World)(r:List (Name × Name)):RelV S w (asVars r) (asVals r):=by
 induction r with
 |nil=>trivial
 |cons p r ih=>exact⟨rfl,⟨none,0,rfl,trivial⟩,ih⟩
theorem ziw(x:Name)(r:List (Name × Name)):look x (asVars r)=(look x r).map Ty.var:=by
 induction r with
 |nil=>rfl
 |cons p r ih =>
  show look x ((p.1,Ty.var p.2)::asVars r)=_;rw[look,look,ih]
  split <;> rfl
theorem zsg {S:Nat->Prop} {w:World} {t:Ty} {K Z:Int} {X:ByteArray} {A:Option Addr} {m c:Nat}(h:RdV S w t (.agg #[.int .i64 K,.string X,.int .i64 Z,.slice A m c])):K=(kd t:Nat)/\X=nmB t/\(kids t).length=m/\Args S w t A:=by
 obtain⟨A',c',hv,ha⟩:=h;injection hv with hv;have hv:=congrArg Array.toList hv;simp only[List.cons.injEq,Value.int.injEq,Value.string.injEq,Value.slice.injEq,and_true,true_and]at hv;obtain⟨rfl,rfl,rfl,rfl,rfl,rfl⟩:=hv;exact⟨rfl,rfl,rfl,ha⟩
theorem zdF {P:Program} {fn:Func} {p u:Tmp} {ty:TypeId}(h:fn.results=#[.tmp u,.cell p ty])(tmps:Array Value)(w:World)(g:Nat)(t:TypeId)(cs:Array Value)(fr:Nat × Nat)(d:TypeDesc)
  (hp:tmps.getD p undef=.pointer (some ⟨g,0,none⟩))(hg:w.heap[g]?=some (.cells cs t fr))
  (hu:P.underlying ty=some d)(hd:(match d with|.struct _|.array _ _=>true|_=>false)=true)(hi:(P.info? ty).map (·.size)=some cs.size):(results fn tmps).run P w=.ok (.tuple #[tmps.getD u undef,.agg cs]) w:=by
 have hp':tmps[p]?.getD undef=.pointer (some ⟨g,0,none⟩):=by simpa using hp
 simp[results,h,hp',asAddr,run_loadVar_row w g t ty cs fr d hg hu hd hi]
theorem zeE {r:List (Name × Name)}(hr:∀p∈r,Gd 1 p.2)(t u:Ty)(h:zay (asVars r) t=some u):∃y,u=.var y/\Gd 1 y:=by
 cases t with
 |var x =>
  rw[zay,ziw]at h
  cases e:look x r with
  |none=>rw[e]at h;cases h
  |some y =>
   rw[e]at h
   injection h with h;obtain⟨p,hp,e2⟩:=zhb x y r e;exact⟨y,h.symm,e2▸hr p hp⟩
 |mt n=>cases h
 |con c l=>cases h
 |fn a b=>cases h
 |all x t=>cases h
theorem zix {r:List (Name × Name)}(hr:∀p∈r,Gd 1 p.2)(t u:Ty)(h:zay (asVars r) t=some u):Nm u/\u.size<=1000000:=by
 obtain⟨y,rfl,hy⟩:=zeE hr t u h;exact⟨.var y hy,by rw[Ty.size];omega⟩
theorem znV {α:Type}(f:α->List Name)(h:∀a,(f a).length<=1)(l:List α):(l.flatMap f).length<=l.length:=by
 induction l with
 |nil=>simp
 |cons a r ih=>rw[List.flatMap_cons,List.length_append,List.length_cons];have:=h a;omega
theorem zeF {r:List (Name × Name)}(hr:∀p∈r,Gd 1 p.2)(t:Ty)(hsz:t.size<=1000000):(freeIn (zay (asVars r)) t).length<=90000000:=by
 have h1:∀t,(addF (zay (asVars r)) t).length<=1:=λt=>by
  unfold addF;cases e:zay (asVars r) t with
  |none=>exact Nat.zero_le _
  |some u =>
   obtain⟨y,rfl,-⟩:=zeE hr t u e;show(zam (.var y)).length<=1;have h:=za4 (.var y);rw[Ty.size]at h
   exact h
 have h2:∀n:Nat,addF (zay (asVars r)) (.mt n)=[]:=λn=>rfl;unfold freeIn;rw[List.length_append]
 have h3:=znV (λx=>addF (zay (asVars r)) (.var x)) (λx=>h1 _) (zam t);have h4:((zaX t).flatMap λn=>addF (zay (asVars r)) (.mt n)).length=0:=by
  generalize zaX t=l;induction l with
  |nil=>rfl
  |cons a r ih=>rw[List.flatMap_cons,h2,List.nil_append];exact ih
 have h5:=za4 t;omega
theorem zdG:(t:Ty)->(zbA t).size<=t.size
 |.all x t=>by rw[zbA,Ty.size];exact Nat.le_succ_of_le (zdG t)
 |.var x=>Nat.le_refl _
 |.mt n=>Nat.le_refl _
 |.con c l=>Nat.le_refl _
 |.fn a b=>Nat.le_refl _
theorem zpM(c:UInt8)(but:List Name)(t:Ty)(h:kd t≠5)(k:Nat)(r:List (Name × Name)):zaG c but t k=[]/\zcm c but t k r=r/\zbA t=t:=by
 cases t with
 |all x t=>exact absurd rfl h
 |_=>exact⟨rfl,rfl,rfl⟩
def HeadPe(c:UInt8)(lb nb sb cb:Nat)(but:List Name)(k:Nat)(t:Ty)(S:Nat->Prop)(b0 mb B:Nat)(w0:World)(gg:Nat)(v:Value)(wr:World):Prop :=
 ∃t' k' done r,gg=t'.size/\done++zaG c but t' k'=zaG c but t k/\zcm c but t' k' r=zcm c but t k []/\zbA t'=zbA t/\k'+t'.size*(but.length+1)<=k+t.size*(but.length+1)/\Nm t' /\
  (∃K X Z A m cp,Blk wr b0 26 #[.int .i64 K,.string X,.int .i64 Z,.slice A m cp]/\RdV S wr t' (.agg #[.int .i64 K,.string X,.int .i64 Z,.slice A m cp])) /\
  NewI c lb nb sb cb but k' wr/\MapE mkVal wr mb (asVals r)/\wr.ownsRow B 9 1 v done.length (strV done)/\Chg (λg=>g=nb\/g=b0\/g=mb) w0 wr/\done.length+t'.size<=t.size/\(∀p∈r,Gd 1 p.2)/\r.length=done.length
theorem zlM(c:UInt8)(hcc:c=112\/c=113)(lb nb sb cb:Nat)(but:List Name)(k:Nat)(t:Ty)(S:Nat->Prop)(v:Value)(w:World)(hn:NewI c lb nb sb cb but k w)(ht:Tab w)(h0:nb≠lb)(h1:nb≠sb)(h2:nb≠cb)(h3:nb≠0)
  (hv:RdV S w t v)(hS:∀g,S g->g<w.heap.size/\g≠nb)(hnm:Nm t)(hsz:t.size<=1000000)(hk:k+t.size*(but.length+1)<10 ^ 15):Calls Tryz.prog 40 #[v,newV lb nb sb] w λe w'=>∃A n cp k' x z a m q,e=.returned (.tuple #[.slice A n cp,.agg #[.int .i64 k',.string x,.int .i64 z,.slice a m q]])/\(zaG c but t k).length=n/\n<=t.size/\w'.ownsRow w.heap.size 9 1 (.slice A n cp) n (strV (zaG c but t k)) /\
   RdV (λg=>w.heap.size<=g/\g<w'.heap.size) w' (zaV c but t k) (.agg #[.int .i64 k',.string x,.int .i64 z,.slice a m q])/\Chg (only nb) w w':=by
 obtain⟨K0,X0,Z0,A0,m0,cp0,rfl,-,-,-,-,-⟩:=hv.parts;have hmm:∀w,(Instr.makeMap 65 none).run Tryz.prog w=.ok (.map (some w.heap.size)) (w.alloc (.map #[] 0)):=λ_=>rfl;obtain⟨i0,hi0,hz0,hz1,hz2⟩:=info_parts zg6;obtain⟨l0,l1,l2,ls,lb3⟩:=zcs w (.cells #[.int .i64 K0,.string X0,.int .i64 Z0,.slice A0 m0 cp0] 26) (.cells #[.int .i64 0,.string ⟨#[]⟩,.int .i64 0,.slice none 0 0] 26) (.map #[] 0);obtain⟨W3,hW3⟩:∃W,((w.alloc (.cells #[.int .i64 K0,.string X0,.int .i64 Z0,.slice A0 m0 cp0] 26)).alloc (.cells #[.int .i64 0,.string ⟨#[]⟩,.int .i64 0,.slice none 0 0] 26)).alloc (.map #[] 0)=W:=⟨_,rfl⟩;rw[hW3]at l0 l1 l2 ls lb3
 have hl1:=hn.let_.lt;have hl2:=hn.num.lt;have hl3:=hn.cel.lt;have hl4:=hn.set.lt;have htl:=ht.lt;have hn3:=hn.below lb3;have hv3:=hv.keep (S':=S) (w':=W3) (λ_ h=>h) (λg hg=>lb3.block g (hS g hg).1);have HW3:=hidE hW3;have L0:Hid (Blk W3 w.heap.size 26 #[.int .i64 K0,.string X0,.int .i64 Z0,.slice A0 m0 cp0]):=hidE l0;have L1:Hid (Blk W3 (w.heap.size+1) 26 #[.int .i64 0,.string ⟨#[]⟩,.int .i64 0,.slice none 0 0]):=hidE l1;have L2:=hidE l2;have LS:=hidE ls;have LB:=hidE lb3;have HN3:=hidE hn3;have HV3:=hidE hv3;have HT:=hidE ht;have HS:=hidE hS;have HNM:=hidE hnm;have HKB:=hidE hk;clear hn hv hS hnm hk ht hW3 l0 l1 l2 ls lb3 hn3 hv3;unfold newV;go_enter Tryz.func40,Tryz.ntmps40
 go_upto_region 1 with fail
 go_wp2_with fail
 rw[HW3.out]
 go_loopg [4] t.size (λgg v wr=>HeadPe c lb nb sb cb but k t S w.heap.size (w.heap.size+1+1) (w.heap.size+3) W3 gg v wr)
 case atStart =>
  exact⟨t,k,[],[],rfl,rfl,rfl,rfl,Nat.le_refl _,HNM.out,⟨_,_,_,_,_,_,L0.out,HV3.out⟩,HN3.out,MapE.laid mkVal L2.out,World.ownsRow_nil _ _ _ _,Chg.refl _ _,by simp,λp hp=>(List.not_mem_nil hp).elim,rfl⟩
 case round =>
  obtain⟨t',k',done,r,rfl,hpn,hpr,hpb,hkk,hnm',⟨K,X,Z,A,m,cp,hbk,hrd⟩,hnw,hmp,hown,hc,hdl,hgd,hrl⟩:=hrel;obtain⟨Av,cv,rfl⟩:=zaz hown;obtain⟨hK,hX,hm,ha⟩:=zsg hrd;obtain⟨p0,p1,p2,p3,q0,q1,q2,q3,hpl⟩:=zaa hbk;have hls:=LS.out;have hsz3:=hc.size;have htab:Tab wr:=HT.out.keep ((hc.block _ (by omega) (λh=>by
    rcases h with h|h|h;· exact h3 h.symm
    ·omega
    ·omega)).trans (LB.out.block _ htl))
  have HBK:=hidE hbk;have HRD:=hidE hrd;have HNW:=hidE hnw;have HMP:=hidE hmp;have HOWN:=hidE hown;have HC:=hidE hc;have HGD:=hidE hgd;have HPN:=hidE hpn;have HPR:=hidE hpr;have HPB:=hidE hpb;have HTB:=hidE htab;have HNM':=hidE hnm';have HX:=hidE hX;have HRL:=hidE hrl;have HKK:=hidE hkk;by_cases h5:kd t'=5
  ·cases t' with
   |all x u =>
    have d5:((K:Int)==5)=true:=by rw[hK];rfl
    have dm:(((m:Nat):Int)==1)=true:=by rw[<-hm];rfl
    have hm1:m=1:=hm.symm;subst hm1;obtain⟨g,hA,hSg,A1,cp1,⟨e0,e1,e2,e3⟩,ha1⟩:=Args.kid ha 0 (by rw[hm];omega);subst hA;replace e0:wr.cell? ⟨g,0,none⟩=some (.int .i64 (kd u:Nat)):=e0;replace e1:wr.cell? ⟨g,1,none⟩=some (.string (nmB u)):=e1;replace e2:wr.cell? ⟨g,2,none⟩=some (.int .i64 (nn u:Nat)):=e2;replace e3:wr.cell? ⟨g,3,none⟩=some (.slice A1 (kids u).length cp1):=e3;replace ha1:Args S wr u A1:=ha1;have hru:RdV S wr u (.agg #[.int .i64 (kd u:Nat),.string (nmB u),.int .i64 (nn u:Nat),.slice A1 (kids u).length cp1]):=⟨A1,cp1,rfl,ha1⟩;have hnu:Nm u:=by cases hnm';assumption
    have hgx:Gd 1 x:=by cases hnm';assumption
    have hX24:X.size<=maxLen:=by have:=zc4 hnm';rw[hX];unfold maxLen;omega
    obtain⟨K1,hK1⟩:∃K1:Int,((kd u:Nat):Int)=K1:=⟨_,rfl⟩;obtain⟨X1,hX1⟩:∃X1,nmB u=X1:=⟨_,rfl⟩;obtain⟨Z1,hZ1⟩:∃Z1:Int,((nn u:Nat):Int)=Z1:=⟨_,rfl⟩;obtain⟨m1,hm1⟩:∃m1,(kids u).length=m1:=⟨_,rfl⟩;rw[hK1,hX1,hZ1,hm1]at hru
    rw[hK1]at e0
    rw[hX1]at e1
    rw[hZ1]at e2
    rw[hm1]at e3
    rw[Ty.size]at hkk hdl
    rw[Nat.add_mul,Nat.one_mul]at hkk
    have hkb:=HKB.out;obtain⟨_,hk1,hk2⟩:=zaw c but k' (by omega);have hcall:=zkU c lb nb sb cb but k' wr hnw htab h0 h1 h2 h3 (by omega);have hgy:=zjT c hcc (zal c but k') (by omega);obtain⟨kk,hkk2⟩:∃kk,zal c but k'=kk:=⟨_,rfl⟩;have HY2:Hid (zaG c but (.all x u) k'=nm c kk::zaG c but u (kk+1)):=hidE (by rw[zaG,hkk2]);have HY3:Hid (zcm c but (.all x u) k' r=zcm c but u (kk+1) ((x,nm c kk)::r)):=hidE (by rw[zcm,hkk2]);rw[hkk2]at hcall hk1 hk2 hgy
    obtain⟨y,hy⟩:∃y,nm c kk=y:=⟨_,rfl⟩;rw[hy]at HY2 HY3 hcall hgy
    obtain⟨Y,hY⟩:∃Y:ByteArray,(⟨y.toArray⟩:ByteArray)=Y:=⟨_,rfl⟩;rw[hY]at hcall
    have HCALL:=hidE hcall;have HRU:=hidE hru;have HNU:=hidE hnu;have HGY:=hidE hgy;have HY:=hidE hY;have hgS:=HS.out g hSg;have HE:Hid (wr.cell? ⟨g,0,none⟩=some (.int .i64 K1)/\wr.cell? ⟨g,1,none⟩=some (.string X1)/\wr.cell? ⟨g,2,none⟩=some (.int .i64 Z1)/\wr.cell? ⟨g,3,none⟩=some (.slice A1 m1 cp1)):=hidE ⟨e0,e1,e2,e3⟩;have HX24:=hidE hX24;have hvl:(asVals r).length=done.length:=by unfold asVals;rw[List.length_map];exact hrl
    clear hK hX hm ha hbk hrd hnw hmp hown hc hgd hpn hpr hpb htab hnm' hrl hcall hru hnu hgx hgy hY hy hkk2 hK1 hX1 hZ1 hm1 e0 e1 e2 e3 ha1 h5 hX24;go_wp2_with fail
    refine HCALL.out.mono ?_;rintro e w1 ⟨rfl,hn1,c1⟩;have hs1:=c1.size;have HN1:=hidE hn1;have hown1:=zgs HOWN.out c1 (by omega);have HLT:=hidE hown1.lt;have HOWN2:=hidE (hown1.alloc (.cells #[.string Y] 9));have HB1:=hidE (HBK.out.chg c1 (by unfold only;omega));have HM1:=hidE (HMP.out.keep (c1.block _ HMP.out.lt (by unfold only;omega)));have C1:=hidE c1;clear hn1 c1 hown1 HCALL p0 p1 p2 p3 q0 q1 q2 q3;go_wp2_with (first
     |(at_builtin;refine wpList_append_own_at _ rfl (.tmp 20) (.tmp 22) 22 rfl (w.heap.size+3) 9 i0 _ 1 16 Tryz.underlying22 hi0 hz0 hz1 hz2 rfl (by decide) _ done.length (strV done) rfl HOWN2.out ⟨w1.heap.size,0,none⟩ 1 1 [.string Y] rfl rfl (zaK _ _ _ _ rfl) (by intro u hu;simp at hu;subst hu;rfl) (by unfold maxLen;omega) (by omega) (by simp;omega) ?_;intro v2 w5 hown3 hgrow _ hat3;obtain⟨A2,c2,rfl⟩:=zaz hown3;have HO3:=hidE hown3;have HG3:=hidE hgrow;have HT3:=hidE hat3;have K5:Hid (∀q,q<w.heap.size+3->w5.heap[q]?=w1.heap[q]?):=hidE (λq hq=>(hgrow.block q (by simp;omega) (λe=>by have:=HLT.out _ e.symm;omega)).trans (Below.heap_alloc _ _ _ (by omega)));have hb5:=Blk.same HB1.out (K5.out _ (by omega));obtain⟨p0,p1,p2,p3,-⟩:=zaa hb5;have HB5:=hidE hb5;have HM5:=hidE (HM1.out.keep (K5.out _ (by omega)));clear hown3 hgrow hat3 hb5)
     |(at_mapUpdate;refine zb5 mkVal _ rfl _ _ _ rfl (w.heap.size+1+1) (asVals r) rfl HM5.out (by omega) X HX24.out rfl ⟨1,Y,0,none,0,0⟩ trivial rfl ?_;intro w6 hm6 hg6;have K6:Hid (∀q,q<w.heap.size+3->q≠w.heap.size+1+1->w6.heap[q]?=w1.heap[q]?):=hidE (λq hq hne=>(hg6.block q (by have:=HB5.out.lt;have:=HM5.out.lt;have:=HG3.out.size;simp at this;omega) (λe=>by injection e with e;exact hne e)).trans (K5.out q hq));have hb6:=Blk.same HB1.out (K6.out _ (by omega) (by omega));have KG:Hid (w6.heap[g]?=wr.heap[g]?):=hidE ((K6.out g (by omega) (by omega)).trans (C1.out.block g (by omega) (by unfold only;omega)));have x0:=(World.cell?_of_block (w:=wr) (a:=⟨g,0,none⟩) KG.out).trans HE.out.1;have x1:=(World.cell?_of_block (w:=wr) (a:=⟨g,1,none⟩) KG.out).trans HE.out.2.1;have x2:=(World.cell?_of_block (w:=wr) (a:=⟨g,2,none⟩) KG.out).trans HE.out.2.2.1;have x3:=(World.cell?_of_block (w:=wr) (a:=⟨g,3,none⟩) KG.out).trans HE.out.2.2.2;obtain⟨p0,p1,p2,p3,q0,q1,q2,q3,hpl6⟩:=zaa hb6;have HB6:=hidE hb6;have HM6:=hidE hm6;have HG6:=hidE hg6;clear hm6 hg6 hb6))
    go_roundg u.size
    case measure=>rw[Ty.size];omega
    case rel =>
     have hV:∀q,q≠w.heap.size->((((w6.setCell ⟨w.heap.size,0,none⟩ (.int .i64 K1)).setCell ⟨w.heap.size,1,none⟩ (.string X1)).setCell ⟨w.heap.size,2,none⟩ (.int .i64 Z1)).setCell ⟨w.heap.size,3,none⟩ (.slice A1 m1 cp1)).heap[q]?=w6.heap[q]?:=λq hq=>zaj _ _ _ _ _ _ _ hq;have hV1:∀q,q<w.heap.size->((((w6.setCell ⟨w.heap.size,0,none⟩ (.int .i64 K1)).setCell ⟨w.heap.size,1,none⟩ (.string X1)).setCell ⟨w.heap.size,2,none⟩ (.int .i64 Z1)).setCell ⟨w.heap.size,3,none⟩ (.slice A1 m1 cp1)).heap[q]?=w1.heap[q]?:=λq hq=>(hV q (by omega)).trans (K6.out q (by omega) (by omega));refine⟨u,kk+1,done++[y],(x,y)::r,rfl,?_,?_,?_,by omega,HNU.out,⟨_,_,_,_,_,_,zad _ _ _ _ HB6.out,HRU.out.keep (λ_ h=>h) (λq hq=>?_)⟩,HN1.out.keep (hV1 _ hl1) (hV1 _ hl2) (hV1 _ hl3) (hV1 _ hl4),?_,?_,?_,by rw[List.length_append];simp;omega,λp hp=>?_,by have:=HRL.out;rw[List.length_append,List.length_cons];simp;omega⟩
     ·rw[List.append_assoc]
      show done++(y::zaG c but u (kk+1))=_;rw[<-HY2.out]
      exact HPN.out
     ·rw[<-HY3.out];exact HPR.out
     ·rw[<-HPB.out];rfl
     ·have hq':=HS.out q hq
      exact(hV1 q hq'.1).trans (C1.out.block q (by omega) (by unfold only;exact hq'.2))
     ·have h:=HM6.out.keep (hV (w.heap.size+1+1) (by omega))
      rw[HX.out,<-HY.out]at h
      exact h
     ·have h:=zbD HO3.out (w':=((((w6.setCell ⟨w.heap.size,0,none⟩ (.int .i64 K1)).setCell ⟨w.heap.size,1,none⟩ (.string X1)).setCell ⟨w.heap.size,2,none⟩ (.int .i64 Z1)).setCell ⟨w.heap.size,3,none⟩ (.slice A1 m1 cp1))) (λa ha=>by
       have h1:=HO3.out.lt a.block (by rw[ha];rfl);exact(hV _ (by omega)).trans (HG6.out.block _ h1.2 (λe=>by injection e with e;omega)))
      rw[List.length_append,show strV (done++[y])=strV done++[.string Y] by rw[<-HY.out];simp[strV]]
      exact h
     ·exact((((((((HC.out.trans' C1.out (λq _ h=>.inl h)).alloc _).grown HG3.out (λq hq=>.inl (by have:=HLT.out q hq;omega))).grown HG6.out (λq hq=>.inr (by injection hq with hq;exact .inr (.inr hq.symm)))).setCell (p:=⟨w.heap.size,0,none⟩) (.inr (.inr (.inl rfl))) _).setCell (p:=⟨w.heap.size,1,none⟩) (.inr (.inr (.inl rfl))) _).setCell (p:=⟨w.heap.size,2,none⟩) (.inr (.inr (.inl rfl))) _).setCell (p:=⟨w.heap.size,3,none⟩) (.inr (.inr (.inl rfl))) _)
     ·rcases List.mem_cons.1 hp with rfl|hp
      ·exact HGY.out
      ·exact HGD.out p hp
   |_=>simp[kd]at h5
  ·have d5:((K:Int)==5)=false:=by rw[hK];exact kF _ 5 h5
   obtain⟨hno1,hno2,hno3⟩:=zpM c but t' h5 k' r;have hput:=zlL (w.heap.size+1+1) (asVars r) (λ_=>False) (zix hgd) t' S _ wr ⟨asVals r,hmp,zpL _ _ _⟩ (λ_ h=>h.elim) hrd (λg hg=>by have:=(HS.out g hg).1;omega) hnm' (by omega) (zeF hgd t' (by omega)) htab;have hR:putP (zay (asVars r)) t'=zaV c but t k:=by unfold zaV;rw[<-hpr,hno2,<-hpb,hno3]
   rw[hR]at hput
   have hN:zaG c but t k=done:=by rw[<-hpn,hno1,List.append_nil]
   have HN:=hidE hN;obtain⟨R,hRR⟩:∃R,zaV c but t k=R:=⟨_,rfl⟩;rw[hRR]at hput
   have HRR:=hidE hRR;obtain⟨n,hn⟩:∃n,done.length=n:=⟨_,rfl⟩;rw[hn]at HOWN hdl ⊢
   have HPUT:=hidE hput;have HNL:=hidE hn;clear hput hR hRR hN hn hno1 hno2 hno3 hK hX hm ha hbk hrd hnw hmp hown hc hgd hpn hpr hpb htab hnm' hrl hkk h5;go_wp2_with fail
   refine HPUT.out.mono ?_;rintro e w5 ⟨k5,x5,z5,a5,m5,q5,rfl,hr,b5⟩;have hs5:=b5.size;have h1':Blk w5 (w.heap.size+1) 26 #[.int .i64 0,.string ⟨#[]⟩,.int .i64 0,.slice none 0 0]:=Blk.below (w:=wr) (Blk.chg L1.out HC.out (λh=>by rcases h with h|h|h <;> omega)) b5 (by omega);obtain⟨i0',i1',i2',i3',i4',i5',i6',i7',i8'⟩:=zaa h1';have HR:=hidE hr;have B5:=hidE b5;have K5:=hidE h1';have HOW5:=hidE (own_below HOWN.out b5);clear hr b5 h1' HPUT p0 p1 p2 p3 q0 q1 q2 q3;go_wp2_with fail
   try simp only[Exit.inBlock,Exit.then]
   have hb:=zad (.int .i64 k5) (.string x5) (.int .i64 z5) (.slice a5 m5 q5) K5.out;have hf:∀g,g≠w.heap.size+1->((((w5.setCell ⟨w.heap.size+1,0,none⟩ (.int .i64 k5)).setCell ⟨w.heap.size+1,1,none⟩ (.string x5)).setCell ⟨w.heap.size+1,2,none⟩ (.int .i64 z5)).setCell ⟨w.heap.size+1,3,none⟩ (.slice a5 m5 q5)).heap[g]?=w5.heap[g]?:=λg hg=>zaj _ _ _ _ _ _ _ hg;have hfs:((((w5.setCell ⟨w.heap.size+1,0,none⟩ (.int .i64 k5)).setCell ⟨w.heap.size+1,1,none⟩ (.string x5)).setCell ⟨w.heap.size+1,2,none⟩ (.int .i64 z5)).setCell ⟨w.heap.size+1,3,none⟩ (.slice a5 m5 q5)).heap.size=w5.heap.size:=by simp
   refine bodyPost_ret (zdF rfl _ _ (w.heap.size+1) 26 _ (0,0) _ rfl hb Tryz.underlying26 rfl (by kernel_rfl)) rfl ⟨Av,n,cv,k5,x5,z5,a5,m5,q5,rfl,by rw[HN.out];exact HNL.out,by omega,?_,?_,?_⟩
   ·rw[HN.out]
    exact zea (zbD HOW5.out (λa ha=>hf _ (by have:=(HOW5.out.lt a.block (by rw[ha];rfl)).1;omega))) (by omega)
   ·rw[HRR.out]
    refine HR.out.keep (λg h=>?_) (λg h=>hf g ?_)
    ·rcases h with h|h
     ·exact h.elim
     ·exact⟨by omega,by rw[hfs];exact h.2⟩
    ·rcases h with h|h
     ·exact h.elim
     ·omega
   ·refine Chg.set4 ((Chg.of_below LB.out).trans' ((HC.out.belowB B5.out HC.out.size)) (λg hg h=>?_)) _ _ _ _ (by omega)
    rcases h with h|h|h
    ·exact h
    ·omega
    ·omega
end Go.Proofs.YtaomnlcplmkokaaGreatDoor
namespace Go.Proofs.YtaomnlcplmkokaaGreatDoor
open Go.RowKit Lx Tx Go.Maps Go.WideMaps Go.Shelf
set_option maxRecDepth 100000
def PePst(B:Nat)(ns:List Name)(t:Ty)(e:Ending)(w':World):Prop :=
 ∃A n cp k x z a m q,e=.returned (.tuple #[.slice A n cp,.agg #[.int .i64 k,.string x,.int .i64 z,.slice a m q]])/\ns.length=n/\n<=1000000/\w'.ownsRow B 9 1 (.slice A n cp) n (strV ns) /\
  RdV (λg=>B<=g/\g<w'.heap.size) w' t (.agg #[.int .i64 k,.string x,.int .i64 z,.slice a m q])
theorem ziy(t:Ty)(h:t.size<=1000000)(L:List Name)(hL:L.length<=10000000):0+t.size*(L.length+1)<10 ^ 15:=by
 have:t.size*(L.length+1)<=1000000*10000001:=Nat.mul_le_mul h (by omega);omega
theorem zlN(t:Ty)(S:Nat->Prop)(v:Value)(w:World)(ht:Tab w)(hv:RdV S w t v)(hS:∀g,S g->g<w.heap.size)(hnm:Nm t)(hsz:t.size<=1000000):Calls Tryz.prog 16 #[v] w λe w'=>PePst w.heap.size (zaG 112 (zam t) t 0) (zaV 112 (zam t) t 0) e w'/\Below w.heap.size w w':=by
 obtain⟨K0,X,Z,A,m,cp,rfl,-,-,-,-,-⟩:=hv.parts;have htl:=ht.lt;obtain⟨l0,l1,ls,lb⟩:=za8 w (.cells #[.int .i64 K0,.string X,.int .i64 Z,.slice A m cp] 26) (.cells #[.int .i64 0,.string ⟨#[]⟩,.int .i64 0,.slice none 0 0] 26);obtain⟨W2,hW2⟩:∃W,(w.alloc (.cells #[.int .i64 K0,.string X,.int .i64 Z,.slice A m cp] 26)).alloc (.cells #[.int .i64 0,.string ⟨#[]⟩,.int .i64 0,.slice none 0 0] 26)=W:=⟨_,rfl⟩;rw[hW2]at l0 l1 ls lb
 have hv2:=hv.keep (S':=S) (w':=W2) (λ_ h=>h) (λg hg=>lb.block g (hS g hg));have hfr:=zdg t S _ W2.drew (hv2.keep (S':=S) (w':=W2.drew) (λ_ h=>h) (λ_ _=>rfl)) (λg hg=>by have:=hS g hg;show g<W2.heap.size;omega) hnm hsz;obtain⟨n,hn⟩:∃n,(zam t).length=n:=⟨_,rfl⟩;rw[hn]at hfr
 have hn6:=za4 t;have F1:=hidE hfr;have HN:=hidE hn;have SOF:Hid (∀W:World,W.heap[w.heap.size]?=W2.heap[w.heap.size]?->(λW=>W.cell? ⟨w.heap.size,0,none⟩=some (.int .i64 K0)/\W.cell? ⟨w.heap.size,1,none⟩=some (.string X)/\W.cell? ⟨w.heap.size,2,none⟩=some (.int .i64 Z)/\W.cell? ⟨w.heap.size,3,none⟩=some (.slice A m cp)) W):=hidE λW hW=>by
  have y:Blk W w.heap.size 26 #[.int .i64 K0,.string X,.int .i64 Z,.slice A m cp]:=Blk.same (w:=W2) l0 hW;exact⟨Blk.cell y 0,Blk.cell y 1,Blk.cell y 2,Blk.cell y 3⟩
 have L1:Hid (Blk W2 (w.heap.size+1) 26 #[.int .i64 0,.string ⟨#[]⟩,.int .i64 0,.slice none 0 0]):=hidE l1;have LS:=hidE ls;have LB:=hidE lb;have HT2:=hidE (ht.below lb);have HV2:=hidE hv2;have HS:=hidE hS;have HNM:=hidE hnm;have HW2:=hidE hW2;have HRM:=hidE (ziy t hsz (zam t) (by omega));have hls:w.heap.size+2<=W2.heap.size:=Nat.le_of_eq ls.symm;have hnn:w.heap.size≠w.heap.size+1:=by omega
 clear hv hS hnm ht l0 l1 ls lb hv2 hfr hn hW2;go_enter Tryz.func16,Tryz.ntmps16
 go_upto_region 1 with fail
 rw[HW2.out]
 go_region_held3 (λW=>W.cell? ⟨w.heap.size,0,none⟩=some (.int .i64 K0)/\W.cell? ⟨w.heap.size,1,none⟩=some (.string X)/\W.cell? ⟨w.heap.size,2,none⟩=some (.int .i64 Z)/\W.cell? ⟨w.heap.size,3,none⟩=some (.slice A m cp))
  (first|(with_reducible exact SOF.out _ K5.out)|(with_reducible exact SOF.out _ K4.out)|(with_reducible exact SOF.out _ K3.out)|(with_reducible exact SOF.out _ K2.out)|(with_reducible exact SOF.out _ ((Below.heap_alloc _ _ _ L2.out).trans K2.out))|(with_reducible exact SOF.out _ ((zaj _ _ _ _ _ _ _ hnn).trans K5.out))|(with_reducible exact SOF.out _ rfl)|(exact SOF.out W2.drew rfl))
  ((first
   |((with_reducible refine F1.out.mono ?_);rintro e w2 ⟨A2,c2,rfl,ho2,-,b2⟩;have B2:Hid (Below W2.heap.size W2 w2):=hidE ((Below.refl _ W2).drew.trans b2);have K2:Hid (w2.heap[w.heap.size]?=W2.heap[w.heap.size]?):=hidE (B2.out.block _ (by omega));have L2:Hid (w.heap.size<w2.heap.size):=hidE (by have:=B2.out.size;omega);have R2:=hidE (RowV.of_own ho2);clear ho2 b2)
   |((with_reducible refine(ziu t A2 n c2 w2 R2.out HN.out HNM.out hsz).mono ?_);rintro e w3 ⟨rfl,hm3,b3⟩;have B3:Hid (Below W2.heap.size W2 w3):=hidE ((B2.out.alloc B2.out.size _).trans (b3.mono (by have:=B2.out.size;omega)));have K3:Hid (w3.heap[w.heap.size]?=W2.heap[w.heap.size]?):=hidE (B3.out.block _ (by omega));have HM3:=hidE hm3;clear hm3 b3)
   |((with_reducible refine(zcx 112 ⟨#[112]⟩ rfl (w2.heap.size+1) (zam t) w3 HM3.out).mono ?_);rintro e w4 ⟨rfl,hn4,b4⟩;have B4:Hid (Below W2.heap.size W2 w4):=hidE (B3.out.trans (b4.mono B3.out.size));have K4:Hid (w4.heap[w.heap.size]?=W2.heap[w.heap.size]?):=hidE (B4.out.block _ (by omega));have HN4:=hidE hn4;have HML3:=hidE HM3.out.lt;clear hn4 b4)
   |((with_reducible refine(zlM 112 (.inl rfl) w3.heap.size (w3.heap.size+2) (w3.heap.size+1) (w2.heap.size+1) (zam t) 0 t S _ w4 HN4.out (HT2.out.below B4.out) (by omega) (by omega) (by have:=HML3.out;omega) (by have:=B3.out.size;omega) (HV2.out.keep (S':=S) (λ_ h=>h) (λg hg=>B4.out.block g (by have:=HS.out g hg;omega))) (λg hg=>by have:=HS.out g hg;have:=B3.out.size;have:=B4.out.size;omega) HNM.out hsz HRM.out).mono ?_);rintro e w5 ⟨A5,n5,c5,k5,x5,z5,a5,m5,q5,rfl,h5a,h5b,h5c,h5d,c5'⟩;have B5:Hid (Below W2.heap.size W2 w5):=hidE (B4.out.trans (c5'.toBelow (B:=W2.heap.size) B4.out.size (λk hk h=>by have h:k=w3.heap.size+2:=h;have:=B3.out.size;omega)));have K5:Hid (w5.heap[w.heap.size]?=W2.heap[w.heap.size]?):=hidE (B5.out.block _ (by omega));have hb5:Blk w5 (w.heap.size+1) 26 #[.int .i64 0,.string ⟨#[]⟩,.int .i64 0,.slice none 0 0]:=Blk.below L1.out B5.out (by omega);obtain⟨y0,y1,y2,y3,z0,z1,z2,z3,yl⟩:=zaa hb5;have HB5:=hidE hb5;have H5A:=hidE h5a;have H5B:=hidE h5b;have H5C:=hidE h5c;have H5D:=hidE h5d;clear h5a h5b h5c h5d c5' hb5)))
 all_goals
  go_wp2_with fail
  have hb:=zad (.int .i64 k5) (.string x5) (.int .i64 z5) (.slice a5 m5 q5) HB5.out;have hf:∀g,g≠w.heap.size+1->((((w5.setCell ⟨w.heap.size+1,0,none⟩ (.int .i64 k5)).setCell ⟨w.heap.size+1,1,none⟩ (.string x5)).setCell ⟨w.heap.size+1,2,none⟩ (.int .i64 z5)).setCell ⟨w.heap.size+1,3,none⟩ (.slice a5 m5 q5)).heap[g]?=w5.heap[g]?:=λg hg=>zaj _ _ _ _ _ _ _ hg;have hfs:((((w5.setCell ⟨w.heap.size+1,0,none⟩ (.int .i64 k5)).setCell ⟨w.heap.size+1,1,none⟩ (.string x5)).setCell ⟨w.heap.size+1,2,none⟩ (.int .i64 z5)).setCell ⟨w.heap.size+1,3,none⟩ (.slice a5 m5 q5)).heap.size=w5.heap.size:=by simp
  have hs4:=B4.out.size;refine bodyPost_ret (zdF rfl _ _ (w.heap.size+1) 26 _ (0,0) _ rfl hb Tryz.underlying26 rfl (by kernel_rfl)) rfl ⟨⟨A5,n5,c5,k5,x5,z5,a5,m5,q5,rfl,H5A.out,by have:=H5B.out;omega,?_,?_⟩,?_⟩
  ·exact zea (zbD H5C.out (λa ha=>hf _ (by have:=(H5C.out.lt a.block (by rw[ha];rfl)).1;omega))) (by omega)
  ·exact H5D.out.keep (λg h=>⟨by omega,by rw[hfs];exact h.2⟩) (λg h=>hf g (by omega))
  ·exact zaf (LB.out.trans (B5.out.mono (by omega))) _ _ _ _ (by omega)
end Go.Proofs.YtaomnlcplmkokaaGreatDoor
namespace Go.Proofs.YtaomnlcplmkokaaGreatDoor
open Go.RowKit Lx Tx Go.Maps Go.WideMaps Go.Shelf
set_option maxRecDepth 100000
theorem zh7 {V:Type}(m:MK V) {w:World} {b:Nat} {r:List (Name × V)}(h:MapE m w b r)(hn:r.length<1000000000)(X:ByteArray)(hX:X.size<=maxLen)(v:V)(hok:m.ok v):∃w',(Instr.mapUpdate m.t (.map (some b)) (.string X) (m.val v)).run Tryz.prog w=.ok () w'/\MapE m w' b ((X.data.toList,v)::r)/\w.grownBy w' (some b):=by
 obtain⟨n,hnr,h⟩:=h;obtain⟨w',hrun,r1,r2⟩:=h.update strKeyed m.hT (by unfold maxLen;omega) (strKey X hX) (m.hR v hok);exact⟨w',hrun,MapE.of (r:=(X.data.toList,v)::r) r1,r2⟩
mutual
def zaN(vars bd:List Name):Ty->Ty->List (Name × Ty)->List (Name × Ty)
 |.var x,t,r=>if x∈vars/\bd.count x=0 then(x,t)::r else r
 |.mt _,_,r=>r
 |.con _ l,t,r=>zaM vars bd l (kids t) r
 |.fn a b,t,r=>match kids t with
  |[]=>r
  |[u]=>zaN vars bd a u r
  |u::v::_=>zaN vars bd b v (zaN vars bd a u r)
 |.all x p,t,r=>match kids t with
  |[]=>r
  |u::_=>zaN vars (x::bd) p u r
def zaM(vars bd:List Name):List Ty->List Ty->List (Name × Ty)->List (Name × Ty)
 |[],_,r=>r
 |_::_,[],r=>r
 |p::l,u::m,r=>zaM vars bd l m (zaN vars bd p u r)
end
def bdIn(p:Ty)(bd:List Name):List Name:=if kd p=5 then(nmB p).data.toList::bd else bd
def zbc(vars bd:List Name)(p t:Ty)(r:List (Name × Ty)):List (Name × Ty):=if kd p=1/\(nmB p).data.toList∈vars/\bd.count (nmB p).data.toList=0 then((nmB p).data.toList,t)::r else r
theorem zhk(vars bd:List Name)(p t:Ty)(r:List (Name × Ty)):zaN vars bd p t r=zaM vars (bdIn p bd) (kids p) (kids t) (zbc vars bd p t r):=by
 cases p with
 |var x =>
  rw[zaN,kids,zaM]
  unfold zbc;by_cases h:x∈vars/\bd.count x=0
  ·rw[if_pos h,if_pos ⟨rfl,h⟩];rfl
  ·rw[if_neg h,if_neg (λe=>h e.2)]
 |mt n=>rw[zaN,kids,zaM];rfl
 |con c l=>rw[zaN];rfl
 |fn a b =>
  rw[zaN]
  show _=zaM vars bd [a,b] (kids t) r;rcases kids t with - |⟨u,- |⟨v,l⟩⟩ <;> simp[zaM]
 |all x p =>
  rw[zaN]
  show _=zaM vars (x::bd) [p] (kids t) r;rcases kids t with - |⟨u,l⟩ <;> simp[zaM]
theorem zhl(vars bd:List Name)(p u:Ty):∀(l m:List Ty)(r:List (Name × Ty)),l.length=m.length->zaM vars bd (l++[p]) (m++[u]) r=zaN vars bd p u (zaM vars bd l m r)
 |[],[],r,_=>by rw[List.nil_append,List.nil_append,zaM,zaM,zaM]
 |[],_::_,r,h=>by simp at h
 |_::_,[],r,h=>by simp at h
 |a::l,b::m,r,h=>by
  rw[List.cons_append,List.cons_append,zaM,zaM,zhl vars bd p u l m _ (by simpa using h)]
theorem zfR(vars bd:List Name):∀(l m:List Ty)(r:List (Name × Ty))(i:Nat),i=min l.length m.length->zaM vars bd (l.take i) (m.take i) r=zaM vars bd l m r
 |[],m,r,i,h=>by simp at h;subst h;rw[List.take_zero,List.take_zero,zaM,zaM]
 |_::_,[],r,i,h=>by simp at h;subst h;rw[List.take_zero,List.take_zero,zaM,zaM]
 |a::l,b::m,r,i,h=>by
  simp at h;have h':i=min l.length m.length+1:=by omega
  subst h';rw[List.take_succ_cons,List.take_succ_cons,zaM,zaM,zfR vars bd l m _ _ rfl]
structure FdI (fp vb cb mb:Nat) (vars bd:List Name) (St:Nat->Prop) (r:List (Name × Ty)) (c:Nat) (w:World):Prop where
 fin:Blk w fp 109 #[.map (some vb),.map (some cb),.map (some mb)]
 va:MapE mkSet w vb (units vars)
 cn:∃q,MapE mkInt w cb q/\(∀x,(look x q).getD 0=bd.count x)/\q.length<=c/\bd.length<=c
 fo:∃q,MapE mkVal w mb q/\RelV St w r q/\q.length<=c
theorem FdI.keep {fp vb cb mb c:Nat} {vars bd:List Name} {St:Nat->Prop} {r:List (Name × Ty)} {w w':World}(h:FdI fp vb cb mb vars bd St r c w)(h0:w'.heap[fp]?=w.heap[fp]?)(h1:w'.heap[vb]?=w.heap[vb]?)(h2:w'.heap[cb]?=w.heap[cb]?)(h3:w'.heap[mb]?=w.heap[mb]?)(hS:∀g,St g->w'.heap[g]?=w.heap[g]?):FdI fp vb cb mb vars bd St r c w':=by
 obtain⟨a,b,⟨q,q1,q2⟩,⟨p,p1,p2,p3⟩⟩:=h;exact⟨a.same h0,b.keep h1,⟨q,q1.keep h2,q2⟩,⟨p,p1.keep h3,RelV.keep (λ_ h=>h) hS r p p2,p3⟩⟩
theorem FdI.mono {fp vb cb mb c c':Nat} {vars bd:List Name} {St:Nat->Prop} {r:List (Name × Ty)} {w:World}(h:FdI fp vb cb mb vars bd St r c w)(hc:c<=c'):FdI fp vb cb mb vars bd St r c' w:=by
 obtain⟨a,b,⟨q,q1,q2,q3,q4⟩,⟨p,p1,p2,p3⟩⟩:=h;exact⟨a,b,⟨q,q1,q2,Nat.le_trans q3 hc,Nat.le_trans q4 hc⟩,⟨p,p1,p2,Nat.le_trans p3 hc⟩⟩
theorem ziz {q:List (Name × Nat)} {bd bd':List Name}(h:∀x,(look x q).getD 0=bd.count x)(y:Name)(k:Nat)(hk:bd'.count y=k)(ho:∀x,x≠y->bd'.count x=bd.count x):∀x,(look x ((y,k)::q)).getD 0=bd'.count x:=by
 intro x;rw[look]
 by_cases hx:y=x
 ·rw[if_pos hx,<-hx,hk];rfl
 ·rw[if_neg hx,h x,ho x (λe=>hx e.symm)]
theorem zpN(fp vb cb mb a0 a1:Nat)(vars bd:List Name)(St:Nat->Prop)(r:List (Name × Ty))(c:Nat)(k Z:Int)(X:ByteArray)(A:Option Addr)(m cp:Nat)(u:FrameMode)(w:World)(h:FdI fp vb cb mb vars (X.data.toList::bd) St r c w)(h0:Blk w a0 143 #[.pointer (some ⟨fp,0,none⟩)])(h1:Blk w a1 26 #[.int .i64 k,.string X,.int .i64 Z,.slice A m cp])(hX:X.size<=maxLen)(hc:c<=900000000)
  (hSt:∀g,St g->g<w.heap.size)(hcS:¬St cb)(hcf:cb≠fp)(hcv:cb≠vb)(hcm:cb≠mb):CallsD Tryz.prog 86 #[.pointer (some ⟨a0,0,none⟩),.pointer (some ⟨a1,0,none⟩)] u w λe u' w'=>u'=u/\e=.returned (.tuple #[])/\FdI fp vb cb mb vars bd St r (c+1) w'/\Chg (only cb) w w':=by
 obtain⟨q,q1,q2,q3,q4⟩:=h.cn;obtain⟨x0,-,-⟩:=zao h0;have x1:=Blk.cell h1 1;have x2:=Blk.cell h.fin 1;have hcnt:((X.data.toList::bd).count X.data.toList)=bd.count X.data.toList+1:=by simp
 have hbl:bd.count X.data.toList<=c:=Nat.le_trans List.count_le_length (by simp at q4;omega);have q1d:MapE mkInt w.drew cb q:=q1.keep rfl;have hlk:=q1d.get X hX;have hval:mkInt.valO (look X.data.toList q)=.int .i64 ((bd.count X.data.toList:Nat)+1:Int):=by
  have h:=q2 X.data.toList;rw[hcnt]at h
  cases hl:look X.data.toList q with
  |none=>rw[hl]at h;simp at h
  |some v=>rw[hl]at h;have h:v=bd.count X.data.toList+1:=h;rw[h];rfl
 rw[hval]at hlk
 obtain⟨n,hn⟩:∃n,bd.count X.data.toList=n:=⟨_,rfl⟩;rw[hn]at hlk hbl
 replace hlk:(Instr.lookup 88 (.map (some cb)) (.string X) false).run Tryz.prog w.drew=.ok (.int .i64 ((n:Nat)+1:Int)) w.drew:=hlk;have hwr:IntKind.i64.wrap (n:Int)=(n:Int):=IntWalk.i64_in _ (by omega);obtain⟨w1,hrun,hm1,hg1⟩:=zh7 mkInt q1d (by omega) X hX n trivial;replace hrun:(Instr.mapUpdate 88 (.map (some cb)) (.string X) (.int .i64 (n:Int))).run Tryz.prog w.drew=.ok () w1:=hrun;have HM1:=hidE hm1;have HG1:=hidE hg1;have HI:=hidE h;have HQ:=hidE (And.intro q2 (And.intro q3 q4));have HN:=hidE hn;clear q1 q1d q2 q3 q4 hval h hcnt hn hX hm1 hg1;replace x1:w.cell? ⟨a1,1,none⟩=some (.string X):=x1;replace x2:w.cell? ⟨fp,1,none⟩=some (.map (some cb)):=x2;go_enter_d Tryz.func86,Tryz.ntmps86
 go_region
 all_goals
  go_end0
  have hk:∀g,g<w.heap.size->g≠cb->w1.heap[g]?=w.heap[g]?:=λg hg hne=>HG1.out.block g hg (λe=>by injection e with e;exact hne e);obtain⟨i1,i2,-,⟨p,p1,p2,p3⟩⟩:=HI.out;refine⟨rfl,⟨i1.same (hk _ i1.lt (λe=>hcf e.symm)),i2.keep (hk _ i2.lt (λe=>hcv e.symm)),⟨_,HM1.out,ziz HQ.out.1 X.data.toList n HN.out (λx hx=>by rw[List.count_cons_of_ne (λe=>hx e.symm)]),by rw[List.length_cons];have:=HQ.out.2.1;omega,by have:=HQ.out.2.2;rw[List.length_cons]at this;omega⟩,⟨p,p1.keep (hk _ p1.lt (λe=>hcm e.symm)),RelV.keep (λ_ h=>h) (λg hg=>hk g (hSt g hg) (λe=>hcS (e▸hg))) r p p2,by omega⟩⟩,?_⟩;exact(Chg.refl (only cb) w).grown (w:=w) ⟨HG1.out.os,HG1.out.tape,HG1.out.output,HG1.out.size,HG1.out.block⟩ (λk hk=>.inr (by injection hk with hk;exact hk.symm))
set_option maxRecDepth 100000
theorem NIn.of_nts:(t:Ty)->∀but:List Name,(∀x∈nts t,x∈but)->NIn but t:=by
 intro t;refine Ty.rec (motive_1:=λt=>∀but:List Name,(∀x∈nts t,x∈but)->NIn but t) (motive_2:=λl=>∀but:List Name,(∀x∈ntsL l,x∈but)->NInL but l) ?_ ?_ ?_ ?_ ?_ ?_ ?_ t
 ·intro x but h;rw[NIn];exact h x (by rw[nts];exact List.mem_singleton.2 rfl)
 ·intro n but h;rw[NIn];trivial
 ·intro c l ih but h;rw[NIn];exact ih but (λx hx=>h x (by rw[nts];exact List.mem_cons_of_mem _ hx))
 ·intro a b iha ihb but h;rw[NIn]
  exact⟨iha but (λx hx=>h x (by rw[nts];exact List.mem_cons_of_mem _ (List.mem_append_left _ hx))),ihb but (λx hx=>h x (by rw[nts];exact List.mem_cons_of_mem _ (List.mem_append_right _ hx)))⟩
 ·intro x t ih but h;rw[NIn]
  exact⟨h x (by rw[nts];exact List.mem_cons_self ..),ih but (λy hy=>h y (by rw[nts];exact List.mem_cons_of_mem _ hy))⟩
 ·intro but _;rw[NInL];trivial
 ·intro a r iha ihr but h;rw[NInL]
  exact⟨iha but (λx hx=>h x (by rw[ntsL];exact List.mem_append_left _ hx)),ihr but (λx hx=>h x (by rw[ntsL];exact List.mem_append_right _ hx))⟩
def Fp(place:Ty->Option Ty)(x:Name):Dt:=db [] (lfP place (.var x))
def Gp(place:Ty->Option Ty)(n:Nat):Dt:=db [] (lfP place (.mt n))
def CatV(place:Ty->Option Ty)(cat:List Name)(x:Name):Prop:=∀u,place (.var x)=some u->∀z,FvOcc z (db [] u)->z∈cat
def CatM(place:Ty->Option Ty)(cat:List Name)(n:Nat):Prop:=∀u,place (.mt n)=some u->∀z,FvOcc z (db [] u)->z∈cat
def zsA(place:Ty->Option Ty)(but ys:List Name)(d:Dt)(k f:Nat)(r:Ty × Nat):Prop :=
 db ys r.1=repD (Fp place) (Gp place) d/\k<=r.2/\r.2<=k+f*(but.length+1)
def zsh(place:Ty->Option Ty)(but ys:List Name)(d:List Dt)(k f:Nat)(r:List Ty × Nat):Prop :=
 dbL ys r.1=zax (Fp place) (Gp place) d/\k<=r.2/\r.2<=k+f*(but.length+1)
mutual
theorem zc6(place:Ty->Option Ty)(cat but:List Name)(hfb:∀x∈cat,x∈but):(t:Ty)->∀(env:List (Name × Name))(xs ys:List Name)(k:Nat),
  Ren but env xs ys k->NIn but t->(∀y∈ys,y∉cat)->(∀x,FvOcc x (db xs t)->CatV place cat x)->(∀n,MtOcc n (db xs t)->CatM place cat n)->k+(t.fas+1)*(but.length+1)<10 ^ 15 ->
  zsA place but ys (db xs t) k t.fas (chg (za5 cat but) (lfP place) env t k)
 |.var x,env,xs,ys,k,hr,hn,hp,hv,_,_=>by
  rw[NIn]at hn
  rw[db]at hv
  rw[chg,hr.lk,Ty.fas,db]
  refine⟨?_,Nat.le_refl _,Nat.le_add_right _ _⟩;cases hi:idx x xs with
  |some i =>
   show db ys (.var (ys.getD i []))=_;rw[db,(hr.hit x hn i hi).2,repD]
  |none =>
   rw[hi]at hv
   have hv:=hv x (by rw[FvOcc]);show db ys (lfP place (.var x))=_;rw[repD,Fp]
   unfold lfP;cases hq:place (.var x) with
   |some u=>exact zfC ys u (λz hz hm=>hp z hm (hv u hq z hz))
   |none =>
    show db ys (.var x)=db [] (.var x);rw[db,db,(zb8 x ys).2 (hr.miss x hn hi)];rfl
 |.mt n,env,xs,ys,k,hr,hn,hp,_,hm,_=>by
  rw[db]at hm
  have hm:=hm n (by rw[MtOcc]);rw[chg,Ty.fas,db]
  refine⟨?_,Nat.le_refl _,Nat.le_add_right _ _⟩;rw[repD,Gp]
  show db ys (lfP place (.mt n))=_;unfold lfP;cases hq:place (.mt n) with
  |some u=>exact zfC ys u (λz hz hm'=>hp z hm' (hm u hq z hz))
  |none=>show db ys (.mt n)=db [] (.mt n);rw[db,db]
 |.con c l,env,xs,ys,k,hr,hn,hp,hv,hm,hb=>by
  rw[NIn]at hn
  rw[db]at hv hm
  rw[Ty.fas]at hb ⊢
  obtain⟨h1,h3,h4⟩:=ziC place cat but hfb l env xs ys k hr hn hp (λx hx=>hv x (by rw[FvOcc];exact hx)) (λx hx=>hm x (by rw[MtOcc];exact hx)) hb;rw[chg,db]
  exact⟨by show db ys (.con c _)=_;rw[db,repD,h1],h3,h4⟩
 |.fn a b,env,xs,ys,k,hr,hn,hp,hv,hm,hb=>by
  rw[NIn]at hn
  rw[db]at hv hm
  rw[Ty.fas]at hb ⊢
  have e:(a.fas+b.fas+1)*(but.length+1)=a.fas*(but.length+1)+(b.fas+1)*(but.length+1):=by rw[<-Nat.add_mul,Nat.add_assoc]
  have e3:(b.fas+1)*(but.length+1)=b.fas*(but.length+1)+(but.length+1):=by rw[Nat.add_mul,Nat.one_mul]
  have e4:(a.fas+1)*(but.length+1)=a.fas*(but.length+1)+(but.length+1):=by rw[Nat.add_mul,Nat.one_mul]
  obtain⟨h1,h3,h4⟩:=zc6 place cat but hfb a env xs ys k hr hn.1 hp (λx hx=>hv x (by rw[FvOcc];exact .inl hx)) (λx hx=>hm x (by rw[MtOcc];exact .inl hx)) (by omega);obtain⟨j1,j3,j4⟩:=zc6 place cat but hfb b env xs ys _ (hr.more but h3) hn.2 hp (λx hx=>hv x (by rw[FvOcc];exact .inr hx)) (λx hx=>hm x (by rw[MtOcc];exact .inr hx)) (by omega);rw[chg,db]
  refine⟨by show db ys (.fn _ _)=_;rw[db,repD,h1,j1],Nat.le_trans h3 j3,Nat.le_trans j4 ?_⟩;rw[Nat.add_mul];omega
 |.all x t,env,xs,ys,k,hr,hn,hp,hv,hm,hb=>by
  rw[NIn]at hn
  rw[db]at hv hm
  rw[Ty.fas]at hb ⊢
  have e4:(t.fas+1+1)*(but.length+1)=t.fas*(but.length+1)+(but.length+1)+(but.length+1):=by rw[Nat.add_mul,Nat.add_mul,Nat.one_mul]
  have e5:(t.fas+1)*(but.length+1)=t.fas*(but.length+1)+(but.length+1):=by rw[Nat.add_mul,Nat.one_mul]
  have hv':∀y,FvOcc y (db (x::xs) t)->CatV place cat y:=λy hy=>hv y (by rw[FvOcc];exact hy);have hm':∀y,MtOcc y (db (x::xs) t)->CatM place cat y:=λy hy=>hm y (by rw[MtOcc];exact hy);rw[chg,db]
  by_cases hc:x∈cat
  ·have hbd:za5 cat but x k=(nm 120 (zal 120 but k),zal 120 but k+1):=by unfold za5;rw[if_pos hc]
   rw[hbd]
   obtain⟨n0,n1,n2⟩:=zaw 120 but k (by omega);obtain⟨h1,h3,h4⟩:=zc6 place cat but hfb t _ (x::xs) (nm 120 (zal 120 but k)::ys) (zal 120 but k+1) (hr.fresh but x (by omega)) hn.2 (λy hy=>by
    rcases List.mem_cons.1 hy with rfl|hy
    ·exact λhm=>n0 (hfb _ hm)
    ·exact hp y hy) hv' hm' (by omega)
   exact⟨by show db ys (.all _ _)=_;rw[db,repD,h1],Nat.le_trans (by omega) h3,Nat.le_trans h4 (by omega)⟩
  ·have hbd:za5 cat but x k=(x,k):=by unfold za5;rw[if_neg hc]
   rw[hbd]
   obtain⟨h1,h3,h4⟩:=zc6 place cat but hfb t _ (x::xs) (x::ys) k (hr.keep but x hn.1) hn.2 (λy hy=>by
    rcases List.mem_cons.1 hy with rfl|hy
    ·exact hc
    ·exact hp y hy) hv' hm' (by omega)
   exact⟨by show db ys (.all _ _)=_;rw[db,repD,h1],Nat.le_trans (by omega) h3,Nat.le_trans h4 (by omega)⟩
theorem ziC(place:Ty->Option Ty)(cat but:List Name)(hfb:∀x∈cat,x∈but):(l:List Ty)->∀(env:List (Name × Name))(xs ys:List Name)(k:Nat),
  Ren but env xs ys k->NInL but l->(∀y∈ys,y∉cat)->(∀x,zaT x (dbL xs l)->CatV place cat x)->(∀n,zck n (dbL xs l)->CatM place cat n)->k+(fasL l+1)*(but.length+1)<10 ^ 15 ->
  zsh place but ys (dbL xs l) k (fasL l) (chgL (za5 cat but) (lfP place) env l k)
 |[],env,xs,ys,k,_,_,_,_,_,_=>by
  rw[chgL,dbL,fasL]
  exact⟨by show dbL ys []=_;rw[dbL,zax],Nat.le_refl _,Nat.le_add_right _ _⟩
 |a::b,env,xs,ys,k,hr,hn,hp,hv,hm,hb=>by
  rw[NInL]at hn
  rw[dbL]at hv hm
  rw[fasL]at hb ⊢
  have e:(a.fas+fasL b+1)*(but.length+1)=a.fas*(but.length+1)+(fasL b+1)*(but.length+1):=by rw[<-Nat.add_mul,Nat.add_assoc]
  have e3:(fasL b+1)*(but.length+1)=fasL b*(but.length+1)+(but.length+1):=by rw[Nat.add_mul,Nat.one_mul]
  have e4:(a.fas+1)*(but.length+1)=a.fas*(but.length+1)+(but.length+1):=by rw[Nat.add_mul,Nat.one_mul]
  obtain⟨h1,h3,h4⟩:=zc6 place cat but hfb a env xs ys k hr hn.1 hp (λx hx=>hv x (by rw[zaT];exact .inl hx)) (λx hx=>hm x (by rw[zck];exact .inl hx)) (by omega);obtain⟨j1,j3,j4⟩:=ziC place cat but hfb b env xs ys _ (hr.more but h3) hn.2 hp (λx hx=>hv x (by rw[zaT];exact .inr hx)) (λx hx=>hm x (by rw[zck];exact .inr hx)) (by omega);rw[chgL,dbL]
  refine⟨by show dbL ys (_::_)=_;rw[dbL,zax,h1,j1],Nat.le_trans h3 j3,Nat.le_trans j4 ?_⟩;rw[Nat.add_mul];omega
end
theorem zmw(u:Ty)(n:Nat):n∈zaX u↔MtOcc n (db [] u):=by
 rw[zo5]
 show n∈u.metasO []↔_;rw[zeh [] u,zc1]
 simp
theorem zlO {place:Ty->Option Ty} {t u:Ty}(h:place t=some u) {z:Name}(hz:FvOcc z (db [] u)):z∈addF place t:=by
 unfold addF;rw[h]
 exact(zeA u z).2 hz
theorem zlP(place:Ty->Option Ty)(t:Ty)(ht:t.size<=1000000)(hr:(freeIn place t).length<=90000000):db [] (putP place t)=repD (Fp place) (Gp place) (db [] t):=by
 refine(zc6 place (freeIn place t) (freeIn place t++nts t) (λx hx=>List.mem_append_left _ hx) t [] [] [] 0 (Ren.nil _) (NIn.of_nts t _ (λx hx=>List.mem_append_right _ hx)) (λy hy=>(List.not_mem_nil hy).elim) (λx hx u hu z hz=>?_) (λn hx u hu z hz=>?_) ?_).1
 ·exact List.mem_append_left _ (List.mem_flatMap.2 ⟨x,(zeA t x).2 hx,zlO hu hz⟩)
 ·exact List.mem_append_right _ (List.mem_flatMap.2 ⟨n,(zmw t n).2 hx,zlO hu hz⟩)
 ·have h1:=zb6 t
  have h2:=zc3 t;have h3:(t.fas+1)*((freeIn place t++nts t).length+1)<=1000001*91000001:=Nat.mul_le_mul (by omega) (by rw[List.length_append];omega);omega
set_option maxRecDepth 100000
theorem zd0(x:Name)(l m:List Name)(i:Nat)(h:idx x l=some i):idx x (l++m)=some i:=by
 induction l generalizing i with
 |nil=>simp[idx]at h
 |cons y r ih =>
  rw[List.cons_append,idx]
  rw[idx]at h
  by_cases e:x=y
  ·rw[if_pos e]at h ⊢;exact h
  ·rw[if_neg e]at h ⊢
   cases hr:idx x r with
   |none=>rw[hr]at h;cases h
   |some j=>rw[hr]at h;rw[ih j hr];exact h
theorem zd1(x:Name)(l m:List Name)(h:idx x l=none):idx x (l++m)=(idx x m).map (· + l.length):=by
 induction l with
 |nil=>rw[List.nil_append];cases idx x m <;> rfl
 |cons y r ih =>
  rw[List.cons_append,idx]
  rw[idx]at h
  by_cases e:x=y
  ·rw[if_pos e]at h;cases h
  ·rw[if_neg e]at h ⊢
   have hr:idx x r=none:=by cases hr:idx x r with|none=>rfl|some j=>rw[hr]at h;cases h
   rw[ih hr,List.length_cons]
   cases idx x m with
   |none=>rfl
   |some j=>show some (j+r.length+1)=some (j+(r.length+1));rw[Nat.add_assoc]
mutual
theorem zeN(env:List Name):(t:Ty)->∀loc,Clo loc.length (db (loc++env) t)->db loc t=db (loc++env) t
 |.var x,loc,h=>by
  rw[db]at h
  rw[db,db]
  cases hi:idx x loc with
  |some i=>rw[zd0 x loc env i hi]
  |none =>
   rw[zd1 x loc env hi]at h ⊢
   cases he:idx x env with
   |none=>rfl
   |some j =>
    rw[he]at h
    have h:Clo loc.length (.bv (j+loc.length)):=h;rw[Clo]at h
    omega
 |.mt n,loc,_=>by rw[db,db]
 |.con c l,loc,h=>by rw[db,Clo]at h;rw[db,db,zj0 env l loc h]
 |.fn a b,loc,h=>by rw[db,Clo]at h;rw[db,db,zeN env a loc h.1,zeN env b loc h.2]
 |.all x t,loc,h=>by rw[db,Clo]at h;rw[db,db,zeN env t (x::loc) h];rfl
theorem zj0(env:List Name):(l:List Ty)->∀loc,CloL loc.length (dbL (loc++env) l)->dbL loc l=dbL (loc++env) l
 |[],loc,_=>by rw[dbL,dbL]
 |t::r,loc,h=>by rw[dbL,CloL]at h;rw[dbL,dbL,zeN env t loc h.1,zj0 env r loc h.2]
end
theorem zpQ(env:List Name)(t:Ty)(h:Clo 0 (db env t)):db [] t=db env t:=zeN env t [] h
def tau(vars:List Name)(s:Name->Dt)(x:Name):Dt:=if x∈vars then s x else .fv x
def AllF(vars:List Name)(s:Name->Dt)(r:List (Name × Ty)):Prop:=∀e∈r,e.1∈vars/\db [] e.2=s e.1
def keysOf(r:List (Name × Ty)):List Name:=r.map Prod.fst
mutual
theorem zc7(vars:List Name):(p:Ty)->∀(bd:List Name)(t:Ty)(r:List (Name × Ty)),(∀e∈r,e.1∈vars)->∀e∈zaN vars bd p t r,e.1∈vars
 |.var x,bd,t,r,h=>by
  rw[zaN]
  split
  ·rename_i hx
   intro e he;rcases List.mem_cons.1 he with rfl|he
   ·exact hx.1
   ·exact h e he
  ·exact h
 |.mt n,bd,t,r,h=>by rw[zaN];exact h
 |.con c l,bd,t,r,h=>by rw[zaN];exact zj1 vars l bd (kids t) r h
 |.fn a b,bd,t,r,h=>by
  rw[zaN]
  rcases kids t with - |⟨u,- |⟨v,l⟩⟩
  ·exact h
  ·exact zc7 vars a bd u r h
  ·exact zc7 vars b bd v _ (zc7 vars a bd u r h)
 |.all x p,bd,t,r,h=>by
  rw[zaN]
  rcases kids t with - |⟨u,l⟩
  ·exact h
  ·exact zc7 vars p (x::bd) u r h
theorem zj1(vars:List Name):(l:List Ty)->∀(bd:List Name)(m:List Ty)(r:List (Name × Ty)),(∀e∈r,e.1∈vars)->∀e∈zaM vars bd l m r,e.1∈vars
 |[],bd,m,r,h=>by rw[zaM];exact h
 |p::l,bd,[],r,h=>by rw[zaM];exact h
 |p::l,bd,u::m,r,h=>by rw[zaM];exact zj1 vars l bd m _ (zc7 vars p bd u r h)
end
structure Fnd (vars:List Name) (s:Name->Dt) (occ:Name->Prop) (r r':List (Name × Ty)):Prop where
 all:AllF vars s r'
 more:∀x∈keysOf r,x∈keysOf r'
 got:∀x∈vars,occ x->x∈keysOf r'
mutual
theorem find_ok(vars:List Name)(s:Name->Dt)(hs:∀x∈vars,Clo 0 (s x)):(p:Ty)->∀(bd loc:List Name)(t:Ty)(r:List (Name × Ty)),db loc t=repD (tau vars s) .mt (db bd p)->AllF vars s r->Fnd vars s (λx=>FvOcc x (db bd p)) r (zaN vars bd p t r)
 |.var x,bd,loc,t,r,h,hr=>by
  rw[zaN]
  rw[db]at h ⊢
  by_cases hc:x∈vars/\bd.count x=0
  ·rw[if_pos hc]
   have hx:x∉bd:=List.count_eq_zero.1 hc.2;rw[(zb8 x bd).2 hx]at h ⊢
   have h:db loc t=s x:=by rw[repD,tau,if_pos hc.1]at h;exact h
   have ht:db [] t=s x:=by rw[zpQ loc t (by rw[h];exact hs x hc.1),h]
   refine⟨λe he=>?_,λy hy=>List.mem_cons_of_mem _ hy,λy _ hy=>?_⟩
   ·rcases List.mem_cons.1 he with rfl|he
    ·exact⟨hc.1,ht⟩
    ·exact hr e he
   ·rw[FvOcc]at hy
    rw[hy]
    exact List.mem_cons_self ..
  ·rw[if_neg hc]
   refine⟨hr,λy hy=>hy,λy hv hy=>?_⟩;cases hi:idx x bd with
   |some i=>rw[hi]at hy;rw[FvOcc]at hy;exact hy.elim
   |none =>
    rw[hi,FvOcc]at hy
    subst hy;exact absurd ⟨hv,List.count_eq_zero.2 ((zb8 y bd).1 hi)⟩ hc
 |.mt n,bd,loc,t,r,h,hr=>by
  rw[zaN,db]
  exact⟨hr,λy hy=>hy,λy _ hy=>by rw[FvOcc]at hy;exact hy.elim⟩
 |.con c l,bd,loc,t,r,h,hr=>by
  rw[zaN]
  rw[db,repD]at h
  cases t with
  |con d m =>
   rw[db]at h
   injection h with h1 h2;have hf:=zj2 vars s hs l bd loc m r h2 hr;refine⟨hf.all,hf.more,λx hx ho=>hf.got x hx ?_⟩;rw[db,FvOcc]at ho
   exact ho
  |var y=>rw[db]at h;cases hi:idx y loc <;> rw[hi]at h <;> cases h
  |mt n=>rw[db]at h;cases h
  |fn a b=>rw[db]at h;cases h
  |all x u=>rw[db]at h;cases h
 |.fn a b,bd,loc,t,r,h,hr=>by
  rw[zaN]
  rw[db,repD]at h
  cases t with
  |fn u v =>
   rw[db]at h
   injection h with h1 h2;have f1:=find_ok vars s hs a bd loc u r h1 hr;have f2:=find_ok vars s hs b bd loc v _ h2 f1.all;show Fnd vars s _ r (zaN vars bd b v (zaN vars bd a u r));refine⟨f2.all,λx hx=>f2.more x (f1.more x hx),λx hx ho=>?_⟩;rw[db,FvOcc]at ho
   rcases ho with ho|ho
   ·exact f2.more x (f1.got x hx ho)
   ·exact f2.got x hx ho
  |var y=>rw[db]at h;cases hi:idx y loc <;> rw[hi]at h <;> cases h
  |mt n=>rw[db]at h;cases h
  |con c l=>rw[db]at h;cases h
  |all x u=>rw[db]at h;cases h
 |.all x p,bd,loc,t,r,h,hr=>by
  rw[zaN]
  rw[db,repD]at h
  cases t with
  |all y u =>
   rw[db]at h
   injection h with h1;have f1:=find_ok vars s hs p (x::bd) (y::loc) u r h1 hr;show Fnd vars s _ r (zaN vars (x::bd) p u r);refine⟨f1.all,f1.more,λz hz ho=>f1.got z hz ?_⟩;rw[db,FvOcc]at ho
   exact ho
  |var y=>rw[db]at h;cases hi:idx y loc <;> rw[hi]at h <;> cases h
  |mt n=>rw[db]at h;cases h
  |con c l=>rw[db]at h;cases h
  |fn a b=>rw[db]at h;cases h
theorem zj2(vars:List Name)(s:Name->Dt)(hs:∀x∈vars,Clo 0 (s x)):(l:List Ty)->∀(bd loc:List Name)(m:List Ty)(r:List (Name × Ty)),dbL loc m=zax (tau vars s) .mt (dbL bd l)->AllF vars s r->Fnd vars s (λx=>zaT x (dbL bd l)) r (zaM vars bd l m r)
 |[],bd,loc,m,r,h,hr=>by
  rw[zaM,dbL]
  exact⟨hr,λy hy=>hy,λy _ hy=>by rw[zaT]at hy;exact hy.elim⟩
 |p::l,bd,loc,[],r,h,hr=>by rw[dbL,dbL,zax]at h;cases h
 |p::l,bd,loc,u::m,r,h,hr=>by
  rw[dbL,dbL,zax]at h
  injection h with h1 h2;have f1:=find_ok vars s hs p bd loc u r h1 hr;have f2:=zj2 vars s hs l bd loc m _ h2 f1.all;rw[zaM]
  refine⟨f2.all,λx hx=>f2.more x (f1.more x hx),λx hx ho=>?_⟩;rw[dbL,zaT]at ho
  rcases ho with ho|ho
  ·exact f2.more x (f1.got x hx ho)
  ·exact f2.got x hx ho
end
mutual
def zaH:Dt->Bool
 |.fv _=>false
 |.bv _=>false
 |.mt _=>false
 |.con _ l=>zbV l
 |.fn a b=>zaH a||zaH b
 |.all _=>true
def zbV:List Dt->Bool
 |[]=>false
 |t::r=>zaH t||zbV r
end
mutual
theorem zcH(env:List Name):(t:Ty)->t.poly=zaH (db env t)
 |.var x=>by rw[db,Ty.poly];cases idx x env <;> rfl
 |.mt n=>by rw[db,Ty.poly,zaH]
 |.con c l=>by rw[db,Ty.poly,zaH,zj3 env l]
 |.fn a b=>by rw[db,Ty.poly,zaH,zcH env a,zcH env b]
 |.all x t=>by rw[db,Ty.poly,zaH]
theorem zj3(env:List Name):(l:List Ty)->za6 l=zbV (dbL env l)
 |[]=>by rw[dbL,za6,zbV]
 |t::r=>by rw[dbL,za6,zbV,zcH env t,zj3 env r]
end
def zau(vars:List Name)(p t:Ty):List (Name × Ty):=zaN vars [] p t []
def zq3(r:List (Name × Ty)):Prop:=∃x u,look x r=some u/\u.poly=true
def zca(vars:List Name)(p t:Ty):Prop:=¬zq3 (zau vars p t)/\db [] (putP (zay (zau vars p t)) p)=db [] t
def za7(r:List (Name × Ty)):List Name->List (Name × Ty)
 |[]=>[]
 |x::l=>match look x r with|some u=>(x,u)::za7 r l|none=>za7 r l
def zco(vars:List Name)(p t:Ty):Prop:=∃s:Name->Dt,(∀x∈vars,Clo 0 (s x)/\zaH (s x)=false)/\db [] t=repD (tau vars s) .mt (db [] p)
theorem zbF {V:Type}(x:Name)(y:V):(r:List (Name × V))->look x r=some y->(x,y)∈r
 |[],h=>by cases h
 |(a,b)::r,h=>by
  rw[look]at h
  by_cases e:a=x
  ·rw[if_pos e]at h;injection h with h;subst h;subst e;exact List.mem_cons_self ..
  ·rw[if_neg e]at h;exact List.mem_cons_of_mem _ (zbF x y r h)
theorem zg0(x:Name):(r:List (Name × Ty))->x∈keysOf r->∃u,look x r=some u
 |[],h=>by cases h
 |(a,b)::r,h=>by
  rw[look]
  by_cases e:a=x
  ·rw[if_pos e];exact⟨b,rfl⟩
  ·rw[if_neg e]
   rcases List.mem_cons.1 h with h|h
   ·exact absurd h.symm e
   ·exact zg0 x r h
theorem zfS(r:List (Name × Ty))(x:Name):Fp (zay r) x=match look x r with|some u=>db [] u|none=>.fv x:=by
 unfold Fp lfP;rw[zay]
 cases look x r <;> rfl
theorem ziD(r:List (Name × Ty)):Gp (zay r)=.mt:=funext λ_=>rfl
mutual
theorem zb2(f f':Name->Dt)(g:Nat->Dt):(d:Dt)->(∀x,FvOcc x d->f x=f' x)->repD f g d=repD f' g d
 |.fv x,h=>by rw[repD,repD];exact h x (by rw[FvOcc])
 |.bv i,_=>by rw[repD,repD]
 |.mt n,_=>by rw[repD,repD]
 |.con c l,h=>by rw[repD,repD,ziE f f' g l (λx hx=>h x (by rw[FvOcc];exact hx))]
 |.fn a b,h=>by rw[repD,repD,zb2 f f' g a (λx hx=>h x (by rw[FvOcc];exact .inl hx)),zb2 f f' g b (λx hx=>h x (by rw[FvOcc];exact .inr hx))]
 |.all t,h=>by rw[repD,repD,zb2 f f' g t (λx hx=>h x (by rw[FvOcc];exact hx))]
theorem ziE(f f':Name->Dt)(g:Nat->Dt):(l:List Dt)->(∀x,zaT x l->f x=f' x)->zax f g l=zax f' g l
 |[],_=>by rw[zax,zax]
 |t::r,h=>by rw[zax,zax,zb2 f f' g t (λx hx=>h x (by rw[zaT];exact .inl hx)),ziE f f' g r (λx hx=>h x (by rw[zaT];exact .inr hx))]
end
theorem zhr(u:Ty):Clo 0 (db [] u):=zbI [] u
theorem ziF(vars:List Name)(p t:Ty)(hp:p.size<=1000000)(hr:(freeIn (zay (zau vars p t)) p).length<=90000000):zca vars p t↔zco vars p t:=by
 have hin:∀e∈zau vars p t,e.1∈vars:=zc7 vars p [] t [] (λ_ h=>(List.not_mem_nil h).elim);unfold zca;rw[zlP _ p hp hr,ziD]
 constructor
 ·rintro⟨h1,h2⟩
  refine⟨λx=>match look x (zau vars p t) with|some u=>db [] u|none=>.fv x,λx _=>?_,?_⟩
  ·show Clo 0 (match look x (zau vars p t) with|some u=>db [] u|none=>.fv x)/\zaH (match look x (zau vars p t) with|some u=>db [] u|none=>.fv x)=false
   cases hl:look x (zau vars p t) with
   |none=>exact⟨by rw[Clo];trivial,by rw[zaH]⟩
   |some u =>
    refine⟨zhr u,?_⟩;show zaH (db [] u)=false;rw[<-zcH]
    cases hq:u.poly with
    |false=>rfl
    |true=>exact absurd ⟨x,u,hl,hq⟩ h1
  ·rw[<-h2]
   refine(zb2 _ _ _ _ (λx _=>?_)).symm.trans (by rfl) |>.symm;rw[zfS,tau]
   by_cases hx:x∈vars
   ·rw[if_pos hx]
   ·rw[if_neg hx]
    cases hl:look x (zau vars p t) with
    |none=>rfl
    |some u=>exact absurd (hin _ (zbF x u _ hl)) hx
 ·rintro⟨s,h1,h2⟩
  have hf:=find_ok vars s (λx hx=>(h1 x hx).1) p [] [] t [] h2 (λ_ h=>(List.not_mem_nil h).elim);refine⟨?_,?_⟩
  ·rintro⟨x,u,hl,hq⟩
   obtain⟨h3,h4⟩:=hf.all _ (zbF x u _ hl);rw[zcH [],h4,(h1 x h3).2]at hq
   cases hq
  ·rw[h2]
   refine zb2 _ _ _ _ (λx hx=>?_);rw[zfS,tau]
   by_cases hv:x∈vars
   ·rw[if_pos hv]
    obtain⟨u,hu⟩:=zg0 x _ (hf.got x hv hx);show(match look x (zaN vars [] p t []) with|some u=>db [] u|none=>.fv x)=_;rw[hu]
    exact(hf.all _ (zbF x u _ hu)).2
   ·rw[if_neg hv]
    cases hl:look x (zau vars p t) with
    |none=>rfl
    |some u=>exact absurd (hin _ (zbF x u _ hl)) hv
theorem zfT(r:List (Name × Ty)):(l:List Name)->∀e∈za7 r l,e.1∈l/\look e.1 r=some e.2
 |[],e,h=>by cases h
 |x::l,e,h=>by
  rw[za7]at h
  cases hl:look x r with
  |none =>
   rw[hl]at h
   obtain⟨h1,h2⟩:=zfT r l e h;exact⟨List.mem_cons_of_mem _ h1,h2⟩
  |some u =>
   rw[hl]at h
   rcases List.mem_cons.1 h with rfl|h
   ·exact⟨List.mem_cons_self ..,hl⟩
   ·obtain⟨h1,h2⟩:=zfT r l e h
    exact⟨List.mem_cons_of_mem _ h1,h2⟩
end Go.Proofs.YtaomnlcplmkokaaGreatDoor
namespace Go.Proofs.YtaomnlcplmkokaaGreatDoor
open Go.RowKit Lx Tx Go.Maps Go.WideMaps Go.Shelf
set_option maxRecDepth 100000
def begN:Ty->List Name
 |.all x t=>x::begN t
 |_=>[]
def allD:Nat->Dt->Dt
 |0,d=>d
 |n+1,d=>.all (allD n d)
mutual
def inst(s:Nat->Dt):Nat->Dt->Dt
 |_,.fv x=>.fv x
 |k,.bv i=>if i<k then .bv i else s (i-k)
 |_,.mt n=>.mt n
 |k,.con c l=>.con c (zaY s k l)
 |k,.fn a b=>.fn (inst s k a) (inst s k b)
 |k,.all t=>.all (inst s (k+1) t)
def zaY(s:Nat->Dt):Nat->List Dt->List Dt
 |_,[]=>[]
 |k,t::r=>inst s k t::zaY s k r
end
mutual
def zcV(ys:List Name):Nat->Dt->Dt
 |k,.fv x=>match idx x ys with|some i=>.bv (i+k)|none=>.fv x
 |_,.bv i=>.bv i
 |_,.mt n=>.mt n
 |k,.con c l=>.con c (zfU ys k l)
 |k,.fn a b=>.fn (zcV ys k a) (zcV ys k b)
 |k,.all t=>.all (zcV ys (k+1) t)
def zfU(ys:List Name):Nat->List Dt->List Dt
 |_,[]=>[]
 |k,t::r=>zcV ys k t::zfU ys k r
end
def core(t:Ty):Dt:=db (begN t).reverse (zbA t)
theorem zlQ:(t:Ty)->∀env,db env t=allD (begN t).length (db ((begN t).reverse++env) (zbA t))
 |.all x t,env=>by
  rw[db,zlQ t (x::env),begN,zbA,List.length_cons,allD,List.reverse_cons,List.append_assoc]
  rfl
 |.var x,env=>rfl
 |.mt n,env=>rfl
 |.con c l,env=>rfl
 |.fn a b,env=>rfl
theorem zpR(t:Ty):db [] t=allD (begN t).length (core t):=by
 rw[zlQ t []]
 unfold core;rw[List.append_nil]
mutual
theorem zgk(ys:List Name):(t:Ty)->∀loc,db (loc++ys) t=zcV ys loc.length (db loc t)
 |.var x,loc=>by
  rw[db,db]
  cases hi:idx x loc with
  |some i=>rw[zd0 x loc ys i hi];rfl
  |none =>
   rw[zd1 x loc ys hi]
   show _=zcV ys loc.length (.fv x);rw[zcV]
   cases idx x ys <;> rfl
 |.mt n,loc=>by rw[db,db,zcV]
 |.con c l,loc=>by rw[db,db,zcV,zj4 ys l loc]
 |.fn a b,loc=>by rw[db,db,zcV,zgk ys a loc,zgk ys b loc]
 |.all x t,loc=>by
  rw[db,db,zcV,<-List.cons_append,zgk ys t (x::loc)]
  rfl
theorem zj4(ys:List Name):(l:List Ty)->∀loc,dbL (loc++ys) l=zfU ys loc.length (dbL loc l)
 |[],loc=>by rw[dbL,dbL,zfU]
 |t::r,loc=>by rw[dbL,dbL,zfU,zgk ys t loc,zj4 ys r loc]
end
mutual
theorem zc8(xs:List Name)(s:Nat->Dt)(f:Name->Dt)(hf:∀x,f x=match idx x xs with|some i=>s i|none=>.fv x):(t:Ty)->∀loc,repD f .mt (db loc t)=inst s loc.length (db (loc++xs) t)
 |.var x,loc=>by
  rw[db,db]
  cases hi:idx x loc with
  |some i =>
   rw[zd0 x loc xs i hi]
   show repD f .mt (.bv i)=inst s loc.length (.bv i);rw[repD,inst,if_pos (zcz x loc i hi)]
  |none =>
   rw[zd1 x loc xs hi]
   show repD f .mt (.fv x)=_;rw[repD,hf]
   cases he:idx x xs with
   |none=>show Dt.fv x=inst s loc.length (.fv x);rw[inst]
   |some j =>
    show s j=inst s loc.length (.bv (j+loc.length));rw[inst,if_neg (by omega),Nat.add_sub_cancel]
 |.mt n,loc=>by rw[db,db,repD,inst]
 |.con c l,loc=>by rw[db,db,repD,inst,ziG xs s f hf l loc]
 |.fn a b,loc=>by rw[db,db,repD,inst,zc8 xs s f hf a loc,zc8 xs s f hf b loc]
 |.all x t,loc=>by rw[db,db,repD,inst,<-List.cons_append,zc8 xs s f hf t (x::loc)];rfl
theorem ziG(xs:List Name)(s:Nat->Dt)(f:Name->Dt)(hf:∀x,f x=match idx x xs with|some i=>s i|none=>.fv x):(l:List Ty)->∀loc,zax f .mt (dbL loc l)=zaY s loc.length (dbL (loc++xs) l)
 |[],loc=>by rw[dbL,dbL,zax,zaY]
 |t::r,loc=>by rw[dbL,dbL,zax,zaY,zc8 xs s f hf t loc,ziG xs s f hf r loc]
end
theorem zj5(c:UInt8)(but:List Name):(t:Ty)->∀k,(zaG c but t k).length=(begN t).length
 |.all x t,k=>by rw[zaG,begN,List.length_cons,List.length_cons,zj5 c but t]
 |.var x,k=>rfl
 |.mt n,k=>rfl
 |.con c l,k=>rfl
 |.fn a b,k=>rfl
theorem zhs(c:UInt8)(but:List Name):(t:Ty)->∀k ys,Given c but ys k->k+t.size*(but.length+1)<10 ^ 15->∃k',Given c but ((zaG c but t k).reverse++ys) k'
 |.all x t,k,ys,h,hb=>by
  rw[Ty.size,Nat.add_mul,Nat.one_mul]at hb
  obtain⟨n0,n1,n2⟩:=zaw c but k (by omega);rw[zaG,List.reverse_cons,List.append_assoc]
  exact zhs c but t _ (nm c (zal c but k)::ys) (h.next (by omega)) (by omega)
 |.var x,k,ys,h,_=>⟨k,h⟩
 |.mt n,k,ys,h,_=>⟨k,h⟩
 |.con c l,k,ys,h,_=>⟨k,h⟩
 |.fn a b,k,ys,h,_=>⟨k,h⟩
theorem ziH(c:UInt8)(but:List Name):(t:Ty)->∀k r xs ys,(∀x,look x r=(idx x xs).map λi=>ys.getD i [])->∀x,look x (zcm c but t k r)=(idx x ((begN t).reverse++xs)).map λi=>((zaG c but t k).reverse++ys).getD i []
 |.all x t,k,r,xs,ys,h,z=>by
  rw[zcm,begN,zaG,List.reverse_cons,List.reverse_cons,List.append_assoc,List.append_assoc]
  exact ziH c but t _ _ (x::xs) (nm c (zal c but k)::ys) (zgg h x _) z
 |.var x,k,r,xs,ys,h,z=>h z
 |.mt n,k,r,xs,ys,h,z=>h z
 |.con c l,k,r,xs,ys,h,z=>h z
 |.fn a b,k,r,xs,ys,h,z=>h z
def newY(c:UInt8)(but:List Name)(t:Ty):List Name:=(zaG c but t 0).reverse
theorem zpS(c:UInt8)(but:List Name)(t:Ty):(newY c but t).length=(begN t).length:=by unfold newY;rw[List.length_reverse,zj5]
theorem zht(c:UInt8)(but:List Name)(t:Ty)(hb:t.size*(but.length+1)<10 ^ 15):∃k',Given c but (newY c but t) k':=by
 obtain⟨k',h⟩:=zhs c but t 0 [] (Given.nil c but) (by omega);rw[List.append_nil]at h
 exact⟨k',h⟩
theorem ze9(c:UInt8)(hc:c=112\/c=113)(but:List Name):(t:Ty)->∀k r,(∀p∈r,Gd 1 p.2)->k+t.size*(but.length+1)<10 ^ 15->∀p∈zcm c but t k r,Gd 1 p.2
 |.all x t,k,r,h,hb=>by
  rw[Ty.size,Nat.add_mul,Nat.one_mul]at hb
  obtain⟨n0,n1,n2⟩:=zaw c but k (by omega);rw[zcm]
  refine ze9 c hc but t _ _ (λp hp=>?_) (by omega);rcases List.mem_cons.1 hp with rfl|hp
  ·exact zjT c hc _ (by omega)
  ·exact h p hp
 |.var x,k,r,h,_=>h
 |.mt n,k,r,h,_=>h
 |.con c l,k,r,h,_=>h
 |.fn a b,k,r,h,_=>h
theorem zpT(c:UInt8)(hc:c=112\/c=113)(but:List Name)(t:Ty)(ht:t.size<=1000000)(hb:t.size*(but.length+1)<10 ^ 15):db [] (zaV c but t 0)=inst (λi=>.fv ((newY c but t).getD i [])) 0 (core t):=by
 have hgd:=ze9 c hc but t 0 [] (λ_ h=>(List.not_mem_nil h).elim) (by omega);have hsz:=zdG t;unfold zaV;rw[zlP _ _ (by omega) (zeF hgd _ (by omega)),ziD]
 unfold core;refine zc8 (begN t).reverse _ _ (λx=>?_) (zbA t) [];rw[zfS,ziw,ziH c but t 0 [] [] [] (λ_=>rfl) x,List.append_nil,List.append_nil]
 cases idx x (begN t).reverse <;> rfl
theorem zhu(x:Name):(n:Nat)->∀d,FvOcc x (allD n d)↔FvOcc x d
 |0,d=>Iff.rfl
 |n+1,d=>by rw[allD,FvOcc];exact zhu x n d
theorem zpU(t:Ty)(x:Name):FvOcc x (core t)↔x∈zam t:=by
 rw[zeA,zpR,zhu]
theorem zpV(t:Ty):Clo (begN t).length (core t):=by
 have:=zbI (begN t).reverse (zbA t);rw[List.length_reverse]at this
 exact this
mutual
theorem zcw(f:Name->Dt)(s:Nat->Dt):(d:Dt)->∀k,(∀x,FvOcc x d->f x=.fv x)->repD f .mt (inst s k d)=inst (λi=>repD f .mt (s i)) k d
 |.fv x,k,h=>by rw[inst,inst,repD];exact h x (by rw[FvOcc])
 |.bv i,k,_=>by
  rw[inst,inst]
  by_cases hi:i<k
  ·rw[if_pos hi,if_pos hi,repD]
  ·rw[if_neg hi,if_neg hi]
 |.mt n,k,_=>by rw[inst,inst,repD]
 |.con c l,k,h=>by rw[inst,inst,repD,zfV f s l k (λx hx=>h x (by rw[FvOcc];exact hx))]
 |.fn a b,k,h=>by rw[inst,inst,repD,zcw f s a k (λx hx=>h x (by rw[FvOcc];exact .inl hx)),zcw f s b k (λx hx=>h x (by rw[FvOcc];exact .inr hx))]
 |.all t,k,h=>by rw[inst,inst,repD,zcw f s t (k+1) (λx hx=>h x (by rw[FvOcc];exact hx))]
theorem zfV(f:Name->Dt)(s:Nat->Dt):(l:List Dt)->∀k,(∀x,zaT x l->f x=.fv x)->zax f .mt (zaY s k l)=zaY (λi=>repD f .mt (s i)) k l
 |[],k,_=>by rw[zaY,zaY,zax]
 |t::r,k,h=>by rw[zaY,zaY,zax,zcw f s t k (λx hx=>h x (by rw[zaT];exact .inl hx)),zfV f s r k (λx hx=>h x (by rw[zaT];exact .inr hx))]
end
mutual
theorem zc9(s s':Nat->Dt)(n:Nat)(h:∀i,i<n->s i=s' i):(d:Dt)->∀k,Clo (n+k) d->inst s k d=inst s' k d
 |.fv x,k,_=>by rw[inst,inst]
 |.bv i,k,hc=>by
  rw[Clo]at hc
  rw[inst,inst]
  by_cases hi:i<k
  ·rw[if_pos hi,if_pos hi]
  ·rw[if_neg hi,if_neg hi,h (i-k) (by omega)]
 |.mt n,k,_=>by rw[inst,inst]
 |.con c l,k,hc=>by rw[Clo]at hc;rw[inst,inst,ziI s s' n h l k hc]
 |.fn a b,k,hc=>by rw[Clo]at hc;rw[inst,inst,zc9 s s' n h a k hc.1,zc9 s s' n h b k hc.2]
 |.all t,k,hc=>by rw[Clo]at hc;rw[inst,inst,zc9 s s' n h t (k+1) hc]
theorem ziI(s s':Nat->Dt)(n:Nat)(h:∀i,i<n->s i=s' i):(l:List Dt)->∀k,CloL (n+k) l->zaY s k l=zaY s' k l
 |[],k,_=>by rw[zaY,zaY]
 |t::r,k,hc=>by rw[CloL]at hc;rw[zaY,zaY,zc9 s s' n h t k hc.1,ziI s s' n h r k hc.2]
end
mutual
theorem zdp(s:Nat->Dt)(h:∀i,zaH (s i)=false):(d:Dt)->∀k,zaH (inst s k d)=zaH d
 |.fv x,k=>by rw[inst]
 |.bv i,k=>by
  rw[inst]
  by_cases hi:i<k
  ·rw[if_pos hi]
  ·rw[if_neg hi,h,zaH]
 |.mt n,k=>by rw[inst]
 |.con c l,k=>by rw[inst,zaH,zaH,zhv s h l k]
 |.fn a b,k=>by rw[inst,zaH,zaH,zdp s h a k,zdp s h b k]
 |.all t,k=>by rw[inst,zaH,zaH]
theorem zhv(s:Nat->Dt)(h:∀i,zaH (s i)=false):(l:List Dt)->∀k,zbV (zaY s k l)=zbV l
 |[],k=>by rw[zaY]
 |t::r,k=>by rw[zaY,zbV,zbV,zdp s h t k,zhv s h r k]
end
def fvs(ys:List Name)(i:Nat):Dt:=.fv (ys.getD i [])
def zfW(tk:List Name)(g s:Ty):Prop:=∃σ:Nat->Dt,(∀i,Clo 0 (σ i)/\zaH (σ i)=false)/\inst σ 0 (core g)=inst (fvs (newY 112 tk s)) 0 (core s)
def Room(tk:List Name)(t:Ty):Prop:=t.size<=1000000/\t.size*(tk.length+1)<10 ^ 15
theorem zb3(c:UInt8)(hc:c=112\/c=113)(tk:List Name)(t:Ty)(h:Room tk t):db [] (zaV c tk t 0)=inst (fvs (newY c tk t)) 0 (core t):=zpT c hc tk t h.1 h.2
theorem zro(c:UInt8)(tk:List Name)(t u:Ty)(h:Room tk t)(hu:∀x∈zam u,x∈tk)(x:Name)(hx:FvOcc x (core u)):x∉newY c tk t:=by
 obtain⟨k',hg⟩:=zht c tk t h.2;exact λhm=>hg.apart x hm (hu x ((zpU u x).1 hx))
theorem zj6(tk:List Name)(g s:Ty)(hg:Room tk g)(hs:Room tk s)(fg:∀x∈zam g,x∈tk):zco (zaG 113 tk g 0) (zaV 113 tk g 0) (zaV 112 tk s 0)↔zfW tk g s:=by
 have hv:∀x,x∈zaG 113 tk g 0↔x∈newY 113 tk g:=λx=>by unfold newY;rw[List.mem_reverse]
 obtain⟨k',hq⟩:=zht 113 tk g hg.2;have hcl:Clo ((newY 113 tk g).length+0) (core g):=by rw[zpS];exact zpV g
 have key:∀s':Name->Dt,repD (tau (zaG 113 tk g 0) s') .mt (inst (fvs (newY 113 tk g)) 0 (core g))=inst (λi=>tau (zaG 113 tk g 0) s' ((newY 113 tk g).getD i [])) 0 (core g):=λs'=>by
  rw[zcw _ _ _ _ (λx hx=>by rw[tau,if_neg (λhm=>zro 113 tk g g hg fg x hx ((hv x).1 hm))])]
  rfl
 unfold zco zfW;rw[zb3 113 (.inr rfl) tk g hg,zb3 112 (.inl rfl) tk s hs]
 constructor
 ·rintro⟨s',h1,h2⟩
  rw[key]at h2
  refine⟨λi=>if i<(newY 113 tk g).length then s' ((newY 113 tk g).getD i []) else .fv [],λi=>?_,?_⟩
  ·show Clo 0 (if _ then _ else _)/\zaH (if _ then _ else _)=false
   by_cases hi:i<(newY 113 tk g).length
   ·rw[if_pos hi];exact h1 _ ((hv _).2 (zbT _ i hi))
   ·rw[if_neg hi];exact⟨by rw[Clo];trivial,by rw[zaH]⟩
  ·rw[h2]
   refine zc9 _ _ _ (λi hi=>?_) (core g) 0 hcl;rw[if_pos hi,tau,if_pos ((hv _).2 (zbT _ i hi))]
 ·rintro⟨σ,h1,h2⟩
  refine⟨λx=>match idx x (newY 113 tk g) with|some i=>σ i|none=>.fv x,λx _=>?_,?_⟩
  ·show Clo 0 (match idx x (newY 113 tk g) with|some i=>σ i|none=>.fv x)/\zaH (match idx x (newY 113 tk g) with|some i=>σ i|none=>.fv x)=false
   cases idx x (newY 113 tk g) with
   |some i=>exact h1 i
   |none=>exact⟨by rw[Clo];trivial,by rw[zaH]⟩
  ·rw[key,<-h2]
   refine zc9 _ _ _ (λi hi=>?_) (core g) 0 hcl;rw[tau,if_pos ((hv _).2 (zbT _ i hi))]
   show _=(match idx ((newY 113 tk g).getD i []) (newY 113 tk g) with|some i=>σ i|none=>.fv _);rw[zfy _ hq.nodup i hi]
theorem zmx(c:UInt8)(hc:c=112\/c=113)(tk:List Name)(t:Ty)(h:Room tk t):(zaV c tk t 0).poly=zaH (core t):=by
 rw[zcH [],zb3 c hc tk t h,zdp _ (λi=>by unfold fvs;rw[zaH])]
theorem zpW(tk:List Name)(x:Name)(t:Ty)(h:Room tk t):zfW tk (.all x (.var x)) t↔zaH (core t)=false:=by
 have hc:core (.all x (.var x))=.bv 0:=by
  unfold core;show db [x] (.var x)=_;rw[db,idx,if_pos rfl]
 have hp:zaH (inst (fvs (newY 112 tk t)) 0 (core t))=zaH (core t):=zdp _ (λi=>by unfold fvs;rw[zaH]) _ 0;unfold zfW;rw[hc]
 constructor
 ·rintro⟨σ,h1,h2⟩
  rw[inst,if_neg (by omega)]at h2
  rw[<-hp,<-h2]
  exact(h1 0).2
 ·intro hq
  refine⟨λ_=>inst (fvs (newY 112 tk t)) 0 (core t),λi=>⟨?_,by rw[hp];exact hq⟩,by rw[inst,if_neg (by omega)]⟩;rw[<-zb3 112 (.inl rfl) tk t h]
  exact zhr _
end Go.Proofs.YtaomnlcplmkokaaGreatDoor
