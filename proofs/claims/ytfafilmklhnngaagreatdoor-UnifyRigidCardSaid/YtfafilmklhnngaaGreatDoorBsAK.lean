import Derived.Test.YtfafilmklhnngaaGreatDoorBsAJ
import Derived.Test.YtfafilmklhnngaaGreatDoorBsI
set_option maxHeartbeats 12800000
set_option maxRecDepth 100000
namespace Go.Proofs.YtfafilmklhnngaaGreatDoor
open Tryz
section
open Go.RowKit Go.Shelf Lx Tx
attribute [local go_sem] Oper.semAt_some
def FW(b B:Nat)(t:TypeId)(cs:Array Value)(l ids:List Nat)(v:Value)(A:Option Addr)(c:Nat)(w:World)(k:Nat)(W:World):Prop :=
 ∃v',ar W b t (cs.setIfInBounds 0 v')/\W.ownsRow B 75 1 v' (l++(ids.drop k).reverse).length ((l++(ids.drop k).reverse).map PK)/\(v'.ownBlock=v.ownBlock\/∃g,v'.ownBlock=some g/\w.heap.size+2<=g) /\
  ar W w.heap.size 228 #[.pointer (some ⟨b,0,none⟩)]/\ar W (w.heap.size+1) 130 #[.slice A ids.length c]/\b_ (λg=>g=b\/v.ownBlock=some g) w W
theorem FW.al {b B:Nat} {t:TypeId} {cs:Array Value} {l ids:List Nat} {v:Value} {A:Option Addr} {c:Nat} {w:World} {k:Nat} {W W':World}(h:FW b B t cs l ids v A c w k W)(hc:∀g,g<W.heap.size->(∃x y,W.heap[g]?=some (.cells x y (0,0)))->W'.heap[g]?=W.heap[g]?)
  (hC:b_ (λg=>g=b\/v.ownBlock=some g) w W'):FW b B t cs l ids v A c w k W':=by
 obtain⟨v',h1,h2,h3,h4,h5,h6⟩:=h;refine⟨v',h1.same (hc _ h1.lt ⟨_,_,h1⟩),GF h2 (λg hg=>?_),h3,h4.same (hc _ h4.lt ⟨_,_,h4⟩),h5.same (hc _ h5.lt ⟨_,_,h5⟩),hC⟩;obtain⟨_,hl,cur,aa⟩:=s_ h2 g hg;exact hc g hl ⟨_,_,aa⟩
theorem Lo {W:World} {l:Nat} {r r':Loop}(hl:W.heap[l]?=some (.loop r))(g:Nat)(hg:∃x y,W.heap[g]?=some (.cells x y (0,0))):(W.putObj l (.loop r')).heap[g]?=W.heap[g]? :=
 CC λe=>by
  obtain⟨x,y,hx⟩:=hg;rw[e,hl]at hx;cases hx
theorem b_.putObj {M:Nat->Prop} {w W:World}(h:b_ M w W)(l:Nat)(o:Obj)(hl:w.heap.size<=l):b_ M w (W.putObj l o) :=
 ⟨h.os,h.tape,h.output,by rw[Dq];exact h.size,λk hk hn=>(CC (by omega)).trans (h.block k hk hn)⟩
theorem FW.F2 {b B:Nat} {t:TypeId} {cs:Array Value} {l ids:List Nat} {v:Value} {A:Option Addr} {c:Nat} {w:World} {k lp:Nat}(mM:w.heap.size<=lp):Ip lp (FW b B t cs l ids v A c w k):=λW r r' h hl =>
 h.al (λg _ hg=>Lo hl g hg) (by obtain⟨_,_,_,_,_,_,h6⟩:=h;exact h6.putObj _ _ mM)
theorem R8(b B:Nat)(t:TypeId)(cs:Array Value)(gP:0<cs.size)(l ids:List Nat)(v:Value)(A:Option Addr)(c:Nat)(w:World)
  (hb:ar w b t (cs.setIfInBounds 0 v))(ho:w.ownsRow B 75 1 v l.length (l.map PK))(hB:B<=w.heap.size)(qJ:v.ownBlock≠some b)(hlen:l.length+ids.length<=5000000000000)
  (hA:∀(j q:Nat),ids[j]?=some q->∃g,A=some ⟨g,0,none⟩/\g<w.heap.size/\g≠b/\v.ownBlock≠some g/\w.cell? ⟨g,j,none⟩=some (.pointer (some ⟨q,0,none⟩))):Calls prog 119 #[.pointer (some ⟨b,0,none⟩),.slice A ids.length c] w λe w'=>(∃x,e=.returned x)/\FW b B t cs l ids v A c w 0 w':=by
 refine(callsIn_wide (n:=10)).1 ?_;refine callsIn_of_wp_marks func119 rfl trivial ?_ rfl;simp only[ntmps119,CY,Ca,CR,Nat.reduceAdd,Nat.reduceSub,Df,De,Dl,Dh,Cu,Co];have HB:=EP hb;have HO:=EP ho;have HA:=EP hA;have Yb:=EP qJ;clear hb ho hA qJ;gi_wp2;refine⟨trivial,?_⟩;refine(zpt Fence.wide _ trivial rfl _ _ _ _).mono ?_;rintro e w' ⟨rfl,rfl⟩;gi_wp2;obtain⟨k1,k2,aZ,aV⟩:=IC w (.cells #[.pointer (some ⟨b,0,none⟩)] 228) (.cells #[.slice A ids.length c] 130);obtain⟨w2,dw⟩:∃w2,(w.alloc (.cells #[.pointer (some ⟨b,0,none⟩)] 228)).alloc (.cells #[.slice A ids.length c] 130)=w2:=⟨_,rfl⟩;rw[dw]at k1 k2 aZ aV ⊢;have h0:FW b B t cs l ids v A c w ids.length w2:=by
  refine⟨v,HB.o.below aV HB.o.lt,?_,.inl rfl,k1,k2,b_.c_ aV⟩;rw[List.drop_length,List.reverse_nil,CJ];exact GF HO.o λg hg=>aV.block g (s_ HO.o g hg).2.1
 have ay:∀k W,FW b B t cs l ids v A c w k W->∀(j q:Nat),ids[j]?=some q->∃g,A=some ⟨g,0,none⟩/\W.cell? ⟨g,j,none⟩=some (.pointer (some ⟨q,0,none⟩)):=λk W h j q hq=>by
  obtain⟨_,_,_,_,_,_,hc⟩:=h;obtain⟨g,e,aS,gM,fL,Xe⟩:=HA.o j q hq;exact⟨g,e,(Ck (w:=w) (a:=⟨g,j,none⟩) (hc.block g aS (λh=>by rcases h with h|h;exact gM h;exact fL h))).trans Xe⟩
 have H0:=EP h0;have HC:=EP ay;have cE:=EP aZ;clear h0 ay k1 k2 aV dw aZ;refine P5 (σ:=Nat × Nat) rfl (by omega) (gf:=184) (fb:=#[]) (lb:=#[.pointer (some ⟨w.heap.size+1,0,none⟩)]) rfl trivial (enters_of func184 (by kernel_rfl) rfl)
  (λs=>#[.int .i64 (s.1:Nat),.pointer (some ⟨s.2,0,none⟩)]) (λ_=>rfl)
  (λs W=>FW b B t cs l ids v A c w (s.1+1) W/\ids[s.1]?=some s.2) (λs W=>FW b B t cs l ids v A c w s.1 W)
  (λs a₁ W=>(FW b B t cs l ids v A c w (s.1+1) W/\ids[s.1]?=some s.2)/\a₁ = { tmps:=#[.pointer (some ⟨b,0,none⟩),.slice A ids.length c,.pointer (some ⟨w.heap.size,0,none⟩),undef,undef,.pointer (some ⟨s.2,0,none⟩),.slice A ids.length c,.func (.func 184) #[] #[.pointer (some ⟨w.heap.size+1,0,none⟩)],.int .i64 (s.1:Nat),.pointer (some ⟨s.2,0,none⟩),undef,undef,undef,undef,undef,undef,undef,undef,undef,undef],defers:=[] })
  (FW b B t cs l ids v A c w 0) (λ_ _=>False) (λs a₁ W r r' h hl=>⟨⟨FW.F2 (by have:=cE.o;omega) W r r' h.1.1 hl,h.1.2⟩,h.2⟩) (λs=>FW.F2 (by have:=cE.o;omega)) (FW.F2 (by have:=cE.o;omega)) (λ_ _ _ _ h _=>h) ?assign ?body ?iter ?done ?stop
 case assign =>
  intro r s W hj hl;have HJ:=EP hj;have HL:=EP hl;clear hj hl;gi_wp2;exact⟨HL.o,HJ.o,trivial⟩
 case iter =>
  intro rec W1 av aH cR hY;refine(zpr Fence.wide (10-1) trivial rfl (by omega) (w2.heap.size+1) (w.heap.size+1) ids A c (λk W=>FW b B t cs l ids v A c w k W/\i_ (rec .ready none) (w2.heap.size+1) w2.heap.size W) (by omega)
   (λk W h=>by obtain⟨⟨_,_,_,_,_,h5,_⟩,_⟩:=h;exact h5.cell 0) (λk W h=>HC.o k W h.1) (λk q W h hq=>?_) W1 ⟨H0.o.al (λg hg _=>av.block g hg) (by obtain⟨_,_,_,_,_,_,h6⟩:=H0.o;exact h6.below av),cR⟩).mono ?_
  ·refine(hY (k,q) W ⟨h.1,hq⟩ h.2).mono ?_
   intro e W' hs;rcases hs with⟨h1,h2,h3⟩|⟨_,_,h2,_⟩
   ·exact⟨h1,h2,h3⟩
   ·exact h2.elim
  ·rintro e W' ⟨hv,hj,hl⟩
   exact⟨hv,.inl ⟨hj,hl⟩⟩
 case done =>
  intro W hj hD;have HJ:=EP hj;have HD:=EP hD;clear hj hD;gi_wp2;refine⟨by simp,.inl ⟨_,_,rfl,run_takeDeferred HD.o,?_⟩⟩;refine⟨_,CQ rfl _ _ _,⟨_,rfl⟩,?_⟩;exact HJ.o.al (λg _ hg=>CC λe=>by
   obtain⟨x,y,hx⟩:=hg;rw[e,HD.o]at hx;cases hx) (by obtain⟨_,_,_,_,_,_,h6⟩:=HJ.o;exact h6.putObj _ _ (by have:=cE.o;omega))
 case stop=>intro c W h;exact h.elim
 case body =>
  rintro r ⟨k,q⟩ a₁ W ⟨⟨hj,hq⟩,rfl⟩ hl;obtain⟨v1,h1,h2,h3,h4,h5,h6⟩:=hj;obtain⟨i0,bK,cj,bS,bC⟩:=Dx Ir;have e1:W.cell? ⟨w.heap.size,0,none⟩=some (.pointer (some ⟨b,0,none⟩)):=h4.cell 0;have e2:W.cell? ⟨b,0,none⟩=some v1:=(h1.cell 0).trans (by simp[gP]);have l1:=h1.lt;have l2:=h4.lt;have iy:v1.ownBlock≠some b:=by
   rcases h3 with e|⟨g,e,hg⟩
   ·rw[e];exact Yb.o
   ·rw[e];intro e;injection e with e;have:=HB.o.lt;omega
  have sh:v1.ownBlock≠some w.heap.size:=by
   rcases h3 with e|⟨g,e,hg⟩
   ·rw[e];intro e;have:=(s_ HO.o _ e).2.1;omega
   ·rw[e];intro e;injection e with e;omega
  have aR:Hid (∀(g6 c6:Nat) (w6:World),w6.ownsRow B 75 1 (.slice (some ⟨g6,0,none⟩) ((l++(ids.drop (k+1)).reverse).length+1) c6) ((l++(ids.drop (k+1)).reverse).length+1) ((l++(ids.drop (k+1)).reverse).map PK++[.pointer (some ⟨q,0,none⟩)]) ->
    (W.drew.alloc (.cells #[.pointer (some ⟨q,0,none⟩)] 75)).grownBy w6 v1.ownBlock->(v1.ownBlock=some g6\/g6=(W.drew.alloc (.cells #[.pointer (some ⟨q,0,none⟩)] 75)).heap.size) ->
    FW b B t cs l ids v A c w k (w6.setCell ⟨b,0,none⟩ (.slice (some ⟨g6,0,none⟩) ((l++(ids.drop (k+1)).reverse).length+1) c6))/\i_ r (w2.heap.size+1) w2.heap.size (w6.setCell ⟨b,0,none⟩ (.slice (some ⟨g6,0,none⟩) ((l++(ids.drop (k+1)).reverse).length+1) c6))):=EP (by
   intro g6 c6 w6 oF dM bz;have so:=h6.size;have dS:=dM.size;have aA:(W.drew.alloc (.cells #[.pointer (some ⟨q,0,none⟩)] 75)).heap.size=W.heap.size+1:=by rw[World.size_alloc];rfl
   rw[aA]at dS bz;have re:∀g,g<W.heap.size->v1.ownBlock≠some g->g≠b->(w6.setCell ⟨b,0,none⟩ (.slice (some ⟨g6,0,none⟩) ((l++(ids.drop (k+1)).reverse).length+1) c6)).heap[g]?=W.heap[g]?:=λg hg ai mS =>
    (B8 _ _ _ _ mS).trans ((dM.block g (by rw[aA];omega) (λe=>ai e.symm)).trans (BX W.drew _ g hg))
   have jz:ar w6 b t (cs.setIfInBounds 0 v1):=(ar.alloc (w:=W.drew) h1 (.cells #[.pointer (some ⟨q,0,none⟩)] 75)).grown dM (λe=>iy e.symm);have il:(ids.drop k).reverse=(ids.drop (k+1)).reverse++[q]:=by
    obtain⟨hk,e⟩:=Cj.1 hq;rw[DL hk,List.reverse_cons];simp at e;rw[e]
   have uE:g6≠b:=by
    rcases bz with e|e
    ·intro e2;rw[e2]at e;exact iy e
    ·have:=h1.lt;omega
   have iE:∀g,v1.ownBlock=some g->v.ownBlock=some g\/w.heap.size+2<=g:=λg hg=>by
    rcases h3 with e|⟨g',e,jN⟩
    ·exact .inl (e▸hg)
    ·rw[e]at hg;injection hg with hg;exact .inr (hg▸jN)
   have ez:=cE.o;refine⟨⟨.slice (some ⟨g6,0,none⟩) ((l++(ids.drop (k+1)).reverse).length+1) c6,?_,?_,?_,?_,?_,?_⟩,?_,?_⟩
   ·have:=Cl w6 b 0 _ t (.slice (some ⟨g6,0,none⟩) ((l++(ids.drop (k+1)).reverse).length+1) c6) jz
    rw[Array.setIfInBounds_setIfInBounds]at this;exact this
   ·rw[il,<-DC,Dn,show(l++(ids.drop (k+1)).reverse++[q]).length=(l++(ids.drop (k+1)).reverse).length+1 from Cb]
    exact ownsRow_setCell_other (a:=⟨b,0,none⟩) oF (λe=>uE (by simpa[Value.ownBlock] using e)) _
   ·rcases bz with e|e
    ·rcases iE g6 e with e2|e2
     ·exact .inl e2.symm
     ·exact .inr ⟨g6,rfl,e2⟩
    ·exact .inr ⟨g6,rfl,by omega⟩
   ·exact h4.same (re _ h4.lt sh (by have:=HB.o.lt;omega))
   ·exact h5.same (re _ h5.lt (λe=>by rcases iE _ e with e2|e2;have:=(s_ HO.o _ e2).2.1;omega;omega) (by have:=HB.o.lt;omega))
   ·refine((((show b_ (λg=>g=b\/v.ownBlock=some g) w W.drew from h6.drew).alloc _).grown dM (λg hg=>?_)).setCell (p:=⟨b,0,none⟩) (.inr (.inl rfl)) _)
    rcases iE g hg with e|e
    ·exact .inr (.inr e)
    ·exact .inl (by omega)
   ·exact(re _ hl.lt.1 (λe=>by rcases iE _ e with e2|e2;have:=(s_ HO.o _ e2).2.1;omega;obtain⟨_,_,cur,aa⟩:=s_ h2 _ e;rw[hl.1]at aa;cases aa) (by have:=HB.o.lt;omega)).trans hl.1
   ·exact(re _ hl.lt.2 (λe=>by obtain⟨_,_,cur,aa⟩:=s_ h2 _ e;rw[hl.2]at aa;cases aa) (by have:=HB.o.lt;omega)).trans hl.2)
  obtain⟨L1,rE⟩:∃L1,l++(ids.drop (k+1)).reverse=L1:=⟨_,rfl⟩;rw[rE]at aR h2;have lO:L1.length<5000000000000:=by
   have:=(Cj.1 hq).1;simp at this;rw[<-rE];simp;omega
  have az:Hid ((W.drew.alloc (.cells #[.pointer (some ⟨q,0,none⟩)] 75)).ownsRow B 75 1 v1 L1.length (L1.map PK)):=EP (World.ownsRow.alloc (w:=W.drew) h2 _);have dJ:Hid (∀j u,[Value.pointer (some ⟨q,0,none⟩)][j]?=some u->(W.drew.alloc (.cells #[.pointer (some ⟨q,0,none⟩)] 75)).cell? ((⟨W.heap.size,0,none⟩:Addr).add j)=some u):=EP (Iz _ _ _ _ rfl);have hBW:B<=W.heap.size:=by have:=h6.size;omega
  have bc:=EP h1;have nF:=EP h4;have vp:Hid (some b≠v1.ownBlock):=EP λe=>iy e.symm;have vm:Hid (some w.heap.size≠v1.ownBlock):=EP λe=>sh e.symm;clear h1 h2 h3 h4 h5 h6 iy hq sh rE hl;gi_wp2
  refine wpIn_region_any (by kernel_rfl) ?_;refine SF _ _ (Tb (by kernel_rfl)) (λ_ _ h=>h) _ _ _ _ ?_;change wpAny _ _ _ _ _ _ _ (World.drew _);iterate 12
   all_goals
    iterate 4
     try
      first
       |refine wpAny_take (i:=5) (v:=(.pointer (some ⟨q,0,none⟩))) rfl (by kernel_rfl) (by decide +kernel) (by decide +kernel) (λ_ _ _ h=>h) (Or.inl ⟨by rfl,λw=>by go_simp⟩) ?_
       |refine wpAny_take (i:=2) (v:=(.pointer (some ⟨b,0,none⟩))) rfl (by kernel_rfl) (by decide +kernel) (by decide +kernel) (λ_ _ _ h=>h) (Or.inl ⟨by rfl,λw=>by go_simp⟩) ?_
       |refine wpAny_take (i:=3) (v:=(.pointer (some ⟨b,0,none⟩))) rfl (by kernel_rfl) (by decide +kernel) (by decide +kernel) (λ_ _ _ h=>h) (Or.inl ⟨by rfl,λw=>by go_simp⟩) ?_
       |refine wpAny_take (i:=8) (v:=(.pointer (some ⟨b,0,none⟩))) rfl (by kernel_rfl) (by decide +kernel) (by decide +kernel) (λ_ _ _ h=>h) (Or.inl ⟨by rfl,λw=>by go_simp⟩) ?_
       |refine wpAny_take (i:=9) (v:=(.pointer (some ⟨b,0,none⟩))) rfl (by kernel_rfl) (by decide +kernel) (by decide +kernel) (λ_ _ _ h=>h) (Or.inl ⟨by rfl,λw=>by go_simp⟩) ?_
   all_goals first
    |(refine wpAny_done (by decide +kernel) ?_ _;exact aR.o _ _ _ pQ.o vP.o gG.o)
    |refine CU (rs:=[10]) (by decide +kernel) (by simp) ?_
    |refine CU (rs:=[7]) (by decide +kernel) (by simp) ?_
    |refine CU (rs:=[4]) (by decide +kernel) (by simp) ?_
    |refine CU (rs:=[6]) (by decide +kernel) (by simp) ?_
    |refine CU (rs:=[0,7]) (by decide +kernel) (by simp) ?_
    |refine CU (rs:=[0]) (by decide +kernel) (by simp) ?_
    |refine CU (rs:=[4,6]) (by decide +kernel) (by simp) ?_
    |refine CU (rs:=[1]) (by decide +kernel) (by simp) ?_
    |refine CU (rs:=[0,4]) (by decide +kernel) (by simp) ?_
    |refine CU (rs:=[0,1,6]) (by decide +kernel) (by simp) ?_
    |refine CU (rs:=[1,6]) (by decide +kernel) (by simp) ?_
    |refine CU (rs:=[0,4,6]) (by decide +kernel) (by simp) ?_
    |refine CU (rs:=[0,6]) (by decide +kernel) (by simp) ?_
    |refine CU (rs:=[0,1]) (by decide +kernel) (by simp) ?_
   all_goals first
    |refine AllReady.cons rfl (λK hK=>?_) AllReady.nil
    |refine AllReady.cons rfl (λK hK=>?_) (AllReady.cons rfl (λK hK=>?_) AllReady.nil)
    |refine AllReady.cons rfl (λK hK=>?_) (AllReady.cons rfl (λK hK=>?_) (AllReady.cons rfl (λK hK=>?_) AllReady.nil))
   all_goals first
    |((refine step_append_lies _ (by rfl) _ _ _ (by rfl) B 75 i0 _ 1 8 underlying130 bK cj bS bC rfl (by decide) _ L1.length (L1.map PK) (by rfl) az.o ⟨W.heap.size,0,none⟩ 1 1 [.pointer (some ⟨q,0,none⟩)] rfl rfl dJ.o (by intro u hu;simp at hu;subst hu;rfl) (by omega) (by unfold maxLen;omega) (by omega) (by simp;omega) _ rfl ?_;intro g6 c6 w6 dF ae bz uw;have jz:=(ar.alloc (w:=W.drew) bc.o (.cells #[.pointer (some ⟨q,0,none⟩)] 75)).grown ae vp.o;have f1:w6.cell? ⟨b,0,none⟩=some v1:=(jz.cell 0).trans (by simp[gP]);have f2:w6.frozen? ⟨b,0,none⟩=false:=jz.frozen 0;have f3:=jz.lt;have f4:w6.cell? ⟨w.heap.size,0,none⟩=some (.pointer (some ⟨b,0,none⟩)):=((ar.alloc (w:=W.drew) nF.o (.cells #[.pointer (some ⟨q,0,none⟩)] 75)).grown ae vm.o).cell 0;have pQ:=EP dF;have vP:=EP ae;have gG:=EP bz;clear dF ae bz jz);(try go_simp);refine hK _ _ ?_;clear hK K)
    |(go_simp;refine hK _ _ ?_;clear hK K)
end
section
open Go.RowKit Lx Tx Go.Maps Go.WideMaps
inductive Km (G:Nat->Option Nd) (hd:Nat->Nat):Nat->Nat->Prop
 |refl (p:Nat):Km G hd p p
 |step (p q k:Nat) (x:Nd):Km G hd p q->G q=some x->k∈x.kids->Km G hd p (hd k)
structure Gr (G:Nat->Option Nd) (hd:Nat->Nat) (L:List Nat):Prop where
 KX:∀q x,G q=some x->∀k∈x.kids,∃y,G k=some y
 Fw:∀q x,G q=some x->∃y,G (hd q)=some y
 IX:∀q,hd (hd q)=hd q
 all:∀q x,G q=some x->q∈L
def wg(G:Nat->Option Nd)(Vs:List Nat):List Nat->Nat
 |[]=>0
 |q::l=>(if q∈Vs then 0 else match G q with|some x=>x.kids.length+1|none=>0)+wg G Vs l
theorem zkL(G:Nat->Option Nd)(q:Nat)(Vs:List Nat):(L:List Nat)->wg G (q::Vs) L<=wg G Vs L
 |[]=>BU _
 |a::l=>by
  have:=zkL G q Vs l;unfold wg;by_cases h:a∈Vs
  ·rw[Ch (Cf _ h),Ch h];omega
  ·rw[Cg h]
   split <;> omega
theorem Sk(G:Nat->Option Nd)(q:Nat)(Vs:List Nat)(x:Nd)(hx:G q=some x)(hq:q∉Vs):(L:List Nat)->q∈L->wg G (q::Vs) L+(x.kids.length+1)<=wg G Vs L
 |[],h=>(CI h).elim
 |a::l,h=>by
  unfold wg;by_cases e:a=q
  ·subst e
   rw[Ch Cs,Cg hq,hx];have:=zkL G a Vs l;show 0+wg G (a::Vs) l+(x.kids.length+1)<=x.kids.length+1+wg G Vs l;omega
  ·have hl:q∈l:=by
    rcases Cd.1 h with h|h
    ·exact(e h.symm).elim
    ·exact h
   have:=Sk G q Vs x hx hq l hl;by_cases hv:a∈Vs
   ·rw[Ch (Cf _ hv),Ch hv];omega
   ·rw[Cg hv,Cg (by rw[Cd];rintro(h|h);exact e h;exact hv h)];omega
structure L8 (G:Nat->Option Nd) (hd:Nat->Nat) (p:Nat) (Vs EX:List Nat):Prop where
 hv:∀q∈Vs,∃x,G q=some x
 rv:∀q∈Vs,Km G hd (hd p) q
 ks:∀j∈EX,(∃y,G j=some y)/\Km G hd (hd p) (hd j)
 cl:∀q∈Vs,∀x,G q=some x->∀k∈x.kids,hd k∈Vs\/∃j∈EX,hd j=hd k
 rt:hd p∈Vs\/∃j∈EX,hd j=hd p
theorem L8.start {G:Nat->Option Nd} {hd:Nat->Nat} {p:Nat} {y:Nd}(h:G p=some y):L8 G hd p [] [p] where
 hv q h:=(CI h).elim
 rv q h:=(CI h).elim
 ks j hj:=by rw[Cx]at hj;subst hj;exact⟨⟨y,h⟩,.refl _⟩
 cl q h:=(CI h).elim
 rt:=.inr ⟨p,Cx.2 rfl,rfl⟩
theorem L8.skip {G:Nat->Option Nd} {hd:Nat->Nat} {p:Nat} {Vs l:List Nat} {j:Nat}(h:L8 G hd p Vs (l++[j]))(hj:hd j∈Vs):L8 G hd p Vs l where
 hv:=h.hv
 rv:=h.rv
 ks i hi:=h.ks i (CZ _ hi)
 cl q hq x hx k hk:=by
  rcases h.cl q hq x hx k hk with h1|⟨i,hi,e⟩
  ·exact .inl h1
  ·rcases Cr.1 hi with hi|hi
   ·exact .inr ⟨i,hi,e⟩
   ·rw[Cx]at hi
    rw[<-e,hi];exact .inl hj
 rt:=by
  rcases h.rt with h1|⟨i,hi,e⟩
  ·exact .inl h1
  ·rcases Cr.1 hi with hi|hi
   ·exact .inr ⟨i,hi,e⟩
   ·rw[Cx]at hi
    rw[<-e,hi];exact .inl hj
theorem L8.visit {G:Nat->Option Nd} {hd:Nat->Nat} {p:Nat} {L Vs l:List Nat} {j:Nat} {x:Nd}(g:Gr G hd L)(h:L8 G hd p Vs (l++[j]))(hx:G (hd j)=some x):L8 G hd p (hd j::Vs) (l++x.kids.reverse) where
 hv q hq:=by
  rcases Cd.1 hq with e|hq
  ·rw[e];exact⟨x,hx⟩
  ·exact h.hv q hq
 rv q hq:=by
  rcases Cd.1 hq with e|hq
  ·rw[e];exact(h.ks j (CP _ (Cx.2 rfl))).2
  ·exact h.rv q hq
 ks i hi:=by
  rcases Cr.1 hi with hi|hi
  ·exact h.ks i (CZ _ hi)
  ·rw[DT]at hi
   exact⟨g.KX _ x hx i hi,.step _ _ _ x (h.ks j (CP _ (Cx.2 rfl))).2 hx hi⟩
 cl q hq y hy k hk:=by
  rcases Cd.1 hq with e|hq
  ·rw[e,hx]at hy
   injection hy with hy;subst hy;exact .inr ⟨k,CP _ (DT.2 hk),rfl⟩
  ·rcases h.cl q hq y hy k hk with h1|⟨i,hi,e⟩
   ·exact .inl (Cf _ h1)
   ·rcases Cr.1 hi with hi|hi
    ·exact .inr ⟨i,CZ _ hi,e⟩
    ·rw[Cx]at hi
     rw[<-e,hi];exact .inl Cs
 rt:=by
  rcases h.rt with h1|⟨i,hi,e⟩
  ·exact .inl (Cf _ h1)
  ·rcases Cr.1 hi with hi|hi
   ·exact .inr ⟨i,CZ _ hi,e⟩
   ·rw[Cx]at hi
    rw[<-e,hi];exact .inl Cs
theorem L8.done {G:Nat->Option Nd} {hd:Nat->Nat} {p:Nat} {Vs:List Nat}(h:L8 G hd p Vs [])(q:Nat):q∈Vs↔Km G hd (hd p) q:=by
 refine⟨h.rv q,λhr=>?_⟩;have hp:hd p∈Vs:=by
  rcases h.rt with h1|⟨i,hi,_⟩
  ·exact h1
  ·exact(CI hi).elim
 generalize hd p=r at hp hr;induction hr with
 |refl=>exact hp
 |step q k x _ hx hk ih =>
  rcases h.cl q ih x hx k hk with h1|⟨i,hi,_⟩
  ·exact h1
  ·exact(CI hi).elim
theorem zkM {w:World} {B:Nat} {e:TypeId} {v:Value} {l:List Nat} {x:Nat}(h:w.ownsRow B e 1 v (l++[x]).length ((l++[x]).map PK)):∃g cap,v=.slice (some ⟨g,0,none⟩) (l++[x]).length cap/\w.ownsRow B e 1 (.slice (some ⟨g,0,none⟩) l.length cap) l.length (l.map PK):=by
 obtain⟨h0,⟨_,h1⟩|⟨g,cap,cur,hv,h1,h2,h3,h4,h5,h6⟩⟩:=h
 ·simp at h1
 ·refine⟨g,cap,hv,by simp,.inr ⟨g,cap,cur,rfl,h1,h2,?_,h4,h5,?_⟩⟩
  ·rw[Cb]at h3;simp at h3;omega
  ·rw[Dn,Cb]at h6
   have:=Cp (List.take l.length) h6;rw[List.take_take,List.take_left' (by simp)]at this;rw[<-this];congr 1
   simp
theorem znv {W:World} {B st:Nat} {v:Value} {l:List Nat}(hb:ar W st 195 #[v])(ho:W.ownsRow B 75 1 v l.length (l.map PK))(hl:l.length<=5000000000000):∃A c,v=.slice A l.length c/\OY W st l A c:=by
 obtain⟨h0,⟨hv,h1⟩|⟨g,cap,cur,hv,h1,h2,h3,h4,h5,h6⟩⟩:=ho
 ·refine⟨none,0,by rw[hv,h1],by rw[h1,<-hv];exact hb.cell 0,hb.frozen 0,hb.lt,by omega,hl,λhn=>?_⟩
  exact(hn (Cn h1)).elim
 ·refine⟨some ⟨g,0,none⟩,cap,hv,by rw[<-hv];exact hb.cell 0,hb.frozen 0,hb.lt,h3,hl,λ_=>⟨g,rfl,λj q hq=>?_⟩⟩
  rw[cell_of_row W g j cur _ (0,0) h2];have hj:j<l.length:=(Cj.1 hq).1;have:(cur.toList.take (l.length*1))[j]?=some (PK q):=by rw[h6,CT,hq];rfl
  rw[List.getElem?_take,Ch (by omega),DG]at this;exact this
end
section
open Go.RowKit Go.Shelf Lx Tx Go.Maps Go.WideMaps
attribute [local go_sem] Oper.semAt_some
def dV(D:Nat->Dy)(S:Int)(Vs:List Nat):Nat->Dy:=λq=>if q∈Vs then { D q with sr:=S } else D q
structure OW (b mk bo bu ba bn st e3 e5:Nat) (G:Nat->Option Nd) (D:Nat->Dy):Prop where
 b:b<st
 mp:mk<st
 bo:bo<st
 bu:bu<st
 ba:ba<st
 bn:bn<st
 e3:e3<st
 e5:e5<st
 gl:∀q x,G q=some x->q<st
 rl:∀q x,G q=some x->x.kids≠[]->(D q).row<st
structure Hd (b mk u bo bu ba bn e3 e5:Nat) (S:Int) (c0 c1 c2:Value) (G:Nat->Option Nd) (D:Nat->Dy) (hd:Nat->Nat) (Vs Vn:List Nat) (W:World):Prop where
 sb:ar W b 85 #[c0,c1,c2,.map (some mk),.int .i64 S]
 kn:∃K',Gl W mk K' hd
 pd:l_ W G (dV D S Vs)
 nt:Il W bo bu ba bn u (decide (u∈Vn)) (Vn.any λq=>(G q).any λx=>decide (x.kd=5)) (Vn.any λq=>(G q).any λx=>x.new)
 b3:ar W e3 72 #[.pointer (some ⟨b,0,none⟩)]
 b5:ar W e5 227 #[.func (.func 158) #[] #[.pointer (some ⟨bo,0,none⟩),.pointer (some ⟨bu,0,none⟩),.pointer (some ⟨ba,0,none⟩),.pointer (some ⟨bn,0,none⟩)]]
theorem znw(D:Nat->Dy)(S:Int)(Vs:List Nat)(q:Nat):(dV D S Vs q).row=(D q).row:=by
 unfold dV;split <;> rfl
section
variable {b mk u bo bu ba bn st e3 e5:Nat} {S:Int} {c0 c1 c2:Value} {G:Nat->Option Nd} {D:Nat->Dy} {hd:Nat->Nat} {Vs Vn:List Nat} {W W':World}
theorem Hd.al(l:OW b mk bo bu ba bn st e3 e5 G D)(h:Hd b mk u bo bu ba bn e3 e5 S c0 c1 c2 G D hd Vs Vn W)(hb:Below st W W')(hl:∀x,e_ W x->e_ W' x):Hd b mk u bo bu ba bn e3 e5 S c0 c1 c2 G D hd Vs Vn W' where
 sb:=h.sb.below hb l.b
 kn:=by obtain⟨K',hk⟩:=h.kn;exact⟨K',hk.al (hb.block _ l.mp) hl⟩
 pd:=h.pd.but (λq x hx=>hb.block _ (l.gl q x hx)) (λq x hx hn=>by rw[znw];exact hb.block _ (l.rl q x hx hn))
 nt:=h.nt.al (hb.block _ l.bo) (hb.block _ l.bu) (hb.block _ l.ba) (hb.block _ l.bn)
 b3:=h.b3.below hb l.e3
 b5:=h.b5.below hb l.e5
theorem Hd.head(h:Hd b mk u bo bu ba bn e3 e5 S c0 c1 c2 G D hd Vs Vn W)(hc:b_ (only mk) W W')(hk:∃K',Gl W' mk K' hd):Hd b mk u bo bu ba bn e3 e5 S c0 c1 c2 G D hd Vs Vn W':=by
 obtain⟨K,hK⟩:=h.kn;have ai:∀(g:Nat) (cs:Array Value) (t:TypeId),W.heap[g]?=some (.cells cs t (0,0))->W'.heap[g]?=W.heap[g]?:=λg cs t hg=>hc.block g (BV.1 hg).1 (λe=>by
  have e:g=mk:=e;rw[e]at hg;exact d_.no hK.mp hg)
 refine⟨h.sb.same (ai _ _ _ h.sb),hk,?_,h.nt.al (ai _ _ _ h.nt.o) (ai _ _ _ h.nt.u) (ai _ _ _ h.nt.a) (ai _ _ _ h.nt.n),h.b3.same (ai _ _ _ h.b3),h.b5.same (ai _ _ _ h.b5)⟩;exact h.pd.same λk hl ⟨cs,t,hx⟩=>ai k cs t hx
theorem tR.mark {w:World} {p:Nat} {x:Nd} {d:Dy}(h:tR w p x d)(s:Int):tR (w.setCell ⟨p,8,none⟩ (.int .i64 s)) p x { d with sr:=s }:=by
 obtain⟨A,c,hb,hr⟩:=h;refine⟨A,c,Cl w p 8 _ _ (.int .i64 s) hb,λhk=>?_⟩;obtain⟨e,cur,hc,hq⟩:=hr hk;exact⟨e,cur,(B8 _ _ _ _ (ar.Gw (show ar w d.row _ cur from hc) hb (by decide))).trans hc,hq⟩
theorem tR.ne {w:World} {p q:Nat} {x y:Nd} {d e:Dy}(h:tR w p x d)(k:tR w q y e)(hk:x.kids≠[]):d.row≠q:=by
 obtain⟨A,c,hb,hr⟩:=h;obtain⟨_,_,aV,_⟩:=k;obtain⟨_,cur,hc,_⟩:=hr hk;exact ar.Gw (show ar w d.row _ cur from hc) aV (by decide)
theorem tR.RD {w:World} {p g:Nat} {x:Nd} {d:Dy} {t:TypeId} {cs:Array Value}(h:tR w p x d)(k:ar w g t cs)(ht:t≠132):g≠p:=by
 obtain⟨A,c,hb,_⟩:=h;exact ar.Gw k hb ht
theorem e_.setCell {w:World} {x:Nat}(h:e_ w x)(g o:Nat)(v:Value):e_ (w.setCell ⟨g,o,none⟩ v) x:=by
 obtain⟨cs,hx⟩:=h;by_cases e:x=g
 ·subst e
  exact⟨_,Cl w x o _ _ v hx⟩
 ·exact⟨cs,(B8 _ _ _ _ e).trans hx⟩
theorem Hd.mark(h:Hd b mk u bo bu ba bn e3 e5 S c0 c1 c2 G D hd Vs Vn W) {q:Nat} {x:Nd}(hx:G q=some x):Hd b mk u bo bu ba bn e3 e5 S c0 c1 c2 G D hd (q::Vs) Vn (W.setCell ⟨q,8,none⟩ (.int .i64 S)):=by
 have hq:=h.pd q x hx;have ai:∀g t cs,ar W g t cs->t≠132->(W.setCell ⟨q,8,none⟩ (.int .i64 S)).heap[g]?=W.heap[g]?:=λg t cs hg ht=>B8 _ _ _ _ (hq.RD hg ht);obtain⟨K,hK⟩:=h.kn;refine⟨h.sb.same (ai _ _ _ h.sb (by decide)),⟨K,hK.al (B8 _ _ _ _ λe=>by obtain⟨_,_,hb,_⟩:=hq;have e:mk=q:=e;rw[<-e]at hb;exact d_.no hK.mp hb) (λy hy=>hy.setCell _ _ _)⟩,?_,
  h.nt.al (ai _ _ _ h.nt.o (by decide)) (ai _ _ _ h.nt.u (by decide)) (ai _ _ _ h.nt.a (by decide)) (ai _ _ _ h.nt.n (by decide)),h.b3.same (ai _ _ _ h.b3 (by decide)),h.b5.same (ai _ _ _ h.b5 (by decide))⟩
 intro r y hy;have hr:=h.pd r y hy;by_cases e:r=q
 ·subst e
  have:=hr.mark S;unfold dV at this ⊢;rw[Ch Cs];by_cases hv:r∈Vs
  ·rw[Ch hv]at this;exact this
  ·rw[Cg hv]at this;exact this
 ·have jO:dV D S (q::Vs) r=dV D S Vs r:=by
   unfold dV;by_cases hv:r∈Vs
   ·rw[Ch hv,Ch (Cf _ hv)]
   ·rw[Cg hv,Cg (by rw[Cd];rintro(h|h);exact e h;exact hv h)]
  rw[jO];exact hr.al (B8 _ _ _ _ e) (λhk=>B8 _ _ _ _ (hr.ne hq hk))
theorem Hd.note(h:Hd b mk u bo bu ba bn e3 e5 S c0 c1 c2 G D hd Vs Vn W) {q:Nat} {x:Nd}(hx:G q=some x)(hc:b_ (λg=>g=bo\/g=ba\/g=bn) W W')
  (hn:Il W' bo bu ba bn u (decide (u∈Vn)||decide (q=u)) ((Vn.any λq=>(G q).any λx=>decide (x.kd=5))||decide (x.kd=5)) ((Vn.any λq=>(G q).any λx=>x.new)||x.new))(hl:∀y,e_ W y->e_ W' y):Hd b mk u bo bu ba bn e3 e5 S c0 c1 c2 G D hd Vs (q::Vn) W':=by
 have ai:∀g t cs,ar W g t cs->t≠4->W'.heap[g]?=W.heap[g]?:=λg t cs hg ht=>hc.block g hg.lt (by
  rintro(e|e|e)
  ·exact ar.Gw hg h.nt.o ht e
  ·exact ar.Gw hg h.nt.a ht e
  ·exact ar.Gw hg h.nt.n ht e)
 obtain⟨K,hK⟩:=h.kn;refine⟨h.sb.same (ai _ _ _ h.sb (by decide)),⟨K,hK.al (hc.block _ (d_.lt hK.mp) (by
  rintro(e|e|e)
  ·exact d_.no hK.mp (e▸h.nt.o)
  ·exact d_.no hK.mp (e▸h.nt.a)
  ·exact d_.no hK.mp (e▸h.nt.n))) hl⟩,?_,?_,h.b3.same (ai _ _ _ h.b3 (by decide)),h.b5.same (ai _ _ _ h.b5 (by decide))⟩
 ·intro r y hy
  obtain⟨A,c,hb,hr⟩:=h.pd r y hy;refine tR.al ⟨A,c,hb,hr⟩ (ai _ _ _ hb (by decide)) (λhk=>?_);obtain⟨_,cur,aa,_⟩:=hr hk;exact ai _ _ cur aa (by decide)
 ·have e1:decide (u∈q::Vn)=(decide (u∈Vn)||decide (q=u)):=by
   rw[DM];simp;constructor
   ·rintro(e|e)
    ·exact .inr e.symm
    ·exact .inl e
   ·rintro(e|e)
    ·exact .inr e
    ·exact .inl e.symm
  rw[e1,List.any_cons,List.any_cons,hx,Bool.or_comm (Option.any _ _) _,Bool.or_comm (Option.any _ _) _];exact hn
end
attribute [local go_sem] Oper.semAt_some
def II(b mk u bo bu ba bn st e3 e5 B p:Nat)(S:Int)(c0 c1 c2:Value)(G:Nat->Option Nd)(D:Nat->Dy)(hd:Nat->Nat)(L:List Nat)(w:World)(N:Nat)(top EX:List Nat)(W:World):Prop :=
 ∃Vs v,L8 G hd p Vs (EX++top)/\N=(EX++top).length+wg G Vs L/\N<=2000000000000/\Hd b mk u bo bu ba bn e3 e5 S c0 c1 c2 G D hd Vs Vs W /\
  ar W st 195 #[v]/\W.ownsRow B 75 1 v EX.length (EX.map PK)/\b_ (λg=>g=mk\/g=b\/(∃x,G g=some x)\/g=bo\/g=ba\/g=bn) w W
theorem II.F2 {b mk u bo bu ba bn st e3 e5 B p:Nat} {S:Int} {c0 c1 c2:Value} {G:Nat->Option Nd} {D:Nat->Dy} {hd:Nat->Nat} {L:List Nat} {w:World}(l:OW b mk bo bu ba bn st e3 e5 G D) {N:Nat} {top EX:List Nat} {lp:Nat}(h1:st<=lp)(h2:w.heap.size<=lp):Ip lp (II b mk u bo bu ba bn st e3 e5 B p S c0 c1 c2 G D hd L w N top EX):=λW r r' h hl=>by
 obtain⟨Vs,v,wP,hN,hM,hv,hs,ho,hc⟩:=h;have hb:Below st W (W.putObj lp (.loop r')):=⟨rfl,rfl,rfl,by rw[Dq];exact BU _,λg hg=>CC (by omega)⟩;refine⟨Vs,v,wP,hN,hM,hv.al l hb (λx hx=>by obtain⟨cs,hx⟩:=hx;exact⟨cs,(Lo hl x ⟨_,_,hx⟩).trans hx⟩),hs.same (Lo hl st ⟨_,_,hs⟩),GF ho (λg hg=>?_),hc.putObj _ _ h2⟩;obtain⟨_,_,cur,aa⟩:=s_ ho g hg;exact Lo hl g ⟨_,_,aa⟩
theorem zlX(b mk p u bo bu ba bn:Nat)(s:Int)(c0 c1 c2:Value)(G:Nat->Option Nd)(D:Nat->Dy)(K:Nat->Option Nat)(hd:Nat->Nat)(L:List Nat)(w:World)
  (hb:ar w b 85 #[c0,c1,c2,.map (some mk),.int .i64 s])(hk:Gl w mk K hd)(bH:l_ w G D)(hg:Gr G hd L)(fI:∀q x,G q=some x->(D q).sr<=s)(y:Nd)(hp:G p=some y)
  (hn:Il w bo bu ba bn u false false false)(h1:bo≠ba)(h2:bo≠bn)(h3:ba≠bn)(yu:Nd)(hu:G u=some yu)(hw:1+wg G [] L<=2000000000000)(gI:0<=s)(hs:s<5000000000000):Calls prog 157 #[.pointer (some ⟨b,0,none⟩),.pointer (some ⟨p,0,none⟩),.func (.func 158) #[] #[.pointer (some ⟨bo,0,none⟩),.pointer (some ⟨bu,0,none⟩),.pointer (some ⟨ba,0,none⟩),.pointer (some ⟨bn,0,none⟩)]] w λe w'=>(∃x,e=.returned x) /\
   ∃Vs e3 e5,(∀q,q∈Vs↔Km G hd (hd p) q)/\Hd b mk u bo bu ba bn e3 e5 (s+1) c0 c1 c2 G D hd Vs Vs w'/\b_ (λg=>g=mk\/g=b\/(∃x,G g=some x)\/g=bo\/g=ba\/g=bn) w w':=by
 refine(callsIn_wide (n:=10)).1 ?_;refine callsIn_of_wp_marks func157 rfl trivial ?_ rfl;simp only[ntmps157,CY,Ca,CR,Nat.reduceAdd,Nat.reduceSub,Df,De,Dl,Dh,Cu,Co];have a8:=hb.lt;have ai:∀g cs t,ar w g t cs->g≠mk:=λg cs t hg e=>by rw[e]at hg;exact d_.no hk.mp hg
 have eK:mk<w.heap.size:=d_.lt hk.mp;obtain⟨w1,bX⟩:∃W,w.setCell ⟨b,4,none⟩ (.int .i64 (s+1))=W:=⟨_,rfl⟩;have aH:w1.heap.size=w.heap.size:=by rw[<-bX];exact World.size_setCell _ _ _
 obtain⟨l0,l1,ls2,cF⟩:=IC w1 (.cells #[.pointer (some ⟨b,0,none⟩)] 72) (.cells #[.func (.func 158) #[] #[.pointer (some ⟨bo,0,none⟩),.pointer (some ⟨bu,0,none⟩),.pointer (some ⟨ba,0,none⟩),.pointer (some ⟨bn,0,none⟩)]] 227);obtain⟨w2,dw⟩:∃W,(w1.alloc (.cells #[.pointer (some ⟨b,0,none⟩)] 72)).alloc (.cells #[.func (.func 158) #[] #[.pointer (some ⟨bo,0,none⟩),.pointer (some ⟨bu,0,none⟩),.pointer (some ⟨ba,0,none⟩),.pointer (some ⟨bn,0,none⟩)]] 227)=W:=⟨_,rfl⟩;rw[dw]at l0 l1 ls2 cF;have e2:w2.heap.size=w.heap.size+1+1:=by omega
 rw[aH]at l0 l1;obtain⟨m0,m1,ms2,Th⟩:=IC w2 (.cells #[.slice none 0 0] 195) (.cells #[.pointer (some ⟨p,0,none⟩)] 75);obtain⟨w5,be⟩:∃W,(w2.alloc (.cells #[.slice none 0 0] 195)).alloc (.cells #[.pointer (some ⟨p,0,none⟩)] 75)=W:=⟨_,rfl⟩;rw[be]at m0 m1 ms2 Th;rw[e2]at m0 m1;have bV:=R8 (w.heap.size+1+1) (w.heap.size+1+1+1) 195 #[.slice none 0 0] (by decide) [] [p] (.slice none 0 0) (some ⟨w.heap.size+1+1+1,0,none⟩) 1 w5 m0 (CM _ _ _ _) (by omega) (by simp[Value.ownBlock]) (by simp) (λj q hq=>by
  rw[List.getElem?_singleton]at hq;split at hq
  ·rename_i hj
   injection hq with hq;subst hj hq;exact⟨w.heap.size+1+1+1,rfl,by omega,by omega,by simp[Value.ownBlock],(show ar w5 (w.heap.size+1+1+1) _ _ from m1).cell 0⟩
  ·cases hq)
 rw[<-be,<-dw,<-bX]at bV;have ed:=EP bV;clear bV;have z3:((w.alloc (.cells #[.pointer (some ⟨b,0,none⟩)] 72)).alloc (.cells #[.func (.func 158) #[] #[.pointer (some ⟨bo,0,none⟩),.pointer (some ⟨bu,0,none⟩),.pointer (some ⟨ba,0,none⟩),.pointer (some ⟨bn,0,none⟩)]] 227)).cell? ⟨b,4,none⟩=some (.int .i64 s):=(ar.alloc (ar.alloc hb _) _).cell 4;have zf:w.frozen? ⟨b,4,none⟩=false:=hb.frozen 4;have fm:=EP bX;have xg:=EP dw;have HW5:=EP be;have fQ:=EP l0;have iq:=EP l1;have Yw:=EP m0;clear bX dw be l0 l1 m0 m1;gi_wp2;refine⟨trivial,?_⟩;refine((callsIn_wide (n:=9)).2 ed.o).mono ?_;rintro e w6 ⟨⟨v0,rfl⟩,Mg⟩;rw[fm.o,xg.o,HW5.o]at Mg;gi_wp2
 have hL:OW b mk bo bu ba bn (w.heap.size+1+1) w.heap.size (w.heap.size+1) G D:=⟨by omega,by omega,by have:=hn.o.lt;omega,by have:=hn.u.lt;omega,by have:=hn.a.lt;omega,by have:=hn.n.lt;omega,by omega,by omega,λq x hx=>by have:=(bH q x hx).lt;omega,λq x hx hk=>by have:=(bH q x hx).Jw hk;omega⟩;obtain⟨v6,a1,a2,-,-,-,a6⟩:=Mg;have dS:=a6.size;have xK:Below (w.heap.size+1+1) w2 w6:=(Th.mono (by omega)).trans (a6.toBelow (by omega) (λk hk h=>by rcases h with h|h;omega;cases h));have k1:∀g,g<w.heap.size->g≠b->w6.heap[g]?=w.heap[g]?:=λg hg mS=>(xK.block g (by omega)).trans ((cF.block g (by omega)).trans (by rw[<-fm.o];exact B8 _ _ _ _ mS));have hdV:dV D (s+1) []=D:=by funext q;unfold dV;rw[Cg CI]
 have hv6:Hd b mk u bo bu ba bn w.heap.size (w.heap.size+1) (s+1) c0 c1 c2 G D hd [] [] w6:=by
  refine⟨?_,⟨K,hk.al (k1 mk eK (ai b _ _ hb).symm) (λx hx=>?_)⟩,?_,?_,?_,?_⟩
  ·have:ar w1 b 85 #[c0,c1,c2,.map (some mk),.int .i64 (s+1)]:=by rw[<-fm.o];exact Cl w b 4 _ _ _ hb
   exact(this.below cF (by omega)).below xK (by omega)
  ·obtain⟨cs,hx⟩:=hx
   exact⟨cs,(k1 x (BV.1 hx).1 (ar.Gw (show ar w x _ cs from hx) hb (by decide))).trans hx⟩
  ·rw[hdV]
   intro q x hx;obtain⟨A,c,hq,hr⟩:=bH q x hx;refine tR.al ⟨A,c,hq,hr⟩ (k1 q hq.lt (ar.Gw hq hb (by decide))) (λhn=>?_);obtain⟨_,cur,hc,_⟩:=hr hn;exact k1 _ (BV.1 hc).1 (ar.Gw (show ar w _ _ cur from hc) hb (by decide))
  ·have:=hn.al (w':=w6) (k1 bo hn.o.lt (ar.Gw hn.o hb (by decide))) (k1 bu hn.u.lt (ar.Gw hn.u hb (by decide))) (k1 ba hn.a.lt (ar.Gw hn.a hb (by decide))) (k1 bn hn.n.lt (ar.Gw hn.n hb (by decide)))
   simpa using this
  ·exact ar.below (show ar w2 _ _ _ from fQ.o) xK (by omega)
  ·exact ar.below (show ar w2 _ _ _ from iq.o) xK (by omega)
 have h0:II b mk u bo bu ba bn (w.heap.size+1+1) w.heap.size (w.heap.size+1) (w.heap.size+1+1+1) p (s+1) c0 c1 c2 G D hd L w (1+wg G [] L) [] [p] w6:=by
  refine⟨[],v6,?_,rfl,hw,hv6,a1,a2,?_⟩
  ·exact L8.start hp
  ·refine((((b_.refl _ w).setCell (p:=⟨b,4,none⟩) (.inr (.inr (.inl rfl))) _).trans' (fm.o▸b_.c_ cF) (λ_ _ h=>h)).Jz Th (by omega)).trans' a6 (λi hi h=>?_)
   rcases h with h|h
   ·omega
   ·cases h
 have HL:=EP hL;have H0:=EP h0;have HG:=EP hg;have Yg:=EP fI;have dO:Hid (w.heap.size+1+1+1+1<=w6.heap.size):=EP (by omega);have xr:Hid (bo≠ba/\bo≠bn/\ba≠bn):=EP ⟨h1,h2,h3⟩;have HU:=EP hu;have bQ:=EP hw;clear hL h0 hv6 hdV k1 xK dS a1 a2 a6 hg fI hb hk bH hp hn h1 h2 h3 hu hw ai eK a8 aH ls2 cF e2 ms2 Th z3 zf fm xg HW5 fQ iq Yw ed;obtain⟨bg,pC⟩:∃n,w.heap.size+1+1=n:=⟨_,rfl⟩;rw[pC]at HL H0 dO ⊢;refine P5 (σ:=Nat × Nat × List Nat) rfl (by omega) (gf:=120) (fb:=#[.pointer (some ⟨bg,0,none⟩)]) (lb:=#[]) rfl trivial (enters_of func120 (by kernel_rfl) rfl)
  (λx=>#[.pointer (some ⟨x.2.1,0,none⟩)]) (λ_=>rfl)
  (λx W=>II b mk u bo bu ba bn bg w.heap.size (w.heap.size+1) (bg+1) p (s+1) c0 c1 c2 G D hd L w x.1 [x.2.1] x.2.2 W)
  (λx W=>∃N' l',N'<x.1/\II b mk u bo bu ba bn bg w.heap.size (w.heap.size+1) (bg+1) p (s+1) c0 c1 c2 G D hd L w N' [] l' W)
  (λx a₁ W=>II b mk u bo bu ba bn bg w.heap.size (w.heap.size+1) (bg+1) p (s+1) c0 c1 c2 G D hd L w x.1 [x.2.1] x.2.2 W/\a₁ = { tmps:=#[.pointer (some ⟨b,0,none⟩),.pointer (some ⟨p,0,none⟩),
   .func (.func 158) #[] #[.pointer (some ⟨bo,0,none⟩),.pointer (some ⟨bu,0,none⟩),.pointer (some ⟨ba,0,none⟩),.pointer (some ⟨bn,0,none⟩)],.pointer (some ⟨w.heap.size,0,none⟩),undef,.pointer (some ⟨w.heap.size+1,0,none⟩),
   .pointer (some ⟨bg,0,none⟩),.pointer (some ⟨x.2.1,0,none⟩),.pointer (some ⟨b,0,none⟩),.pointer (some ⟨b,0,none⟩),.pointer (some ⟨b,4,none⟩),.int .i64 s,.int .i64 (s+1),.pointer (some ⟨b,0,none⟩),.pointer (some ⟨b,4,none⟩),.pointer (some ⟨p,0,none⟩),
   .slice (some ⟨bg+1,0,none⟩) 1 1,v0,.func (.func 120) #[.pointer (some ⟨bg,0,none⟩)] #[],.pointer (some ⟨x.2.1,0,none⟩),undef,undef,undef,undef,undef,undef,undef,undef,undef,undef,undef,undef,undef,undef,undef,undef,undef,undef,undef,undef,undef,undef,undef,undef,undef,undef,undef],defers:=[] })
  (λW=>∃N,II b mk u bo bu ba bn bg w.heap.size (w.heap.size+1) (bg+1) p (s+1) c0 c1 c2 G D hd L w N [] [] W) (λ_ _=>False)
  (λx a₁ W r r' h hl=>⟨II.F2 HL.o (by have:=dO.o;omega) (by have:=dO.o;omega) W r r' h.1 hl,h.2⟩)
  (λx W r r' h hl=>by obtain⟨N',l',af,h⟩:=h;exact⟨N',l',af,II.F2 HL.o (by have:=dO.o;omega) (by have:=dO.o;omega) W r r' h hl⟩)
  (λW r r' h hl=>by obtain⟨N,h⟩:=h;exact⟨N,II.F2 HL.o (by have:=dO.o;omega) (by have:=dO.o;omega) W r r' h hl⟩) (λ_ _ _ _ h _=>h) ?assign ?body ?iter ?done ?stop
 case assign =>
  intro r x W hj hl;have HJ:=EP hj;have gT:=EP hl;clear hj hl;gi_wp2;exact⟨gT.o,HJ.o,trivial⟩
 case stop=>intro c W h;exact h.elim
 case done =>
  intro W hj hD;have HJ:=EP hj;have HD:=EP hD;clear hj hD;gi_wp2;refine⟨by simp,.inl ⟨_,_,rfl,run_takeDeferred HD.o,?_⟩⟩;refine⟨_,CQ rfl _ _ _,⟨_,rfl⟩,?_⟩;obtain⟨N,Vs,v,h1,-,-,h4,-,-,h7⟩:=HJ.o;have hle:=dO.o;have hb:Below bg W (W.putObj w6.heap.size (.deferred none)):=⟨rfl,rfl,rfl,by rw[Dq];exact BU _,λg hg=>CC (by omega)⟩;exact⟨Vs,_,_,λq=>h1.done q,h4.al HL.o hb (λx hx=>by obtain⟨cs,hx⟩:=hx;exact⟨cs,(CC λe=>by rw[e,HD.o]at hx;cases hx).trans hx⟩),h7.putObj _ _ (by omega)⟩
 case iter =>
  intro rec W1 av aH cR hY;have sZ:II b mk u bo bu ba bn bg w.heap.size (w.heap.size+1) (bg+1) p (s+1) c0 c1 c2 G D hd L w (1+wg G [] L) [] [p] W1:=by
   obtain⟨Vs,v,h1,h2,h3,h4,h5,h6,h7⟩:=H0.o;have hle:=dO.o;exact⟨Vs,v,h1,h2,h3,h4.al HL.o (av.mono (by omega)) (λx hx=>by obtain⟨cs,hx⟩:=hx;exact⟨cs,(av.block x (BV.1 hx).1).trans hx⟩),h5.below av (by omega),GF h6 (λg hg=>av.block g (s_ h6 g hg).2.1),h7.below av⟩
  refine(zij Fence.wide (10-1) trivial rfl (by omega) (w6.heap.size+1) bg (λN l W=>II b mk u bo bu ba bn bg w.heap.size (w.heap.size+1) (bg+1) p (s+1) c0 c1 c2 G D hd L w N [] l W/\i_ (rec .ready none) (w6.heap.size+1) w6.heap.size W)
   (λN x l W=>II b mk u bo bu ba bn bg w.heap.size (w.heap.size+1) (bg+1) p (s+1) c0 c1 c2 G D hd L w N [x] l W/\i_ (rec .ready none) (w6.heap.size+1) w6.heap.size W) (λ_=>False) (λN l W h=>?_) (λN x l W h=>?_) W1 _ _ ⟨sZ,cR⟩).mono ?_
  ·obtain⟨⟨Vs,v,h1,h2,h3,h4,h5,h6,h7⟩,mM⟩:=h
   rw[CJ]at h1 h2;obtain⟨A,c,rfl,aW⟩:=znv h5 h6 (by omega);refine⟨A,c,aW,λx l' e=>?_⟩;subst e;obtain⟨g,cap,zt,ho⟩:=zkM h6;injection zt with e1 _ e2;subst e1 e2;have hle:=dO.o;have ai:=HL.o.e5;have Zj:g≠bg:=λe=>by
    obtain⟨hB,_⟩:=s_ ho g rfl;omega
   refine⟨⟨Vs,_,h1,h2,h3,h4.al HL.o ((Cc _ W).setCell (p:=⟨bg,0,none⟩) (BU _) _) (λy hy=>hy.setCell _ _ _),Cl W bg 0 _ _ _ h5,ownsRow_setCell_other (a:=⟨bg,0,none⟩) ho (λe=>Zj (by simpa[Value.ownBlock] using e)) _,h7.setCell (p:=⟨bg,0,none⟩) (.inl (by show w.heap.size<=bg;omega)) _⟩,mM.setCell ⟨bg,0,none⟩ _ (by show bg≠_;omega) (by show bg≠_;omega)⟩
  ·refine(hY (N,x,l) W h.1 h.2).mono ?_
   intro e W' hs;rcases hs with⟨h1,⟨N',l',af,h2⟩,h3⟩|⟨_,_,h2,_⟩
   ·exact .inl ⟨h1,N',l',af,h2,h3⟩
   ·exact h2.elim
  ·rintro e W' ⟨hv,⟨N,hj,hl⟩|h⟩
   ·exact⟨hv,.inl ⟨⟨N,hj⟩,hl⟩⟩
   ·exact h.elim
 case body =>
  have sB:prog.follows .mixedOrders=true:=by kernel_rfl
  rintro r ⟨N,x,l⟩ a₁ W ⟨⟨Vs,v,Xl,hN,Ag,hv,aW,aj,lT⟩,rfl⟩ hl;obtain⟨K0,hK⟩:=hv.kn;obtain⟨⟨y,hy⟩,hrx⟩:=Xl.ks x (CP _ (Cx.2 rfl));have jx:=R9 b mk K0 hd x W c0 c1 c2 (.int .i64 (s+1)) hv.sb hK (hv.pd x y hy).laid;have z3:W.cell? ⟨w.heap.size,0,none⟩=some (.pointer (some ⟨b,0,none⟩)):=hv.b3.cell 0;have lz:w.heap.size<W.heap.size:=hv.b3.lt;have ir:=EP jx;have HDF:=EP Xl;have HN:=EP hN;have Yr:=EP Ag;have HV:=EP hv;have dv:=EP aW;have az:=EP aj;have p8:=EP lT;have gT:=EP hl;have HY:=EP hy;clear jx Xl hN Ag hv aW aj lT hl hK hrx hy;gi_wp2;refine⟨trivial,?_⟩;refine(CallsIn.inRound _ ((callsIn_wide (n:=_)).2 ir.o)).mono ?_;rintro e W1 ⟨rfl,K1,aU,bj,aH,ku⟩;have di:=HV.o.head bj ⟨K1,aU⟩;obtain⟨y1,lE⟩:=HG.o.Fw x y HY.o;have eK:=HL.o.mp;have hle:=dO.o;have cR:i_ r (w6.heap.size+1) w6.heap.size W1:=gT.o.al (bj.block _ gT.o.lt.1 (λe=>by have e:w6.heap.size+1=mk:=e;omega)) (bj.block _ gT.o.lt.2 (λe=>by have e:w6.heap.size=mk:=e;omega));have yc:ar W1 bg 195 #[v]:=dv.o.same (bj.block bg dv.o.lt (λe=>by have e:bg=mk:=e;omega));have jt:=GF az.o (λg hg=>bj.block g (s_ az.o g hg).2.1 (λe=>by have e:g=mk:=e;have:=(s_ az.o g hg).1;omega));have mT:=p8.o.trans' bj (λi _ h=>.inl h);obtain⟨q,hq⟩:∃q,hd x=q:=⟨_,rfl⟩;rw[hq]at lE ⊢;obtain⟨A1,Ub,av,bm⟩:=di.pd q y1 lE;have f8:W1.cell? ⟨q,8,none⟩=some (.int .i64 (dV D (s+1) Vs q).sr):=av.cell 8;have g4:W1.cell? ⟨b,4,none⟩=some (.int .i64 (s+1)):=di.sb.cell 4;have g3:W1.cell? ⟨w.heap.size,0,none⟩=some (.pointer (some ⟨b,0,none⟩)):=di.b3.cell 0;have lq:=av.lt;have lb:=di.sb.lt;have l3:=di.b3.lt;have fO:=EP di;have iq:=EP cR;have rK:=EP yc;have cP:=EP jt;have pZ:=EP mT;have nQ:=EP lE;have HQ:=EP hq;have bc:=EP av;have bW:=EP bm;clear di cR yc jt mT lE hq av bm aU bj aH ku z3 lz eK hle;by_cases P_:q∈Vs
  ·have e8:(dV D (s+1) Vs q).sr=s+1:=by unfold dV;rw[Ch P_]
   rw[e8]at f8;have Yl:=EP P_;clear e8 P_;gi_wp2;refine zcF (Tb (by kernel_rfl)) (λ_ _ h=>h) (by kernel_rfl) (by kernel_rfl) ?_;repeat (quiet_step (fail))
   refine wpQuiet_nil ?_;intro _ xR;obtain⟨nq,tD⟩:=xR;subst tD;obtain⟨Wd,pA⟩:∃X,W1.drewN nq=X:=⟨_,rfl⟩;have gQ:Below W1.heap.size W1 Wd:=by rw[<-pA];exact EW (Cc _ _) _
   have qO:∀g:Nat,Wd.heap[g]?=W1.heap[g]?:=λg=>by rw[<-pA];rfl
   have o8:b_ (λg=>g=mk\/g=b\/(∃x,G g=some x)\/g=bo\/g=ba\/g=bn) w Wd:=by rw[<-pA];exact pZ.o.drewN _
   have cZ:bg<=W1.heap.size:=by have:=rK.o.lt;omega
   rw[pA];clear pA f8 g4 g3 lq lb l3;have HX:=EP gQ;have AN:=EP qO;have HXC:=EP o8;clear gQ qO o8;gi_wp2;have bZ:Hd b mk u bo bu ba bn w.heap.size (w.heap.size+1) (s+1) c0 c1 c2 G D hd Vs Vs Wd:=fO.o.al HL.o (HX.o.mono cZ) (λy hy=>by obtain⟨cs,hy⟩:=hy;exact⟨cs,(AN.o y).trans hy⟩);refine⟨⟨l.length+wg G Vs L,l,?_,Vs,v,?_,?_,?_,bZ,rK.o.same (AN.o _),GF cP.o (λg _=>AN.o g),HXC.o⟩,iq.o.al (AN.o _) (AN.o _)⟩
   ·have:=HN.o;rw[Cb]at this;simp at this;show _<N;omega
   ·rw[CJ];exact HDF.o.skip (by rw[HQ.o];exact Yl.o)
   ·rw[CJ]
   ·have:=HN.o;have:=Yr.o;rw[Cb]at *;simp at *;omega
  ·have e8:((dV D (s+1) Vs q).sr==s+1)=false:=by
    have:(dV D (s+1) Vs q).sr<=s:=by unfold dV;rw[Cg P_];exact Yg.o q y1 nQ.o
    rw[Cz];intro e;simp at e;omega
   obtain⟨sq,hsq⟩:∃sq,(dV D (s+1) Vs q).sr=sq:=⟨_,rfl⟩;rw[hsq]at e8 f8;have Yl:=EP P_;clear P_ hsq;gi_wp2;refine zcF (Tb (by kernel_rfl)) (λ_ _ h=>h) (by kernel_rfl) (by kernel_rfl) ?_;repeat (quiet_step (fail))
   refine wpQuiet_nil ?_;intro _ xR;obtain⟨nq,tD⟩:=xR;subst tD;obtain⟨Wd,pA⟩:∃X,W1.drewN nq=X:=⟨_,rfl⟩;have gQ:Below W1.heap.size W1 Wd:=by rw[<-pA];exact EW (Cc _ _) _
   have qO:∀g:Nat,Wd.heap[g]?=W1.heap[g]?:=λg=>by rw[<-pA];rfl
   have o8:b_ (λg=>g=mk\/g=b\/(∃x,G g=some x)\/g=bo\/g=ba\/g=bn) w Wd:=by rw[<-pA];exact pZ.o.drewN _
   have cZ:bg<=W1.heap.size:=by have:=rK.o.lt;omega
   have tE:=fO.o.al HL.o (gQ.mono cZ) (λy hy=>by obtain⟨cs,hy⟩:=hy;exact⟨cs,(qO y).trans hy⟩);have x9:ar Wd bg 195 #[v]:=rK.o.same (qO _);have oA:=GF cP.o (λg _=>qO g);have hld:i_ r (w6.heap.size+1) w6.heap.size Wd:=iq.o.al (qO _) (qO _);rw[pA];clear pA f8 g4 g3 lq lb l3 gQ qO;obtain⟨Ad,cd,gQ,-⟩:=tE.pd q y1 nQ.o;have iI:Wd.frozen? ⟨q,8,none⟩=false:=gQ.frozen 8;have f8:Wd.cell? ⟨q,8,none⟩=some (.int .i64 (dV D (s+1) Vs q).sr):=gQ.cell 8;have g4:Wd.cell? ⟨b,4,none⟩=some (.int .i64 (s+1)):=tE.sb.cell 4;have g3:Wd.cell? ⟨w.heap.size,0,none⟩=some (.pointer (some ⟨b,0,none⟩)):=tE.b3.cell 0;have lq:=gQ.lt;have lb:=tE.sb.lt;have l3:=tE.b3.lt;obtain⟨w2,dw⟩:∃W,Wd.setCell ⟨q,8,none⟩ (.int .i64 (s+1))=W:=⟨_,rfl⟩;have fg:Hd b mk u bo bu ba bn w.heap.size (w.heap.size+1) (s+1) c0 c1 c2 G D hd (q::Vs) Vs w2:=by
    rw[<-dw];exact tE.mark nQ.o
   have tS:=HL.o.gl q y1 nQ.o;have hle:=dO.o;have k2:∀g,g≠q->w2.heap[g]?=Wd.heap[g]?:=λg hg=>by rw[<-dw];exact B8 Wd _ _ _ hg
   have ez:i_ r (w6.heap.size+1) w6.heap.size w2:=hld.al (k2 _ (by omega)) (k2 _ (by omega));have yb:ar w2 bg 195 #[v]:=x9.same (k2 _ (by omega));have aL:=GF oA (λg hg=>k2 g (by have:=(s_ oA g hg).1;omega));have pg:b_ (λg=>g=mk\/g=b\/(∃x,G g=some x)\/g=bo\/g=ba\/g=bn) w w2:=by
    rw[<-dw];exact o8.setCell (p:=⟨q,8,none⟩) (.inr (.inr (.inr (.inl ⟨y1,nQ.o⟩)))) _
   have g5:w2.cell? ⟨w.heap.size+1,0,none⟩=some (.func (.func 158) #[] #[.pointer (some ⟨bo,0,none⟩),.pointer (some ⟨bu,0,none⟩),.pointer (some ⟨ba,0,none⟩),.pointer (some ⟨bn,0,none⟩)]):=fg.b5.cell 0;have l5:w.heap.size+1<w2.heap.size:=fg.b5.lt;have oH:=zq3 bo bu ba bn u q _ _ _ y1 _ w2 fg.nt (fg.pd q y1 nQ.o) (fg.pd u yu HU.o).laid xr.o.1 xr.o.2.1 xr.o.2.2;rw[<-dw]at oH g5 l5;have tg:=EP oH;have l7:=EP fg;have vL:=EP ez;have vw:=EP yb;have bB:=EP aL;have pY:=EP pg;have ZP:=EP dw;clear fg tS hle k2 ez yb aL pg oH dw gQ tE x9 oA hld o8 cZ
   ·gi_wp2
    refine⟨trivial,?_⟩;refine(CallsIn.inRound _ ((callsIn_wide (n:=_)).2 tg.o)).mono ?_;rintro e W3 ⟨⟨ve,rfl⟩,sA,kQ,dy⟩;rw[ZP.o]at kQ dy;clear tg f8 g4 g3 g5 l5 iI lq lb l3;have wu:=l7.o.note nQ.o kQ sA (λy hy=>by
     obtain⟨cs,hy⟩:=hy;refine⟨cs,(kQ.block y (BV.1 hy).1 (λh=>?_)).trans hy⟩;rcases h with h|h|h
     ·exact ar.Gw (show ar w2 y _ cs from hy) l7.o.nt.o (by decide) h
     ·exact ar.Gw (show ar w2 y _ cs from hy) l7.o.nt.a (by decide) h
     ·exact ar.Gw (show ar w2 y _ cs from hy) l7.o.nt.n (by decide) h)
    have TF:=HL.o.bo;have jP:=HL.o.ba;have mV:=HL.o.bn;have hle:=dO.o;have TZ:=vw.o.lt;have k3:∀g,g<w2.heap.size->bg<=g->W3.heap[g]?=w2.heap[g]?:=λg hg hs=>kQ.block g hg (by omega);have iH:i_ r (w6.heap.size+1) w6.heap.size W3:=vL.o.al (k3 _ vL.o.lt.1 (by omega)) (k3 _ vL.o.lt.2 (by omega));have tM:ar W3 bg 195 #[v]:=vw.o.same (k3 _ vw.o.lt (by omega));have an:=GF bB.o (λg hg=>k3 g (s_ bB.o g hg).2.1 (by have:=(s_ bB.o g hg).1;omega));have pc:=pY.o.trans' kQ (λi _ h=>.inr (.inr (.inr h)));obtain⟨A3,Ua,jA,gZ⟩:=wu.pd q y1 nQ.o;have xQ:=Sk G q Vs y1 nQ.o Yl.o L (HG.o.all q y1 nQ.o);have TU:=HN.o;have ZA:=Yr.o;rw[Cb]at TU
    simp only[Ca,CR]at TU;have bV:=R8 bg (bg+1) 195 #[v] (by simp) l y1.kids v A3 Ua W3 tM an (by have:=dy;omega) (λe=>by have:=(s_ an _ e).1;omega) (by omega) (λj k hk=>by
     obtain⟨e1,cur,aa,hq⟩:=gZ (λh=>by rw[h]at hk;simp at hk);rw[znw]at e1 aa;have gY:=HL.o.rl q y1 nQ.o (λh=>by rw[h]at hk;simp at hk);exact⟨_,e1,by omega,by omega,λe=>by have:=(s_ an _ e).1;omega,(cell_of_row W3 _ j cur _ (0,0) aa).trans (hq j k hk)⟩)
    have h4:W3.cell? ⟨q,4,none⟩=some (.slice A3 y1.kids.length Ua):=jA.cell 4;have lq3:=jA.lt;have ed:=EP bV;have Yc:=EP wu;have xx:=EP iH;have vu:=EP tM;have mc:=EP an;have vS:=EP pc;have HWV:=EP xQ;have xw:=EP TU;clear bV wu iH tM an pc xQ TU ZA jA gZ k3 sA kQ dy TF jP mV hle TZ;gi_wp2;refine⟨trivial,?_⟩;refine(CallsIn.inRound _ ((callsIn_wide (n:=_)).2 ed.o)).mono ?_;rintro e W4 ⟨⟨ve2,rfl⟩,v4,d1,d2,-,-,-,d6⟩;have hle:=dO.o;have dy:=vu.o.lt;have aI:Below bg W3 W4:=d6.toBelow (by omega) (λk hk h=>by
     rcases h with h|h
     ·omega
     ·have:=(s_ mc.o _ h).1;omega)
    have sF:∀y,e_ W3 y->e_ W4 y:=λy hy=>by
     obtain⟨cs,hy⟩:=hy;refine⟨cs,(d6.block y (BV.1 hy).1 (λh=>?_)).trans hy⟩;rcases h with h|h
     ·exact ar.Gw (show ar W3 y _ cs from hy) vu.o (by decide) h
     ·obtain⟨_,_,cur,aa⟩:=s_ mc.o _ h
      exact ar.Gw (show ar W3 y _ cs from hy) (show ar W3 y _ cur from aa) (by decide) rfl
    have lP:∀(g:Nat) (o:Obj),W3.heap[g]?=some o->(∀(cs:Array Value) (t:TypeId),o≠.cells cs t (0,0))->W4.heap[g]?=W3.heap[g]?:=λg o hg ho=>d6.block g (BV.1 hg).1 (λh=>by
     rcases h with h|h
     ·rw[h]at hg
      have:W3.heap[bg]?=_:=vu.o;rw[this]at hg;injection hg with hg;exact ho _ _ hg.symm
     ·obtain⟨_,_,cur,aa⟩:=s_ mc.o _ h
      rw[aa]at hg;injection hg with hg;exact ho _ _ hg.symm)
    have my:=Yc.o.al HL.o aI sF;have oN:i_ r (w6.heap.size+1) w6.heap.size W4:=xx.o.al (lP _ _ xx.o.1 (λ_ _ h=>by cases h)) (lP _ _ xx.o.2 (λ_ _ h=>by cases h));have eR:=vS.o.trans' d6 (λi hi h=>by
     rcases h with h|h
     ·omega
     ·have:=(s_ mc.o _ h).1;omega)
    have vr:=EP my;have HL4:=EP oN;have iO:=EP eR;have nE:=EP d1;have HD2:=EP d2;clear hle dy aI sF lP my oN eR d1 d2 d6;gi_wp2;refine⟨⟨(l++y1.kids.reverse).length+wg G (q::Vs) L,l++y1.kids.reverse,?_,q::Vs,v4,?_,?_,?_,vr.o,nE.o,HD2.o,iO.o⟩,HL4.o⟩
    ·have h1:=HWV.o
     have h2:=xw.o;rw[Cb,DO];show _<N;omega
    ·rw[CJ]
     have:=HDF.o.visit HG.o (x:=y1) (by rw[HQ.o];exact nQ.o);rw[HQ.o]at this;exact this
    ·rw[CJ]
    ·have h1:=HWV.o
     have h2:=xw.o;have h3:=Yr.o;rw[Cb,DO];omega
end
section
open Go.RowKit Lx Tx Go.Maps Go.WideMaps
def Qe(G:Nat->Option Nd)(hd:Nat->Nat)(p:Nat):Prop:=∃q x,Km G hd (hd p) q/\G q=some x/\x.kd=5
def Mr(G:Nat->Option Nd)(hd:Nat->Nat)(p:Nat):Prop:=∃q x,Km G hd (hd p) q/\G q=some x/\x.new=true
def Od(G:Nat->Option Nd)(hd:Nat->Nat)(p u:Nat)(r:Int):Prop :=
 (r=41/\Km G hd (hd p) u)\/(¬Km G hd (hd p) u/\((r=42/\Qe G hd p)\/(¬Qe G hd p/\((r=43/\Mr G hd p)\/(r=0/\¬Mr G hd p)))))
def Ke(b mk u p:Nat)(s:Int)(c0 c1 c2:Value)(G:Nat->Option Nd)(D:Nat->Dy)(hd:Nat->Nat)(w:World)(e:Ending)(w':World):Prop :=
 ∃r Vs,e=.returned (.int .i64 r)/\Od G hd p u r/\ar w' b 85 #[c0,c1,c2,.map (some mk),.int .i64 (s+1)]/\(∃K',Gl w' mk K' hd)/\l_ w' G (dV D (s+1) Vs)/\b_ (λg=>g=mk\/g=b\/∃x,G g=some x) w w'
theorem zlY(b mk p u:Nat)(s:Int)(c0 c1 c2:Value)(G:Nat->Option Nd)(D:Nat->Dy)(K:Nat->Option Nat)(hd:Nat->Nat)(L:List Nat)(w:World)
  (hb:ar w b 85 #[c0,c1,c2,.map (some mk),.int .i64 s])(hk:Gl w mk K hd)(bH:l_ w G D)(hg:Gr G hd L)(fI:∀q x,G q=some x->(D q).sr<=s)(y:Nd)(hp:G p=some y)
  (yu:Nd)(hu:G u=some yu)(hw:1+wg G [] L<=2000000000000)(gI:0<=s)(hs:s<5000000000000):Calls prog 118 #[.pointer (some ⟨b,0,none⟩),.pointer (some ⟨u,0,none⟩),.pointer (some ⟨p,0,none⟩)] w (Ke b mk u p s c0 c1 c2 G D hd w):=by
 obtain⟨l0,l1,l2,l3,dz,dW⟩:=MS w (.cells #[.pointer (some ⟨u,0,none⟩)] 75) (.cells #[.bool false] 4) (.cells #[.bool false] 4) (.cells #[.bool false] 4);obtain⟨w4,fp⟩:∃W,(((w.alloc (.cells #[.pointer (some ⟨u,0,none⟩)] 75)).alloc (.cells #[.bool false] 4)).alloc (.cells #[.bool false] 4)).alloc (.cells #[.bool false] 4)=W:=⟨_,rfl⟩;rw[fp]at l0 l1 l2 l3 dz dW;have yE:l_ w4 G D:=bH.same λk hk _=>dW.block k hk;have tJ:=zlX b mk p u (w.heap.size+1) w.heap.size (w.heap.size+1+1) (w.heap.size+1+1+1) s c0 c1 c2 G D K hd L w4 (hb.below dW hb.lt) (hk.al (dW.block _ (d_.lt hk.mp)) (λx hx=>by obtain⟨cs,hx⟩:=hx;exact⟨cs,(dW.block x (BV.1 hx).1).trans hx⟩))
  yE hg fI y hp ⟨l1,l0,l2,l3⟩ (by omega) (by omega) (by omega) yu hu hw gI hs
 have HGL:Hid (∀q x,G q=some x->q<w.heap.size):=EP λq x hx=>(bH q x hx).lt;have xD:=EP hb.lt;have nU:Hid (mk<w.heap.size):=EP (d_.lt hk.mp);have nF:=EP dW;have gD:=EP dz;rw[<-fp]at tJ
 have AT:=EP tJ;have jf:=EP fp;clear tJ fp l0 l1 l2 l3 yE hb hk bH hg fI hp hu hw dW dz;go_in;go_wp2_with fail;refine AT.o.mono ?_;rintro e w5 ⟨⟨ve,rfl⟩,Vs,e3,e5,LM,hv,hc⟩;rw[jf.o]at hc;have q0:w5.cell? ⟨w.heap.size+1,0,none⟩=some (.bool (decide (u∈Vs))):=hv.nt.o.cell 0;have q1:w5.cell? ⟨w.heap.size+1+1,0,none⟩=some (.bool (Vs.any λq=>(G q).any λx=>decide (x.kd=5))):=hv.nt.a.cell 0;have q2:w5.cell? ⟨w.heap.size+1+1+1,0,none⟩=some (.bool (Vs.any λq=>(G q).any λx=>x.new)):=hv.nt.n.cell 0;have t0:=hv.nt.o.lt;have t1:=hv.nt.a.lt;have t2:=hv.nt.n.lt;have r0:decide (u∈Vs)=true↔Km G hd (hd p) u:=by rw[EM];exact LM u
 have r1:(Vs.any λq=>(G q).any λx=>decide (x.kd=5))=true↔Qe G hd p:=by
  rw[En];constructor
  ·rintro⟨q,hq,h⟩
   cases hx:G q with
   |none=>rw[hx]at h;cases h
   |some x=>rw[hx]at h;exact⟨q,x,(LM q).1 hq,hx,by simpa using h⟩
  ·rintro⟨q,x,hq,hx,h⟩
   exact⟨q,(LM q).2 hq,by rw[hx];simpa using h⟩
 have r2:(Vs.any λq=>(G q).any λx=>x.new)=true↔Mr G hd p:=by
  rw[En];constructor
  ·rintro⟨q,hq,h⟩
   cases hx:G q with
   |none=>rw[hx]at h;cases h
   |some x=>rw[hx]at h;exact⟨q,x,(LM q).1 hq,hx,by simpa using h⟩
  ·rintro⟨q,x,hq,hx,h⟩
   exact⟨q,(LM q).2 hq,by rw[hx];simpa using h⟩
 obtain⟨o,ho⟩:∃o,decide (u∈Vs)=o:=⟨_,rfl⟩;obtain⟨a,ha⟩:∃a,(Vs.any λq=>(G q).any λx=>decide (x.kd=5))=a:=⟨_,rfl⟩;obtain⟨n,hn⟩:∃n,(Vs.any λq=>(G q).any λx=>x.new)=n:=⟨_,rfl⟩;rw[ho]at q0 r0;rw[ha]at q1 r1;rw[hn]at q2 r2;have gS:=EP r0;have bW:=EP r1;have dY:=EP r2;have aR:Hid (∀r:Int,Od G hd p u r->Ke b mk u p s c0 c1 c2 G D hd w (.returned (.int .i64 r)) w5):=EP λr hr =>
  ⟨r,Vs,rfl,hr,hv.sb,hv.kn,hv.pd,(b_.c_ nF.o).trans' hc (λi hi h=>by
   rcases h with h|h|h|h|h|h
   ·exact .inl h
   ·exact .inr (.inl h)
   ·exact .inr (.inr h)
   ·omega
   ·omega
   ·omega)⟩
 clear r0 r1 r2 ho ha hn hv hc LM AT jf;cases o
 ·cases a
  ·cases n
   ·go_wp2_with fail
    go_ret
    exact aR.o 0 (.inr ⟨λh=>D8 (gS.o.2 h),.inr ⟨λh=>D8 (bW.o.2 h),.inr ⟨rfl,λh=>D8 (dY.o.2 h)⟩⟩⟩)
   ·go_wp2_with fail
    go_ret
    exact aR.o 43 (.inr ⟨λh=>D8 (gS.o.2 h),.inr ⟨λh=>D8 (bW.o.2 h),.inl ⟨rfl,dY.o.1 (by trivial)⟩⟩⟩)
  ·go_wp2_with fail
   go_ret
   exact aR.o 42 (.inr ⟨λh=>D8 (gS.o.2 h),.inl ⟨rfl,bW.o.1 (by trivial)⟩⟩)
 ·go_wp2_with fail
  go_ret
  exact aR.o 41 (.inl ⟨rfl,gS.o.1 (by trivial)⟩)
end
section
open Go.RowKit Lx Tx Go.Maps Go.WideMaps
set_option maxRecDepth 100000
theorem Gi.link {K:Nat->Option Nat} {m t:Nat}(hm:K m=none)(ht:K t=none)(ie:m≠t) {z n r:Nat}(h:Gi K z n r):(r=m->Gi (Gn K m (some t)) z (n+1) t)/\(r≠m->Gi (Gn K m (some t)) z n r):=by
 induction h with
 |nil p hp =>
  constructor
  ·intro e
   subst e;exact .step _ t _ _ (Gm _ _ _) (.nil _ (by rw[Fk _ _ _ _ (Et ie)];exact ht))
  ·intro e
   exact .nil _ (by rw[Fk _ _ _ _ e];exact hp)
 |step p q n r hp _ ih =>
  have oz:p≠m:=λe=>by rw[e,hm]at hp;cases hp
  constructor
  ·intro e
   exact .step _ q _ _ (by rw[Fk _ _ _ _ oz];exact hp) (ih.1 e)
  ·intro e
   exact .step _ q _ _ (by rw[Fk _ _ _ _ oz];exact hp) (ih.2 e)
def Hq(hd:Nat->Nat)(m t:Nat):Nat->Nat:=λz=>if hd z=m then t else hd z
theorem Gl.link {w w1:World} {mk:Nat} {K:Nat->Option Nat} {hd:Nat->Nat}(h:Gl w mk K hd) {m t:Nat}(hm:hd m=m)(ht:hd t=t)(ie:m≠t)(Tu:e_ w m)(af:e_ w t)
  (aT:Ms w1 mk (Gn K m (some t)))(hl:∀x,e_ w x->e_ w1 x):Gl w1 mk (Gn K m (some t)) (Hq hd m t) where
 mp:=aT
 rep p:=by
  obtain⟨n,hn⟩:=h.rep p;have hk:=Gi.link ((h.JC m).2 hm) ((h.JC t).2 ht) ie hn;unfold Hq;by_cases e:hd p=m
  ·rw[Ch e];exact⟨_,hk.1 e⟩
  ·rw[Cg e];exact⟨_,hk.2 e⟩
 laid x y hx:=by
  by_cases e:x=m
  ·rw[e,Gm]at hx
   injection hx with hx;rw[e,<-hx]
   exact⟨hl _ Tu,hl _ af⟩
  ·rw[Fk _ _ _ _ e]at hx
   exact⟨hl _ (h.laid x y hx).1,hl _ (h.laid x y hx).2⟩
def Hy(p q:Nat)(x y:Nd):Nat × Nat:=if x.kd≠2\/(y.kd=2/\x.n<y.n) then(q,p) else(p,q)
def FI(b mk m t:Nat)(s:Int)(c0 c1 c2:Value)(G:Nat->Option Nd)(D:Nat->Dy)(hd:Nat->Nat)(w:World)(e:Ending)(w':World):Prop :=
 ∃r Vs,e=.returned (.int .i64 r)/\Od G hd t m r/\ar w' b 85 #[c0,c1,c2,.map (some mk),.int .i64 (s+1)]/\(∃K',Gl w' mk K' (if r=0 then Hq hd m t else hd))/\l_ w' G (dV D (s+1) Vs)/\b_ (λg=>g=mk\/g=b\/∃x,G g=some x) w w'
theorem zpw(b mk p q:Nat)(s:Int)(c0 c1 c2:Value)(G:Nat->Option Nd)(D:Nat->Dy)(K:Nat->Option Nat)(hd:Nat->Nat)(L:List Nat)(w:World)
  (hb:ar w b 85 #[c0,c1,c2,.map (some mk),.int .i64 s])(hk:Gl w mk K hd)(bH:l_ w G D)(hg:Gr G hd L)(fI:∀q x,G q=some x->(D q).sr<=s)(x y:Nd)(hp:G p=some x)(hq:G q=some y)
  (hph:hd p=p)(hqh:hd q=q)(qT:p≠q)(hw:1+wg G [] L<=2000000000000)(gI:0<=s)(hs:s<5000000000000):Calls prog 72 #[.pointer (some ⟨b,0,none⟩),.pointer (some ⟨p,0,none⟩),.pointer (some ⟨q,0,none⟩)] w (FI b mk (Hy p q x y).1 (Hy p q x y).2 s c0 c1 c2 G D hd w):=by
 obtain⟨A,c,p0,-,p2,-,-,-,-⟩:=(bH p x hp).facts;obtain⟨B,c',q0,-,q2,-,-,-,-⟩:=(bH q y hq).facts;have cL:=(bH p x hp).lt;have iU:=(bH q y hq).lt;have mn:Hid (∀(n m t:Nat) (xm xt:Nd),G m=some xm->G t=some xt->Calls prog 118 #[.pointer (some ⟨b,0,none⟩),.pointer (some ⟨m,0,none⟩),.pointer (some ⟨t,0,none⟩)] (w.drewN n) (Ke b mk t m s c0 c1 c2 G D hd (w.drewN n))->True):=EP λ_ _ _ _ _ _ _ _=>trivial;clear mn;have mn:Hid (∀(n m t:Nat) (xm xt:Nd),G m=some xm->G t=some xt->Calls prog 118 #[.pointer (some ⟨b,0,none⟩),.pointer (some ⟨m,0,none⟩),.pointer (some ⟨t,0,none⟩)] (w.drewN n) (Ke b mk m t s c0 c1 c2 G D hd (w.drewN n))) :=
  EP λn m t xm xt hm ht=>zlY b mk t m s c0 c1 c2 G D K hd L (w.drewN n) (hb.drewN n) (hk.al rfl (λ_ h=>h)) (λz xz hz=>(bH z xz hz).al rfl (λ_=>rfl)) hg fI xt ht xm hm hw gI hs
 have du:Hid (∀(m t:Nat) (xm xt:Nd) (Vs:List Nat) (w5 w6:World) (n:Nat) (K':Nat->Option Nat),G m=some xm->G t=some xt->hd m=m->hd t=t->m≠t->Od G hd t m 0->ar w5 b 85 #[c0,c1,c2,.map (some mk),.int .i64 (s+1)]->Gl w5 mk K' hd->l_ w5 G (dV D (s+1) Vs) ->
   b_ (λg=>g=mk\/g=b\/∃x,G g=some x) (w.drewN n) w5->Ms w6 mk (Gn K' m (some t))->w5.grownBy w6 (some mk)->FI b mk m t s c0 c1 c2 G D hd w (.returned (.int .i64 0)) w6):=EP (by
  intro m t xm xt Vs w5 w6 n K' hm ht hmh hth ie eE aQ aM bM bE dI dM;have ai:∀g cs tt,ar w5 g tt cs->w6.heap[g]?=w5.heap[g]?:=λg cs tt hg=>dM.block g hg.lt (λe=>by injection e with e;rw[e]at hg;exact d_.no aM.mp hg);have hl:∀x,e_ w5 x->e_ w6 x:=λx hx=>by obtain⟨cs,hx⟩:=hx;exact⟨cs,(ai x cs _ hx).trans hx⟩
  refine⟨0,Vs,rfl,eE,aQ.same (ai _ _ _ aQ),⟨Gn K' m (some t),?_⟩,bM.same (λk _ ⟨cs,tt,hx⟩=>ai k cs tt hx),?_⟩
  ·rw[Ch rfl]
   exact aM.link hmh hth ie (bM m xm hm).laid (bM t xt ht).laid dI hl
  ·have h1:b_ (λg=>g=mk\/g=b\/∃x,G g=some x) w (w.drewN n):=(b_.refl _ w).drewN n
   exact(h1.trans bE).grown dM (λk hk=>.inr (.inl (by injection hk with hk;exact hk.symm))))
 have aR:Hid (∀(m t:Nat) (r:Int) (Vs:List Nat) (w5:World) (n:Nat),r≠0->Od G hd t m r->ar w5 b 85 #[c0,c1,c2,.map (some mk),.int .i64 (s+1)]->(∃K',Gl w5 mk K' hd)->l_ w5 G (dV D (s+1) Vs) ->
   b_ (λg=>g=mk\/g=b\/∃x,G g=some x) (w.drewN n) w5->FI b mk m t s c0 c1 c2 G D hd w (.returned (.int .i64 r)) w5):=EP (by
  intro m t r Vs w5 n hr eE aQ aM bM bE;have h1:b_ (λg=>g=mk\/g=b\/∃x,G g=some x) w (w.drewN n):=(b_.refl _ w).drewN n;exact⟨r,Vs,rfl,eE,aQ,by rw[Cg hr];exact aM,bM,h1.trans bE⟩)
 have HM:Hid (G p=some x/\G q=some y/\hd p=p/\hd q=q/\p≠q):=EP ⟨hp,hq,hph,hqh,qT⟩;clear hb hk bH hg fI hp hq hph hqh qT hw;obtain⟨kx,nx,zx,lx,cx,wx⟩:=x;obtain⟨ky,ny,zy,ly,cy,wy⟩:=y;simp only at p0 p2 q0 q2;by_cases h2:kx=2
 ·subst h2
  by_cases h3:ky=2
  ·subst h3
   by_cases hn:zx<zy
   ·have hv:Hy p q ⟨2,nx,zx,lx,cx,wx⟩ ⟨2,ny,zy,ly,cy,wy⟩=(q,p):=by unfold Hy;rw[Ch (.inr ⟨rfl,hn⟩)]
    rw[hv];have eX:decide (zx<zy)=true:=CD hn;clear hv hn;go_in;go_wp2_with fail;go_quiet (fail)
    go_wp2_with fail;refine(mn.o nq q p _ _ HM.o.2.1 HM.o.1).mono ?_;rintro e w5 ⟨r,Vs,rfl,eE,aQ,⟨K5,aM⟩,bM,bE⟩;by_cases hr:r=0
    ·subst hr
     obtain⟨w6,aC,dI,dM,dS⟩:=d_.store aM.mp JN underlying83 q p (bM q _ HM.o.2.1).laid;have fe:(Instr.mapUpdate 83 (.map (some mk)) (.pointer (some ⟨q,0,none⟩)) (.pointer (some ⟨p,0,none⟩))).run prog w5=.ok () w6:=aC;have k3:w5.cell? ⟨b,3,none⟩=some (.map (some mk)):=aQ.cell 3;have kl:=aQ.lt;have HF:Hid (FI b mk q p s c0 c1 c2 G D hd w (.returned (.int .i64 0)) w6):=EP (du.o q p _ _ Vs w5 w6 nq K5 HM.o.2.1 HM.o.1 HM.o.2.2.2.1 HM.o.2.2.1 (Et HM.o.2.2.2.2) eE aQ aM bM bE dI dM);clear eE aQ aM bM bE aC dI dM dS mn du aR p0 p2 q0 q2 cL iU;go_wp2_with fail;go_ret
     exact HF.o
    ·have mC:(r==0)=false:=by rw[Cz];intro e;simp at e;exact hr e
     have HF:Hid (FI b mk q p s c0 c1 c2 G D hd w (.returned (.int .i64 r)) w5):=EP (aR.o q p r Vs w5 nq hr eE aQ ⟨K5,aM⟩ bM bE);clear eE aQ aM bM bE hr mn du aR p0 p2 q0 q2 cL iU;go_wp2_with fail;go_ret
     exact HF.o
   ·have hv:Hy p q ⟨2,nx,zx,lx,cx,wx⟩ ⟨2,ny,zy,ly,cy,wy⟩=(p,q):=by unfold Hy;rw[Cg (by simp;omega)]
    rw[hv];have eX:decide (zx<zy)=false:=CF hn;clear hv hn;go_in;go_wp2_with fail;go_quiet (fail)
    go_wp2_with fail;refine(mn.o nq p q _ _ HM.o.1 HM.o.2.1).mono ?_;rintro e w5 ⟨r,Vs,rfl,eE,aQ,⟨K5,aM⟩,bM,bE⟩;by_cases hr:r=0
    ·subst hr
     obtain⟨w6,aC,dI,dM,dS⟩:=d_.store aM.mp JN underlying83 p q (bM p _ HM.o.1).laid;have fe:(Instr.mapUpdate 83 (.map (some mk)) (.pointer (some ⟨p,0,none⟩)) (.pointer (some ⟨q,0,none⟩))).run prog w5=.ok () w6:=aC;have k3:w5.cell? ⟨b,3,none⟩=some (.map (some mk)):=aQ.cell 3;have kl:=aQ.lt;have HF:Hid (FI b mk p q s c0 c1 c2 G D hd w (.returned (.int .i64 0)) w6):=EP (du.o p q _ _ Vs w5 w6 nq K5 HM.o.1 HM.o.2.1 HM.o.2.2.1 HM.o.2.2.2.1 HM.o.2.2.2.2 eE aQ aM bM bE dI dM);clear eE aQ aM bM bE aC dI dM dS mn du aR p0 p2 q0 q2 cL iU;go_wp2_with fail;go_ret
     exact HF.o
    ·have mC:(r==0)=false:=by rw[Cz];intro e;simp at e;exact hr e
     have HF:Hid (FI b mk p q s c0 c1 c2 G D hd w (.returned (.int .i64 r)) w5):=EP (aR.o p q r Vs w5 nq hr eE aQ ⟨K5,aM⟩ bM bE);clear eE aQ aM bM bE hr mn du aR p0 p2 q0 q2 cL iU;go_wp2_with fail;go_ret
     exact HF.o
  ·have hv:Hy p q ⟨2,nx,zx,lx,cx,wx⟩ ⟨ky,ny,zy,ly,cy,wy⟩=(p,q):=by unfold Hy;rw[Cg (by simp[h3])]
   rw[hv];have e2:((ky:Int)==2)=false:=by rw[Cz];intro e;simp at e;omega
   clear hv h3;go_in;go_wp2_with fail;go_quiet (fail)
   go_wp2_with fail;refine(mn.o nq p q _ _ HM.o.1 HM.o.2.1).mono ?_;rintro e w5 ⟨r,Vs,rfl,eE,aQ,⟨K5,aM⟩,bM,bE⟩;by_cases hr:r=0
   ·subst hr
    obtain⟨w6,aC,dI,dM,dS⟩:=d_.store aM.mp JN underlying83 p q (bM p _ HM.o.1).laid;have fe:(Instr.mapUpdate 83 (.map (some mk)) (.pointer (some ⟨p,0,none⟩)) (.pointer (some ⟨q,0,none⟩))).run prog w5=.ok () w6:=aC;have k3:w5.cell? ⟨b,3,none⟩=some (.map (some mk)):=aQ.cell 3;have kl:=aQ.lt;have HF:Hid (FI b mk p q s c0 c1 c2 G D hd w (.returned (.int .i64 0)) w6):=EP (du.o p q _ _ Vs w5 w6 nq K5 HM.o.1 HM.o.2.1 HM.o.2.2.1 HM.o.2.2.2.1 HM.o.2.2.2.2 eE aQ aM bM bE dI dM);clear eE aQ aM bM bE aC dI dM dS mn du aR p0 p2 q0 q2 cL iU;go_wp2_with fail;go_ret
    exact HF.o
   ·have mC:(r==0)=false:=by rw[Cz];intro e;simp at e;exact hr e
    have HF:Hid (FI b mk p q s c0 c1 c2 G D hd w (.returned (.int .i64 r)) w5):=EP (aR.o p q r Vs w5 nq hr eE aQ ⟨K5,aM⟩ bM bE);clear eE aQ aM bM bE hr mn du aR p0 p2 q0 q2 cL iU;go_wp2_with fail;go_ret
    exact HF.o
 ·have hv:Hy p q ⟨kx,nx,zx,lx,cx,wx⟩ ⟨ky,ny,zy,ly,cy,wy⟩=(q,p):=by unfold Hy;rw[Ch (.inl h2)]
  rw[hv];have e2:((kx:Int) != 2)=true:=by rw[bne_iff_ne];omega
  clear hv h2;go_in;go_wp2_with fail;go_quiet (fail)
  go_wp2_with fail;refine(mn.o nq q p _ _ HM.o.2.1 HM.o.1).mono ?_;rintro e w5 ⟨r,Vs,rfl,eE,aQ,⟨K5,aM⟩,bM,bE⟩;by_cases hr:r=0
  ·subst hr
   obtain⟨w6,aC,dI,dM,dS⟩:=d_.store aM.mp JN underlying83 q p (bM q _ HM.o.2.1).laid;have fe:(Instr.mapUpdate 83 (.map (some mk)) (.pointer (some ⟨q,0,none⟩)) (.pointer (some ⟨p,0,none⟩))).run prog w5=.ok () w6:=aC;have k3:w5.cell? ⟨b,3,none⟩=some (.map (some mk)):=aQ.cell 3;have kl:=aQ.lt;have HF:Hid (FI b mk q p s c0 c1 c2 G D hd w (.returned (.int .i64 0)) w6):=EP (du.o q p _ _ Vs w5 w6 nq K5 HM.o.2.1 HM.o.1 HM.o.2.2.2.1 HM.o.2.2.1 (Et HM.o.2.2.2.2) eE aQ aM bM bE dI dM);clear eE aQ aM bM bE aC dI dM dS mn du aR p0 p2 q0 q2 cL iU;go_wp2_with fail;go_ret
   exact HF.o
  ·have mC:(r==0)=false:=by rw[Cz];intro e;simp at e;exact hr e
   have HF:Hid (FI b mk q p s c0 c1 c2 G D hd w (.returned (.int .i64 r)) w5):=EP (aR.o q p r Vs w5 nq hr eE aQ ⟨K5,aM⟩ bM bE);clear eE aQ aM bM bE hr mn du aR p0 p2 q0 q2 cL iU;go_wp2_with fail;go_ret
   exact HF.o
end
section
open Go.RowKit Lx Tx Go.Maps Go.WideMaps
structure JM (b e mk ql qr:Nat) (dn:Bool) (c0 c1 c2 c4:Value) (hd:Nat->Nat) (w W:World):Prop where
 sb:ar W b 85 #[c0,c1,c2,.map (some mk),c4]
 eb:ar W e 78 #[.pointer (some ⟨ql,0,none⟩),.pointer (some ⟨qr,0,none⟩),.bool dn]
 kn:∃K',Gl W mk K' hd
 ll:e_ W ql
 lr:e_ W qr
 hl:e_ W (hd ql)
 hr:e_ W (hd qr)
 ch:b_ (only mk) w W
theorem JM.drew {b e mk ql qr:Nat} {dn:Bool} {c0 c1 c2 c4:Value} {hd:Nat->Nat} {w W:World}(h:JM b e mk ql qr dn c0 c1 c2 c4 hd w W):JM b e mk ql qr dn c0 c1 c2 c4 hd w W.drew :=
 ⟨h.sb,h.eb,by obtain⟨K,hK⟩:=h.kn;exact⟨K,hK.al rfl (λ_ h=>h)⟩,h.ll,h.lr,h.hl,h.hr,h.ch.drew⟩
theorem JM.head {b e mk ql qr:Nat} {dn:Bool} {c0 c1 c2 c4:Value} {hd:Nat->Nat} {w W:World}(h:JM b e mk ql qr dn c0 c1 c2 c4 hd w W)(x:Nat)(hx:e_ W x):Calls prog 71 #[.pointer (some ⟨b,0,none⟩),.pointer (some ⟨x,0,none⟩)] W λr w'=>r=.returned (.pointer (some ⟨hd x,0,none⟩))/\JM b e mk ql qr dn c0 c1 c2 c4 hd w w':=by
 obtain⟨K,hK⟩:=h.kn;refine(R9 b mk K hd x W c0 c1 c2 c4 h.sb hK hx).mono ?_;rintro r w' ⟨rfl,K1,aU,bj,aH,-⟩;have ai:∀g cs t,ar W g t cs->¬only mk g:=λg cs t hg e=>by
  have e:g=mk:=e;rw[e]at hg;exact d_.no hK.mp hg
 exact⟨rfl,h.sb.iF bj (ai _ _ _ h.sb),h.eb.iF bj (ai _ _ _ h.eb),⟨K1,aU⟩,h.ll.iF hK.mp bj,h.lr.iF hK.mp bj,h.hl.iF hK.mp bj,h.hr.iF hK.mp bj,h.ch.trans bj⟩
theorem JM.facts {b e mk ql qr:Nat} {dn:Bool} {c0 c1 c2 c4:Value} {hd:Nat->Nat} {w W:World}(h:JM b e mk ql qr dn c0 c1 c2 c4 hd w W):W.cell? ⟨e,0,none⟩=some (.pointer (some ⟨ql,0,none⟩))/\W.cell? ⟨e,1,none⟩=some (.pointer (some ⟨qr,0,none⟩))/\W.cell? ⟨e,2,none⟩=some (.bool dn)/\e<W.heap.size:=⟨h.eb.cell 0,h.eb.cell 1,h.eb.cell 2,h.eb.lt⟩
theorem zpx(b mk ql qr:Nat)(dn:Bool)(c4:Value)(c0 c1 c2:Value)(K:Nat->Option Nat)(hd:Nat->Nat)(w:World)
  (hb:ar w b 85 #[c0,c1,c2,.map (some mk),c4])(hk:Gl w mk K hd)(hl:e_ w ql)(hr:e_ w qr)(jw:e_ w (hd ql))(jv:e_ w (hd qr))(heq:hd ql=hd qr):Calls prog 36 #[.pointer (some ⟨b,0,none⟩),.agg #[.pointer (some ⟨ql,0,none⟩),.pointer (some ⟨qr,0,none⟩),.bool dn]] w λr w'=>r=.returned (.int .i64 0)/\∃e,JM b e mk ql qr dn c0 c1 c2 c4 hd w w':=by
 have HEQ:=EP heq;clear heq;have eK:mk<w.heap.size:=d_.lt hk.mp;have h1:JM b w.heap.size mk ql qr dn c0 c1 c2 c4 hd w (w.alloc (.cells #[.pointer (some ⟨ql,0,none⟩),.pointer (some ⟨qr,0,none⟩),.bool dn] 78)):=by
  have cJ:∀g,g<w.heap.size->(w.alloc (.cells #[.pointer (some ⟨ql,0,none⟩),.pointer (some ⟨qr,0,none⟩),.bool dn] 78)).heap[g]?=w.heap[g]?:=λg hg=>BX _ _ _ hg;have bD:∀x,e_ w x->e_ (w.alloc (.cells #[.pointer (some ⟨ql,0,none⟩),.pointer (some ⟨qr,0,none⟩),.bool dn] 78)) x:=λx ⟨cs,hx⟩=>⟨cs,(cJ x (BV.1 hx).1).trans hx⟩;exact⟨hb.alloc _,BZ _ _,⟨K,hk.al (cJ _ eK) bD⟩,bD _ hl,bD _ hr,bD _ jw,bD _ jv,(b_.refl _ _).alloc _⟩
 obtain⟨w1,bX⟩:∃W,w.alloc (.cells #[.pointer (some ⟨ql,0,none⟩),.pointer (some ⟨qr,0,none⟩),.bool dn] 78)=W:=⟨_,rfl⟩;rw[bX]at h1;obtain⟨z0,z1,z2,zl⟩:=h1.drew.facts;have fQ:=EP (h1.drew.head ql h1.ll);have gS:=EP (h1.drew.head qr h1.lr);have fm:=EP bX;clear hb hk hl hr jw jv eK h1 bX;go_in;go_upto_region 1 with fail;rw[fm.o];go_cut [5,6] from 7 to 14 (λv5 v6 wx=>v5=.pointer (some ⟨hd ql,0,none⟩)/\v6=.pointer (some ⟨hd qr,0,none⟩)/\Hid (JM b w.heap.size mk ql qr dn c0 c1 c2 c4 hd w wx))
 case first =>
  go_region_law (first
   |(go_simp;(with_reducible refine fQ.o.mono ?_);rintro r w5 ⟨rfl,be⟩;obtain⟨y0,y1,y2,yl⟩:=be.facts;have ei:=EP (be.head qr be.lr);clear be)
   |(go_simp;(with_reducible refine gS.o.mono ?_);rintro r w5 ⟨rfl,be⟩;obtain⟨y0,y1,y2,yl⟩:=be.facts;have pW:=EP (be.head ql be.ll);clear be)
   |(go_simp;(with_reducible refine ei.o.mono ?_);rintro r w6 ⟨rfl,cz⟩;obtain⟨x0,x1,x2,xl⟩:=cz.facts;have jE:=EP cz;clear cz)
   |(go_simp;(with_reducible refine pW.o.mono ?_);rintro r w6 ⟨rfl,cz⟩;obtain⟨x0,x1,x2,xl⟩:=cz.facts;have jE:=EP cz;clear cz))
  all_goals
   go_wp2_with fail;go_meet
   case rel=>exact⟨rfl,rfl,jE⟩
 case rest =>
  rename World=>V0;obtain⟨rfl,rfl,hw⟩:=hcut;have heq:=Ow hw.o.hl hw.o.hr;rw[CD HEQ.o]at heq;go_wp2_with fail;go_ret
  exact⟨rfl,_,hw.o⟩
theorem zpy(b mk ql qr:Nat)(c4:Value)(c0 c1 c2:Value)(K:Nat->Option Nat)(hd:Nat->Nat)(w:World)
  (hb:ar w b 85 #[c0,c1,c2,.map (some mk),c4])(hk:Gl w mk K hd)(hl:e_ w ql)(hr:e_ w qr)(jw:e_ w (hd ql))(jv:e_ w (hd qr))(ai:hd ql≠hd qr):Calls prog 36 #[.pointer (some ⟨b,0,none⟩),.agg #[.pointer (some ⟨ql,0,none⟩),.pointer (some ⟨qr,0,none⟩),.bool true]] w λr w'=>r=.returned (.int .i64 0)/\ar w' b 85 #[c0,c1,c2,.map (some mk),c4]/\(∃K',Gl w' mk K' (Hq hd (hd ql) (hd qr)))/\b_ (only mk) w w':=by
 have eH:=EP ai;have tj:Hid (hd (hd ql)=hd ql/\hd (hd qr)=hd qr):=EP ⟨hk.idem _,hk.idem _⟩;clear ai;have eK:mk<w.heap.size:=d_.lt hk.mp;have h1:JM b w.heap.size mk ql qr true c0 c1 c2 c4 hd w (w.alloc (.cells #[.pointer (some ⟨ql,0,none⟩),.pointer (some ⟨qr,0,none⟩),.bool true] 78)):=by
  have cJ:∀g,g<w.heap.size->(w.alloc (.cells #[.pointer (some ⟨ql,0,none⟩),.pointer (some ⟨qr,0,none⟩),.bool true] 78)).heap[g]?=w.heap[g]?:=λg hg=>BX _ _ _ hg;have bD:∀x,e_ w x->e_ (w.alloc (.cells #[.pointer (some ⟨ql,0,none⟩),.pointer (some ⟨qr,0,none⟩),.bool true] 78)) x:=λx ⟨cs,hx⟩=>⟨cs,(cJ x (BV.1 hx).1).trans hx⟩;exact⟨hb.alloc _,BZ _ _,⟨K,hk.al (cJ _ eK) bD⟩,bD _ hl,bD _ hr,bD _ jw,bD _ jv,(b_.refl _ _).alloc _⟩
 obtain⟨w1,bX⟩:∃W,w.alloc (.cells #[.pointer (some ⟨ql,0,none⟩),.pointer (some ⟨qr,0,none⟩),.bool true] 78)=W:=⟨_,rfl⟩;rw[bX]at h1;obtain⟨z0,z1,z2,zl⟩:=h1.drew.facts;have fQ:=EP (h1.drew.head ql h1.ll);have gS:=EP (h1.drew.head qr h1.lr);have fm:=EP bX;clear hb hk hl hr jw jv eK h1 bX;go_in;go_upto_region 1 with fail;rw[fm.o];go_cut [5,6] from 7 to 14 (λv5 v6 wx=>v5=.pointer (some ⟨hd ql,0,none⟩)/\v6=.pointer (some ⟨hd qr,0,none⟩)/\Hid (JM b w.heap.size mk ql qr true c0 c1 c2 c4 hd w wx))
 case first =>
  go_region_law (first
   |(go_simp;(with_reducible refine fQ.o.mono ?_);rintro r w5 ⟨rfl,be⟩;obtain⟨y0,y1,y2,yl⟩:=be.facts;have ei:=EP (be.head qr be.lr);clear be)
   |(go_simp;(with_reducible refine gS.o.mono ?_);rintro r w5 ⟨rfl,be⟩;obtain⟨y0,y1,y2,yl⟩:=be.facts;have pW:=EP (be.head ql be.ll);clear be)
   |(go_simp;(with_reducible refine ei.o.mono ?_);rintro r w6 ⟨rfl,cz⟩;obtain⟨x0,x1,x2,xl⟩:=cz.facts;have jE:=EP cz;clear cz)
   |(go_simp;(with_reducible refine pW.o.mono ?_);rintro r w6 ⟨rfl,cz⟩;obtain⟨x0,x1,x2,xl⟩:=cz.facts;have jE:=EP cz;clear cz))
  all_goals
   go_wp2_with fail;go_meet
   case rel=>exact⟨rfl,rfl,jE⟩
 case rest =>
  rename World=>V0;obtain⟨rfl,rfl,hw⟩:=hcut;have bR:=hw.o;have heq:=Ow bR.hl bR.hr;rw[CF eH.o]at heq;obtain⟨K5,aM⟩:=bR.kn;obtain⟨w6,aC,dI,dM,dS⟩:=d_.store aM.mp JN underlying83 (hd ql) (hd qr) bR.hl;have fe:(Instr.mapUpdate 83 (.map (some mk)) (.pointer (some ⟨hd ql,0,none⟩)) (.pointer (some ⟨hd qr,0,none⟩))).run prog V0=.ok () w6:=aC;obtain⟨z0,z1,z2,zl⟩:=bR.facts;have k3:V0.cell? ⟨b,3,none⟩=some (.map (some mk)):=bR.sb.cell 3;have kl:=bR.sb.lt;have uc:∀(g:Nat) (cs:Array Value) (t:TypeId),V0.heap[g]?=some (.cells cs t (0,0))->w6.heap[g]?=V0.heap[g]?:=λg cs t hg=>dM.block g (BV.1 hg).1 (λe=>by injection e with e;rw[e]at hg;exact d_.no aM.mp hg);have HF:Hid (ar w6 b 85 #[c0,c1,c2,.map (some mk),c4]/\(∃K',Gl w6 mk K' (Hq hd (hd ql) (hd qr)))/\b_ (only mk) w w6):=EP ⟨bR.sb.same (uc _ _ _ bR.sb),⟨_,aM.link tj.o.1 tj.o.2 eH.o bR.hl bR.hr dI (λx ⟨cs,hx⟩=>⟨cs,(uc x cs _ hx).trans hx⟩)⟩,bR.ch.grown dM (λk hk=>.inr (by injection hk with hk;exact hk.symm))⟩;clear bR aM aC dI dM dS uc hw fQ gS;go_wp2_with fail
  go_ret
  exact⟨rfl,HF.o⟩
end
section
open Go.RowKit Lx Tx Go.Maps Go.WideMaps
set_option maxRecDepth 100000
theorem zpz(b mk ql qr:Nat)(s:Int)(c0 c1 c2:Value)(K:Nat->Option Nat)(hd:Nat->Nat)(w:World)
  (hb:ar w b 85 #[c0,c1,c2,.map (some mk),.int .i64 s])(hk:Gl w mk K hd)(hl:e_ w ql)(hr:e_ w qr)(jw:e_ w (hd ql))(jv:e_ w (hd qr))(G:Nat->Option Nd)(D:Nat->Dy)(L:List Nat)(bH:l_ w G D)(hg:Gr G hd L)(fI:∀q x,G q=some x->(D q).sr<=s)(x y:Nd)(hx:G (hd ql)=some x)(hy:G (hd qr)=some y)(ai:hd ql≠hd qr)(hm:x.kd=2\/y.kd=2)(mw:1+wg G [] L<=2000000000000)(gI:0<=s)(hs:s<5000000000000):Calls prog 36 #[.pointer (some ⟨b,0,none⟩),.agg #[.pointer (some ⟨ql,0,none⟩),.pointer (some ⟨qr,0,none⟩),.bool false]] w (FI b mk (Hy (hd ql) (hd qr) x y).1 (Hy (hd ql) (hd qr) x y).2 s c0 c1 c2 G D hd w):=by
 have eH:=EP ai;have tj:Hid (hd (hd ql)=hd ql/\hd (hd qr)=hd qr):=EP ⟨hk.idem _,hk.idem _⟩;have vD:=EP bH;have bQ:Hid (∀(g:Nat) (cs:Array Value) (t:TypeId),w.heap[g]?=some (.cells cs t (0,0))->¬only mk g):=EP λg cs t hg e=>by
  have e:g=mk:=e;rw[e]at hg;exact d_.no hk.mp hg
 have HX:=EP hx;have HY:=EP hy;have HM:=EP hm;have HG:=EP hg;have Yg:=EP fI;have nj:=EP mw;clear hm hg fI mw;clear ai bH hx hy;have eK:mk<w.heap.size:=d_.lt hk.mp;have h1:JM b w.heap.size mk ql qr false c0 c1 c2 (.int .i64 s) hd w (w.alloc (.cells #[.pointer (some ⟨ql,0,none⟩),.pointer (some ⟨qr,0,none⟩),.bool false] 78)):=by
  have cJ:∀g,g<w.heap.size->(w.alloc (.cells #[.pointer (some ⟨ql,0,none⟩),.pointer (some ⟨qr,0,none⟩),.bool false] 78)).heap[g]?=w.heap[g]?:=λg hg=>BX _ _ _ hg;have bD:∀x,e_ w x->e_ (w.alloc (.cells #[.pointer (some ⟨ql,0,none⟩),.pointer (some ⟨qr,0,none⟩),.bool false] 78)) x:=λx ⟨cs,hx⟩=>⟨cs,(cJ x (BV.1 hx).1).trans hx⟩;exact⟨hb.alloc _,BZ _ _,⟨K,hk.al (cJ _ eK) bD⟩,bD _ hl,bD _ hr,bD _ jw,bD _ jv,(b_.refl _ _).alloc _⟩
 obtain⟨w1,bX⟩:∃W,w.alloc (.cells #[.pointer (some ⟨ql,0,none⟩),.pointer (some ⟨qr,0,none⟩),.bool false] 78)=W:=⟨_,rfl⟩;rw[bX]at h1;obtain⟨z0,z1,z2,zl⟩:=h1.drew.facts;have fQ:=EP (h1.drew.head ql h1.ll);have gS:=EP (h1.drew.head qr h1.lr);have fm:=EP bX;clear hb hk hl hr jw jv eK h1 bX;go_in;go_upto_region 1 with fail;rw[fm.o];go_cut [5,6] from 7 to 14 (λv5 v6 wx=>v5=.pointer (some ⟨hd ql,0,none⟩)/\v6=.pointer (some ⟨hd qr,0,none⟩)/\Hid (JM b w.heap.size mk ql qr false c0 c1 c2 (.int .i64 s) hd w wx))
 case first =>
  go_region_law (first
   |(go_simp;(with_reducible refine fQ.o.mono ?_);rintro r w5 ⟨rfl,be⟩;obtain⟨y0,y1,y2,yl⟩:=be.facts;have ei:=EP (be.head qr be.lr);clear be)
   |(go_simp;(with_reducible refine gS.o.mono ?_);rintro r w5 ⟨rfl,be⟩;obtain⟨y0,y1,y2,yl⟩:=be.facts;have pW:=EP (be.head ql be.ll);clear be)
   |(go_simp;(with_reducible refine ei.o.mono ?_);rintro r w6 ⟨rfl,cz⟩;obtain⟨x0,x1,x2,xl⟩:=cz.facts;have jE:=EP cz;clear cz)
   |(go_simp;(with_reducible refine pW.o.mono ?_);rintro r w6 ⟨rfl,cz⟩;obtain⟨x0,x1,x2,xl⟩:=cz.facts;have jE:=EP cz;clear cz))
  all_goals
   go_wp2_with fail;go_meet
   case rel=>exact⟨rfl,rfl,jE⟩
 case rest =>
  rename World=>V0;obtain⟨rfl,rfl,hw⟩:=hcut;have bR:=hw.o;have heq:=Ow bR.hl bR.hr;rw[CF eH.o]at heq;obtain⟨K5,aM⟩:=bR.kn;obtain⟨z0,z1,z2,zl⟩:=bR.facts;have aX:l_ V0 G D:=vD.o.same λk hk ⟨cs,t,hx⟩=>bR.ch.block k hk (bQ.o k cs t hx);obtain⟨A1,Ub,p0,-,-,-,-,-,-⟩:=(aX _ x HX.o).facts;obtain⟨A2,XI,q0,-,-,-,-,-,-⟩:=(aX _ y HY.o).facts;have lp:=(aX _ x HX.o).lt;have lq:=(aX _ y HY.o).lt;obtain⟨kx,dL⟩:∃k,x.kd=k:=⟨_,rfl⟩;obtain⟨ky,kC⟩:∃k,y.kd=k:=⟨_,rfl⟩;rw[dL]at p0
  rw[kC]at q0;have oO:=zpw b mk (hd ql) (hd qr) s c0 c1 c2 G D K5 hd L V0 bR.sb aM aX HG.o Yg.o x y HX.o HY.o tj.o.1 tj.o.2 eH.o nj.o gI hs;have qz:=EP oO;have p8:=EP bR.ch;have hm:=HM.o;rw[dL,kC]at hm;clear oO bR aM aX hw fQ gS dL kC;by_cases h2:kx=2
  ·have e2:((kx:Int)==2)=true:=by simp[h2]
   clear h2 hm;go_wp2_with fail;refine qz.o.mono ?_;rintro e w5 ⟨r,Vs,rfl,a1,a2,a3,a4,a5⟩;have HF:Hid (FI b mk (Hy (hd ql) (hd qr) x y).1 (Hy (hd ql) (hd qr) x y).2 s c0 c1 c2 G D hd w (.returned (.int .i64 r)) w5):=EP ⟨r,Vs,rfl,a1,a2,a3,a4,(p8.o.mono (λ_ _ h=>.inl h)).trans a5⟩;clear a1 a2 a3 a4 a5 qz;go_wp2_with fail;go_ret
   exact HF.o
  ·have e2:((kx:Int)==2)=false:=by rw[Cz];intro e;simp at e;omega
   have e3:((ky:Int)==2)=true:=by simp;omega
   clear h2 hm;go_wp2_with fail;refine qz.o.mono ?_;rintro e w5 ⟨r,Vs,rfl,a1,a2,a3,a4,a5⟩;have HF:Hid (FI b mk (Hy (hd ql) (hd qr) x y).1 (Hy (hd ql) (hd qr) x y).2 s c0 c1 c2 G D hd w (.returned (.int .i64 r)) w5):=EP ⟨r,Vs,rfl,a1,a2,a3,a4,(p8.o.mono (λ_ _ h=>.inl h)).trans a5⟩;clear a1 a2 a3 a4 a5 qz;go_wp2_with fail;go_ret
   exact HF.o
theorem zpA(b mk ql qr:Nat)(c4:Value)(c0 c1 c2:Value)(K:Nat->Option Nat)(hd:Nat->Nat)(w:World)
  (hb:ar w b 85 #[c0,c1,c2,.map (some mk),c4])(hk:Gl w mk K hd)(hl:e_ w ql)(hr:e_ w qr)(jw:e_ w (hd ql))(jv:e_ w (hd qr))(G:Nat->Option Nd)(D:Nat->Dy)(bH:l_ w G D)(x y:Nd)(hx:G (hd ql)=some x)(hy:G (hd qr)=some y)(ai:hd ql≠hd qr)(hm:x.kd≠2/\y.kd≠2)(ij:F_ x y=false):Calls prog 36 #[.pointer (some ⟨b,0,none⟩),.agg #[.pointer (some ⟨ql,0,none⟩),.pointer (some ⟨qr,0,none⟩),.bool false]] w λr w'=>r=.returned (.int .i64 40)/\ar w' b 85 #[c0,c1,c2,.map (some mk),c4]/\(∃K',Gl w' mk K' hd)/\l_ w' G D/\b_ (only mk) w w':=by
 have eH:=EP ai;have tj:Hid (hd (hd ql)=hd ql/\hd (hd qr)=hd qr):=EP ⟨hk.idem _,hk.idem _⟩;have vD:=EP bH;have bQ:Hid (∀(g:Nat) (cs:Array Value) (t:TypeId),w.heap[g]?=some (.cells cs t (0,0))->¬only mk g):=EP λg cs t hg e=>by
  have e:g=mk:=e;rw[e]at hg;exact d_.no hk.mp hg
 have HX:=EP hx;have HY:=EP hy;have HM:=EP hm;have tm:=EP ij;clear hm ij;clear ai bH hx hy;have eK:mk<w.heap.size:=d_.lt hk.mp;have h1:JM b w.heap.size mk ql qr false c0 c1 c2 c4 hd w (w.alloc (.cells #[.pointer (some ⟨ql,0,none⟩),.pointer (some ⟨qr,0,none⟩),.bool false] 78)):=by
  have cJ:∀g,g<w.heap.size->(w.alloc (.cells #[.pointer (some ⟨ql,0,none⟩),.pointer (some ⟨qr,0,none⟩),.bool false] 78)).heap[g]?=w.heap[g]?:=λg hg=>BX _ _ _ hg;have bD:∀x,e_ w x->e_ (w.alloc (.cells #[.pointer (some ⟨ql,0,none⟩),.pointer (some ⟨qr,0,none⟩),.bool false] 78)) x:=λx ⟨cs,hx⟩=>⟨cs,(cJ x (BV.1 hx).1).trans hx⟩;exact⟨hb.alloc _,BZ _ _,⟨K,hk.al (cJ _ eK) bD⟩,bD _ hl,bD _ hr,bD _ jw,bD _ jv,(b_.refl _ _).alloc _⟩
 obtain⟨w1,bX⟩:∃W,w.alloc (.cells #[.pointer (some ⟨ql,0,none⟩),.pointer (some ⟨qr,0,none⟩),.bool false] 78)=W:=⟨_,rfl⟩;rw[bX]at h1;obtain⟨z0,z1,z2,zl⟩:=h1.drew.facts;have fQ:=EP (h1.drew.head ql h1.ll);have gS:=EP (h1.drew.head qr h1.lr);have fm:=EP bX;clear hb hk hl hr jw jv eK h1 bX;go_in;go_upto_region 1 with fail;rw[fm.o];go_cut [5,6] from 7 to 14 (λv5 v6 wx=>v5=.pointer (some ⟨hd ql,0,none⟩)/\v6=.pointer (some ⟨hd qr,0,none⟩)/\Hid (JM b w.heap.size mk ql qr false c0 c1 c2 c4 hd w wx))
 case first =>
  go_region_law (first
   |(go_simp;(with_reducible refine fQ.o.mono ?_);rintro r w5 ⟨rfl,be⟩;obtain⟨y0,y1,y2,yl⟩:=be.facts;have ei:=EP (be.head qr be.lr);clear be)
   |(go_simp;(with_reducible refine gS.o.mono ?_);rintro r w5 ⟨rfl,be⟩;obtain⟨y0,y1,y2,yl⟩:=be.facts;have pW:=EP (be.head ql be.ll);clear be)
   |(go_simp;(with_reducible refine ei.o.mono ?_);rintro r w6 ⟨rfl,cz⟩;obtain⟨x0,x1,x2,xl⟩:=cz.facts;have jE:=EP cz;clear cz)
   |(go_simp;(with_reducible refine pW.o.mono ?_);rintro r w6 ⟨rfl,cz⟩;obtain⟨x0,x1,x2,xl⟩:=cz.facts;have jE:=EP cz;clear cz))
  all_goals
   go_wp2_with fail;go_meet
   case rel=>exact⟨rfl,rfl,jE⟩
 case rest =>
  rename World=>V0;obtain⟨rfl,rfl,hw⟩:=hcut;have bR:=hw.o;have heq:=Ow bR.hl bR.hr;rw[CF eH.o]at heq;obtain⟨K5,aM⟩:=bR.kn;obtain⟨z0,z1,z2,zl⟩:=bR.facts;have aX:l_ V0 G D:=vD.o.same λk hk ⟨cs,t,hx⟩=>bR.ch.block k hk (bQ.o k cs t hx);obtain⟨A1,Ub,p0,-,-,-,-,-,-⟩:=(aX _ x HX.o).facts;obtain⟨A2,XI,q0,-,-,-,-,-,-⟩:=(aX _ y HY.o).facts;have lp:=(aX _ x HX.o).lt;have lq:=(aX _ y HY.o).lt;obtain⟨kx,dL⟩:∃k,x.kd=k:=⟨_,rfl⟩;obtain⟨ky,kC⟩:∃k,y.kd=k:=⟨_,rfl⟩;rw[dL]at p0
  rw[kC]at q0;have ij:=U3 (hd ql) (hd qr) x y _ _ V0 (aX _ x HX.o) (aX _ y HY.o);rw[tm.o]at ij;have nV:=EP ij;have aR:Hid (∀w5,Below V0.heap.size V0 w5->ar w5 b 85 #[c0,c1,c2,.map (some mk),c4]/\(∃K',Gl w5 mk K' hd)/\l_ w5 G D/\b_ (only mk) w w5):=EP λw5 h5 =>
   ⟨bR.sb.below h5 bR.sb.lt,⟨K5,aM.al (h5.block _ (d_.lt aM.mp)) (λx ⟨cs,hx⟩=>⟨cs,(h5.block x (BV.1 hx).1).trans hx⟩)⟩,aX.same λk hk _=>h5.block k hk,bR.ch.below h5⟩
  have hm:=HM.o;rw[dL,kC]at hm;have e2:((kx:Int)==2)=false:=by rw[Cz];intro e;simp at e;omega
  have e3:((ky:Int)==2)=false:=by rw[Cz];intro e;simp at e;omega
  clear ij bR aM aX hw fQ gS dL kC hm;go_wp2_with fail;refine nV.o.mono ?_;rintro e w5 ⟨rfl,h5,-⟩;have HF:=EP (aR.o w5 h5);clear h5 aR nV p0 q0 lp lq heq z0 z1 z2 zl;go_wp2_with fail;go_ret
  exact⟨rfl,HF.o⟩
end
section
open Go.RowKit Go.Shelf Lx Tx
attribute [local go_sem] Oper.semAt_some
def Gk(b B:Nat)(t:TypeId)(cs:Array Value)(l ids:List tL)(v:Value)(A:Option Addr)(c:Nat)(w:World)(k:Nat)(W:World):Prop :=
 ∃v',ar W b t (cs.setIfInBounds 0 v')/\W.ownsRow B 78 3 v' (l++(ids.drop k).reverse).length (g_ (l++(ids.drop k).reverse))/\(v'.ownBlock=v.ownBlock\/∃g,v'.ownBlock=some g/\w.heap.size+2<=g) /\
  ar W w.heap.size 134 #[.pointer (some ⟨b,0,none⟩)]/\ar W (w.heap.size+1) 74 #[.slice A ids.length c]/\b_ (λg=>g=b\/v.ownBlock=some g) w W
def LA(b B:Nat)(t:TypeId)(cs:Array Value)(l ids:List tL)(v:Value)(A:Option Addr)(c:Nat)(w:World)(k bx:Nat)(W:World):Prop :=
 ∃v',v'.ownBlock≠some bx/\ar W b t (cs.setIfInBounds 0 v')/\W.ownsRow B 78 3 v' (l++(ids.drop k).reverse).length (g_ (l++(ids.drop k).reverse))/\(v'.ownBlock=v.ownBlock\/∃g,v'.ownBlock=some g/\w.heap.size+2<=g) /\
  ar W w.heap.size 134 #[.pointer (some ⟨b,0,none⟩)]/\ar W (w.heap.size+1) 74 #[.slice A ids.length c]/\b_ (λg=>g=b\/v.ownBlock=some g) w W
theorem Gk.al {b B:Nat} {t:TypeId} {cs:Array Value} {l ids:List tL} {v:Value} {A:Option Addr} {c:Nat} {w:World} {k:Nat} {W W':World}(h:Gk b B t cs l ids v A c w k W)(hc:∀g,g<W.heap.size->(∃x y,W.heap[g]?=some (.cells x y (0,0)))->W'.heap[g]?=W.heap[g]?)
  (hC:b_ (λg=>g=b\/v.ownBlock=some g) w W'):Gk b B t cs l ids v A c w k W':=by
 obtain⟨v',h1,h2,h3,h4,h5,h6⟩:=h;refine⟨v',h1.same (hc _ h1.lt ⟨_,_,h1⟩),GF h2 (λg hg=>?_),h3,h4.same (hc _ h4.lt ⟨_,_,h4⟩),h5.same (hc _ h5.lt ⟨_,_,h5⟩),hC⟩;obtain⟨_,hl,cur,aa⟩:=s_ h2 g hg;exact hc g hl ⟨_,_,aa⟩
theorem Gk.F2 {b B:Nat} {t:TypeId} {cs:Array Value} {l ids:List tL} {v:Value} {A:Option Addr} {c:Nat} {w:World} {k lp:Nat}(mM:w.heap.size<=lp):Ip lp (Gk b B t cs l ids v A c w k):=λW r r' h hl =>
 h.al (λg _ hg=>Lo hl g hg) (by obtain⟨_,_,_,_,_,_,h6⟩:=h;exact h6.putObj _ _ mM)
theorem LA.F2 {b B:Nat} {t:TypeId} {cs:Array Value} {l ids:List tL} {v:Value} {A:Option Addr} {c:Nat} {w:World} {k bx lp:Nat}(mM:w.heap.size<=lp):Ip lp (LA b B t cs l ids v A c w k bx):=λW r r' h hl=>by
 obtain⟨v',h0,h1,h2,h3,h4,h5,h6⟩:=h;refine⟨v',h0,h1.same (Lo hl b ⟨_,_,h1⟩),GF h2 (λg hg=>?_),h3,h4.same (Lo hl _ ⟨_,_,h4⟩),h5.same (Lo hl _ ⟨_,_,h5⟩),h6.putObj _ _ mM⟩;obtain⟨_,_,cur,aa⟩:=s_ h2 g hg;exact Lo hl g ⟨_,_,aa⟩
theorem Lg:(prog.info? 78).map (λi=>(i.zero,i.size,i.bytes))=some (some (.agg #[.pointer none,.pointer none,.bool false]),3,24):=by kernel_rfl
theorem U4(b B:Nat)(t:TypeId)(cs:Array Value)(gP:0<cs.size)(l ids:List tL)(v:Value)(A:Option Addr)(c:Nat)(w:World)
  (hb:ar w b t (cs.setIfInBounds 0 v))(ho:w.ownsRow B 78 3 v l.length (g_ l))(hB:B<=w.heap.size)(qJ:v.ownBlock≠some b)(hlen:l.length+ids.length<=5000000000000)
  (hA:∀(j:Nat)(q:tL),ids[j]?=some q->∃g,A=some ⟨g,0,none⟩/\g<w.heap.size/\g≠b/\v.ownBlock≠some g/\w.cell? ⟨g,j*3,none⟩=some (.pointer (some ⟨q.l,0,none⟩))/\w.cell? ⟨g,j*3+1,none⟩=some (.pointer (some ⟨q.r,0,none⟩))/\w.cell? ⟨g,j*3+2,none⟩=some (.bool q.d)):Calls prog 34 #[.pointer (some ⟨b,0,none⟩),.slice A ids.length c] w λe w'=>(∃x,e=.returned x)/\Gk b B t cs l ids v A c w 0 w':=by
 refine(callsIn_wide (n:=10)).1 ?_;refine callsIn_of_wp_marks func34 rfl trivial ?_ rfl;simp only[ntmps34,CY,Ca,CR,Nat.reduceAdd,Nat.reduceSub,Df,De,Dl,Dh,Cu,Co];have HB:=EP hb;have HO:=EP ho;have HA:=EP hA;have Yb:=EP qJ;clear hb ho hA qJ;gi_wp2;refine⟨trivial,?_⟩;refine(zpu Fence.wide _ trivial rfl _ _ _ _).mono ?_;rintro e w' ⟨rfl,rfl⟩;gi_wp2;obtain⟨k1,k2,aZ,aV⟩:=IC w (.cells #[.pointer (some ⟨b,0,none⟩)] 134) (.cells #[.slice A ids.length c] 74);obtain⟨w2,dw⟩:∃w2,(w.alloc (.cells #[.pointer (some ⟨b,0,none⟩)] 134)).alloc (.cells #[.slice A ids.length c] 74)=w2:=⟨_,rfl⟩;rw[dw]at k1 k2 aZ aV ⊢;have h0:Gk b B t cs l ids v A c w ids.length w2:=by
  refine⟨v,HB.o.below aV HB.o.lt,?_,.inl rfl,k1,k2,b_.c_ aV⟩;rw[List.drop_length,List.reverse_nil,CJ];exact GF HO.o λg hg=>aV.block g (s_ HO.o g hg).2.1
 have ay:∀k W,Gk b B t cs l ids v A c w k W->∀(j:Nat) (q:tL),ids[j]?=some q->∃g,A=some ⟨g,0,none⟩/\W.cell? ⟨g,j*3,none⟩=some (.pointer (some ⟨q.l,0,none⟩))/\W.cell? ⟨g,j*3+1,none⟩=some (.pointer (some ⟨q.r,0,none⟩))/\W.cell? ⟨g,j*3+2,none⟩=some (.bool q.d):=λk W h j q hq=>by
  obtain⟨_,_,_,_,_,_,hc⟩:=h;obtain⟨g,e,aS,gM,fL,Xe,wL,dM⟩:=HA.o j q hq;have aq:=hc.block g aS (λh=>by rcases h with h|h;exact gM h;exact fL h);exact⟨g,e,(Ck (w:=w) (a:=⟨g,j*3,none⟩) aq).trans Xe,(Ck (w:=w) (a:=⟨g,j*3+1,none⟩) aq).trans wL,(Ck (w:=w) (a:=⟨g,j*3+2,none⟩) aq).trans dM⟩
 have H0:=EP h0;have HC:=EP ay;have cE:=EP aZ;clear h0 ay k1 k2 aV dw aZ;refine P5 (σ:=Nat × tL) rfl (by omega) (gf:=117) (fb:=#[]) (lb:=#[.pointer (some ⟨w.heap.size+1,0,none⟩)]) rfl trivial (enters_of func117 (by kernel_rfl) rfl)
  (λs=>#[.int .i64 (s.1:Nat),.agg #[.pointer (some ⟨s.2.l,0,none⟩),.pointer (some ⟨s.2.r,0,none⟩),.bool s.2.d]]) (λ_=>rfl)
  (λs W=>Gk b B t cs l ids v A c w (s.1+1) W/\ids[s.1]?=some s.2) (λs W=>Gk b B t cs l ids v A c w s.1 W)
  (λs a₁ W=>∃bx,w.heap.size+4<=bx/\LA b B t cs l ids v A c w (s.1+1) bx W/\ids[s.1]?=some s.2/\ar W bx 78 #[.pointer (some ⟨s.2.l,0,none⟩),.pointer (some ⟨s.2.r,0,none⟩),.bool s.2.d]/\a₁ = { tmps:=#[.pointer (some ⟨b,0,none⟩),.slice A ids.length c,.pointer (some ⟨w.heap.size,0,none⟩),undef,undef,.pointer (some ⟨bx,0,none⟩),.slice A ids.length c,.func (.func 117) #[] #[.pointer (some ⟨w.heap.size+1,0,none⟩)],.int .i64 (s.1:Nat),.agg #[.pointer (some ⟨s.2.l,0,none⟩),.pointer (some ⟨s.2.r,0,none⟩),.bool s.2.d],undef,undef,undef,undef,undef,undef,undef,undef,undef,undef],defers:=[] })
  (Gk b B t cs l ids v A c w 0) (λ_ _=>False) (λs a₁ W r r' h hl=>by obtain⟨bx,h0,h1,h2,h3,h4⟩:=h;exact⟨bx,h0,LA.F2 (by have:=cE.o;omega) W r r' h1 hl,h2,h3.same (Lo hl bx ⟨_,_,h3⟩),h4⟩) (λs=>Gk.F2 (by have:=cE.o;omega)) (Gk.F2 (by have:=cE.o;omega)) (λ_ _ _ _ h _=>h) ?assign ?body ?iter ?done ?stop
 case assign =>
  intro r s W hj hl;have HJ:=EP hj;have HL:=EP hl;clear hj hl;gi_wp2;obtain⟨⟨v',h1,h2,h3,h4,h5,h6⟩,hq⟩:=HJ.o;have so:=h6.size;have ez:=cE.o;have cZ:=HL.o.lt.1;have cJ:Below W.heap.size W (W.alloc (.cells #[.pointer (some ⟨s.2.l,0,none⟩),.pointer (some ⟨s.2.r,0,none⟩),.bool s.2.d] 78)):=(Cc _ W).alloc (BU _) _;exact⟨HL.o.below cJ,W.heap.size,by omega,⟨v',λe=>by have:=(s_ h2 _ e).2.1;omega,h1.below cJ h1.lt,GF h2 (λg hg=>cJ.block g (s_ h2 g hg).2.1),h3,h4.below cJ h4.lt,h5.below cJ h5.lt,h6.alloc _⟩,hq,BZ W _,rfl⟩
 case iter =>
  intro rec W1 av aH cR hY;refine(zps Fence.wide (10-1) trivial rfl (by omega) (w2.heap.size+1) (w.heap.size+1) ids A c (λk W=>Gk b B t cs l ids v A c w k W/\i_ (rec .ready none) (w2.heap.size+1) w2.heap.size W) (by omega)
   (λk W h=>by obtain⟨⟨_,_,_,_,_,h5,_⟩,_⟩:=h;exact h5.cell 0) (λk W h=>HC.o k W h.1) (λk q W h hq=>?_) W1 ⟨H0.o.al (λg hg _=>av.block g hg) (by obtain⟨_,_,_,_,_,_,h6⟩:=H0.o;exact h6.below av),cR⟩).mono ?_
  ·refine(hY (k,q) W ⟨h.1,hq⟩ h.2).mono ?_
   intro e W' hs;rcases hs with⟨h1,h2,h3⟩|⟨_,_,h2,_⟩
   ·exact⟨h1,h2,h3⟩
   ·exact h2.elim
  ·rintro e W' ⟨hv,hj,hl⟩
   exact⟨hv,.inl ⟨hj,hl⟩⟩
 case done =>
  intro W hj hD;have HJ:=EP hj;have HD:=EP hD;clear hj hD;gi_wp2;refine⟨by simp,.inl ⟨_,_,rfl,run_takeDeferred HD.o,?_⟩⟩;refine⟨_,CQ rfl _ _ _,⟨_,rfl⟩,?_⟩;exact HJ.o.al (λg _ hg=>CC λe=>by
   obtain⟨x,y,hx⟩:=hg;rw[e,HD.o]at hx;cases hx) (by obtain⟨_,_,_,_,_,_,h6⟩:=HJ.o;exact h6.putObj _ _ (by have:=cE.o;omega))
 case stop=>intro c W h;exact h.elim
 case body =>
  rintro r ⟨k,q⟩ a₁ W ⟨bx,dA,hj,hq,hx,rfl⟩ hl;obtain⟨v1,hvx,h1,h2,h3,h4,h5,h6⟩:=hj;obtain⟨i0,bK,cj,bS,bC⟩:=Dx Lg;have x0:W.cell? ⟨bx,0,none⟩=some (.pointer (some ⟨q.l,0,none⟩)):=ar.cell hx 0;have x1:W.cell? ⟨bx,1,none⟩=some (.pointer (some ⟨q.r,0,none⟩)):=ar.cell hx 1;have x2:W.cell? ⟨bx,2,none⟩=some (.bool q.d):=ar.cell hx 2;have l3:=hx.lt;have e1:W.cell? ⟨w.heap.size,0,none⟩=some (.pointer (some ⟨b,0,none⟩)):=h4.cell 0;have e2:W.cell? ⟨b,0,none⟩=some v1:=(h1.cell 0).trans (by simp[gP]);have l1:=h1.lt;have l2:=h4.lt;have iy:v1.ownBlock≠some b:=by
   rcases h3 with e|⟨g,e,hg⟩
   ·rw[e];exact Yb.o
   ·rw[e];intro e;injection e with e;have:=HB.o.lt;omega
  have sh:v1.ownBlock≠some w.heap.size:=by
   rcases h3 with e|⟨g,e,hg⟩
   ·rw[e];intro e;have:=(s_ HO.o _ e).2.1;omega
   ·rw[e];intro e;injection e with e;omega
  have aR:Hid (∀(g6 c6:Nat) (w6:World),w6.ownsRow B 78 3 (.slice (some ⟨g6,0,none⟩) ((l++(ids.drop (k+1)).reverse).length+1) c6) ((l++(ids.drop (k+1)).reverse).length+1) (g_ (l++(ids.drop (k+1)).reverse)++[.pointer (some ⟨q.l,0,none⟩),.pointer (some ⟨q.r,0,none⟩),.bool q.d]) ->
    (W.drew.alloc (.cells #[.pointer (some ⟨q.l,0,none⟩),.pointer (some ⟨q.r,0,none⟩),.bool q.d] 78)).grownBy w6 v1.ownBlock->(v1.ownBlock=some g6\/g6=(W.drew.alloc (.cells #[.pointer (some ⟨q.l,0,none⟩),.pointer (some ⟨q.r,0,none⟩),.bool q.d] 78)).heap.size) ->
    Gk b B t cs l ids v A c w k (w6.setCell ⟨b,0,none⟩ (.slice (some ⟨g6,0,none⟩) ((l++(ids.drop (k+1)).reverse).length+1) c6))/\i_ r (w2.heap.size+1) w2.heap.size (w6.setCell ⟨b,0,none⟩ (.slice (some ⟨g6,0,none⟩) ((l++(ids.drop (k+1)).reverse).length+1) c6))):=EP (by
   intro g6 c6 w6 oF dM bz;have so:=h6.size;have dS:=dM.size;have aA:(W.drew.alloc (.cells #[.pointer (some ⟨q.l,0,none⟩),.pointer (some ⟨q.r,0,none⟩),.bool q.d] 78)).heap.size=W.heap.size+1:=by rw[World.size_alloc];rfl
   rw[aA]at dS bz;have re:∀g,g<W.heap.size->v1.ownBlock≠some g->g≠b->(w6.setCell ⟨b,0,none⟩ (.slice (some ⟨g6,0,none⟩) ((l++(ids.drop (k+1)).reverse).length+1) c6)).heap[g]?=W.heap[g]?:=λg hg ai mS =>
    (B8 _ _ _ _ mS).trans ((dM.block g (by rw[aA];omega) (λe=>ai e.symm)).trans (BX W.drew _ g hg))
   have jz:ar w6 b t (cs.setIfInBounds 0 v1):=(ar.alloc (w:=W.drew) h1 (.cells #[.pointer (some ⟨q.l,0,none⟩),.pointer (some ⟨q.r,0,none⟩),.bool q.d] 78)).grown dM (λe=>iy e.symm);have il:(ids.drop k).reverse=(ids.drop (k+1)).reverse++[q]:=by
    obtain⟨hk,e⟩:=Cj.1 hq;rw[DL hk,List.reverse_cons];simp at e;rw[e]
   have uE:g6≠b:=by
    rcases bz with e|e
    ·intro e2;rw[e2]at e;exact iy e
    ·have:=h1.lt;omega
   have iE:∀g,v1.ownBlock=some g->v.ownBlock=some g\/w.heap.size+2<=g:=λg hg=>by
    rcases h3 with e|⟨g',e,jN⟩
    ·exact .inl (e▸hg)
    ·rw[e]at hg;injection hg with hg;exact .inr (hg▸jN)
   have ez:=cE.o;refine⟨⟨.slice (some ⟨g6,0,none⟩) ((l++(ids.drop (k+1)).reverse).length+1) c6,?_,?_,?_,?_,?_,?_⟩,?_,?_⟩
   ·have:=Cl w6 b 0 _ t (.slice (some ⟨g6,0,none⟩) ((l++(ids.drop (k+1)).reverse).length+1) c6) jz
    rw[Array.setIfInBounds_setIfInBounds]at this;exact this
   ·rw[il,<-DC,PZ,show(l++(ids.drop (k+1)).reverse++[q]).length=(l++(ids.drop (k+1)).reverse).length+1 from Cb]
    exact ownsRow_setCell_other (a:=⟨b,0,none⟩) oF (λe=>uE (by simpa[Value.ownBlock] using e)) _
   ·rcases bz with e|e
    ·rcases iE g6 e with e2|e2
     ·exact .inl e2.symm
     ·exact .inr ⟨g6,rfl,e2⟩
    ·exact .inr ⟨g6,rfl,by omega⟩
   ·exact h4.same (re _ h4.lt sh (by have:=HB.o.lt;omega))
   ·exact h5.same (re _ h5.lt (λe=>by rcases iE _ e with e2|e2;have:=(s_ HO.o _ e2).2.1;omega;omega) (by have:=HB.o.lt;omega))
   ·refine((((show b_ (λg=>g=b\/v.ownBlock=some g) w W.drew from h6.drew).alloc _).grown dM (λg hg=>?_)).setCell (p:=⟨b,0,none⟩) (.inr (.inl rfl)) _)
    rcases iE g hg with e|e
    ·exact .inr (.inr e)
    ·exact .inl (by omega)
   ·exact(re _ hl.lt.1 (λe=>by rcases iE _ e with e2|e2;have:=(s_ HO.o _ e2).2.1;omega;obtain⟨_,_,cur,aa⟩:=s_ h2 _ e;rw[hl.1]at aa;cases aa) (by have:=HB.o.lt;omega)).trans hl.1
   ·exact(re _ hl.lt.2 (λe=>by obtain⟨_,_,cur,aa⟩:=s_ h2 _ e;rw[hl.2]at aa;cases aa) (by have:=HB.o.lt;omega)).trans hl.2)
  obtain⟨L1,rE⟩:∃L1,l++(ids.drop (k+1)).reverse=L1:=⟨_,rfl⟩;rw[rE]at aR h2;have lO:L1.length<5000000000000:=by
   have:=(Cj.1 hq).1;simp at this;rw[<-rE];simp;omega
  have az:Hid ((W.drew.alloc (.cells #[.pointer (some ⟨q.l,0,none⟩),.pointer (some ⟨q.r,0,none⟩),.bool q.d] 78)).ownsRow B 78 3 v1 L1.length (g_ L1)):=EP (World.ownsRow.alloc (w:=W.drew) h2 _);have dJ:Hid (∀j u,[Value.pointer (some ⟨q.l,0,none⟩),.pointer (some ⟨q.r,0,none⟩),.bool q.d][j]?=some u->(W.drew.alloc (.cells #[.pointer (some ⟨q.l,0,none⟩),.pointer (some ⟨q.r,0,none⟩),.bool q.d] 78)).cell? ((⟨W.heap.size,0,none⟩:Addr).add j)=some u):=EP (Iz _ _ _ _ rfl);have hBW:B<=W.heap.size:=by have:=h6.size;omega
  have bc:=EP h1;have nF:=EP h4;have vp:Hid (some b≠v1.ownBlock):=EP λe=>iy e.symm;have vm:Hid (some w.heap.size≠v1.ownBlock):=EP λe=>sh e.symm;clear h1 h2 h3 h4 h5 h6 iy hq sh rE hl hvx hx;gi_wp2
  refine wpIn_region_any (by kernel_rfl) ?_;refine SF _ _ (Tb (by kernel_rfl)) (λ_ _ h=>h) _ _ _ _ ?_;change wpAny _ _ _ _ _ _ _ (World.drew _);iterate 12
   all_goals
    iterate 4
     try
      first
       |refine wpAny_take (i:=2) (v:=(.pointer (some ⟨b,0,none⟩))) rfl (by kernel_rfl) (by decide +kernel) (by decide +kernel) (λ_ _ _ h=>h) (Or.inl ⟨by rfl,λw=>by go_simp⟩) ?_
       |refine wpAny_take (i:=3) (v:=(.pointer (some ⟨b,0,none⟩))) rfl (by kernel_rfl) (by decide +kernel) (by decide +kernel) (λ_ _ _ h=>h) (Or.inl ⟨by rfl,λw=>by go_simp⟩) ?_
       |refine wpAny_take (i:=8) (v:=(.pointer (some ⟨b,0,none⟩))) rfl (by kernel_rfl) (by decide +kernel) (by decide +kernel) (λ_ _ _ h=>h) (Or.inl ⟨by rfl,λw=>by go_simp⟩) ?_
       |refine wpAny_take (i:=9) (v:=(.pointer (some ⟨b,0,none⟩))) rfl (by kernel_rfl) (by decide +kernel) (by decide +kernel) (λ_ _ _ h=>h) (Or.inl ⟨by rfl,λw=>by go_simp⟩) ?_
   all_goals first
    |(refine wpAny_done (by decide +kernel) ?_ _;exact aR.o _ _ _ pQ.o vP.o gG.o)
    |refine CU (rs:=[10]) (by decide +kernel) (by simp) ?_
    |refine CU (rs:=[7]) (by decide +kernel) (by simp) ?_
    |refine CU (rs:=[6]) (by decide +kernel) (by simp) ?_
    |refine CU (rs:=[4]) (by decide +kernel) (by simp) ?_
    |refine CU (rs:=[4,6]) (by decide +kernel) (by simp) ?_
    |refine CU (rs:=[0,7]) (by decide +kernel) (by simp) ?_
    |refine CU (rs:=[0]) (by decide +kernel) (by simp) ?_
    |refine CU (rs:=[5]) (by decide +kernel) (by simp) ?_
    |refine CU (rs:=[1]) (by decide +kernel) (by simp) ?_
    |refine CU (rs:=[0,6]) (by decide +kernel) (by simp) ?_
    |refine CU (rs:=[0,4]) (by decide +kernel) (by simp) ?_
    |refine CU (rs:=[4,5]) (by decide +kernel) (by simp) ?_
    |refine CU (rs:=[1,6]) (by decide +kernel) (by simp) ?_
    |refine CU (rs:=[0,4,6]) (by decide +kernel) (by simp) ?_
    |refine CU (rs:=[0,1,5]) (by decide +kernel) (by simp) ?_
    |refine CU (rs:=[1,5]) (by decide +kernel) (by simp) ?_
    |refine CU (rs:=[0,4,5]) (by decide +kernel) (by simp) ?_
    |refine CU (rs:=[0,5]) (by decide +kernel) (by simp) ?_
    |refine CU (rs:=[0,1,6]) (by decide +kernel) (by simp) ?_
    |refine CU (rs:=[0,1]) (by decide +kernel) (by simp) ?_
   all_goals first
    |refine AllReady.cons rfl (λK hK=>?_) AllReady.nil
    |refine AllReady.cons rfl (λK hK=>?_) (AllReady.cons rfl (λK hK=>?_) AllReady.nil)
    |refine AllReady.cons rfl (λK hK=>?_) (AllReady.cons rfl (λK hK=>?_) (AllReady.cons rfl (λK hK=>?_) AllReady.nil))
   all_goals first
    |((refine step_append_lies _ (by rfl) _ _ _ (by rfl) B 78 i0 _ 3 24 underlying74 bK cj bS bC rfl (by decide) _ L1.length (g_ L1) (by rfl) az.o ⟨W.heap.size,0,none⟩ 1 1 [.pointer (some ⟨q.l,0,none⟩),.pointer (some ⟨q.r,0,none⟩),.bool q.d] rfl rfl dJ.o (by intro u hu;simp at hu;rcases hu with hu|hu|hu <;> subst hu <;> rfl) (by omega) (by unfold maxLen;omega) (by omega) (by simp;omega) _ rfl ?_;intro g6 c6 w6 dF ae bz uw;have jz:=(ar.alloc (w:=W.drew) bc.o (.cells #[.pointer (some ⟨q.l,0,none⟩),.pointer (some ⟨q.r,0,none⟩),.bool q.d] 78)).grown ae vp.o;have f1:w6.cell? ⟨b,0,none⟩=some v1:=(jz.cell 0).trans (by simp[gP]);have f2:w6.frozen? ⟨b,0,none⟩=false:=jz.frozen 0;have f3:=jz.lt;have f4:w6.cell? ⟨w.heap.size,0,none⟩=some (.pointer (some ⟨b,0,none⟩)):=((ar.alloc (w:=W.drew) nF.o (.cells #[.pointer (some ⟨q.l,0,none⟩),.pointer (some ⟨q.r,0,none⟩),.bool q.d] 78)).grown ae vm.o).cell 0;have pQ:=EP dF;have vP:=EP ae;have gG:=EP bz;clear dF ae bz jz);(try go_simp);refine hK _ _ ?_;clear hK K)
    |(go_simp;refine hK _ _ ?_;clear hK K)
end
section
open Go.RowKit Lx Tx Go.Maps Go.WideMaps
def GU:List Nat->List Nat->List tL
 |a::r,b::s=>⟨a,b,false⟩::GU r s
 |_,_=>[]
theorem Q0:(l r:List Nat)->l.length=r.length->(GU l r).length=l.length
 |[],[],_=>rfl
 |a::l,b::r,h=>by simp[GU,Q0 l r (by simpa using h)]
 |[],_::_,h=>by simp at h
 |_::_,[],h=>by simp at h
theorem zjB:(l r:List Nat)->(i a b:Nat)->l[i]?=some a->r[i]?=some b->(GU l r)[i]?=some ⟨a,b,false⟩
 |[],_,i,a,b,h,_=>by simp at h
 |_::_,[],i,a,b,_,h=>by simp at h
 |x::l,y::r,0,a,b,h,k=>by simp at h k;simp[GU,h,k]
 |x::l,y::r,i+1,a,b,h,k=>by
  simp only[GU,Ee]at h k ⊢;exact zjB l r i a b h k
theorem zlW {α:Type}(l:List α)(i:Nat)(q:α)(h:l[i]?=some q):l.take (i+1)=l.take i++[q]:=by
 rw[D9,h];rfl
def Pk(w:World)(l r:List Nat)(n gg:Nat)(v vi:Value)(wr:World):Prop :=
 ∃i:Nat,gg=n-i/\vi=.int .i64 i/\i<=n/\wr.ownsRow w.heap.size 78 3 v i (g_ ((GU l r).take i))/\Below w.heap.size w wr
theorem zjC(p q:Nat)(x y:Nd)(d e:Dy)(w:World)(hp:tR w p x d)(hq:tR w q y e)(hl:x.kids.length=y.kids.length)(hm:x.kids.length<=2000000000000):Calls prog 74 #[.pointer (some ⟨p,0,none⟩),.pointer (some ⟨q,0,none⟩)] w λr w'=>∃g c,r=.returned (.slice (some ⟨g,0,none⟩) (x.kids.length+1) c)/\Below w.heap.size w w' /\
   w'.ownsRow w.heap.size 78 3 (.slice (some ⟨g,0,none⟩) (x.kids.length+1) c) (x.kids.length+1) (g_ (GU x.kids y.kids++[⟨p,q,true⟩])):=by
 obtain⟨A,c,-,-,-,p4,-,-,hr⟩:=hp.facts;obtain⟨B,c',-,-,-,q4,-,-,hs⟩:=hq.facts;have cL:=hp.lt;have iU:=hq.lt;obtain⟨i0,bK,cj,bS,bC⟩:=Dx Lg;obtain⟨kx,nx,zx,lx,cx,wx⟩:=x;obtain⟨ky,ny,zy,ly,cy,wy⟩:=y;simp only at p4 q4 hr hs hl hm ⊢;have HP:=EP hp;have HQ:=EP hq;clear hp hq;have iV:=Q0 lx ly hl;obtain⟨m,dU⟩:∃m,lx.length=m:=⟨_,rfl⟩;rw[<-hl]at q4;rw[dU]at p4 q4 hm iV ⊢;have Tu:ly.length=m:=by omega
 have HX:Hid (∀i a,lx[i]?=some a->A=some ⟨d.row,0,none⟩/\d.row<w.heap.size/\w.cell? ⟨d.row,i,none⟩=some (PK a)):=EP λi a ha=>by
  obtain⟨h1,cur,h2,h3⟩:=hr (λh=>by rw[h]at ha;simp at ha);exact⟨h1,(BV.1 h2).1,(cell_of_row w d.row i cur _ (0,0) h2).trans (h3 i a ha)⟩
 have HY:Hid (∀i a,ly[i]?=some a->B=some ⟨e.row,0,none⟩/\e.row<w.heap.size/\w.cell? ⟨e.row,i,none⟩=some (PK a)):=EP λi a ha=>by
  obtain⟨h1,cur,h2,h3⟩:=hs (λh=>by rw[h]at ha;simp at ha);exact⟨h1,(BV.1 h2).1,(cell_of_row w e.row i cur _ (0,0) h2).trans (h3 i a ha)⟩
 have HM:=EP dU;have HLM:=EP Tu;have rP:=EP iV;clear hr hs hl dU Tu iV;go_in;go_wp2_with fail;go_loopg [5,13] m (λgg v vi wr=>Pk w lx ly m gg v vi wr)
 case atStart=>exact⟨0,rfl,rfl,Cw _,CM _ _ _ _,Cc _ _⟩
 case round =>
  obtain⟨i,rfl,rfl,hi,aj,hb⟩:=hrel;obtain⟨Al,cl,rfl⟩:=GS aj;have WK:=hb.size;have az:=EP aj;have HB:=EP hb;have arH:p<wr.heap.size:=by omega
  have arF:q<wr.heap.size:=by omega
  by_cases af:i<m
  ·obtain⟨a,ha⟩:∃a,lx[i]?=some a:=⟨_,BY (by rw[HM.o];exact af)⟩
   obtain⟨b,ja⟩:∃b,ly[i]?=some b:=⟨_,BY (by rw[HLM.o];exact af)⟩;obtain⟨rfl,wq,qG⟩:=HX.o i a ha;obtain⟨rfl,lE,mq⟩:=HY.o i b ja;have e0:wr.cell? ⟨d.row,i,none⟩=some (.pointer (some ⟨a,0,none⟩)):=(Ck (w:=w) (a:=⟨d.row,i,none⟩) (hb.block _ wq)).trans qG;have e1:wr.cell? ⟨e.row,i,none⟩=some (.pointer (some ⟨b,0,none⟩)):=(Ck (w:=w) (a:=⟨e.row,i,none⟩) (hb.block _ lE)).trans mq;have r4:wr.cell? ⟨q,4,none⟩=some (.slice (some ⟨e.row,0,none⟩) m c'):=(Ck (w:=w) (a:=⟨q,4,none⟩) (hb.block _ iU)).trans q4;have HPA:=EP (zlW _ _ _ (zjB lx ly i a b ha ja));have au:=EP aj.lt;have cS:=EP (aj.alloc (.cells #[.pointer (some ⟨a,0,none⟩),.pointer (some ⟨b,0,none⟩),.bool false] 78));skip;clear ha ja wq qG lE mq aj hb p4 q4;go_wp2_with (at_builtin;refine C7 _ rfl (.tmp 18) (.tmp 28) 74 rfl w.heap.size 78 i0 _ 3 24 underlying74 bK cj bS bC rfl (by decide) _ i (g_ ((GU lx ly).take i)) rfl cS.o ⟨wr.heap.size,0,none⟩ 1 1 [.pointer (some ⟨a,0,none⟩),.pointer (some ⟨b,0,none⟩),.bool false] rfl rfl (Iz _ _ _ _ (by simp)) (by intro u hu;simp at hu;rcases hu with rfl|rfl|rfl <;> rfl) (by unfold maxLen;omega) (by omega) (by simp;omega) ?_;intro v2 w5 an ae _ bF;obtain⟨A2',c2',rfl⟩:=GS an;have dZ:=EP an;have bk:=EP ae;clear an ae bF);have aQ:Below w.heap.size w w5:=HB.o.trans ⟨bk.o.os,bk.o.tape,bk.o.output,by have:=bk.o.size;simp at this;omega,λk hk=>(bk.o.block k (by simp;omega) (λe=>by have:=au.o _ e.symm;omega)).trans (BX _ _ _ (by omega))⟩;have lC:=EP aQ;clear aQ;go_roundg (m-(i+1));case measure=>omega
   case rel =>
    refine⟨i+1,rfl,by go_num,by omega,?_,lC.o⟩;rw[HPA.o,PZ];exact dZ.o
  ·have eB:i=m:=by omega
   have aJ:(GU lx ly).take i=GU lx ly:=Cq (by rw[rP.o];omega);rw[aJ]at aj;have HI:=EP eB;have au:=EP aj.lt;have cS:=EP (aj.alloc (.cells #[.pointer (some ⟨p,0,none⟩),.pointer (some ⟨q,0,none⟩),.bool true] 78));clear aJ aj hb eB p4 q4;go_wp2_with (at_builtin;refine C7 _ rfl (.tmp 31) (.tmp 35) 74 rfl w.heap.size 78 i0 _ 3 24 underlying74 bK cj bS bC rfl (by decide) _ i (g_ (GU lx ly)) rfl cS.o ⟨wr.heap.size,0,none⟩ 1 1 [.pointer (some ⟨p,0,none⟩),.pointer (some ⟨q,0,none⟩),.bool true] rfl rfl (Iz _ _ _ _ (by simp)) (by intro u hu;simp at hu;rcases hu with rfl|rfl|rfl <;> rfl) (by unfold maxLen;omega) (by omega) (by simp;omega) ?_;intro v2 w5 an ae _ bF;have dZ:=EP an;have bk:=EP ae;clear an ae bF);have aQ:Below w.heap.size w w5:=HB.o.trans ⟨bk.o.os,bk.o.tape,bk.o.output,by have:=bk.o.size;simp at this;omega,λk hk=>(bk.o.block k (by simp;omega) (λe=>by have:=au.o _ e.symm;omega)).trans (BX _ _ _ (by omega))⟩;have lC:=EP aQ;clear aQ;go_ret;rcases dZ.o.2 with⟨_,h0⟩|⟨g,cap,cur,hv,_⟩
   ·omega
   ·rw[<-HI.o]
    refine⟨g,cap,by rw[hv];rfl,lC.o,?_⟩;rw[PZ,<-hv];exact dZ.o
end
section
open Go.RowKit Lx Tx Go.Maps Go.WideMaps
set_option maxRecDepth 100000
theorem RV {w:World} {B g c n:Nat} {ids:List tL}(h:w.ownsRow B 78 3 (.slice (some ⟨g,0,none⟩) n c) n (g_ ids)):B<=g/\g<w.heap.size/\∀(j:Nat) (q:tL),ids[j]?=some q->w.cell? ⟨g,j*3,none⟩=some (.pointer (some ⟨q.l,0,none⟩))/\w.cell? ⟨g,j*3+1,none⟩=some (.pointer (some ⟨q.r,0,none⟩))/\w.cell? ⟨g,j*3+2,none⟩=some (.bool q.d):=by
 obtain⟨h0,⟨hv,_⟩|⟨g',cap,cur,hv,h1,h2,h3,h4,h5,h6⟩⟩:=h
 ·cases hv
 ·injection hv with e1 _ e2
  injection e1 with e1;injection e1 with e1;subst e1;refine⟨h1,(BV.1 h2).1,λj q hq=>?_⟩;obtain⟨a1,a2,a3⟩:=zg5 ids j q hq;have hj:j<ids.length:=(Cj.1 hq).1;have hn:(g_ ids).length=ids.length*3:=Ta ids;have get:∀(k:Nat) (z:Value),k<n*3->(g_ ids)[k]?=some z->w.cell? ⟨g,k,none⟩=some z:=λk z hk hz=>by
   rw[cell_of_row w g k cur _ (0,0) h2];rw[<-h6,List.getElem?_take,Ch hk,DG]at hz;exact hz
  exact⟨get _ _ (by omega) a1,get _ _ (by omega) a2,get _ _ (by omega) a3⟩
theorem Vl {x y:Nd}(h:F_ x y=true):x.kids.length=y.kids.length:=by
 unfold F_ at h;simp only[EB,ED]at h;exact h.1.1.2
def Ud(b mk B:Nat)(c0 c1 c2 c4:Value)(G:Nat->Option Nd)(D:Nat->Dy)(hd:Nat->Nat)(EX:List tL)(w w':World):Prop :=
 ∃v',ar w' b 85 #[v',c1,c2,.map (some mk),c4]/\w'.ownsRow B 78 3 v' EX.length (g_ EX)/\(∃K',Gl w' mk K' hd)/\l_ w' G D/\b_ (λk=>k=mk\/k=b\/c0.ownBlock=some k) w w'
theorem zpB(b mk ql qr:Nat)(c4:Value)(c0 c1 c2:Value)(K:Nat->Option Nat)(hd:Nat->Nat)(w:World)
  (hb:ar w b 85 #[c0,c1,c2,.map (some mk),c4])(hk:Gl w mk K hd)(hl:e_ w ql)(hr:e_ w qr)(jw:e_ w (hd ql))(jv:e_ w (hd qr))(G:Nat->Option Nd)(D:Nat->Dy)(bH:l_ w G D)(x y:Nd)(hx:G (hd ql)=some x)(hy:G (hd qr)=some y)(ai:hd ql≠hd qr)(hm:x.kd≠2/\y.kd≠2/\x.kd≠5)(ij:F_ x y=true)(B:Nat)(EX:List tL)(hB:B<=w.heap.size)(ho:w.ownsRow B 78 3 c0 EX.length (g_ EX))(hn:EX.length+x.kids.length+1<=2000000000000):Calls prog 36 #[.pointer (some ⟨b,0,none⟩),.agg #[.pointer (some ⟨ql,0,none⟩),.pointer (some ⟨qr,0,none⟩),.bool false]] w λr w'=>r=.returned (.int .i64 0)/\Ud b mk B c0 c1 c2 c4 G D hd (EX++(GU x.kids y.kids++[(⟨hd ql,hd qr,true⟩:tL)]).reverse) w w':=by
 have eH:=EP ai;have tj:Hid (hd (hd ql)=hd ql/\hd (hd qr)=hd qr):=EP ⟨hk.idem _,hk.idem _⟩;have vD:=EP bH;have bQ:Hid (∀(g:Nat) (cs:Array Value) (t:TypeId),w.heap[g]?=some (.cells cs t (0,0))->¬only mk g):=EP λg cs t hg e=>by
  have e:g=mk:=e;rw[e]at hg;exact d_.no hk.mp hg
 have HX:=EP hx;have HY:=EP hy;have HM:=EP hm;have tm:=EP ij;have HO:=EP ho;have sd:=EP hB;have HN:=EP hn;clear hm ij ho hB hn;clear ai bH hx hy;have eK:mk<w.heap.size:=d_.lt hk.mp;have h1:JM b w.heap.size mk ql qr false c0 c1 c2 c4 hd w (w.alloc (.cells #[.pointer (some ⟨ql,0,none⟩),.pointer (some ⟨qr,0,none⟩),.bool false] 78)):=by
  have cJ:∀g,g<w.heap.size->(w.alloc (.cells #[.pointer (some ⟨ql,0,none⟩),.pointer (some ⟨qr,0,none⟩),.bool false] 78)).heap[g]?=w.heap[g]?:=λg hg=>BX _ _ _ hg;have bD:∀x,e_ w x->e_ (w.alloc (.cells #[.pointer (some ⟨ql,0,none⟩),.pointer (some ⟨qr,0,none⟩),.bool false] 78)) x:=λx ⟨cs,hx⟩=>⟨cs,(cJ x (BV.1 hx).1).trans hx⟩;exact⟨hb.alloc _,BZ _ _,⟨K,hk.al (cJ _ eK) bD⟩,bD _ hl,bD _ hr,bD _ jw,bD _ jv,(b_.refl _ _).alloc _⟩
 obtain⟨w1,bX⟩:∃W,w.alloc (.cells #[.pointer (some ⟨ql,0,none⟩),.pointer (some ⟨qr,0,none⟩),.bool false] 78)=W:=⟨_,rfl⟩;rw[bX]at h1;obtain⟨z0,z1,z2,zl⟩:=h1.drew.facts;have fQ:=EP (h1.drew.head ql h1.ll);have gS:=EP (h1.drew.head qr h1.lr);have fm:=EP bX;clear hb hk hl hr jw jv eK h1 bX;go_in;go_upto_region 1 with fail;rw[fm.o];go_cut [5,6] from 7 to 14 (λv5 v6 wx=>v5=.pointer (some ⟨hd ql,0,none⟩)/\v6=.pointer (some ⟨hd qr,0,none⟩)/\Hid (JM b w.heap.size mk ql qr false c0 c1 c2 c4 hd w wx))
 case first =>
  go_region_law (first
   |(go_simp;(with_reducible refine fQ.o.mono ?_);rintro r w5 ⟨rfl,be⟩;obtain⟨y0,y1,y2,yl⟩:=be.facts;have ei:=EP (be.head qr be.lr);clear be)
   |(go_simp;(with_reducible refine gS.o.mono ?_);rintro r w5 ⟨rfl,be⟩;obtain⟨y0,y1,y2,yl⟩:=be.facts;have pW:=EP (be.head ql be.ll);clear be)
   |(go_simp;(with_reducible refine ei.o.mono ?_);rintro r w6 ⟨rfl,cz⟩;obtain⟨x0,x1,x2,xl⟩:=cz.facts;have jE:=EP cz;clear cz)
   |(go_simp;(with_reducible refine pW.o.mono ?_);rintro r w6 ⟨rfl,cz⟩;obtain⟨x0,x1,x2,xl⟩:=cz.facts;have jE:=EP cz;clear cz))
  all_goals
   go_wp2_with fail;go_meet
   case rel=>exact⟨rfl,rfl,jE⟩
 case rest =>
  rename World=>V0;obtain⟨rfl,rfl,hw⟩:=hcut;have bR:=hw.o;have heq:=Ow bR.hl bR.hr;rw[CF eH.o]at heq;obtain⟨K5,aM⟩:=bR.kn;obtain⟨z0,z1,z2,zl⟩:=bR.facts;have aX:l_ V0 G D:=vD.o.same λk hk ⟨cs,t,hx⟩=>bR.ch.block k hk (bQ.o k cs t hx);obtain⟨A1,Ub,p0,-,-,-,-,-,-⟩:=(aX _ x HX.o).facts;obtain⟨A2,XI,q0,-,-,-,-,-,-⟩:=(aX _ y HY.o).facts;have lp:=(aX _ x HX.o).lt;have lq:=(aX _ y HY.o).lt;obtain⟨kx,dL⟩:∃k,x.kd=k:=⟨_,rfl⟩;obtain⟨ky,kC⟩:∃k,y.kd=k:=⟨_,rfl⟩;rw[dL]at p0
  rw[kC]at q0;have ij:=U3 (hd ql) (hd qr) x y _ _ V0 (aX _ x HX.o) (aX _ y HY.o);rw[tm.o]at ij;have nV:=EP ij;have jS:=EP bR;have Be:=EP aX;have jU:=EP aM;have hm:=HM.o;rw[dL,kC]at hm;have e2:((kx:Int)==2)=false:=by rw[Cz];intro e;simp at e;omega
  have e3:((ky:Int)==2)=false:=by rw[Cz];intro e;simp at e;omega
  have e5:((kx:Int)==5)=false:=by rw[Cz];intro e;simp at e;omega
  have YA:=EP dL;clear ij bR aM aX hw fQ gS dL kC hm;go_wp2_with fail;refine nV.o.mono ?_;rintro e wf ⟨rfl,fE,WL⟩;have cX:l_ wf G D:=Be.o.same λk hk _=>fE.block k hk;obtain⟨A3,Ua,r0,-,-,-,-,-,-⟩:=(cX _ x HX.o).facts;rw[YA.o]at r0
  have lp3:=(cX _ x HX.o).lt;have HBF:=EP fE;have HPF:=EP cX;have ik:=Vl tm.o;have fU:=zjC (hd ql) (hd qr) x y (D _) (D _) wf.drew (tR.al (cX _ x HX.o) rfl (λ_=>rfl)) (tR.al (cX _ y HY.o) rfl (λ_=>rfl)) ik (by have:=HN.o;omega);have Yp:=EP fU;have qa:ar wf b 85 #[c0,c1,c2,.map (some mk),c4]:=jS.o.sb.below fE jS.o.sb.lt;have Wx:=qa.lt;have oE:wf.ownsRow B 78 3 c0 EX.length (g_ EX):=GF HO.o (λg hg=>by
   obtain⟨_,hl,cur,aa⟩:=s_ HO.o g hg;have h0:=jS.o.ch.block g hl (bQ.o g cur _ aa);exact(fE.block g (Ci hl jS.o.ch.size)).trans h0)
  have om:w.heap.size<=wf.heap.size:=Cm jS.o.ch.size fE.size;have ed:Hid (∀(g c:Nat) (w5:World),Below wf.drew.heap.size wf.drew w5->w5.ownsRow wf.drew.heap.size 78 3 (.slice (some ⟨g,0,none⟩) (x.kids.length+1) c) (x.kids.length+1) (g_ (GU x.kids y.kids++[(⟨hd ql,hd qr,true⟩:tL)])) ->
    Calls prog 34 #[.pointer (some ⟨b,0,none⟩),.slice (some ⟨g,0,none⟩) (x.kids.length+1) c] w5 λe w'=>(∃z,e=.returned z)/\Ud b mk B c0 c1 c2 c4 G D hd (EX++(GU x.kids y.kids++[(⟨hd ql,hd qr,true⟩:tL)]).reverse) w w'):=EP (by
   intro g c w5 aQ ic;obtain⟨aS,gM,dN⟩:=RV ic;have df:Below wf.heap.size wf w5:=⟨aQ.os,aQ.tape,aQ.output,aQ.size,aQ.block⟩;have Zn:wf.heap.size<=g:=aS;have hlen:(GU x.kids y.kids++[(⟨hd ql,hd qr,true⟩:tL)]).length=x.kids.length+1:=by rw[Cb,Q0 _ _ ik];rfl
   have ke:w5.ownsRow B 78 3 c0 EX.length (g_ EX):=GF oE (λk hk=>df.block k (s_ oE k hk).2.1);have qJ:c0.ownBlock≠some b:=λe=>by
    obtain⟨_,_,cur,aa⟩:=s_ oE b e;exact ar.Gw (show ar wf b _ cur from aa) qa (by decide) rfl
   have xI:=qa.below df Wx;have bV:=U4 b B 85 #[c0,c1,c2,.map (some mk),c4] (by simp) EX (GU x.kids y.kids++[(⟨hd ql,hd qr,true⟩:tL)]) c0 (some ⟨g,0,none⟩) c w5 xI ke (by have:=sd.o;have:=df.size;omega) qJ (by rw[hlen];have:=HN.o;omega) (λj q hq=>⟨g,rfl,gM,by omega,λe=>by have:=(s_ oE g e).2.1;omega,dN j q hq⟩);rw[hlen]at bV;refine bV.mono ?_;rintro e w' ⟨hz,v',d1,d2,-,-,-,d6⟩;have uI:b_ (λk=>k=mk\/k=b\/c0.ownBlock=some k) w w':=(((jS.o.ch.mono (λ_ _ h=>.inl h)).below fE).below df).trans' d6 (λk _ h=>.inr h);have km:∀(k:Nat) (cs:Array Value) (t:TypeId),w5.heap[k]?=some (.cells cs t (0,0))->t≠85->t≠78->w'.heap[k]?=w5.heap[k]?:=λk cs t hk mz tK=>d6.block k (BV.1 hk).1 (λh=>by
    rcases h with h|h
    ·exact ar.Gw (show ar w5 k t cs from hk) xI mz h
    ·obtain⟨_,_,cur,aa⟩:=s_ ke k h
     exact ar.Gw (show ar w5 k t cs from hk) (show ar w5 k _ cur from aa) tK rfl)
   have fY:mk<wf.heap.size:=Ci (d_.lt jU.o.mp) fE.size;have oK:w5.heap[mk]?=V0.heap[mk]?:=(df.block mk fY).trans (fE.block mk (d_.lt jU.o.mp));have uh:w'.heap[mk]?=w5.heap[mk]?:=d6.block mk (Ci fY df.size) (λh=>by
    rcases h with h|h
    ·have h1:=jS.o.sb
     rw[<-h]at h1;exact d_.no jU.o.mp h1
    ·obtain⟨_,_,cur,aa⟩:=s_ ke mk h
     rw[oK]at aa;exact d_.no jU.o.mp aa)
   refine⟨hz,v',d1,d2,⟨K5,jU.o.al (uh.trans oK) (λz ⟨cs,sf⟩=>?_)⟩,?_,uI⟩
   ·have h5:w5.heap[z]?=some (.cells cs 132 (0,0)):=((df.block z (Ci (BV.1 sf).1 fE.size)).trans (fE.block z (BV.1 sf).1)).trans sf
    exact⟨cs,(km z cs _ h5 (by decide) (by decide)).trans h5⟩
   ·intro z nd bC
    have h5:tR w5 z nd (D z):=(cX z nd bC).al (df.block z (cX z nd bC).lt) (λhk=>df.block _ ((cX z nd bC).Jw hk));obtain⟨A7,c7,fk,yz⟩:=h5;refine tR.al ⟨A7,c7,fk,yz⟩ (km z _ _ fk (by decide) (by decide)) (λhk=>?_);obtain⟨_,cur,aa,_⟩:=yz hk;exact km _ cur _ aa (by decide) (by decide))
  clear ik fE WL cX fU qa oE om nV p0 q0 lp lq z0 z1 z2 zl jS Be jU;go_upto_region 13 with fail
  go_region_law (first
   |(go_simp;(with_reducible refine Yp.o.mono ?_);rintro e w5 ⟨g,c,rfl,h5,ic⟩;have Yz:=EP (ed.o g c w5 h5 ic);clear h5 ic)
   |(go_simp;(with_reducible refine Yz.o.mono ?_);rintro e w6 ⟨⟨zz,rfl⟩,Mg⟩;have vK:=EP Mg;clear Mg))
  all_goals
   go_wp2_with fail;go_ret
   exact⟨rfl,vK.o⟩
end
section
open Lx Tx
def u_:Dt->Nat
 |.fv _=>1
 |.bv _=>1
 |.mt _=>2
 |.h_ _ _=>3
 |.fn _ _=>4
 |.all _=>5
def IE:Dt->ByteArray
 |.h_ c _=>⟨c.toArray⟩
 |_=>⟨#[]⟩
def EY:Dt->List Dt
 |.h_ _ l=>l
 |.fn a b=>[a,b]
 |.all t=>[t]
 |_=>[]
def App(d:Dt):Prop:=u_ d=3\/u_ d=4
theorem SB {d:Dt}(h:App d):Plain d↔∀u∈EY d,Plain u:=by
 cases d <;> simp[App,u_]at h
 ·exact PJ _ _
 ·rw[plain_fn,EY];simp
theorem App.ap {d:Dt}(h:App d)(k:Sb):App (Tx.ap k d)/\u_ (Tx.ap k d)=u_ d/\IE (Tx.ap k d)=IE d/\EY (Tx.ap k d)=(EY d).map (Tx.ap k):=by
 cases d <;> simp[App,u_]at h
 ·rw[Jj,KL];simp[App,u_,IE,EY]
 ·rw[JJ];simp[App,u_,IE,EY]
theorem App.ext {d e:Dt}(hd:App d)(hk:u_ d=u_ e)(hn:IE d=IE e)(hl:EY d=EY e):d=e:=by
 cases d <;> simp[App,u_]at hd <;> cases e <;> simp[u_]at hk
 ·simp[IE]at hn
  simp[EY]at hl;rw[hn,hl]
 ·simp[EY]at hl
  rw[hl.1,hl.2]
theorem App.Lf {d:Dt}(h:App d)(i:Nat):d≠.bv i:=by rintro rfl;simp[App,u_]at h
def N9(c:Nat):List Nat->Option Nat
 |[]=>none
 |y::r=>if c=y then some 0 else(N9 c r).map (· + 1)
theorem Vc(c:Nat):(l:List Nat)->(i:Nat)->N9 c l=some i->l[i]?=some c
 |[],i,h=>by cases h
 |y::r,i,h=>by
  rw[N9]at h;by_cases e:c=y
  ·rw[Ch e]at h;injection h with h;subst h;rw[e];rfl
  ·rw[Cg e]at h
   cases hr:N9 c r with
   |none=>rw[hr]at h;cases h
   |some j=>rw[hr]at h;injection h with h;subst h;exact Vc c r j hr
theorem RY(c:Nat):(l:List Nat)->l.Nodup->(i:Nat)->l[i]?=some c->N9 c l=some i
 |[],_,i,h=>by simp at h
 |y::r,hn,0,h=>by
  simp at h;rw[N9,Ch h.symm]
 |y::r,hn,i+1,h=>by
  rw[CO]at hn;simp at h;have hm:c∈r:=CG h;rw[N9,Cg (λe:c=y=>hn.1 (by rw[<-e];exact hm)),RY c r hn.2 i h];rfl
noncomputable def pn (d:Dt)(p:Nat):List Nat:=by classical exact if Plain d then[] else[p]
theorem Sz {d:Dt}(h:Plain d)(p:Nat):pn d p=[]:=by unfold pn;rw[Ch h]
theorem NT {d:Dt}(h:¬Plain d)(p:Nat):pn d p=[p]:=by unfold pn;rw[Cg h]
inductive Tr (G:Nat->Option Nd):List Nat->Nat->Dt->List Nat->Prop
 |fv (env:List Nat) (p:Nat) (x:Name):G p=some ⟨1,⟨x.toArray⟩,0,[],none,false⟩->Tr G env p (.fv x) []
 |bv (env:List Nat) (p:Nat) (nm:ByteArray) (i:Nat):G p=some ⟨1,nm,0,[],none,true⟩->N9 p env=some i->Tr G env p (.bv i) []
 |mt (env:List Nat) (p n:Nat):G p=some ⟨2,⟨#[]⟩,n,[],none,false⟩->Tr G env p (.mt n) []
 |app (env:List Nat) (p:Nat) (d:Dt) (ps:List Nat) (aP:List (List Nat)):App d->G p=some ⟨u_ d,IE d,0,ps,none,false⟩->ps.length=(EY d).length->aP.length=(EY d).length ->
   (∀(i q:Nat)(u:Dt)(ns:List Nat),ps[i]?=some q->(EY d)[i]?=some u->aP[i]?=some ns->Tr G env q u ns)->Tr G env p d (pn d p++aP.flatten)
 |all (env:List Nat) (p:Nat) (x:ByteArray) (t:Dt) (q c:Nat) (ns:List Nat):G p=some ⟨5,x,0,[q],some c,false⟩->(∃nm,G c=some ⟨1,nm,0,[],none,true⟩)->Tr G (c::env) q t ns->Tr G env p (.all t) (p::c::ns)
theorem Tr.plain {G:Nat->Option Nd} {env:List Nat} {p:Nat} {d:Dt} {ns:List Nat}(h:Tr G env p d ns):Plain d->ns=[]/\∀ng,Tr G ng p d []:=by
 induction h with
 |fv env p x h=>exact λ_=>⟨rfl,λe=>.fv e p x h⟩
 |bv env p nm i h _=>exact λhp=>absurd hp (LG i)
 |mt env p n h=>exact λ_=>⟨rfl,λe=>.mt e p n h⟩
 |app env p d ps aP ha hG h1 h2 h3 ih =>
  intro hp;have hk:=(SB ha).1 hp;have aK:∀ns∈aP,ns=[]:=by
   intro ns iX;obtain⟨i,hi,rfl⟩:=CN.1 iX;have cf:i<ps.length:=by omega
   have mR:i<(EY d).length:=by omega
   exact(ih i _ _ _ (BY cf) (BY mR) (BY hi) (hk _ (CS mR))).1
  have gO:aP.flatten=[]:=by rw[List.flatten_eq_nil_iff];exact aK
  refine⟨by rw[Sz hp,gO];rfl,λe=>?_⟩;have:=Tr.app (G:=G) e p d ps aP ha hG h1 h2 (λi q u ns a b c=>by
   have h4:=ih i q u ns a b c (hk _ (CG b));rw[aK ns (CG c)];exact h4.2 e)
  rw[Sz hp,gO]at this;exact this
 |all env p x t q c ns _ _ _ _=>exact λhp=>absurd hp (LY t)
theorem Tr.M9 {G:Nat->Option Nd} {env:List Nat} {p:Nat} {d:Dt} {ns:List Nat}(h:Tr G env p d ns):Plain d->∀ {ng:List Nat} {d':Dt} {dB:List Nat},Tr G ng p d' dB->d'=d:=by
 induction h with
 |fv env p x h =>
  intro _ ng d' dB h';cases h' with
  |fv _ _ y hy=>rw[h]at hy;simp at hy;rw[hy]
  |bv _ _ _ _ hy _=>rw[h]at hy;simp at hy
  |mt _ _ _ hy=>rw[h]at hy;simp at hy
  |app _ _ _ _ _ ha hy _ _ _=>rw[h]at hy;simp at hy;rcases ha with e|e <;> omega
  |all _ _ _ _ _ _ _ hy _ _=>rw[h]at hy;simp at hy
 |bv env p nm i h _=>exact λhp=>absurd hp (LG i)
 |mt env p n h =>
  intro _ ng d' dB h';cases h' with
  |fv _ _ y hy=>rw[h]at hy;simp at hy
  |bv _ _ _ _ hy _=>rw[h]at hy;simp at hy
  |mt _ _ _ hy=>rw[h]at hy;simp at hy;rw[hy]
  |app _ _ _ _ _ ha hy _ _ _=>rw[h]at hy;simp at hy;rcases ha with e|e <;> omega
  |all _ _ _ _ _ _ _ hy _ _=>rw[h]at hy;simp at hy
 |app env p d ps aP ha hG h1 h2 h3 ih =>
  intro hp ng d' dB h';have hk:=(SB ha).1 hp;cases h' with
  |fv _ _ y hy=>rw[hG]at hy;simp at hy;rcases ha with e|e <;> omega
  |bv _ _ _ _ hy _=>rw[hG]at hy;simp at hy
  |mt _ _ _ hy=>rw[hG]at hy;simp at hy;rcases ha with e|e <;> omega
  |all _ _ _ _ _ _ _ hy _ _=>rw[hG]at hy;simp at hy
  |app _ _ _ ps' eM cB hy g1 g2 g3 =>
   rw[hG]at hy;simp at hy;obtain⟨e1,e2,rfl⟩:=hy;refine(App.ext ha e1 e2 ?_).symm;refine List.ext_getElem (by omega) λi i1 i2=>?_;exact(ih i _ _ _ (BY (by omega)) (BY i1) (BY (by omega)) (hk _ (CS i1)) (g3 i _ _ _ (BY (by omega)) (BY i2) (BY (by omega)))).symm
 |all env p x t q c ns _ _ _ _=>exact λhp=>absurd hp (LY t)
def Mq(G:Nat->Option Nd)(p:Nat):Prop:=∀env d ns,Tr G env p d ns->¬Plain d
theorem Tr.Ml {G:Nat->Option Nd} {env:List Nat} {p:Nat} {d:Dt} {ns:List Nat}(h:Tr G env p d ns)(hd:¬Plain d):Mq G p:=λ_ _ _ h' hp=>by
 have:=h'.M9 hp h;rw[this]at hd;exact hd hp
theorem Sy {G:Nat->Option Nd} {c:Nat} {nm:ByteArray}(h:G c=some ⟨1,nm,0,[],none,true⟩):Mq G c:=λ_ d _ h'=>by
 cases h' with
 |fv _ _ y hy=>rw[h]at hy;simp at hy
 |bv _ _ _ i _ _=>exact LG i
 |mt _ _ _ hy=>rw[h]at hy;simp at hy
 |app _ _ _ _ _ ha hy _ _ _=>rw[h]at hy;simp at hy
 |all _ _ _ _ _ _ _ hy _ _=>rw[h]at hy;simp at hy
theorem Tr.Kw {G:Nat->Option Nd} {env:List Nat} {p:Nat} {d:Dt} {ns:List Nat}(h:Tr G env p d ns):∀x∈ns,Mq G x:=by
 induction h with
 |fv=>intro x hx;cases hx
 |bv=>intro x hx;cases hx
 |mt=>intro x hx;cases hx
 |app env p d ps aP ha hG h1 h2 h3 ih =>
  intro x hx;rcases Cr.1 hx with hx|hx
  ·by_cases hp:Plain d
   ·rw[Sz hp]at hx;cases hx
   ·rw[NT hp]at hx
    rw[Cx.1 hx];exact Tr.Ml (Tr.app env p d ps aP ha hG h1 h2 h3) hp
  ·obtain⟨ns,iX,hx⟩:=List.mem_flatten.1 hx
   obtain⟨i,hi,rfl⟩:=CN.1 iX;exact ih i _ _ _ (BY (show i<ps.length by omega)) (BY (show i<(EY d).length by omega)) (BY hi) x hx
 |all env p x t q c ns h1 h2 h3 ih =>
  intro y hy;rcases Cd.1 hy with e|hy
  ·rw[e];exact Tr.Ml (Tr.all env p x t q c ns h1 h2 h3) (LY t)
  ·rcases Cd.1 hy with e|hy
   ·obtain⟨nm,h2⟩:=h2;rw[e];exact Sy h2
   ·exact ih y hy
theorem Tr.Hj {G:Nat->Option Nd} {env:List Nat} {p:Nat} {d:Dt} {ns:List Nat}(h:Tr G env p d ns)(hp:¬Plain d)(hb:∀i,d≠.bv i):p∈ns:=by
 cases h with
 |fv _ _ x _=>exact absurd (zjN x) hp
 |bv _ _ _ i _ _=>exact absurd rfl (hb i)
 |mt _ _ n _=>exact absurd (Jk n) hp
 |app _ _ _ _ _ _ _ _ _ _=>rw[NT hp];exact CZ _ Cs
 |all=>exact Cs
theorem Tr.node {G:Nat->Option Nd} {env:List Nat} {p:Nat} {d:Dt} {ns:List Nat}(h:Tr G env p d ns):∃x,G p=some x/\x.kd=u_ d/\x.kids.length=(EY d).length/\(App d->x.nm=IE d)/\(∀n,d=.mt n->x.n=n)/\(x.new=true↔∃i,d=.bv i):=by
 cases h with
 |fv _ _ x h=>exact⟨_,h,rfl,rfl,(λh=>by simp[App,u_]at h),(λn h=>by cases h),by simp⟩
 |bv _ _ nm i h _=>exact⟨_,h,rfl,rfl,(λh=>by simp[App,u_]at h),(λn h=>by cases h),by simp⟩
 |mt _ _ n h=>exact⟨_,h,rfl,rfl,(λh=>by simp[App,u_]at h),(λm h=>by injection h),by simp⟩
 |app _ _ _ ps _ ha h h1 _ _ =>
  refine⟨_,h,rfl,h1,(λ_=>rfl),(λn e=>by subst e;simp[App,u_]at ha),?_⟩;constructor
  ·intro e;simp at e
  ·rintro⟨i,e⟩;exact absurd e (ha.Lf i)
 |all _ _ _ _ _ _ _ h _ _=>exact⟨_,h,rfl,rfl,(λh=>by simp[App,u_]at h),(λn h=>by cases h),by simp⟩
structure L7 (G:Nat->Option Nd):Prop where
 uu:∀p q n,G p=some ⟨2,⟨#[]⟩,n,[],none,false⟩->G q=some ⟨2,⟨#[]⟩,n,[],none,false⟩->p=q
 vv:∀p q x,G p=some ⟨1,x,0,[],none,false⟩->G q=some ⟨1,x,0,[],none,false⟩->p=q
structure F0 (G:Nat->Option Nd) (L:List Nat) (hd:Nat->Nat) (k:Sb) (Ns O:List Nat):Prop where
 gr:Gr G hd L
 pl:∀p d,Tr G [] p d []->Plain d->∃d',Tr G [] (hd p) d' []/\Plain d'/\ap k d=ap k d'
 un:∀p n,G p=some ⟨2,⟨#[]⟩,n,[],none,false⟩->hd p=p->k n=.mt n
 nd:Ns.Nodup
 nh:∀x∈Ns,hd x=x
 np:∀x∈Ns,Mq G x
 oc:∀c∈O,(∃nm,G c=some ⟨1,nm,0,[],none,true⟩)/\c∉Ns
 ki:GX k
 kp:∀n,Plain (k n)
structure FX (hd:Nat->Nat) (O el er:List Nat):Prop where
 len:el.length=er.length
 nd:er.Nodup
 lo:∀c∈el,c∈O
 ro:∀c∈er,c∈O
 lk:∀(i a b:Nat),el[i]?=some a->er[i]?=some b->hd a=b/\hd b=b
theorem Vb {hd:Nat->Nat} {m t p:Nat}(ht:hd t=t)(h:Hq hd m t p=p):hd p=p:=by
 unfold Hq at h;by_cases e:hd p=m
 ·rw[Ch e]at h;subst h;exact ht
 ·rw[Cg e]at h;exact h
theorem zpS {hd:Nat->Nat} {m t:Nat}(hi:∀q,hd (hd q)=hd q)(ht:hd t=t)(ie:m≠t)(p:Nat):Hq hd m t (Hq hd m t p)=Hq hd m t p:=by
 unfold Hq;by_cases e:hd p=m
 ·rw[Ch e,ht,Cg (Et ie)]
 ·rw[Cg e,hi,Cg e]
theorem MZ {hd:Nat->Nat} {m t p:Nat}(h:hd p≠m):Hq hd m t p=hd p:=Cg h
theorem PD {hd:Nat->Nat} {m t p:Nat}(h:hd p=m):Hq hd m t p=t:=Ch h
theorem Gr.link {G:Nat->Option Nd} {hd:Nat->Nat} {L:List Nat}(h:Gr G hd L) {m t:Nat}(ht:hd t=t)(ie:m≠t) {y:Nd}(hy:G t=some y):Gr G (Hq hd m t) L where
 KX:=h.KX
 Fw q x hx:=by
  by_cases e:hd q=m
  ·rw[PD e];exact⟨y,hy⟩
  ·rw[MZ e];exact h.Fw q x hx
 IX:=zpS h.IX ht ie
 all:=h.all
theorem FX.link {hd:Nat->Nat} {O O' el er:List Nat}(h:FX hd O el er) {m t:Nat}(hm:m∉O)(hO:∀c∈O,c∈O'):FX (Hq hd m t) O' el er where
 len:=h.len
 nd:=h.nd
 lo c hc:=hO c (h.lo c hc)
 ro c hc:=hO c (h.ro c hc)
 lk i a b ha hb:=by
  obtain⟨h1,h2⟩:=h.lk i a b ha hb;have pj:b≠m:=λe=>hm (e▸h.ro b (CG hb));refine⟨?_,?_⟩
  ·rw[MZ (by rw[h1];exact pj)];exact h1
  ·rw[MZ (by rw[h2];exact pj)];exact h2
def pf(G:Nat->Option Nd)(hd:Nat->Nat)(O:List Nat):(Sb->Prop)->List tL->List (Dt × Dt)->List Nat->Prop
 |_,[],E,Ns=>E=[]/\Ns=[]
 |A,q::r,E,Ns=>∃el er dl dr nl nr,FX hd O el er/\Tr G el q.l dl nl/\Tr G er q.r dr nr /\
   ((q.d=false/\∃E' N',E=(dl,dr)::E'/\Ns=nl++nr++N'/\pf G hd O (λs=>A s/\ap s dl=ap s dr) r E' N') \/
    (q.d=true/\(∀s,A s->ap s dl=ap s dr)/\∃N',Ns=pn dl q.l++pn dr q.r++N'/\pf G hd O A r E N'))
theorem pf.mono {G:Nat->Option Nd} {hd:Nat->Nat} {O:List Nat} :(l:List tL)->∀ {A A':Sb->Prop} {E:List (Dt × Dt)} {Ns:List Nat},pf G hd O A l E Ns->(∀s,A' s->A s)->pf G hd O A' l E Ns
 |[],_,_,_,_,h,_=>by rw[pf]at h ⊢;exact h
 |q::r,A,A',E,Ns,h,hA=>by
  rw[pf]at h ⊢;obtain⟨el,er,dl,dr,nl,nr,h1,h2,h3,h4⟩:=h;refine⟨el,er,dl,dr,nl,nr,h1,h2,h3,?_⟩;rcases h4 with⟨a,E',N',b,c,d⟩|⟨a,b,N',c,d⟩
  ·exact .inl ⟨a,E',N',b,c,pf.mono r d λs hs=>⟨hA s hs.1,hs.2⟩⟩
  ·exact .inr ⟨a,λs hs=>b s (hA s hs),N',c,pf.mono r d hA⟩
theorem pf.link {G:Nat->Option Nd} {hd:Nat->Nat} {O O':List Nat} {m t:Nat}(hm:m∉O)(hO:∀c∈O,c∈O'):(l:List tL)->∀ {A:Sb->Prop} {E:List (Dt × Dt)} {Ns:List Nat},pf G hd O A l E Ns->pf G (Hq hd m t) O' A l E Ns
 |[],_,_,_,h=>by rw[pf]at h ⊢;exact h
 |q::r,A,E,Ns,h=>by
  rw[pf]at h ⊢;obtain⟨el,er,dl,dr,nl,nr,h1,h2,h3,h4⟩:=h;refine⟨el,er,dl,dr,nl,nr,h1.link hm hO,h2,h3,?_⟩;rcases h4 with⟨a,E',N',b,c,d⟩|⟨a,b,N',c,d⟩
  ·exact .inl ⟨a,E',N',b,c,pf.link hm hO r d⟩
  ·exact .inr ⟨a,b,N',c,pf.link hm hO r d⟩
theorem pf.put {G:Nat->Option Nd} {hd:Nat->Nat} {O:List Nat} :(ps qs:List Nat)->∀ {A:Sb->Prop} {r:List tL} {E:List (Dt × Dt)} {N:List Nat}(el er:List Nat)(ds es:List Dt)(aP jJ:List (List Nat)),FX hd O el er ->
  ps.length=ds.length->qs.length=es.length->ps.length=qs.length->aP.length=ds.length->jJ.length=es.length ->
  (∀(i q:Nat)(u:Dt)(ns:List Nat),ps[i]?=some q->ds[i]?=some u->aP[i]?=some ns->Tr G el q u ns)->(∀(i q:Nat)(u:Dt)(ns:List Nat),qs[i]?=some q->es[i]?=some u->jJ[i]?=some ns->Tr G er q u ns) ->
  pf G hd O (λs=>A s/\∀p∈ds.zip es,ap s p.1=ap s p.2) r E N ->
  pf G hd O A (GU ps qs++r) (ds.zip es++E) ((List.zipWith (·++·) aP jJ).flatten++N)
 |[],[],A,r,E,N,el,er,ds,es,aP,jJ,_,h1,h2,_,h4,h5,_,_,h=>by
  obtain rfl:ds=[]:=Cn (by simpa using h1.symm);obtain rfl:es=[]:=Cn (by simpa using h2.symm);obtain rfl:aP=[]:=Cn (by simpa using h4);simp only[GU,Cu,List.zip_nil_left,List.zipWith_nil_left,List.flatten_nil];exact pf.mono r h λs hs=>⟨hs,λp hp=>by cases hp⟩
 |[],_::_,_,_,_,_,_,_,_,_,_,_,_,_,_,h3,_,_,_,_,_=>by simp at h3
 |_::_,[],_,_,_,_,_,_,_,_,_,_,_,_,_,h3,_,_,_,_,_=>by simp at h3
 |p::ps,q::qs,A,r,E,N,el,er,ds,es,aP,jJ,he,h1,h2,h3,h4,h5,hl,hr,h=>by
  obtain⟨d,ds,rfl⟩:∃d ds',ds=d::ds':=by cases ds with|nil=>simp at h1|cons d ds=>exact⟨d,ds,rfl⟩
  obtain⟨e,es,rfl⟩:∃e gn,es=e::gn:=by cases es with|nil=>simp at h2|cons d ds=>exact⟨d,ds,rfl⟩
  obtain⟨ns,aP,rfl⟩:∃e gn,aP=e::gn:=by cases aP with|nil=>simp at h4|cons d ds=>exact⟨d,ds,rfl⟩
  obtain⟨ms,jJ,rfl⟩:∃e gn,jJ=e::gn:=by cases jJ with|nil=>simp at h5|cons d ds=>exact⟨d,ds,rfl⟩
  simp only[Ca,Nat.add_right_cancel_iff]at h1 h2 h3 h4 h5;simp only[GU,Co,List.zip_cons_cons,List.zipWith_cons_cons,DY];rw[pf];refine⟨el,er,d,e,ns,ms,he,hl 0 p d ns rfl rfl rfl,hr 0 q e ms rfl rfl rfl,.inl ⟨rfl,_,_,rfl,by rw[DC],?_⟩⟩;refine pf.put ps qs el er ds es aP jJ he h1 h2 h3 h4 h5 (λi q u ns a b c=>hl (i+1) q u ns (by simpa using a) (by simpa using b) (by simpa using c)) (λi q u ns a b c=>hr (i+1) q u ns (by simpa using a) (by simpa using b) (by simpa using c)) ?_;exact pf.mono r h λs hs=>⟨hs.1.1,λz hz=>by
   rcases Cd.1 hz with e|hz
   ·rw[e];exact hs.1.2
   ·exact hs.2 z hz⟩
def HV(G:Nat->Option Nd)(e er:List Nat)(h:Nat)(d:Dt)(ns:List Nat):Prop :=
 (Tr G e h d ns/\∀i,d≠.bv i)\/(ns=[]/\∃i nm,d=.bv i/\er[i]?=some h/\G h=some ⟨1,nm,0,[],none,true⟩)
section
variable {G:Nat->Option Nd} {L:List Nat} {hd:Nat->Nat} {k:Sb} {Ns O:List Nat}
theorem F0.head(S:F0 G L hd k Ns O) {e er:List Nat}(hs:∀(i a:Nat),e[i]?=some a->∃b,er[i]?=some b/\hd a=b/\b∈O) {p:Nat} {d:Dt} {ns:List Nat}(h:Tr G e p d ns)(hn:∀x∈ns,x∈Ns):∃d',HV G e er (hd p) d' ns/\ap k d=ap k d'/\(Plain d->Plain d')/\(¬Plain d->d'=d/\((∀i,d≠.bv i)->hd p=p)):=by
 by_cases hp:Plain d
 ·obtain⟨rfl,tX⟩:=h.plain hp
  obtain⟨d',h1,h2,h3⟩:=S.pl p d (tX []) hp;exact⟨d',.inl ⟨(h1.plain h2).2 e,λi e=>LG i (e▸h2)⟩,h3,λ_=>h2,λh=>absurd hp h⟩
 ·by_cases hb:∃i,d=.bv i
  ·obtain⟨i,rfl⟩:=hb
   cases h with
   |bv _ _ nm _ hG hi =>
    obtain⟨b,h1,h2,h3⟩:=hs i p (Vc p e i hi);obtain⟨⟨Ww,h4⟩,-⟩:=S.oc b h3;refine⟨.bv i,.inr ⟨rfl,i,Ww,rfl,by rw[h2];exact h1,by rw[h2];exact h4⟩,rfl,λh=>absurd h hp,λ_=>⟨rfl,λh=>absurd rfl (h i)⟩⟩
   |app _ _ _ _ _ ha _ _ _ _=>simp[App,u_]at ha
  ·have hb:∀i,d≠.bv i:=λi e=>hb ⟨i,e⟩
   have:=S.nh p (hn p (h.Hj hp hb));refine⟨d,.inl ⟨by rw[this];exact h,hb⟩,rfl,λh=>absurd h hp,λ_=>⟨rfl,λ_=>this⟩⟩
theorem FX.left {el er:List Nat}(h:FX hd O el er)(i a:Nat)(ha:el[i]?=some a):∃b,er[i]?=some b/\hd a=b/\b∈O:=by
 have hi:i<er.length:=by rw[<-h.len];exact(Cj.1 ha).1
 exact⟨er[i],BY hi,(h.lk i a _ ha (BY hi)).1,h.ro _ (CS hi)⟩
theorem FX.right {el er:List Nat}(h:FX hd O el er)(i a:Nat)(ha:er[i]?=some a):∃b,er[i]?=some b/\hd a=b/\b∈O:=by
 have hi:i<el.length:=by rw[h.len];exact(Cj.1 ha).1
 exact⟨a,ha,(h.lk i _ a (BY hi) ha).2,h.ro _ (CG ha)⟩
theorem F0.same(S:F0 G L hd k Ns O) {el er:List Nat}(he:FX hd O el er) {p q:Nat} {d e:Dt} {nl nr:List Nat}(hp:Tr G el p d nl)(hq:Tr G er q e nr)(hl:∀x∈nl,x∈Ns)(hr:∀x∈nr,x∈Ns)(hx:∀x∈nl,x∉nr)(h:hd p=hd q):ap k d=ap k e:=by
 obtain⟨d',v1,e1,p1,n1⟩:=S.head he.left hp hl;obtain⟨e',v2,e2,p2,n2⟩:=S.head he.right hq hr;rw[e1,e2];rw[<-h]at v2;rcases v1 with⟨t1,b1⟩|⟨-,i,nm,rfl,g1,c1⟩
 ·rcases v2 with⟨t2,b2⟩|⟨-,i,nm,rfl,g2,c2⟩
  ·by_cases jO:Plain d'
   ·rw[t1.M9 jO t2]
   ·exfalso
    have ai:¬Plain e':=(t1.Ml jO) _ _ _ t2;have wN:¬Plain d:=λh=>jO (p1 h);have zI:¬Plain e:=λh=>ai (p2 h);obtain⟨rfl,f1⟩:=n1 wN;obtain⟨rfl,f2⟩:=n2 zI;have qT:p=q:=by rw[<-f1 b1,<-f2 b2,h]
    exact hx p (hp.Hj wN b1) (by rw[qT];exact hq.Hj zI b2)
  ·exfalso
   obtain⟨x,hx,-,-,-,-,hn⟩:=t1.node;rw[c2]at hx;injection hx with hx;obtain⟨i,hi⟩:=hn.1 (by rw[<-hx]);exact b1 i hi
 ·rcases v2 with⟨t2,b2⟩|⟨-,j,Ww,rfl,g2,c2⟩
  ·exfalso
   obtain⟨x,hx,-,-,-,-,hn⟩:=t2.node;rw[c1]at hx;injection hx with hx;obtain⟨i,hi⟩:=hn.1 (by rw[<-hx]);exact b2 i hi
  ·have h1:=RY (hd p) er he.nd i g1
   have h2:=RY (hd p) er he.nd j g2;rw[h1]at h2;injection h2 with h2;rw[h2]
end
def Kq(k:Sb)(p:Dt × Dt):Dt × Dt:=(ap k p.1,ap k p.2)
def Jh(f:Nat)(l:List tL):Nat:=2*f+(l.filter (·.d)).length
def Ha(G:Nat->Option Nd)(L:List Nat)(hd:Nat->Nat)(k:Sb)(l:List tL)(f:Nat)(o:Nat ⊕ Sb):Prop :=
 ∃E Eu Ns O,F0 G L hd k Ns O/\pf G hd O (λs=>B_ s k) l E Ns/\Fc f Eu k=some o/\Eu.map (Kq k)=E.map (Kq k)
theorem F0.sub {G:Nat->Option Nd} {L:List Nat} {hd:Nat->Nat} {k:Sb} {Ns XR O:List Nat}(S:F0 G L hd k Ns O)(hn:XR.Nodup)(hs:∀x∈XR,x∈Ns):F0 G L hd k XR O where
 gr:=S.gr
 pl:=S.pl
 un:=S.un
 nd:=hn
 nh x hx:=S.nh x (hs x hx)
 np x hx:=S.np x (hs x hx)
 oc c hc:=⟨(S.oc c hc).1,λh=>(S.oc c hc).2 (hs c h)⟩
 ki:=S.ki
 kp:=S.kp
theorem F0.link {G:Nat->Option Nd} {L:List Nat} {hd:Nat->Nat} {k:Sb} {Ns O:List Nat}(S:F0 G L hd k Ns O) {m t:Nat}(ht:hd t=t)(ie:m≠t) {y:Nd}(hy:G t=some y)(hm:m∉Ns)
  (cL:∀d,Tr G [] m d []->Plain d->∃d',Tr G [] t d' []/\Plain d'/\ap k d=ap k d'):F0 G L (Hq hd m t) k Ns O where
 gr:=S.gr.link ht ie hy
 pl p d h hp:=by
  obtain⟨d',h1,h2,h3⟩:=S.pl p d h hp;by_cases e:hd p=m
  ·rw[PD e]
   rw[e]at h1;obtain⟨d2,g1,g2,g3⟩:=cL d' h1 h2;exact⟨d2,g1,g2,h3.trans g3⟩
  ·rw[MZ e];exact⟨d',h1,h2,h3⟩
 un p n h hp:=S.un p n h (Vb ht hp)
 nd:=S.nd
 nh x hx:=by rw[MZ (by rw[S.nh x hx];exact λe=>hm (e▸hx))];exact S.nh x hx
 np:=S.np
 oc:=S.oc
 ki:=S.ki
 kp:=S.kp
theorem Ha.nil {G:Nat->Option Nd} {L:List Nat} {hd:Nat->Nat} {k:Sb} {f:Nat} {o:Nat ⊕ Sb}(h:Ha G L hd k [] f o):o=.inr k/\∃O,F0 G L hd k [] O:=by
 obtain⟨E,Eu,Ns,O,S,he,hu,hm⟩:=h;rw[pf]at he;obtain⟨rfl,rfl⟩:=he;have:Eu=[]:=by simpa using hm
 subst this;cases f with
 |zero=>rw[Fc]at hu;cases hu
 |succ f=>rw[Fc]at hu;injection hu with hu;exact⟨hu.symm,O,S⟩
theorem zjO {k:Sb}(h:GX k):B_ k k:=λn=>h n
theorem KR {d:Dt}(k:Sb)(h:u_ d≠2):u_ (ap k d)=u_ d:=by
 cases d with
 |mt n=>exact absurd rfl h
 |fv x=>rw[JK]
 |bv x=>rw[JX]
 |h_ c l=>rw[Jj];rfl
 |fn a b=>rw[JJ];rfl
 |all t=>rw[Iw];rfl
theorem Ps {d:Dt}(h:u_ d=2):∃n,d=.mt n:=by
 cases d <;> first|exact⟨_,rfl⟩|simp[u_]at h
theorem Ha.IN {G:Nat->Option Nd} {L:List Nat} {hd:Nat->Nat} {k:Sb} {q:tL} {r:List tL} {f:Nat} {o:Nat ⊕ Sb}(h:Ha G L hd k (q::r) f o)(hq:q.d=false):∃el er dl dr nl nr E' N' O a b iR f',F0 G L hd k (nl++nr++N') O/\FX hd O el er/\Tr G el q.l dl nl/\Tr G er q.r dr nr/\pf G hd O (λs=>B_ s k/\ap s dl=ap s dr) r E' N' /\
   f=f'+1/\Fc (f'+1) ((a,b)::iR) k=some o/\ap k a=ap k dl/\ap k b=ap k dr/\iR.map (Kq k)=E'.map (Kq k):=by
 obtain⟨E,Eu,Ns,O,S,he,hu,hm⟩:=h;rw[pf]at he;obtain⟨el,er,dl,dr,nl,nr,h1,h2,h3,⟨-,E',N',rfl,rfl,h4⟩|⟨e,-⟩⟩:=he
 ·cases Eu with
  |nil=>simp at hm
  |cons p iR =>
   obtain⟨a,b⟩:=p;simp only[CA,DF,Kq,DE]at hm;cases f with
   |zero=>rw[Fc]at hu;cases hu
   |succ f'=>exact⟨el,er,dl,dr,nl,nr,E',N',O,a,b,iR,f',S,h1,h2,h3,h4,rfl,hu,hm.1.1,hm.1.2,hm.2⟩
 ·rw[hq]at e;cases e
theorem QN {nl nr N:List Nat}(h:(nl++nr++N).Nodup):N.Nodup/\(∀x∈nl,x∉nr)/\(∀x∈nl++nr,x∉N):=by
 have h1:=DP.1 h;have h2:=DP.1 h1.1;exact⟨h1.2.1,λx hx hy=>h2.2.2 x hx x hy rfl,λx hx hy=>h1.2.2 x hx x hy rfl⟩
theorem Ha.same {G:Nat->Option Nd} {L:List Nat} {hd:Nat->Nat} {k:Sb} {q:tL} {r:List tL} {f:Nat} {o:Nat ⊕ Sb}(h:Ha G L hd k (q::r) f o)(hh:hd q.l=hd q.r):∃f',Jh f' r<Jh f (q::r)/\Ha G L hd k r f' o:=by
 cases hq:q.d with
 |false =>
  obtain⟨el,er,dl,dr,nl,nr,E',N',O,a,b,iR,f',S,h1,h2,h3,h4,rfl,hu,ha,hb,hm⟩:=h.IN hq;obtain⟨n1,n2,n3⟩:=QN S.nd;have hs:=S.same h1 h2 h3 (λx hx=>by simp[hx]) (λx hx=>by simp[hx]) n2 hh;obtain⟨g,hg,oj⟩:=zpQ S.ki (ha.trans (hs.trans hb.symm)) hu;refine⟨g,by unfold Jh;simp[hq];omega,E',iR,N',O,S.sub n1 (λx hx=>by simp[hx]),h4.mono r λs gJ=>⟨gJ,?_⟩,oj,hm⟩;rw[<-gJ.ap dl,<-gJ.ap dr,hs]
 |true =>
  obtain⟨E,Eu,Ns,O,S,he,hu,hm⟩:=h;rw[pf]at he;obtain⟨el,er,dl,dr,nl,nr,h1,h2,h3,⟨e,-⟩|⟨-,hA,N',rfl,h4⟩⟩:=he
  ·rw[hq]at e;cases e
  ·exact⟨f,by unfold Jh;simp[hq],E,Eu,N',O,S.sub (QN S.nd).1 (λx hx=>by simp[hx]),h4,hu,hm⟩
theorem Ha.done {G:Nat->Option Nd} {L:List Nat} {hd:Nat->Nat} {k:Sb} {q:tL} {r:List tL} {f:Nat} {o:Nat ⊕ Sb}(h:Ha G L hd k (q::r) f o)(hq:q.d=true)(ai:hd q.l≠hd q.r):Jh f r<Jh f (q::r)/\Ha G L (Hq hd (hd q.l) (hd q.r)) k r f o:=by
 obtain⟨E,Eu,Ns,O,S,he,hu,hm⟩:=h;rw[pf]at he;obtain⟨el,er,dl,dr,nl,nr,h1,h2,h3,⟨e,-⟩|⟨-,hA,N',rfl,h4⟩⟩:=he
 ·rw[hq]at e;cases e
 ·refine⟨by unfold Jh;simp[hq],?_⟩
  have hk:=hA k (zjO S.ki);obtain⟨n1,n2,n3⟩:=QN S.nd;have ia:Plain dl↔Plain dr:=by
   have a1:=Ou k dl;have a2:=Ou k dr;rw[hk]at a1;exact⟨λh=>(a2.1 (a1.2 ⟨h,λm _=>S.kp m⟩)).1,λh=>(a1.1 (a2.2 ⟨h,λm _=>S.kp m⟩)).1⟩
  have S':F0 G L hd k N' O:=S.sub n1 (λx hx=>by simp[hx]);obtain⟨yl,Tj⟩:∃y,G (hd q.l)=some y:=by obtain⟨x,hx,_⟩:=h2.node;exact S.gr.Fw _ _ hx
  obtain⟨yr,WB⟩:∃y,G (hd q.r)=some y:=by obtain⟨x,hx,_⟩:=h3.node;exact S.gr.Fw _ _ hx
  by_cases hp:Plain dl
  ·have dj:=ia.1 hp
   obtain⟨-,t1⟩:=h2.plain hp;obtain⟨-,t2⟩:=h3.plain dj;obtain⟨d1,v1,v2,v3⟩:=S.pl _ _ (t1 []) hp;obtain⟨d2,u1,u2,u3⟩:=S.pl _ _ (t2 []) dj;have dK:hd q.l∉N':=λhx=>S'.np _ hx _ _ _ v1 v2;have yR:hd q.l∉O:=λhx=>by
    obtain⟨⟨nm,hc⟩,-⟩:=S.oc _ hx;exact Sy hc _ _ _ v1 v2
   refine⟨E,Eu,N',O,S'.link (S.gr.IX _) ai WB dK (λd jO bH=>?_),h4.link yR (λ_ h=>h),hu,hm⟩;have:=v1.M9 v2 jO;subst this;exact⟨d2,u1,u2,by rw[<-v3,<-u3,hk]⟩
  ·have dj:¬Plain dr:=λh=>hp (ia.2 h)
   rw[NT hp,NT dj]at S n3;have e1:hd q.l=q.l:=S.nh _ (by simp);have e2:hd q.r=q.r:=S.nh _ (by simp);rw[e1,e2]at ai ⊢;have dK:q.l∉N':=n3 _ (by simp);have yR:q.l∉O:=λhx=>(S.oc _ hx).2 (by simp);rw[e2]at WB
   exact⟨E,Eu,N',O,S'.link e2 ai WB dK (λd jO bH=>absurd bH (h2.Ml hp _ _ _ jO)),h4.link yR (λ_ h=>h),hu,hm⟩
theorem zrc {d e:Dt}(h2:u_ d≠2)(h1:u_ d≠1)(hk:u_ d=u_ e)(hl:(EY d).length=(EY e).length)(hn:u_ d=3->IE d=IE e):act d e=.push ((EY d).zip (EY e)):=by
 cases d with
 |fv x=>exact absurd rfl h1
 |bv x=>exact absurd rfl h1
 |mt n=>exact absurd rfl h2
 |h_ c l=>cases e with
  |h_ c' l' =>
   have:=hn rfl;simp[IE]at this;exact Ch ⟨this,hl⟩
  |_=>simp[u_]at hk
 |fn a b=>cases e with
  |fn a' b'=>rfl
  |_=>simp[u_]at hk
 |all t=>cases e with
  |all t'=>rfl
  |_=>simp[u_]at hk
theorem znS {d e:Dt}(h2:u_ d≠2)(h3:u_ e≠2)(hf:¬(u_ d=u_ e/\(EY d).length=(EY e).length/\u_ d≠1/\(u_ d=3->IE d=IE e)))(ai:d≠e):act d e=.FA:=by
 cases d with
 |mt n=>exact absurd rfl h2
 |fv x=>cases e with
  |mt n=>exact absurd rfl h3
  |fv y=>exact Cg (λh=>ai (by rw[h]))
  |_=>rfl
 |bv x=>cases e with
  |mt n=>exact absurd rfl h3
  |bv y=>exact Cg (λh=>ai (by rw[h]))
  |_=>rfl
 |h_ c l=>cases e with
  |mt n=>exact absurd rfl h3
  |h_ c' l' =>
   refine Cg ?_;rintro⟨h,h'⟩;exact hf ⟨rfl,h',by simp[u_],λ_=>by simp[IE,h]⟩
  |_=>rfl
 |fn a b=>cases e with
  |mt n=>exact absurd rfl h3
  |fn a' b'=>exact absurd ⟨rfl,rfl,by simp[u_],λh=>by simp[u_]at h⟩ hf
  |_=>rfl
 |all t=>cases e with
  |mt n=>exact absurd rfl h3
  |all t'=>exact absurd ⟨rfl,rfl,by simp[u_],λh=>by simp[u_]at h⟩ hf
  |_=>rfl
theorem HV.node {G:Nat->Option Nd} {e er:List Nat} {h:Nat} {d:Dt} {ns:List Nat}(v:HV G e er h d ns):∃x,G h=some x/\x.kd=u_ d/\x.kids.length=(EY d).length/\(App d->x.nm=IE d)/\(∀n,d=.mt n->x.n=n):=by
 rcases v with⟨t,_⟩|⟨-,i,nm,rfl,_,hG⟩
 ·obtain⟨x,h1,h2,h3,h4,h5,_⟩:=t.node
  exact⟨x,h1,h2,h3,h4,h5⟩
 ·exact⟨_,hG,rfl,rfl,λh=>by simp[App,u_]at h,λn h=>by cases h⟩
theorem KI(k:Sb) {d:Dt}(h:u_ d≠2):EY (ap k d)=(EY d).map (ap k)/\IE (ap k d)=IE d:=by
 cases d with
 |mt n=>exact absurd rfl h
 |fv x=>rw[JK];exact⟨rfl,rfl⟩
 |bv x=>rw[JX];exact⟨rfl,rfl⟩
 |h_ c l=>rw[Jj,KL];exact⟨rfl,rfl⟩
 |fn a b=>rw[JJ];exact⟨rfl,rfl⟩
 |all t=>rw[Iw];exact⟨rfl,rfl⟩
theorem Va {x y:Nd} {d e:Dt}(hx:x.kd=u_ d/\x.kids.length=(EY d).length/\(App d->x.nm=IE d))(hy:y.kd=u_ e/\y.kids.length=(EY e).length/\(App e->y.nm=IE e)):F_ x y=true↔(u_ d=u_ e/\(EY d).length=(EY e).length/\u_ d≠1/\(u_ d=3->IE d=IE e)):=by
 unfold F_;simp only[EB,ED,bne_iff_ne,Er,decide_eq_true_eq,ne_eq];rw[hx.1,hy.1,hx.2.1,hy.2.1];constructor
 ·rintro⟨⟨⟨a,b⟩,c⟩,d'⟩
  refine⟨a,b,c,λh3=>?_⟩;rcases d' with h|h
  ·exact absurd h3 h
  ·rw[hx.2.2 (.inl h3),hy.2.2 (.inl (a▸h3))]at h;exact h
 ·rintro⟨a,b,c,d'⟩
  refine⟨⟨⟨a,b⟩,c⟩,?_⟩;by_cases h3:u_ d=3
  ·exact .inr (by rw[hx.2.2 (.inl h3),hy.2.2 (.inl (a▸h3))];exact d' h3)
  ·exact .inl h3
theorem HV.ne {G:Nat->Option Nd}(gs:L7 G) {el er:List Nat} {h h':Nat} {d:Dt} {nl nr:List Nat}(v:HV G el er h d nl)(v':HV G er er h' d nr)(hk:u_ d=1):h=h':=by
 rcases v with⟨t,b⟩|⟨-,i,nm,rfl,g,hG⟩
 ·rcases v' with⟨t',b'⟩|⟨-,i,nm,rfl,_,_⟩
  ·cases d with
   |fv x =>
    cases t with
    |fv _ _ _ h1 =>
     cases t' with
     |fv _ _ _ h2=>exact gs.vv _ _ _ h1 h2
     |app _ _ _ _ _ ha _ _ _ _=>simp[App,u_]at ha
    |app _ _ _ _ _ ha _ _ _ _=>simp[App,u_]at ha
   |bv i=>exact absurd rfl (b i)
   |_=>simp[u_]at hk
  ·exact absurd rfl (b i)
 ·rcases v' with⟨t',b'⟩|⟨-,j,Ww,e,g',_⟩
  ·exact absurd rfl (b' i)
  ·injection e with e
   subst e;rw[g]at g';injection g'
theorem Ha.FA {G:Nat->Option Nd} {L:List Nat} {hd:Nat->Nat} {k:Sb} {q:tL} {r:List tL} {f:Nat} {o:Nat ⊕ Sb}(gs:L7 G)(h:Ha G L hd k (q::r) f o)(hq:q.d=false)(ai:hd q.l≠hd q.r) {x y:Nd}(hx:G (hd q.l)=some x)(hy:G (hd q.r)=some y)
  (hk:x.kd≠2/\y.kd≠2)(hf:F_ x y=false):o=.inl 40:=by
 obtain⟨el,er,dl,dr,nl,nr,E',N',O,a,b,iR,f',S,h1,h2,h3,h4,rfl,hu,ha,hb,hm⟩:=h.IN hq;obtain⟨d',v1,e1,p1,n1⟩:=S.head h1.left h2 (λx hx=>by simp[hx]);obtain⟨e',v2,e2,p2,n2⟩:=S.head h1.right h3 (λx hx=>by simp[hx]);obtain⟨x',ep,x1,x2,x3,-⟩:=v1.node;obtain⟨y',iw,y1,y2,y3,-⟩:=v2.node;rw[hx]at ep;injection ep with ep;subst ep
 rw[hy]at iw;injection iw with iw;subst iw
 have k1:u_ d'≠2:=by rw[<-x1];exact hk.1
 have k2:u_ e'≠2:=by rw[<-y1];exact hk.2
 have wM:=Va ⟨x1,x2,x3⟩ ⟨y1,y2,y3⟩;have gj:act (ap k a) (ap k b)=.FA:=by
  rw[ha,hb,e1,e2];refine znS (by rw[KR k k1];exact k1) (by rw[KR k k2];exact k2) ?_ ?_
  ·rw[KR k k1,KR k k2,(KI k k1).1,(KI k k2).1,(KI k k1).2,(KI k k2).2,CE,CE,<-wM,hf]
   exact D8
  ·intro e
   by_cases k3:u_ d'=1
   ·have k4:u_ e'=1:=by have:=Cp u_ e;rw[KR k k1,KR k k2]at this;rw[<-this];exact k3
    have:d'=e':=by
     cases d' <;> simp[u_]at k3 <;> cases e' <;> simp[u_]at k4 <;> first|(simp[JK,JX]at e;done)|(simpa[JK,JX] using e)
    subst this;exact ai (v1.ne gs v2 k3)
   ·have:F_ x y=true:=by
     rw[wM];have c1:=Cp u_ e;have c2:=Cp (λz=>(EY z).length) e;have c3:=Cp IE e;simp only[KR k k1,KR k k2,(KI k k1).1,(KI k k2).1,(KI k k1).2,(KI k k2).2,CE]at c1 c2 c3;exact⟨c1,c2,k3,λ_=>c3⟩
    rw[hf]at this;cases this
 rw[Fc,gj]at hu;injection hu with hu;exact hu.symm
end
section
open Lx Tx
set_option maxRecDepth 100000
theorem zfd(a:Nat):(l m:List (List Nat))->l.length=m.length->(List.zipWith (·++·) l m).flatten.count a=l.flatten.count a+m.flatten.count a
 |[],[],_=>rfl
 |[],_::_,h=>by simp at h
 |_::_,[],h=>by simp at h
 |x::l,y::m,h=>by
  rw[List.zipWith_cons_cons,DY,DY,DY,Ea,Ea,Ea,Ea,zfd a l m (by simpa using h)];omega
theorem zrd(k:Sb)(hk:GX k)(l m:List Dt):((l.map (ap k)).zip (m.map (ap k))).map (Kq k)=(l.zip m).map (Kq k):=by
 rw[List.zip_map,DS];refine Ed λp _=>?_;simp[Kq,Prod.map,KQ hk]
theorem Wf:(l m:List Nat)->((GU l m).filter (·.d))=[]
 |[],_=>rfl
 |_::_,[]=>rfl
 |_::l,_::m=>by rw[GU,Di (by simp)];exact Wf l m
theorem App.Og {d e:Dt}(ha:App d)(hk:u_ d=u_ e)(hl:(EY d).length=(EY e).length)(hn:u_ d=3->IE d=IE e)(s:Sb)(h:∀p∈(EY d).zip (EY e),Tx.ap s p.1=Tx.ap s p.2):Tx.ap s d=Tx.ap s e:=by
 have he:App e:=by unfold App at ha ⊢;rw[<-hk];exact ha
 obtain⟨a1,a2,a3,a4⟩:=ha.ap s;obtain⟨b1,b2,b3,b4⟩:=he.ap s;refine App.ext a1 (a2.trans (hk.trans b2.symm)) ?_ ?_
 ·rw[a3,b3]
  rcases ha with h3|h4
  ·exact hn h3
  ·have h5:u_ e=4:=by rw[<-hk];exact h4
   cases d <;> simp[u_]at h4;cases e <;> simp[u_]at h5;rfl
 ·rw[a4,b4]
  refine List.ext_getElem (by simpa using hl) λi i1 i2=>?_;rw[D6,D6]
  simp only[CE]at i1 i2;exact h ((EY d)[i],(EY e)[i]) (CN.2 ⟨i,by rw[List.length_zip];omega,by rw[List.getElem_zip]⟩)
theorem Ha.push {G:Nat->Option Nd} {L:List Nat} {hd:Nat->Nat} {k:Sb} {q:tL} {r:List tL} {f:Nat} {o:Nat ⊕ Sb}(h:Ha G L hd k (q::r) f o)(hq:q.d=false) {x y:Nd}(hx:G (hd q.l)=some x)(hy:G (hd q.r)=some y)
  (hk:x.kd≠2/\y.kd≠2/\x.kd≠5)(hf:F_ x y=true):∃f',Jh f' (GU x.kids y.kids++⟨hd q.l,hd q.r,true⟩::r)<Jh f (q::r)/\Ha G L hd k (GU x.kids y.kids++⟨hd q.l,hd q.r,true⟩::r) f' o:=by
 obtain⟨el,er,dl,dr,nl,nr,E',N',O,a,b,iR,f',S,h1,h2,h3,h4,rfl,hu,ha,hb,hm⟩:=h.IN hq;obtain⟨d',v1,e1,p1,n1⟩:=S.head h1.left h2 (λx hx=>by simp[hx]);obtain⟨e',v2,e2,p2,n2⟩:=S.head h1.right h3 (λx hx=>by simp[hx]);obtain⟨x',ep,x1,x2,x3,-⟩:=v1.node;obtain⟨y',iw,y1,y2,y3,-⟩:=v2.node;rw[hx]at ep;injection ep with ep;subst ep
 rw[hy]at iw;injection iw with iw;subst iw
 obtain⟨c1,c2,c3,c4⟩:=(Va ⟨x1,x2,x3⟩ ⟨y1,y2,y3⟩).1 hf;have k1:u_ d'≠2:=by rw[<-x1];exact hk.1
 have k2:u_ e'≠2:=by rw[<-y1];exact hk.2.1
 have k5:u_ d'≠5:=by rw[<-x1];exact hk.2.2
 have cB:App d':=by cases d' <;> simp[App,u_]at k1 k5 c3 ⊢
 have lV:App e':=by unfold App at cB ⊢;rw[<-c1];exact cB
 have gj:act (ap k a) (ap k b)=.push ((EY (ap k d')).zip (EY (ap k e'))):=by
  rw[ha,hb,e1,e2];refine zrc (by rw[KR k k1];exact k1) (by rw[KR k k1];exact c3) (by rw[KR k k1,KR k k2];exact c1) (by rw[(KI k k1).1,(KI k k2).1,CE,CE];exact c2) (λh3=>?_);rw[KR k k1]at h3;rw[(KI k k1).2,(KI k k2).2];exact c4 h3
 rw[Fc,gj]at hu;replace hu:Fc f' ((EY (ap k d')).zip (EY (ap k e'))++iR) k=some o:=hu;rw[(KI k k1).1,(KI k k2).1]at hu;obtain⟨t1,b1⟩:Tr G el (hd q.l) d' nl/\∀i,d'≠.bv i:=by
  rcases v1 with h|⟨-,i,nm,e,_⟩
  ·exact h
  ·exact absurd e (cB.Lf i)
 obtain⟨t2,b2⟩:Tr G er (hd q.r) e' nr/\∀i,e'≠.bv i:=by
  rcases v2 with h|⟨-,i,nm,e,_⟩
  ·exact h
  ·exact absurd e (lV.Lf i)
 have T1:=t1;have T2:=t2;cases t1 with
 |fv=>simp[App,u_]at cB
 |bv=>simp[App,u_]at cB
 |mt=>simp[App,u_]at cB
 |all=>simp[App,u_]at cB
 |app _ _ _ ps aP _ g1 l1 l2 kk1 =>
 cases t2 with
 |fv=>simp[App,u_]at lV
 |bv=>simp[App,u_]at lV
 |mt=>simp[App,u_]at lV
 |all=>simp[App,u_]at lV
 |app _ _ _ qs jJ _ g2 m1 m2 kk2 =>
 rw[g1]at hx;injection hx with hx;subst hx
 rw[g2]at hy;injection hy with hy;subst hy
 have qh:∀z,((List.zipWith (·++·) aP jJ).flatten++(pn d' (hd q.l)++pn e' (hd q.r)++N')).count z=(pn d' (hd q.l)++aP.flatten++(pn e' (hd q.r)++jJ.flatten)++N').count z:=by
  intro z;simp only[Ea,zfd z aP jJ (by omega)];omega
 have jq:((List.zipWith (·++·) aP jJ).flatten++(pn d' (hd q.l)++pn e' (hd q.r)++N')).Perm (pn d' (hd q.l)++aP.flatten++(pn e' (hd q.r)++jJ.flatten)++N'):=List.perm_iff_count.2 qh;refine⟨f',?_,(EY d').zip (EY e')++E',((EY d').map (ap k)).zip ((EY e').map (ap k))++iR,_,O,S.sub (jq.nodup_iff.2 S.nd) (λz hz=>jq.mem_iff.1 hz),?_,hu,?_⟩
 ·unfold Jh
  rw[Eg,Wf,Cu,Dw rfl,Di (by simp[hq])];simp;omega
 ·refine pf.put ps qs el er (EY d') (EY e') aP jJ h1 l1 m1 (by omega) l2 m2 kk1 kk2 ?_
  rw[pf];refine⟨el,er,d',e',_,_,h1,T1,T2,.inr ⟨rfl,λs hs=>App.Og cB c1 c2 c4 s hs.2,N',rfl,h4.mono r λs hs=>⟨hs.1,?_⟩⟩⟩;rw[<-hs.1.ap dl,<-hs.1.ap dr,e1,e2,hs.1.ap,hs.1.ap];exact App.Og cB c1 c2 c4 s hs.2
 ·rw[Dn,Dn,hm,zrd k S.ki]
theorem Ha.open_ {G:Nat->Option Nd} {L:List Nat} {hd:Nat->Nat} {k:Sb} {q:tL} {r:List tL} {f:Nat} {o:Nat ⊕ Sb}(h:Ha G L hd k (q::r) f o)(hq:q.d=false) {x y:Nd}(hx:G (hd q.l)=some x)(hy:G (hd q.r)=some y)
  (hk:x.kd=5)(hf:F_ x y=true):∃lc rc xl yr,x.h_=some lc/\G lc=some xl/\hd lc=lc/\y.h_=some rc/\G rc=some yr/\hd rc=rc/\lc≠rc/\∃f',Jh f' (GU x.kids y.kids++⟨hd q.l,hd q.r,true⟩::r)<Jh f (q::r)/\Ha G L (Hq hd lc rc) k (GU x.kids y.kids++⟨hd q.l,hd q.r,true⟩::r) f' o:=by
 obtain⟨el,er,dl,dr,nl,nr,E',N',O,a,b,iR,f',S,h1,h2,h3,h4,rfl,hu,ha,hb,hm⟩:=h.IN hq;obtain⟨d',v1,e1,p1,n1⟩:=S.head h1.left h2 (λx hx=>by simp[hx]);obtain⟨e',v2,e2,p2,n2⟩:=S.head h1.right h3 (λx hx=>by simp[hx]);obtain⟨x',ep,x1,x2,x3,-⟩:=v1.node;obtain⟨y',iw,y1,y2,y3,-⟩:=v2.node;rw[hx]at ep;injection ep with ep;subst ep
 rw[hy]at iw;injection iw with iw;subst iw
 obtain⟨c1,c2,c3,c4⟩:=(Va ⟨x1,x2,x3⟩ ⟨y1,y2,y3⟩).1 hf;have k5:u_ d'=5:=by rw[<-x1];exact hk
 obtain⟨tl,rfl⟩:∃t,d'=.all t:=by cases d' <;> simp[u_]at k5;exact⟨_,rfl⟩
 obtain⟨tr,rfl⟩:∃t,e'=.all t:=by cases e' <;> simp[u_]at c1;exact⟨_,rfl⟩
 have cL:¬Plain dl:=λh=>LY _ (p1 h);have fU:¬Plain dr:=λh=>LY _ (p2 h);obtain⟨rfl,f1⟩:=n1 cL;obtain⟨rfl,f2⟩:=n2 fU;have f1:=f1 (by simp);have f2:=f2 (by simp);rw[f1]at hx v1 ⊢
 rw[f2]at hy v2 ⊢;clear e1 e2 p1 p2 n1 n2 v1 v2;cases h2 with
 |app _ _ _ _ _ ha _ _ _ _=>simp[App,u_]at ha
 |all _ _ nx _ ql lc Ls g1 cl T1 =>
 cases h3 with
 |app _ _ _ _ _ ha _ _ _ _=>simp[App,u_]at ha
 |all _ _ ny _ qr rc Lr g2 cr T2 =>
 rw[g1]at hx;injection hx with hx;subst hx
 rw[g2]at hy;injection hy with hy;subst hy
 have gj:act (ap k a) (ap k b)=.push [(ap k tl,ap k tr)]:=by rw[ha,hb,Iw,Iw];rfl
 rw[Fc,gj]at hu;replace hu:Fc f' ((ap k tl,ap k tr)::iR) k=some o:=hu;have iJ:∀z,((Ls++Lr)++([q.l]++[q.r]++N')).count z+([lc]++[rc]).count z<=1:=by
  intro z;have:=(List.nodup_iff_count.1 S.nd) z;have e1:q.l::lc::Ls=[q.l]++[lc]++Ls:=rfl;have e2:q.r::rc::Lr=[q.r]++[rc]++Lr:=rfl;rw[e1,e2]at this;simp only[Ea]at this ⊢;omega
 have eJ:((Ls++Lr)++([q.l]++[q.r]++N')).Nodup:=List.nodup_iff_count.2 λz=>by have:=iJ z;omega
 have hlN:lc∉(Ls++Lr)++([q.l]++[q.r]++N'):=λh=>by
  have h1:=Eh.2 h;have h2:=iJ lc;have h3:0<([lc]++[rc]).count lc:=Eh.2 (by simp);omega
 have WQ:rc∉(Ls++Lr)++([q.l]++[q.r]++N'):=λh=>by
  have h1:=Eh.2 h;have h2:=iJ rc;have h3:0<([lc]++[rc]).count rc:=Eh.2 (by simp);omega
 have gz:lc≠rc:=λe=>by
  have h2:=iJ lc;subst e;have h3:([lc]++[lc]).count lc=2:=by simp
  omega
 have dK:lc∈q.l::lc::Ls++(q.r::rc::Lr)++N':=by simp
 have yP:rc∈q.l::lc::Ls++(q.r::rc::Lr)++N':=by simp
 have hlO:lc∉O:=λh=>(S.oc _ h).2 dK;have hrO:rc∉O:=λh=>(S.oc _ h).2 yP;have el1:=S.nh lc dK;have T9:=S.nh rc yP;obtain⟨nml,gl⟩:=cl;obtain⟨nmr,gr⟩:=cr;have S1:F0 G L hd k ((Ls++Lr)++([q.l]++[q.r]++N')) O:=S.sub eJ (λz hz=>by
  have:=Eh.2 hz;refine Eh.1 ?_;have e1:q.l::lc::Ls=[q.l]++[lc]++Ls:=rfl;have e2:q.r::rc::Lr=[q.r]++[rc]++Lr:=rfl;rw[e1,e2];simp only[Ea]at this ⊢;omega)
 have S2:F0 G L (Hq hd lc rc) k ((Ls++Lr)++([q.l]++[q.r]++N')) O:=S1.link T9 gz gr hlN (λd h hp=>absurd hp (Sy gl _ _ _ h));have S3:F0 G L (Hq hd lc rc) k ((Ls++Lr)++([q.l]++[q.r]++N')) (lc::rc::O) :=
  ⟨S2.gr,S2.pl,S2.un,S2.nd,S2.nh,S2.np,λc hc=>by
   rcases Cd.1 hc with e|hc
   ·rw[e];exact⟨⟨nml,gl⟩,hlN⟩
   ·rcases Cd.1 hc with e|hc
    ·rw[e];exact⟨⟨nmr,gr⟩,WQ⟩
    ·exact S2.oc c hc,S2.ki,S2.kp⟩
 have hO:∀c∈O,c∈lc::rc::O:=λc hc=>by simp[hc]
 have TD:=h1.link (t:=rc) hlO hO;have he:FX (Hq hd lc rc) (lc::rc::O) (lc::el) (rc::er) :=
  ⟨by simp[h1.len],CO.2 ⟨λh=>hrO (h1.ro _ h),h1.nd⟩,λc hc=>by
   rcases Cd.1 hc with e|hc
   ·simp[e]
   ·exact TD.lo c hc,λc hc=>by
   rcases Cd.1 hc with e|hc
   ·simp[e]
   ·exact TD.ro c hc,λi a b h h'=>by
   cases i with
   |zero =>
    simp at h h';subst h h';exact⟨PD el1,by rw[MZ (by rw[T9];exact Et gz)];exact T9⟩
   |succ i=>exact TD.lk i a b (by simpa using h) (by simpa using h')⟩
 refine⟨lc,rc,_,_,rfl,gl,el1,rfl,gr,T9,gz,f',?_,(tl,tr)::E',(ap k tl,ap k tr)::iR,_,_,S3,?_,hu,?_⟩
 ·unfold Jh
  rw[Eg,Wf,Cu,Dw rfl,Di (by simp[hq])];simp;omega
 ·show pf G _ _ _ (⟨ql,qr,false⟩::⟨q.l,q.r,true⟩::r) _ _
  rw[pf];refine⟨lc::el,rc::er,tl,tr,Ls,Lr,he,T1,T2,.inl ⟨rfl,E',_,rfl,rfl,?_⟩⟩;rw[pf];refine⟨el,er,.all tl,.all tr,_,_,TD,.all _ _ _ _ _ _ _ g1 ⟨nml,gl⟩ T1,.all _ _ _ _ _ _ _ g2 ⟨nmr,gr⟩ T2,.inr ⟨rfl,λs hs=>by rw[Iw,Iw,hs.2],N',by rw[NT cL,NT fU],?_⟩⟩;exact(h4.link hlO hO).mono r λs hs=>⟨hs.1,by rw[Iw,Iw,hs.2]⟩
 ·rw[CA,CA,hm]
  congr 1
  simp[Kq,KQ S.ki]
end
section
open Lx Tx
inductive Wi:Dt->Dt->Prop
 |refl (d:Dt):Wi d d
 |Hm (d u e:Dt):u∈EY d->Wi u e->Wi d e
theorem Wi.tail {d u e:Dt}(h:Wi d u)(he:e∈EY u):Wi d e:=by
 induction h with
 |refl d=>exact .Hm d e e he (.refl e)
 |Hm d u' _ hu _ ih=>exact .Hm d u' e hu (ih he)
theorem Wi.OL(n:Nat)(d:Dt):a_ n d↔Wi d (.mt n):=by
 constructor
 ·induction d using Dt.ind with
  |hf x=>intro h;rw[a_]at h;exact h.elim
  |hb i=>intro h;rw[a_]at h;exact h.elim
  |hm m=>intro h;rw[a_]at h;rw[h];exact .refl _
  |hc c l ih =>
   intro h;rw[a_,J2]at h;obtain⟨u,hu,h⟩:=h;exact .Hm _ u _ hu (ih u hu h)
  |hn a b dC dR =>
   intro h;rw[a_]at h;rcases h with h|h
   ·exact .Hm _ a _ (by simp[EY]) (dC h)
   ·exact .Hm _ b _ (by simp[EY]) (dR h)
  |ha t ih=>intro h;rw[a_]at h;exact .Hm _ t _ (by simp[EY]) (ih h)
 ·intro h
  generalize he:Dt.mt n=e at h;induction h with
  |refl d=>subst he;rw[a_]
  |Hm d u e hu _ ih =>
   have:=ih he;cases d with
   |h_ c l=>rw[a_,J2];exact⟨u,hu,this⟩
   |fn a b =>
    simp[EY]at hu;rw[a_];rcases hu with rfl|rfl
    ·exact .inl this
    ·exact .inr this
   |all t=>simp[EY]at hu;subst hu;rw[a_];exact this
   |_=>cases hu
theorem Wi.r_(d:Dt):ET d=true↔∃t,Wi d (.all t):=by
 constructor
 ·induction d using Dt.ind with
  |hf x=>intro h;rw[ET]at h <;> simp at *
  |hb i=>intro h;rw[ET]at h <;> simp at *
  |hm m=>intro h;rw[ET]at h <;> simp at *
  |hc c l ih =>
   intro h;rw[ET,QU,En]at h;obtain⟨u,hu,h⟩:=h;obtain⟨t,ht⟩:=ih u hu h;exact⟨t,.Hm _ u _ hu ht⟩
  |hn a b dC dR =>
   intro h;rw[ET,Er]at h;rcases h with h|h
   ·obtain⟨t,ht⟩:=dC h;exact⟨t,.Hm _ a _ (by simp[EY]) ht⟩
   ·obtain⟨t,ht⟩:=dR h;exact⟨t,.Hm _ b _ (by simp[EY]) ht⟩
  |ha t ih=>intro _;exact⟨t,.refl _⟩
 ·rintro⟨t,h⟩
  generalize he:Dt.all t=e at h;induction h with
  |refl d=>subst he;rw[ET]
  |Hm d u e hu _ ih =>
   have:=ih he;cases d with
   |h_ c l=>rw[ET,QU,En];exact⟨u,hu,this⟩
   |fn a b =>
    simp[EY]at hu;rw[ET,Er];rcases hu with rfl|rfl
    ·exact .inl this
    ·exact .inr this
   |all t=>rw[ET]
   |_=>cases hu
theorem Wi.bv(d:Dt):Ji d=true↔∃i,Wi d (.bv i):=by
 constructor
 ·induction d using Dt.ind with
  |hf x=>intro h;rw[Ji]at h <;> simp at *
  |hb i=>intro _;exact⟨i,.refl _⟩
  |hm m=>intro h;rw[Ji]at h <;> simp at *
  |hc c l ih =>
   intro h;rw[Ji,Sh,En]at h;obtain⟨u,hu,h⟩:=h;obtain⟨t,ht⟩:=ih u hu h;exact⟨t,.Hm _ u _ hu ht⟩
  |hn a b dC dR =>
   intro h;rw[Ji,Er]at h;rcases h with h|h
   ·obtain⟨t,ht⟩:=dC h;exact⟨t,.Hm _ a _ (by simp[EY]) ht⟩
   ·obtain⟨t,ht⟩:=dR h;exact⟨t,.Hm _ b _ (by simp[EY]) ht⟩
  |ha t ih =>
   intro h;rw[Ji]at h;obtain⟨i,hi⟩:=ih h;exact⟨i,.Hm _ t _ (by simp[EY]) hi⟩
 ·rintro⟨i,h⟩
  generalize he:Dt.bv i=e at h;induction h with
  |refl d=>subst he;rw[Ji]
  |Hm d u e hu _ ih =>
   have:=ih he;cases d with
   |h_ c l=>rw[Ji,Sh,En];exact⟨u,hu,this⟩
   |fn a b =>
    simp[EY]at hu;rw[Ji,Er];rcases hu with rfl|rfl
    ·exact .inl this
    ·exact .inr this
   |all t=>simp[EY]at hu;subst hu;rw[Ji];exact this
   |_=>cases hu
theorem Km.cons {G:Nat->Option Nd} {hd:Nat->Nat} {p c q:Nat} {x:Nd}(hx:G p=some x)(hc:c∈x.kids)(h:Km G hd (hd c) q):Km G hd p q:=by
 generalize hr:hd c=r at h;induction h with
 |refl=>rw[<-hr];exact .step p p c x (.refl p) hx hc
 |step q k y _ hy hk ih=>exact .step p q k y ih hy hk
def GV(G:Nat->Option Nd)(hd:Nat->Nat)(k:Sb)(q:Nat)(D:Dt):Prop :=
 (∃env d ns,Tr G env q d ns/\(∀i,d≠.bv i)/\(∀x∈ns,hd x=x)/\(∀c∈env,∃nm,G (hd c)=some ⟨1,nm,0,[],none,true⟩)/\D=ap k d)\/((∃i,D=.bv i)/\∃nm,G q=some ⟨1,nm,0,[],none,true⟩)
section
variable {G:Nat->Option Nd} {L:List Nat} {hd:Nat->Nat} {k:Sb} {Ns O:List Nat}
theorem F0.gv(S:F0 G L hd k Ns O) {env:List Nat} {p:Nat} {d:Dt} {ns:List Nat}(h:Tr G env p d ns)(hn:∀x∈ns,hd x=x)(he:∀c∈env,∃nm,G (hd c)=some ⟨1,nm,0,[],none,true⟩):GV G hd k (hd p) (ap k d):=by
 by_cases hp:Plain d
 ·obtain⟨-,tX⟩:=h.plain hp
  obtain⟨d',h1,h2,h3⟩:=S.pl p d (tX []) hp;exact .inl ⟨[],d',[],h1,λi e=>LG i (e▸h2),(λx hx=>by cases hx),(λx hx=>by cases hx),h3⟩
 ·by_cases hb:∃i,d=.bv i
  ·obtain⟨i,rfl⟩:=hb
   cases h with
   |bv _ _ nm _ hG hi=>exact .inr ⟨⟨i,JX k i⟩,he p (CG (Vc p env i hi))⟩
   |app _ _ _ _ _ ha _ _ _ _=>simp[App,u_]at ha
  ·have hb:∀i,d≠.bv i:=λi e=>hb ⟨i,e⟩
   rw[hn p (h.Hj hp hb)];exact .inl ⟨env,d,ns,h,hb,hn,he,rfl⟩
theorem F0.LC(S:F0 G L hd k Ns O) {q:Nat} {D:Dt}(h:GV G hd k q D)(hq:hd q=q) {x:Nd}(hx:G q=some x):(∀c∈x.kids,∃u∈EY D,GV G hd k (hd c) u)/\(∀u∈EY D,∃c∈x.kids,GV G hd k (hd c) u):=by
 rcases h with⟨env,d,ns,ht,hb,hn,he,rfl⟩|⟨⟨i,rfl⟩,nm,hG⟩
 ·cases ht with
  |fv _ _ y hy =>
   rw[hy]at hx;injection hx with hx;subst hx
   rw[JK];exact⟨(λc hc=>by cases hc),(λu hu=>by cases hu)⟩
  |bv _ _ _ i _ _=>exact absurd rfl (hb i)
  |mt _ _ n hy =>
   rw[hy]at hx;injection hx with hx;subst hx
   rw[Ge,S.un q n hy hq];exact⟨(λc hc=>by cases hc),(λu hu=>by cases hu)⟩
  |app _ _ _ ps aP ha hy h1 h2 h3 =>
   rw[hy]at hx;injection hx with hx;subst hx
   rw[(ha.ap k).2.2.2];have key:∀i (i1:i<ps.length) (i2:i<(EY d).length),GV G hd k (hd ps[i]) (ap k (EY d)[i]):=λi i1 i2=>by
    refine S.gv (h3 i _ _ _ (BY i1) (BY i2) (BY (show i<aP.length by omega))) (λx hx=>hn x (CP _ (List.mem_flatten.2 ⟨_,CS _,hx⟩))) he
   constructor
   ·intro c hc
    obtain⟨i,hi,rfl⟩:=CN.1 (show c∈ps from hc);exact⟨_,Ct.2 ⟨_,CS (show i<(EY d).length by omega),rfl⟩,key i hi (by omega)⟩
   ·intro u hu
    obtain⟨u,oj,rfl⟩:=Ct.1 hu;obtain⟨i,hi,rfl⟩:=CN.1 oj;exact⟨_,CS (show i<ps.length by omega),key i (by omega) hi⟩
  |all _ _ y t qq c ns hy hc ht =>
   rw[hy]at hx;injection hx with hx;subst hx
   rw[Iw];have key:GV G hd k (hd qq) (ap k t):=S.gv ht (λx hx=>hn x (by simp[hx])) (λz hz=>by
    rcases Cd.1 hz with e|hz
    ·obtain⟨nm,hc⟩:=hc
     rw[e,hn c (by simp)];exact⟨nm,hc⟩
    ·exact he z hz)
   exact⟨λz hz=>by rw[Cx.1 hz];exact⟨_,by simp[EY],key⟩,λu hu=>by simp[EY]at hu;subst hu;exact⟨qq,by simp,key⟩⟩
 ·rw[hG]at hx;injection hx with hx;subst hx
  exact⟨(λc hc=>by cases hc),(λu hu=>by cases hu)⟩
theorem F0.Lc(S:F0 G L hd k Ns O) {p q:Nat} {D:Dt}(hp:GV G hd k p D)(hh:hd p=p)(h:Km G hd p q):hd q=q/\∃E,Wi D E/\GV G hd k q E:=by
 induction h with
 |refl=>exact⟨hh,D,.refl D,hp⟩
 |step q c x _ hx hc ih =>
  obtain⟨h1,E,h2,h3⟩:=ih;obtain⟨u,hu,hg⟩:=(S.LC h3 h1 hx).1 c hc;exact⟨S.gr.IX _,u,h2.tail hu,hg⟩
theorem F0.Ld(S:F0 G L hd k Ns O) {D E:Dt}(h:Wi D E):∀ {p:Nat},GV G hd k p D->hd p=p->(∃x,G p=some x)->∃q,Km G hd p q/\hd q=q/\GV G hd k q E:=by
 induction h with
 |refl d=>exact fun {p} hp hh _=>⟨p,.refl p,hh,hp⟩
 |Hm d u e hu _ ih =>
  intro p hp hh hx;obtain⟨x,hx⟩:=hx;obtain⟨c,hc,hg⟩:=(S.LC hp hh hx).2 u hu;obtain⟨y,hy⟩:=S.gr.KX p x hx c hc;obtain⟨q,h1,h2,h3⟩:=ih hg (S.gr.IX c) (S.gr.Fw c y hy);exact⟨q,h1.cons hx hc,h2,h3⟩
theorem F0.RC(S:F0 G L hd k Ns O) {q n:Nat}(h:GV G hd k q (.mt n))(hq:hd q=q):G q=some ⟨2,⟨#[]⟩,n,[],none,false⟩:=by
 rcases h with⟨env,d,ns,ht,hb,hn,he,hD⟩|⟨⟨i,h⟩,_⟩
 ·cases d with
  |mt m =>
   cases ht with
   |mt _ _ _ hy =>
    rw[Ge,S.un q m hy hq]at hD;injection hD with hD;rw[hD]
    exact hy
   |app _ _ _ _ _ ha _ _ _ _=>simp[App,u_]at ha
  |fv x=>rw[JK]at hD;cases hD
  |bv x=>rw[JX]at hD;cases hD
  |h_ c l=>rw[Jj]at hD;cases hD
  |fn a b=>rw[JJ]at hD;cases hD
  |all t=>rw[Iw]at hD;cases hD
 ·cases h
theorem F0.Of(S:F0 G L hd k Ns O) {q n:Nat} {D:Dt}(h:GV G hd k q D)(hq:hd q=q)(hG:G q=some ⟨2,⟨#[]⟩,n,[],none,false⟩):D=.mt n:=by
 rcases h with⟨env,d,ns,ht,hb,hn,he,rfl⟩|⟨_,nm,h⟩
 ·have:d=.mt n:=(Tr.mt [] q n hG).M9 (Jk n) ht
  rw[this,Ge,S.un q n hG hq]
 ·rw[hG]at h;simp at h
theorem zrZ {q:Nat} {D:Dt}(h:GV G hd k q D):(∃t,D=.all t)->∃x,G q=some x/\x.kd=5\/∃n,G q=some ⟨2,⟨#[]⟩,n,[],none,false⟩:=by
 rintro⟨t,hD⟩;rcases h with⟨env,d,ns,ht,hb,hn,he,u4⟩|⟨⟨i,h⟩,_⟩
 ·obtain⟨x,h1,h2,_,_,h5,_⟩:=ht.node
  by_cases e:u_ d=2
  ·obtain⟨n,rfl⟩:=Ps e
   cases ht with
   |mt _ _ _ hy=>exact⟨x,.inr ⟨n,hy⟩⟩
   |app _ _ _ _ _ ha _ _ _ _=>simp[App,u_]at ha
  ·refine⟨x,.inl ⟨h1,?_⟩⟩
   rw[h2,<-KR k e,<-u4,hD];rfl
 ·rw[hD]at h;cases h
theorem zr0 {q:Nat} {D:Dt}(h:GV G hd k q D) {x:Nd}(hx:G q=some x)(h5:x.kd=5):∃t,D=.all t:=by
 rcases h with⟨env,d,ns,ht,hb,hn,he,rfl⟩|⟨_,nm,h⟩
 ·obtain⟨y,h1,h2,_⟩:=ht.node
  rw[hx]at h1;injection h1 with h1;subst h1
  have:u_ d=5:=by rw[<-h2];exact h5
  cases d <;> simp[u_]at this;exact⟨_,Iw _ _⟩
 ·rw[hx]at h;injection h with h;subst h;simp at h5
theorem zrF {q:Nat} {D:Dt}(h:GV G hd k q D) {x:Nd}(hx:G q=some x)(hn:x.new=true):∃i,D=.bv i:=by
 rcases h with⟨env,d,ns,ht,hb,_,he,rfl⟩|⟨h,_⟩
 ·obtain⟨y,h1,_,_,_,_,h6⟩:=ht.node
  rw[hx]at h1;injection h1 with h1;subst h1
  obtain⟨i,hi⟩:=h6.1 hn;exact absurd hi (hb i)
 ·exact h
theorem F0.Pf(S:F0 G L hd k Ns O) {q i:Nat}(h:GV G hd k q (.bv i))(hq:hd q=q):∃nm,G q=some ⟨1,nm,0,[],none,true⟩:=by
 rcases h with⟨env,d,ns,ht,hb,hn,he,hD⟩|⟨_,h⟩
 ·exfalso
  cases d with
  |mt m =>
   cases ht with
   |mt _ _ _ hy=>rw[Ge,S.un q m hy hq]at hD;cases hD
   |app _ _ _ _ _ ha _ _ _ _=>simp[App,u_]at ha
  |fv x=>rw[JK]at hD;cases hD
  |bv x=>exact hb x rfl
  |h_ c l=>rw[Jj]at hD;cases hD
  |fn a b=>rw[JJ]at hD;cases hD
  |all t=>rw[Iw]at hD;cases hD
 ·exact h
theorem F0.ag(S:F0 G L hd k Ns O)(gs:L7 G) {m t n:Nat} {D:Dt}(hm:G m=some ⟨2,⟨#[]⟩,n,[],none,false⟩)(hg:GV G hd k t D)(ht:hd t=t)(hx:∃x,G t=some x) {r:Int}(h:Od G hd t m r):r=(bad n D:Nat):=by
 have e1:n∈Jg D []↔Km G hd (hd t) m:=by
  rw[ht,MI];simp only[CI,false_or];rw[Wi.OL];constructor
  ·intro h
   obtain⟨q,h1,h2,h3⟩:=S.Ld h hg ht hx;rw[<-gs.uu _ _ _ (S.RC h3 h2) hm];exact h1
  ·intro h
   obtain⟨h1,E,h2,h3⟩:=S.Lc hg ht h;rw[S.Of h3 h1 hm]at h2;exact h2
 have e2:ET D=true↔Qe G hd t:=by
  rw[Wi.r_];unfold Qe;rw[ht];constructor
  ·rintro⟨u,h⟩
   obtain⟨q,h1,h2,h3⟩:=S.Ld h hg ht hx;obtain⟨x,h4|⟨j,h4⟩⟩:=zrZ h3 ⟨u,rfl⟩
   ·exact⟨q,x,h1,h4⟩
   ·have:=S.Of h3 h2 h4
    cases this
  ·rintro⟨q,x,h1,h2,h3⟩
   obtain⟨h4,E,h5,h6⟩:=S.Lc hg ht h1;obtain⟨u,rfl⟩:=zr0 h6 h2 h3;exact⟨u,h5⟩
 have e3:Ji D=true↔Mr G hd t:=by
  rw[Wi.bv];unfold Mr;rw[ht];constructor
  ·rintro⟨i,h⟩
   obtain⟨q,h1,h2,h3⟩:=S.Ld h hg ht hx;obtain⟨nm,h4⟩:=S.Pf h3 h2;exact⟨q,_,h1,h4,rfl⟩
  ·rintro⟨q,x,h1,h2,h3⟩
   obtain⟨h4,E,h5,h6⟩:=S.Lc hg ht h1;obtain⟨i,rfl⟩:=zrF h6 h2 h3;exact⟨i,h5⟩
 unfold bad;rcases h with⟨rfl,h⟩|⟨h1,⟨rfl,h⟩|⟨h2,⟨rfl,h⟩|⟨rfl,h⟩⟩⟩
 ·rw[Ch (e1.2 h)];rfl
 ·rw[Cg (λe=>h1 (e1.1 e)),Ch (e2.2 h)];rfl
 ·rw[Cg (λe=>h1 (e1.1 e)),Cg (λe=>h2 (e2.1 e)),Ch (e3.2 h)];rfl
 ·rw[Cg (λe=>h1 (e1.1 e)),Cg (λe=>h2 (e2.1 e)),Cg (λe=>h (e3.1 e))];rfl
end
end
section
open Lx Tx
set_option maxRecDepth 100000
theorem ziu(k:Sb) {d:Dt}(h:u_ d≠2)(n:Nat):ap k d≠.mt n:=λe=>by
 have:=KR k h;rw[e]at this;exact h this.symm
theorem zpT {m:Nat} {y:Dt}(h:∀n,y≠.mt n):act (.mt m) y=.Fs m y:=by
 cases y with
 |mt n=>exact absurd rfl (h n)
 |_=>rfl
theorem znT {m:Nat} {x:Dt}(h:∀n,x≠.mt n):act x (.mt m)=.Fs m x:=by
 cases x with
 |mt n=>exact absurd rfl (h n)
 |_=>rfl
theorem FX.new {G:Nat->Option Nd} {L:List Nat} {hd:Nat->Nat} {k:Sb} {Ns O el er:List Nat}(h:FX hd O el er)(S:F0 G L hd k Ns O):(∀c∈el,∃nm,G (hd c)=some ⟨1,nm,0,[],none,true⟩)/\(∀c∈er,∃nm,G (hd c)=some ⟨1,nm,0,[],none,true⟩):=by
 constructor
 ·intro c hc
  obtain⟨i,hi,rfl⟩:=CN.1 hc;obtain⟨b,_,h2,h3⟩:=h.left i _ (BY hi);rw[h2];exact(S.oc b h3).1
 ·intro c hc
  obtain⟨i,hi,rfl⟩:=CN.1 hc;obtain⟨b,_,h2,h3⟩:=h.right i _ (BY hi);rw[h2];exact(S.oc b h3).1
theorem HV.gv {G:Nat->Option Nd} {L:List Nat} {hd:Nat->Nat} {k:Sb} {Ns O:List Nat}(S:F0 G L hd k Ns O) {e er:List Nat} {h:Nat} {d:Dt} {ns:List Nat}(v:HV G e er h d ns)(hn:∀x∈ns,x∈Ns)(he:∀c∈e,∃nm,G (hd c)=some ⟨1,nm,0,[],none,true⟩):GV G hd k h (ap k d):=by
 rcases v with⟨t,b⟩|⟨-,i,nm,rfl,_,hG⟩
 ·exact .inl ⟨e,d,ns,t,b,λx hx=>S.nh x (hn x hx),he,rfl⟩
 ·exact .inr ⟨⟨i,JX k i⟩,nm,hG⟩
theorem HV.mt {G:Nat->Option Nd} {e er:List Nat} {h n:Nat} {ns:List Nat}(v:HV G e er h (.mt n) ns):G h=some ⟨2,⟨#[]⟩,n,[],none,false⟩:=by
 rcases v with⟨t,b⟩|⟨-,i,nm,e,_,_⟩
 ·cases t with
  |mt _ _ _ h=>exact h
  |app _ _ _ _ _ ha _ _ _ _=>simp[App,u_]at ha
 ·cases e
theorem HV.plain {G:Nat->Option Nd} {e er:List Nat} {h:Nat} {d:Dt} {ns:List Nat}(v:HV G e er h d ns)(hp:Plain d):Tr G [] h d []:=by
 rcases v with⟨t,b⟩|⟨-,i,nm,e,_,_⟩
 ·exact(t.plain hp).2 []
 ·rw[e]at hp;exact absurd hp (LG i)
theorem Ha.Pc {G:Nat->Option Nd} {L:List Nat} {hd:Nat->Nat} {k:Sb} {N' nl nr O:List Nat} {dl dr a b:Dt} {E' iR:List (Dt × Dt)} {r:List tL} {f' m t n:Nat} {dt:Dt} {o:Nat ⊕ Sb}(gs:L7 G)(S:F0 G L hd k (nl++nr++N') O)
  (h4:pf G hd O (λs=>B_ s k/\ap s dl=ap s dr) r E' N')(hu:Fc (f'+1) ((a,b)::iR) k=some o)(ha:ap k a=ap k dl)(hb:ap k b=ap k dr)(hm:iR.map (Kq k)=E'.map (Kq k))
  (gj:act (ap k a) (ap k b)=.Fs n (ap k dt))(hG:G m=some ⟨2,⟨#[]⟩,n,[],none,false⟩)(dU:hd m=m)(xW:hd t=t)(ie:m≠t)(hg:GV G hd k t (ap k dt))(hx:∃y,G t=some y)(WJ:Plain dt->Tr G [] t dt [])
  {e:Int} (eE:Od G hd t m e):(e=0->∃k',(∃j u,k'=GI j u k)/\Ha G L (Hq hd m t) k' r f' o)/\(e≠0->o=.inl e.toNat):=by
 have uP:=S.ag gs hG hg xW hx eE;rw[Fc,gj]at hu;simp only at hu;have cA:=S.un m n hG dU;constructor
 ·intro he
  have aB:bad n (ap k dt)=0:=by rw[he]at uP;omega
  rw[Ch aB]at hu;obtain⟨j9,cL⟩:=(Ot _ _).1 aB;have bH:Plain dt:=((Ou k dt).1 cL).1;have ft:ap k (ap k dt)=ap k dt:=KQ S.ki dt;obtain⟨y,hy⟩:=hx;have hlf:=OF S.ki gj;have hmN:m∉nl++nr++N':=λh=>S.np m h _ _ _ (Tr.mt [] m n hG) (Jk n);have yR:m∉O:=λh=>by
   obtain⟨⟨nm,h⟩,-⟩:=S.oc m h;rw[hG]at h;simp at h
  have oq:ap (GI n (ap k dt) k) dt=ap k dt:=by rw[KE,VB _ _ _ j9]
  refine⟨GI n (ap k dt) k,⟨n,_,rfl⟩,E',iR,N',O,?_,?_,hu,?_⟩
  ·refine⟨S.gr.link xW ie hy,λp d h hp=>?_,λp j h hp=>?_,(QN S.nd).1,λx hx=>?_,λx hx=>S.np x (by simp[hx]),λc hc=>⟨(S.oc c hc).1,λh=>(S.oc c hc).2 (by simp[h])⟩,PV S.ki ft j9,λj=>?_⟩
   ·obtain⟨d',h1,h2,h3⟩:=S.pl p d h hp
    by_cases e:hd p=m
    ·rw[PD e]
     rw[e]at h1;have:=(Tr.mt [] m n hG).M9 (Jk n) h1;subst this;refine⟨dt,WJ bH,bH,?_⟩;rw[oq,KE,h3,Ge,cA,Ge,KG]
    ·rw[MZ e]
     exact⟨d',h1,h2,by rw[KE,KE,h3]⟩
   ·have bY:=Vb xW hp
    have oz:p≠m:=λe=>by rw[e,PD dU]at hp;exact ie hp.symm
    have hj:j≠n:=λe=>oz (gs.uu _ _ _ h (e▸hG));show ap (IF n (ap k dt)) (k j)=.mt j;rw[S.un p j h bY,Ge,KH _ _ _ hj]
   ·rw[MZ]
    ·exact S.nh x (by simp[hx])
    ·rw[S.nh x (by simp[hx])];exact λe=>hmN (by rw[<-e];simp[hx])
   ·show Plain (ap (IF n (ap k dt)) (k j))
    rw[Ou];refine⟨S.kp j,λi _=>?_⟩;by_cases hi:i=n
    ·rw[hi,KG];exact cL
    ·rw[KH _ _ _ hi];exact Jk i
  ·refine(h4.link yR (λ_ h=>h)).mono r λs hs=>?_
   obtain⟨h1,h2⟩:=zer hs cA;refine⟨h1,?_⟩;rw[<-h1.ap dl,<-h1.ap dr,<-ha,<-hb];obtain⟨(⟨g1,g2⟩|⟨g1,g2⟩),_⟩:=OH gj
   ·rw[g1,<-g2,Ge];exact h2
   ·rw[g1,<-g2,Ge];exact h2.symm
  ·have:∀p:Dt × Dt,Kq (GI n (ap k dt) k) p=(ap (IF n (ap k dt)) (Kq k p).1,ap (IF n (ap k dt)) (Kq k p).2):=λp=>by simp[Kq,KE]
   have e:∀l:List (Dt × Dt),l.map (Kq (GI n (ap k dt) k))=(l.map (Kq k)).map (λp=>(ap (IF n (ap k dt)) p.1,ap (IF n (ap k dt)) p.2)):=λl=>by
    rw[DS];exact Ed λp _=>this p
   rw[e,e,hm]
 ·intro he
  have aB:bad n (ap k dt)≠0:=λh=>he (by rw[uP,h];rfl);rw[Cg aB]at hu
  injection hu with hu;rw[<-hu,uP]
  rfl
theorem Ha.Fs {G:Nat->Option Nd} {L:List Nat} {hd:Nat->Nat} {k:Sb} {q:tL} {r:List tL} {f:Nat} {o:Nat ⊕ Sb}(gs:L7 G)(h:Ha G L hd k (q::r) f o)(hq:q.d=false)(ai:hd q.l≠hd q.r) {x y:Nd}(hx:G (hd q.l)=some x)(hy:G (hd q.r)=some y)
  (hk:x.kd=2\/y.kd=2) {e:Int}(eE:Od G hd (Hy (hd q.l) (hd q.r) x y).2 (Hy (hd q.l) (hd q.r) x y).1 e):(e=0->∃f' k',Jh f' r<Jh f (q::r)/\(∃j u,k'=GI j u k)/\Ha G L (Hq hd (Hy (hd q.l) (hd q.r) x y).1 (Hy (hd q.l) (hd q.r) x y).2) k' r f' o)/\(e≠0->o=.inl e.toNat):=by
 obtain⟨el,er,dl,dr,nl,nr,E',N',O,a,b,iR,f',S,h1,h2,h3,h4,rfl,hu,ha,hb,hm⟩:=h.IN hq;obtain⟨d',v1,e1,p1,n1⟩:=S.head h1.left h2 (λx hx=>by simp[hx]);obtain⟨e',v2,e2,p2,n2⟩:=S.head h1.right h3 (λx hx=>by simp[hx]);obtain⟨x',ep,x1,x2,x3,x4⟩:=v1.node;obtain⟨y',iw,y1,y2,y3,y4⟩:=v2.node;rw[hx]at ep;injection ep with ep;subst ep
 rw[hy]at iw;injection iw with iw;subst iw
 have g1:=v1.gv S (λx hx=>by simp[hx]) (h1.new S).1;have g2:=v2.gv S (λx hx=>by simp[hx]) (h1.new S).2;have WY:Jh f' r<Jh (f'+1) (q::r):=by unfold Jh;simp[hq]
 have lU:∀m t n dt,Hy (hd q.l) (hd q.r) x y=(m,t)->act (ap k a) (ap k b)=.Fs n (ap k dt)->G m=some ⟨2,⟨#[]⟩,n,[],none,false⟩->hd m=m->hd t=t->m≠t->GV G hd k t (ap k dt)->(∃y,G t=some y)->(Plain dt->Tr G [] t dt []) ->
   (e=0->∃f'' k',Jh f'' r<Jh (f'+1) (q::r)/\(∃j u,k'=GI j u k)/\Ha G L (Hq hd (Hy (hd q.l) (hd q.r) x y).1 (Hy (hd q.l) (hd q.r) x y).2) k' r f'' o)/\(e≠0->o=.inl e.toNat):=by
  intro m t n dt hl gj hG dU xW ie hg hxt WJ;rw[hl]at eE ⊢;obtain⟨c1,c2⟩:=Ha.Pc gs S h4 hu ha hb hm gj hG dU xW ie hg hxt WJ eE;exact⟨λh0=>by obtain⟨k',c0,c⟩:=c1 h0;exact⟨f',k',WY,c0,c⟩,c2⟩
 by_cases P9:x.kd=2
 ·obtain⟨n,rfl⟩:=Ps (by rw[<-x1];exact P9:u_ d'=2)
  have mZ:=v1.mt;have cA:=S.un _ _ mZ (S.gr.IX _);have hxn:=x4 n rfl;by_cases qE:y.kd=2
  ·obtain⟨j,rfl⟩:=Ps (by rw[<-y1];exact qE:u_ e'=2)
   have wV:=v2.mt;have sG:=S.un _ _ wV (S.gr.IX _);have hyn:=y4 j rfl;have hnj:n≠j:=λe=>ai (gs.uu _ _ _ mZ (e▸wV));by_cases af:n<j
   ·refine lU (hd q.r) (hd q.l) j (.mt n) ?_ ?_ wV (S.gr.IX _) (S.gr.IX _) (Et ai) g1 ⟨_,hx⟩ (λh=>v1.plain h)
    ·unfold Hy;rw[Ch (.inr ⟨qE,by omega⟩)]
    ·rw[ha,hb,e1,e2,Ge,Ge,cA,sG]
     show(if n=j then _ else _)=_;rw[Cg hnj,Cg (by omega)]
   ·refine lU (hd q.l) (hd q.r) n (.mt j) ?_ ?_ mZ (S.gr.IX _) (S.gr.IX _) ai g2 ⟨_,hy⟩ (λh=>v2.plain h)
    ·unfold Hy;rw[Cg (by rintro(h|⟨_,h⟩);exact h P9;omega)]
    ·rw[ha,hb,e1,e2,Ge,Ge,cA,sG]
     show(if n=j then _ else _)=_;rw[Cg hnj,Ch (by omega)]
  ·refine lU (hd q.l) (hd q.r) n e' ?_ ?_ mZ (S.gr.IX _) (S.gr.IX _) ai g2 ⟨_,hy⟩ (λh=>v2.plain h)
   ·unfold Hy;rw[Cg (by rintro(h|⟨h,_⟩);exact h P9;exact qE h)]
   ·rw[ha,hb,e1,e2,Ge,cA]
    exact zpT (ziu k (by rw[<-y1];exact qE))
 ·have qE:y.kd=2:=by rcases hk with h|h;exact absurd h P9;exact h
  obtain⟨j,rfl⟩:=Ps (by rw[<-y1];exact qE:u_ e'=2);have wV:=v2.mt;have sG:=S.un _ _ wV (S.gr.IX _);refine lU (hd q.r) (hd q.l) j d' ?_ ?_ wV (S.gr.IX _) (S.gr.IX _) (Et ai) g1 ⟨_,hx⟩ (λh=>v1.plain h)
  ·unfold Hy;rw[Ch (.inl P9)]
  ·rw[ha,hb,e1,e2,Ge,sG]
   exact znT (ziu k (by rw[<-x1];exact P9))
set_option maxRecDepth 100000
theorem RX(env:List Name):(l:List Ty)->Fz env l=l.map (db env)
 |[]=>by rw[Fz];rfl
 |t::r=>by rw[Fz,RX env r];rfl
theorem zrG(env:List Name) {t:Ty}(h:kd t=3\/kd t=4):App (db env t)/\u_ (db env t)=kd t/\IE (db env t)=ER t/\EY (db env t)=(kids t).map (db env):=by
 cases t <;> simp[kd]at h
 ·rw[db,RX];exact⟨.inl rfl,rfl,rfl,rfl⟩
 ·rw[db];exact⟨.inr rfl,rfl,rfl,rfl⟩
theorem zjP {G:Nat->Option Nd} {cs:List Nat} {xs:List Name} :(ps:List Nat)->(us:List Ty)->(aP:List (List Nat))->ps.length=us.length->aP.length=us.length ->
  (∀(i q:Nat)(u:Ty)(ns:List Nat),ps[i]?=some q->us[i]?=some u->aP[i]?=some ns->∃dB,Tr G cs q (db xs u) dB/\dB.Sublist ns) ->
  ∃eM:List (List Nat),eM.length=us.length/\(∀(i q:Nat) (u:Dt) (ns:List Nat),ps[i]?=some q->(us.map (db xs))[i]?=some u->eM[i]?=some ns->Tr G cs q u ns)/\eM.flatten.Sublist aP.flatten
 |[],[],aP,_,h,_=>⟨[],rfl,λi q u ns h=>by simp at h,by simp⟩
 |[],_::_,_,h,_,_=>by simp at h
 |_::_,[],_,h,_,_=>by simp at h
 |_::_,_::_,[],_,h,_=>by simp at h
 |p::ps,u::us,ns::aP,h1,h2,hh=>by
  obtain⟨dB,a1,a2⟩:=hh 0 p u ns rfl rfl rfl;obtain⟨eM,b1,b2,b3⟩:=zjP ps us aP (by simpa using h1) (by simpa using h2) (λi q u ns a b c=>hh (i+1) q u ns (by simpa using a) (by simpa using b) (by simpa using c));refine⟨dB::eM,by simp[b1],λi q u ns a b c=>?_,?_⟩
  ·cases i with
   |zero=>simp at a b c;rw[<-a,<-b,<-c];exact a1
   |succ i=>exact b2 i q u ns (by simpa using a) (by simpa using b) (by simpa using c)
  ·rw[DY,DY]
   exact List.Sublist.append a2 b3
theorem FF.tr {G:Nat->Option Nd} {U:Nat->Option Nat} {V:Name->Option Nat} {p:Nat} {t:Ty} {ns:List Nat}(h:FF G U V p t ns):∀(xs:List Name)(cs:List Nat)(V0:Name->Option Nat),xs.length=cs.length->cs.Nodup ->
  (∀x,V x=match idx x xs with|some i=>cs[i]? | none=>V0 x)->(∀x p,V0 x=some p->G p=some ⟨1,⟨x.toArray⟩,0,[],none,false⟩)->(∀c∈cs,∃nm,G c=some ⟨1,nm,0,[],none,true⟩)->(∀n p,U n=some p->G p=some ⟨2,⟨#[]⟩,n,[],none,false⟩) ->
  ns.Nodup->(∀c∈cs,c∉ns)->∃dB,Tr G cs p (db xs t) dB/\dB.Sublist ns:=by
 induction h with
 |var V p x h =>
  intro xs cs V0 hl hn hV hv hc hu _ _;rw[hV x]at h;rw[db];cases hi:idx x xs with
  |some i =>
   rw[hi]at h;obtain⟨nm,hG⟩:=hc p (CG h);exact⟨[],.bv _ _ nm i hG (RY p cs hn i h),Ej _⟩
  |none =>
   rw[hi]at h;exact⟨[],.fv _ _ x (hv x p h),Ej _⟩
 |mt V p n h =>
  intro xs cs V0 hl hn hV hv hc hu _ _;rw[db];exact⟨[],.mt _ _ n (hu n p h),Ej _⟩
 |app V p t ps aP h1 h2 h3 h4 h5 ih =>
  intro xs cs V0 hl hn hV hv hc hu eJ wQ;obtain⟨a1,a2,a3,a4⟩:=zrG xs h1;rw[CO]at eJ;obtain⟨eM,b1,b2,b3⟩:=zjP ps (kids t) aP h3 h4 (λi q u ns a b c=>by
   have hs:=EE (CG c);exact ih i q u ns a b c xs cs V0 hl hn hV hv hc hu (List.Nodup.sublist hs eJ.2) (λz hz hm=>wQ z hz (Cf _ (hs.subset hm))))
  refine⟨_,Tr.app cs p (db xs t) ps eM a1 (by rw[a2,a3];exact h2) (by rw[a4,CE];exact h3) (by rw[a4,CE];exact b1) (λi q u ns a b c=>b2 i q u ns a (by rw[<-a4];exact b) c),?_⟩;by_cases hp:Plain (db xs t)
  ·rw[Sz hp];exact List.Sublist.cons _ b3
  ·rw[NT hp];exact List.Sublist.cons_cons _ b3
 |all V p x t q c ns h1 h2 h3 ih =>
  intro xs cs V0 hl hn hV hv hc hu eJ wQ;rw[CO,CO]at eJ;obtain⟨dB,a1,a2⟩:=ih (x::xs) (c::cs) V0 (by simp[hl]) (CO.2 ⟨λh=>wQ c h (by simp),hn⟩) (λy=>by
   by_cases e:y=x
   ·rw[e,Gm,idx,Ch rfl];rfl
   ·rw[Fk _ _ _ _ e,idx,Cg e,hV y]
    cases idx y xs with
    |none=>rfl
    |some i=>simp) hv (λz hz=>by
    rcases Cd.1 hz with e|hz
    ·rw[e];exact⟨_,h2⟩
    ·exact hc z hz) hu eJ.2.2 (λz hz hm=>by
    rcases Cd.1 hz with e|hz
    ·rw[e]at hm;exact eJ.2.1 hm
    ·exact wQ z hz (by simp[hm]))
  rw[db];exact⟨p::c::dB,.all _ _ _ _ q c dB h1 ⟨_,h2⟩ a1,List.Sublist.cons_cons _ (List.Sublist.cons_cons _ a2)⟩
def Jl(G:Nat->Option Nd)(L:List Nat)(p:Nat):Option Nd:=if p∈L then G p else none
theorem UU {G:Nat->Option Nd} {L:List Nat} {p:Nat}(h:p∈L):Jl G L p=G p:=Ch h
theorem MY {G:Nat->Option Nd} {L:List Nat} {p:Nat} {x:Nd}(h:Jl G L p=some x):p∈L/\G p=some x:=by
 unfold Jl at h;by_cases e:p∈L
 ·rw[Ch e]at h;exact⟨e,h⟩
 ·rw[Cg e]at h;cases h
theorem RP(G:Nat->Option Nd):(a b:List Nat)->wg G [] (a++b)=wg G [] a+wg G [] b
 |[],b=>by rw[Cu,wg,Dm]
 |q::a,b=>by rw[Co,wg,wg,RP G a b];omega
theorem znU(G:Nat->Option Nd)(L:List Nat):(a:List Nat)->wg (Jl G L) [] a<=wg G [] a
 |[]=>BU _
 |q::a=>by
  have:=znU G L a;rw[wg,wg];unfold Jl;by_cases e:q∈L
  ·rw[Ch e]
   simp only[CI,D3];unfold Jl at this;omega
  ·rw[Cg e]
   simp only[CI,D3];unfold Jl at this;omega
def Srt(G:Nat->Option Nd)(U:Nat->Option Nat)(V:Name->Option Nat)(q:Nat):Prop:=(∃n,U n=some q)\/(∃x,V x=some q)\/∃x,G q=some x/\x.kd≠2/\(x.kd=1->x.new=true)
structure L9 (G:Nat->Option Nd) (U:Nat->Option Nat) (V:Name->Option Nat) (L:List Nat):Prop where
 KX:∀q∈L,∃x,G q=some x/\∀c∈x.kids,c∈L
 OK:∀q∈L,Srt G U V q
theorem L9.nil(G:Nat->Option Nd)(U:Nat->Option Nat)(V:Name->Option Nat):L9 G U V []:=⟨(λq h=>by cases h),(λq h=>by cases h)⟩
theorem L9.app {G:Nat->Option Nd} {U:Nat->Option Nat} {V:Name->Option Nat} {a b:List Nat}(h:L9 G U V a)(k:L9 G U V b):L9 G U V (a++b) where
 KX q hq:=by
  rcases Cr.1 hq with hq|hq
  ·obtain⟨x,h1,h2⟩:=h.KX q hq;exact⟨x,h1,λc hc=>CZ _ (h2 c hc)⟩
  ·obtain⟨x,h1,h2⟩:=k.KX q hq;exact⟨x,h1,λc hc=>CP _ (h2 c hc)⟩
 OK q hq:=by
  rcases Cr.1 hq with hq|hq
  ·exact h.OK q hq
  ·exact k.OK q hq
structure Mk (G G':Nat->Option Nd) (U U':Nat->Option Nat) (V V':Name->Option Nat) (L:List Nat):Prop where
 g:∀z∈L,G' z=G z
 u:∀n,∀z∈L,U n=some z->U' n=some z
 v:∀x,∀z∈L,V x=some z->V' x=some z
theorem Mk.sub {G G':Nat->Option Nd} {U U':Nat->Option Nat} {V V':Name->Option Nat} {L M:List Nat}(h:Mk G G' U U' V V' L)(hs:∀z∈M,z∈L):Mk G G' U U' V V' M :=
 ⟨λz hz=>h.g z (hs z hz),λn z hz=>h.u n z (hs z hz),λn z hz=>h.v n z (hs z hz)⟩
theorem Mk.Gn {G G':Nat->Option Nd} {U U':Nat->Option Nat} {V V':Name->Option Nat} {L:List Nat}(h:Mk G G' U U' V V' L)(x:Name)(o:Option Nat):Mk G G' U U' (Go.Proofs.YtfafilmklhnngaaGreatDoor.Gn V x o) (Go.Proofs.YtfafilmklhnngaaGreatDoor.Gn V' x o) L :=
 ⟨h.g,h.u,λy z hz hy=>by
  by_cases e:y=x
  ·rw[e,Gm]at hy ⊢;exact hy
  ·rw[Fk _ _ _ _ e]at hy ⊢;exact h.v y z hz hy⟩
theorem ziv {G:Nat->Option Nd} {U:Nat->Option Nat} {V V0:Name->Option Nat} :(ps:List Nat)->(us:List Ty)->(aP:List (List Nat))->ps.length=us.length->aP.length=us.length ->
  (∀(i q:Nat)(u:Ty)(ns:List Nat),ps[i]?=some q->us[i]?=some u->aP[i]?=some ns->∃L,q∈L/\L9 G U V0 L/\wg G [] L+1<=3*u.size/\∀G' U' V',Mk G G' U U' V V' L->FF G' U' V' q u ns) ->
  ∃L,(∀q∈ps,q∈L)/\L9 G U V0 L/\wg G [] L+us.length<=3*q_ us/\∀G' U' V',Mk G G' U U' V V' L->∀(i q:Nat) (u:Ty) (ns:List Nat),ps[i]?=some q->us[i]?=some u->aP[i]?=some ns->FF G' U' V' q u ns
 |[],[],aP,_,h,_=>⟨[],(λq h=>by cases h),L9.nil _ _ _,by simp[wg],(λG' _ _ _ i q u ns h=>by simp at h)⟩
 |[],_::_,_,h,_,_=>by simp at h
 |_::_,[],_,h,_,_=>by simp at h
 |_::_,_::_,[],_,h,_=>by simp at h
 |p::ps,u::us,ns::aP,h1,h2,hh=>by
  obtain⟨L1,a1,a2,a3,a4⟩:=hh 0 p u ns rfl rfl rfl;obtain⟨L2,b1,b2,b3,b4⟩:=ziv (V:=V) (V0:=V0) ps us aP (by simpa using h1) (by simpa using h2) (λi q u ns a b c=>hh (i+1) q u ns (by simpa using a) (by simpa using b) (by simpa using c));refine⟨L1++L2,λq hq=>?_,a2.app b2,by rw[RP,q_];simp;omega,λG' U' V' hG i q u ns a b c=>?_⟩
  ·rcases Cd.1 hq with e|hq
   ·rw[e];exact CZ _ a1
   ·exact CP _ (b1 q hq)
  ·cases i with
   |zero =>
    simp at a b c;subst a b c;exact a4 G' U' V' (hG.sub λz hz=>CZ _ hz)
   |succ i=>exact b4 G' U' V' (hG.sub λz hz=>CP _ hz) i q u ns (by simpa using a) (by simpa using b) (by simpa using c)
theorem zl7(t:Ty):t.size=q_ (kids t)+1:=by
 cases t <;> simp[Ty.size,kids,q_] <;> omega
theorem FF.list {G:Nat->Option Nd} {U:Nat->Option Nat} {V:Name->Option Nat} {p:Nat} {t:Ty} {ns:List Nat}(h:FF G U V p t ns)(V0:Name->Option Nat)(hu:∀n p,U n=some p->G p=some ⟨2,⟨#[]⟩,n,[],none,false⟩)(h0:∀x p,V0 x=some p->G p=some ⟨1,⟨x.toArray⟩,0,[],none,false⟩):(∀x p,V x=some p->V0 x=some p\/∃nm,G p=some ⟨1,nm,0,[],none,true⟩)->∃L,p∈L/\L9 G U V0 L/\wg G [] L+1<=3*t.size/\∀G' U' V',Mk G G' U U' V V' L->FF G' U' V' p t ns:=by
 induction h with
 |var V p x h =>
  intro hv;have hG:∃y,G p=some y/\y.kids=[]:=by
   rcases hv x p h with h1|⟨nm,h1⟩
   ·exact⟨_,h0 x p h1,rfl⟩
   ·exact⟨_,h1,rfl⟩
  obtain⟨y,hy,qE⟩:=hG;refine⟨[p],by simp,⟨λq hq=>?_,λq hq=>?_⟩,?_,λG' U' V' hG=>.var V' p x (hG.v x p (by simp) h)⟩
  ·rw[Cx.1 hq];exact⟨y,hy,λc hc=>by rw[qE]at hc;cases hc⟩
  ·rw[Cx.1 hq]
   rcases hv x p h with h1|⟨nm,h1⟩
   ·exact .inr (.inl ⟨x,h1⟩)
   ·exact .inr (.inr ⟨_,h1,by simp,λ_=>rfl⟩)
  ·rw[wg,wg,hy];simp[qE,Ty.size]
 |mt V p n h =>
  intro hv;refine⟨[p],by simp,⟨λq hq=>?_,λq hq=>?_⟩,?_,λG' U' V' hG=>.mt V' p n (hG.u n p (by simp) h)⟩
  ·rw[Cx.1 hq];exact⟨_,hu n p h,λc hc=>by cases hc⟩
  ·rw[Cx.1 hq];exact .inl ⟨n,h⟩
  ·rw[wg,wg,hu n p h];simp[Ty.size]
 |app V p t ps aP h1 h2 h3 h4 h5 ih =>
  intro hv;obtain⟨L,b1,b2,b3,b4⟩:=ziv (V:=V) (V0:=V0) ps (kids t) aP h3 h4 (λi q u ns a b c=>ih i q u ns a b c hv);refine⟨p::L,by simp,⟨λq hq=>?_,λq hq=>?_⟩,?_,λG' U' V' hG=>.app V' p t ps aP h1 (by rw[hG.g p (by simp)];exact h2) h3 h4 (b4 G' U' V' (hG.sub λz hz=>by simp[hz]))⟩
  ·rcases Cd.1 hq with e|hq
   ·rw[e];exact⟨_,h2,λc hc=>Cf _ (b1 c hc)⟩
   ·obtain⟨x,c1,c2⟩:=b2.KX q hq;exact⟨x,c1,λc hc=>Cf _ (c2 c hc)⟩
  ·rcases Cd.1 hq with e|hq
   ·rw[e];exact .inr (.inr ⟨_,h2,by rcases h1 with h|h <;> simp[h],λh'=>by rcases h1 with h|h <;> simp[h]at h'⟩)
   ·exact b2.OK q hq
  ·rw[wg,h2,zl7 t]
   simp only[CI,D3];omega
 |all V p x t q c ns h1 h2 h3 ih =>
  intro hv;obtain⟨L,b1,b2,b3,b4⟩:=ih (λy r hy=>by
   by_cases e:y=x
   ·rw[e,Gm]at hy;injection hy with hy;rw[<-hy];exact .inr ⟨_,h2⟩
   ·rw[Fk _ _ _ _ e]at hy;exact hv y r hy)
  refine⟨p::c::L,by simp,⟨λz hz=>?_,λz hz=>?_⟩,?_,λG' U' V' hG=>.all V' p x t q c ns (by rw[hG.g p (by simp)];exact h1) (by rw[hG.g c (by simp)];exact h2) (b4 G' U' _ ((hG.sub λz hz=>by simp[hz]).Gn x (some c)))⟩
  ·rcases Cd.1 hz with e|hz
   ·rw[e];exact⟨_,h1,λw hw=>by rw[Cx.1 hw];simp[b1]⟩
   ·rcases Cd.1 hz with e|hz
    ·rw[e];exact⟨_,h2,λw hw=>by cases hw⟩
    ·obtain⟨y,c1,c2⟩:=b2.KX z hz;exact⟨y,c1,λw hw=>by simp[c2 w hw]⟩
  ·rcases Cd.1 hz with e|hz
   ·rw[e];exact .inr (.inr ⟨_,h1,by simp,λh'=>by simp at h'⟩)
   ·rcases Cd.1 hz with e|hz
    ·rw[e];exact .inr (.inr ⟨_,h2,by simp,λ_=>rfl⟩)
    ·exact b2.OK z hz
  ·rw[wg,wg,h1,h2,Ty.size]
   simp only[CI,D3,Ca,CR];omega
def E9(G:Nat->Option Nd)(U:Nat->Option Nat)(V:Name->Option Nat):List (Ty × Ty)->List tL->List Nat->Prop
 |[],es,ns=>es=[]/\ns=[]
 |(t,u)::ts,es,ns=>∃l r nl nr gn dB,es=⟨l,r,false⟩::gn/\ns=nl++nr++dB/\FF G U V l t nl/\FF G U V r u nr/\E9 G U V ts gn dB
theorem E9.snoc {G:Nat->Option Nd} {U:Nat->Option Nat} {V:Name->Option Nat} {t u:Ty} {l r:Nat} {nl nr:List Nat}(h1:FF G U V l t nl)(h2:FF G U V r u nr):(ts:List (Ty × Ty))->∀ {es:List tL} {ns:List Nat},E9 G U V ts es ns->E9 G U V (ts++[(t,u)]) (es++[⟨l,r,false⟩]) (ns++(nl++nr))
 |[],es,ns,h=>by
  rw[E9]at h;obtain⟨rfl,rfl⟩:=h;show E9 G U V [(t,u)] _ _;rw[E9];exact⟨l,r,nl,nr,[],[],rfl,by simp,h1,h2,by rw[E9];exact⟨rfl,rfl⟩⟩
 |(t',u')::ts,es,ns,h=>by
  rw[E9]at h;obtain⟨l',r',nl',nr',gn,dB,rfl,rfl,a,b,c⟩:=h;rw[Co,E9];exact⟨l',r',nl',nr',gn++[⟨l,r,false⟩],dB++(nl++nr),rfl,by simp,a,b,E9.snoc h1 h2 ts c⟩
theorem E9.more {G G':Nat->Option Nd} {U U':Nat->Option Nat} {V V':Name->Option Nat}(hG:∀q x,G q=some x->G' q=some x)(hU:∀n q,U n=some q->U' n=some q)(hV:∀x q,V x=some q->V' x=some q):(ts:List (Ty × Ty))->∀ {es:List tL} {ns:List Nat},E9 G U V ts es ns->E9 G' U' V' ts es ns
 |[],_,_,h=>by rw[E9]at h ⊢;exact h
 |(t,u)::ts,es,ns,h=>by
  rw[E9]at h ⊢;obtain⟨l,r,nl,nr,gn,dB,e1,e2,a,b,c⟩:=h;exact⟨l,r,nl,nr,gn,dB,e1,e2,a.more hG hU hV,b.more hG hU hV,E9.more hG hU hV ts c⟩
def OJ:List (Ty × Ty)->Nat
 |[]=>0
 |(t,u)::r=>t.size+u.size+OJ r
def Fy(l:List (Ty × Ty)):List (Dt × Dt):=l.map λp=>(db [] p.1,db [] p.2)
theorem E9.list {G:Nat->Option Nd} {U:Nat->Option Nat} {V:Name->Option Nat}(hu:∀n p,U n=some p->G p=some ⟨2,⟨#[]⟩,n,[],none,false⟩)(h0:∀x p,V x=some p->G p=some ⟨1,⟨x.toArray⟩,0,[],none,false⟩):(ts:List (Ty × Ty))->∀ {es:List tL} {ns:List Nat},E9 G U V ts es ns ->
  ∃L,L9 G U V L/\wg G [] L<=3*OJ ts/\(∀q∈es,q.l∈L/\q.r∈L)/\∀G' U' V',Mk G G' U U' V V' L->E9 G' U' V' ts es ns
 |[],es,ns,h=>by
  rw[E9]at h;exact⟨[],L9.nil _ _ _,by simp[wg],(λq hq=>by rw[h.1]at hq;cases hq),λG' _ _ _=>by rw[E9];exact h⟩
 |(t,u)::ts,es,ns,h=>by
  rw[E9]at h;obtain⟨l,r,nl,nr,gn,dB,rfl,rfl,a,b,c⟩:=h;obtain⟨L1,a1,a2,a3,a4⟩:=a.list V hu h0 (λx p h=>.inl h);obtain⟨L2,b1,b2,b3,b4⟩:=b.list V hu h0 (λx p h=>.inl h);obtain⟨L3,c1,c2,c3,c4⟩:=E9.list hu h0 ts c;refine⟨L1++L2++L3,(a2.app b2).app c1,by rw[RP,RP,OJ];omega,λq hq=>?_,λG' U' V' hG=>?_⟩
  ·rcases Cd.1 hq with e|hq
   ·rw[e];exact⟨by simp[a1],by simp[b1]⟩
   ·have:=c3 q hq;exact⟨by simp[this.1],by simp[this.2]⟩
  ·rw[E9]
   exact⟨l,r,nl,nr,gn,dB,rfl,rfl,a4 G' U' V' (hG.sub λz hz=>by simp[hz]),b4 G' U' V' (hG.sub λz hz=>by simp[hz]),c4 G' U' V' (hG.sub λz hz=>by simp[hz])⟩
theorem FX.nil(hd:Nat->Nat)(O:List Nat):FX hd O [] []:=⟨rfl,Dr,(λc h=>by cases h),(λc h=>by cases h),λi a b h=>by simp at h⟩
theorem E9.ent {G:Nat->Option Nd} {U:Nat->Option Nat} {V:Name->Option Nat}(hu:∀n p,U n=some p->G p=some ⟨2,⟨#[]⟩,n,[],none,false⟩)(h0:∀x p,V x=some p->G p=some ⟨1,⟨x.toArray⟩,0,[],none,false⟩) {hd:Nat->Nat} {O:List Nat} :(ts:List (Ty × Ty))->∀ {A:Sb->Prop} {es:List tL} {ns:List Nat},E9 G U V ts es ns->ns.Nodup ->
  ∃dB,pf G hd O A es (Fy ts) dB/\dB.Sublist ns/\∀x∈dB,Mq G x
 |[],A,es,ns,h,_=>by
  rw[E9]at h;exact⟨[],by rw[h.1,pf];exact⟨rfl,rfl⟩,by rw[h.2];exact Ej _,λx hx=>by cases hx⟩
 |(t,u)::ts,A,es,ns,h,hn=>by
  rw[E9]at h;obtain⟨l,r,nl,nr,gn,dB,rfl,rfl,a,b,c⟩:=h;have n1:=DP.1 hn;have n2:=DP.1 n1.1;obtain⟨ml,t1,s1⟩:=a.tr [] [] V rfl Dr (λx=>rfl) h0 (λc h=>by cases h) hu n2.1 (λc h=>by cases h);obtain⟨mr,t2,s2⟩:=b.tr [] [] V rfl Dr (λx=>rfl) h0 (λc h=>by cases h) hu n2.2.1 (λc h=>by cases h);obtain⟨ms,t3,s3,p3⟩:=E9.ent hu h0 (hd:=hd) (O:=O) ts (A:=λs=>A s/\ap s (db [] t)=ap s (db [] u)) c n1.2.1;refine⟨ml++mr++ms,?_,(s1.append s2).append s3,λx hx=>?_⟩
  ·rw[pf]
   exact⟨[],[],db [] t,db [] u,ml,mr,FX.nil _ _,t1,t2,.inl ⟨rfl,Fy ts,ms,rfl,rfl,t3⟩⟩
  ·simp only[Cr]at hx
   rcases hx with(hx|hx)|hx
   ·exact t1.Kw x hx
   ·exact t2.Kw x hx
   ·exact p3 x hx
theorem FF.OL {G:Nat->Option Nd} {U:Nat->Option Nat} {V:Name->Option Nat} {p:Nat} {t:Ty} {ns:List Nat}(h:FF G U V p t ns)(n:Nat):∀xs,a_ n (db xs t)->∃z,U n=some z:=by
 induction h with
 |var V p x h =>
  intro xs ho;rw[db]at ho;cases hi:idx x xs with
  |some i=>rw[hi]at ho;simp only at ho;rw[a_]at ho;exact ho.elim
  |none=>rw[hi]at ho;simp only at ho;rw[a_]at ho;exact ho.elim
 |mt V p m h =>
  intro xs ho;rw[db,a_]at ho;rw[ho];exact⟨p,h⟩
 |app V p t ps aP h1 h2 h3 h4 h5 ih =>
  intro xs ho;have key:∃u∈kids t,a_ n (db xs u):=by
   cases t <;> simp[kd]at h1
   ·rw[db,a_,RX,J2]at ho
    obtain⟨d,hd,ho⟩:=ho;obtain⟨u,hu,rfl⟩:=Ct.1 hd;exact⟨u,hu,ho⟩
   ·rw[db,a_]at ho
    rcases ho with ho|ho
    ·exact⟨_,by simp[kids],ho⟩
    ·exact⟨_,by simp[kids],ho⟩
  obtain⟨u,hu,ho⟩:=key;obtain⟨i,hi,rfl⟩:=CN.1 hu;exact ih i _ _ _ (BY (show i<ps.length by omega)) (BY hi) (BY (show i<aP.length by omega)) xs ho
 |all V p x t q c ns h1 h2 h3 ih =>
  intro xs ho;rw[db,a_]at ho;exact ih _ ho
theorem E9.OL {G:Nat->Option Nd} {U:Nat->Option Nat} {V:Name->Option Nat}(n:Nat):(ts:List (Ty × Ty))->∀ {es:List tL} {ns:List Nat},E9 G U V ts es ns->(∃p∈Fy ts,a_ n p.1\/a_ n p.2)->∃z,U n=some z
 |[],_,_,_,h=>by obtain⟨p,hp,_⟩:=h;cases hp
 |(t,u)::ts,es,ns,h,ho=>by
  rw[E9]at h;obtain⟨l,r,nl,nr,gn,dB,e1,e2,a,b,c⟩:=h;obtain⟨p,hp,ho⟩:=ho;rcases Cd.1 hp with e|hp
  ·subst e
   rcases ho with ho|ho
   ·exact a.OL n [] ho
   ·exact b.OL n [] ho
  ·exact E9.OL n ts c ⟨p,hp,ho⟩
theorem E9.sim {G:Nat->Option Nd} {U:Nat->Option Nat} {V:Name->Option Nat}(hu:∀n p,U n=some p->G p=some ⟨2,⟨#[]⟩,n,[],none,false⟩)(h0:∀x p,V x=some p->G p=some ⟨1,⟨x.toArray⟩,0,[],none,false⟩) {ts:List (Ty × Ty)} {es:List tL} {ns:List Nat}(h:E9 G U V ts es ns)(hn:ns.Nodup):∃L f o,wg (Jl G L) [] L<=3*OJ ts/\L7 (Jl G L)/\(∀q∈es,q.d=false/\q.l∈L/\q.r∈L)/\(∀q∈L,∃x,G q=some x)/\(∀n,(∃p∈Fy ts,a_ n p.1\/a_ n p.2)->∃z∈L,U n=some z)/\Fc f (Fy ts) .mt=some o/\Ha (Jl G L) L (λp=>p) .mt es f o:=by
 obtain⟨L,c1,c2,c3,c4⟩:=h.list hu h0;have Fw:∀z∈L,Jl G L z=G z:=λz hz=>UU hz;have mB:∀(ts:List (Ty × Ty)) {es:List tL} {ns:List Nat},E9 G U V ts es ns->∀q∈es,q.d=false:=by
  intro ts;induction ts with
  |nil=>intro es ns h q hq;rw[E9]at h;rw[h.1]at hq;cases hq
  |cons p ts ih =>
   intro es ns h q hq;obtain⟨t,u⟩:=p;rw[E9]at h;obtain⟨l,r,nl,nr,gn,dB,rfl,rfl,a,b,c⟩:=h;rcases Cd.1 hq with e|hq
   ·rw[e]
   ·exact ih c q hq
 have gs:L7 (Jl G L):=by
  refine⟨λp q n hp hq=>?_,λp q x hp hq=>?_⟩
  ·have key:∀p,Jl G L p=some ⟨2,⟨#[]⟩,n,[],none,false⟩->U n=some p:=λp hp=>by
    obtain⟨h1,h2⟩:=MY hp;rcases c1.OK p h1 with⟨m,h⟩|⟨y,h⟩|⟨y,h,h',_⟩
    ·rw[hu m p h]at h2;simp at h2;rw[<-h2];exact h
    ·rw[h0 y p h]at h2;simp at h2
    ·rw[h]at h2;injection h2 with h2;rw[h2]at h';simp at h'
   have h1:=key p hp;have h2:=key q hq;rw[h1]at h2;injection h2
  ·have key:∀p,Jl G L p=some ⟨1,x,0,[],none,false⟩->V x.data.toList=some p:=λp hp=>by
    obtain⟨h1,h2⟩:=MY hp;rcases c1.OK p h1 with⟨m,h⟩|⟨y,h⟩|⟨y,h,_,h'⟩
    ·rw[hu m p h]at h2;simp at h2
    ·rw[h0 y p h]at h2;simp at h2;rw[<-h2];simpa using h
    ·rw[h]at h2;injection h2 with h2;rw[h2]at h';simp at h'
   have h1:=key p hp;have h2:=key q hq;rw[h1]at h2;injection h2
 have Zx:Mk G (Jl G L) U (λn=>(U n).filter (λp=>decide (p∈L))) V (λn=>(V n).filter (λp=>decide (p∈L))) L :=
  ⟨Fw,λn z hz h=>by simp[h,hz],λn z hz h=>by simp[h,hz]⟩
 have hR:=c4 _ _ _ Zx;have uF:∀ {o:Option Nat} {p:Nat},o.filter (λp=>decide (p∈L))=some p->o=some p/\p∈L:=fun {o p} h=>by
  cases o with
  |none=>simp at h
  |some q =>
   simp at h;exact⟨by rw[h.1],h.2⟩
 obtain⟨dB,e1,e2,e3⟩:=hR.ent (λn p h=>by obtain⟨h1,h2⟩:=uF h;rw[Fw p h2];exact hu n p h1) (λn p h=>by obtain⟨h1,h2⟩:=uF h;rw[Fw p h2];exact h0 n p h1) (hd:=λp=>p) (O:=[]) ts (A:=λs=>B_ s .mt) hn;have j9:∃M:List Nat,∀p∈Fy ts,∀n,a_ n (ap .mt p.1)\/a_ n (ap .mt p.2)->n∈M:=by
  generalize Fy ts=E;induction E with
  |nil=>exact⟨[],λp hp=>by cases hp⟩
  |cons p E ih =>
   obtain⟨M,hM⟩:=ih;refine⟨Jg p.1 []++Jg p.2 []++M,λq hq n hn=>?_⟩;rcases Cd.1 hq with e|hq
   ·rw[e,ML,ML]at hn
    simp only[Cr,MI,CI,false_or];exact .inl hn
   ·exact CP _ (hM q hq n hn)
 obtain⟨M,hM⟩:=j9;obtain⟨f,o,hf⟩:=znQ M _ _ (Fy ts) .mt J0 hM (BU _) (BU _);refine⟨L,f,o,Cm (znU G L L) c2,gs,λq hq=>⟨mB ts h q hq,c3 q hq⟩,λq hq=>by obtain⟨x,hx,_⟩:=c1.KX q hq;exact⟨x,hx⟩,λn eX=>by obtain⟨z,hz⟩:=hR.OL n ts eX;obtain⟨h1,h2⟩:=uF hz;exact⟨z,h2,h1⟩,hf,Fy ts,Fy ts,dB,[],?_,e1,hf,rfl⟩;exact⟨⟨λq x hx c hc=>by
   obtain⟨h1,h2⟩:=MY hx;obtain⟨y,hy,hk⟩:=c1.KX q h1;rw[h2]at hy;injection hy with hy;subst hy
   obtain⟨z,hz,_⟩:=c1.KX c (hk c hc);exact⟨z,by rw[Fw c (hk c hc)];exact hz⟩,λq x hx=>⟨x,hx⟩,λ_=>rfl,λq x hx=>(MY hx).1⟩,
  λp d h hp=>⟨d,h,hp,rfl⟩,λp n _ _=>rfl,List.Nodup.sublist e2 hn,λ_ _=>rfl,e3,(λc hc=>by cases hc),J0,Jk⟩
end
end Go.Proofs.YtfafilmklhnngaaGreatDoor
