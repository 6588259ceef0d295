import Derived.Test.YtfafilmklhnngaaGreatDoorBkAH
import Derived.Test.YtfafilmklhnngaaGreatDoorBkH
set_option maxHeartbeats 12800000
namespace Go.Proofs.YtfafilmklhnngaaGreatDoor
open Go.RowKit Go.Shelf Lx Tx
set_option maxRecDepth 100000
attribute [local go_sem] Oper.semAt_some
def LaidP(b B:Nat)(t:TypeId)(cs:Array Value)(l ids:List Nat)(v:Value)(A:Option Addr)(c:Nat)(w:World)(k:Nat)(W:World):Prop :=
 ∃v',Blk W b t (cs.setIfInBounds 0 v')/\W.ownsRow B 75 1 v' (l++(ids.drop k).reverse).length ((l++(ids.drop k).reverse).map PK)/\(v'.ownBlock=v.ownBlock\/∃g,v'.ownBlock=some g/\w.heap.size+2<=g) /\
  Blk W w.heap.size 228 #[.pointer (some ⟨b,0,none⟩)]/\Blk W (w.heap.size+1) 130 #[.slice A ids.length c]/\Chg (λg=>g=b\/v.ownBlock=some g) w W
theorem LaidP.keep {b B:Nat} {t:TypeId} {cs:Array Value} {l ids:List Nat} {v:Value} {A:Option Addr} {c:Nat} {w:World} {k:Nat} {W W':World}(h:LaidP b B t cs l ids v A c w k W)(hc:∀g,g<W.heap.size->(∃x y,W.heap[g]?=some (.cells x y (0,0)))->W'.heap[g]?=W.heap[g]?)
  (hC:Chg (λg=>g=b\/v.ownBlock=some g) w W'):LaidP b B t cs l ids v A c w k W':=by
 obtain⟨v',h1,h2,h3,h4,h5,h6⟩:=h;refine⟨v',h1.same (hc _ h1.lt ⟨_,_,h1⟩),zan h2 (λg hg=>?_),h3,h4.same (hc _ h4.lt ⟨_,_,h4⟩),h5.same (hc _ h5.lt ⟨_,_,h5⟩),hC⟩;obtain⟨_,hl,cur,aa⟩:=zab h2 g hg;exact hc g hl ⟨_,_,aa⟩
theorem zaH {W:World} {l:Nat} {r r':Loop}(hl:W.heap[l]?=some (.loop r))(g:Nat)(hg:∃x y,W.heap[g]?=some (.cells x y (0,0))):(W.putObj l (.loop r')).heap[g]?=W.heap[g]? :=
 World.putObj_heap_other λe=>by
  obtain⟨x,y,hx⟩:=hg;rw[e,hl]at hx
  cases hx
theorem Chg.putObj {M:Nat->Prop} {w W:World}(h:Chg M w W)(l:Nat)(o:Obj)(hl:w.heap.size<=l):Chg M w (W.putObj l o) :=
 ⟨h.os,h.tape,h.output,by rw[World.putObj_size];exact h.size,λk hk hn=>(World.putObj_heap_other (by omega)).trans (h.block k hk hn)⟩
theorem LaidP.noRec {b B:Nat} {t:TypeId} {cs:Array Value} {l ids:List Nat} {v:Value} {A:Option Addr} {c:Nat} {w:World} {k lp:Nat}(lS:w.heap.size<=lp):NoRec lp (LaidP b B t cs l ids v A c w k):=λW r r' h hl =>
 h.keep (λg _ hg=>zaH hl g hg) (by obtain⟨_,_,_,_,_,_,h6⟩:=h;exact h6.putObj _ _ lS)
theorem zff(b B:Nat)(t:TypeId)(cs:Array Value)(gA:0<cs.size)(l ids:List Nat)(v:Value)(A:Option Addr)(c:Nat)(w:World)
  (hb:Blk w b t (cs.setIfInBounds 0 v))(ho:w.ownsRow B 75 1 v l.length (l.map PK))(hB:B<=w.heap.size)(pg:v.ownBlock≠some b)(hlen:l.length+ids.length<=1000000000)
  (hA:∀(j q:Nat),ids[j]?=some q->∃g,A=some ⟨g,0,none⟩/\g<w.heap.size/\g≠b/\v.ownBlock≠some g/\w.cell? ⟨g,j,none⟩=some (.pointer (some ⟨q,0,none⟩))):Calls Tryz.prog 119 #[.pointer (some ⟨b,0,none⟩),.slice A ids.length c] w λe w'=>(∃x,e=.returned x)/\LaidP b B t cs l ids v A c w 0 w':=by
 refine(callsIn_wide (n:=10)).1 ?_;refine callsIn_of_wp_marks Tryz.func119 rfl trivial ?_ rfl;simp only[Tryz.ntmps119,Bf,Ao,Be,Nat.reduceAdd,Nat.reduceSub,Bq,Bp,BD,Bu,AL,AE];have HB:=CS hb;have HO:=CS ho;have HA:=CS hA;have HVB:=CS pg;clear hb ho hA pg;gi_wp2
 refine⟨trivial,?_⟩;refine(zn8 Fence.wide _ trivial rfl _ _ _ _).mono ?_;rintro e w' ⟨rfl,rfl⟩;gi_wp2
 obtain⟨k1,k2,bk,aT⟩:=zaZ w (.cells #[.pointer (some ⟨b,0,none⟩)] 228) (.cells #[.slice A ids.length c] 130);obtain⟨w2,dJ⟩:∃w2,(w.alloc (.cells #[.pointer (some ⟨b,0,none⟩)] 228)).alloc (.cells #[.slice A ids.length c] 130)=w2:=⟨_,rfl⟩;rw[dJ]at k1 k2 bk aT ⊢
 have h0:LaidP b B t cs l ids v A c w ids.length w2:=by
  refine⟨v,HB.out.below aT HB.out.lt,?_,.inl rfl,k1,k2,Chg.of_below aT⟩;rw[List.drop_length,List.reverse_nil,AU]
  exact zan HO.out λg hg=>aT.block g (zab HO.out g hg).2.1
 have au:∀k W,LaidP b B t cs l ids v A c w k W->∀(j q:Nat),ids[j]?=some q->∃g,A=some ⟨g,0,none⟩/\W.cell? ⟨g,j,none⟩=some (.pointer (some ⟨q,0,none⟩)):=λk W h j q hq=>by
  obtain⟨_,_,_,_,_,_,hc⟩:=h;obtain⟨g,e,aY,iK,im,hg4⟩:=HA.out j q hq;exact⟨g,e,(World.cell?_of_block (w:=w) (a:=⟨g,j,none⟩) (hc.block g aY (λh=>by rcases h with h|h;exact iK h;exact im h))).trans hg4⟩
 have H0:=CS h0;have HC:=CS au;have eT:=CS bk;clear h0 au k1 k2 aT dJ bk;refine zch (σ:=Nat × Nat) rfl (by omega) (gf:=184) (fb:=#[]) (lb:=#[.pointer (some ⟨w.heap.size+1,0,none⟩)]) rfl trivial (enters_of Tryz.func184 (by kernel_rfl) rfl)
  (λs=>#[.int .i64 (s.1:Nat),.pointer (some ⟨s.2,0,none⟩)]) (λ_=>rfl)
  (λs W=>LaidP b B t cs l ids v A c w (s.1+1) W/\ids[s.1]?=some s.2) (λs W=>LaidP b B t cs l ids v A c w s.1 W)
  (λs a₁ W=>(LaidP b B t cs l ids v A c w (s.1+1) W/\ids[s.1]?=some s.2)/\a₁ = { tmps:=#[.pointer (some ⟨b,0,none⟩),.slice A ids.length c,.pointer (some ⟨w.heap.size,0,none⟩),undef,undef,.pointer (some ⟨s.2,0,none⟩),.slice A ids.length c,.func (.func 184) #[] #[.pointer (some ⟨w.heap.size+1,0,none⟩)],.int .i64 (s.1:Nat),.pointer (some ⟨s.2,0,none⟩),undef,undef,undef,undef,undef,undef,undef,undef,undef,undef],defers:=[] })
  (LaidP b B t cs l ids v A c w 0) (λ_ _=>False) (λs a₁ W r r' h hl=>⟨⟨LaidP.noRec (by have:=eT.out;omega) W r r' h.1.1 hl,h.1.2⟩,h.2⟩) (λs=>LaidP.noRec (by have:=eT.out;omega)) (LaidP.noRec (by have:=eT.out;omega)) (λ_ _ _ _ h _=>h) ?assign ?body ?iter ?done ?stop
 case assign =>
  intro r s W hj hl;have HJ:=CS hj;have HL:=CS hl;clear hj hl;gi_wp2
  exact⟨HL.out,HJ.out,trivial⟩
 case iter =>
  intro rec W1 aw aF cg hY;refine(zn6 Fence.wide (10-1) trivial rfl (by omega) (w2.heap.size+1) (w.heap.size+1) ids A c (λk W=>LaidP b B t cs l ids v A c w k W/\LoopAt (rec .ready none) (w2.heap.size+1) w2.heap.size W) (by omega)
   (λk W h=>by obtain⟨⟨_,_,_,_,_,h5,_⟩,_⟩:=h;exact h5.cell 0) (λk W h=>HC.out k W h.1) (λk q W h hq=>?_) W1 ⟨H0.out.keep (λg hg _=>aw.block g hg) (by obtain⟨_,_,_,_,_,_,h6⟩:=H0.out;exact h6.below aw),cg⟩).mono ?_
  ·refine(hY (k,q) W ⟨h.1,hq⟩ h.2).mono ?_
   intro e W' hs;rcases hs with⟨h1,h2,h3⟩|⟨_,_,h2,_⟩
   ·exact⟨h1,h2,h3⟩
   ·exact h2.elim
  ·rintro e W' ⟨hv,hj,hl⟩
   exact⟨hv,.inl ⟨hj,hl⟩⟩
 case done =>
  intro W hj hD;have HJ:=CS hj;have HD:=CS hD;clear hj hD;gi_wp2
  refine⟨by simp,.inl ⟨_,_,rfl,run_takeDeferred HD.out,?_⟩⟩;refine⟨_,results_none rfl _ _ _,⟨_,rfl⟩,?_⟩;exact HJ.out.keep (λg _ hg=>World.putObj_heap_other λe=>by
   obtain⟨x,y,hx⟩:=hg;rw[e,HD.out]at hx
   cases hx) (by obtain⟨_,_,_,_,_,_,h6⟩:=HJ.out;exact h6.putObj _ _ (by have:=eT.out;omega))
 case stop=>intro c W h;exact h.elim
 case body =>
  rintro r ⟨k,q⟩ a₁ W ⟨⟨hj,hq⟩,rfl⟩ hl;obtain⟨v1,h1,h2,h3,h4,h5,h6⟩:=hj;obtain⟨i0,bm,bO,bD,bj⟩:=info_parts infoPtr;have e1:W.cell? ⟨w.heap.size,0,none⟩=some (.pointer (some ⟨b,0,none⟩)):=h4.cell 0;have e2:W.cell? ⟨b,0,none⟩=some v1:=(h1.cell 0).trans (by simp[gA]);have l1:=h1.lt;have l2:=h4.lt;have gj:v1.ownBlock≠some b:=by
   rcases h3 with e|⟨g,e,hg⟩
   ·rw[e];exact HVB.out
   ·rw[e];intro e;injection e with e;have:=HB.out.lt;omega
  have sd:v1.ownBlock≠some w.heap.size:=by
   rcases h3 with e|⟨g,e,hg⟩
   ·rw[e];intro e;have:=(zab HO.out _ e).2.1;omega
   ·rw[e];intro e;injection e with e;omega
  have aQ:Hid (∀(g6 c6:Nat) (w6:World),w6.ownsRow B 75 1 (.slice (some ⟨g6,0,none⟩) ((l++(ids.drop (k+1)).reverse).length+1) c6) ((l++(ids.drop (k+1)).reverse).length+1) ((l++(ids.drop (k+1)).reverse).map PK++[.pointer (some ⟨q,0,none⟩)]) ->
    (W.drew.alloc (.cells #[.pointer (some ⟨q,0,none⟩)] 75)).grownBy w6 v1.ownBlock->(v1.ownBlock=some g6\/g6=(W.drew.alloc (.cells #[.pointer (some ⟨q,0,none⟩)] 75)).heap.size) ->
    LaidP b B t cs l ids v A c w k (w6.setCell ⟨b,0,none⟩ (.slice (some ⟨g6,0,none⟩) ((l++(ids.drop (k+1)).reverse).length+1) c6))/\LoopAt r (w2.heap.size+1) w2.heap.size (w6.setCell ⟨b,0,none⟩ (.slice (some ⟨g6,0,none⟩) ((l++(ids.drop (k+1)).reverse).length+1) c6))):=CS (by
   intro g6 c6 w6 mN dq bF;have qN:=h6.size;have dO:=dq.size;have aD:(W.drew.alloc (.cells #[.pointer (some ⟨q,0,none⟩)] 75)).heap.size=W.heap.size+1:=by rw[World.size_alloc];rfl
   rw[aD]at dO bF
   have pN:∀g,g<W.heap.size->v1.ownBlock≠some g->g≠b->(w6.setCell ⟨b,0,none⟩ (.slice (some ⟨g6,0,none⟩) ((l++(ids.drop (k+1)).reverse).length+1) c6)).heap[g]?=W.heap[g]?:=λg hg af la =>
    (Below.heap_setCell _ _ _ _ la).trans ((dq.block g (by rw[aD];omega) (λe=>af e.symm)).trans (Below.heap_alloc W.drew _ g hg))
   have lA:Blk w6 b t (cs.setIfInBounds 0 v1):=(Blk.alloc (w:=W.drew) h1 (.cells #[.pointer (some ⟨q,0,none⟩)] 75)).grown dq (λe=>gj e.symm);have nz:(ids.drop k).reverse=(ids.drop (k+1)).reverse++[q]:=by
    obtain⟨hk,e⟩:=Aw.1 hq;rw[BO hk,List.reverse_cons]
    simp at e;rw[e]
   have sZ:g6≠b:=by
    rcases bF with e|e
    ·intro e2;rw[e2]at e;exact gj e
    ·have:=h1.lt;omega
   have gq:∀g,v1.ownBlock=some g->v.ownBlock=some g\/w.heap.size+2<=g:=λg hg=>by
    rcases h3 with e|⟨g',e,oH⟩
    ·exact .inl (e▸hg)
    ·rw[e]at hg;injection hg with hg;exact .inr (hg▸oH)
   have dw:=eT.out;refine⟨⟨.slice (some ⟨g6,0,none⟩) ((l++(ids.drop (k+1)).reverse).length+1) c6,?_,?_,?_,?_,?_,?_⟩,?_,?_⟩
   ·have:=heap_setCell_same w6 b 0 _ t (.slice (some ⟨g6,0,none⟩) ((l++(ids.drop (k+1)).reverse).length+1) c6) lA
    rw[Array.setIfInBounds_setIfInBounds]at this
    exact this
   ·rw[nz,<-Bj,Bl,show(l++(ids.drop (k+1)).reverse++[q]).length=(l++(ids.drop (k+1)).reverse).length+1 from Ap]
    exact ownsRow_setCell_other (a:=⟨b,0,none⟩) mN (λe=>sZ (by simpa[Value.ownBlock] using e)) _
   ·rcases bF with e|e
    ·rcases gq g6 e with e2|e2
     ·exact .inl e2.symm
     ·exact .inr ⟨g6,rfl,e2⟩
    ·exact .inr ⟨g6,rfl,by omega⟩
   ·exact h4.same (pN _ h4.lt sd (by have:=HB.out.lt;omega))
   ·exact h5.same (pN _ h5.lt (λe=>by rcases gq _ e with e2|e2;have:=(zab HO.out _ e2).2.1;omega;omega) (by have:=HB.out.lt;omega))
   ·refine((((show Chg (λg=>g=b\/v.ownBlock=some g) w W.drew from h6.drew).alloc _).grown dq (λg hg=>?_)).setCell (p:=⟨b,0,none⟩) (.inr (.inl rfl)) _)
    rcases gq g hg with e|e
    ·exact .inr (.inr e)
    ·exact .inl (by omega)
   ·exact(pN _ hl.lt.1 (λe=>by rcases gq _ e with e2|e2;have:=(zab HO.out _ e2).2.1;omega;obtain⟨_,_,cur,aa⟩:=zab h2 _ e;rw[hl.1]at aa;cases aa) (by have:=HB.out.lt;omega)).trans hl.1
   ·exact(pN _ hl.lt.2 (λe=>by obtain⟨_,_,cur,aa⟩:=zab h2 _ e;rw[hl.2]at aa;cases aa) (by have:=HB.out.lt;omega)).trans hl.2)
  obtain⟨L1,lD⟩:∃L1,l++(ids.drop (k+1)).reverse=L1:=⟨_,rfl⟩;rw[lD]at aQ h2
  have jT:L1.length<1000000000:=by
   have:=(Aw.1 hq).1;simp at this;rw[<-lD]
   simp;omega
  have ay:Hid ((W.drew.alloc (.cells #[.pointer (some ⟨q,0,none⟩)] 75)).ownsRow B 75 1 v1 L1.length (L1.map PK)):=CS (World.ownsRow.alloc (w:=W.drew) h2 _);have dz:Hid (∀j u,[Value.pointer (some ⟨q,0,none⟩)][j]?=some u->(W.drew.alloc (.cells #[.pointer (some ⟨q,0,none⟩)] 75)).cell? ((⟨W.heap.size,0,none⟩:Addr).add j)=some u):=CS (zas _ _ _ _ rfl);have hBW:B<=W.heap.size:=by have:=h6.size;omega
  have bN:=CS h1;have lN:=CS h4;have tH:Hid (some b≠v1.ownBlock):=CS λe=>gj e.symm;have tG:Hid (some w.heap.size≠v1.ownBlock):=CS λe=>sd e.symm;clear h1 h2 h3 h4 h5 h6 gj hq sd lD hl;gi_wp2
  refine wpIn_region_any (by kernel_rfl) ?_;refine zcX _ _ (zci (by kernel_rfl)) (λ_ _ h=>h) _ _ _ _ ?_;change wpAny _ _ _ _ _ _ _ (World.drew _)
  iterate 12
   all_goals
    iterate 4
     try
      first
       |refine wpAny_take (i:=5) (v:=(.pointer (some ⟨q,0,none⟩))) rfl (by kernel_rfl) (by decide +kernel) (by decide +kernel) (λ_ _ _ h=>h) (Or.inl ⟨by rfl,λw=>by go_simp⟩) ?_
       |refine wpAny_take (i:=2) (v:=(.pointer (some ⟨b,0,none⟩))) rfl (by kernel_rfl) (by decide +kernel) (by decide +kernel) (λ_ _ _ h=>h) (Or.inl ⟨by rfl,λw=>by go_simp⟩) ?_
       |refine wpAny_take (i:=3) (v:=(.pointer (some ⟨b,0,none⟩))) rfl (by kernel_rfl) (by decide +kernel) (by decide +kernel) (λ_ _ _ h=>h) (Or.inl ⟨by rfl,λw=>by go_simp⟩) ?_
       |refine wpAny_take (i:=8) (v:=(.pointer (some ⟨b,0,none⟩))) rfl (by kernel_rfl) (by decide +kernel) (by decide +kernel) (λ_ _ _ h=>h) (Or.inl ⟨by rfl,λw=>by go_simp⟩) ?_
       |refine wpAny_take (i:=9) (v:=(.pointer (some ⟨b,0,none⟩))) rfl (by kernel_rfl) (by decide +kernel) (by decide +kernel) (λ_ _ _ h=>h) (Or.inl ⟨by rfl,λw=>by go_simp⟩) ?_
   all_goals first
    |(refine wpAny_done (by decide +kernel) ?_ _;exact aQ.out _ _ _ oe.out uo.out fq.out)
    |refine wpAny_ready (rs:=[10]) (by decide +kernel) (by simp) ?_
    |refine wpAny_ready (rs:=[7]) (by decide +kernel) (by simp) ?_
    |refine wpAny_ready (rs:=[4]) (by decide +kernel) (by simp) ?_
    |refine wpAny_ready (rs:=[6]) (by decide +kernel) (by simp) ?_
    |refine wpAny_ready (rs:=[0,7]) (by decide +kernel) (by simp) ?_
    |refine wpAny_ready (rs:=[0]) (by decide +kernel) (by simp) ?_
    |refine wpAny_ready (rs:=[4,6]) (by decide +kernel) (by simp) ?_
    |refine wpAny_ready (rs:=[1]) (by decide +kernel) (by simp) ?_
    |refine wpAny_ready (rs:=[0,4]) (by decide +kernel) (by simp) ?_
    |refine wpAny_ready (rs:=[0,1,6]) (by decide +kernel) (by simp) ?_
    |refine wpAny_ready (rs:=[1,6]) (by decide +kernel) (by simp) ?_
    |refine wpAny_ready (rs:=[0,4,6]) (by decide +kernel) (by simp) ?_
    |refine wpAny_ready (rs:=[0,6]) (by decide +kernel) (by simp) ?_
    |refine wpAny_ready (rs:=[0,1]) (by decide +kernel) (by simp) ?_
   all_goals first
    |refine AllReady.cons rfl (λK hK=>?_) AllReady.nil
    |refine AllReady.cons rfl (λK hK=>?_) (AllReady.cons rfl (λK hK=>?_) AllReady.nil)
    |refine AllReady.cons rfl (λK hK=>?_) (AllReady.cons rfl (λK hK=>?_) (AllReady.cons rfl (λK hK=>?_) AllReady.nil))
   all_goals first
    |((refine step_append_lies _ (by rfl) _ _ _ (by rfl) B 75 i0 _ 1 8 Tryz.underlying130 bm bO bD bj rfl (by decide) _ L1.length (L1.map PK) (by rfl) ay.out ⟨W.heap.size,0,none⟩ 1 1 [.pointer (some ⟨q,0,none⟩)] rfl rfl dz.out (by intro u hu;simp at hu;subst hu;rfl) (by omega) (by unfold maxLen;omega) (by omega) (by simp;omega) _ rfl ?_;intro g6 c6 w6 dh ae bF sS;have lA:=(Blk.alloc (w:=W.drew) bN.out (.cells #[.pointer (some ⟨q,0,none⟩)] 75)).grown ae tH.out;have f1:w6.cell? ⟨b,0,none⟩=some v1:=(lA.cell 0).trans (by simp[gA]);have f2:w6.frozen? ⟨b,0,none⟩=false:=lA.frozen 0;have f3:=lA.lt;have f4:w6.cell? ⟨w.heap.size,0,none⟩=some (.pointer (some ⟨b,0,none⟩)):=((Blk.alloc (w:=W.drew) lN.out (.cells #[.pointer (some ⟨q,0,none⟩)] 75)).grown ae tG.out).cell 0;have oe:=CS dh;have uo:=CS ae;have fq:=CS bF;clear dh ae bF lA);(try go_simp);refine hK _ _ ?_;clear hK K)
    |(go_simp;refine hK _ _ ?_;clear hK K)
end Go.Proofs.YtfafilmklhnngaaGreatDoor
namespace Go.Proofs.YtfafilmklhnngaaGreatDoor
open Go.RowKit Lx Tx Go.Maps Go.WideMaps
set_option maxRecDepth 100000
inductive Rch (G:Nat->Option Nd) (hd:Nat->Nat):Nat->Nat->Prop
 |refl (p:Nat):Rch G hd p p
 |step (p q k:Nat) (x:Nd):Rch G hd p q->G q=some x->k∈x.kids->Rch G hd p (hd k)
structure Gr (G:Nat->Option Nd) (hd:Nat->Nat) (L:List Nat):Prop where
 kin:∀q x,G q=some x->∀k∈x.kids,∃y,G k=some y
 hin:∀q x,G q=some x->∃y,G (hd q)=some y
 idm:∀q,hd (hd q)=hd q
 all:∀q x,G q=some x->q∈L
def wg(G:Nat->Option Nd)(Vs:List Nat):List Nat->Nat
 |[]=>0
 |q::l=>(if q∈Vs then 0 else match G q with|some x=>x.kids.length+1|none=>0)+wg G Vs l
theorem zjY(G:Nat->Option Nd)(q:Nat)(Vs:List Nat):(L:List Nat)->wg G (q::Vs) L<=wg G Vs L
 |[]=>Ai _
 |a::l=>by
  have:=zjY G q Vs l;unfold wg;by_cases h:a∈Vs
  ·rw[Aq (Ar _ h),Aq h];omega
  ·rw[Am h]
   split <;> omega
theorem zer(G:Nat->Option Nd)(q:Nat)(Vs:List Nat)(x:Nd)(hx:G q=some x)(hq:q∉Vs):(L:List Nat)->q∈L->wg G (q::Vs) L+(x.kids.length+1)<=wg G Vs L
 |[],h=>(AT h).elim
 |a::l,h=>by
  unfold wg;by_cases e:a=q
  ·subst e
   rw[Aq Ay,Am hq,hx]
   have:=zjY G a Vs l;show 0+wg G (a::Vs) l+(x.kids.length+1)<=x.kids.length+1+wg G Vs l;omega
  ·have hl:q∈l:=by
    rcases An.1 h with h|h
    ·exact(e h.symm).elim
    ·exact h
   have:=zer G q Vs x hx hq l hl;by_cases hv:a∈Vs
   ·rw[Aq (Ar _ hv),Aq hv];omega
   ·rw[Am hv,Am (by rw[An];rintro(h|h);exact e h;exact hv h)];omega
structure Dfs (G:Nat->Option Nd) (hd:Nat->Nat) (p:Nat) (Vs stk:List Nat):Prop where
 hv:∀q∈Vs,∃x,G q=some x
 rv:∀q∈Vs,Rch G hd (hd p) q
 ks:∀j∈stk,(∃y,G j=some y)/\Rch G hd (hd p) (hd j)
 cl:∀q∈Vs,∀x,G q=some x->∀k∈x.kids,hd k∈Vs\/∃j∈stk,hd j=hd k
 rt:hd p∈Vs\/∃j∈stk,hd j=hd p
theorem Dfs.start {G:Nat->Option Nd} {hd:Nat->Nat} {p:Nat} {y:Nd}(h:G p=some y):Dfs G hd p [] [p] where
 hv q h:=(AT h).elim
 rv q h:=(AT h).elim
 ks j hj:=by rw[AJ]at hj;subst hj;exact⟨⟨y,h⟩,.refl _⟩
 cl q h:=(AT h).elim
 rt:=.inr ⟨p,AJ.2 rfl,rfl⟩
theorem Dfs.skip {G:Nat->Option Nd} {hd:Nat->Nat} {p:Nat} {Vs l:List Nat} {j:Nat}(h:Dfs G hd p Vs (l++[j]))(hj:hd j∈Vs):Dfs G hd p Vs l where
 hv:=h.hv
 rv:=h.rv
 ks i hi:=h.ks i (By _ hi)
 cl q hq x hx k hk:=by
  rcases h.cl q hq x hx k hk with h1|⟨i,hi,e⟩
  ·exact .inl h1
  ·rcases AA.1 hi with hi|hi
   ·exact .inr ⟨i,hi,e⟩
   ·rw[AJ]at hi
    rw[<-e,hi]
    exact .inl hj
 rt:=by
  rcases h.rt with h1|⟨i,hi,e⟩
  ·exact .inl h1
  ·rcases AA.1 hi with hi|hi
   ·exact .inr ⟨i,hi,e⟩
   ·rw[AJ]at hi
    rw[<-e,hi]
    exact .inl hj
theorem Dfs.visit {G:Nat->Option Nd} {hd:Nat->Nat} {p:Nat} {L Vs l:List Nat} {j:Nat} {x:Nd}(g:Gr G hd L)(h:Dfs G hd p Vs (l++[j]))(hx:G (hd j)=some x):Dfs G hd p (hd j::Vs) (l++x.kids.reverse) where
 hv q hq:=by
  rcases An.1 hq with e|hq
  ·rw[e];exact⟨x,hx⟩
  ·exact h.hv q hq
 rv q hq:=by
  rcases An.1 hq with e|hq
  ·rw[e];exact(h.ks j (Bh _ (AJ.2 rfl))).2
  ·exact h.rv q hq
 ks i hi:=by
  rcases AA.1 hi with hi|hi
  ·exact h.ks i (By _ hi)
  ·rw[CB]at hi
   exact⟨g.kin _ x hx i hi,.step _ _ _ x (h.ks j (Bh _ (AJ.2 rfl))).2 hx hi⟩
 cl q hq y hy k hk:=by
  rcases An.1 hq with e|hq
  ·rw[e,hx]at hy
   injection hy with hy;subst hy;exact .inr ⟨k,Bh _ (CB.2 hk),rfl⟩
  ·rcases h.cl q hq y hy k hk with h1|⟨i,hi,e⟩
   ·exact .inl (Ar _ h1)
   ·rcases AA.1 hi with hi|hi
    ·exact .inr ⟨i,By _ hi,e⟩
    ·rw[AJ]at hi
     rw[<-e,hi]
     exact .inl Ay
 rt:=by
  rcases h.rt with h1|⟨i,hi,e⟩
  ·exact .inl (Ar _ h1)
  ·rcases AA.1 hi with hi|hi
   ·exact .inr ⟨i,By _ hi,e⟩
   ·rw[AJ]at hi
    rw[<-e,hi]
    exact .inl Ay
theorem Dfs.done {G:Nat->Option Nd} {hd:Nat->Nat} {p:Nat} {Vs:List Nat}(h:Dfs G hd p Vs [])(q:Nat):q∈Vs↔Rch G hd (hd p) q:=by
 refine⟨h.rv q,λhr=>?_⟩;have hp:hd p∈Vs:=by
  rcases h.rt with h1|⟨i,hi,_⟩
  ·exact h1
  ·exact(AT hi).elim
 generalize hd p=r at hp hr;induction hr with
 |refl=>exact hp
 |step q k x _ hx hk ih =>
  rcases h.cl q ih x hx k hk with h1|⟨i,hi,_⟩
  ·exact h1
  ·exact(AT hi).elim
theorem zjZ {w:World} {B:Nat} {e:TypeId} {v:Value} {l:List Nat} {x:Nat}(h:w.ownsRow B e 1 v (l++[x]).length ((l++[x]).map PK)):∃g cap,v=.slice (some ⟨g,0,none⟩) (l++[x]).length cap/\w.ownsRow B e 1 (.slice (some ⟨g,0,none⟩) l.length cap) l.length (l.map PK):=by
 obtain⟨h0,⟨_,h1⟩|⟨g,cap,cur,hv,h1,h2,h3,h4,h5,h6⟩⟩:=h
 ·simp at h1
 ·refine⟨g,cap,hv,by simp,.inr ⟨g,cap,cur,rfl,h1,h2,?_,h4,h5,?_⟩⟩
  ·rw[Ap]at h3;simp at h3;omega
  ·rw[Bl,Ap]at h6
   have:=Az (List.take l.length) h6;rw[List.take_take,List.take_left' (by simp)]at this
   rw[<-this]
   congr 1
   simp
theorem zmu {W:World} {B st:Nat} {v:Value} {l:List Nat}(hb:Blk W st 195 #[v])(ho:W.ownsRow B 75 1 v l.length (l.map PK))(hl:l.length<=1000000000):∃A c,v=.slice A l.length c/\StkP W st l A c:=by
 obtain⟨h0,⟨hv,h1⟩|⟨g,cap,cur,hv,h1,h2,h3,h4,h5,h6⟩⟩:=ho
 ·refine⟨none,0,by rw[hv,h1],by rw[h1,<-hv];exact hb.cell 0,hb.frozen 0,hb.lt,by omega,hl,λhn=>?_⟩
  exact(hn (AD h1)).elim
 ·refine⟨some ⟨g,0,none⟩,cap,hv,by rw[<-hv];exact hb.cell 0,hb.frozen 0,hb.lt,h3,hl,λ_=>⟨g,rfl,λj q hq=>?_⟩⟩
  rw[cell_of_row W g j cur _ (0,0) h2]
  have hj:j<l.length:=(Aw.1 hq).1;have:(cur.toList.take (l.length*1))[j]?=some (PK q):=by rw[h6,AY,hq];rfl
  rw[List.getElem?_take,Aq (by omega),BC]at this
  exact this
end Go.Proofs.YtfafilmklhnngaaGreatDoor
namespace Go.Proofs.YtfafilmklhnngaaGreatDoor
open Go.RowKit Go.Shelf Lx Tx Go.Maps Go.WideMaps
set_option maxRecDepth 100000
attribute [local go_sem] Oper.semAt_some
def dV(D:Nat->Dy)(S:Int)(Vs:List Nat):Nat->Dy:=λq=>if q∈Vs then { D q with sr:=S } else D q
structure ThrL (b mk bo bu ba bn st e3 e5:Nat) (G:Nat->Option Nd) (D:Nat->Dy):Prop where
 b:b<st
 mp:mk<st
 bo:bo<st
 bu:bu<st
 ba:ba<st
 bn:bn<st
 e3:e3<st
 e5:e5<st
 gl:∀q x,G q=some x->q<st
 rl:∀q x,G q=some x->x.kids≠[]->(D q).row<st
structure ThrV (b mk u bo bu ba bn e3 e5:Nat) (S:Int) (c0 c1 c2:Value) (G:Nat->Option Nd) (D:Nat->Dy) (hd:Nat->Nat) (Vs Vn:List Nat) (W:World):Prop where
 sb:Blk W b 85 #[c0,c1,c2,.map (some mk),.int .i64 S]
 kn:∃K',Knw W mk K' hd
 pd:PartsD W G (dV D S Vs)
 nt:Notes W bo bu ba bn u (decide (u∈Vn)) (Vn.any λq=>(G q).any λx=>decide (x.kd=5)) (Vn.any λq=>(G q).any λx=>x.new)
 b3:Blk W e3 72 #[.pointer (some ⟨b,0,none⟩)]
 b5:Blk W e5 227 #[.func (.func 158) #[] #[.pointer (some ⟨bo,0,none⟩),.pointer (some ⟨bu,0,none⟩),.pointer (some ⟨ba,0,none⟩),.pointer (some ⟨bn,0,none⟩)]]
theorem zmv(D:Nat->Dy)(S:Int)(Vs:List Nat)(q:Nat):(dV D S Vs q).row=(D q).row:=by
 unfold dV;split <;> rfl
section
variable {b mk u bo bu ba bn st e3 e5:Nat} {S:Int} {c0 c1 c2:Value} {G:Nat->Option Nd} {D:Nat->Dy} {hd:Nat->Nat} {Vs Vn:List Nat} {W W':World}
theorem ThrV.keep(l:ThrL b mk bo bu ba bn st e3 e5 G D)(h:ThrV b mk u bo bu ba bn e3 e5 S c0 c1 c2 G D hd Vs Vn W)(hb:Below st W W')(hl:∀x,LaidQ W x->LaidQ W' x):ThrV b mk u bo bu ba bn e3 e5 S c0 c1 c2 G D hd Vs Vn W' where
 sb:=h.sb.below hb l.b
 kn:=by obtain⟨K',hk⟩:=h.kn;exact⟨K',hk.keep (hb.block _ l.mp) hl⟩
 pd:=h.pd.but (λq x hx=>hb.block _ (l.gl q x hx)) (λq x hx hn=>by rw[zmv];exact hb.block _ (l.rl q x hx hn))
 nt:=h.nt.keep (hb.block _ l.bo) (hb.block _ l.bu) (hb.block _ l.ba) (hb.block _ l.bn)
 b3:=h.b3.below hb l.e3
 b5:=h.b5.below hb l.e5
theorem ThrV.head(h:ThrV b mk u bo bu ba bn e3 e5 S c0 c1 c2 G D hd Vs Vn W)(hc:Chg (only mk) W W')(hk:∃K',Knw W' mk K' hd):ThrV b mk u bo bu ba bn e3 e5 S c0 c1 c2 G D hd Vs Vn W':=by
 obtain⟨K,hK⟩:=h.kn;have af:∀(g:Nat) (cs:Array Value) (t:TypeId),W.heap[g]?=some (.cells cs t (0,0))->W'.heap[g]?=W.heap[g]?:=λg cs t hg=>hc.block g (Aj.1 hg).1 (λe=>by
  have e:g=mk:=e;rw[e]at hg
  exact MapK.no hK.mp hg)
 refine⟨h.sb.same (af _ _ _ h.sb),hk,?_,h.nt.keep (af _ _ _ h.nt.o) (af _ _ _ h.nt.u) (af _ _ _ h.nt.a) (af _ _ _ h.nt.n),h.b3.same (af _ _ _ h.b3),h.b5.same (af _ _ _ h.b5)⟩;exact h.pd.same λk hl ⟨cs,t,hx⟩=>af k cs t hx
theorem PartC.mark {w:World} {p:Nat} {x:Nd} {d:Dy}(h:PartC w p x d)(s:Int):PartC (w.setCell ⟨p,8,none⟩ (.int .i64 s)) p x { d with sr:=s }:=by
 obtain⟨A,c,hb,hr⟩:=h;refine⟨A,c,heap_setCell_same w p 8 _ _ (.int .i64 s) hb,λhk=>?_⟩;obtain⟨e,cur,hc,hq⟩:=hr hk;exact⟨e,cur,(Below.heap_setCell _ _ _ _ (Blk.ne_ (show Blk w d.row _ cur from hc) hb (by decide))).trans hc,hq⟩
theorem PartC.ne {w:World} {p q:Nat} {x y:Nd} {d e:Dy}(h:PartC w p x d)(k:PartC w q y e)(hk:x.kids≠[]):d.row≠q:=by
 obtain⟨A,c,hb,hr⟩:=h;obtain⟨_,_,aT,_⟩:=k;obtain⟨_,cur,hc,_⟩:=hr hk;exact Blk.ne_ (show Blk w d.row _ cur from hc) aT (by decide)
theorem PartC.blkNe {w:World} {p g:Nat} {x:Nd} {d:Dy} {t:TypeId} {cs:Array Value}(h:PartC w p x d)(k:Blk w g t cs)(ht:t≠132):g≠p:=by
 obtain⟨A,c,hb,_⟩:=h;exact Blk.ne_ k hb ht
theorem LaidQ.setCell {w:World} {x:Nat}(h:LaidQ w x)(g o:Nat)(v:Value):LaidQ (w.setCell ⟨g,o,none⟩ v) x:=by
 obtain⟨cs,hx⟩:=h;by_cases e:x=g
 ·subst e
  exact⟨_,heap_setCell_same w x o _ _ v hx⟩
 ·exact⟨cs,(Below.heap_setCell _ _ _ _ e).trans hx⟩
theorem ThrV.mark(h:ThrV b mk u bo bu ba bn e3 e5 S c0 c1 c2 G D hd Vs Vn W) {q:Nat} {x:Nd}(hx:G q=some x):ThrV b mk u bo bu ba bn e3 e5 S c0 c1 c2 G D hd (q::Vs) Vn (W.setCell ⟨q,8,none⟩ (.int .i64 S)):=by
 have hq:=h.pd q x hx;have af:∀g t cs,Blk W g t cs->t≠132->(W.setCell ⟨q,8,none⟩ (.int .i64 S)).heap[g]?=W.heap[g]?:=λg t cs hg ht=>Below.heap_setCell _ _ _ _ (hq.blkNe hg ht);obtain⟨K,hK⟩:=h.kn;refine⟨h.sb.same (af _ _ _ h.sb (by decide)),⟨K,hK.keep (Below.heap_setCell _ _ _ _ λe=>by obtain⟨_,_,hb,_⟩:=hq;have e:mk=q:=e;rw[<-e]at hb;exact MapK.no hK.mp hb) (λy hy=>hy.setCell _ _ _)⟩,?_,
  h.nt.keep (af _ _ _ h.nt.o (by decide)) (af _ _ _ h.nt.u (by decide)) (af _ _ _ h.nt.a (by decide)) (af _ _ _ h.nt.n (by decide)),h.b3.same (af _ _ _ h.b3 (by decide)),h.b5.same (af _ _ _ h.b5 (by decide))⟩
 intro r y hy;have hr:=h.pd r y hy;by_cases e:r=q
 ·subst e
  have:=hr.mark S;unfold dV at this ⊢;rw[Aq Ay]
  by_cases hv:r∈Vs
  ·rw[Aq hv]at this;exact this
  ·rw[Am hv]at this;exact this
 ·have iL:dV D S (q::Vs) r=dV D S Vs r:=by
   unfold dV;by_cases hv:r∈Vs
   ·rw[Aq hv,Aq (Ar _ hv)]
   ·rw[Am hv,Am (by rw[An];rintro(h|h);exact e h;exact hv h)]
  rw[iL]
  exact hr.keep (Below.heap_setCell _ _ _ _ e) (λhk=>Below.heap_setCell _ _ _ _ (hr.ne hq hk))
theorem ThrV.note(h:ThrV b mk u bo bu ba bn e3 e5 S c0 c1 c2 G D hd Vs Vn W) {q:Nat} {x:Nd}(hx:G q=some x)(hc:Chg (λg=>g=bo\/g=ba\/g=bn) W W')
  (hn:Notes W' bo bu ba bn u (decide (u∈Vn)||decide (q=u)) ((Vn.any λq=>(G q).any λx=>decide (x.kd=5))||decide (x.kd=5)) ((Vn.any λq=>(G q).any λx=>x.new)||x.new))(hl:∀y,LaidQ W y->LaidQ W' y):ThrV b mk u bo bu ba bn e3 e5 S c0 c1 c2 G D hd Vs (q::Vn) W':=by
 have af:∀g t cs,Blk W g t cs->t≠4->W'.heap[g]?=W.heap[g]?:=λg t cs hg ht=>hc.block g hg.lt (by
  rintro(e|e|e)
  ·exact Blk.ne_ hg h.nt.o ht e
  ·exact Blk.ne_ hg h.nt.a ht e
  ·exact Blk.ne_ hg h.nt.n ht e)
 obtain⟨K,hK⟩:=h.kn;refine⟨h.sb.same (af _ _ _ h.sb (by decide)),⟨K,hK.keep (hc.block _ (MapK.lt hK.mp) (by
  rintro(e|e|e)
  ·exact MapK.no hK.mp (e▸h.nt.o)
  ·exact MapK.no hK.mp (e▸h.nt.a)
  ·exact MapK.no hK.mp (e▸h.nt.n))) hl⟩,?_,?_,h.b3.same (af _ _ _ h.b3 (by decide)),h.b5.same (af _ _ _ h.b5 (by decide))⟩
 ·intro r y hy
  obtain⟨A,c,hb,hr⟩:=h.pd r y hy;refine PartC.keep ⟨A,c,hb,hr⟩ (af _ _ _ hb (by decide)) (λhk=>?_);obtain⟨_,cur,aa,_⟩:=hr hk;exact af _ _ cur aa (by decide)
 ·have e1:decide (u∈q::Vn)=(decide (u∈Vn)||decide (q=u)):=by
   rw[BV];simp;constructor
   ·rintro(e|e)
    ·exact .inr e.symm
    ·exact .inl e
   ·rintro(e|e)
    ·exact .inr e
    ·exact .inl e.symm
  rw[e1,List.any_cons,List.any_cons,hx,Bool.or_comm (Option.any _ _) _,Bool.or_comm (Option.any _ _) _]
  exact hn
end
attribute [local go_sem] Oper.semAt_some
def ThrJ(b mk u bo bu ba bn st e3 e5 B p:Nat)(S:Int)(c0 c1 c2:Value)(G:Nat->Option Nd)(D:Nat->Dy)(hd:Nat->Nat)(L:List Nat)(w:World)(N:Nat)(top stk:List Nat)(W:World):Prop :=
 ∃Vs v,Dfs G hd p Vs (stk++top)/\N=(stk++top).length+wg G Vs L/\N<=1000000/\ThrV b mk u bo bu ba bn e3 e5 S c0 c1 c2 G D hd Vs Vs W /\
  Blk W st 195 #[v]/\W.ownsRow B 75 1 v stk.length (stk.map PK)/\Chg (λg=>g=mk\/g=b\/(∃x,G g=some x)\/g=bo\/g=ba\/g=bn) w W
theorem ThrJ.noRec {b mk u bo bu ba bn st e3 e5 B p:Nat} {S:Int} {c0 c1 c2:Value} {G:Nat->Option Nd} {D:Nat->Dy} {hd:Nat->Nat} {L:List Nat} {w:World}(l:ThrL b mk bo bu ba bn st e3 e5 G D) {N:Nat} {top stk:List Nat} {lp:Nat}(h1:st<=lp)(h2:w.heap.size<=lp):NoRec lp (ThrJ b mk u bo bu ba bn st e3 e5 B p S c0 c1 c2 G D hd L w N top stk):=λW r r' h hl=>by
 obtain⟨Vs,v,vb,hN,hM,hv,hs,ho,hc⟩:=h;have hb:Below st W (W.putObj lp (.loop r')):=⟨rfl,rfl,rfl,by rw[World.putObj_size];exact Ai _,λg hg=>World.putObj_heap_other (by omega)⟩;refine⟨Vs,v,vb,hN,hM,hv.keep l hb (λx hx=>by obtain⟨cs,hx⟩:=hx;exact⟨cs,(zaH hl x ⟨_,_,hx⟩).trans hx⟩),hs.same (zaH hl st ⟨_,_,hs⟩),zan ho (λg hg=>?_),hc.putObj _ _ h2⟩;obtain⟨_,_,cur,aa⟩:=zab ho g hg;exact zaH hl g ⟨_,_,aa⟩
theorem zk0(b mk p u bo bu ba bn:Nat)(s:Int)(c0 c1 c2:Value)(G:Nat->Option Nd)(D:Nat->Dy)(K:Nat->Option Nat)(hd:Nat->Nat)(L:List Nat)(w:World)
  (hb:Blk w b 85 #[c0,c1,c2,.map (some mk),.int .i64 s])(hk:Knw w mk K hd)(bB:PartsD w G D)(hg:Gr G hd L)(fO:∀q x,G q=some x->(D q).sr<=s)(y:Nd)(hp:G p=some y)
  (hn:Notes w bo bu ba bn u false false false)(h1:bo≠ba)(h2:bo≠bn)(h3:ba≠bn)(yu:Nd)(hu:G u=some yu)(hw:1+wg G [] L<=1000000)(fP:0<=s)(hs:s<1000000000000):Calls Tryz.prog 157 #[.pointer (some ⟨b,0,none⟩),.pointer (some ⟨p,0,none⟩),.func (.func 158) #[] #[.pointer (some ⟨bo,0,none⟩),.pointer (some ⟨bu,0,none⟩),.pointer (some ⟨ba,0,none⟩),.pointer (some ⟨bn,0,none⟩)]] w λe w'=>(∃x,e=.returned x) /\
   ∃Vs e3 e5,(∀q,q∈Vs↔Rch G hd (hd p) q)/\ThrV b mk u bo bu ba bn e3 e5 (s+1) c0 c1 c2 G D hd Vs Vs w'/\Chg (λg=>g=mk\/g=b\/(∃x,G g=some x)\/g=bo\/g=ba\/g=bn) w w':=by
 refine(callsIn_wide (n:=10)).1 ?_;refine callsIn_of_wp_marks Tryz.func157 rfl trivial ?_ rfl;simp only[Tryz.ntmps157,Bf,Ao,Be,Nat.reduceAdd,Nat.reduceSub,Bq,Bp,BD,Bu,AL,AE];have bJ:=hb.lt;have af:∀g cs t,Blk w g t cs->g≠mk:=λg cs t hg e=>by rw[e]at hg;exact MapK.no hk.mp hg
 have dL:mk<w.heap.size:=MapK.lt hk.mp;obtain⟨w1,bU⟩:∃W,w.setCell ⟨b,4,none⟩ (.int .i64 (s+1))=W:=⟨_,rfl⟩;have aF:w1.heap.size=w.heap.size:=by rw[<-bU];exact World.size_setCell _ _ _
 obtain⟨l0,l1,ls2,cj⟩:=zaZ w1 (.cells #[.pointer (some ⟨b,0,none⟩)] 72) (.cells #[.func (.func 158) #[] #[.pointer (some ⟨bo,0,none⟩),.pointer (some ⟨bu,0,none⟩),.pointer (some ⟨ba,0,none⟩),.pointer (some ⟨bn,0,none⟩)]] 227);obtain⟨w2,dJ⟩:∃W,(w1.alloc (.cells #[.pointer (some ⟨b,0,none⟩)] 72)).alloc (.cells #[.func (.func 158) #[] #[.pointer (some ⟨bo,0,none⟩),.pointer (some ⟨bu,0,none⟩),.pointer (some ⟨ba,0,none⟩),.pointer (some ⟨bn,0,none⟩)]] 227)=W:=⟨_,rfl⟩;rw[dJ]at l0 l1 ls2 cj
 have e2:w2.heap.size=w.heap.size+1+1:=by omega
 rw[aF]at l0 l1
 obtain⟨m0,m1,ms2,mb2⟩:=zaZ w2 (.cells #[.slice none 0 0] 195) (.cells #[.pointer (some ⟨p,0,none⟩)] 75);obtain⟨w5,bd⟩:∃W,(w2.alloc (.cells #[.slice none 0 0] 195)).alloc (.cells #[.pointer (some ⟨p,0,none⟩)] 75)=W:=⟨_,rfl⟩;rw[bd]at m0 m1 ms2 mb2
 rw[e2]at m0 m1
 have bS:=zff (w.heap.size+1+1) (w.heap.size+1+1+1) 195 #[.slice none 0 0] (by decide) [] [p] (.slice none 0 0) (some ⟨w.heap.size+1+1+1,0,none⟩) 1 w5 m0 (World.ownsRow_nil _ _ _ _) (by omega) (by simp[Value.ownBlock]) (by simp) (λj q hq=>by
  rw[List.getElem?_singleton]at hq
  split at hq
  ·rename_i hj
   injection hq with hq;subst hj hq;exact⟨w.heap.size+1+1+1,rfl,by omega,by omega,by simp[Value.ownBlock],(show Blk w5 (w.heap.size+1+1+1) _ _ from m1).cell 0⟩
  ·cases hq)
 rw[<-bd,<-dJ,<-bU]at bS
 have dA:=CS bS;clear bS;have z3:((w.alloc (.cells #[.pointer (some ⟨b,0,none⟩)] 72)).alloc (.cells #[.func (.func 158) #[] #[.pointer (some ⟨bo,0,none⟩),.pointer (some ⟨bu,0,none⟩),.pointer (some ⟨ba,0,none⟩),.pointer (some ⟨bn,0,none⟩)]] 227)).cell? ⟨b,4,none⟩=some (.int .i64 s):=(Blk.alloc (Blk.alloc hb _) _).cell 4;have zf:w.frozen? ⟨b,4,none⟩=false:=hb.frozen 4;have eI:=CS bU;have HW2:=CS dJ;have HW5:=CS bd;have eU:=CS l0;have fp:=CS l1;have HM0:=CS m0;clear bU dJ bd l0 l1 m0 m1;gi_wp2
 refine⟨trivial,?_⟩;refine((callsIn_wide (n:=9)).2 dA.out).mono ?_;rintro e w6 ⟨⟨v0,rfl⟩,hl6⟩;rw[eI.out,HW2.out,HW5.out]at hl6
 gi_wp2
 have hL:ThrL b mk bo bu ba bn (w.heap.size+1+1) w.heap.size (w.heap.size+1) G D:=⟨by omega,by omega,by have:=hn.o.lt;omega,by have:=hn.u.lt;omega,by have:=hn.a.lt;omega,by have:=hn.n.lt;omega,by omega,by omega,λq x hx=>by have:=(bB q x hx).lt;omega,λq x hx hk=>by have:=(bB q x hx).row_lt hk;omega⟩;obtain⟨v6,a1,a2,-,-,-,a6⟩:=hl6;have dO:=a6.size;have vQ:Below (w.heap.size+1+1) w2 w6:=(mb2.mono (by omega)).trans (a6.toBelow (by omega) (λk hk h=>by rcases h with h|h;omega;cases h));have k1:∀g,g<w.heap.size->g≠b->w6.heap[g]?=w.heap[g]?:=λg hg la=>(vQ.block g (by omega)).trans ((cj.block g (by omega)).trans (by rw[<-eI.out];exact Below.heap_setCell _ _ _ _ la));have hdV:dV D (s+1) []=D:=by funext q;unfold dV;rw[Am AT]
 have wh:ThrV b mk u bo bu ba bn w.heap.size (w.heap.size+1) (s+1) c0 c1 c2 G D hd [] [] w6:=by
  refine⟨?_,⟨K,hk.keep (k1 mk dL (af b _ _ hb).symm) (λx hx=>?_)⟩,?_,?_,?_,?_⟩
  ·have:Blk w1 b 85 #[c0,c1,c2,.map (some mk),.int .i64 (s+1)]:=by rw[<-eI.out];exact heap_setCell_same w b 4 _ _ _ hb
   exact(this.below cj (by omega)).below vQ (by omega)
  ·obtain⟨cs,hx⟩:=hx
   exact⟨cs,(k1 x (Aj.1 hx).1 (Blk.ne_ (show Blk w x _ cs from hx) hb (by decide))).trans hx⟩
  ·rw[hdV]
   intro q x hx;obtain⟨A,c,hq,hr⟩:=bB q x hx;refine PartC.keep ⟨A,c,hq,hr⟩ (k1 q hq.lt (Blk.ne_ hq hb (by decide))) (λhn=>?_);obtain⟨_,cur,hc,_⟩:=hr hn;exact k1 _ (Aj.1 hc).1 (Blk.ne_ (show Blk w _ _ cur from hc) hb (by decide))
  ·have:=hn.keep (w':=w6) (k1 bo hn.o.lt (Blk.ne_ hn.o hb (by decide))) (k1 bu hn.u.lt (Blk.ne_ hn.u hb (by decide))) (k1 ba hn.a.lt (Blk.ne_ hn.a hb (by decide))) (k1 bn hn.n.lt (Blk.ne_ hn.n hb (by decide)))
   simpa using this
  ·exact Blk.below (show Blk w2 _ _ _ from eU.out) vQ (by omega)
  ·exact Blk.below (show Blk w2 _ _ _ from fp.out) vQ (by omega)
 have h0:ThrJ b mk u bo bu ba bn (w.heap.size+1+1) w.heap.size (w.heap.size+1) (w.heap.size+1+1+1) p (s+1) c0 c1 c2 G D hd L w (1+wg G [] L) [] [p] w6:=by
  refine⟨[],v6,?_,rfl,hw,wh,a1,a2,?_⟩
  ·exact Dfs.start hp
  ·refine((((Chg.refl _ w).setCell (p:=⟨b,4,none⟩) (.inr (.inr (.inl rfl))) _).trans' (eI.out▸Chg.of_below cj) (λ_ _ h=>h)).belowB mb2 (by omega)).trans' a6 (λi hi h=>?_)
   rcases h with h|h
   ·omega
   ·cases h
 have HL:=CS hL;have H0:=CS h0;have HG:=CS hg;have HSR:=CS fO;have eh:Hid (w.heap.size+1+1+1+1<=w6.heap.size):=CS (by omega);have vC:Hid (bo≠ba/\bo≠bn/\ba≠bn):=CS ⟨h1,h2,h3⟩;have HU:=CS hu;have bK:=CS hw;clear hL h0 wh hdV k1 vQ dO a1 a2 a6 hg fO hb hk bB hp hn h1 h2 h3 hu hw af dL bJ aF ls2 cj e2 ms2 mb2 z3 zf eI HW2 HW5 eU fp HM0 dA;obtain⟨be,nN⟩:∃n,w.heap.size+1+1=n:=⟨_,rfl⟩;rw[nN]at HL H0 eh ⊢
 refine zch (σ:=Nat × Nat × List Nat) rfl (by omega) (gf:=120) (fb:=#[.pointer (some ⟨be,0,none⟩)]) (lb:=#[]) rfl trivial (enters_of Tryz.func120 (by kernel_rfl) rfl)
  (λx=>#[.pointer (some ⟨x.2.1,0,none⟩)]) (λ_=>rfl)
  (λx W=>ThrJ b mk u bo bu ba bn be w.heap.size (w.heap.size+1) (be+1) p (s+1) c0 c1 c2 G D hd L w x.1 [x.2.1] x.2.2 W)
  (λx W=>∃N' l',N'<x.1/\ThrJ b mk u bo bu ba bn be w.heap.size (w.heap.size+1) (be+1) p (s+1) c0 c1 c2 G D hd L w N' [] l' W)
  (λx a₁ W=>ThrJ b mk u bo bu ba bn be w.heap.size (w.heap.size+1) (be+1) p (s+1) c0 c1 c2 G D hd L w x.1 [x.2.1] x.2.2 W/\a₁ = { tmps:=#[.pointer (some ⟨b,0,none⟩),.pointer (some ⟨p,0,none⟩),
   .func (.func 158) #[] #[.pointer (some ⟨bo,0,none⟩),.pointer (some ⟨bu,0,none⟩),.pointer (some ⟨ba,0,none⟩),.pointer (some ⟨bn,0,none⟩)],.pointer (some ⟨w.heap.size,0,none⟩),undef,.pointer (some ⟨w.heap.size+1,0,none⟩),
   .pointer (some ⟨be,0,none⟩),.pointer (some ⟨x.2.1,0,none⟩),.pointer (some ⟨b,0,none⟩),.pointer (some ⟨b,0,none⟩),.pointer (some ⟨b,4,none⟩),.int .i64 s,.int .i64 (s+1),.pointer (some ⟨b,0,none⟩),.pointer (some ⟨b,4,none⟩),.pointer (some ⟨p,0,none⟩),
   .slice (some ⟨be+1,0,none⟩) 1 1,v0,.func (.func 120) #[.pointer (some ⟨be,0,none⟩)] #[],.pointer (some ⟨x.2.1,0,none⟩),undef,undef,undef,undef,undef,undef,undef,undef,undef,undef,undef,undef,undef,undef,undef,undef,undef,undef,undef,undef,undef,undef,undef,undef,undef,undef,undef],defers:=[] })
  (λW=>∃N,ThrJ b mk u bo bu ba bn be w.heap.size (w.heap.size+1) (be+1) p (s+1) c0 c1 c2 G D hd L w N [] [] W) (λ_ _=>False)
  (λx a₁ W r r' h hl=>⟨ThrJ.noRec HL.out (by have:=eh.out;omega) (by have:=eh.out;omega) W r r' h.1 hl,h.2⟩)
  (λx W r r' h hl=>by obtain⟨N',l',ah,h⟩:=h;exact⟨N',l',ah,ThrJ.noRec HL.out (by have:=eh.out;omega) (by have:=eh.out;omega) W r r' h hl⟩)
  (λW r r' h hl=>by obtain⟨N,h⟩:=h;exact⟨N,ThrJ.noRec HL.out (by have:=eh.out;omega) (by have:=eh.out;omega) W r r' h hl⟩) (λ_ _ _ _ h _=>h) ?assign ?body ?iter ?done ?stop
 case assign =>
  intro r x W hj hl;have HJ:=CS hj;have fM:=CS hl;clear hj hl;gi_wp2
  exact⟨fM.out,HJ.out,trivial⟩
 case stop=>intro c W h;exact h.elim
 case done =>
  intro W hj hD;have HJ:=CS hj;have HD:=CS hD;clear hj hD;gi_wp2
  refine⟨by simp,.inl ⟨_,_,rfl,run_takeDeferred HD.out,?_⟩⟩;refine⟨_,results_none rfl _ _ _,⟨_,rfl⟩,?_⟩;obtain⟨N,Vs,v,h1,-,-,h4,-,-,h7⟩:=HJ.out;have hle:=eh.out;have hb:Below be W (W.putObj w6.heap.size (.deferred none)):=⟨rfl,rfl,rfl,by rw[World.putObj_size];exact Ai _,λg hg=>World.putObj_heap_other (by omega)⟩;exact⟨Vs,_,_,λq=>h1.done q,h4.keep HL.out hb (λx hx=>by obtain⟨cs,hx⟩:=hx;exact⟨cs,(World.putObj_heap_other λe=>by rw[e,HD.out]at hx;cases hx).trans hx⟩),h7.putObj _ _ (by omega)⟩
 case iter =>
  intro rec W1 aw aF cg hY;have rH:ThrJ b mk u bo bu ba bn be w.heap.size (w.heap.size+1) (be+1) p (s+1) c0 c1 c2 G D hd L w (1+wg G [] L) [] [p] W1:=by
   obtain⟨Vs,v,h1,h2,h3,h4,h5,h6,h7⟩:=H0.out;have hle:=eh.out;exact⟨Vs,v,h1,h2,h3,h4.keep HL.out (aw.mono (by omega)) (λx hx=>by obtain⟨cs,hx⟩:=hx;exact⟨cs,(aw.block x (Aj.1 hx).1).trans hx⟩),h5.below aw (by omega),zan h6 (λg hg=>aw.block g (zab h6 g hg).2.1),h7.below aw⟩
  refine(zhB Fence.wide (10-1) trivial rfl (by omega) (w6.heap.size+1) be (λN l W=>ThrJ b mk u bo bu ba bn be w.heap.size (w.heap.size+1) (be+1) p (s+1) c0 c1 c2 G D hd L w N [] l W/\LoopAt (rec .ready none) (w6.heap.size+1) w6.heap.size W)
   (λN x l W=>ThrJ b mk u bo bu ba bn be w.heap.size (w.heap.size+1) (be+1) p (s+1) c0 c1 c2 G D hd L w N [x] l W/\LoopAt (rec .ready none) (w6.heap.size+1) w6.heap.size W) (λ_=>False) (λN l W h=>?_) (λN x l W h=>?_) W1 _ _ ⟨rH,cg⟩).mono ?_
  ·obtain⟨⟨Vs,v,h1,h2,h3,h4,h5,h6,h7⟩,lS⟩:=h
   rw[AU]at h1 h2
   obtain⟨A,c,rfl,aI⟩:=zmu h5 h6 (by omega);refine⟨A,c,aI,λx l' e=>?_⟩;subst e;obtain⟨g,cap,xJ,ho⟩:=zjZ h6;injection xJ with e1 _ e2;subst e1 e2;have hle:=eh.out;have af:=HL.out.e5;have hgst:g≠be:=λe=>by
    obtain⟨hB,_⟩:=zab ho g rfl;omega
   refine⟨⟨Vs,_,h1,h2,h3,h4.keep HL.out ((Below.refl _ W).setCell (p:=⟨be,0,none⟩) (Ai _) _) (λy hy=>hy.setCell _ _ _),heap_setCell_same W be 0 _ _ _ h5,ownsRow_setCell_other (a:=⟨be,0,none⟩) ho (λe=>hgst (by simpa[Value.ownBlock] using e)) _,h7.setCell (p:=⟨be,0,none⟩) (.inl (by show w.heap.size<=be;omega)) _⟩,lS.setCell ⟨be,0,none⟩ _ (by show be≠_;omega) (by show be≠_;omega)⟩
  ·refine(hY (N,x,l) W h.1 h.2).mono ?_
   intro e W' hs;rcases hs with⟨h1,⟨N',l',ah,h2⟩,h3⟩|⟨_,_,h2,_⟩
   ·exact .inl ⟨h1,N',l',ah,h2,h3⟩
   ·exact h2.elim
  ·rintro e W' ⟨hv,⟨N,hj,hl⟩|h⟩
   ·exact⟨hv,.inl ⟨⟨N,hj⟩,hl⟩⟩
   ·exact h.elim
 case body =>
  have sG:Tryz.prog.follows .mixedOrders=true:=by kernel_rfl
  rintro r ⟨N,x,l⟩ a₁ W ⟨⟨Vs,v,hdf,hN,hNm,hv,aI,ai,nE⟩,rfl⟩ hl;obtain⟨K0,hK⟩:=hv.kn;obtain⟨⟨y,hy⟩,hrx⟩:=hdf.ks x (Bh _ (AJ.2 rfl));have ij:=zfe b mk K0 hd x W c0 c1 c2 (.int .i64 (s+1)) hv.sb hK (hv.pd x y hy).laid;have z3:W.cell? ⟨w.heap.size,0,none⟩=some (.pointer (some ⟨b,0,none⟩)):=hv.b3.cell 0;have lz:w.heap.size<W.heap.size:=hv.b3.lt;have fZ:=CS ij;have HDF:=CS hdf;have HN:=CS hN;have HNm:=CS hNm;have HV:=CS hv;have dS:=CS aI;have ay:=CS ai;have ov:=CS nE;have fM:=CS hl;have HY:=CS hy;clear ij hdf hN hNm hv aI ai nE hl hK hrx hy;gi_wp2
  refine⟨trivial,?_⟩;refine(CallsIn.inRound _ ((callsIn_wide (n:=_)).2 fZ.out)).mono ?_;rintro e W1 ⟨rfl,K1,bI,bc,aF,jf⟩;have dm:=HV.out.head bc ⟨K1,bI⟩;obtain⟨y1,jK⟩:=HG.out.hin x y HY.out;have dL:=HL.out.mp;have hle:=eh.out;have cg:LoopAt r (w6.heap.size+1) w6.heap.size W1:=fM.out.keep (bc.block _ fM.out.lt.1 (λe=>by have e:w6.heap.size+1=mk:=e;omega)) (bc.block _ fM.out.lt.2 (λe=>by have e:w6.heap.size=mk:=e;omega));have wB:Blk W1 be 195 #[v]:=dS.out.same (bc.block be dS.out.lt (λe=>by have e:be=mk:=e;omega));have gV:=zan ay.out (λg hg=>bc.block g (zab ay.out g hg).2.1 (λe=>by have e:g=mk:=e;have:=(zab ay.out g hg).1;omega));have lg:=ov.out.trans' bc (λi _ h=>.inl h);obtain⟨q,hq⟩:∃q,hd x=q:=⟨_,rfl⟩;rw[hq]at jK ⊢
  obtain⟨A1,cc1,aw,bE⟩:=dm.pd q y1 jK;have f8:W1.cell? ⟨q,8,none⟩=some (.int .i64 (dV D (s+1) Vs q).sr):=aw.cell 8;have g4:W1.cell? ⟨b,4,none⟩=some (.int .i64 (s+1)):=dm.sb.cell 4;have g3:W1.cell? ⟨w.heap.size,0,none⟩=some (.pointer (some ⟨b,0,none⟩)):=dm.b3.cell 0;have lq:=aw.lt;have lb:=dm.sb.lt;have l3:=dm.b3.lt;have fK:=CS dm;have fp:=CS cg;have qk:=CS wB;have cE:=CS gV;have ou:=CS lg;have lZ:=CS jK;have HQ:=CS hq;have bN:=CS aw;have bY:=CS bE;clear dm cg wB gV lg jK hq aw bE bI bc aF jf z3 lz dL hle;by_cases hqv:q∈Vs
  ·have e8:(dV D (s+1) Vs q).sr=s+1:=by unfold dV;rw[Aq hqv]
   rw[e8]at f8
   have HQV:=CS hqv;clear e8 hqv;gi_wp2
   refine zcj (zci (by kernel_rfl)) (λ_ _ h=>h) (by kernel_rfl) (by kernel_rfl) ?_;repeat (quiet_step (fail))
   refine wpQuiet_nil ?_;intro _ vW;obtain⟨nq,se⟩:=vW;subst se;obtain⟨Wd,nK⟩:∃X,W1.drewN nq=X:=⟨_,rfl⟩;have iv:Below W1.heap.size W1 Wd:=by rw[<-nK];exact below_drewN' (Below.refl _ _) _
   have pz:∀g:Nat,Wd.heap[g]?=W1.heap[g]?:=λg=>by rw[<-nK];rfl
   have nB:Chg (λg=>g=mk\/g=b\/(∃x,G g=some x)\/g=bo\/g=ba\/g=bn) w Wd:=by rw[<-nK];exact ou.out.drewN _
   have dj:be<=W1.heap.size:=by have:=qk.out.lt;omega
   rw[nK]
   clear nK f8 g4 g3 lq lb l3;have HX:=CS iv;have yY:=CS pz;have HXC:=CS nB;clear iv pz nB;gi_wp2
   have cC:ThrV b mk u bo bu ba bn w.heap.size (w.heap.size+1) (s+1) c0 c1 c2 G D hd Vs Vs Wd:=fK.out.keep HL.out (HX.out.mono dj) (λy hy=>by obtain⟨cs,hy⟩:=hy;exact⟨cs,(yY.out y).trans hy⟩);refine⟨⟨l.length+wg G Vs L,l,?_,Vs,v,?_,?_,?_,cC,qk.out.same (yY.out _),zan cE.out (λg _=>yY.out g),HXC.out⟩,fp.out.keep (yY.out _) (yY.out _)⟩
   ·have:=HN.out;rw[Ap]at this;simp at this;show _<N;omega
   ·rw[AU];exact HDF.out.skip (by rw[HQ.out];exact HQV.out)
   ·rw[AU]
   ·have:=HN.out;have:=HNm.out;rw[Ap]at *;simp at *;omega
  ·have e8:((dV D (s+1) Vs q).sr==s+1)=false:=by
    have:(dV D (s+1) Vs q).sr<=s:=by unfold dV;rw[Am hqv];exact HSR.out q y1 lZ.out
    rw[AG];intro e;simp at e;omega
   obtain⟨sq,hsq⟩:∃sq,(dV D (s+1) Vs q).sr=sq:=⟨_,rfl⟩;rw[hsq]at e8 f8
   have HQV:=CS hqv;clear hqv hsq;gi_wp2
   refine zcj (zci (by kernel_rfl)) (λ_ _ h=>h) (by kernel_rfl) (by kernel_rfl) ?_;repeat (quiet_step (fail))
   refine wpQuiet_nil ?_;intro _ vW;obtain⟨nq,se⟩:=vW;subst se;obtain⟨Wd,nK⟩:∃X,W1.drewN nq=X:=⟨_,rfl⟩;have iv:Below W1.heap.size W1 Wd:=by rw[<-nK];exact below_drewN' (Below.refl _ _) _
   have pz:∀g:Nat,Wd.heap[g]?=W1.heap[g]?:=λg=>by rw[<-nK];rfl
   have nB:Chg (λg=>g=mk\/g=b\/(∃x,G g=some x)\/g=bo\/g=ba\/g=bn) w Wd:=by rw[<-nK];exact ou.out.drewN _
   have dj:be<=W1.heap.size:=by have:=qk.out.lt;omega
   have sf:=fK.out.keep HL.out (iv.mono dj) (λy hy=>by obtain⟨cs,hy⟩:=hy;exact⟨cs,(pz y).trans hy⟩);have wA:Blk Wd be 195 #[v]:=qk.out.same (pz _);have mI:=zan cE.out (λg _=>pz g);have hld:LoopAt r (w6.heap.size+1) w6.heap.size Wd:=fp.out.keep (pz _) (pz _);rw[nK]
   clear nK f8 g4 g3 lq lb l3 iv pz;obtain⟨Ad,cd,iv,-⟩:=sf.pd q y1 lZ.out;have pS:Wd.frozen? ⟨q,8,none⟩=false:=iv.frozen 8;have f8:Wd.cell? ⟨q,8,none⟩=some (.int .i64 (dV D (s+1) Vs q).sr):=iv.cell 8;have g4:Wd.cell? ⟨b,4,none⟩=some (.int .i64 (s+1)):=sf.sb.cell 4;have g3:Wd.cell? ⟨w.heap.size,0,none⟩=some (.pointer (some ⟨b,0,none⟩)):=sf.b3.cell 0;have lq:=iv.lt;have lb:=sf.sb.lt;have l3:=sf.b3.lt;obtain⟨w2,dJ⟩:∃W,Wd.setCell ⟨q,8,none⟩ (.int .i64 (s+1))=W:=⟨_,rfl⟩;have dK:ThrV b mk u bo bu ba bn w.heap.size (w.heap.size+1) (s+1) c0 c1 c2 G D hd (q::Vs) Vs w2:=by
    rw[<-dJ]
    exact sf.mark lZ.out
   have qR:=HL.out.gl q y1 lZ.out;have hle:=eh.out;have k2:∀g,g≠q->w2.heap[g]?=Wd.heap[g]?:=λg hg=>by rw[<-dJ];exact Below.heap_setCell Wd _ _ _ hg
   have dw:LoopAt r (w6.heap.size+1) w6.heap.size w2:=hld.keep (k2 _ (by omega)) (k2 _ (by omega));have mz:Blk w2 be 195 #[v]:=wA.same (k2 _ (by omega));have aM:=zan mI (λg hg=>k2 g (by have:=(zab mI g hg).1;omega));have nD:Chg (λg=>g=mk\/g=b\/(∃x,G g=some x)\/g=bo\/g=ba\/g=bn) w w2:=by
    rw[<-dJ]
    exact nB.setCell (p:=⟨q,8,none⟩) (.inr (.inr (.inr (.inl ⟨y1,lZ.out⟩)))) _
   have g5:w2.cell? ⟨w.heap.size+1,0,none⟩=some (.func (.func 158) #[] #[.pointer (some ⟨bo,0,none⟩),.pointer (some ⟨bu,0,none⟩),.pointer (some ⟨ba,0,none⟩),.pointer (some ⟨bn,0,none⟩)]):=dK.b5.cell 0;have l5:w.heap.size+1<w2.heap.size:=dK.b5.lt;have mP:=zpv bo bu ba bn u q _ _ _ y1 _ w2 dK.nt (dK.pd q y1 lZ.out) (dK.pd u yu HU.out).laid vC.out.1 vC.out.2.1 vC.out.2.2;rw[<-dJ]at mP g5 l5
   have rR:=CS mP;have iO:=CS dK;have zJ:=CS dw;have lJ:=CS mz;have bp:=CS aM;have ot:=CS nD;have HW2':=CS dJ;clear dK qR hle k2 dw mz aM nD mP dJ iv sf wA mI hld nB dj
   ·gi_wp2
    refine⟨trivial,?_⟩;refine(CallsIn.inRound _ ((callsIn_wide (n:=_)).2 rR.out)).mono ?_;rintro e W3 ⟨⟨ve,rfl⟩,uU,jX,cY⟩;rw[HW2'.out]at jX cY
    clear rR f8 g4 g3 g5 l5 pS lq lb l3;have qI:=iO.out.note lZ.out jX uU (λy hy=>by
     obtain⟨cs,hy⟩:=hy;refine⟨cs,(jX.block y (Aj.1 hy).1 (λh=>?_)).trans hy⟩;rcases h with h|h|h
     ·exact Blk.ne_ (show Blk w2 y _ cs from hy) iO.out.nt.o (by decide) h
     ·exact Blk.ne_ (show Blk w2 y _ cs from hy) iO.out.nt.a (by decide) h
     ·exact Blk.ne_ (show Blk w2 y _ cs from hy) iO.out.nt.n (by decide) h)
    have hbo:=HL.out.bo;have iM:=HL.out.ba;have lv:=HL.out.bn;have hle:=eh.out;have hB2:=lJ.out.lt;have k3:∀g,g<w2.heap.size->be<=g->W3.heap[g]?=w2.heap[g]?:=λg hg hs=>jX.block g hg (by omega);have fH:LoopAt r (w6.heap.size+1) w6.heap.size W3:=zJ.out.keep (k3 _ zJ.out.lt.1 (by omega)) (k3 _ zJ.out.lt.2 (by omega));have sn:Blk W3 be 195 #[v]:=lJ.out.same (k3 _ lJ.out.lt (by omega));have aj:=zan bp.out (λg hg=>k3 g (zab bp.out g hg).2.1 (by have:=(zab bp.out g hg).1;omega));have nC:=ot.out.trans' jX (λi _ h=>.inr (.inr (.inr h)));obtain⟨A3,cc3,nI,jO⟩:=qI.pd q y1 lZ.out;have hwv:=zer G q Vs y1 lZ.out HQV.out L (HG.out.all q y1 lZ.out);have hNN:=HN.out;have hNN2:=HNm.out;rw[Ap]at hNN
    simp only[Ao,Be]at hNN;have bS:=zff be (be+1) 195 #[v] (by simp) l y1.kids v A3 cc3 W3 sn aj (by have:=cY;omega) (λe=>by have:=(zab aj _ e).1;omega) (by omega) (λj k hk=>by
     obtain⟨e1,cur,aa,hq⟩:=jO (λh=>by rw[h]at hk;simp at hk);rw[zmv]at e1 aa
     have fQ:=HL.out.rl q y1 lZ.out (λh=>by rw[h]at hk;simp at hk);exact⟨_,e1,by omega,by omega,λe=>by have:=(zab aj _ e).1;omega,(cell_of_row W3 _ j cur _ (0,0) aa).trans (hq j k hk)⟩)
    have h4:W3.cell? ⟨q,4,none⟩=some (.slice A3 y1.kids.length cc3):=nI.cell 4;have lq3:=nI.lt;have dA:=CS bS;have HV3:=CS qI;have vG:=CS fH;have tK:=CS sn;have ka:=CS aj;have uw:=CS nC;have HWV:=CS hwv;have vE:=CS hNN;clear bS qI fH sn aj nC hwv hNN hNN2 nI jO k3 uU jX cY hbo iM lv hle hB2;gi_wp2
    refine⟨trivial,?_⟩;refine(CallsIn.inRound _ ((callsIn_wide (n:=_)).2 dA.out)).mono ?_;rintro e W4 ⟨⟨ve2,rfl⟩,v4,d1,d2,-,-,-,d6⟩;have hle:=eh.out;have cY:=tK.out.lt;have aH:Below be W3 W4:=d6.toBelow (by omega) (λk hk h=>by
     rcases h with h|h
     ·omega
     ·have:=(zab ka.out _ h).1;omega)
    have qZ:∀y,LaidQ W3 y->LaidQ W4 y:=λy hy=>by
     obtain⟨cs,hy⟩:=hy;refine⟨cs,(d6.block y (Aj.1 hy).1 (λh=>?_)).trans hy⟩;rcases h with h|h
     ·exact Blk.ne_ (show Blk W3 y _ cs from hy) tK.out (by decide) h
     ·obtain⟨_,_,cur,aa⟩:=zab ka.out _ h
      exact Blk.ne_ (show Blk W3 y _ cs from hy) (show Blk W3 y _ cur from aa) (by decide) rfl
    have oE:∀(g:Nat) (o:Obj),W3.heap[g]?=some o->(∀(cs:Array Value) (t:TypeId),o≠.cells cs t (0,0))->W4.heap[g]?=W3.heap[g]?:=λg o hg ho=>d6.block g (Aj.1 hg).1 (λh=>by
     rcases h with h|h
     ·rw[h]at hg
      have:W3.heap[be]?=_:=tK.out;rw[this]at hg
      injection hg with hg;exact ho _ _ hg.symm
     ·obtain⟨_,_,cur,aa⟩:=zab ka.out _ h
      rw[aa]at hg
      injection hg with hg;exact ho _ _ hg.symm)
    have kB:=HV3.out.keep HL.out aH qZ;have mU:LoopAt r (w6.heap.size+1) w6.heap.size W4:=vG.out.keep (oE _ _ vG.out.1 (λ_ _ h=>by cases h)) (oE _ _ vG.out.2 (λ_ _ h=>by cases h));have ir:=uw.out.trans' d6 (λi hi h=>by
     rcases h with h|h
     ·omega
     ·have:=(zab ka.out _ h).1;omega)
    have zc:=CS kB;have HL4:=CS mU;have oq:=CS ir;have lM:=CS d1;have HD2:=CS d2;clear hle cY aH qZ oE kB mU ir d1 d2 d6;gi_wp2
    refine⟨⟨(l++y1.kids.reverse).length+wg G (q::Vs) L,l++y1.kids.reverse,?_,q::Vs,v4,?_,?_,?_,zc.out,lM.out,HD2.out,oq.out⟩,HL4.out⟩
    ·have h1:=HWV.out
     have h2:=vE.out;rw[Ap,BU]
     show _<N;omega
    ·rw[AU]
     have:=HDF.out.visit HG.out (x:=y1) (by rw[HQ.out];exact lZ.out);rw[HQ.out]at this
     exact this
    ·rw[AU]
    ·have h1:=HWV.out
     have h2:=vE.out;have h3:=HNm.out;rw[Ap,BU]
     omega
end Go.Proofs.YtfafilmklhnngaaGreatDoor
namespace Go.Proofs.YtfafilmklhnngaaGreatDoor
open Go.RowKit Lx Tx Go.Maps Go.WideMaps
set_option maxRecDepth 100000
def zgk(G:Nat->Option Nd)(hd:Nat->Nat)(p:Nat):Prop:=∃q x,Rch G hd (hd p) q/\G q=some x/\x.kd=5
def NewR(G:Nat->Option Nd)(hd:Nat->Nat)(p:Nat):Prop:=∃q x,Rch G hd (hd p) q/\G q=some x/\x.new=true
def AgR(G:Nat->Option Nd)(hd:Nat->Nat)(p u:Nat)(r:Int):Prop :=
 (r=41/\Rch G hd (hd p) u)\/(¬Rch G hd (hd p) u/\((r=42/\zgk G hd p)\/(¬zgk G hd p/\((r=43/\NewR G hd p)\/(r=0/\¬NewR G hd p)))))
def AgPost(b mk u p:Nat)(s:Int)(c0 c1 c2:Value)(G:Nat->Option Nd)(D:Nat->Dy)(hd:Nat->Nat)(w:World)(e:Ending)(w':World):Prop :=
 ∃r Vs,e=.returned (.int .i64 r)/\AgR G hd p u r/\Blk w' b 85 #[c0,c1,c2,.map (some mk),.int .i64 (s+1)]/\(∃K',Knw w' mk K' hd)/\PartsD w' G (dV D (s+1) Vs)/\Chg (λg=>g=mk\/g=b\/∃x,G g=some x) w w'
theorem zk1(b mk p u:Nat)(s:Int)(c0 c1 c2:Value)(G:Nat->Option Nd)(D:Nat->Dy)(K:Nat->Option Nat)(hd:Nat->Nat)(L:List Nat)(w:World)
  (hb:Blk w b 85 #[c0,c1,c2,.map (some mk),.int .i64 s])(hk:Knw w mk K hd)(bB:PartsD w G D)(hg:Gr G hd L)(fO:∀q x,G q=some x->(D q).sr<=s)(y:Nd)(hp:G p=some y)
  (yu:Nd)(hu:G u=some yu)(hw:1+wg G [] L<=1000000)(fP:0<=s)(hs:s<1000000000000):Calls Tryz.prog 118 #[.pointer (some ⟨b,0,none⟩),.pointer (some ⟨u,0,none⟩),.pointer (some ⟨p,0,none⟩)] w (AgPost b mk u p s c0 c1 c2 G D hd w):=by
 obtain⟨l0,l1,l2,l3,en,cT⟩:=zcU w (.cells #[.pointer (some ⟨u,0,none⟩)] 75) (.cells #[.bool false] 4) (.cells #[.bool false] 4) (.cells #[.bool false] 4);obtain⟨w4,gi⟩:∃W,(((w.alloc (.cells #[.pointer (some ⟨u,0,none⟩)] 75)).alloc (.cells #[.bool false] 4)).alloc (.cells #[.bool false] 4)).alloc (.cells #[.bool false] 4)=W:=⟨_,rfl⟩;rw[gi]at l0 l1 l2 l3 en cT
 have wW:PartsD w4 G D:=bB.same λk hk _=>cT.block k hk;have sh:=zk0 b mk p u (w.heap.size+1) w.heap.size (w.heap.size+1+1) (w.heap.size+1+1+1) s c0 c1 c2 G D K hd L w4 (hb.below cT hb.lt) (hk.keep (cT.block _ (MapK.lt hk.mp)) (λx hx=>by obtain⟨cs,hx⟩:=hx;exact⟨cs,(cT.block x (Aj.1 hx).1).trans hx⟩))
  wW hg fO y hp ⟨l1,l0,l2,l3⟩ (by omega) (by omega) (by omega) yu hu hw fP hs
 have HGL:Hid (∀q x,G q=some x->q<w.heap.size):=CS λq x hx=>(bB q x hx).lt;have vK:=CS hb.lt;have HML:Hid (mk<w.heap.size):=CS (MapK.lt hk.mp);have lN:=CS cT;have nV:=CS en;rw[<-gi]at sh
 have zg:=CS sh;have nT:=CS gi;clear sh gi l0 l1 l2 l3 wW hb hk bB hg fO hp hu hw cT en;go_enter Tryz.func118,Tryz.ntmps118
 go_wp2_with fail
 refine zg.out.mono ?_;rintro e w5 ⟨⟨ve,rfl⟩,Vs,e3,e5,hrch,hv,hc⟩;rw[nT.out]at hc
 have q0:w5.cell? ⟨w.heap.size+1,0,none⟩=some (.bool (decide (u∈Vs))):=hv.nt.o.cell 0;have q1:w5.cell? ⟨w.heap.size+1+1,0,none⟩=some (.bool (Vs.any λq=>(G q).any λx=>decide (x.kd=5))):=hv.nt.a.cell 0;have q2:w5.cell? ⟨w.heap.size+1+1+1,0,none⟩=some (.bool (Vs.any λq=>(G q).any λx=>x.new)):=hv.nt.n.cell 0;have t0:=hv.nt.o.lt;have t1:=hv.nt.a.lt;have t2:=hv.nt.n.lt;have r0:decide (u∈Vs)=true↔Rch G hd (hd p) u:=by rw[Cr];exact hrch u
 have r1:(Vs.any λq=>(G q).any λx=>decide (x.kd=5))=true↔zgk G hd p:=by
  rw[Cp]
  constructor
  ·rintro⟨q,hq,h⟩
   cases hx:G q with
   |none=>rw[hx]at h;cases h
   |some x=>rw[hx]at h;exact⟨q,x,(hrch q).1 hq,hx,by simpa using h⟩
  ·rintro⟨q,x,hq,hx,h⟩
   exact⟨q,(hrch q).2 hq,by rw[hx];simpa using h⟩
 have r2:(Vs.any λq=>(G q).any λx=>x.new)=true↔NewR G hd p:=by
  rw[Cp]
  constructor
  ·rintro⟨q,hq,h⟩
   cases hx:G q with
   |none=>rw[hx]at h;cases h
   |some x=>rw[hx]at h;exact⟨q,x,(hrch q).1 hq,hx,by simpa using h⟩
  ·rintro⟨q,x,hq,hx,h⟩
   exact⟨q,(hrch q).2 hq,by rw[hx];simpa using h⟩
 obtain⟨o,ho⟩:∃o,decide (u∈Vs)=o:=⟨_,rfl⟩;obtain⟨a,ha⟩:∃a,(Vs.any λq=>(G q).any λx=>decide (x.kd=5))=a:=⟨_,rfl⟩;obtain⟨n,hn⟩:∃n,(Vs.any λq=>(G q).any λx=>x.new)=n:=⟨_,rfl⟩;rw[ho]at q0 r0
 rw[ha]at q1 r1
 rw[hn]at q2 r2
 have dT:=CS r0;have bY:=CS r1;have eE:=CS r2;have aQ:Hid (∀r:Int,AgR G hd p u r->AgPost b mk u p s c0 c1 c2 G D hd w (.returned (.int .i64 r)) w5):=CS λr hr =>
  ⟨r,Vs,rfl,hr,hv.sb,hv.kn,hv.pd,(Chg.of_below lN.out).trans' hc (λi hi h=>by
   rcases h with h|h|h|h|h|h
   ·exact .inl h
   ·exact .inr (.inl h)
   ·exact .inr (.inr h)
   ·omega
   ·omega
   ·omega)⟩
 clear r0 r1 r2 ho ha hn hv hc hrch zg nT;cases o
 ·cases a
  ·cases n
   ·go_wp2_with fail
    go_ret
    exact aQ.out 0 (.inr ⟨λh=>BZ (dT.out.2 h),.inr ⟨λh=>BZ (bY.out.2 h),.inr ⟨rfl,λh=>BZ (eE.out.2 h)⟩⟩⟩)
   ·go_wp2_with fail
    go_ret
    exact aQ.out 43 (.inr ⟨λh=>BZ (dT.out.2 h),.inr ⟨λh=>BZ (bY.out.2 h),.inl ⟨rfl,eE.out.1 (by trivial)⟩⟩⟩)
  ·go_wp2_with fail
   go_ret
   exact aQ.out 42 (.inr ⟨λh=>BZ (dT.out.2 h),.inl ⟨rfl,bY.out.1 (by trivial)⟩⟩)
 ·go_wp2_with fail
  go_ret
  exact aQ.out 41 (.inl ⟨rfl,dT.out.1 (by trivial)⟩)
end Go.Proofs.YtfafilmklhnngaaGreatDoor
namespace Go.Proofs.YtfafilmklhnngaaGreatDoor
open Go.RowKit Lx Tx Go.Maps Go.WideMaps
set_option maxRecDepth 100000
theorem Root.link {K:Nat->Option Nat} {m t:Nat}(hm:K m=none)(ht:K t=none)(fU:m≠t) {z n r:Nat}(h:Root K z n r):(r=m->Root (upn K m (some t)) z (n+1) t)/\(r≠m->Root (upn K m (some t)) z n r):=by
 induction h with
 |nil p hp =>
  constructor
  ·intro e
   subst e;exact .step _ t _ _ (zal _ _ _) (.nil _ (by rw[zac _ _ _ _ (Cw fU)];exact ht))
  ·intro e
   exact .nil _ (by rw[zac _ _ _ _ e];exact hp)
 |step p q n r hp _ ih =>
  have hpm:p≠m:=λe=>by rw[e,hm]at hp;cases hp
  constructor
  ·intro e
   exact .step _ q _ _ (by rw[zac _ _ _ _ hpm];exact hp) (ih.1 e)
  ·intro e
   exact .step _ q _ _ (by rw[zac _ _ _ _ hpm];exact hp) (ih.2 e)
def hdL(hd:Nat->Nat)(m t:Nat):Nat->Nat:=λz=>if hd z=m then t else hd z
theorem Knw.link {w w1:World} {mk:Nat} {K:Nat->Option Nat} {hd:Nat->Nat}(h:Knw w mk K hd) {m t:Nat}(hm:hd m=m)(ht:hd t=t)(fU:m≠t)(hlm:LaidQ w m)(ah:LaidQ w t)
  (aX:MapQ w1 mk (upn K m (some t)))(hl:∀x,LaidQ w x->LaidQ w1 x):Knw w1 mk (upn K m (some t)) (hdL hd m t) where
 mp:=aX
 rep p:=by
  obtain⟨n,hn⟩:=h.rep p;have hk:=Root.link ((h.none_iff m).2 hm) ((h.none_iff t).2 ht) fU hn;unfold hdL;by_cases e:hd p=m
  ·rw[Aq e];exact⟨_,hk.1 e⟩
  ·rw[Am e];exact⟨_,hk.2 e⟩
 laid x y hx:=by
  by_cases e:x=m
  ·rw[e,zal]at hx
   injection hx with hx;rw[e,<-hx]
   exact⟨hl _ hlm,hl _ ah⟩
  ·rw[zac _ _ _ _ e]at hx
   exact⟨hl _ (h.laid x y hx).1,hl _ (h.laid x y hx).2⟩
def lrn(p q:Nat)(x y:Nd):Nat × Nat:=if x.kd≠2\/(y.kd=2/\x.n<y.n) then(q,p) else(p,q)
def LnPost(b mk m t:Nat)(s:Int)(c0 c1 c2:Value)(G:Nat->Option Nd)(D:Nat->Dy)(hd:Nat->Nat)(w:World)(e:Ending)(w':World):Prop :=
 ∃r Vs,e=.returned (.int .i64 r)/\AgR G hd t m r/\Blk w' b 85 #[c0,c1,c2,.map (some mk),.int .i64 (s+1)]/\(∃K',Knw w' mk K' (if r=0 then hdL hd m t else hd))/\PartsD w' G (dV D (s+1) Vs)/\Chg (λg=>g=mk\/g=b\/∃x,G g=some x) w w'
theorem zob(b mk p q:Nat)(s:Int)(c0 c1 c2:Value)(G:Nat->Option Nd)(D:Nat->Dy)(K:Nat->Option Nat)(hd:Nat->Nat)(L:List Nat)(w:World)
  (hb:Blk w b 85 #[c0,c1,c2,.map (some mk),.int .i64 s])(hk:Knw w mk K hd)(bB:PartsD w G D)(hg:Gr G hd L)(fO:∀q x,G q=some x->(D q).sr<=s)(x y:Nd)(hp:G p=some x)(hq:G q=some y)
  (hph:hd p=p)(hqh:hd q=q)(pF:p≠q)(hw:1+wg G [] L<=1000000)(fP:0<=s)(hs:s<1000000000000):Calls Tryz.prog 72 #[.pointer (some ⟨b,0,none⟩),.pointer (some ⟨p,0,none⟩),.pointer (some ⟨q,0,none⟩)] w (LnPost b mk (lrn p q x y).1 (lrn p q x y).2 s c0 c1 c2 G D hd w):=by
 obtain⟨A,c,p0,-,p2,-,-,-,-⟩:=(bB p x hp).facts;obtain⟨B,c',q0,-,q2,-,-,-,-⟩:=(bB q y hq).facts;have cS:=(bB p x hp).lt;have iW:=(bB q y hq).lt;have kq:Hid (∀(n m t:Nat) (xm xt:Nd),G m=some xm->G t=some xt->Calls Tryz.prog 118 #[.pointer (some ⟨b,0,none⟩),.pointer (some ⟨m,0,none⟩),.pointer (some ⟨t,0,none⟩)] (w.drewN n) (AgPost b mk t m s c0 c1 c2 G D hd (w.drewN n))->True):=CS λ_ _ _ _ _ _ _ _=>trivial;clear kq;have kq:Hid (∀(n m t:Nat) (xm xt:Nd),G m=some xm->G t=some xt->Calls Tryz.prog 118 #[.pointer (some ⟨b,0,none⟩),.pointer (some ⟨m,0,none⟩),.pointer (some ⟨t,0,none⟩)] (w.drewN n) (AgPost b mk m t s c0 c1 c2 G D hd (w.drewN n))) :=
  CS λn m t xm xt hm ht=>zk1 b mk t m s c0 c1 c2 G D K hd L (w.drewN n) (hb.drewN n) (hk.keep rfl (λ_ h=>h)) (λz xz hz=>(bB z xz hz).keep rfl (λ_=>rfl)) hg fO xt ht xm hm hw fP hs
 have cP:Hid (∀(m t:Nat) (xm xt:Nd) (Vs:List Nat) (w5 w6:World) (n:Nat) (K':Nat->Option Nat),G m=some xm->G t=some xt->hd m=m->hd t=t->m≠t->AgR G hd t m 0->Blk w5 b 85 #[c0,c1,c2,.map (some mk),.int .i64 (s+1)]->Knw w5 mk K' hd->PartsD w5 G (dV D (s+1) Vs) ->
   Chg (λg=>g=mk\/g=b\/∃x,G g=some x) (w.drewN n) w5->MapQ w6 mk (upn K' m (some t))->w5.grownBy w6 (some mk)->LnPost b mk m t s c0 c1 c2 G D hd w (.returned (.int .i64 0)) w6):=CS (by
  intro m t xm xt Vs w5 w6 n K' hm ht hmh hth fU dF aP aO bG br dZ dq;have af:∀g cs tt,Blk w5 g tt cs->w6.heap[g]?=w5.heap[g]?:=λg cs tt hg=>dq.block g hg.lt (λe=>by injection e with e;rw[e]at hg;exact MapK.no aO.mp hg);have hl:∀x,LaidQ w5 x->LaidQ w6 x:=λx hx=>by obtain⟨cs,hx⟩:=hx;exact⟨cs,(af x cs _ hx).trans hx⟩
  refine⟨0,Vs,rfl,dF,aP.same (af _ _ _ aP),⟨upn K' m (some t),?_⟩,bG.same (λk _ ⟨cs,tt,hx⟩=>af k cs tt hx),?_⟩
  ·rw[Aq rfl]
   exact aO.link hmh hth fU (bG m xm hm).laid (bG t xt ht).laid dZ hl
  ·have h1:Chg (λg=>g=mk\/g=b\/∃x,G g=some x) w (w.drewN n):=(Chg.refl _ w).drewN n
   exact(h1.trans br).grown dq (λk hk=>.inr (.inl (by injection hk with hk;exact hk.symm))))
 have aQ:Hid (∀(m t:Nat) (r:Int) (Vs:List Nat) (w5:World) (n:Nat),r≠0->AgR G hd t m r->Blk w5 b 85 #[c0,c1,c2,.map (some mk),.int .i64 (s+1)]->(∃K',Knw w5 mk K' hd)->PartsD w5 G (dV D (s+1) Vs) ->
   Chg (λg=>g=mk\/g=b\/∃x,G g=some x) (w.drewN n) w5->LnPost b mk m t s c0 c1 c2 G D hd w (.returned (.int .i64 r)) w5):=CS (by
  intro m t r Vs w5 n hr dF aP aO bG br;have h1:Chg (λg=>g=mk\/g=b\/∃x,G g=some x) w (w.drewN n):=(Chg.refl _ w).drewN n;exact⟨r,Vs,rfl,dF,aP,by rw[Am hr];exact aO,bG,h1.trans br⟩)
 have HM:Hid (G p=some x/\G q=some y/\hd p=p/\hd q=q/\p≠q):=CS ⟨hp,hq,hph,hqh,pF⟩;clear hb hk bB hg fO hp hq hph hqh pF hw;obtain⟨kx,nx,zx,lx,cx,wx⟩:=x;obtain⟨ky,ny,zy,ly,cy,wy⟩:=y;simp only at p0 p2 q0 q2;by_cases h2:kx=2
 ·subst h2
  by_cases h3:ky=2
  ·subst h3
   by_cases hn:zx<zy
   ·have hv:lrn p q ⟨2,nx,zx,lx,cx,wx⟩ ⟨2,ny,zy,ly,cy,wy⟩=(q,p):=by unfold lrn;rw[Aq (.inr ⟨rfl,hn⟩)]
    rw[hv]
    have eu:decide (zx<zy)=true:=AN hn;clear hv hn;go_enter Tryz.func72,Tryz.ntmps72
    go_wp2_with fail
    go_quiet (fail)
    go_wp2_with fail
    refine(kq.out nq q p _ _ HM.out.2.1 HM.out.1).mono ?_;rintro e w5 ⟨r,Vs,rfl,dF,aP,⟨K5,aO⟩,bG,br⟩;by_cases hr:r=0
    ·subst hr
     obtain⟨w6,aA,dZ,dq,dO⟩:=MapK.store aO.mp keyQ Tryz.underlying83 q p (bG q _ HM.out.2.1).laid;have eD:(Instr.mapUpdate 83 (.map (some mk)) (.pointer (some ⟨q,0,none⟩)) (.pointer (some ⟨p,0,none⟩))).run Tryz.prog w5=.ok () w6:=aA;have k3:w5.cell? ⟨b,3,none⟩=some (.map (some mk)):=aP.cell 3;have kl:=aP.lt;have HF:Hid (LnPost b mk q p s c0 c1 c2 G D hd w (.returned (.int .i64 0)) w6):=CS (cP.out q p _ _ Vs w5 w6 nq K5 HM.out.2.1 HM.out.1 HM.out.2.2.2.1 HM.out.2.2.1 (Cw HM.out.2.2.2.2) dF aP aO bG br dZ dq);clear dF aP aO bG br aA dZ dq dO kq cP aQ p0 p2 q0 q2 cS iW;go_wp2_with fail
     go_ret
     exact HF.out
    ·have kJ:(r==0)=false:=by rw[AG];intro e;simp at e;exact hr e
     have HF:Hid (LnPost b mk q p s c0 c1 c2 G D hd w (.returned (.int .i64 r)) w5):=CS (aQ.out q p r Vs w5 nq hr dF aP ⟨K5,aO⟩ bG br);clear dF aP aO bG br hr kq cP aQ p0 p2 q0 q2 cS iW;go_wp2_with fail
     go_ret
     exact HF.out
   ·have hv:lrn p q ⟨2,nx,zx,lx,cx,wx⟩ ⟨2,ny,zy,ly,cy,wy⟩=(p,q):=by unfold lrn;rw[Am (by simp;omega)]
    rw[hv]
    have eu:decide (zx<zy)=false:=AQ hn;clear hv hn;go_enter Tryz.func72,Tryz.ntmps72
    go_wp2_with fail
    go_quiet (fail)
    go_wp2_with fail
    refine(kq.out nq p q _ _ HM.out.1 HM.out.2.1).mono ?_;rintro e w5 ⟨r,Vs,rfl,dF,aP,⟨K5,aO⟩,bG,br⟩;by_cases hr:r=0
    ·subst hr
     obtain⟨w6,aA,dZ,dq,dO⟩:=MapK.store aO.mp keyQ Tryz.underlying83 p q (bG p _ HM.out.1).laid;have eD:(Instr.mapUpdate 83 (.map (some mk)) (.pointer (some ⟨p,0,none⟩)) (.pointer (some ⟨q,0,none⟩))).run Tryz.prog w5=.ok () w6:=aA;have k3:w5.cell? ⟨b,3,none⟩=some (.map (some mk)):=aP.cell 3;have kl:=aP.lt;have HF:Hid (LnPost b mk p q s c0 c1 c2 G D hd w (.returned (.int .i64 0)) w6):=CS (cP.out p q _ _ Vs w5 w6 nq K5 HM.out.1 HM.out.2.1 HM.out.2.2.1 HM.out.2.2.2.1 HM.out.2.2.2.2 dF aP aO bG br dZ dq);clear dF aP aO bG br aA dZ dq dO kq cP aQ p0 p2 q0 q2 cS iW;go_wp2_with fail
     go_ret
     exact HF.out
    ·have kJ:(r==0)=false:=by rw[AG];intro e;simp at e;exact hr e
     have HF:Hid (LnPost b mk p q s c0 c1 c2 G D hd w (.returned (.int .i64 r)) w5):=CS (aQ.out p q r Vs w5 nq hr dF aP ⟨K5,aO⟩ bG br);clear dF aP aO bG br hr kq cP aQ p0 p2 q0 q2 cS iW;go_wp2_with fail
     go_ret
     exact HF.out
  ·have hv:lrn p q ⟨2,nx,zx,lx,cx,wx⟩ ⟨ky,ny,zy,ly,cy,wy⟩=(p,q):=by unfold lrn;rw[Am (by simp[h3])]
   rw[hv]
   have e2:((ky:Int)==2)=false:=by rw[AG];intro e;simp at e;omega
   clear hv h3;go_enter Tryz.func72,Tryz.ntmps72
   go_wp2_with fail
   go_quiet (fail)
   go_wp2_with fail
   refine(kq.out nq p q _ _ HM.out.1 HM.out.2.1).mono ?_;rintro e w5 ⟨r,Vs,rfl,dF,aP,⟨K5,aO⟩,bG,br⟩;by_cases hr:r=0
   ·subst hr
    obtain⟨w6,aA,dZ,dq,dO⟩:=MapK.store aO.mp keyQ Tryz.underlying83 p q (bG p _ HM.out.1).laid;have eD:(Instr.mapUpdate 83 (.map (some mk)) (.pointer (some ⟨p,0,none⟩)) (.pointer (some ⟨q,0,none⟩))).run Tryz.prog w5=.ok () w6:=aA;have k3:w5.cell? ⟨b,3,none⟩=some (.map (some mk)):=aP.cell 3;have kl:=aP.lt;have HF:Hid (LnPost b mk p q s c0 c1 c2 G D hd w (.returned (.int .i64 0)) w6):=CS (cP.out p q _ _ Vs w5 w6 nq K5 HM.out.1 HM.out.2.1 HM.out.2.2.1 HM.out.2.2.2.1 HM.out.2.2.2.2 dF aP aO bG br dZ dq);clear dF aP aO bG br aA dZ dq dO kq cP aQ p0 p2 q0 q2 cS iW;go_wp2_with fail
    go_ret
    exact HF.out
   ·have kJ:(r==0)=false:=by rw[AG];intro e;simp at e;exact hr e
    have HF:Hid (LnPost b mk p q s c0 c1 c2 G D hd w (.returned (.int .i64 r)) w5):=CS (aQ.out p q r Vs w5 nq hr dF aP ⟨K5,aO⟩ bG br);clear dF aP aO bG br hr kq cP aQ p0 p2 q0 q2 cS iW;go_wp2_with fail
    go_ret
    exact HF.out
 ·have hv:lrn p q ⟨kx,nx,zx,lx,cx,wx⟩ ⟨ky,ny,zy,ly,cy,wy⟩=(q,p):=by unfold lrn;rw[Aq (.inl h2)]
  rw[hv]
  have e2:((kx:Int) != 2)=true:=by rw[bne_iff_ne];omega
  clear hv h2;go_enter Tryz.func72,Tryz.ntmps72
  go_wp2_with fail
  go_quiet (fail)
  go_wp2_with fail
  refine(kq.out nq q p _ _ HM.out.2.1 HM.out.1).mono ?_;rintro e w5 ⟨r,Vs,rfl,dF,aP,⟨K5,aO⟩,bG,br⟩;by_cases hr:r=0
  ·subst hr
   obtain⟨w6,aA,dZ,dq,dO⟩:=MapK.store aO.mp keyQ Tryz.underlying83 q p (bG q _ HM.out.2.1).laid;have eD:(Instr.mapUpdate 83 (.map (some mk)) (.pointer (some ⟨q,0,none⟩)) (.pointer (some ⟨p,0,none⟩))).run Tryz.prog w5=.ok () w6:=aA;have k3:w5.cell? ⟨b,3,none⟩=some (.map (some mk)):=aP.cell 3;have kl:=aP.lt;have HF:Hid (LnPost b mk q p s c0 c1 c2 G D hd w (.returned (.int .i64 0)) w6):=CS (cP.out q p _ _ Vs w5 w6 nq K5 HM.out.2.1 HM.out.1 HM.out.2.2.2.1 HM.out.2.2.1 (Cw HM.out.2.2.2.2) dF aP aO bG br dZ dq);clear dF aP aO bG br aA dZ dq dO kq cP aQ p0 p2 q0 q2 cS iW;go_wp2_with fail
   go_ret
   exact HF.out
  ·have kJ:(r==0)=false:=by rw[AG];intro e;simp at e;exact hr e
   have HF:Hid (LnPost b mk q p s c0 c1 c2 G D hd w (.returned (.int .i64 r)) w5):=CS (aQ.out q p r Vs w5 nq hr dF aP ⟨K5,aO⟩ bG br);clear dF aP aO bG br hr kq cP aQ p0 p2 q0 q2 cS iW;go_wp2_with fail
   go_ret
   exact HF.out
end Go.Proofs.YtfafilmklhnngaaGreatDoor
namespace Go.Proofs.YtfafilmklhnngaaGreatDoor
open Go.RowKit Lx Tx Go.Maps Go.WideMaps
set_option maxRecDepth 100000
structure WkI (b e mk ql qr:Nat) (dn:Bool) (c0 c1 c2 c4:Value) (hd:Nat->Nat) (w W:World):Prop where
 sb:Blk W b 85 #[c0,c1,c2,.map (some mk),c4]
 eb:Blk W e 78 #[.pointer (some ⟨ql,0,none⟩),.pointer (some ⟨qr,0,none⟩),.bool dn]
 kn:∃K',Knw W mk K' hd
 ll:LaidQ W ql
 lr:LaidQ W qr
 hl:LaidQ W (hd ql)
 hr:LaidQ W (hd qr)
 ch:Chg (only mk) w W
theorem WkI.drew {b e mk ql qr:Nat} {dn:Bool} {c0 c1 c2 c4:Value} {hd:Nat->Nat} {w W:World}(h:WkI b e mk ql qr dn c0 c1 c2 c4 hd w W):WkI b e mk ql qr dn c0 c1 c2 c4 hd w W.drew :=
 ⟨h.sb,h.eb,by obtain⟨K,hK⟩:=h.kn;exact⟨K,hK.keep rfl (λ_ h=>h)⟩,h.ll,h.lr,h.hl,h.hr,h.ch.drew⟩
theorem WkI.head {b e mk ql qr:Nat} {dn:Bool} {c0 c1 c2 c4:Value} {hd:Nat->Nat} {w W:World}(h:WkI b e mk ql qr dn c0 c1 c2 c4 hd w W)(x:Nat)(hx:LaidQ W x):Calls Tryz.prog 71 #[.pointer (some ⟨b,0,none⟩),.pointer (some ⟨x,0,none⟩)] W λr w'=>r=.returned (.pointer (some ⟨hd x,0,none⟩))/\WkI b e mk ql qr dn c0 c1 c2 c4 hd w w':=by
 obtain⟨K,hK⟩:=h.kn;refine(zfe b mk K hd x W c0 c1 c2 c4 h.sb hK hx).mono ?_;rintro r w' ⟨rfl,K1,bI,bc,aF,-⟩;have af:∀g cs t,Blk W g t cs->¬only mk g:=λg cs t hg e=>by
  have e:g=mk:=e;rw[e]at hg
  exact MapK.no hK.mp hg
 exact⟨rfl,h.sb.chg bc (af _ _ _ h.sb),h.eb.chg bc (af _ _ _ h.eb),⟨K1,bI⟩,h.ll.chg hK.mp bc,h.lr.chg hK.mp bc,h.hl.chg hK.mp bc,h.hr.chg hK.mp bc,h.ch.trans bc⟩
theorem WkI.facts {b e mk ql qr:Nat} {dn:Bool} {c0 c1 c2 c4:Value} {hd:Nat->Nat} {w W:World}(h:WkI b e mk ql qr dn c0 c1 c2 c4 hd w W):W.cell? ⟨e,0,none⟩=some (.pointer (some ⟨ql,0,none⟩))/\W.cell? ⟨e,1,none⟩=some (.pointer (some ⟨qr,0,none⟩))/\W.cell? ⟨e,2,none⟩=some (.bool dn)/\e<W.heap.size:=⟨h.eb.cell 0,h.eb.cell 1,h.eb.cell 2,h.eb.lt⟩
theorem zoc(b mk ql qr:Nat)(dn:Bool)(c4:Value)(c0 c1 c2:Value)(K:Nat->Option Nat)(hd:Nat->Nat)(w:World)
  (hb:Blk w b 85 #[c0,c1,c2,.map (some mk),c4])(hk:Knw w mk K hd)(hl:LaidQ w ql)(hr:LaidQ w qr)(ig:LaidQ w (hd ql))(ie:LaidQ w (hd qr))(heq:hd ql=hd qr):Calls Tryz.prog 36 #[.pointer (some ⟨b,0,none⟩),.agg #[.pointer (some ⟨ql,0,none⟩),.pointer (some ⟨qr,0,none⟩),.bool dn]] w λr w'=>r=.returned (.int .i64 0)/\∃e,WkI b e mk ql qr dn c0 c1 c2 c4 hd w w':=by
 have HEQ:=CS heq;clear heq;have dL:mk<w.heap.size:=MapK.lt hk.mp;have h1:WkI b w.heap.size mk ql qr dn c0 c1 c2 c4 hd w (w.alloc (.cells #[.pointer (some ⟨ql,0,none⟩),.pointer (some ⟨qr,0,none⟩),.bool dn] 78)):=by
  have cL:∀g,g<w.heap.size->(w.alloc (.cells #[.pointer (some ⟨ql,0,none⟩),.pointer (some ⟨qr,0,none⟩),.bool dn] 78)).heap[g]?=w.heap[g]?:=λg hg=>Below.heap_alloc _ _ _ hg;have bC:∀x,LaidQ w x->LaidQ (w.alloc (.cells #[.pointer (some ⟨ql,0,none⟩),.pointer (some ⟨qr,0,none⟩),.bool dn] 78)) x:=λx ⟨cs,hx⟩=>⟨cs,(cL x (Aj.1 hx).1).trans hx⟩;exact⟨hb.alloc _,heap_alloc_new _ _,⟨K,hk.keep (cL _ dL) bC⟩,bC _ hl,bC _ hr,bC _ ig,bC _ ie,(Chg.refl _ _).alloc _⟩
 obtain⟨w1,bU⟩:∃W,w.alloc (.cells #[.pointer (some ⟨ql,0,none⟩),.pointer (some ⟨qr,0,none⟩),.bool dn] 78)=W:=⟨_,rfl⟩;rw[bU]at h1
 obtain⟨z0,z1,z2,zl⟩:=h1.drew.facts;have eU:=CS (h1.drew.head ql h1.ll);have dT:=CS (h1.drew.head qr h1.lr);have eI:=CS bU;clear hb hk hl hr ig ie dL h1 bU;go_enter Tryz.func36,Tryz.ntmps36
 go_upto_region 1 with fail
 rw[eI.out]
 go_cut [5,6] from 7 to 14 (λv5 v6 wx=>v5=.pointer (some ⟨hd ql,0,none⟩)/\v6=.pointer (some ⟨hd qr,0,none⟩)/\Hid (WkI b w.heap.size mk ql qr dn c0 c1 c2 c4 hd w wx))
 case first =>
  go_region_law (first
   |(go_simp;(with_reducible refine eU.out.mono ?_);rintro r w5 ⟨rfl,bd⟩;obtain⟨y0,y1,y2,yl⟩:=bd.facts;have fC:=CS (bd.head qr bd.lr);clear bd)
   |(go_simp;(with_reducible refine dT.out.mono ?_);rintro r w5 ⟨rfl,bd⟩;obtain⟨y0,y1,y2,yl⟩:=bd.facts;have oi:=CS (bd.head ql bd.ll);clear bd)
   |(go_simp;(with_reducible refine fC.out.mono ?_);rintro r w6 ⟨rfl,bL⟩;obtain⟨x0,x1,x2,xl⟩:=bL.facts;have ix:=CS bL;clear bL)
   |(go_simp;(with_reducible refine oi.out.mono ?_);rintro r w6 ⟨rfl,bL⟩;obtain⟨x0,x1,x2,xl⟩:=bL.facts;have ix:=CS bL;clear bL))
  all_goals
   go_wp2_with fail
   go_meet
   case rel=>exact⟨rfl,rfl,ix⟩
 case rest =>
  rename World=>V0;obtain⟨rfl,rfl,hw⟩:=hcut;have heq:=zct hw.out.hl hw.out.hr;rw[AN HEQ.out]at heq
  go_wp2_with fail
  go_ret
  exact⟨rfl,_,hw.out⟩
theorem zod(b mk ql qr:Nat)(c4:Value)(c0 c1 c2:Value)(K:Nat->Option Nat)(hd:Nat->Nat)(w:World)
  (hb:Blk w b 85 #[c0,c1,c2,.map (some mk),c4])(hk:Knw w mk K hd)(hl:LaidQ w ql)(hr:LaidQ w qr)(ig:LaidQ w (hd ql))(ie:LaidQ w (hd qr))(af:hd ql≠hd qr):Calls Tryz.prog 36 #[.pointer (some ⟨b,0,none⟩),.agg #[.pointer (some ⟨ql,0,none⟩),.pointer (some ⟨qr,0,none⟩),.bool true]] w λr w'=>r=.returned (.int .i64 0)/\Blk w' b 85 #[c0,c1,c2,.map (some mk),c4]/\(∃K',Knw w' mk K' (hdL hd (hd ql) (hd qr)))/\Chg (only mk) w w':=by
 have cH:=CS af;have rU:Hid (hd (hd ql)=hd ql/\hd (hd qr)=hd qr):=CS ⟨hk.idem _,hk.idem _⟩;clear af;have dL:mk<w.heap.size:=MapK.lt hk.mp;have h1:WkI b w.heap.size mk ql qr true c0 c1 c2 c4 hd w (w.alloc (.cells #[.pointer (some ⟨ql,0,none⟩),.pointer (some ⟨qr,0,none⟩),.bool true] 78)):=by
  have cL:∀g,g<w.heap.size->(w.alloc (.cells #[.pointer (some ⟨ql,0,none⟩),.pointer (some ⟨qr,0,none⟩),.bool true] 78)).heap[g]?=w.heap[g]?:=λg hg=>Below.heap_alloc _ _ _ hg;have bC:∀x,LaidQ w x->LaidQ (w.alloc (.cells #[.pointer (some ⟨ql,0,none⟩),.pointer (some ⟨qr,0,none⟩),.bool true] 78)) x:=λx ⟨cs,hx⟩=>⟨cs,(cL x (Aj.1 hx).1).trans hx⟩;exact⟨hb.alloc _,heap_alloc_new _ _,⟨K,hk.keep (cL _ dL) bC⟩,bC _ hl,bC _ hr,bC _ ig,bC _ ie,(Chg.refl _ _).alloc _⟩
 obtain⟨w1,bU⟩:∃W,w.alloc (.cells #[.pointer (some ⟨ql,0,none⟩),.pointer (some ⟨qr,0,none⟩),.bool true] 78)=W:=⟨_,rfl⟩;rw[bU]at h1
 obtain⟨z0,z1,z2,zl⟩:=h1.drew.facts;have eU:=CS (h1.drew.head ql h1.ll);have dT:=CS (h1.drew.head qr h1.lr);have eI:=CS bU;clear hb hk hl hr ig ie dL h1 bU;go_enter Tryz.func36,Tryz.ntmps36
 go_upto_region 1 with fail
 rw[eI.out]
 go_cut [5,6] from 7 to 14 (λv5 v6 wx=>v5=.pointer (some ⟨hd ql,0,none⟩)/\v6=.pointer (some ⟨hd qr,0,none⟩)/\Hid (WkI b w.heap.size mk ql qr true c0 c1 c2 c4 hd w wx))
 case first =>
  go_region_law (first
   |(go_simp;(with_reducible refine eU.out.mono ?_);rintro r w5 ⟨rfl,bd⟩;obtain⟨y0,y1,y2,yl⟩:=bd.facts;have fC:=CS (bd.head qr bd.lr);clear bd)
   |(go_simp;(with_reducible refine dT.out.mono ?_);rintro r w5 ⟨rfl,bd⟩;obtain⟨y0,y1,y2,yl⟩:=bd.facts;have oi:=CS (bd.head ql bd.ll);clear bd)
   |(go_simp;(with_reducible refine fC.out.mono ?_);rintro r w6 ⟨rfl,bL⟩;obtain⟨x0,x1,x2,xl⟩:=bL.facts;have ix:=CS bL;clear bL)
   |(go_simp;(with_reducible refine oi.out.mono ?_);rintro r w6 ⟨rfl,bL⟩;obtain⟨x0,x1,x2,xl⟩:=bL.facts;have ix:=CS bL;clear bL))
  all_goals
   go_wp2_with fail
   go_meet
   case rel=>exact⟨rfl,rfl,ix⟩
 case rest =>
  rename World=>V0;obtain⟨rfl,rfl,hw⟩:=hcut;have bh:=hw.out;have heq:=zct bh.hl bh.hr;rw[AQ cH.out]at heq
  obtain⟨K5,aO⟩:=bh.kn;obtain⟨w6,aA,dZ,dq,dO⟩:=MapK.store aO.mp keyQ Tryz.underlying83 (hd ql) (hd qr) bh.hl;have eD:(Instr.mapUpdate 83 (.map (some mk)) (.pointer (some ⟨hd ql,0,none⟩)) (.pointer (some ⟨hd qr,0,none⟩))).run Tryz.prog V0=.ok () w6:=aA;obtain⟨z0,z1,z2,zl⟩:=bh.facts;have k3:V0.cell? ⟨b,3,none⟩=some (.map (some mk)):=bh.sb.cell 3;have kl:=bh.sb.lt;have sA:∀(g:Nat) (cs:Array Value) (t:TypeId),V0.heap[g]?=some (.cells cs t (0,0))->w6.heap[g]?=V0.heap[g]?:=λg cs t hg=>dq.block g (Aj.1 hg).1 (λe=>by injection e with e;rw[e]at hg;exact MapK.no aO.mp hg);have HF:Hid (Blk w6 b 85 #[c0,c1,c2,.map (some mk),c4]/\(∃K',Knw w6 mk K' (hdL hd (hd ql) (hd qr)))/\Chg (only mk) w w6):=CS ⟨bh.sb.same (sA _ _ _ bh.sb),⟨_,aO.link rU.out.1 rU.out.2 cH.out bh.hl bh.hr dZ (λx ⟨cs,hx⟩=>⟨cs,(sA x cs _ hx).trans hx⟩)⟩,bh.ch.grown dq (λk hk=>.inr (by injection hk with hk;exact hk.symm))⟩;clear bh aO aA dZ dq dO sA hw eU dT;go_wp2_with fail
  go_ret
  exact⟨rfl,HF.out⟩
end Go.Proofs.YtfafilmklhnngaaGreatDoor
namespace Go.Proofs.YtfafilmklhnngaaGreatDoor
open Go.RowKit Lx Tx Go.Maps Go.WideMaps
set_option maxRecDepth 100000
theorem zoe(b mk ql qr:Nat)(s:Int)(c0 c1 c2:Value)(K:Nat->Option Nat)(hd:Nat->Nat)(w:World)
  (hb:Blk w b 85 #[c0,c1,c2,.map (some mk),.int .i64 s])(hk:Knw w mk K hd)(hl:LaidQ w ql)(hr:LaidQ w qr)(ig:LaidQ w (hd ql))(ie:LaidQ w (hd qr))(G:Nat->Option Nd)(D:Nat->Dy)(L:List Nat)(bB:PartsD w G D)(hg:Gr G hd L)(fO:∀q x,G q=some x->(D q).sr<=s)(x y:Nd)(hx:G (hd ql)=some x)(hy:G (hd qr)=some y)(af:hd ql≠hd qr)(hm:x.kd=2\/y.kd=2)(kz:1+wg G [] L<=1000000)(fP:0<=s)(hs:s<1000000000000):Calls Tryz.prog 36 #[.pointer (some ⟨b,0,none⟩),.agg #[.pointer (some ⟨ql,0,none⟩),.pointer (some ⟨qr,0,none⟩),.bool false]] w (LnPost b mk (lrn (hd ql) (hd qr) x y).1 (lrn (hd ql) (hd qr) x y).2 s c0 c1 c2 G D hd w):=by
 have cH:=CS af;have rU:Hid (hd (hd ql)=hd ql/\hd (hd qr)=hd qr):=CS ⟨hk.idem _,hk.idem _⟩;have tW:=CS bB;have bK:Hid (∀(g:Nat) (cs:Array Value) (t:TypeId),w.heap[g]?=some (.cells cs t (0,0))->¬only mk g):=CS λg cs t hg e=>by
  have e:g=mk:=e;rw[e]at hg
  exact MapK.no hk.mp hg
 have HX:=CS hx;have HY:=CS hy;have HM:=CS hm;have HG:=CS hg;have HSR:=CS fO;have lH:=CS kz;clear hm hg fO kz;clear af bB hx hy;have dL:mk<w.heap.size:=MapK.lt hk.mp;have h1:WkI b w.heap.size mk ql qr false c0 c1 c2 (.int .i64 s) hd w (w.alloc (.cells #[.pointer (some ⟨ql,0,none⟩),.pointer (some ⟨qr,0,none⟩),.bool false] 78)):=by
  have cL:∀g,g<w.heap.size->(w.alloc (.cells #[.pointer (some ⟨ql,0,none⟩),.pointer (some ⟨qr,0,none⟩),.bool false] 78)).heap[g]?=w.heap[g]?:=λg hg=>Below.heap_alloc _ _ _ hg;have bC:∀x,LaidQ w x->LaidQ (w.alloc (.cells #[.pointer (some ⟨ql,0,none⟩),.pointer (some ⟨qr,0,none⟩),.bool false] 78)) x:=λx ⟨cs,hx⟩=>⟨cs,(cL x (Aj.1 hx).1).trans hx⟩;exact⟨hb.alloc _,heap_alloc_new _ _,⟨K,hk.keep (cL _ dL) bC⟩,bC _ hl,bC _ hr,bC _ ig,bC _ ie,(Chg.refl _ _).alloc _⟩
 obtain⟨w1,bU⟩:∃W,w.alloc (.cells #[.pointer (some ⟨ql,0,none⟩),.pointer (some ⟨qr,0,none⟩),.bool false] 78)=W:=⟨_,rfl⟩;rw[bU]at h1
 obtain⟨z0,z1,z2,zl⟩:=h1.drew.facts;have eU:=CS (h1.drew.head ql h1.ll);have dT:=CS (h1.drew.head qr h1.lr);have eI:=CS bU;clear hb hk hl hr ig ie dL h1 bU;go_enter Tryz.func36,Tryz.ntmps36
 go_upto_region 1 with fail
 rw[eI.out]
 go_cut [5,6] from 7 to 14 (λv5 v6 wx=>v5=.pointer (some ⟨hd ql,0,none⟩)/\v6=.pointer (some ⟨hd qr,0,none⟩)/\Hid (WkI b w.heap.size mk ql qr false c0 c1 c2 (.int .i64 s) hd w wx))
 case first =>
  go_region_law (first
   |(go_simp;(with_reducible refine eU.out.mono ?_);rintro r w5 ⟨rfl,bd⟩;obtain⟨y0,y1,y2,yl⟩:=bd.facts;have fC:=CS (bd.head qr bd.lr);clear bd)
   |(go_simp;(with_reducible refine dT.out.mono ?_);rintro r w5 ⟨rfl,bd⟩;obtain⟨y0,y1,y2,yl⟩:=bd.facts;have oi:=CS (bd.head ql bd.ll);clear bd)
   |(go_simp;(with_reducible refine fC.out.mono ?_);rintro r w6 ⟨rfl,bL⟩;obtain⟨x0,x1,x2,xl⟩:=bL.facts;have ix:=CS bL;clear bL)
   |(go_simp;(with_reducible refine oi.out.mono ?_);rintro r w6 ⟨rfl,bL⟩;obtain⟨x0,x1,x2,xl⟩:=bL.facts;have ix:=CS bL;clear bL))
  all_goals
   go_wp2_with fail
   go_meet
   case rel=>exact⟨rfl,rfl,ix⟩
 case rest =>
  rename World=>V0;obtain⟨rfl,rfl,hw⟩:=hcut;have bh:=hw.out;have heq:=zct bh.hl bh.hr;rw[AQ cH.out]at heq
  obtain⟨K5,aO⟩:=bh.kn;obtain⟨z0,z1,z2,zl⟩:=bh.facts;have aV:PartsD V0 G D:=tW.out.same λk hk ⟨cs,t,hx⟩=>bh.ch.block k hk (bK.out k cs t hx);obtain⟨A1,cc1,p0,-,-,-,-,-,-⟩:=(aV _ x HX.out).facts;obtain⟨A2,cc2,q0,-,-,-,-,-,-⟩:=(aV _ y HY.out).facts;have lp:=(aV _ x HX.out).lt;have lq:=(aV _ y HY.out).lt;obtain⟨kx,cO⟩:∃k,x.kd=k:=⟨_,rfl⟩;obtain⟨ky,ji⟩:∃k,y.kd=k:=⟨_,rfl⟩;rw[cO]at p0
  rw[ji]at q0
  have kS:=zob b mk (hd ql) (hd qr) s c0 c1 c2 G D K5 hd L V0 bh.sb aO aV HG.out HSR.out x y HX.out HY.out rU.out.1 rU.out.2 cH.out lH.out fP hs;have lK:=CS kS;have ov:=CS bh.ch;have hm:=HM.out;rw[cO,ji]at hm
  clear kS bh aO aV hw eU dT cO ji;by_cases h2:kx=2
  ·have e2:((kx:Int)==2)=true:=by simp[h2]
   clear h2 hm;go_wp2_with fail
   refine lK.out.mono ?_;rintro e w5 ⟨r,Vs,rfl,a1,a2,a3,a4,a5⟩;have HF:Hid (LnPost b mk (lrn (hd ql) (hd qr) x y).1 (lrn (hd ql) (hd qr) x y).2 s c0 c1 c2 G D hd w (.returned (.int .i64 r)) w5):=CS ⟨r,Vs,rfl,a1,a2,a3,a4,(ov.out.mono (λ_ _ h=>.inl h)).trans a5⟩;clear a1 a2 a3 a4 a5 lK;go_wp2_with fail
   go_ret
   exact HF.out
  ·have e2:((kx:Int)==2)=false:=by rw[AG];intro e;simp at e;omega
   have e3:((ky:Int)==2)=true:=by simp;omega
   clear h2 hm;go_wp2_with fail
   refine lK.out.mono ?_;rintro e w5 ⟨r,Vs,rfl,a1,a2,a3,a4,a5⟩;have HF:Hid (LnPost b mk (lrn (hd ql) (hd qr) x y).1 (lrn (hd ql) (hd qr) x y).2 s c0 c1 c2 G D hd w (.returned (.int .i64 r)) w5):=CS ⟨r,Vs,rfl,a1,a2,a3,a4,(ov.out.mono (λ_ _ h=>.inl h)).trans a5⟩;clear a1 a2 a3 a4 a5 lK;go_wp2_with fail
   go_ret
   exact HF.out
theorem zof(b mk ql qr:Nat)(c4:Value)(c0 c1 c2:Value)(K:Nat->Option Nat)(hd:Nat->Nat)(w:World)
  (hb:Blk w b 85 #[c0,c1,c2,.map (some mk),c4])(hk:Knw w mk K hd)(hl:LaidQ w ql)(hr:LaidQ w qr)(ig:LaidQ w (hd ql))(ie:LaidQ w (hd qr))(G:Nat->Option Nd)(D:Nat->Dy)(bB:PartsD w G D)(x y:Nd)(hx:G (hd ql)=some x)(hy:G (hd qr)=some y)(af:hd ql≠hd qr)(hm:x.kd≠2/\y.kd≠2)(fW:fitB x y=false):Calls Tryz.prog 36 #[.pointer (some ⟨b,0,none⟩),.agg #[.pointer (some ⟨ql,0,none⟩),.pointer (some ⟨qr,0,none⟩),.bool false]] w λr w'=>r=.returned (.int .i64 40)/\Blk w' b 85 #[c0,c1,c2,.map (some mk),c4]/\(∃K',Knw w' mk K' hd)/\PartsD w' G D/\Chg (only mk) w w':=by
 have cH:=CS af;have rU:Hid (hd (hd ql)=hd ql/\hd (hd qr)=hd qr):=CS ⟨hk.idem _,hk.idem _⟩;have tW:=CS bB;have bK:Hid (∀(g:Nat) (cs:Array Value) (t:TypeId),w.heap[g]?=some (.cells cs t (0,0))->¬only mk g):=CS λg cs t hg e=>by
  have e:g=mk:=e;rw[e]at hg
  exact MapK.no hk.mp hg
 have HX:=CS hx;have HY:=CS hy;have HM:=CS hm;have rW:=CS fW;clear hm fW;clear af bB hx hy;have dL:mk<w.heap.size:=MapK.lt hk.mp;have h1:WkI b w.heap.size mk ql qr false c0 c1 c2 c4 hd w (w.alloc (.cells #[.pointer (some ⟨ql,0,none⟩),.pointer (some ⟨qr,0,none⟩),.bool false] 78)):=by
  have cL:∀g,g<w.heap.size->(w.alloc (.cells #[.pointer (some ⟨ql,0,none⟩),.pointer (some ⟨qr,0,none⟩),.bool false] 78)).heap[g]?=w.heap[g]?:=λg hg=>Below.heap_alloc _ _ _ hg;have bC:∀x,LaidQ w x->LaidQ (w.alloc (.cells #[.pointer (some ⟨ql,0,none⟩),.pointer (some ⟨qr,0,none⟩),.bool false] 78)) x:=λx ⟨cs,hx⟩=>⟨cs,(cL x (Aj.1 hx).1).trans hx⟩;exact⟨hb.alloc _,heap_alloc_new _ _,⟨K,hk.keep (cL _ dL) bC⟩,bC _ hl,bC _ hr,bC _ ig,bC _ ie,(Chg.refl _ _).alloc _⟩
 obtain⟨w1,bU⟩:∃W,w.alloc (.cells #[.pointer (some ⟨ql,0,none⟩),.pointer (some ⟨qr,0,none⟩),.bool false] 78)=W:=⟨_,rfl⟩;rw[bU]at h1
 obtain⟨z0,z1,z2,zl⟩:=h1.drew.facts;have eU:=CS (h1.drew.head ql h1.ll);have dT:=CS (h1.drew.head qr h1.lr);have eI:=CS bU;clear hb hk hl hr ig ie dL h1 bU;go_enter Tryz.func36,Tryz.ntmps36
 go_upto_region 1 with fail
 rw[eI.out]
 go_cut [5,6] from 7 to 14 (λv5 v6 wx=>v5=.pointer (some ⟨hd ql,0,none⟩)/\v6=.pointer (some ⟨hd qr,0,none⟩)/\Hid (WkI b w.heap.size mk ql qr false c0 c1 c2 c4 hd w wx))
 case first =>
  go_region_law (first
   |(go_simp;(with_reducible refine eU.out.mono ?_);rintro r w5 ⟨rfl,bd⟩;obtain⟨y0,y1,y2,yl⟩:=bd.facts;have fC:=CS (bd.head qr bd.lr);clear bd)
   |(go_simp;(with_reducible refine dT.out.mono ?_);rintro r w5 ⟨rfl,bd⟩;obtain⟨y0,y1,y2,yl⟩:=bd.facts;have oi:=CS (bd.head ql bd.ll);clear bd)
   |(go_simp;(with_reducible refine fC.out.mono ?_);rintro r w6 ⟨rfl,bL⟩;obtain⟨x0,x1,x2,xl⟩:=bL.facts;have ix:=CS bL;clear bL)
   |(go_simp;(with_reducible refine oi.out.mono ?_);rintro r w6 ⟨rfl,bL⟩;obtain⟨x0,x1,x2,xl⟩:=bL.facts;have ix:=CS bL;clear bL))
  all_goals
   go_wp2_with fail
   go_meet
   case rel=>exact⟨rfl,rfl,ix⟩
 case rest =>
  rename World=>V0;obtain⟨rfl,rfl,hw⟩:=hcut;have bh:=hw.out;have heq:=zct bh.hl bh.hr;rw[AQ cH.out]at heq
  obtain⟨K5,aO⟩:=bh.kn;obtain⟨z0,z1,z2,zl⟩:=bh.facts;have aV:PartsD V0 G D:=tW.out.same λk hk ⟨cs,t,hx⟩=>bh.ch.block k hk (bK.out k cs t hx);obtain⟨A1,cc1,p0,-,-,-,-,-,-⟩:=(aV _ x HX.out).facts;obtain⟨A2,cc2,q0,-,-,-,-,-,-⟩:=(aV _ y HY.out).facts;have lp:=(aV _ x HX.out).lt;have lq:=(aV _ y HY.out).lt;obtain⟨kx,cO⟩:∃k,x.kd=k:=⟨_,rfl⟩;obtain⟨ky,ji⟩:∃k,y.kd=k:=⟨_,rfl⟩;rw[cO]at p0
  rw[ji]at q0
  have fW:=zgP (hd ql) (hd qr) x y _ _ V0 (aV _ x HX.out) (aV _ y HY.out);rw[rW.out]at fW
  have rX:=CS fW;have aQ:Hid (∀w5,Below V0.heap.size V0 w5->Blk w5 b 85 #[c0,c1,c2,.map (some mk),c4]/\(∃K',Knw w5 mk K' hd)/\PartsD w5 G D/\Chg (only mk) w w5):=CS λw5 h5 =>
   ⟨bh.sb.below h5 bh.sb.lt,⟨K5,aO.keep (h5.block _ (MapK.lt aO.mp)) (λx ⟨cs,hx⟩=>⟨cs,(h5.block x (Aj.1 hx).1).trans hx⟩)⟩,aV.same λk hk _=>h5.block k hk,bh.ch.below h5⟩
  have hm:=HM.out;rw[cO,ji]at hm
  have e2:((kx:Int)==2)=false:=by rw[AG];intro e;simp at e;omega
  have e3:((ky:Int)==2)=false:=by rw[AG];intro e;simp at e;omega
  clear fW bh aO aV hw eU dT cO ji hm;go_wp2_with fail
  refine rX.out.mono ?_;rintro e w5 ⟨rfl,h5,-⟩;have HF:=CS (aQ.out w5 h5);clear h5 aQ rX p0 q0 lp lq heq z0 z1 z2 zl;go_wp2_with fail
  go_ret
  exact⟨rfl,HF.out⟩
end Go.Proofs.YtfafilmklhnngaaGreatDoor
namespace Go.Proofs.YtfafilmklhnngaaGreatDoor
open Go.RowKit Go.Shelf Lx Tx
set_option maxRecDepth 100000
attribute [local go_sem] Oper.semAt_some
def LaidE(b B:Nat)(t:TypeId)(cs:Array Value)(l ids:List Eqn)(v:Value)(A:Option Addr)(c:Nat)(w:World)(k:Nat)(W:World):Prop :=
 ∃v',Blk W b t (cs.setIfInBounds 0 v')/\W.ownsRow B 78 3 v' (l++(ids.drop k).reverse).length (eqCells (l++(ids.drop k).reverse))/\(v'.ownBlock=v.ownBlock\/∃g,v'.ownBlock=some g/\w.heap.size+2<=g) /\
  Blk W w.heap.size 134 #[.pointer (some ⟨b,0,none⟩)]/\Blk W (w.heap.size+1) 74 #[.slice A ids.length c]/\Chg (λg=>g=b\/v.ownBlock=some g) w W
def LaidV(b B:Nat)(t:TypeId)(cs:Array Value)(l ids:List Eqn)(v:Value)(A:Option Addr)(c:Nat)(w:World)(k bx:Nat)(W:World):Prop :=
 ∃v',v'.ownBlock≠some bx/\Blk W b t (cs.setIfInBounds 0 v')/\W.ownsRow B 78 3 v' (l++(ids.drop k).reverse).length (eqCells (l++(ids.drop k).reverse))/\(v'.ownBlock=v.ownBlock\/∃g,v'.ownBlock=some g/\w.heap.size+2<=g) /\
  Blk W w.heap.size 134 #[.pointer (some ⟨b,0,none⟩)]/\Blk W (w.heap.size+1) 74 #[.slice A ids.length c]/\Chg (λg=>g=b\/v.ownBlock=some g) w W
theorem LaidE.keep {b B:Nat} {t:TypeId} {cs:Array Value} {l ids:List Eqn} {v:Value} {A:Option Addr} {c:Nat} {w:World} {k:Nat} {W W':World}(h:LaidE b B t cs l ids v A c w k W)(hc:∀g,g<W.heap.size->(∃x y,W.heap[g]?=some (.cells x y (0,0)))->W'.heap[g]?=W.heap[g]?)
  (hC:Chg (λg=>g=b\/v.ownBlock=some g) w W'):LaidE b B t cs l ids v A c w k W':=by
 obtain⟨v',h1,h2,h3,h4,h5,h6⟩:=h;refine⟨v',h1.same (hc _ h1.lt ⟨_,_,h1⟩),zan h2 (λg hg=>?_),h3,h4.same (hc _ h4.lt ⟨_,_,h4⟩),h5.same (hc _ h5.lt ⟨_,_,h5⟩),hC⟩;obtain⟨_,hl,cur,aa⟩:=zab h2 g hg;exact hc g hl ⟨_,_,aa⟩
theorem LaidE.noRec {b B:Nat} {t:TypeId} {cs:Array Value} {l ids:List Eqn} {v:Value} {A:Option Addr} {c:Nat} {w:World} {k lp:Nat}(lS:w.heap.size<=lp):NoRec lp (LaidE b B t cs l ids v A c w k):=λW r r' h hl =>
 h.keep (λg _ hg=>zaH hl g hg) (by obtain⟨_,_,_,_,_,_,h6⟩:=h;exact h6.putObj _ _ lS)
theorem LaidV.noRec {b B:Nat} {t:TypeId} {cs:Array Value} {l ids:List Eqn} {v:Value} {A:Option Addr} {c:Nat} {w:World} {k bx lp:Nat}(lS:w.heap.size<=lp):NoRec lp (LaidV b B t cs l ids v A c w k bx):=λW r r' h hl=>by
 obtain⟨v',h0,h1,h2,h3,h4,h5,h6⟩:=h;refine⟨v',h0,h1.same (zaH hl b ⟨_,_,h1⟩),zan h2 (λg hg=>?_),h3,h4.same (zaH hl _ ⟨_,_,h4⟩),h5.same (zaH hl _ ⟨_,_,h5⟩),h6.putObj _ _ lS⟩;obtain⟨_,_,cur,aa⟩:=zab h2 g hg;exact zaH hl g ⟨_,_,aa⟩
theorem infoEq:(Tryz.prog.info? 78).map (λi=>(i.zero,i.size,i.bytes))=some (some (.agg #[.pointer none,.pointer none,.bool false]),3,24):=by kernel_rfl
theorem zgO(b B:Nat)(t:TypeId)(cs:Array Value)(gA:0<cs.size)(l ids:List Eqn)(v:Value)(A:Option Addr)(c:Nat)(w:World)
  (hb:Blk w b t (cs.setIfInBounds 0 v))(ho:w.ownsRow B 78 3 v l.length (eqCells l))(hB:B<=w.heap.size)(pg:v.ownBlock≠some b)(hlen:l.length+ids.length<=1000000000)
  (hA:∀(j:Nat)(q:Eqn),ids[j]?=some q->∃g,A=some ⟨g,0,none⟩/\g<w.heap.size/\g≠b/\v.ownBlock≠some g/\w.cell? ⟨g,j*3,none⟩=some (.pointer (some ⟨q.l,0,none⟩))/\w.cell? ⟨g,j*3+1,none⟩=some (.pointer (some ⟨q.r,0,none⟩))/\w.cell? ⟨g,j*3+2,none⟩=some (.bool q.d)):Calls Tryz.prog 34 #[.pointer (some ⟨b,0,none⟩),.slice A ids.length c] w λe w'=>(∃x,e=.returned x)/\LaidE b B t cs l ids v A c w 0 w':=by
 refine(callsIn_wide (n:=10)).1 ?_;refine callsIn_of_wp_marks Tryz.func34 rfl trivial ?_ rfl;simp only[Tryz.ntmps34,Bf,Ao,Be,Nat.reduceAdd,Nat.reduceSub,Bq,Bp,BD,Bu,AL,AE];have HB:=CS hb;have HO:=CS ho;have HA:=CS hA;have HVB:=CS pg;clear hb ho hA pg;gi_wp2
 refine⟨trivial,?_⟩;refine(zn9 Fence.wide _ trivial rfl _ _ _ _).mono ?_;rintro e w' ⟨rfl,rfl⟩;gi_wp2
 obtain⟨k1,k2,bk,aT⟩:=zaZ w (.cells #[.pointer (some ⟨b,0,none⟩)] 134) (.cells #[.slice A ids.length c] 74);obtain⟨w2,dJ⟩:∃w2,(w.alloc (.cells #[.pointer (some ⟨b,0,none⟩)] 134)).alloc (.cells #[.slice A ids.length c] 74)=w2:=⟨_,rfl⟩;rw[dJ]at k1 k2 bk aT ⊢
 have h0:LaidE b B t cs l ids v A c w ids.length w2:=by
  refine⟨v,HB.out.below aT HB.out.lt,?_,.inl rfl,k1,k2,Chg.of_below aT⟩;rw[List.drop_length,List.reverse_nil,AU]
  exact zan HO.out λg hg=>aT.block g (zab HO.out g hg).2.1
 have au:∀k W,LaidE b B t cs l ids v A c w k W->∀(j:Nat) (q:Eqn),ids[j]?=some q->∃g,A=some ⟨g,0,none⟩/\W.cell? ⟨g,j*3,none⟩=some (.pointer (some ⟨q.l,0,none⟩))/\W.cell? ⟨g,j*3+1,none⟩=some (.pointer (some ⟨q.r,0,none⟩))/\W.cell? ⟨g,j*3+2,none⟩=some (.bool q.d):=λk W h j q hq=>by
  obtain⟨_,_,_,_,_,_,hc⟩:=h;obtain⟨g,e,aY,iK,im,hg4,hg5,dq⟩:=HA.out j q hq;have an:=hc.block g aY (λh=>by rcases h with h|h;exact iK h;exact im h);exact⟨g,e,(World.cell?_of_block (w:=w) (a:=⟨g,j*3,none⟩) an).trans hg4,(World.cell?_of_block (w:=w) (a:=⟨g,j*3+1,none⟩) an).trans hg5,(World.cell?_of_block (w:=w) (a:=⟨g,j*3+2,none⟩) an).trans dq⟩
 have H0:=CS h0;have HC:=CS au;have eT:=CS bk;clear h0 au k1 k2 aT dJ bk;refine zch (σ:=Nat × Eqn) rfl (by omega) (gf:=117) (fb:=#[]) (lb:=#[.pointer (some ⟨w.heap.size+1,0,none⟩)]) rfl trivial (enters_of Tryz.func117 (by kernel_rfl) rfl)
  (λs=>#[.int .i64 (s.1:Nat),.agg #[.pointer (some ⟨s.2.l,0,none⟩),.pointer (some ⟨s.2.r,0,none⟩),.bool s.2.d]]) (λ_=>rfl)
  (λs W=>LaidE b B t cs l ids v A c w (s.1+1) W/\ids[s.1]?=some s.2) (λs W=>LaidE b B t cs l ids v A c w s.1 W)
  (λs a₁ W=>∃bx,w.heap.size+4<=bx/\LaidV b B t cs l ids v A c w (s.1+1) bx W/\ids[s.1]?=some s.2/\Blk W bx 78 #[.pointer (some ⟨s.2.l,0,none⟩),.pointer (some ⟨s.2.r,0,none⟩),.bool s.2.d]/\a₁ = { tmps:=#[.pointer (some ⟨b,0,none⟩),.slice A ids.length c,.pointer (some ⟨w.heap.size,0,none⟩),undef,undef,.pointer (some ⟨bx,0,none⟩),.slice A ids.length c,.func (.func 117) #[] #[.pointer (some ⟨w.heap.size+1,0,none⟩)],.int .i64 (s.1:Nat),.agg #[.pointer (some ⟨s.2.l,0,none⟩),.pointer (some ⟨s.2.r,0,none⟩),.bool s.2.d],undef,undef,undef,undef,undef,undef,undef,undef,undef,undef],defers:=[] })
  (LaidE b B t cs l ids v A c w 0) (λ_ _=>False) (λs a₁ W r r' h hl=>by obtain⟨bx,h0,h1,h2,h3,h4⟩:=h;exact⟨bx,h0,LaidV.noRec (by have:=eT.out;omega) W r r' h1 hl,h2,h3.same (zaH hl bx ⟨_,_,h3⟩),h4⟩) (λs=>LaidE.noRec (by have:=eT.out;omega)) (LaidE.noRec (by have:=eT.out;omega)) (λ_ _ _ _ h _=>h) ?assign ?body ?iter ?done ?stop
 case assign =>
  intro r s W hj hl;have HJ:=CS hj;have HL:=CS hl;clear hj hl;gi_wp2
  obtain⟨⟨v',h1,h2,h3,h4,h5,h6⟩,hq⟩:=HJ.out;have qN:=h6.size;have dw:=eT.out;have dj:=HL.out.lt.1;have cL:Below W.heap.size W (W.alloc (.cells #[.pointer (some ⟨s.2.l,0,none⟩),.pointer (some ⟨s.2.r,0,none⟩),.bool s.2.d] 78)):=(Below.refl _ W).alloc (Ai _) _;exact⟨HL.out.below cL,W.heap.size,by omega,⟨v',λe=>by have:=(zab h2 _ e).2.1;omega,h1.below cL h1.lt,zan h2 (λg hg=>cL.block g (zab h2 g hg).2.1),h3,h4.below cL h4.lt,h5.below cL h5.lt,h6.alloc _⟩,hq,heap_alloc_new W _,rfl⟩
 case iter =>
  intro rec W1 aw aF cg hY;refine(zn7 Fence.wide (10-1) trivial rfl (by omega) (w2.heap.size+1) (w.heap.size+1) ids A c (λk W=>LaidE b B t cs l ids v A c w k W/\LoopAt (rec .ready none) (w2.heap.size+1) w2.heap.size W) (by omega)
   (λk W h=>by obtain⟨⟨_,_,_,_,_,h5,_⟩,_⟩:=h;exact h5.cell 0) (λk W h=>HC.out k W h.1) (λk q W h hq=>?_) W1 ⟨H0.out.keep (λg hg _=>aw.block g hg) (by obtain⟨_,_,_,_,_,_,h6⟩:=H0.out;exact h6.below aw),cg⟩).mono ?_
  ·refine(hY (k,q) W ⟨h.1,hq⟩ h.2).mono ?_
   intro e W' hs;rcases hs with⟨h1,h2,h3⟩|⟨_,_,h2,_⟩
   ·exact⟨h1,h2,h3⟩
   ·exact h2.elim
  ·rintro e W' ⟨hv,hj,hl⟩
   exact⟨hv,.inl ⟨hj,hl⟩⟩
 case done =>
  intro W hj hD;have HJ:=CS hj;have HD:=CS hD;clear hj hD;gi_wp2
  refine⟨by simp,.inl ⟨_,_,rfl,run_takeDeferred HD.out,?_⟩⟩;refine⟨_,results_none rfl _ _ _,⟨_,rfl⟩,?_⟩;exact HJ.out.keep (λg _ hg=>World.putObj_heap_other λe=>by
   obtain⟨x,y,hx⟩:=hg;rw[e,HD.out]at hx
   cases hx) (by obtain⟨_,_,_,_,_,_,h6⟩:=HJ.out;exact h6.putObj _ _ (by have:=eT.out;omega))
 case stop=>intro c W h;exact h.elim
 case body =>
  rintro r ⟨k,q⟩ a₁ W ⟨bx,fy,hj,hq,hx,rfl⟩ hl;obtain⟨v1,hvx,h1,h2,h3,h4,h5,h6⟩:=hj;obtain⟨i0,bm,bO,bD,bj⟩:=info_parts infoEq;have x0:W.cell? ⟨bx,0,none⟩=some (.pointer (some ⟨q.l,0,none⟩)):=Blk.cell hx 0;have x1:W.cell? ⟨bx,1,none⟩=some (.pointer (some ⟨q.r,0,none⟩)):=Blk.cell hx 1;have x2:W.cell? ⟨bx,2,none⟩=some (.bool q.d):=Blk.cell hx 2;have l3:=hx.lt;have e1:W.cell? ⟨w.heap.size,0,none⟩=some (.pointer (some ⟨b,0,none⟩)):=h4.cell 0;have e2:W.cell? ⟨b,0,none⟩=some v1:=(h1.cell 0).trans (by simp[gA]);have l1:=h1.lt;have l2:=h4.lt;have gj:v1.ownBlock≠some b:=by
   rcases h3 with e|⟨g,e,hg⟩
   ·rw[e];exact HVB.out
   ·rw[e];intro e;injection e with e;have:=HB.out.lt;omega
  have sd:v1.ownBlock≠some w.heap.size:=by
   rcases h3 with e|⟨g,e,hg⟩
   ·rw[e];intro e;have:=(zab HO.out _ e).2.1;omega
   ·rw[e];intro e;injection e with e;omega
  have aQ:Hid (∀(g6 c6:Nat) (w6:World),w6.ownsRow B 78 3 (.slice (some ⟨g6,0,none⟩) ((l++(ids.drop (k+1)).reverse).length+1) c6) ((l++(ids.drop (k+1)).reverse).length+1) (eqCells (l++(ids.drop (k+1)).reverse)++[.pointer (some ⟨q.l,0,none⟩),.pointer (some ⟨q.r,0,none⟩),.bool q.d]) ->
    (W.drew.alloc (.cells #[.pointer (some ⟨q.l,0,none⟩),.pointer (some ⟨q.r,0,none⟩),.bool q.d] 78)).grownBy w6 v1.ownBlock->(v1.ownBlock=some g6\/g6=(W.drew.alloc (.cells #[.pointer (some ⟨q.l,0,none⟩),.pointer (some ⟨q.r,0,none⟩),.bool q.d] 78)).heap.size) ->
    LaidE b B t cs l ids v A c w k (w6.setCell ⟨b,0,none⟩ (.slice (some ⟨g6,0,none⟩) ((l++(ids.drop (k+1)).reverse).length+1) c6))/\LoopAt r (w2.heap.size+1) w2.heap.size (w6.setCell ⟨b,0,none⟩ (.slice (some ⟨g6,0,none⟩) ((l++(ids.drop (k+1)).reverse).length+1) c6))):=CS (by
   intro g6 c6 w6 mN dq bF;have qN:=h6.size;have dO:=dq.size;have aD:(W.drew.alloc (.cells #[.pointer (some ⟨q.l,0,none⟩),.pointer (some ⟨q.r,0,none⟩),.bool q.d] 78)).heap.size=W.heap.size+1:=by rw[World.size_alloc];rfl
   rw[aD]at dO bF
   have pN:∀g,g<W.heap.size->v1.ownBlock≠some g->g≠b->(w6.setCell ⟨b,0,none⟩ (.slice (some ⟨g6,0,none⟩) ((l++(ids.drop (k+1)).reverse).length+1) c6)).heap[g]?=W.heap[g]?:=λg hg af la =>
    (Below.heap_setCell _ _ _ _ la).trans ((dq.block g (by rw[aD];omega) (λe=>af e.symm)).trans (Below.heap_alloc W.drew _ g hg))
   have lA:Blk w6 b t (cs.setIfInBounds 0 v1):=(Blk.alloc (w:=W.drew) h1 (.cells #[.pointer (some ⟨q.l,0,none⟩),.pointer (some ⟨q.r,0,none⟩),.bool q.d] 78)).grown dq (λe=>gj e.symm);have nz:(ids.drop k).reverse=(ids.drop (k+1)).reverse++[q]:=by
    obtain⟨hk,e⟩:=Aw.1 hq;rw[BO hk,List.reverse_cons]
    simp at e;rw[e]
   have sZ:g6≠b:=by
    rcases bF with e|e
    ·intro e2;rw[e2]at e;exact gj e
    ·have:=h1.lt;omega
   have gq:∀g,v1.ownBlock=some g->v.ownBlock=some g\/w.heap.size+2<=g:=λg hg=>by
    rcases h3 with e|⟨g',e,oH⟩
    ·exact .inl (e▸hg)
    ·rw[e]at hg;injection hg with hg;exact .inr (hg▸oH)
   have dw:=eT.out;refine⟨⟨.slice (some ⟨g6,0,none⟩) ((l++(ids.drop (k+1)).reverse).length+1) c6,?_,?_,?_,?_,?_,?_⟩,?_,?_⟩
   ·have:=heap_setCell_same w6 b 0 _ t (.slice (some ⟨g6,0,none⟩) ((l++(ids.drop (k+1)).reverse).length+1) c6) lA
    rw[Array.setIfInBounds_setIfInBounds]at this
    exact this
   ·rw[nz,<-Bj,zbH,show(l++(ids.drop (k+1)).reverse++[q]).length=(l++(ids.drop (k+1)).reverse).length+1 from Ap]
    exact ownsRow_setCell_other (a:=⟨b,0,none⟩) mN (λe=>sZ (by simpa[Value.ownBlock] using e)) _
   ·rcases bF with e|e
    ·rcases gq g6 e with e2|e2
     ·exact .inl e2.symm
     ·exact .inr ⟨g6,rfl,e2⟩
    ·exact .inr ⟨g6,rfl,by omega⟩
   ·exact h4.same (pN _ h4.lt sd (by have:=HB.out.lt;omega))
   ·exact h5.same (pN _ h5.lt (λe=>by rcases gq _ e with e2|e2;have:=(zab HO.out _ e2).2.1;omega;omega) (by have:=HB.out.lt;omega))
   ·refine((((show Chg (λg=>g=b\/v.ownBlock=some g) w W.drew from h6.drew).alloc _).grown dq (λg hg=>?_)).setCell (p:=⟨b,0,none⟩) (.inr (.inl rfl)) _)
    rcases gq g hg with e|e
    ·exact .inr (.inr e)
    ·exact .inl (by omega)
   ·exact(pN _ hl.lt.1 (λe=>by rcases gq _ e with e2|e2;have:=(zab HO.out _ e2).2.1;omega;obtain⟨_,_,cur,aa⟩:=zab h2 _ e;rw[hl.1]at aa;cases aa) (by have:=HB.out.lt;omega)).trans hl.1
   ·exact(pN _ hl.lt.2 (λe=>by obtain⟨_,_,cur,aa⟩:=zab h2 _ e;rw[hl.2]at aa;cases aa) (by have:=HB.out.lt;omega)).trans hl.2)
  obtain⟨L1,lD⟩:∃L1,l++(ids.drop (k+1)).reverse=L1:=⟨_,rfl⟩;rw[lD]at aQ h2
  have jT:L1.length<1000000000:=by
   have:=(Aw.1 hq).1;simp at this;rw[<-lD]
   simp;omega
  have ay:Hid ((W.drew.alloc (.cells #[.pointer (some ⟨q.l,0,none⟩),.pointer (some ⟨q.r,0,none⟩),.bool q.d] 78)).ownsRow B 78 3 v1 L1.length (eqCells L1)):=CS (World.ownsRow.alloc (w:=W.drew) h2 _);have dz:Hid (∀j u,[Value.pointer (some ⟨q.l,0,none⟩),.pointer (some ⟨q.r,0,none⟩),.bool q.d][j]?=some u->(W.drew.alloc (.cells #[.pointer (some ⟨q.l,0,none⟩),.pointer (some ⟨q.r,0,none⟩),.bool q.d] 78)).cell? ((⟨W.heap.size,0,none⟩:Addr).add j)=some u):=CS (zas _ _ _ _ rfl);have hBW:B<=W.heap.size:=by have:=h6.size;omega
  have bN:=CS h1;have lN:=CS h4;have tH:Hid (some b≠v1.ownBlock):=CS λe=>gj e.symm;have tG:Hid (some w.heap.size≠v1.ownBlock):=CS λe=>sd e.symm;clear h1 h2 h3 h4 h5 h6 gj hq sd lD hl hvx hx;gi_wp2
  refine wpIn_region_any (by kernel_rfl) ?_;refine zcX _ _ (zci (by kernel_rfl)) (λ_ _ h=>h) _ _ _ _ ?_;change wpAny _ _ _ _ _ _ _ (World.drew _)
  iterate 12
   all_goals
    iterate 4
     try
      first
       |refine wpAny_take (i:=2) (v:=(.pointer (some ⟨b,0,none⟩))) rfl (by kernel_rfl) (by decide +kernel) (by decide +kernel) (λ_ _ _ h=>h) (Or.inl ⟨by rfl,λw=>by go_simp⟩) ?_
       |refine wpAny_take (i:=3) (v:=(.pointer (some ⟨b,0,none⟩))) rfl (by kernel_rfl) (by decide +kernel) (by decide +kernel) (λ_ _ _ h=>h) (Or.inl ⟨by rfl,λw=>by go_simp⟩) ?_
       |refine wpAny_take (i:=8) (v:=(.pointer (some ⟨b,0,none⟩))) rfl (by kernel_rfl) (by decide +kernel) (by decide +kernel) (λ_ _ _ h=>h) (Or.inl ⟨by rfl,λw=>by go_simp⟩) ?_
       |refine wpAny_take (i:=9) (v:=(.pointer (some ⟨b,0,none⟩))) rfl (by kernel_rfl) (by decide +kernel) (by decide +kernel) (λ_ _ _ h=>h) (Or.inl ⟨by rfl,λw=>by go_simp⟩) ?_
   all_goals first
    |(refine wpAny_done (by decide +kernel) ?_ _;exact aQ.out _ _ _ oe.out uo.out fq.out)
    |refine wpAny_ready (rs:=[10]) (by decide +kernel) (by simp) ?_
    |refine wpAny_ready (rs:=[7]) (by decide +kernel) (by simp) ?_
    |refine wpAny_ready (rs:=[6]) (by decide +kernel) (by simp) ?_
    |refine wpAny_ready (rs:=[4]) (by decide +kernel) (by simp) ?_
    |refine wpAny_ready (rs:=[4,6]) (by decide +kernel) (by simp) ?_
    |refine wpAny_ready (rs:=[0,7]) (by decide +kernel) (by simp) ?_
    |refine wpAny_ready (rs:=[0]) (by decide +kernel) (by simp) ?_
    |refine wpAny_ready (rs:=[5]) (by decide +kernel) (by simp) ?_
    |refine wpAny_ready (rs:=[1]) (by decide +kernel) (by simp) ?_
    |refine wpAny_ready (rs:=[0,6]) (by decide +kernel) (by simp) ?_
    |refine wpAny_ready (rs:=[0,4]) (by decide +kernel) (by simp) ?_
    |refine wpAny_ready (rs:=[4,5]) (by decide +kernel) (by simp) ?_
    |refine wpAny_ready (rs:=[1,6]) (by decide +kernel) (by simp) ?_
    |refine wpAny_ready (rs:=[0,4,6]) (by decide +kernel) (by simp) ?_
    |refine wpAny_ready (rs:=[0,1,5]) (by decide +kernel) (by simp) ?_
    |refine wpAny_ready (rs:=[1,5]) (by decide +kernel) (by simp) ?_
    |refine wpAny_ready (rs:=[0,4,5]) (by decide +kernel) (by simp) ?_
    |refine wpAny_ready (rs:=[0,5]) (by decide +kernel) (by simp) ?_
    |refine wpAny_ready (rs:=[0,1,6]) (by decide +kernel) (by simp) ?_
    |refine wpAny_ready (rs:=[0,1]) (by decide +kernel) (by simp) ?_
   all_goals first
    |refine AllReady.cons rfl (λK hK=>?_) AllReady.nil
    |refine AllReady.cons rfl (λK hK=>?_) (AllReady.cons rfl (λK hK=>?_) AllReady.nil)
    |refine AllReady.cons rfl (λK hK=>?_) (AllReady.cons rfl (λK hK=>?_) (AllReady.cons rfl (λK hK=>?_) AllReady.nil))
   all_goals first
    |((refine step_append_lies _ (by rfl) _ _ _ (by rfl) B 78 i0 _ 3 24 Tryz.underlying74 bm bO bD bj rfl (by decide) _ L1.length (eqCells L1) (by rfl) ay.out ⟨W.heap.size,0,none⟩ 1 1 [.pointer (some ⟨q.l,0,none⟩),.pointer (some ⟨q.r,0,none⟩),.bool q.d] rfl rfl dz.out (by intro u hu;simp at hu;rcases hu with hu|hu|hu <;> subst hu <;> rfl) (by omega) (by unfold maxLen;omega) (by omega) (by simp;omega) _ rfl ?_;intro g6 c6 w6 dh ae bF sS;have lA:=(Blk.alloc (w:=W.drew) bN.out (.cells #[.pointer (some ⟨q.l,0,none⟩),.pointer (some ⟨q.r,0,none⟩),.bool q.d] 78)).grown ae tH.out;have f1:w6.cell? ⟨b,0,none⟩=some v1:=(lA.cell 0).trans (by simp[gA]);have f2:w6.frozen? ⟨b,0,none⟩=false:=lA.frozen 0;have f3:=lA.lt;have f4:w6.cell? ⟨w.heap.size,0,none⟩=some (.pointer (some ⟨b,0,none⟩)):=((Blk.alloc (w:=W.drew) lN.out (.cells #[.pointer (some ⟨q.l,0,none⟩),.pointer (some ⟨q.r,0,none⟩),.bool q.d] 78)).grown ae tG.out).cell 0;have oe:=CS dh;have uo:=CS ae;have fq:=CS bF;clear dh ae bF lA);(try go_simp);refine hK _ _ ?_;clear hK K)
    |(go_simp;refine hK _ _ ?_;clear hK K)
end Go.Proofs.YtfafilmklhnngaaGreatDoor
namespace Go.Proofs.YtfafilmklhnngaaGreatDoor
open Go.RowKit Lx Tx Go.Maps Go.WideMaps
set_option maxRecDepth 100000
def zay:List Nat->List Nat->List Eqn
 |a::r,b::s=>⟨a,b,false⟩::zay r s
 |_,_=>[]
theorem zcP:(l r:List Nat)->l.length=r.length->(zay l r).length=l.length
 |[],[],_=>rfl
 |a::l,b::r,h=>by simp[zay,zcP l r (by simpa using h)]
 |[],_::_,h=>by simp at h
 |_::_,[],h=>by simp at h
theorem ziS:(l r:List Nat)->(i a b:Nat)->l[i]?=some a->r[i]?=some b->(zay l r)[i]?=some ⟨a,b,false⟩
 |[],_,i,a,b,h,_=>by simp at h
 |_::_,[],i,a,b,_,h=>by simp at h
 |x::l,y::r,0,a,b,h,k=>by simp at h k;simp[zay,h,k]
 |x::l,y::r,i+1,a,b,h,k=>by
  simp only[zay,Ce]at h k ⊢;exact ziS l r i a b h k
theorem zkZ {α:Type}(l:List α)(i:Nat)(q:α)(h:l[i]?=some q):l.take (i+1)=l.take i++[q]:=by
 rw[B8,h];rfl
def HeadPr(w:World)(l r:List Nat)(n gg:Nat)(v vi:Value)(wr:World):Prop :=
 ∃i:Nat,gg=n-i/\vi=.int .i64 i/\i<=n/\wr.ownsRow w.heap.size 78 3 v i (eqCells ((zay l r).take i))/\Below w.heap.size w wr
theorem ziT(p q:Nat)(x y:Nd)(d e:Dy)(w:World)(hp:PartC w p x d)(hq:PartC w q y e)(hl:x.kids.length=y.kids.length)(hm:x.kids.length<=1000000):Calls Tryz.prog 74 #[.pointer (some ⟨p,0,none⟩),.pointer (some ⟨q,0,none⟩)] w λr w'=>∃g c,r=.returned (.slice (some ⟨g,0,none⟩) (x.kids.length+1) c)/\Below w.heap.size w w' /\
   w'.ownsRow w.heap.size 78 3 (.slice (some ⟨g,0,none⟩) (x.kids.length+1) c) (x.kids.length+1) (eqCells (zay x.kids y.kids++[⟨p,q,true⟩])):=by
 obtain⟨A,c,-,-,-,p4,-,-,hr⟩:=hp.facts;obtain⟨B,c',-,-,-,q4,-,-,hs⟩:=hq.facts;have cS:=hp.lt;have iW:=hq.lt;obtain⟨i0,bm,bO,bD,bj⟩:=info_parts infoEq;obtain⟨kx,nx,zx,lx,cx,wx⟩:=x;obtain⟨ky,ny,zy,ly,cy,wy⟩:=y;simp only at p4 q4 hr hs hl hm ⊢;have HP:=CS hp;have HQ:=CS hq;clear hp hq;have hpn:=zcP lx ly hl;obtain⟨m,dY⟩:∃m,lx.length=m:=⟨_,rfl⟩;rw[<-hl]at q4
 rw[dY]at p4 q4 hm hpn ⊢
 have hlm:ly.length=m:=by omega
 have HX:Hid (∀i a,lx[i]?=some a->A=some ⟨d.row,0,none⟩/\d.row<w.heap.size/\w.cell? ⟨d.row,i,none⟩=some (PK a)):=CS λi a ha=>by
  obtain⟨h1,cur,h2,h3⟩:=hr (λh=>by rw[h]at ha;simp at ha);exact⟨h1,(Aj.1 h2).1,(cell_of_row w d.row i cur _ (0,0) h2).trans (h3 i a ha)⟩
 have HY:Hid (∀i a,ly[i]?=some a->B=some ⟨e.row,0,none⟩/\e.row<w.heap.size/\w.cell? ⟨e.row,i,none⟩=some (PK a)):=CS λi a ha=>by
  obtain⟨h1,cur,h2,h3⟩:=hs (λh=>by rw[h]at ha;simp at ha);exact⟨h1,(Aj.1 h2).1,(cell_of_row w e.row i cur _ (0,0) h2).trans (h3 i a ha)⟩
 have HM:=CS dY;have HLM:=CS hlm;have HPN:=CS hpn;clear hr hs hl dY hlm hpn;go_enter Tryz.func74,Tryz.ntmps74
 go_wp2_with fail
 go_loopg [5,13] m (λgg v vi wr=>HeadPr w lx ly m gg v vi wr)
 case atStart=>exact⟨0,rfl,rfl,AV _,World.ownsRow_nil _ _ _ _,Below.refl _ _⟩
 case round =>
  obtain⟨i,rfl,rfl,hi,ai,hb⟩:=hrel;obtain⟨Al,cl,rfl⟩:=zam ai;have hsw:=hb.size;have ay:=CS ai;have HB:=CS hb;have hplr:p<wr.heap.size:=by omega
  have hqlr:q<wr.heap.size:=by omega
  by_cases ah:i<m
  ·obtain⟨a,ha⟩:∃a,lx[i]?=some a:=⟨_,Ak (by rw[HM.out];exact ah)⟩
   obtain⟨b,gL⟩:∃b,ly[i]?=some b:=⟨_,Ak (by rw[HLM.out];exact ah)⟩;obtain⟨rfl,uO,o7⟩:=HX.out i a ha;obtain⟨rfl,jK,ku⟩:=HY.out i b gL;have e0:wr.cell? ⟨d.row,i,none⟩=some (.pointer (some ⟨a,0,none⟩)):=(World.cell?_of_block (w:=w) (a:=⟨d.row,i,none⟩) (hb.block _ uO)).trans o7;have e1:wr.cell? ⟨e.row,i,none⟩=some (.pointer (some ⟨b,0,none⟩)):=(World.cell?_of_block (w:=w) (a:=⟨e.row,i,none⟩) (hb.block _ jK)).trans ku;have r4:wr.cell? ⟨q,4,none⟩=some (.slice (some ⟨e.row,0,none⟩) m c'):=(World.cell?_of_block (w:=w) (a:=⟨q,4,none⟩) (hb.block _ iW)).trans q4;have HPA:=CS (zkZ _ _ _ (ziS lx ly i a b ha gL));have aC:=CS ai.lt;have cG:=CS (ai.alloc (.cells #[.pointer (some ⟨a,0,none⟩),.pointer (some ⟨b,0,none⟩),.bool false] 78));skip
   clear ha gL uO o7 jK ku ai hb p4 q4;go_wp2_with (at_builtin;refine wpList_append_own_at _ rfl (.tmp 18) (.tmp 28) 74 rfl w.heap.size 78 i0 _ 3 24 Tryz.underlying74 bm bO bD bj rfl (by decide) _ i (eqCells ((zay lx ly).take i)) rfl cG.out ⟨wr.heap.size,0,none⟩ 1 1 [.pointer (some ⟨a,0,none⟩),.pointer (some ⟨b,0,none⟩),.bool false] rfl rfl (zas _ _ _ _ (by simp)) (by intro u hu;simp at hu;rcases hu with rfl|rfl|rfl <;> rfl) (by unfold maxLen;omega) (by omega) (by simp;omega) ?_;intro v2 w5 aj ae _ aS;obtain⟨A2',c2',rfl⟩:=zam aj;have cV:=CS aj;have bg:=CS ae;clear aj ae aS)
   have aP:Below w.heap.size w w5:=HB.out.trans ⟨bg.out.os,bg.out.tape,bg.out.output,by have:=bg.out.size;simp at this;omega,λk hk=>(bg.out.block k (by simp;omega) (λe=>by have:=aC.out _ e.symm;omega)).trans (Below.heap_alloc _ _ _ (by omega))⟩;have mh:=CS aP;clear aP;go_roundg (m-(i+1))
   case measure=>omega
   case rel =>
    refine⟨i+1,rfl,by go_num,by omega,?_,mh.out⟩;rw[HPA.out,zbH]
    exact cV.out
  ·have dD:i=m:=by omega
   have aU:(zay lx ly).take i=zay lx ly:=AK (by rw[HPN.out];omega);rw[aU]at ai
   have HI:=CS dD;have aC:=CS ai.lt;have cG:=CS (ai.alloc (.cells #[.pointer (some ⟨p,0,none⟩),.pointer (some ⟨q,0,none⟩),.bool true] 78));clear aU ai hb dD p4 q4;go_wp2_with (at_builtin;refine wpList_append_own_at _ rfl (.tmp 31) (.tmp 35) 74 rfl w.heap.size 78 i0 _ 3 24 Tryz.underlying74 bm bO bD bj rfl (by decide) _ i (eqCells (zay lx ly)) rfl cG.out ⟨wr.heap.size,0,none⟩ 1 1 [.pointer (some ⟨p,0,none⟩),.pointer (some ⟨q,0,none⟩),.bool true] rfl rfl (zas _ _ _ _ (by simp)) (by intro u hu;simp at hu;rcases hu with rfl|rfl|rfl <;> rfl) (by unfold maxLen;omega) (by omega) (by simp;omega) ?_;intro v2 w5 aj ae _ aS;have cV:=CS aj;have bg:=CS ae;clear aj ae aS)
   have aP:Below w.heap.size w w5:=HB.out.trans ⟨bg.out.os,bg.out.tape,bg.out.output,by have:=bg.out.size;simp at this;omega,λk hk=>(bg.out.block k (by simp;omega) (λe=>by have:=aC.out _ e.symm;omega)).trans (Below.heap_alloc _ _ _ (by omega))⟩;have mh:=CS aP;clear aP;go_ret
   rcases cV.out.2 with⟨_,h0⟩|⟨g,cap,cur,hv,_⟩
   ·omega
   ·rw[<-HI.out]
    refine⟨g,cap,by rw[hv];rfl,mh.out,?_⟩;rw[zbH,<-hv]
    exact cV.out
end Go.Proofs.YtfafilmklhnngaaGreatDoor
namespace Go.Proofs.YtfafilmklhnngaaGreatDoor
open Go.RowKit Lx Tx Go.Maps Go.WideMaps
set_option maxRecDepth 100000
theorem zgl {w:World} {B g c n:Nat} {ids:List Eqn}(h:w.ownsRow B 78 3 (.slice (some ⟨g,0,none⟩) n c) n (eqCells ids)):B<=g/\g<w.heap.size/\∀(j:Nat) (q:Eqn),ids[j]?=some q->w.cell? ⟨g,j*3,none⟩=some (.pointer (some ⟨q.l,0,none⟩))/\w.cell? ⟨g,j*3+1,none⟩=some (.pointer (some ⟨q.r,0,none⟩))/\w.cell? ⟨g,j*3+2,none⟩=some (.bool q.d):=by
 obtain⟨h0,⟨hv,_⟩|⟨g',cap,cur,hv,h1,h2,h3,h4,h5,h6⟩⟩:=h
 ·cases hv
 ·injection hv with e1 _ e2
  injection e1 with e1;injection e1 with e1;subst e1;refine⟨h1,(Aj.1 h2).1,λj q hq=>?_⟩;obtain⟨a1,a2,a3⟩:=zgj ids j q hq;have hj:j<ids.length:=(Aw.1 hq).1;have hn:(eqCells ids).length=ids.length*3:=zcz ids;have get:∀(k:Nat) (z:Value),k<n*3->(eqCells ids)[k]?=some z->w.cell? ⟨g,k,none⟩=some z:=λk z hk hz=>by
   rw[cell_of_row w g k cur _ (0,0) h2]
   rw[<-h6,List.getElem?_take,Aq hk,BC]at hz
   exact hz
  exact⟨get _ _ (by omega) a1,get _ _ (by omega) a2,get _ _ (by omega) a3⟩
theorem zfJ {x y:Nd}(h:fitB x y=true):x.kids.length=y.kids.length:=by
 unfold fitB at h;simp only[CE,CF]at h;exact h.1.1.2
def WkP(b mk B:Nat)(c0 c1 c2 c4:Value)(G:Nat->Option Nd)(D:Nat->Dy)(hd:Nat->Nat)(stk:List Eqn)(w w':World):Prop :=
 ∃v',Blk w' b 85 #[v',c1,c2,.map (some mk),c4]/\w'.ownsRow B 78 3 v' stk.length (eqCells stk)/\(∃K',Knw w' mk K' hd)/\PartsD w' G D/\Chg (λk=>k=mk\/k=b\/c0.ownBlock=some k) w w'
theorem zog(b mk ql qr:Nat)(c4:Value)(c0 c1 c2:Value)(K:Nat->Option Nat)(hd:Nat->Nat)(w:World)
  (hb:Blk w b 85 #[c0,c1,c2,.map (some mk),c4])(hk:Knw w mk K hd)(hl:LaidQ w ql)(hr:LaidQ w qr)(ig:LaidQ w (hd ql))(ie:LaidQ w (hd qr))(G:Nat->Option Nd)(D:Nat->Dy)(bB:PartsD w G D)(x y:Nd)(hx:G (hd ql)=some x)(hy:G (hd qr)=some y)(af:hd ql≠hd qr)(hm:x.kd≠2/\y.kd≠2/\x.kd≠5)(fW:fitB x y=true)(B:Nat)(stk:List Eqn)(hB:B<=w.heap.size)(ho:w.ownsRow B 78 3 c0 stk.length (eqCells stk))(hn:stk.length+x.kids.length+1<=1000000):Calls Tryz.prog 36 #[.pointer (some ⟨b,0,none⟩),.agg #[.pointer (some ⟨ql,0,none⟩),.pointer (some ⟨qr,0,none⟩),.bool false]] w λr w'=>r=.returned (.int .i64 0)/\WkP b mk B c0 c1 c2 c4 G D hd (stk++(zay x.kids y.kids++[(⟨hd ql,hd qr,true⟩:Eqn)]).reverse) w w':=by
 have cH:=CS af;have rU:Hid (hd (hd ql)=hd ql/\hd (hd qr)=hd qr):=CS ⟨hk.idem _,hk.idem _⟩;have tW:=CS bB;have bK:Hid (∀(g:Nat) (cs:Array Value) (t:TypeId),w.heap[g]?=some (.cells cs t (0,0))->¬only mk g):=CS λg cs t hg e=>by
  have e:g=mk:=e;rw[e]at hg
  exact MapK.no hk.mp hg
 have HX:=CS hx;have HY:=CS hy;have HM:=CS hm;have rW:=CS fW;have HO:=CS ho;have qD:=CS hB;have HN:=CS hn;clear hm fW ho hB hn;clear af bB hx hy;have dL:mk<w.heap.size:=MapK.lt hk.mp;have h1:WkI b w.heap.size mk ql qr false c0 c1 c2 c4 hd w (w.alloc (.cells #[.pointer (some ⟨ql,0,none⟩),.pointer (some ⟨qr,0,none⟩),.bool false] 78)):=by
  have cL:∀g,g<w.heap.size->(w.alloc (.cells #[.pointer (some ⟨ql,0,none⟩),.pointer (some ⟨qr,0,none⟩),.bool false] 78)).heap[g]?=w.heap[g]?:=λg hg=>Below.heap_alloc _ _ _ hg;have bC:∀x,LaidQ w x->LaidQ (w.alloc (.cells #[.pointer (some ⟨ql,0,none⟩),.pointer (some ⟨qr,0,none⟩),.bool false] 78)) x:=λx ⟨cs,hx⟩=>⟨cs,(cL x (Aj.1 hx).1).trans hx⟩;exact⟨hb.alloc _,heap_alloc_new _ _,⟨K,hk.keep (cL _ dL) bC⟩,bC _ hl,bC _ hr,bC _ ig,bC _ ie,(Chg.refl _ _).alloc _⟩
 obtain⟨w1,bU⟩:∃W,w.alloc (.cells #[.pointer (some ⟨ql,0,none⟩),.pointer (some ⟨qr,0,none⟩),.bool false] 78)=W:=⟨_,rfl⟩;rw[bU]at h1
 obtain⟨z0,z1,z2,zl⟩:=h1.drew.facts;have eU:=CS (h1.drew.head ql h1.ll);have dT:=CS (h1.drew.head qr h1.lr);have eI:=CS bU;clear hb hk hl hr ig ie dL h1 bU;go_enter Tryz.func36,Tryz.ntmps36
 go_upto_region 1 with fail
 rw[eI.out]
 go_cut [5,6] from 7 to 14 (λv5 v6 wx=>v5=.pointer (some ⟨hd ql,0,none⟩)/\v6=.pointer (some ⟨hd qr,0,none⟩)/\Hid (WkI b w.heap.size mk ql qr false c0 c1 c2 c4 hd w wx))
 case first =>
  go_region_law (first
   |(go_simp;(with_reducible refine eU.out.mono ?_);rintro r w5 ⟨rfl,bd⟩;obtain⟨y0,y1,y2,yl⟩:=bd.facts;have fC:=CS (bd.head qr bd.lr);clear bd)
   |(go_simp;(with_reducible refine dT.out.mono ?_);rintro r w5 ⟨rfl,bd⟩;obtain⟨y0,y1,y2,yl⟩:=bd.facts;have oi:=CS (bd.head ql bd.ll);clear bd)
   |(go_simp;(with_reducible refine fC.out.mono ?_);rintro r w6 ⟨rfl,bL⟩;obtain⟨x0,x1,x2,xl⟩:=bL.facts;have ix:=CS bL;clear bL)
   |(go_simp;(with_reducible refine oi.out.mono ?_);rintro r w6 ⟨rfl,bL⟩;obtain⟨x0,x1,x2,xl⟩:=bL.facts;have ix:=CS bL;clear bL))
  all_goals
   go_wp2_with fail
   go_meet
   case rel=>exact⟨rfl,rfl,ix⟩
 case rest =>
  rename World=>V0;obtain⟨rfl,rfl,hw⟩:=hcut;have bh:=hw.out;have heq:=zct bh.hl bh.hr;rw[AQ cH.out]at heq
  obtain⟨K5,aO⟩:=bh.kn;obtain⟨z0,z1,z2,zl⟩:=bh.facts;have aV:PartsD V0 G D:=tW.out.same λk hk ⟨cs,t,hx⟩=>bh.ch.block k hk (bK.out k cs t hx);obtain⟨A1,cc1,p0,-,-,-,-,-,-⟩:=(aV _ x HX.out).facts;obtain⟨A2,cc2,q0,-,-,-,-,-,-⟩:=(aV _ y HY.out).facts;have lp:=(aV _ x HX.out).lt;have lq:=(aV _ y HY.out).lt;obtain⟨kx,cO⟩:∃k,x.kd=k:=⟨_,rfl⟩;obtain⟨ky,ji⟩:∃k,y.kd=k:=⟨_,rfl⟩;rw[cO]at p0
  rw[ji]at q0
  have fW:=zgP (hd ql) (hd qr) x y _ _ V0 (aV _ x HX.out) (aV _ y HY.out);rw[rW.out]at fW
  have rX:=CS fW;have fB:=CS bh;have zt:=CS aV;have iQ:=CS aO;have hm:=HM.out;rw[cO,ji]at hm
  have e2:((kx:Int)==2)=false:=by rw[AG];intro e;simp at e;omega
  have e3:((ky:Int)==2)=false:=by rw[AG];intro e;simp at e;omega
  have e5:((kx:Int)==5)=false:=by rw[AG];intro e;simp at e;omega
  have zK:=CS cO;clear fW bh aO aV hw eU dT cO ji hm;go_wp2_with fail
  refine rX.out.mono ?_;rintro e wf ⟨rfl,fg,hsf⟩;have cJ:PartsD wf G D:=zt.out.same λk hk _=>fg.block k hk;obtain⟨A3,cc3,r0,-,-,-,-,-,-⟩:=(cJ _ x HX.out).facts;rw[zK.out]at r0
  have lp3:=(cJ _ x HX.out).lt;have HBF:=CS fg;have HPF:=CS cJ;have iq:=zfJ rW.out;have eX:=ziT (hd ql) (hd qr) x y (D _) (D _) wf.drew (PartC.keep (cJ _ x HX.out) rfl (λ_=>rfl)) (PartC.keep (cJ _ y HY.out) rfl (λ_=>rfl)) iq (by have:=HN.out;omega);have HPR:=CS eX;have oy:Blk wf b 85 #[c0,c1,c2,.map (some mk),c4]:=fB.out.sb.below fg fB.out.sb.lt;have lbf:=oy.lt;have mM:wf.ownsRow B 78 3 c0 stk.length (eqCells stk):=zan HO.out (λg hg=>by
   obtain⟨_,hl,cur,aa⟩:=zab HO.out g hg;have h0:=fB.out.ch.block g hl (bK.out g cur _ aa);exact(fg.block g (As hl fB.out.ch.size)).trans h0)
  have sj:w.heap.size<=wf.heap.size:=AB fB.out.ch.size fg.size;have dA:Hid (∀(g c:Nat) (w5:World),Below wf.drew.heap.size wf.drew w5->w5.ownsRow wf.drew.heap.size 78 3 (.slice (some ⟨g,0,none⟩) (x.kids.length+1) c) (x.kids.length+1) (eqCells (zay x.kids y.kids++[(⟨hd ql,hd qr,true⟩:Eqn)])) ->
    Calls Tryz.prog 34 #[.pointer (some ⟨b,0,none⟩),.slice (some ⟨g,0,none⟩) (x.kids.length+1) c] w5 λe w'=>(∃z,e=.returned z)/\WkP b mk B c0 c1 c2 c4 G D hd (stk++(zay x.kids y.kids++[(⟨hd ql,hd qr,true⟩:Eqn)]).reverse) w w'):=CS (by
   intro g c w5 aP gW;obtain⟨aY,iK,fX⟩:=zgl gW;have cM:Below wf.heap.size wf w5:=⟨aP.os,aP.tape,aP.output,aP.size,aP.block⟩;have hg1':wf.heap.size<=g:=aY;have hlen:(zay x.kids y.kids++[(⟨hd ql,hd qr,true⟩:Eqn)]).length=x.kids.length+1:=by rw[Ap,zcP _ _ iq];rfl
   have iY:w5.ownsRow B 78 3 c0 stk.length (eqCells stk):=zan mM (λk hk=>cM.block k (zab mM k hk).2.1);have pg:c0.ownBlock≠some b:=λe=>by
    obtain⟨_,_,cur,aa⟩:=zab mM b e;exact Blk.ne_ (show Blk wf b _ cur from aa) oy (by decide) rfl
   have vP:=oy.below cM lbf;have bS:=zgO b B 85 #[c0,c1,c2,.map (some mk),c4] (by simp) stk (zay x.kids y.kids++[(⟨hd ql,hd qr,true⟩:Eqn)]) c0 (some ⟨g,0,none⟩) c w5 vP iY (by have:=qD.out;have:=cM.size;omega) pg (by rw[hlen];have:=HN.out;omega) (λj q hq=>⟨g,rfl,iK,by omega,λe=>by have:=(zab mM g e).2.1;omega,fX j q hq⟩);rw[hlen]at bS
   refine bS.mono ?_;rintro e w' ⟨hz,v',d1,d2,-,-,-,d6⟩;have s6:Chg (λk=>k=mk\/k=b\/c0.ownBlock=some k) w w':=(((fB.out.ch.mono (λ_ _ h=>.inl h)).below fg).below cM).trans' d6 (λk _ h=>.inr h);have iZ:∀(k:Nat) (cs:Array Value) (t:TypeId),w5.heap[k]?=some (.cells cs t (0,0))->t≠85->t≠78->w'.heap[k]?=w5.heap[k]?:=λk cs t hk iG si=>d6.block k (Aj.1 hk).1 (λh=>by
    rcases h with h|h
    ·exact Blk.ne_ (show Blk w5 k t cs from hk) vP iG h
    ·obtain⟨_,_,cur,aa⟩:=zab iY k h
     exact Blk.ne_ (show Blk w5 k t cs from hk) (show Blk w5 k _ cur from aa) si rfl)
   have e7:mk<wf.heap.size:=As (MapK.lt iQ.out.mp) fg.size;have mS:w5.heap[mk]?=V0.heap[mk]?:=(cM.block mk e7).trans (fg.block mk (MapK.lt iQ.out.mp));have sJ:w'.heap[mk]?=w5.heap[mk]?:=d6.block mk (As e7 cM.size) (λh=>by
    rcases h with h|h
    ·have h1:=fB.out.sb
     rw[<-h]at h1
     exact MapK.no iQ.out.mp h1
    ·obtain⟨_,_,cur,aa⟩:=zab iY mk h
     rw[mS]at aa
     exact MapK.no iQ.out.mp aa)
   refine⟨hz,v',d1,d2,⟨K5,iQ.out.keep (sJ.trans mS) (λz ⟨cs,uL⟩=>?_)⟩,?_,s6⟩
   ·have h5:w5.heap[z]?=some (.cells cs 132 (0,0)):=((cM.block z (As (Aj.1 uL).1 fg.size)).trans (fg.block z (Aj.1 uL).1)).trans uL
    exact⟨cs,(iZ z cs _ h5 (by decide) (by decide)).trans h5⟩
   ·intro z nd bj
    have h5:PartC w5 z nd (D z):=(cJ z nd bj).keep (cM.block z (cJ z nd bj).lt) (λhk=>cM.block _ ((cJ z nd bj).row_lt hk));obtain⟨A7,c7,ef,wS⟩:=h5;refine PartC.keep ⟨A7,c7,ef,wS⟩ (iZ z _ _ ef (by decide) (by decide)) (λhk=>?_);obtain⟨_,cur,aa,_⟩:=wS hk;exact iZ _ cur _ aa (by decide) (by decide))
  clear iq fg hsf cJ eX oy mM sj rX p0 q0 lp lq z0 z1 z2 zl fB zt iQ;go_upto_region 13 with fail
  go_region_law (first
   |(go_simp;(with_reducible refine HPR.out.mono ?_);rintro e w5 ⟨g,c,rfl,h5,gW⟩;have HLA:=CS (dA.out g c w5 h5 gW);clear h5 gW)
   |(go_simp;(with_reducible refine HLA.out.mono ?_);rintro e w6 ⟨⟨zz,rfl⟩,hl6⟩;have HL6:=CS hl6;clear hl6))
  all_goals
   go_wp2_with fail
   go_ret
   exact⟨rfl,HL6.out⟩
end Go.Proofs.YtfafilmklhnngaaGreatDoor
namespace Go.Proofs.YtfafilmklhnngaaGreatDoor
open Lx Tx
set_option maxRecDepth 100000
def kdD:Dt->Nat
 |.fv _=>1
 |.bv _=>1
 |.mt _=>2
 |.con _ _=>3
 |.fn _ _=>4
 |.all _=>5
def nmD:Dt->ByteArray
 |.con c _=>⟨c.toArray⟩
 |_=>⟨#[]⟩
def zai:Dt->List Dt
 |.con _ l=>l
 |.fn a b=>[a,b]
 |.all t=>[t]
 |_=>[]
def App(d:Dt):Prop:=kdD d=3\/kdD d=4
theorem zc0 {d:Dt}(h:App d):Plain d↔∀u∈zai d,Plain u:=by
 cases d <;> simp[App,kdD]at h
 ·exact zdE _ _
 ·rw[plain_fn,zai];simp
theorem App.ap {d:Dt}(h:App d)(k:Sb):App (Tx.ap k d)/\kdD (Tx.ap k d)=kdD d/\nmD (Tx.ap k d)=nmD d/\zai (Tx.ap k d)=(zai d).map (Tx.ap k):=by
 cases d <;> simp[App,kdD]at h
 ·rw[za9,zbm];simp[App,kdD,nmD,zai]
 ·rw[zbp];simp[App,kdD,nmD,zai]
theorem App.ext {d e:Dt}(hd:App d)(hk:kdD d=kdD e)(hn:nmD d=nmD e)(hl:zai d=zai e):d=e:=by
 cases d <;> simp[App,kdD]at hd <;> cases e <;> simp[kdD]at hk
 ·simp[nmD]at hn
  simp[zai]at hl
  rw[hn,hl]
 ·simp[zai]at hl
  rw[hl.1,hl.2]
theorem App.not_bv {d:Dt}(h:App d)(i:Nat):d≠.bv i:=by rintro rfl;simp[App,kdD]at h
def ixN(c:Nat):List Nat->Option Nat
 |[]=>none
 |y::r=>if c=y then some 0 else(ixN c r).map (· + 1)
theorem zgV(c:Nat):(l:List Nat)->(i:Nat)->ixN c l=some i->l[i]?=some c
 |[],i,h=>by cases h
 |y::r,i,h=>by
  rw[ixN]at h
  by_cases e:c=y
  ·rw[Aq e]at h;injection h with h;subst h;rw[e];rfl
  ·rw[Am e]at h
   cases hr:ixN c r with
   |none=>rw[hr]at h;cases h
   |some j=>rw[hr]at h;injection h with h;subst h;exact zgV c r j hr
theorem zfk(c:Nat):(l:List Nat)->l.Nodup->(i:Nat)->l[i]?=some c->ixN c l=some i
 |[],_,i,h=>by simp at h
 |y::r,hn,0,h=>by
  simp at h;rw[ixN,Aq h.symm]
 |y::r,hn,i+1,h=>by
  rw[A6]at hn
  simp at h;have hm:c∈r:=AX h;rw[ixN,Am (λe:c=y=>hn.1 (by rw[<-e];exact hm)),zfk c r hn.2 i h]
  rfl
noncomputable def pn (d:Dt)(p:Nat):List Nat:=by classical exact if Plain d then[] else[p]
theorem zew {d:Dt}(h:Plain d)(p:Nat):pn d p=[]:=by unfold pn;rw[Aq h]
theorem zcQ {d:Dt}(h:¬Plain d)(p:Nat):pn d p=[p]:=by unfold pn;rw[Am h]
inductive Tr (G:Nat->Option Nd):List Nat->Nat->Dt->List Nat->Prop
 |fv (env:List Nat) (p:Nat) (x:Name):G p=some ⟨1,⟨x.toArray⟩,0,[],none,false⟩->Tr G env p (.fv x) []
 |bv (env:List Nat) (p:Nat) (nm:ByteArray) (i:Nat):G p=some ⟨1,nm,0,[],none,true⟩->ixN p env=some i->Tr G env p (.bv i) []
 |mt (env:List Nat) (p n:Nat):G p=some ⟨2,⟨#[]⟩,n,[],none,false⟩->Tr G env p (.mt n) []
 |app (env:List Nat) (p:Nat) (d:Dt) (ps:List Nat) (aN:List (List Nat)):App d->G p=some ⟨kdD d,nmD d,0,ps,none,false⟩->ps.length=(zai d).length->aN.length=(zai d).length ->
   (∀(i q:Nat)(u:Dt)(ns:List Nat),ps[i]?=some q->(zai d)[i]?=some u->aN[i]?=some ns->Tr G env q u ns)->Tr G env p d (pn d p++aN.flatten)
 |all (env:List Nat) (p:Nat) (x:ByteArray) (t:Dt) (q c:Nat) (ns:List Nat):G p=some ⟨5,x,0,[q],some c,false⟩->(∃nm,G c=some ⟨1,nm,0,[],none,true⟩)->Tr G (c::env) q t ns->Tr G env p (.all t) (p::c::ns)
theorem Tr.plain {G:Nat->Option Nd} {env:List Nat} {p:Nat} {d:Dt} {ns:List Nat}(h:Tr G env p d ns):Plain d->ns=[]/\∀bA,Tr G bA p d []:=by
 induction h with
 |fv env p x h=>exact λ_=>⟨rfl,λe=>.fv e p x h⟩
 |bv env p nm i h _=>exact λhp=>absurd hp (zaL i)
 |mt env p n h=>exact λ_=>⟨rfl,λe=>.mt e p n h⟩
 |app env p d ps aN ha hG h1 h2 h3 ih =>
  intro hp;have hk:=(zc0 ha).1 hp;have aL:∀ns∈aN,ns=[]:=by
   intro ns kN;obtain⟨i,hi,rfl⟩:=AS.1 kN;have eN:i<ps.length:=by omega
   have jV:i<(zai d).length:=by omega
   exact(ih i _ _ _ (Ak eN) (Ak jV) (Ak hi) (hk _ (Bd jV))).1
  have pT:aN.flatten=[]:=by rw[List.flatten_eq_nil_iff];exact aL
  refine⟨by rw[zew hp,pT];rfl,λe=>?_⟩;have:=Tr.app (G:=G) e p d ps aN ha hG h1 h2 (λi q u ns a b c=>by
   have h4:=ih i q u ns a b c (hk _ (AX b));rw[aL ns (AX c)]
   exact h4.2 e)
  rw[zew hp,pT]at this
  exact this
 |all env p x t q c ns _ _ _ _=>exact λhp=>absurd hp (zaK t)
theorem Tr.det {G:Nat->Option Nd} {env:List Nat} {p:Nat} {d:Dt} {ns:List Nat}(h:Tr G env p d ns):Plain d->∀ {bA:List Nat} {d':Dt} {cW:List Nat},Tr G bA p d' cW->d'=d:=by
 induction h with
 |fv env p x h =>
  intro _ bA d' cW h';cases h' with
  |fv _ _ y hy=>rw[h]at hy;simp at hy;rw[hy]
  |bv _ _ _ _ hy _=>rw[h]at hy;simp at hy
  |mt _ _ _ hy=>rw[h]at hy;simp at hy
  |app _ _ _ _ _ ha hy _ _ _=>rw[h]at hy;simp at hy;rcases ha with e|e <;> omega
  |all _ _ _ _ _ _ _ hy _ _=>rw[h]at hy;simp at hy
 |bv env p nm i h _=>exact λhp=>absurd hp (zaL i)
 |mt env p n h =>
  intro _ bA d' cW h';cases h' with
  |fv _ _ y hy=>rw[h]at hy;simp at hy
  |bv _ _ _ _ hy _=>rw[h]at hy;simp at hy
  |mt _ _ _ hy=>rw[h]at hy;simp at hy;rw[hy]
  |app _ _ _ _ _ ha hy _ _ _=>rw[h]at hy;simp at hy;rcases ha with e|e <;> omega
  |all _ _ _ _ _ _ _ hy _ _=>rw[h]at hy;simp at hy
 |app env p d ps aN ha hG h1 h2 h3 ih =>
  intro hp bA d' cW h';have hk:=(zc0 ha).1 hp;cases h' with
  |fv _ _ y hy=>rw[hG]at hy;simp at hy;rcases ha with e|e <;> omega
  |bv _ _ _ _ hy _=>rw[hG]at hy;simp at hy
  |mt _ _ _ hy=>rw[hG]at hy;simp at hy;rcases ha with e|e <;> omega
  |all _ _ _ _ _ _ _ hy _ _=>rw[hG]at hy;simp at hy
  |app _ _ _ ps' dN bP hy g1 g2 g3 =>
   rw[hG]at hy
   simp at hy;obtain⟨e1,e2,rfl⟩:=hy;refine(App.ext ha e1 e2 ?_).symm;refine CC (by omega) λi i1 i2=>?_;exact(ih i _ _ _ (Ak (by omega)) (Ak i1) (Ak (by omega)) (hk _ (Bd i1)) (g3 i _ _ _ (Ak (by omega)) (Ak i2) (Ak (by omega)))).symm
 |all env p x t q c ns _ _ _ _=>exact λhp=>absurd hp (zaK t)
def NonP(G:Nat->Option Nd)(p:Nat):Prop:=∀env d ns,Tr G env p d ns->¬Plain d
theorem Tr.nonP {G:Nat->Option Nd} {env:List Nat} {p:Nat} {d:Dt} {ns:List Nat}(h:Tr G env p d ns)(hd:¬Plain d):NonP G p:=λ_ _ _ h' hp=>by
 have:=h'.det hp h;rw[this]at hd
 exact hd hp
theorem zex {G:Nat->Option Nd} {c:Nat} {nm:ByteArray}(h:G c=some ⟨1,nm,0,[],none,true⟩):NonP G c:=λ_ d _ h'=>by
 cases h' with
 |fv _ _ y hy=>rw[h]at hy;simp at hy
 |bv _ _ _ i _ _=>exact zaL i
 |mt _ _ _ hy=>rw[h]at hy;simp at hy
 |app _ _ _ _ _ ha hy _ _ _=>rw[h]at hy;simp at hy
 |all _ _ _ _ _ _ _ hy _ _=>rw[h]at hy;simp at hy
theorem Tr.mem_nonP {G:Nat->Option Nd} {env:List Nat} {p:Nat} {d:Dt} {ns:List Nat}(h:Tr G env p d ns):∀x∈ns,NonP G x:=by
 induction h with
 |fv=>intro x hx;cases hx
 |bv=>intro x hx;cases hx
 |mt=>intro x hx;cases hx
 |app env p d ps aN ha hG h1 h2 h3 ih =>
  intro x hx;rcases AA.1 hx with hx|hx
  ·by_cases hp:Plain d
   ·rw[zew hp]at hx;cases hx
   ·rw[zcQ hp]at hx
    rw[AJ.1 hx]
    exact Tr.nonP (Tr.app env p d ps aN ha hG h1 h2 h3) hp
  ·obtain⟨ns,kN,hx⟩:=List.mem_flatten.1 hx
   obtain⟨i,hi,rfl⟩:=AS.1 kN;exact ih i _ _ _ (Ak (show i<ps.length by omega)) (Ak (show i<(zai d).length by omega)) (Ak hi) x hx
 |all env p x t q c ns h1 h2 h3 ih =>
  intro y hy;rcases An.1 hy with e|hy
  ·rw[e];exact Tr.nonP (Tr.all env p x t q c ns h1 h2 h3) (zaK t)
  ·rcases An.1 hy with e|hy
   ·obtain⟨nm,h2⟩:=h2;rw[e];exact zex h2
   ·exact ih y hy
theorem Tr.self_mem {G:Nat->Option Nd} {env:List Nat} {p:Nat} {d:Dt} {ns:List Nat}(h:Tr G env p d ns)(hp:¬Plain d)(hb:∀i,d≠.bv i):p∈ns:=by
 cases h with
 |fv _ _ x _=>exact absurd (zov x) hp
 |bv _ _ _ i _ _=>exact absurd rfl (hb i)
 |mt _ _ n _=>exact absurd (za5 n) hp
 |app _ _ _ _ _ _ _ _ _ _=>rw[zcQ hp];exact By _ Ay
 |all=>exact Ay
theorem Tr.node {G:Nat->Option Nd} {env:List Nat} {p:Nat} {d:Dt} {ns:List Nat}(h:Tr G env p d ns):∃x,G p=some x/\x.kd=kdD d/\x.kids.length=(zai d).length/\(App d->x.nm=nmD d)/\(∀n,d=.mt n->x.n=n)/\(x.new=true↔∃i,d=.bv i):=by
 cases h with
 |fv _ _ x h=>exact⟨_,h,rfl,rfl,(λh=>by simp[App,kdD]at h),(λn h=>by cases h),by simp⟩
 |bv _ _ nm i h _=>exact⟨_,h,rfl,rfl,(λh=>by simp[App,kdD]at h),(λn h=>by cases h),by simp⟩
 |mt _ _ n h=>exact⟨_,h,rfl,rfl,(λh=>by simp[App,kdD]at h),(λm h=>by injection h),by simp⟩
 |app _ _ _ ps _ ha h h1 _ _ =>
  refine⟨_,h,rfl,h1,(λ_=>rfl),(λn e=>by subst e;simp[App,kdD]at ha),?_⟩;constructor
  ·intro e;simp at e
  ·rintro⟨i,e⟩;exact absurd e (ha.not_bv i)
 |all _ _ _ _ _ _ _ h _ _=>exact⟨_,h,rfl,rfl,(λh=>by simp[App,kdD]at h),(λn h=>by cases h),by simp⟩
structure GrS (G:Nat->Option Nd):Prop where
 uu:∀p q n,G p=some ⟨2,⟨#[]⟩,n,[],none,false⟩->G q=some ⟨2,⟨#[]⟩,n,[],none,false⟩->p=q
 vv:∀p q x,G p=some ⟨1,x,0,[],none,false⟩->G q=some ⟨1,x,0,[],none,false⟩->p=q
structure HdS (G:Nat->Option Nd) (L:List Nat) (hd:Nat->Nat) (k:Sb) (Ns O:List Nat):Prop where
 gr:Gr G hd L
 pl:∀p d,Tr G [] p d []->Plain d->∃d',Tr G [] (hd p) d' []/\Plain d'/\ap k d=ap k d'
 un:∀p n,G p=some ⟨2,⟨#[]⟩,n,[],none,false⟩->hd p=p->k n=.mt n
 nd:Ns.Nodup
 nh:∀x∈Ns,hd x=x
 np:∀x∈Ns,NonP G x
 oc:∀c∈O,(∃nm,G c=some ⟨1,nm,0,[],none,true⟩)/\c∉Ns
 ki:Idem k
 kp:∀n,Plain (k n)
structure EnvOK (hd:Nat->Nat) (O el er:List Nat):Prop where
 len:el.length=er.length
 nd:er.Nodup
 lo:∀c∈el,c∈O
 ro:∀c∈er,c∈O
 lk:∀(i a b:Nat),el[i]?=some a->er[i]?=some b->hd a=b/\hd b=b
theorem zgW {hd:Nat->Nat} {m t p:Nat}(ht:hd t=t)(h:hdL hd m t p=p):hd p=p:=by
 unfold hdL at h;by_cases e:hd p=m
 ·rw[Aq e]at h;subst h;exact ht
 ·rw[Am e]at h;exact h
theorem zoA {hd:Nat->Nat} {m t:Nat}(hi:∀q,hd (hd q)=hd q)(ht:hd t=t)(fU:m≠t)(p:Nat):hdL hd m t (hdL hd m t p)=hdL hd m t p:=by
 unfold hdL;by_cases e:hd p=m
 ·rw[Aq e,ht,Am (Cw fU)]
 ·rw[Am e,hi,Am e]
theorem zbB {hd:Nat->Nat} {m t p:Nat}(h:hd p≠m):hdL hd m t p=hd p:=Am h
theorem zc6 {hd:Nat->Nat} {m t p:Nat}(h:hd p=m):hdL hd m t p=t:=Aq h
theorem Gr.link {G:Nat->Option Nd} {hd:Nat->Nat} {L:List Nat}(h:Gr G hd L) {m t:Nat}(ht:hd t=t)(fU:m≠t) {y:Nd}(hy:G t=some y):Gr G (hdL hd m t) L where
 kin:=h.kin
 hin q x hx:=by
  by_cases e:hd q=m
  ·rw[zc6 e];exact⟨y,hy⟩
  ·rw[zbB e];exact h.hin q x hx
 idm:=zoA h.idm ht fU
 all:=h.all
theorem EnvOK.link {hd:Nat->Nat} {O O' el er:List Nat}(h:EnvOK hd O el er) {m t:Nat}(hm:m∉O)(hO:∀c∈O,c∈O'):EnvOK (hdL hd m t) O' el er where
 len:=h.len
 nd:=h.nd
 lo c hc:=hO c (h.lo c hc)
 ro c hc:=hO c (h.ro c hc)
 lk i a b ha hb:=by
  obtain⟨h1,h2⟩:=h.lk i a b ha hb;have rC:b≠m:=λe=>hm (e▸h.ro b (AX hb));refine⟨?_,?_⟩
  ·rw[zbB (by rw[h1];exact rC)];exact h1
  ·rw[zbB (by rw[h2];exact rC)];exact h2
def EntOK(G:Nat->Option Nd)(hd:Nat->Nat)(O:List Nat):(Sb->Prop)->List Eqn->List (Dt × Dt)->List Nat->Prop
 |_,[],E,Ns=>E=[]/\Ns=[]
 |A,q::r,E,Ns=>∃el er dl dr nl nr,EnvOK hd O el er/\Tr G el q.l dl nl/\Tr G er q.r dr nr /\
   ((q.d=false/\∃E' N',E=(dl,dr)::E'/\Ns=nl++nr++N'/\EntOK G hd O (λs=>A s/\ap s dl=ap s dr) r E' N') \/
    (q.d=true/\(∀s,A s->ap s dl=ap s dr)/\∃N',Ns=pn dl q.l++pn dr q.r++N'/\EntOK G hd O A r E N'))
theorem EntOK.mono {G:Nat->Option Nd} {hd:Nat->Nat} {O:List Nat} :(l:List Eqn)->∀ {A A':Sb->Prop} {E:List (Dt × Dt)} {Ns:List Nat},EntOK G hd O A l E Ns->(∀s,A' s->A s)->EntOK G hd O A' l E Ns
 |[],_,_,_,_,h,_=>by rw[EntOK]at h ⊢;exact h
 |q::r,A,A',E,Ns,h,hA=>by
  rw[EntOK]at h ⊢
  obtain⟨el,er,dl,dr,nl,nr,h1,h2,h3,h4⟩:=h;refine⟨el,er,dl,dr,nl,nr,h1,h2,h3,?_⟩;rcases h4 with⟨a,E',N',b,c,d⟩|⟨a,b,N',c,d⟩
  ·exact .inl ⟨a,E',N',b,c,EntOK.mono r d λs hs=>⟨hA s hs.1,hs.2⟩⟩
  ·exact .inr ⟨a,λs hs=>b s (hA s hs),N',c,EntOK.mono r d hA⟩
theorem EntOK.link {G:Nat->Option Nd} {hd:Nat->Nat} {O O':List Nat} {m t:Nat}(hm:m∉O)(hO:∀c∈O,c∈O'):(l:List Eqn)->∀ {A:Sb->Prop} {E:List (Dt × Dt)} {Ns:List Nat},EntOK G hd O A l E Ns->EntOK G (hdL hd m t) O' A l E Ns
 |[],_,_,_,h=>by rw[EntOK]at h ⊢;exact h
 |q::r,A,E,Ns,h=>by
  rw[EntOK]at h ⊢
  obtain⟨el,er,dl,dr,nl,nr,h1,h2,h3,h4⟩:=h;refine⟨el,er,dl,dr,nl,nr,h1.link hm hO,h2,h3,?_⟩;rcases h4 with⟨a,E',N',b,c,d⟩|⟨a,b,N',c,d⟩
  ·exact .inl ⟨a,E',N',b,c,EntOK.link hm hO r d⟩
  ·exact .inr ⟨a,b,N',c,EntOK.link hm hO r d⟩
theorem EntOK.put {G:Nat->Option Nd} {hd:Nat->Nat} {O:List Nat} :(ps qs:List Nat)->∀ {A:Sb->Prop} {r:List Eqn} {E:List (Dt × Dt)} {N:List Nat}(el er:List Nat)(ds es:List Dt)(aN iD:List (List Nat)),EnvOK hd O el er ->
  ps.length=ds.length->qs.length=es.length->ps.length=qs.length->aN.length=ds.length->iD.length=es.length ->
  (∀(i q:Nat)(u:Dt)(ns:List Nat),ps[i]?=some q->ds[i]?=some u->aN[i]?=some ns->Tr G el q u ns)->(∀(i q:Nat)(u:Dt)(ns:List Nat),qs[i]?=some q->es[i]?=some u->iD[i]?=some ns->Tr G er q u ns) ->
  EntOK G hd O (λs=>A s/\∀p∈ds.zip es,ap s p.1=ap s p.2) r E N ->
  EntOK G hd O A (zay ps qs++r) (ds.zip es++E) ((List.zipWith (·++·) aN iD).flatten++N)
 |[],[],A,r,E,N,el,er,ds,es,aN,iD,_,h1,h2,_,h4,h5,_,_,h=>by
  obtain rfl:ds=[]:=AD (by simpa using h1.symm);obtain rfl:es=[]:=AD (by simpa using h2.symm);obtain rfl:aN=[]:=AD (by simpa using h4);simp only[zay,AL,List.zip_nil_left,List.zipWith_nil_left,Co];exact EntOK.mono r h λs hs=>⟨hs,λp hp=>by cases hp⟩
 |[],_::_,_,_,_,_,_,_,_,_,_,_,_,_,_,h3,_,_,_,_,_=>by simp at h3
 |_::_,[],_,_,_,_,_,_,_,_,_,_,_,_,_,h3,_,_,_,_,_=>by simp at h3
 |p::ps,q::qs,A,r,E,N,el,er,ds,es,aN,iD,he,h1,h2,h3,h4,h5,hl,hr,h=>by
  obtain⟨d,ds,rfl⟩:∃d ds',ds=d::ds':=by cases ds with|nil=>simp at h1|cons d ds=>exact⟨d,ds,rfl⟩
  obtain⟨e,es,rfl⟩:∃e fj,es=e::fj:=by cases es with|nil=>simp at h2|cons d ds=>exact⟨d,ds,rfl⟩
  obtain⟨ns,aN,rfl⟩:∃e fj,aN=e::fj:=by cases aN with|nil=>simp at h4|cons d ds=>exact⟨d,ds,rfl⟩
  obtain⟨ms,iD,rfl⟩:∃e fj,iD=e::fj:=by cases iD with|nil=>simp at h5|cons d ds=>exact⟨d,ds,rfl⟩
  simp only[Ao,Nat.add_right_cancel_iff]at h1 h2 h3 h4 h5;simp only[zay,AE,List.zip_cons_cons,List.zipWith_cons_cons,BE];rw[EntOK]
  refine⟨el,er,d,e,ns,ms,he,hl 0 p d ns rfl rfl rfl,hr 0 q e ms rfl rfl rfl,.inl ⟨rfl,_,_,rfl,by rw[Bj],?_⟩⟩;refine EntOK.put ps qs el er ds es aN iD he h1 h2 h3 h4 h5 (λi q u ns a b c=>hl (i+1) q u ns (by simpa using a) (by simpa using b) (by simpa using c)) (λi q u ns a b c=>hr (i+1) q u ns (by simpa using a) (by simpa using b) (by simpa using c)) ?_;exact EntOK.mono r h λs hs=>⟨hs.1.1,λz hz=>by
   rcases An.1 hz with e|hz
   ·rw[e];exact hs.1.2
   ·exact hs.2 z hz⟩
def HV(G:Nat->Option Nd)(e er:List Nat)(h:Nat)(d:Dt)(ns:List Nat):Prop :=
 (Tr G e h d ns/\∀i,d≠.bv i)\/(ns=[]/\∃i nm,d=.bv i/\er[i]?=some h/\G h=some ⟨1,nm,0,[],none,true⟩)
section
variable {G:Nat->Option Nd} {L:List Nat} {hd:Nat->Nat} {k:Sb} {Ns O:List Nat}
theorem HdS.head(S:HdS G L hd k Ns O) {e er:List Nat}(hs:∀(i a:Nat),e[i]?=some a->∃b,er[i]?=some b/\hd a=b/\b∈O) {p:Nat} {d:Dt} {ns:List Nat}(h:Tr G e p d ns)(hn:∀x∈ns,x∈Ns):∃d',HV G e er (hd p) d' ns/\ap k d=ap k d'/\(Plain d->Plain d')/\(¬Plain d->d'=d/\((∀i,d≠.bv i)->hd p=p)):=by
 by_cases hp:Plain d
 ·obtain⟨rfl,oD⟩:=h.plain hp
  obtain⟨d',h1,h2,h3⟩:=S.pl p d (oD []) hp;exact⟨d',.inl ⟨(h1.plain h2).2 e,λi e=>zaL i (e▸h2)⟩,h3,λ_=>h2,λh=>absurd hp h⟩
 ·by_cases hb:∃i,d=.bv i
  ·obtain⟨i,rfl⟩:=hb
   cases h with
   |bv _ _ nm _ hG hi =>
    obtain⟨b,h1,h2,h3⟩:=hs i p (zgV p e i hi);obtain⟨⟨nm',h4⟩,-⟩:=S.oc b h3;refine⟨.bv i,.inr ⟨rfl,i,nm',rfl,by rw[h2];exact h1,by rw[h2];exact h4⟩,rfl,λh=>absurd h hp,λ_=>⟨rfl,λh=>absurd rfl (h i)⟩⟩
   |app _ _ _ _ _ ha _ _ _ _=>simp[App,kdD]at ha
  ·have hb:∀i,d≠.bv i:=λi e=>hb ⟨i,e⟩
   have:=S.nh p (hn p (h.self_mem hp hb));refine⟨d,.inl ⟨by rw[this];exact h,hb⟩,rfl,λh=>absurd h hp,λ_=>⟨rfl,λ_=>this⟩⟩
theorem EnvOK.left {el er:List Nat}(h:EnvOK hd O el er)(i a:Nat)(ha:el[i]?=some a):∃b,er[i]?=some b/\hd a=b/\b∈O:=by
 have hi:i<er.length:=by rw[<-h.len];exact(Aw.1 ha).1
 exact⟨er[i],Ak hi,(h.lk i a _ ha (Ak hi)).1,h.ro _ (Bd hi)⟩
theorem EnvOK.right {el er:List Nat}(h:EnvOK hd O el er)(i a:Nat)(ha:er[i]?=some a):∃b,er[i]?=some b/\hd a=b/\b∈O:=by
 have hi:i<el.length:=by rw[h.len];exact(Aw.1 ha).1
 exact⟨a,ha,(h.lk i _ a (Ak hi) ha).2,h.ro _ (AX ha)⟩
theorem HdS.same(S:HdS G L hd k Ns O) {el er:List Nat}(he:EnvOK hd O el er) {p q:Nat} {d e:Dt} {nl nr:List Nat}(hp:Tr G el p d nl)(hq:Tr G er q e nr)(hl:∀x∈nl,x∈Ns)(hr:∀x∈nr,x∈Ns)(hx:∀x∈nl,x∉nr)(h:hd p=hd q):ap k d=ap k e:=by
 obtain⟨d',v1,e1,p1,n1⟩:=S.head he.left hp hl;obtain⟨e',v2,e2,p2,n2⟩:=S.head he.right hq hr;rw[e1,e2]
 rw[<-h]at v2
 rcases v1 with⟨t1,b1⟩|⟨-,i,nm,rfl,g1,c1⟩
 ·rcases v2 with⟨t2,b2⟩|⟨-,i,nm,rfl,g2,c2⟩
  ·by_cases iL:Plain d'
   ·rw[t1.det iL t2]
   ·exfalso
    have af:¬Plain e':=(t1.nonP iL) _ _ _ t2;have uZ:¬Plain d:=λh=>iL (p1 h);have hen:¬Plain e:=λh=>af (p2 h);obtain⟨rfl,f1⟩:=n1 uZ;obtain⟨rfl,f2⟩:=n2 hen;have pF:p=q:=by rw[<-f1 b1,<-f2 b2,h]
    exact hx p (hp.self_mem uZ b1) (by rw[pF];exact hq.self_mem hen b2)
  ·exfalso
   obtain⟨x,hx,-,-,-,-,hn⟩:=t1.node;rw[c2]at hx
   injection hx with hx;obtain⟨i,hi⟩:=hn.1 (by rw[<-hx]);exact b1 i hi
 ·rcases v2 with⟨t2,b2⟩|⟨-,j,nm',rfl,g2,c2⟩
  ·exfalso
   obtain⟨x,hx,-,-,-,-,hn⟩:=t2.node;rw[c1]at hx
   injection hx with hx;obtain⟨i,hi⟩:=hn.1 (by rw[<-hx]);exact b2 i hi
  ·have h1:=zfk (hd p) er he.nd i g1
   have h2:=zfk (hd p) er he.nd j g2;rw[h1]at h2
   injection h2 with h2;rw[h2]
end
def apP(k:Sb)(p:Dt × Dt):Dt × Dt:=(ap k p.1,ap k p.2)
def msr(f:Nat)(l:List Eqn):Nat:=2*f+(l.filter (·.d)).length
def Sim(G:Nat->Option Nd)(L:List Nat)(hd:Nat->Nat)(k:Sb)(l:List Eqn)(f:Nat)(o:Nat ⊕ Sb):Prop :=
 ∃E Eu Ns O,HdS G L hd k Ns O/\EntOK G hd O (λs=>Absorbs s k) l E Ns/\unF f Eu k=some o/\Eu.map (apP k)=E.map (apP k)
theorem HdS.sub {G:Nat->Option Nd} {L:List Nat} {hd:Nat->Nat} {k:Sb} {Ns Ns' O:List Nat}(S:HdS G L hd k Ns O)(hn:Ns'.Nodup)(hs:∀x∈Ns',x∈Ns):HdS G L hd k Ns' O where
 gr:=S.gr
 pl:=S.pl
 un:=S.un
 nd:=hn
 nh x hx:=S.nh x (hs x hx)
 np x hx:=S.np x (hs x hx)
 oc c hc:=⟨(S.oc c hc).1,λh=>(S.oc c hc).2 (hs c h)⟩
 ki:=S.ki
 kp:=S.kp
theorem HdS.link {G:Nat->Option Nd} {L:List Nat} {hd:Nat->Nat} {k:Sb} {Ns O:List Nat}(S:HdS G L hd k Ns O) {m t:Nat}(ht:hd t=t)(fU:m≠t) {y:Nd}(hy:G t=some y)(hm:m∉Ns)
  (cS:∀d,Tr G [] m d []->Plain d->∃d',Tr G [] t d' []/\Plain d'/\ap k d=ap k d'):HdS G L (hdL hd m t) k Ns O where
 gr:=S.gr.link ht fU hy
 pl p d h hp:=by
  obtain⟨d',h1,h2,h3⟩:=S.pl p d h hp;by_cases e:hd p=m
  ·rw[zc6 e]
   rw[e]at h1
   obtain⟨d2,g1,g2,g3⟩:=cS d' h1 h2;exact⟨d2,g1,g2,h3.trans g3⟩
  ·rw[zbB e];exact⟨d',h1,h2,h3⟩
 un p n h hp:=S.un p n h (zgW ht hp)
 nd:=S.nd
 nh x hx:=by rw[zbB (by rw[S.nh x hx];exact λe=>hm (e▸hx))];exact S.nh x hx
 np:=S.np
 oc:=S.oc
 ki:=S.ki
 kp:=S.kp
theorem Sim.nil {G:Nat->Option Nd} {L:List Nat} {hd:Nat->Nat} {k:Sb} {f:Nat} {o:Nat ⊕ Sb}(h:Sim G L hd k [] f o):o=.inr k/\∃O,HdS G L hd k [] O:=by
 obtain⟨E,Eu,Ns,O,S,he,hu,hm⟩:=h;rw[EntOK]at he
 obtain⟨rfl,rfl⟩:=he;have:Eu=[]:=by simpa using hm
 subst this;cases f with
 |zero=>rw[unF]at hu;cases hu
 |succ f=>rw[unF]at hu;injection hu with hu;exact⟨hu.symm,O,S⟩
theorem zi9 {k:Sb}(h:Idem k):Absorbs k k:=λn=>h n
theorem zbC {d:Dt}(k:Sb)(h:kdD d≠2):kdD (ap k d)=kdD d:=by
 cases d with
 |mt n=>exact absurd rfl h
 |fv x=>rw[zbt]
 |bv x=>rw[zbL]
 |con c l=>rw[za9];rfl
 |fn a b=>rw[zbp];rfl
 |all t=>rw[zaJ];rfl
theorem zd2 {d:Dt}(h:kdD d=2):∃n,d=.mt n:=by
 cases d <;> first|exact⟨_,rfl⟩|simp[kdD]at h
theorem Sim.uncons {G:Nat->Option Nd} {L:List Nat} {hd:Nat->Nat} {k:Sb} {q:Eqn} {r:List Eqn} {f:Nat} {o:Nat ⊕ Sb}(h:Sim G L hd k (q::r) f o)(hq:q.d=false):∃el er dl dr nl nr E' N' O a b gF f',HdS G L hd k (nl++nr++N') O/\EnvOK hd O el er/\Tr G el q.l dl nl/\Tr G er q.r dr nr/\EntOK G hd O (λs=>Absorbs s k/\ap s dl=ap s dr) r E' N' /\
   f=f'+1/\unF (f'+1) ((a,b)::gF) k=some o/\ap k a=ap k dl/\ap k b=ap k dr/\gF.map (apP k)=E'.map (apP k):=by
 obtain⟨E,Eu,Ns,O,S,he,hu,hm⟩:=h;rw[EntOK]at he
 obtain⟨el,er,dl,dr,nl,nr,h1,h2,h3,⟨-,E',N',rfl,rfl,h4⟩|⟨e,-⟩⟩:=he
 ·cases Eu with
  |nil=>simp at hm
  |cons p gF =>
   obtain⟨a,b⟩:=p;simp only[AH,BB,apP,Bz]at hm;cases f with
   |zero=>rw[unF]at hu;cases hu
   |succ f'=>exact⟨el,er,dl,dr,nl,nr,E',N',O,a,b,gF,f',S,h1,h2,h3,h4,rfl,hu,hm.1.1,hm.1.2,hm.2⟩
 ·rw[hq]at e;cases e
theorem zb1 {nl nr N:List Nat}(h:(nl++nr++N).Nodup):N.Nodup/\(∀x∈nl,x∉nr)/\(∀x∈nl++nr,x∉N):=by
 have h1:=BL.1 h;have h2:=BL.1 h1.1;exact⟨h1.2.1,λx hx hy=>h2.2.2 x hx x hy rfl,λx hx hy=>h1.2.2 x hx x hy rfl⟩
theorem Sim.same {G:Nat->Option Nd} {L:List Nat} {hd:Nat->Nat} {k:Sb} {q:Eqn} {r:List Eqn} {f:Nat} {o:Nat ⊕ Sb}(h:Sim G L hd k (q::r) f o)(hh:hd q.l=hd q.r):∃f',msr f' r<msr f (q::r)/\Sim G L hd k r f' o:=by
 cases hq:q.d with
 |false =>
  obtain⟨el,er,dl,dr,nl,nr,E',N',O,a,b,gF,f',S,h1,h2,h3,h4,rfl,hu,ha,hb,hm⟩:=h.uncons hq;obtain⟨n1,n2,n3⟩:=zb1 S.nd;have hs:=S.same h1 h2 h3 (λx hx=>by simp[hx]) (λx hx=>by simp[hx]) n2 hh;obtain⟨g,hg,my⟩:=zoy S.ki (ha.trans (hs.trans hb.symm)) hu;refine⟨g,by unfold msr;simp[hq];omega,E',gF,N',O,S.sub n1 (λx hx=>by simp[hx]),h4.mono r λs dP=>⟨dP,?_⟩,my,hm⟩;rw[<-dP.ap dl,<-dP.ap dr,hs]
 |true =>
  obtain⟨E,Eu,Ns,O,S,he,hu,hm⟩:=h;rw[EntOK]at he
  obtain⟨el,er,dl,dr,nl,nr,h1,h2,h3,⟨e,-⟩|⟨-,hA,N',rfl,h4⟩⟩:=he
  ·rw[hq]at e;cases e
  ·exact⟨f,by unfold msr;simp[hq],E,Eu,N',O,S.sub (zb1 S.nd).1 (λx hx=>by simp[hx]),h4,hu,hm⟩
theorem Sim.done {G:Nat->Option Nd} {L:List Nat} {hd:Nat->Nat} {k:Sb} {q:Eqn} {r:List Eqn} {f:Nat} {o:Nat ⊕ Sb}(h:Sim G L hd k (q::r) f o)(hq:q.d=true)(af:hd q.l≠hd q.r):msr f r<msr f (q::r)/\Sim G L (hdL hd (hd q.l) (hd q.r)) k r f o:=by
 obtain⟨E,Eu,Ns,O,S,he,hu,hm⟩:=h;rw[EntOK]at he
 obtain⟨el,er,dl,dr,nl,nr,h1,h2,h3,⟨e,-⟩|⟨-,hA,N',rfl,h4⟩⟩:=he
 ·rw[hq]at e;cases e
 ·refine⟨by unfold msr;simp[hq],?_⟩
  have hk:=hA k (zi9 S.ki);obtain⟨n1,n2,n3⟩:=zb1 S.nd;have fR:Plain dl↔Plain dr:=by
   have a1:=zcu k dl;have a2:=zcu k dr;rw[hk]at a1
   exact⟨λh=>(a2.1 (a1.2 ⟨h,λm _=>S.kp m⟩)).1,λh=>(a1.1 (a2.2 ⟨h,λm _=>S.kp m⟩)).1⟩
  have S':HdS G L hd k N' O:=S.sub n1 (λx hx=>by simp[hx]);obtain⟨yl,hyl⟩:∃y,G (hd q.l)=some y:=by obtain⟨x,hx,_⟩:=h2.node;exact S.gr.hin _ _ hx
  obtain⟨yr,hyr⟩:∃y,G (hd q.r)=some y:=by obtain⟨x,hx,_⟩:=h3.node;exact S.gr.hin _ _ hx
  by_cases hp:Plain dl
  ·have fu:=fR.1 hp
   obtain⟨-,t1⟩:=h2.plain hp;obtain⟨-,t2⟩:=h3.plain fu;obtain⟨d1,v1,v2,v3⟩:=S.pl _ _ (t1 []) hp;obtain⟨d2,u1,u2,u3⟩:=S.pl _ _ (t2 []) fu;have gY:hd q.l∉N':=λhx=>S'.np _ hx _ _ _ v1 v2;have xk:hd q.l∉O:=λhx=>by
    obtain⟨⟨nm,hc⟩,-⟩:=S.oc _ hx;exact zex hc _ _ _ v1 v2
   refine⟨E,Eu,N',O,S'.link (S.gr.idm _) af hyr gY (λd iL bB=>?_),h4.link xk (λ_ h=>h),hu,hm⟩;have:=v1.det v2 iL;subst this;exact⟨d2,u1,u2,by rw[<-v3,<-u3,hk]⟩
  ·have fu:¬Plain dr:=λh=>hp (fR.2 h)
   rw[zcQ hp,zcQ fu]at S n3
   have e1:hd q.l=q.l:=S.nh _ (by simp);have e2:hd q.r=q.r:=S.nh _ (by simp);rw[e1,e2]at af ⊢
   have gY:q.l∉N':=n3 _ (by simp);have xk:q.l∉O:=λhx=>(S.oc _ hx).2 (by simp);rw[e2]at hyr
   exact⟨E,Eu,N',O,S'.link e2 af hyr gY (λd iL bB=>absurd bB (h2.nonP hp _ _ _ iL)),h4.link xk (λ_ h=>h),hu,hm⟩
theorem zpJ {d e:Dt}(h2:kdD d≠2)(h1:kdD d≠1)(hk:kdD d=kdD e)(hl:(zai d).length=(zai e).length)(hn:kdD d=3->nmD d=nmD e):act d e=.push ((zai d).zip (zai e)):=by
 cases d with
 |fv x=>exact absurd rfl h1
 |bv x=>exact absurd rfl h1
 |mt n=>exact absurd rfl h2
 |con c l=>cases e with
  |con c' l' =>
   have:=hn rfl;simp[nmD]at this
   exact Aq ⟨this,hl⟩
  |_=>simp[kdD]at hk
 |fn a b=>cases e with
  |fn a' b'=>rfl
  |_=>simp[kdD]at hk
 |all t=>cases e with
  |all t'=>rfl
  |_=>simp[kdD]at hk
theorem zmS {d e:Dt}(h2:kdD d≠2)(h3:kdD e≠2)(hf:¬(kdD d=kdD e/\(zai d).length=(zai e).length/\kdD d≠1/\(kdD d=3->nmD d=nmD e)))(af:d≠e):act d e=.clash:=by
 cases d with
 |mt n=>exact absurd rfl h2
 |fv x=>cases e with
  |mt n=>exact absurd rfl h3
  |fv y=>exact Am (λh=>af (by rw[h]))
  |_=>rfl
 |bv x=>cases e with
  |mt n=>exact absurd rfl h3
  |bv y=>exact Am (λh=>af (by rw[h]))
  |_=>rfl
 |con c l=>cases e with
  |mt n=>exact absurd rfl h3
  |con c' l' =>
   refine Am ?_;rintro⟨h,h'⟩;exact hf ⟨rfl,h',by simp[kdD],λ_=>by simp[nmD,h]⟩
  |_=>rfl
 |fn a b=>cases e with
  |mt n=>exact absurd rfl h3
  |fn a' b'=>exact absurd ⟨rfl,rfl,by simp[kdD],λh=>by simp[kdD]at h⟩ hf
  |_=>rfl
 |all t=>cases e with
  |mt n=>exact absurd rfl h3
  |all t'=>exact absurd ⟨rfl,rfl,by simp[kdD],λh=>by simp[kdD]at h⟩ hf
  |_=>rfl
theorem HV.node {G:Nat->Option Nd} {e er:List Nat} {h:Nat} {d:Dt} {ns:List Nat}(v:HV G e er h d ns):∃x,G h=some x/\x.kd=kdD d/\x.kids.length=(zai d).length/\(App d->x.nm=nmD d)/\(∀n,d=.mt n->x.n=n):=by
 rcases v with⟨t,_⟩|⟨-,i,nm,rfl,_,hG⟩
 ·obtain⟨x,h1,h2,h3,h4,h5,_⟩:=t.node
  exact⟨x,h1,h2,h3,h4,h5⟩
 ·exact⟨_,hG,rfl,rfl,λh=>by simp[App,kdD]at h,λn h=>by cases h⟩
theorem za6(k:Sb) {d:Dt}(h:kdD d≠2):zai (ap k d)=(zai d).map (ap k)/\nmD (ap k d)=nmD d:=by
 cases d with
 |mt n=>exact absurd rfl h
 |fv x=>rw[zbt];exact⟨rfl,rfl⟩
 |bv x=>rw[zbL];exact⟨rfl,rfl⟩
 |con c l=>rw[za9,zbm];exact⟨rfl,rfl⟩
 |fn a b=>rw[zbp];exact⟨rfl,rfl⟩
 |all t=>rw[zaJ];exact⟨rfl,rfl⟩
theorem zgX {x y:Nd} {d e:Dt}(hx:x.kd=kdD d/\x.kids.length=(zai d).length/\(App d->x.nm=nmD d))(hy:y.kd=kdD e/\y.kids.length=(zai e).length/\(App e->y.nm=nmD e)):fitB x y=true↔(kdD d=kdD e/\(zai d).length=(zai e).length/\kdD d≠1/\(kdD d=3->nmD d=nmD e)):=by
 unfold fitB;simp only[CE,CF,bne_iff_ne,Cu,decide_eq_true_eq,ne_eq];rw[hx.1,hy.1,hx.2.1,hy.2.1]
 constructor
 ·rintro⟨⟨⟨a,b⟩,c⟩,d'⟩
  refine⟨a,b,c,λh3=>?_⟩;rcases d' with h|h
  ·exact absurd h3 h
  ·rw[hx.2.2 (.inl h3),hy.2.2 (.inl (a▸h3))]at h;exact h
 ·rintro⟨a,b,c,d'⟩
  refine⟨⟨⟨a,b⟩,c⟩,?_⟩;by_cases h3:kdD d=3
  ·exact .inr (by rw[hx.2.2 (.inl h3),hy.2.2 (.inl (a▸h3))];exact d' h3)
  ·exact .inl h3
theorem HV.ne {G:Nat->Option Nd}(gs:GrS G) {el er:List Nat} {h h':Nat} {d:Dt} {nl nr:List Nat}(v:HV G el er h d nl)(v':HV G er er h' d nr)(hk:kdD d=1):h=h':=by
 rcases v with⟨t,b⟩|⟨-,i,nm,rfl,g,hG⟩
 ·rcases v' with⟨t',b'⟩|⟨-,i,nm,rfl,_,_⟩
  ·cases d with
   |fv x =>
    cases t with
    |fv _ _ _ h1 =>
     cases t' with
     |fv _ _ _ h2=>exact gs.vv _ _ _ h1 h2
     |app _ _ _ _ _ ha _ _ _ _=>simp[App,kdD]at ha
    |app _ _ _ _ _ ha _ _ _ _=>simp[App,kdD]at ha
   |bv i=>exact absurd rfl (b i)
   |_=>simp[kdD]at hk
  ·exact absurd rfl (b i)
 ·rcases v' with⟨t',b'⟩|⟨-,j,nm',e,g',_⟩
  ·exact absurd rfl (b' i)
  ·injection e with e
   subst e;rw[g]at g'
   injection g'
theorem Sim.clash {G:Nat->Option Nd} {L:List Nat} {hd:Nat->Nat} {k:Sb} {q:Eqn} {r:List Eqn} {f:Nat} {o:Nat ⊕ Sb}(gs:GrS G)(h:Sim G L hd k (q::r) f o)(hq:q.d=false)(af:hd q.l≠hd q.r) {x y:Nd}(hx:G (hd q.l)=some x)(hy:G (hd q.r)=some y)
  (hk:x.kd≠2/\y.kd≠2)(hf:fitB x y=false):o=.inl 40:=by
 obtain⟨el,er,dl,dr,nl,nr,E',N',O,a,b,gF,f',S,h1,h2,h3,h4,rfl,hu,ha,hb,hm⟩:=h.uncons hq;obtain⟨d',v1,e1,p1,n1⟩:=S.head h1.left h2 (λx hx=>by simp[hx]);obtain⟨e',v2,e2,p2,n2⟩:=S.head h1.right h3 (λx hx=>by simp[hx]);obtain⟨x',eH,x1,x2,x3,-⟩:=v1.node;obtain⟨y',gd,y1,y2,y3,-⟩:=v2.node;rw[hx]at eH;injection eH with eH;subst eH
 rw[hy]at gd;injection gd with gd;subst gd
 have k1:kdD d'≠2:=by rw[<-x1];exact hk.1
 have k2:kdD e'≠2:=by rw[<-y1];exact hk.2
 have hfi:=zgX ⟨x1,x2,x3⟩ ⟨y1,y2,y3⟩;have fh:act (ap k a) (ap k b)=.clash:=by
  rw[ha,hb,e1,e2]
  refine zmS (by rw[zbC k k1];exact k1) (by rw[zbC k k2];exact k2) ?_ ?_
  ·rw[zbC k k1,zbC k k2,(za6 k k1).1,(za6 k k2).1,(za6 k k1).2,(za6 k k2).2,AR,AR,<-hfi,hf]
   exact BZ
  ·intro e
   by_cases k3:kdD d'=1
   ·have k4:kdD e'=1:=by have:=Az kdD e;rw[zbC k k1,zbC k k2]at this;rw[<-this];exact k3
    have:d'=e':=by
     cases d' <;> simp[kdD]at k3 <;> cases e' <;> simp[kdD]at k4 <;> first|(simp[zbt,zbL]at e;done)|(simpa[zbt,zbL] using e)
    subst this;exact af (v1.ne gs v2 k3)
   ·have:fitB x y=true:=by
     rw[hfi]
     have c1:=Az kdD e;have c2:=Az (λz=>(zai z).length) e;have c3:=Az nmD e;simp only[zbC k k1,zbC k k2,(za6 k k1).1,(za6 k k2).1,(za6 k k1).2,(za6 k k2).2,AR]at c1 c2 c3;exact⟨c1,c2,k3,λ_=>c3⟩
    rw[hf]at this
    cases this
 rw[unF,fh]at hu
 injection hu with hu;exact hu.symm
end Go.Proofs.YtfafilmklhnngaaGreatDoor
namespace Go.Proofs.YtfafilmklhnngaaGreatDoor
open Lx Tx
set_option maxRecDepth 100000
theorem zeE(a:Nat):(l m:List (List Nat))->l.length=m.length->(List.zipWith (·++·) l m).flatten.count a=l.flatten.count a+m.flatten.count a
 |[],[],_=>rfl
 |[],_::_,h=>by simp at h
 |_::_,[],h=>by simp at h
 |x::l,y::m,h=>by
  rw[List.zipWith_cons_cons,BE,BE,BE,Cb,Cb,Cb,Cb,zeE a l m (by simpa using h)]
  omega
theorem zpK(k:Sb)(hk:Idem k)(l m:List Dt):((l.map (ap k)).zip (m.map (ap k))).map (apP k)=(l.zip m).map (apP k):=by
 rw[List.zip_map,Cc]
 refine CJ λp _=>?_;simp[apP,Prod.map,zba hk]
theorem zdp:(l m:List Nat)->((zay l m).filter (·.d))=[]
 |[],_=>rfl
 |_::_,[]=>rfl
 |_::l,_::m=>by rw[zay,Bs (by simp)];exact zdp l m
theorem App.eq_of {d e:Dt}(ha:App d)(hk:kdD d=kdD e)(hl:(zai d).length=(zai e).length)(hn:kdD d=3->nmD d=nmD e)(s:Sb)(h:∀p∈(zai d).zip (zai e),Tx.ap s p.1=Tx.ap s p.2):Tx.ap s d=Tx.ap s e:=by
 have he:App e:=by unfold App at ha ⊢;rw[<-hk];exact ha
 obtain⟨a1,a2,a3,a4⟩:=ha.ap s;obtain⟨b1,b2,b3,b4⟩:=he.ap s;refine App.ext a1 (a2.trans (hk.trans b2.symm)) ?_ ?_
 ·rw[a3,b3]
  rcases ha with h3|h4
  ·exact hn h3
  ·have h5:kdD e=4:=by rw[<-hk];exact h4
   cases d <;> simp[kdD]at h4
   cases e <;> simp[kdD]at h5
   rfl
 ·rw[a4,b4]
  refine CC (by simpa using hl) λi i1 i2=>?_;rw[Cn,Cn]
  simp only[AR]at i1 i2;exact h ((zai d)[i],(zai e)[i]) (AS.2 ⟨i,by rw[List.length_zip];omega,by rw[List.getElem_zip]⟩)
theorem Sim.push {G:Nat->Option Nd} {L:List Nat} {hd:Nat->Nat} {k:Sb} {q:Eqn} {r:List Eqn} {f:Nat} {o:Nat ⊕ Sb}(h:Sim G L hd k (q::r) f o)(hq:q.d=false) {x y:Nd}(hx:G (hd q.l)=some x)(hy:G (hd q.r)=some y)
  (hk:x.kd≠2/\y.kd≠2/\x.kd≠5)(hf:fitB x y=true):∃f',msr f' (zay x.kids y.kids++⟨hd q.l,hd q.r,true⟩::r)<msr f (q::r)/\Sim G L hd k (zay x.kids y.kids++⟨hd q.l,hd q.r,true⟩::r) f' o:=by
 obtain⟨el,er,dl,dr,nl,nr,E',N',O,a,b,gF,f',S,h1,h2,h3,h4,rfl,hu,ha,hb,hm⟩:=h.uncons hq;obtain⟨d',v1,e1,p1,n1⟩:=S.head h1.left h2 (λx hx=>by simp[hx]);obtain⟨e',v2,e2,p2,n2⟩:=S.head h1.right h3 (λx hx=>by simp[hx]);obtain⟨x',eH,x1,x2,x3,-⟩:=v1.node;obtain⟨y',gd,y1,y2,y3,-⟩:=v2.node;rw[hx]at eH;injection eH with eH;subst eH
 rw[hy]at gd;injection gd with gd;subst gd
 obtain⟨c1,c2,c3,c4⟩:=(zgX ⟨x1,x2,x3⟩ ⟨y1,y2,y3⟩).1 hf;have k1:kdD d'≠2:=by rw[<-x1];exact hk.1
 have k2:kdD e'≠2:=by rw[<-y1];exact hk.2.1
 have k5:kdD d'≠5:=by rw[<-x1];exact hk.2.2
 have bP:App d':=by cases d' <;> simp[App,kdD]at k1 k5 c3 ⊢
 have eC:App e':=by unfold App at bP ⊢;rw[<-c1];exact bP
 have fh:act (ap k a) (ap k b)=.push ((zai (ap k d')).zip (zai (ap k e'))):=by
  rw[ha,hb,e1,e2]
  refine zpJ (by rw[zbC k k1];exact k1) (by rw[zbC k k1];exact c3) (by rw[zbC k k1,zbC k k2];exact c1) (by rw[(za6 k k1).1,(za6 k k2).1,AR,AR];exact c2) (λh3=>?_);rw[zbC k k1]at h3
  rw[(za6 k k1).2,(za6 k k2).2]
  exact c4 h3
 rw[unF,fh]at hu
 replace hu:unF f' ((zai (ap k d')).zip (zai (ap k e'))++gF) k=some o:=hu;rw[(za6 k k1).1,(za6 k k2).1]at hu
 obtain⟨t1,b1⟩:Tr G el (hd q.l) d' nl/\∀i,d'≠.bv i:=by
  rcases v1 with h|⟨-,i,nm,e,_⟩
  ·exact h
  ·exact absurd e (bP.not_bv i)
 obtain⟨t2,b2⟩:Tr G er (hd q.r) e' nr/\∀i,e'≠.bv i:=by
  rcases v2 with h|⟨-,i,nm,e,_⟩
  ·exact h
  ·exact absurd e (eC.not_bv i)
 have T1:=t1;have T2:=t2;cases t1 with
 |fv=>simp[App,kdD]at bP
 |bv=>simp[App,kdD]at bP
 |mt=>simp[App,kdD]at bP
 |all=>simp[App,kdD]at bP
 |app _ _ _ ps aN _ g1 l1 l2 kk1 =>
 cases t2 with
 |fv=>simp[App,kdD]at eC
 |bv=>simp[App,kdD]at eC
 |mt=>simp[App,kdD]at eC
 |all=>simp[App,kdD]at eC
 |app _ _ _ qs iD _ g2 m1 m2 kk2 =>
 rw[g1]at hx;injection hx with hx;subst hx
 rw[g2]at hy;injection hy with hy;subst hy
 have pI:∀z,((List.zipWith (·++·) aN iD).flatten++(pn d' (hd q.l)++pn e' (hd q.r)++N')).count z=(pn d' (hd q.l)++aN.flatten++(pn e' (hd q.r)++iD.flatten)++N').count z:=by
  intro z;simp only[Cb,zeE z aN iD (by omega)];omega
 have gU:((List.zipWith (·++·) aN iD).flatten++(pn d' (hd q.l)++pn e' (hd q.r)++N')).Perm (pn d' (hd q.l)++aN.flatten++(pn e' (hd q.r)++iD.flatten)++N'):=List.perm_iff_count.2 pI;refine⟨f',?_,(zai d').zip (zai e')++E',((zai d').map (ap k)).zip ((zai e').map (ap k))++gF,_,O,S.sub (gU.nodup_iff.2 S.nd) (λz hz=>gU.mem_iff.1 hz),?_,hu,?_⟩
 ·unfold msr
  rw[Ct,zdp,AL,BJ rfl,Bs (by simp[hq])]
  simp;omega
 ·refine EntOK.put ps qs el er (zai d') (zai e') aN iD h1 l1 m1 (by omega) l2 m2 kk1 kk2 ?_
  rw[EntOK]
  refine⟨el,er,d',e',_,_,h1,T1,T2,.inr ⟨rfl,λs hs=>App.eq_of bP c1 c2 c4 s hs.2,N',rfl,h4.mono r λs hs=>⟨hs.1,?_⟩⟩⟩;rw[<-hs.1.ap dl,<-hs.1.ap dr,e1,e2,hs.1.ap,hs.1.ap]
  exact App.eq_of bP c1 c2 c4 s hs.2
 ·rw[Bl,Bl,hm,zpK k S.ki]
theorem Sim.open_ {G:Nat->Option Nd} {L:List Nat} {hd:Nat->Nat} {k:Sb} {q:Eqn} {r:List Eqn} {f:Nat} {o:Nat ⊕ Sb}(h:Sim G L hd k (q::r) f o)(hq:q.d=false) {x y:Nd}(hx:G (hd q.l)=some x)(hy:G (hd q.r)=some y)
  (hk:x.kd=5)(hf:fitB x y=true):∃lc rc xl yr,x.con=some lc/\G lc=some xl/\hd lc=lc/\y.con=some rc/\G rc=some yr/\hd rc=rc/\lc≠rc/\∃f',msr f' (zay x.kids y.kids++⟨hd q.l,hd q.r,true⟩::r)<msr f (q::r)/\Sim G L (hdL hd lc rc) k (zay x.kids y.kids++⟨hd q.l,hd q.r,true⟩::r) f' o:=by
 obtain⟨el,er,dl,dr,nl,nr,E',N',O,a,b,gF,f',S,h1,h2,h3,h4,rfl,hu,ha,hb,hm⟩:=h.uncons hq;obtain⟨d',v1,e1,p1,n1⟩:=S.head h1.left h2 (λx hx=>by simp[hx]);obtain⟨e',v2,e2,p2,n2⟩:=S.head h1.right h3 (λx hx=>by simp[hx]);obtain⟨x',eH,x1,x2,x3,-⟩:=v1.node;obtain⟨y',gd,y1,y2,y3,-⟩:=v2.node;rw[hx]at eH;injection eH with eH;subst eH
 rw[hy]at gd;injection gd with gd;subst gd
 obtain⟨c1,c2,c3,c4⟩:=(zgX ⟨x1,x2,x3⟩ ⟨y1,y2,y3⟩).1 hf;have k5:kdD d'=5:=by rw[<-x1];exact hk
 obtain⟨tl,rfl⟩:∃t,d'=.all t:=by cases d' <;> simp[kdD]at k5;exact⟨_,rfl⟩
 obtain⟨tr,rfl⟩:∃t,e'=.all t:=by cases e' <;> simp[kdD]at c1;exact⟨_,rfl⟩
 have cS:¬Plain dl:=λh=>zaK _ (p1 h);have eX:¬Plain dr:=λh=>zaK _ (p2 h);obtain⟨rfl,f1⟩:=n1 cS;obtain⟨rfl,f2⟩:=n2 eX;have f1:=f1 (by simp);have f2:=f2 (by simp);rw[f1]at hx v1 ⊢
 rw[f2]at hy v2 ⊢
 clear e1 e2 p1 p2 n1 n2 v1 v2;cases h2 with
 |app _ _ _ _ _ ha _ _ _ _=>simp[App,kdD]at ha
 |all _ _ nx _ ql lc nsl g1 cl T1 =>
 cases h3 with
 |app _ _ _ _ _ ha _ _ _ _=>simp[App,kdD]at ha
 |all _ _ ny _ qr rc nsr g2 cr T2 =>
 rw[g1]at hx;injection hx with hx;subst hx
 rw[g2]at hy;injection hy with hy;subst hy
 have fh:act (ap k a) (ap k b)=.push [(ap k tl,ap k tr)]:=by rw[ha,hb,zaJ,zaJ];rfl
 rw[unF,fh]at hu
 replace hu:unF f' ((ap k tl,ap k tr)::gF) k=some o:=hu;have pV:∀z,((nsl++nsr)++([q.l]++[q.r]++N')).count z+([lc]++[rc]).count z<=1:=by
  intro z;have:=(List.nodup_iff_count.1 S.nd) z;have e1:q.l::lc::nsl=[q.l]++[lc]++nsl:=rfl;have e2:q.r::rc::nsr=[q.r]++[rc]++nsr:=rfl;rw[e1,e2]at this
  simp only[Cb]at this ⊢;omega
 have dQ:((nsl++nsr)++([q.l]++[q.r]++N')).Nodup:=List.nodup_iff_count.2 λz=>by have:=pV z;omega
 have hlN:lc∉(nsl++nsr)++([q.l]++[q.r]++N'):=λh=>by
  have h1:=Cg.2 h;have h2:=pV lc;have h3:0<([lc]++[rc]).count lc:=Cg.2 (by simp);omega
 have hrN:rc∉(nsl++nsr)++([q.l]++[q.r]++N'):=λh=>by
  have h1:=Cg.2 h;have h2:=pV rc;have h3:0<([lc]++[rc]).count rc:=Cg.2 (by simp);omega
 have gJ:lc≠rc:=λe=>by
  have h2:=pV lc;subst e;have h3:([lc]++[lc]).count lc=2:=by simp
  omega
 have gY:lc∈q.l::lc::nsl++(q.r::rc::nsr)++N':=by simp
 have hmr:rc∈q.l::lc::nsl++(q.r::rc::nsr)++N':=by simp
 have hlO:lc∉O:=λh=>(S.oc _ h).2 gY;have hrO:rc∉O:=λh=>(S.oc _ h).2 hmr;have el1:=S.nh lc gY;have er1:=S.nh rc hmr;obtain⟨nml,gl⟩:=cl;obtain⟨nmr,gr⟩:=cr;have S1:HdS G L hd k ((nsl++nsr)++([q.l]++[q.r]++N')) O:=S.sub dQ (λz hz=>by
  have:=Cg.2 hz;refine Cg.1 ?_;have e1:q.l::lc::nsl=[q.l]++[lc]++nsl:=rfl;have e2:q.r::rc::nsr=[q.r]++[rc]++nsr:=rfl;rw[e1,e2]
  simp only[Cb]at this ⊢;omega)
 have S2:HdS G L (hdL hd lc rc) k ((nsl++nsr)++([q.l]++[q.r]++N')) O:=S1.link er1 gJ gr hlN (λd h hp=>absurd hp (zex gl _ _ _ h));have S3:HdS G L (hdL hd lc rc) k ((nsl++nsr)++([q.l]++[q.r]++N')) (lc::rc::O) :=
  ⟨S2.gr,S2.pl,S2.un,S2.nd,S2.nh,S2.np,λc hc=>by
   rcases An.1 hc with e|hc
   ·rw[e];exact⟨⟨nml,gl⟩,hlN⟩
   ·rcases An.1 hc with e|hc
    ·rw[e];exact⟨⟨nmr,gr⟩,hrN⟩
    ·exact S2.oc c hc,S2.ki,S2.kp⟩
 have hO:∀c∈O,c∈lc::rc::O:=λc hc=>by simp[hc]
 have he0:=h1.link (t:=rc) hlO hO;have he:EnvOK (hdL hd lc rc) (lc::rc::O) (lc::el) (rc::er) :=
  ⟨by simp[h1.len],A6.2 ⟨λh=>hrO (h1.ro _ h),h1.nd⟩,λc hc=>by
   rcases An.1 hc with e|hc
   ·simp[e]
   ·exact he0.lo c hc,λc hc=>by
   rcases An.1 hc with e|hc
   ·simp[e]
   ·exact he0.ro c hc,λi a b h h'=>by
   cases i with
   |zero =>
    simp at h h';subst h h';exact⟨zc6 el1,by rw[zbB (by rw[er1];exact Cw gJ)];exact er1⟩
   |succ i=>exact he0.lk i a b (by simpa using h) (by simpa using h')⟩
 refine⟨lc,rc,_,_,rfl,gl,el1,rfl,gr,er1,gJ,f',?_,(tl,tr)::E',(ap k tl,ap k tr)::gF,_,_,S3,?_,hu,?_⟩
 ·unfold msr
  rw[Ct,zdp,AL,BJ rfl,Bs (by simp[hq])]
  simp;omega
 ·show EntOK G _ _ _ (⟨ql,qr,false⟩::⟨q.l,q.r,true⟩::r) _ _
  rw[EntOK]
  refine⟨lc::el,rc::er,tl,tr,nsl,nsr,he,T1,T2,.inl ⟨rfl,E',_,rfl,rfl,?_⟩⟩;rw[EntOK]
  refine⟨el,er,.all tl,.all tr,_,_,he0,.all _ _ _ _ _ _ _ g1 ⟨nml,gl⟩ T1,.all _ _ _ _ _ _ _ g2 ⟨nmr,gr⟩ T2,.inr ⟨rfl,λs hs=>by rw[zaJ,zaJ,hs.2],N',by rw[zcQ cS,zcQ eX],?_⟩⟩;exact(h4.link hlO hO).mono r λs hs=>⟨hs.1,by rw[zaJ,zaJ,hs.2]⟩
 ·rw[AH,AH,hm]
  congr 1
  simp[apP,zba S.ki]
end Go.Proofs.YtfafilmklhnngaaGreatDoor
namespace Go.Proofs.YtfafilmklhnngaaGreatDoor
open Lx Tx
set_option maxRecDepth 100000
inductive Wi:Dt->Dt->Prop
 |refl (d:Dt):Wi d d
 |kid (d u e:Dt):u∈zai d->Wi u e->Wi d e
theorem Wi.tail {d u e:Dt}(h:Wi d u)(he:e∈zai u):Wi d e:=by
 induction h with
 |refl d=>exact .kid d e e he (.refl e)
 |kid d u' _ hu _ ih=>exact .kid d u' e hu (ih he)
theorem Wi.occ(n:Nat)(d:Dt):MtOcc n d↔Wi d (.mt n):=by
 constructor
 ·induction d using Dt.ind with
  |hf x=>intro h;rw[MtOcc]at h;exact h.elim
  |hb i=>intro h;rw[MtOcc]at h;exact h.elim
  |hm m=>intro h;rw[MtOcc]at h;rw[h];exact .refl _
  |hc c l ih =>
   intro h;rw[MtOcc,zaA]at h
   obtain⟨u,hu,h⟩:=h;exact .kid _ u _ hu (ih u hu h)
  |hn a b iha ihb =>
   intro h;rw[MtOcc]at h
   rcases h with h|h
   ·exact .kid _ a _ (by simp[zai]) (iha h)
   ·exact .kid _ b _ (by simp[zai]) (ihb h)
  |ha t ih=>intro h;rw[MtOcc]at h;exact .kid _ t _ (by simp[zai]) (ih h)
 ·intro h
  generalize he:Dt.mt n=e at h;induction h with
  |refl d=>subst he;rw[MtOcc]
  |kid d u e hu _ ih =>
   have:=ih he;cases d with
   |con c l=>rw[MtOcc,zaA];exact⟨u,hu,this⟩
   |fn a b =>
    simp[zai]at hu
    rw[MtOcc]
    rcases hu with rfl|rfl
    ·exact .inl this
    ·exact .inr this
   |all t=>simp[zai]at hu;subst hu;rw[MtOcc];exact this
   |_=>cases hu
theorem Wi.poly(d:Dt):za4 d=true↔∃t,Wi d (.all t):=by
 constructor
 ·induction d using Dt.ind with
  |hf x=>intro h;rw[za4]at h <;> simp at *
  |hb i=>intro h;rw[za4]at h <;> simp at *
  |hm m=>intro h;rw[za4]at h <;> simp at *
  |hc c l ih =>
   intro h;rw[za4,zcZ,Cp]at h
   obtain⟨u,hu,h⟩:=h;obtain⟨t,ht⟩:=ih u hu h;exact⟨t,.kid _ u _ hu ht⟩
  |hn a b iha ihb =>
   intro h;rw[za4,Cu]at h
   rcases h with h|h
   ·obtain⟨t,ht⟩:=iha h;exact⟨t,.kid _ a _ (by simp[zai]) ht⟩
   ·obtain⟨t,ht⟩:=ihb h;exact⟨t,.kid _ b _ (by simp[zai]) ht⟩
  |ha t ih=>intro _;exact⟨t,.refl _⟩
 ·rintro⟨t,h⟩
  generalize he:Dt.all t=e at h;induction h with
  |refl d=>subst he;rw[za4]
  |kid d u e hu _ ih =>
   have:=ih he;cases d with
   |con c l=>rw[za4,zcZ,Cp];exact⟨u,hu,this⟩
   |fn a b =>
    simp[zai]at hu
    rw[za4,Cu]
    rcases hu with rfl|rfl
    ·exact .inl this
    ·exact .inr this
   |all t=>rw[za4]
   |_=>cases hu
theorem Wi.bv(d:Dt):bvD d=true↔∃i,Wi d (.bv i):=by
 constructor
 ·induction d using Dt.ind with
  |hf x=>intro h;rw[bvD]at h <;> simp at *
  |hb i=>intro _;exact⟨i,.refl _⟩
  |hm m=>intro h;rw[bvD]at h <;> simp at *
  |hc c l ih =>
   intro h;rw[bvD,zeu,Cp]at h
   obtain⟨u,hu,h⟩:=h;obtain⟨t,ht⟩:=ih u hu h;exact⟨t,.kid _ u _ hu ht⟩
  |hn a b iha ihb =>
   intro h;rw[bvD,Cu]at h
   rcases h with h|h
   ·obtain⟨t,ht⟩:=iha h;exact⟨t,.kid _ a _ (by simp[zai]) ht⟩
   ·obtain⟨t,ht⟩:=ihb h;exact⟨t,.kid _ b _ (by simp[zai]) ht⟩
  |ha t ih =>
   intro h;rw[bvD]at h
   obtain⟨i,hi⟩:=ih h;exact⟨i,.kid _ t _ (by simp[zai]) hi⟩
 ·rintro⟨i,h⟩
  generalize he:Dt.bv i=e at h;induction h with
  |refl d=>subst he;rw[bvD]
  |kid d u e hu _ ih =>
   have:=ih he;cases d with
   |con c l=>rw[bvD,zeu,Cp];exact⟨u,hu,this⟩
   |fn a b =>
    simp[zai]at hu
    rw[bvD,Cu]
    rcases hu with rfl|rfl
    ·exact .inl this
    ·exact .inr this
   |all t=>simp[zai]at hu;subst hu;rw[bvD];exact this
   |_=>cases hu
theorem Rch.cons {G:Nat->Option Nd} {hd:Nat->Nat} {p c q:Nat} {x:Nd}(hx:G p=some x)(hc:c∈x.kids)(h:Rch G hd (hd c) q):Rch G hd p q:=by
 generalize hr:hd c=r at h;induction h with
 |refl=>rw[<-hr];exact .step p p c x (.refl p) hx hc
 |step q k y _ hy hk ih=>exact .step p q k y ih hy hk
def GV(G:Nat->Option Nd)(hd:Nat->Nat)(k:Sb)(q:Nat)(D:Dt):Prop :=
 (∃env d ns,Tr G env q d ns/\(∀i,d≠.bv i)/\(∀x∈ns,hd x=x)/\(∀c∈env,∃nm,G (hd c)=some ⟨1,nm,0,[],none,true⟩)/\D=ap k d)\/((∃i,D=.bv i)/\∃nm,G q=some ⟨1,nm,0,[],none,true⟩)
section
variable {G:Nat->Option Nd} {L:List Nat} {hd:Nat->Nat} {k:Sb} {Ns O:List Nat}
theorem HdS.gv(S:HdS G L hd k Ns O) {env:List Nat} {p:Nat} {d:Dt} {ns:List Nat}(h:Tr G env p d ns)(hn:∀x∈ns,hd x=x)(he:∀c∈env,∃nm,G (hd c)=some ⟨1,nm,0,[],none,true⟩):GV G hd k (hd p) (ap k d):=by
 by_cases hp:Plain d
 ·obtain⟨-,oD⟩:=h.plain hp
  obtain⟨d',h1,h2,h3⟩:=S.pl p d (oD []) hp;exact .inl ⟨[],d',[],h1,λi e=>zaL i (e▸h2),(λx hx=>by cases hx),(λx hx=>by cases hx),h3⟩
 ·by_cases hb:∃i,d=.bv i
  ·obtain⟨i,rfl⟩:=hb
   cases h with
   |bv _ _ nm _ hG hi=>exact .inr ⟨⟨i,zbL k i⟩,he p (AX (zgV p env i hi))⟩
   |app _ _ _ _ _ ha _ _ _ _=>simp[App,kdD]at ha
  ·have hb:∀i,d≠.bv i:=λi e=>hb ⟨i,e⟩
   rw[hn p (h.self_mem hp hb)]
   exact .inl ⟨env,d,ns,h,hb,hn,he,rfl⟩
theorem HdS.gv_kids(S:HdS G L hd k Ns O) {q:Nat} {D:Dt}(h:GV G hd k q D)(hq:hd q=q) {x:Nd}(hx:G q=some x):(∀c∈x.kids,∃u∈zai D,GV G hd k (hd c) u)/\(∀u∈zai D,∃c∈x.kids,GV G hd k (hd c) u):=by
 rcases h with⟨env,d,ns,ht,hb,hn,he,rfl⟩|⟨⟨i,rfl⟩,nm,hG⟩
 ·cases ht with
  |fv _ _ y hy =>
   rw[hy]at hx;injection hx with hx;subst hx
   rw[zbt]
   exact⟨(λc hc=>by cases hc),(λu hu=>by cases hu)⟩
  |bv _ _ _ i _ _=>exact absurd rfl (hb i)
  |mt _ _ n hy =>
   rw[hy]at hx;injection hx with hx;subst hx
   rw[zaz,S.un q n hy hq]
   exact⟨(λc hc=>by cases hc),(λu hu=>by cases hu)⟩
  |app _ _ _ ps aN ha hy h1 h2 h3 =>
   rw[hy]at hx;injection hx with hx;subst hx
   rw[(ha.ap k).2.2.2]
   have key:∀i (i1:i<ps.length) (i2:i<(zai d).length),GV G hd k (hd ps[i]) (ap k (zai d)[i]):=λi i1 i2=>by
    refine S.gv (h3 i _ _ _ (Ak i1) (Ak i2) (Ak (show i<aN.length by omega))) (λx hx=>hn x (Bh _ (List.mem_flatten.2 ⟨_,Bd _,hx⟩))) he
   constructor
   ·intro c hc
    obtain⟨i,hi,rfl⟩:=AS.1 (show c∈ps from hc);exact⟨_,AM.2 ⟨_,Bd (show i<(zai d).length by omega),rfl⟩,key i hi (by omega)⟩
   ·intro u hu
    obtain⟨u,my,rfl⟩:=AM.1 hu;obtain⟨i,hi,rfl⟩:=AS.1 my;exact⟨_,Bd (show i<ps.length by omega),key i (by omega) hi⟩
  |all _ _ y t qq c ns hy hc ht =>
   rw[hy]at hx;injection hx with hx;subst hx
   rw[zaJ]
   have key:GV G hd k (hd qq) (ap k t):=S.gv ht (λx hx=>hn x (by simp[hx])) (λz hz=>by
    rcases An.1 hz with e|hz
    ·obtain⟨nm,hc⟩:=hc
     rw[e,hn c (by simp)]
     exact⟨nm,hc⟩
    ·exact he z hz)
   exact⟨λz hz=>by rw[AJ.1 hz];exact⟨_,by simp[zai],key⟩,λu hu=>by simp[zai]at hu;subst hu;exact⟨qq,by simp,key⟩⟩
 ·rw[hG]at hx;injection hx with hx;subst hx
  exact⟨(λc hc=>by cases hc),(λu hu=>by cases hu)⟩
theorem HdS.rch_to(S:HdS G L hd k Ns O) {p q:Nat} {D:Dt}(hp:GV G hd k p D)(hh:hd p=p)(h:Rch G hd p q):hd q=q/\∃E,Wi D E/\GV G hd k q E:=by
 induction h with
 |refl=>exact⟨hh,D,.refl D,hp⟩
 |step q c x _ hx hc ih =>
  obtain⟨h1,E,h2,h3⟩:=ih;obtain⟨u,hu,hg⟩:=(S.gv_kids h3 h1 hx).1 c hc;exact⟨S.gr.idm _,u,h2.tail hu,hg⟩
theorem HdS.rch_of(S:HdS G L hd k Ns O) {D E:Dt}(h:Wi D E):∀ {p:Nat},GV G hd k p D->hd p=p->(∃x,G p=some x)->∃q,Rch G hd p q/\hd q=q/\GV G hd k q E:=by
 induction h with
 |refl d=>exact fun {p} hp hh _=>⟨p,.refl p,hh,hp⟩
 |kid d u e hu _ ih =>
  intro p hp hh hx;obtain⟨x,hx⟩:=hx;obtain⟨c,hc,hg⟩:=(S.gv_kids hp hh hx).2 u hu;obtain⟨y,hy⟩:=S.gr.kin p x hx c hc;obtain⟨q,h1,h2,h3⟩:=ih hg (S.gr.idm c) (S.gr.hin c y hy);exact⟨q,h1.cons hx hc,h2,h3⟩
theorem HdS.gv_mt(S:HdS G L hd k Ns O) {q n:Nat}(h:GV G hd k q (.mt n))(hq:hd q=q):G q=some ⟨2,⟨#[]⟩,n,[],none,false⟩:=by
 rcases h with⟨env,d,ns,ht,hb,hn,he,hD⟩|⟨⟨i,h⟩,_⟩
 ·cases d with
  |mt m =>
   cases ht with
   |mt _ _ _ hy =>
    rw[zaz,S.un q m hy hq]at hD
    injection hD with hD;rw[hD]
    exact hy
   |app _ _ _ _ _ ha _ _ _ _=>simp[App,kdD]at ha
  |fv x=>rw[zbt]at hD;cases hD
  |bv x=>rw[zbL]at hD;cases hD
  |con c l=>rw[za9]at hD;cases hD
  |fn a b=>rw[zbp]at hD;cases hD
  |all t=>rw[zaJ]at hD;cases hD
 ·cases h
theorem HdS.mt_gv(S:HdS G L hd k Ns O) {q n:Nat} {D:Dt}(h:GV G hd k q D)(hq:hd q=q)(hG:G q=some ⟨2,⟨#[]⟩,n,[],none,false⟩):D=.mt n:=by
 rcases h with⟨env,d,ns,ht,hb,hn,he,rfl⟩|⟨_,nm,h⟩
 ·have:d=.mt n:=(Tr.mt [] q n hG).det (za5 n) ht
  rw[this,zaz,S.un q n hG hq]
 ·rw[hG]at h;simp at h
theorem zqo {q:Nat} {D:Dt}(h:GV G hd k q D):(∃t,D=.all t)->∃x,G q=some x/\x.kd=5\/∃n,G q=some ⟨2,⟨#[]⟩,n,[],none,false⟩:=by
 rintro⟨t,hD⟩;rcases h with⟨env,d,ns,ht,hb,hn,he,hD'⟩|⟨⟨i,h⟩,_⟩
 ·obtain⟨x,h1,h2,_,_,h5,_⟩:=ht.node
  by_cases e:kdD d=2
  ·obtain⟨n,rfl⟩:=zd2 e
   cases ht with
   |mt _ _ _ hy=>exact⟨x,.inr ⟨n,hy⟩⟩
   |app _ _ _ _ _ ha _ _ _ _=>simp[App,kdD]at ha
  ·refine⟨x,.inl ⟨h1,?_⟩⟩
   rw[h2,<-zbC k e,<-hD',hD]
   rfl
 ·rw[hD]at h;cases h
theorem zqp {q:Nat} {D:Dt}(h:GV G hd k q D) {x:Nd}(hx:G q=some x)(h5:x.kd=5):∃t,D=.all t:=by
 rcases h with⟨env,d,ns,ht,hb,hn,he,rfl⟩|⟨_,nm,h⟩
 ·obtain⟨y,h1,h2,_⟩:=ht.node
  rw[hx]at h1;injection h1 with h1;subst h1
  have:kdD d=5:=by rw[<-h2];exact h5
  cases d <;> simp[kdD]at this
  exact⟨_,zaJ _ _⟩
 ·rw[hx]at h;injection h with h;subst h;simp at h5
theorem zp8 {q:Nat} {D:Dt}(h:GV G hd k q D) {x:Nd}(hx:G q=some x)(hn:x.new=true):∃i,D=.bv i:=by
 rcases h with⟨env,d,ns,ht,hb,_,he,rfl⟩|⟨h,_⟩
 ·obtain⟨y,h1,_,_,_,_,h6⟩:=ht.node
  rw[hx]at h1;injection h1 with h1;subst h1
  obtain⟨i,hi⟩:=h6.1 hn;exact absurd hi (hb i)
 ·exact h
theorem HdS.gv_new(S:HdS G L hd k Ns O) {q i:Nat}(h:GV G hd k q (.bv i))(hq:hd q=q):∃nm,G q=some ⟨1,nm,0,[],none,true⟩:=by
 rcases h with⟨env,d,ns,ht,hb,hn,he,hD⟩|⟨_,h⟩
 ·exfalso
  cases d with
  |mt m =>
   cases ht with
   |mt _ _ _ hy=>rw[zaz,S.un q m hy hq]at hD;cases hD
   |app _ _ _ _ _ ha _ _ _ _=>simp[App,kdD]at ha
  |fv x=>rw[zbt]at hD;cases hD
  |bv x=>exact hb x rfl
  |con c l=>rw[za9]at hD;cases hD
  |fn a b=>rw[zbp]at hD;cases hD
  |all t=>rw[zaJ]at hD;cases hD
 ·exact h
theorem HdS.ag(S:HdS G L hd k Ns O)(gs:GrS G) {m t n:Nat} {D:Dt}(hm:G m=some ⟨2,⟨#[]⟩,n,[],none,false⟩)(hg:GV G hd k t D)(ht:hd t=t)(hx:∃x,G t=some x) {r:Int}(h:AgR G hd t m r):r=(bad n D:Nat):=by
 have e1:n∈zaO D []↔Rch G hd (hd t) m:=by
  rw[ht,zbc]
  simp only[AT,false_or];rw[Wi.occ]
  constructor
  ·intro h
   obtain⟨q,h1,h2,h3⟩:=S.rch_of h hg ht hx;rw[<-gs.uu _ _ _ (S.gv_mt h3 h2) hm]
   exact h1
  ·intro h
   obtain⟨h1,E,h2,h3⟩:=S.rch_to hg ht h;rw[S.mt_gv h3 h1 hm]at h2
   exact h2
 have e2:za4 D=true↔zgk G hd t:=by
  rw[Wi.poly]
  unfold zgk;rw[ht]
  constructor
  ·rintro⟨u,h⟩
   obtain⟨q,h1,h2,h3⟩:=S.rch_of h hg ht hx;obtain⟨x,h4|⟨j,h4⟩⟩:=zqo h3 ⟨u,rfl⟩
   ·exact⟨q,x,h1,h4⟩
   ·have:=S.mt_gv h3 h2 h4
    cases this
  ·rintro⟨q,x,h1,h2,h3⟩
   obtain⟨h4,E,h5,h6⟩:=S.rch_to hg ht h1;obtain⟨u,rfl⟩:=zqp h6 h2 h3;exact⟨u,h5⟩
 have e3:bvD D=true↔NewR G hd t:=by
  rw[Wi.bv]
  unfold NewR;rw[ht]
  constructor
  ·rintro⟨i,h⟩
   obtain⟨q,h1,h2,h3⟩:=S.rch_of h hg ht hx;obtain⟨nm,h4⟩:=S.gv_new h3 h2;exact⟨q,_,h1,h4,rfl⟩
  ·rintro⟨q,x,h1,h2,h3⟩
   obtain⟨h4,E,h5,h6⟩:=S.rch_to hg ht h1;obtain⟨i,rfl⟩:=zp8 h6 h2 h3;exact⟨i,h5⟩
 unfold bad;rcases h with⟨rfl,h⟩|⟨h1,⟨rfl,h⟩|⟨h2,⟨rfl,h⟩|⟨rfl,h⟩⟩⟩
 ·rw[Aq (e1.2 h)];rfl
 ·rw[Am (λe=>h1 (e1.1 e)),Aq (e2.2 h)];rfl
 ·rw[Am (λe=>h1 (e1.1 e)),Am (λe=>h2 (e2.1 e)),Aq (e3.2 h)];rfl
 ·rw[Am (λe=>h1 (e1.1 e)),Am (λe=>h2 (e2.1 e)),Am (λe=>h (e3.1 e))];rfl
end
end Go.Proofs.YtfafilmklhnngaaGreatDoor
namespace Go.Proofs.YtfafilmklhnngaaGreatDoor
open Lx Tx
set_option maxRecDepth 100000
theorem zhL(k:Sb) {d:Dt}(h:kdD d≠2)(n:Nat):ap k d≠.mt n:=λe=>by
 have:=zbC k h;rw[e]at this
 exact h this.symm
theorem zoB {m:Nat} {y:Dt}(h:∀n,y≠.mt n):act (.mt m) y=.learn m y:=by
 cases y with
 |mt n=>exact absurd rfl (h n)
 |_=>rfl
theorem zmT {m:Nat} {x:Dt}(h:∀n,x≠.mt n):act x (.mt m)=.learn m x:=by
 cases x with
 |mt n=>exact absurd rfl (h n)
 |_=>rfl
theorem EnvOK.new {G:Nat->Option Nd} {L:List Nat} {hd:Nat->Nat} {k:Sb} {Ns O el er:List Nat}(h:EnvOK hd O el er)(S:HdS G L hd k Ns O):(∀c∈el,∃nm,G (hd c)=some ⟨1,nm,0,[],none,true⟩)/\(∀c∈er,∃nm,G (hd c)=some ⟨1,nm,0,[],none,true⟩):=by
 constructor
 ·intro c hc
  obtain⟨i,hi,rfl⟩:=AS.1 hc;obtain⟨b,_,h2,h3⟩:=h.left i _ (Ak hi);rw[h2]
  exact(S.oc b h3).1
 ·intro c hc
  obtain⟨i,hi,rfl⟩:=AS.1 hc;obtain⟨b,_,h2,h3⟩:=h.right i _ (Ak hi);rw[h2]
  exact(S.oc b h3).1
theorem HV.gv {G:Nat->Option Nd} {L:List Nat} {hd:Nat->Nat} {k:Sb} {Ns O:List Nat}(S:HdS G L hd k Ns O) {e er:List Nat} {h:Nat} {d:Dt} {ns:List Nat}(v:HV G e er h d ns)(hn:∀x∈ns,x∈Ns)(he:∀c∈e,∃nm,G (hd c)=some ⟨1,nm,0,[],none,true⟩):GV G hd k h (ap k d):=by
 rcases v with⟨t,b⟩|⟨-,i,nm,rfl,_,hG⟩
 ·exact .inl ⟨e,d,ns,t,b,λx hx=>S.nh x (hn x hx),he,rfl⟩
 ·exact .inr ⟨⟨i,zbL k i⟩,nm,hG⟩
theorem HV.mt {G:Nat->Option Nd} {e er:List Nat} {h n:Nat} {ns:List Nat}(v:HV G e er h (.mt n) ns):G h=some ⟨2,⟨#[]⟩,n,[],none,false⟩:=by
 rcases v with⟨t,b⟩|⟨-,i,nm,e,_,_⟩
 ·cases t with
  |mt _ _ _ h=>exact h
  |app _ _ _ _ _ ha _ _ _ _=>simp[App,kdD]at ha
 ·cases e
theorem HV.plain {G:Nat->Option Nd} {e er:List Nat} {h:Nat} {d:Dt} {ns:List Nat}(v:HV G e er h d ns)(hp:Plain d):Tr G [] h d []:=by
 rcases v with⟨t,b⟩|⟨-,i,nm,e,_,_⟩
 ·exact(t.plain hp).2 []
 ·rw[e]at hp;exact absurd hp (zaL i)
theorem Sim.learnt {G:Nat->Option Nd} {L:List Nat} {hd:Nat->Nat} {k:Sb} {N' nl nr O:List Nat} {dl dr a b:Dt} {E' gF:List (Dt × Dt)} {r:List Eqn} {f' m t n:Nat} {dt:Dt} {o:Nat ⊕ Sb}(gs:GrS G)(S:HdS G L hd k (nl++nr++N') O)
  (h4:EntOK G hd O (λs=>Absorbs s k/\ap s dl=ap s dr) r E' N')(hu:unF (f'+1) ((a,b)::gF) k=some o)(ha:ap k a=ap k dl)(hb:ap k b=ap k dr)(hm:gF.map (apP k)=E'.map (apP k))
  (fh:act (ap k a) (ap k b)=.learn n (ap k dt))(hG:G m=some ⟨2,⟨#[]⟩,n,[],none,false⟩)(dY:hd m=m)(wu:hd t=t)(fU:m≠t)(hg:GV G hd k t (ap k dt))(hx:∃y,G t=some y)(htr:Plain dt->Tr G [] t dt [])
  {e:Int} (dF:AgR G hd t m e):(e=0->∃k',(∃j u,k'=upd j u k)/\Sim G L (hdL hd m t) k' r f' o)/\(e≠0->o=.inl e.toNat):=by
 have ti:=S.ag gs hG hg wu hx dF;rw[unF,fh]at hu
 simp only at hu;have bW:=S.un m n hG dY;constructor
 ·intro he
  have aE:bad n (ap k dt)=0:=by rw[he]at ti;omega
  rw[Aq aE]at hu
  obtain⟨iX,cS⟩:=(zdn _ _).1 aE;have bB:Plain dt:=((zcu k dt).1 cS).1;have iE:ap k (ap k dt)=ap k dt:=zba S.ki dt;obtain⟨y,hy⟩:=hx;have hlf:=zbI S.ki fh;have hmN:m∉nl++nr++N':=λh=>S.np m h _ _ _ (Tr.mt [] m n hG) (za5 n);have xk:m∉O:=λh=>by
   obtain⟨⟨nm,h⟩,-⟩:=S.oc m h;rw[hG]at h;simp at h
  have mA:ap (upd n (ap k dt) k) dt=ap k dt:=by rw[zbi,zfP _ _ _ iX]
  refine⟨upd n (ap k dt) k,⟨n,_,rfl⟩,E',gF,N',O,?_,?_,hu,?_⟩
  ·refine⟨S.gr.link wu fU hy,λp d h hp=>?_,λp j h hp=>?_,(zb1 S.nd).1,λx hx=>?_,λx hx=>S.np x (by simp[hx]),λc hc=>⟨(S.oc c hc).1,λh=>(S.oc c hc).2 (by simp[h])⟩,zdo S.ki iE iX,λj=>?_⟩
   ·obtain⟨d',h1,h2,h3⟩:=S.pl p d h hp
    by_cases e:hd p=m
    ·rw[zc6 e]
     rw[e]at h1
     have:=(Tr.mt [] m n hG).det (za5 n) h1;subst this;refine⟨dt,htr bB,bB,?_⟩;rw[mA,zbi,h3,zaz,bW,zaz,zaX]
    ·rw[zbB e]
     exact⟨d',h1,h2,by rw[zbi,zbi,h3]⟩
   ·have df:=zgW wu hp
    have hpm:p≠m:=λe=>by rw[e,zc6 dY]at hp;exact fU hp.symm
    have hj:j≠n:=λe=>hpm (gs.uu _ _ _ h (e▸hG));show ap (fil n (ap k dt)) (k j)=.mt j;rw[S.un p j h df,zaz,zaN _ _ _ hj]
   ·rw[zbB]
    ·exact S.nh x (by simp[hx])
    ·rw[S.nh x (by simp[hx])];exact λe=>hmN (by rw[<-e];simp[hx])
   ·show Plain (ap (fil n (ap k dt)) (k j))
    rw[zcu]
    refine⟨S.kp j,λi _=>?_⟩;by_cases hi:i=n
    ·rw[hi,zaX];exact cS
    ·rw[zaN _ _ _ hi];exact za5 i
  ·refine(h4.link xk (λ_ h=>h)).mono r λs hs=>?_
   obtain⟨h1,h2⟩:=zd1 hs bW;refine⟨h1,?_⟩;rw[<-h1.ap dl,<-h1.ap dr,<-ha,<-hb]
   obtain⟨(⟨g1,g2⟩|⟨g1,g2⟩),_⟩:=zcc fh
   ·rw[g1,<-g2,zaz];exact h2
   ·rw[g1,<-g2,zaz];exact h2.symm
  ·have:∀p:Dt × Dt,apP (upd n (ap k dt) k) p=(ap (fil n (ap k dt)) (apP k p).1,ap (fil n (ap k dt)) (apP k p).2):=λp=>by simp[apP,zbi]
   have e:∀l:List (Dt × Dt),l.map (apP (upd n (ap k dt) k))=(l.map (apP k)).map (λp=>(ap (fil n (ap k dt)) p.1,ap (fil n (ap k dt)) p.2)):=λl=>by
    rw[Cc];exact CJ λp _=>this p
   rw[e,e,hm]
 ·intro he
  have aE:bad n (ap k dt)≠0:=λh=>he (by rw[ti,h];rfl);rw[Am aE]at hu
  injection hu with hu;rw[<-hu,ti]
  rfl
theorem Sim.learn {G:Nat->Option Nd} {L:List Nat} {hd:Nat->Nat} {k:Sb} {q:Eqn} {r:List Eqn} {f:Nat} {o:Nat ⊕ Sb}(gs:GrS G)(h:Sim G L hd k (q::r) f o)(hq:q.d=false)(af:hd q.l≠hd q.r) {x y:Nd}(hx:G (hd q.l)=some x)(hy:G (hd q.r)=some y)
  (hk:x.kd=2\/y.kd=2) {e:Int}(dF:AgR G hd (lrn (hd q.l) (hd q.r) x y).2 (lrn (hd q.l) (hd q.r) x y).1 e):(e=0->∃f' k',msr f' r<msr f (q::r)/\(∃j u,k'=upd j u k)/\Sim G L (hdL hd (lrn (hd q.l) (hd q.r) x y).1 (lrn (hd q.l) (hd q.r) x y).2) k' r f' o)/\(e≠0->o=.inl e.toNat):=by
 obtain⟨el,er,dl,dr,nl,nr,E',N',O,a,b,gF,f',S,h1,h2,h3,h4,rfl,hu,ha,hb,hm⟩:=h.uncons hq;obtain⟨d',v1,e1,p1,n1⟩:=S.head h1.left h2 (λx hx=>by simp[hx]);obtain⟨e',v2,e2,p2,n2⟩:=S.head h1.right h3 (λx hx=>by simp[hx]);obtain⟨x',eH,x1,x2,x3,x4⟩:=v1.node;obtain⟨y',gd,y1,y2,y3,y4⟩:=v2.node;rw[hx]at eH;injection eH with eH;subst eH
 rw[hy]at gd;injection gd with gd;subst gd
 have g1:=v1.gv S (λx hx=>by simp[hx]) (h1.new S).1;have g2:=v2.gv S (λx hx=>by simp[hx]) (h1.new S).2;have hmu:msr f' r<msr (f'+1) (q::r):=by unfold msr;simp[hq]
 have jW:∀m t n dt,lrn (hd q.l) (hd q.r) x y=(m,t)->act (ap k a) (ap k b)=.learn n (ap k dt)->G m=some ⟨2,⟨#[]⟩,n,[],none,false⟩->hd m=m->hd t=t->m≠t->GV G hd k t (ap k dt)->(∃y,G t=some y)->(Plain dt->Tr G [] t dt []) ->
   (e=0->∃f'' k',msr f'' r<msr (f'+1) (q::r)/\(∃j u,k'=upd j u k)/\Sim G L (hdL hd (lrn (hd q.l) (hd q.r) x y).1 (lrn (hd q.l) (hd q.r) x y).2) k' r f'' o)/\(e≠0->o=.inl e.toNat):=by
  intro m t n dt hl fh hG dY wu fU hg hxt htr;rw[hl]at dF ⊢
  obtain⟨c1,c2⟩:=Sim.learnt gs S h4 hu ha hb hm fh hG dY wu fU hg hxt htr dF;exact⟨λh0=>by obtain⟨k',c0,c⟩:=c1 h0;exact⟨f',k',hmu,c0,c⟩,c2⟩
 by_cases hxk:x.kd=2
 ·obtain⟨n,rfl⟩:=zd2 (by rw[<-x1];exact hxk:kdD d'=2)
  have lE:=v1.mt;have bW:=S.un _ _ lE (S.gr.idm _);have hxn:=x4 n rfl;by_cases oY:y.kd=2
  ·obtain⟨j,rfl⟩:=zd2 (by rw[<-y1];exact oY:kdD e'=2)
   have vl:=v2.mt;have re:=S.un _ _ vl (S.gr.idm _);have hyn:=y4 j rfl;have hnj:n≠j:=λe=>af (gs.uu _ _ _ lE (e▸vl));by_cases ah:n<j
   ·refine jW (hd q.r) (hd q.l) j (.mt n) ?_ ?_ vl (S.gr.idm _) (S.gr.idm _) (Cw af) g1 ⟨_,hx⟩ (λh=>v1.plain h)
    ·unfold lrn;rw[Aq (.inr ⟨oY,by omega⟩)]
    ·rw[ha,hb,e1,e2,zaz,zaz,bW,re]
     show(if n=j then _ else _)=_;rw[Am hnj,Am (by omega)]
   ·refine jW (hd q.l) (hd q.r) n (.mt j) ?_ ?_ lE (S.gr.idm _) (S.gr.idm _) af g2 ⟨_,hy⟩ (λh=>v2.plain h)
    ·unfold lrn;rw[Am (by rintro(h|⟨_,h⟩);exact h hxk;omega)]
    ·rw[ha,hb,e1,e2,zaz,zaz,bW,re]
     show(if n=j then _ else _)=_;rw[Am hnj,Aq (by omega)]
  ·refine jW (hd q.l) (hd q.r) n e' ?_ ?_ lE (S.gr.idm _) (S.gr.idm _) af g2 ⟨_,hy⟩ (λh=>v2.plain h)
   ·unfold lrn;rw[Am (by rintro(h|⟨h,_⟩);exact h hxk;exact oY h)]
   ·rw[ha,hb,e1,e2,zaz,bW]
    exact zoB (zhL k (by rw[<-y1];exact oY))
 ·have oY:y.kd=2:=by rcases hk with h|h;exact absurd h hxk;exact h
  obtain⟨j,rfl⟩:=zd2 (by rw[<-y1];exact oY:kdD e'=2);have vl:=v2.mt;have re:=S.un _ _ vl (S.gr.idm _);refine jW (hd q.r) (hd q.l) j d' ?_ ?_ vl (S.gr.idm _) (S.gr.idm _) (Cw af) g1 ⟨_,hx⟩ (λh=>v1.plain h)
  ·unfold lrn;rw[Aq (.inl hxk)]
  ·rw[ha,hb,e1,e2,zaz,re]
   exact zmT (zhL k (by rw[<-x1];exact hxk))
set_option maxRecDepth 100000
theorem zgY(env:List Name):(l:List Ty)->dbL env l=l.map (db env)
 |[]=>by rw[dbL];rfl
 |t::r=>by rw[dbL,zgY env r];rfl
theorem zp9(env:List Name) {t:Ty}(h:kd t=3\/kd t=4):App (db env t)/\kdD (db env t)=kd t/\nmD (db env t)=nmB t/\zai (db env t)=(kids t).map (db env):=by
 cases t <;> simp[kd]at h
 ·rw[db,zgY];exact⟨.inl rfl,rfl,rfl,rfl⟩
 ·rw[db];exact⟨.inr rfl,rfl,rfl,rfl⟩
theorem zja {G:Nat->Option Nd} {cs:List Nat} {xs:List Name} :(ps:List Nat)->(us:List Ty)->(aN:List (List Nat))->ps.length=us.length->aN.length=us.length ->
  (∀(i q:Nat)(u:Ty)(ns:List Nat),ps[i]?=some q->us[i]?=some u->aN[i]?=some ns->∃cW,Tr G cs q (db xs u) cW/\cW.Sublist ns) ->
  ∃dN:List (List Nat),dN.length=us.length/\(∀(i q:Nat) (u:Dt) (ns:List Nat),ps[i]?=some q->(us.map (db xs))[i]?=some u->dN[i]?=some ns->Tr G cs q u ns)/\dN.flatten.Sublist aN.flatten
 |[],[],aN,_,h,_=>⟨[],rfl,λi q u ns h=>by simp at h,by simp⟩
 |[],_::_,_,h,_,_=>by simp at h
 |_::_,[],_,h,_,_=>by simp at h
 |_::_,_::_,[],_,h,_=>by simp at h
 |p::ps,u::us,ns::aN,h1,h2,hh=>by
  obtain⟨cW,a1,a2⟩:=hh 0 p u ns rfl rfl rfl;obtain⟨dN,b1,b2,b3⟩:=zja ps us aN (by simpa using h1) (by simpa using h2) (λi q u ns a b c=>hh (i+1) q u ns (by simpa using a) (by simpa using b) (by simpa using c));refine⟨cW::dN,by simp[b1],λi q u ns a b c=>?_,?_⟩
  ·cases i with
   |zero=>simp at a b c;rw[<-a,<-b,<-c];exact a1
   |succ i=>exact b2 i q u ns (by simpa using a) (by simpa using b) (by simpa using c)
  ·rw[BE,BE]
   exact List.Sublist.append a2 b3
theorem LayT.tr {G:Nat->Option Nd} {U:Nat->Option Nat} {V:Name->Option Nat} {p:Nat} {t:Ty} {ns:List Nat}(h:LayT G U V p t ns):∀(xs:List Name)(cs:List Nat)(V0:Name->Option Nat),xs.length=cs.length->cs.Nodup ->
  (∀x,V x=match idx x xs with|some i=>cs[i]? | none=>V0 x)->(∀x p,V0 x=some p->G p=some ⟨1,⟨x.toArray⟩,0,[],none,false⟩)->(∀c∈cs,∃nm,G c=some ⟨1,nm,0,[],none,true⟩)->(∀n p,U n=some p->G p=some ⟨2,⟨#[]⟩,n,[],none,false⟩) ->
  ns.Nodup->(∀c∈cs,c∉ns)->∃cW,Tr G cs p (db xs t) cW/\cW.Sublist ns:=by
 induction h with
 |var V p x h =>
  intro xs cs V0 hl hn hV hv hc hu _ _;rw[hV x]at h
  rw[db]
  cases hi:idx x xs with
  |some i =>
   rw[hi]at h
   obtain⟨nm,hG⟩:=hc p (AX h);exact⟨[],.bv _ _ nm i hG (zfk p cs hn i h),Cl _⟩
  |none =>
   rw[hi]at h
   exact⟨[],.fv _ _ x (hv x p h),Cl _⟩
 |mt V p n h =>
  intro xs cs V0 hl hn hV hv hc hu _ _;rw[db]
  exact⟨[],.mt _ _ n (hu n p h),Cl _⟩
 |app V p t ps aN h1 h2 h3 h4 h5 ih =>
  intro xs cs V0 hl hn hV hv hc hu dQ hcn;obtain⟨a1,a2,a3,a4⟩:=zp9 xs h1;rw[A6]at dQ
  obtain⟨dN,b1,b2,b3⟩:=zja ps (kids t) aN h3 h4 (λi q u ns a b c=>by
   have hs:=CI (AX c);exact ih i q u ns a b c xs cs V0 hl hn hV hv hc hu (List.Nodup.sublist hs dQ.2) (λz hz hm=>hcn z hz (Ar _ (hs.subset hm))))
  refine⟨_,Tr.app cs p (db xs t) ps dN a1 (by rw[a2,a3];exact h2) (by rw[a4,AR];exact h3) (by rw[a4,AR];exact b1) (λi q u ns a b c=>b2 i q u ns a (by rw[<-a4];exact b) c),?_⟩;by_cases hp:Plain (db xs t)
  ·rw[zew hp];exact List.Sublist.cons _ b3
  ·rw[zcQ hp];exact List.Sublist.cons_cons _ b3
 |all V p x t q c ns h1 h2 h3 ih =>
  intro xs cs V0 hl hn hV hv hc hu dQ hcn;rw[A6,A6]at dQ
  obtain⟨cW,a1,a2⟩:=ih (x::xs) (c::cs) V0 (by simp[hl]) (A6.2 ⟨λh=>hcn c h (by simp),hn⟩) (λy=>by
   by_cases e:y=x
   ·rw[e,zal,idx,Aq rfl];rfl
   ·rw[zac _ _ _ _ e,idx,Am e,hV y]
    cases idx y xs with
    |none=>rfl
    |some i=>simp) hv (λz hz=>by
    rcases An.1 hz with e|hz
    ·rw[e];exact⟨_,h2⟩
    ·exact hc z hz) hu dQ.2.2 (λz hz hm=>by
    rcases An.1 hz with e|hz
    ·rw[e]at hm;exact dQ.2.1 hm
    ·exact hcn z hz (by simp[hm]))
  rw[db]
  exact⟨p::c::cW,.all _ _ _ _ q c cW h1 ⟨_,h2⟩ a1,List.Sublist.cons_cons _ (List.Sublist.cons_cons _ a2)⟩
def rst(G:Nat->Option Nd)(L:List Nat)(p:Nat):Option Nd:=if p∈L then G p else none
theorem zjb {G:Nat->Option Nd} {L:List Nat} {p:Nat}(h:p∈L):rst G L p=G p:=Aq h
theorem zbD {G:Nat->Option Nd} {L:List Nat} {p:Nat} {x:Nd}(h:rst G L p=some x):p∈L/\G p=some x:=by
 unfold rst at h;by_cases e:p∈L
 ·rw[Aq e]at h;exact⟨e,h⟩
 ·rw[Am e]at h;cases h
theorem zgx(G:Nat->Option Nd):(a b:List Nat)->wg G [] (a++b)=wg G [] a+wg G [] b
 |[],b=>by rw[AL,wg,Bo]
 |q::a,b=>by rw[AE,wg,wg,zgx G a b];omega
theorem zmU(G:Nat->Option Nd)(L:List Nat):(a:List Nat)->wg (rst G L) [] a<=wg G [] a
 |[]=>Ai _
 |q::a=>by
  have:=zmU G L a;rw[wg,wg]
  unfold rst;by_cases e:q∈L
  ·rw[Aq e]
   simp only[AT,BX];unfold rst at this;omega
  ·rw[Am e]
   simp only[AT,BX];unfold rst at this;omega
def Srt(G:Nat->Option Nd)(U:Nat->Option Nat)(V:Name->Option Nat)(q:Nat):Prop:=(∃n,U n=some q)\/(∃x,V x=some q)\/∃x,G q=some x/\x.kd≠2/\(x.kd=1->x.new=true)
structure Cls (G:Nat->Option Nd) (U:Nat->Option Nat) (V:Name->Option Nat) (L:List Nat):Prop where
 kin:∀q∈L,∃x,G q=some x/\∀c∈x.kids,c∈L
 srt:∀q∈L,Srt G U V q
theorem Cls.nil(G:Nat->Option Nd)(U:Nat->Option Nat)(V:Name->Option Nat):Cls G U V []:=⟨(λq h=>by cases h),(λq h=>by cases h)⟩
theorem Cls.app {G:Nat->Option Nd} {U:Nat->Option Nat} {V:Name->Option Nat} {a b:List Nat}(h:Cls G U V a)(k:Cls G U V b):Cls G U V (a++b) where
 kin q hq:=by
  rcases AA.1 hq with hq|hq
  ·obtain⟨x,h1,h2⟩:=h.kin q hq;exact⟨x,h1,λc hc=>By _ (h2 c hc)⟩
  ·obtain⟨x,h1,h2⟩:=k.kin q hq;exact⟨x,h1,λc hc=>Bh _ (h2 c hc)⟩
 srt q hq:=by
  rcases AA.1 hq with hq|hq
  ·exact h.srt q hq
  ·exact k.srt q hq
structure Agr (G G':Nat->Option Nd) (U U':Nat->Option Nat) (V V':Name->Option Nat) (L:List Nat):Prop where
 g:∀z∈L,G' z=G z
 u:∀n,∀z∈L,U n=some z->U' n=some z
 v:∀x,∀z∈L,V x=some z->V' x=some z
theorem Agr.sub {G G':Nat->Option Nd} {U U':Nat->Option Nat} {V V':Name->Option Nat} {L M:List Nat}(h:Agr G G' U U' V V' L)(hs:∀z∈M,z∈L):Agr G G' U U' V V' M :=
 ⟨λz hz=>h.g z (hs z hz),λn z hz=>h.u n z (hs z hz),λn z hz=>h.v n z (hs z hz)⟩
theorem Agr.upn {G G':Nat->Option Nd} {U U':Nat->Option Nat} {V V':Name->Option Nat} {L:List Nat}(h:Agr G G' U U' V V' L)(x:Name)(o:Option Nat):Agr G G' U U' (Go.Proofs.YtfafilmklhnngaaGreatDoor.upn V x o) (Go.Proofs.YtfafilmklhnngaaGreatDoor.upn V' x o) L :=
 ⟨h.g,h.u,λy z hz hy=>by
  by_cases e:y=x
  ·rw[e,zal]at hy ⊢;exact hy
  ·rw[zac _ _ _ _ e]at hy ⊢;exact h.v y z hz hy⟩
theorem zhM {G:Nat->Option Nd} {U:Nat->Option Nat} {V V0:Name->Option Nat} :(ps:List Nat)->(us:List Ty)->(aN:List (List Nat))->ps.length=us.length->aN.length=us.length ->
  (∀(i q:Nat)(u:Ty)(ns:List Nat),ps[i]?=some q->us[i]?=some u->aN[i]?=some ns->∃L,q∈L/\Cls G U V0 L/\wg G [] L+1<=3*u.size/\∀G' U' V',Agr G G' U U' V V' L->LayT G' U' V' q u ns) ->
  ∃L,(∀q∈ps,q∈L)/\Cls G U V0 L/\wg G [] L+us.length<=3*zaf us/\∀G' U' V',Agr G G' U U' V V' L->∀(i q:Nat) (u:Ty) (ns:List Nat),ps[i]?=some q->us[i]?=some u->aN[i]?=some ns->LayT G' U' V' q u ns
 |[],[],aN,_,h,_=>⟨[],(λq h=>by cases h),Cls.nil _ _ _,by simp[wg],(λG' _ _ _ i q u ns h=>by simp at h)⟩
 |[],_::_,_,h,_,_=>by simp at h
 |_::_,[],_,h,_,_=>by simp at h
 |_::_,_::_,[],_,h,_=>by simp at h
 |p::ps,u::us,ns::aN,h1,h2,hh=>by
  obtain⟨L1,a1,a2,a3,a4⟩:=hh 0 p u ns rfl rfl rfl;obtain⟨L2,b1,b2,b3,b4⟩:=zhM (V:=V) (V0:=V0) ps us aN (by simpa using h1) (by simpa using h2) (λi q u ns a b c=>hh (i+1) q u ns (by simpa using a) (by simpa using b) (by simpa using c));refine⟨L1++L2,λq hq=>?_,a2.app b2,by rw[zgx,zaf];simp;omega,λG' U' V' hG i q u ns a b c=>?_⟩
  ·rcases An.1 hq with e|hq
   ·rw[e];exact By _ a1
   ·exact Bh _ (b1 q hq)
  ·cases i with
   |zero =>
    simp at a b c;subst a b c;exact a4 G' U' V' (hG.sub λz hz=>By _ hz)
   |succ i=>exact b4 G' U' V' (hG.sub λz hz=>Bh _ hz) i q u ns (by simpa using a) (by simpa using b) (by simpa using c)
theorem zla(t:Ty):t.size=zaf (kids t)+1:=by
 cases t <;> simp[Ty.size,kids,zaf] <;> omega
theorem LayT.list {G:Nat->Option Nd} {U:Nat->Option Nat} {V:Name->Option Nat} {p:Nat} {t:Ty} {ns:List Nat}(h:LayT G U V p t ns)(V0:Name->Option Nat)(hu:∀n p,U n=some p->G p=some ⟨2,⟨#[]⟩,n,[],none,false⟩)(h0:∀x p,V0 x=some p->G p=some ⟨1,⟨x.toArray⟩,0,[],none,false⟩):(∀x p,V x=some p->V0 x=some p\/∃nm,G p=some ⟨1,nm,0,[],none,true⟩)->∃L,p∈L/\Cls G U V0 L/\wg G [] L+1<=3*t.size/\∀G' U' V',Agr G G' U U' V V' L->LayT G' U' V' p t ns:=by
 induction h with
 |var V p x h =>
  intro hv;have hG:∃y,G p=some y/\y.kids=[]:=by
   rcases hv x p h with h1|⟨nm,h1⟩
   ·exact⟨_,h0 x p h1,rfl⟩
   ·exact⟨_,h1,rfl⟩
  obtain⟨y,hy,oY⟩:=hG;refine⟨[p],by simp,⟨λq hq=>?_,λq hq=>?_⟩,?_,λG' U' V' hG=>.var V' p x (hG.v x p (by simp) h)⟩
  ·rw[AJ.1 hq];exact⟨y,hy,λc hc=>by rw[oY]at hc;cases hc⟩
  ·rw[AJ.1 hq]
   rcases hv x p h with h1|⟨nm,h1⟩
   ·exact .inr (.inl ⟨x,h1⟩)
   ·exact .inr (.inr ⟨_,h1,by simp,λ_=>rfl⟩)
  ·rw[wg,wg,hy];simp[oY,Ty.size]
 |mt V p n h =>
  intro hv;refine⟨[p],by simp,⟨λq hq=>?_,λq hq=>?_⟩,?_,λG' U' V' hG=>.mt V' p n (hG.u n p (by simp) h)⟩
  ·rw[AJ.1 hq];exact⟨_,hu n p h,λc hc=>by cases hc⟩
  ·rw[AJ.1 hq];exact .inl ⟨n,h⟩
  ·rw[wg,wg,hu n p h];simp[Ty.size]
 |app V p t ps aN h1 h2 h3 h4 h5 ih =>
  intro hv;obtain⟨L,b1,b2,b3,b4⟩:=zhM (V:=V) (V0:=V0) ps (kids t) aN h3 h4 (λi q u ns a b c=>ih i q u ns a b c hv);refine⟨p::L,by simp,⟨λq hq=>?_,λq hq=>?_⟩,?_,λG' U' V' hG=>.app V' p t ps aN h1 (by rw[hG.g p (by simp)];exact h2) h3 h4 (b4 G' U' V' (hG.sub λz hz=>by simp[hz]))⟩
  ·rcases An.1 hq with e|hq
   ·rw[e];exact⟨_,h2,λc hc=>Ar _ (b1 c hc)⟩
   ·obtain⟨x,c1,c2⟩:=b2.kin q hq;exact⟨x,c1,λc hc=>Ar _ (c2 c hc)⟩
  ·rcases An.1 hq with e|hq
   ·rw[e];exact .inr (.inr ⟨_,h2,by rcases h1 with h|h <;> simp[h],λh'=>by rcases h1 with h|h <;> simp[h]at h'⟩)
   ·exact b2.srt q hq
  ·rw[wg,h2,zla t]
   simp only[AT,BX];omega
 |all V p x t q c ns h1 h2 h3 ih =>
  intro hv;obtain⟨L,b1,b2,b3,b4⟩:=ih (λy r hy=>by
   by_cases e:y=x
   ·rw[e,zal]at hy;injection hy with hy;rw[<-hy];exact .inr ⟨_,h2⟩
   ·rw[zac _ _ _ _ e]at hy;exact hv y r hy)
  refine⟨p::c::L,by simp,⟨λz hz=>?_,λz hz=>?_⟩,?_,λG' U' V' hG=>.all V' p x t q c ns (by rw[hG.g p (by simp)];exact h1) (by rw[hG.g c (by simp)];exact h2) (b4 G' U' _ ((hG.sub λz hz=>by simp[hz]).upn x (some c)))⟩
  ·rcases An.1 hz with e|hz
   ·rw[e];exact⟨_,h1,λw hw=>by rw[AJ.1 hw];simp[b1]⟩
   ·rcases An.1 hz with e|hz
    ·rw[e];exact⟨_,h2,λw hw=>by cases hw⟩
    ·obtain⟨y,c1,c2⟩:=b2.kin z hz;exact⟨y,c1,λw hw=>by simp[c2 w hw]⟩
  ·rcases An.1 hz with e|hz
   ·rw[e];exact .inr (.inr ⟨_,h1,by simp,λh'=>by simp at h'⟩)
   ·rcases An.1 hz with e|hz
    ·rw[e];exact .inr (.inr ⟨_,h2,by simp,λ_=>rfl⟩)
    ·exact b2.srt z hz
  ·rw[wg,wg,h1,h2,Ty.size]
   simp only[AT,BX,Ao,Be];omega
def LayQ(G:Nat->Option Nd)(U:Nat->Option Nat)(V:Name->Option Nat):List (Ty × Ty)->List Eqn->List Nat->Prop
 |[],es,ns=>es=[]/\ns=[]
 |(t,u)::ts,es,ns=>∃l r nl nr fj cW,es=⟨l,r,false⟩::fj/\ns=nl++nr++cW/\LayT G U V l t nl/\LayT G U V r u nr/\LayQ G U V ts fj cW
theorem LayQ.snoc {G:Nat->Option Nd} {U:Nat->Option Nat} {V:Name->Option Nat} {t u:Ty} {l r:Nat} {nl nr:List Nat}(h1:LayT G U V l t nl)(h2:LayT G U V r u nr):(ts:List (Ty × Ty))->∀ {es:List Eqn} {ns:List Nat},LayQ G U V ts es ns->LayQ G U V (ts++[(t,u)]) (es++[⟨l,r,false⟩]) (ns++(nl++nr))
 |[],es,ns,h=>by
  rw[LayQ]at h
  obtain⟨rfl,rfl⟩:=h;show LayQ G U V [(t,u)] _ _;rw[LayQ]
  exact⟨l,r,nl,nr,[],[],rfl,by simp,h1,h2,by rw[LayQ];exact⟨rfl,rfl⟩⟩
 |(t',u')::ts,es,ns,h=>by
  rw[LayQ]at h
  obtain⟨l',r',nl',nr',fj,cW,rfl,rfl,a,b,c⟩:=h;rw[AE,LayQ]
  exact⟨l',r',nl',nr',fj++[⟨l,r,false⟩],cW++(nl++nr),rfl,by simp,a,b,LayQ.snoc h1 h2 ts c⟩
theorem LayQ.more {G G':Nat->Option Nd} {U U':Nat->Option Nat} {V V':Name->Option Nat}(hG:∀q x,G q=some x->G' q=some x)(hU:∀n q,U n=some q->U' n=some q)(hV:∀x q,V x=some q->V' x=some q):(ts:List (Ty × Ty))->∀ {es:List Eqn} {ns:List Nat},LayQ G U V ts es ns->LayQ G' U' V' ts es ns
 |[],_,_,h=>by rw[LayQ]at h ⊢;exact h
 |(t,u)::ts,es,ns,h=>by
  rw[LayQ]at h ⊢
  obtain⟨l,r,nl,nr,fj,cW,e1,e2,a,b,c⟩:=h;exact⟨l,r,nl,nr,fj,cW,e1,e2,a.more hG hU hV,b.more hG hU hV,LayQ.more hG hU hV ts c⟩
def szQ:List (Ty × Ty)->Nat
 |[]=>0
 |(t,u)::r=>t.size+u.size+szQ r
def dbQ(l:List (Ty × Ty)):List (Dt × Dt):=l.map λp=>(db [] p.1,db [] p.2)
theorem LayQ.list {G:Nat->Option Nd} {U:Nat->Option Nat} {V:Name->Option Nat}(hu:∀n p,U n=some p->G p=some ⟨2,⟨#[]⟩,n,[],none,false⟩)(h0:∀x p,V x=some p->G p=some ⟨1,⟨x.toArray⟩,0,[],none,false⟩):(ts:List (Ty × Ty))->∀ {es:List Eqn} {ns:List Nat},LayQ G U V ts es ns ->
  ∃L,Cls G U V L/\wg G [] L<=3*szQ ts/\(∀q∈es,q.l∈L/\q.r∈L)/\∀G' U' V',Agr G G' U U' V V' L->LayQ G' U' V' ts es ns
 |[],es,ns,h=>by
  rw[LayQ]at h
  exact⟨[],Cls.nil _ _ _,by simp[wg],(λq hq=>by rw[h.1]at hq;cases hq),λG' _ _ _=>by rw[LayQ];exact h⟩
 |(t,u)::ts,es,ns,h=>by
  rw[LayQ]at h
  obtain⟨l,r,nl,nr,fj,cW,rfl,rfl,a,b,c⟩:=h;obtain⟨L1,a1,a2,a3,a4⟩:=a.list V hu h0 (λx p h=>.inl h);obtain⟨L2,b1,b2,b3,b4⟩:=b.list V hu h0 (λx p h=>.inl h);obtain⟨L3,c1,c2,c3,c4⟩:=LayQ.list hu h0 ts c;refine⟨L1++L2++L3,(a2.app b2).app c1,by rw[zgx,zgx,szQ];omega,λq hq=>?_,λG' U' V' hG=>?_⟩
  ·rcases An.1 hq with e|hq
   ·rw[e];exact⟨by simp[a1],by simp[b1]⟩
   ·have:=c3 q hq;exact⟨by simp[this.1],by simp[this.2]⟩
  ·rw[LayQ]
   exact⟨l,r,nl,nr,fj,cW,rfl,rfl,a4 G' U' V' (hG.sub λz hz=>by simp[hz]),b4 G' U' V' (hG.sub λz hz=>by simp[hz]),c4 G' U' V' (hG.sub λz hz=>by simp[hz])⟩
theorem EnvOK.nil(hd:Nat->Nat)(O:List Nat):EnvOK hd O [] []:=⟨rfl,Bw,(λc h=>by cases h),(λc h=>by cases h),λi a b h=>by simp at h⟩
theorem LayQ.ent {G:Nat->Option Nd} {U:Nat->Option Nat} {V:Name->Option Nat}(hu:∀n p,U n=some p->G p=some ⟨2,⟨#[]⟩,n,[],none,false⟩)(h0:∀x p,V x=some p->G p=some ⟨1,⟨x.toArray⟩,0,[],none,false⟩) {hd:Nat->Nat} {O:List Nat} :(ts:List (Ty × Ty))->∀ {A:Sb->Prop} {es:List Eqn} {ns:List Nat},LayQ G U V ts es ns->ns.Nodup ->
  ∃cW,EntOK G hd O A es (dbQ ts) cW/\cW.Sublist ns/\∀x∈cW,NonP G x
 |[],A,es,ns,h,_=>by
  rw[LayQ]at h
  exact⟨[],by rw[h.1,EntOK];exact⟨rfl,rfl⟩,by rw[h.2];exact Cl _,λx hx=>by cases hx⟩
 |(t,u)::ts,A,es,ns,h,hn=>by
  rw[LayQ]at h
  obtain⟨l,r,nl,nr,fj,cW,rfl,rfl,a,b,c⟩:=h;have n1:=BL.1 hn;have n2:=BL.1 n1.1;obtain⟨ml,t1,s1⟩:=a.tr [] [] V rfl Bw (λx=>rfl) h0 (λc h=>by cases h) hu n2.1 (λc h=>by cases h);obtain⟨mr,t2,s2⟩:=b.tr [] [] V rfl Bw (λx=>rfl) h0 (λc h=>by cases h) hu n2.2.1 (λc h=>by cases h);obtain⟨ms,t3,s3,p3⟩:=LayQ.ent hu h0 (hd:=hd) (O:=O) ts (A:=λs=>A s/\ap s (db [] t)=ap s (db [] u)) c n1.2.1;refine⟨ml++mr++ms,?_,(s1.append s2).append s3,λx hx=>?_⟩
  ·rw[EntOK]
   exact⟨[],[],db [] t,db [] u,ml,mr,EnvOK.nil _ _,t1,t2,.inl ⟨rfl,dbQ ts,ms,rfl,rfl,t3⟩⟩
  ·simp only[AA]at hx
   rcases hx with(hx|hx)|hx
   ·exact t1.mem_nonP x hx
   ·exact t2.mem_nonP x hx
   ·exact p3 x hx
theorem LayT.occ {G:Nat->Option Nd} {U:Nat->Option Nat} {V:Name->Option Nat} {p:Nat} {t:Ty} {ns:List Nat}(h:LayT G U V p t ns)(n:Nat):∀xs,MtOcc n (db xs t)->∃z,U n=some z:=by
 induction h with
 |var V p x h =>
  intro xs ho;rw[db]at ho
  cases hi:idx x xs with
  |some i=>rw[hi]at ho;simp only at ho;rw[MtOcc]at ho;exact ho.elim
  |none=>rw[hi]at ho;simp only at ho;rw[MtOcc]at ho;exact ho.elim
 |mt V p m h =>
  intro xs ho;rw[db,MtOcc]at ho
  rw[ho]
  exact⟨p,h⟩
 |app V p t ps aN h1 h2 h3 h4 h5 ih =>
  intro xs ho;have key:∃u∈kids t,MtOcc n (db xs u):=by
   cases t <;> simp[kd]at h1
   ·rw[db,MtOcc,zgY,zaA]at ho
    obtain⟨d,hd,ho⟩:=ho;obtain⟨u,hu,rfl⟩:=AM.1 hd;exact⟨u,hu,ho⟩
   ·rw[db,MtOcc]at ho
    rcases ho with ho|ho
    ·exact⟨_,by simp[kids],ho⟩
    ·exact⟨_,by simp[kids],ho⟩
  obtain⟨u,hu,ho⟩:=key;obtain⟨i,hi,rfl⟩:=AS.1 hu;exact ih i _ _ _ (Ak (show i<ps.length by omega)) (Ak hi) (Ak (show i<aN.length by omega)) xs ho
 |all V p x t q c ns h1 h2 h3 ih =>
  intro xs ho;rw[db,MtOcc]at ho
  exact ih _ ho
theorem LayQ.occ {G:Nat->Option Nd} {U:Nat->Option Nat} {V:Name->Option Nat}(n:Nat):(ts:List (Ty × Ty))->∀ {es:List Eqn} {ns:List Nat},LayQ G U V ts es ns->(∃p∈dbQ ts,MtOcc n p.1\/MtOcc n p.2)->∃z,U n=some z
 |[],_,_,_,h=>by obtain⟨p,hp,_⟩:=h;cases hp
 |(t,u)::ts,es,ns,h,ho=>by
  rw[LayQ]at h
  obtain⟨l,r,nl,nr,fj,cW,e1,e2,a,b,c⟩:=h;obtain⟨p,hp,ho⟩:=ho;rcases An.1 hp with e|hp
  ·subst e
   rcases ho with ho|ho
   ·exact a.occ n [] ho
   ·exact b.occ n [] ho
  ·exact LayQ.occ n ts c ⟨p,hp,ho⟩
theorem LayQ.sim {G:Nat->Option Nd} {U:Nat->Option Nat} {V:Name->Option Nat}(hu:∀n p,U n=some p->G p=some ⟨2,⟨#[]⟩,n,[],none,false⟩)(h0:∀x p,V x=some p->G p=some ⟨1,⟨x.toArray⟩,0,[],none,false⟩) {ts:List (Ty × Ty)} {es:List Eqn} {ns:List Nat}(h:LayQ G U V ts es ns)(hn:ns.Nodup):∃L f o,wg (rst G L) [] L<=3*szQ ts/\GrS (rst G L)/\(∀q∈es,q.d=false/\q.l∈L/\q.r∈L)/\(∀q∈L,∃x,G q=some x)/\(∀n,(∃p∈dbQ ts,MtOcc n p.1\/MtOcc n p.2)->∃z∈L,U n=some z)/\unF f (dbQ ts) .mt=some o/\Sim (rst G L) L (λp=>p) .mt es f o:=by
 obtain⟨L,c1,c2,c3,c4⟩:=h.list hu h0;have hin:∀z∈L,rst G L z=G z:=λz hz=>zjb hz;have kE:∀(ts:List (Ty × Ty)) {es:List Eqn} {ns:List Nat},LayQ G U V ts es ns->∀q∈es,q.d=false:=by
  intro ts;induction ts with
  |nil=>intro es ns h q hq;rw[LayQ]at h;rw[h.1]at hq;cases hq
  |cons p ts ih =>
   intro es ns h q hq;obtain⟨t,u⟩:=p;rw[LayQ]at h
   obtain⟨l,r,nl,nr,fj,cW,rfl,rfl,a,b,c⟩:=h;rcases An.1 hq with e|hq
   ·rw[e]
   ·exact ih c q hq
 have gs:GrS (rst G L):=by
  refine⟨λp q n hp hq=>?_,λp q x hp hq=>?_⟩
  ·have key:∀p,rst G L p=some ⟨2,⟨#[]⟩,n,[],none,false⟩->U n=some p:=λp hp=>by
    obtain⟨h1,h2⟩:=zbD hp;rcases c1.srt p h1 with⟨m,h⟩|⟨y,h⟩|⟨y,h,h',_⟩
    ·rw[hu m p h]at h2;simp at h2;rw[<-h2];exact h
    ·rw[h0 y p h]at h2;simp at h2
    ·rw[h]at h2;injection h2 with h2;rw[h2]at h';simp at h'
   have h1:=key p hp;have h2:=key q hq;rw[h1]at h2
   injection h2
  ·have key:∀p,rst G L p=some ⟨1,x,0,[],none,false⟩->V x.data.toList=some p:=λp hp=>by
    obtain⟨h1,h2⟩:=zbD hp;rcases c1.srt p h1 with⟨m,h⟩|⟨y,h⟩|⟨y,h,_,h'⟩
    ·rw[hu m p h]at h2;simp at h2
    ·rw[h0 y p h]at h2;simp at h2;rw[<-h2];simpa using h
    ·rw[h]at h2;injection h2 with h2;rw[h2]at h';simp at h'
   have h1:=key p hp;have h2:=key q hq;rw[h1]at h2
   injection h2
 have hagr:Agr G (rst G L) U (λn=>(U n).filter (λp=>decide (p∈L))) V (λn=>(V n).filter (λp=>decide (p∈L))) L :=
  ⟨hin,λn z hz h=>by simp[h,hz],λn z hz h=>by simp[h,hz]⟩
 have hR:=c4 _ _ _ hagr;have s5:∀ {o:Option Nat} {p:Nat},o.filter (λp=>decide (p∈L))=some p->o=some p/\p∈L:=fun {o p} h=>by
  cases o with
  |none=>simp at h
  |some q =>
   simp at h;exact⟨by rw[h.1],h.2⟩
 obtain⟨cW,e1,e2,e3⟩:=hR.ent (λn p h=>by obtain⟨h1,h2⟩:=s5 h;rw[hin p h2];exact hu n p h1) (λn p h=>by obtain⟨h1,h2⟩:=s5 h;rw[hin p h2];exact h0 n p h1) (hd:=λp=>p) (O:=[]) ts (A:=λs=>Absorbs s .mt) hn;have iX:∃M:List Nat,∀p∈dbQ ts,∀n,MtOcc n (ap .mt p.1)\/MtOcc n (ap .mt p.2)->n∈M:=by
  generalize dbQ ts=E;induction E with
  |nil=>exact⟨[],λp hp=>by cases hp⟩
  |cons p E ih =>
   obtain⟨M,hM⟩:=ih;refine⟨zaO p.1 []++zaO p.2 []++M,λq hq n hn=>?_⟩;rcases An.1 hq with e|hq
   ·rw[e,zcb,zcb]at hn
    simp only[AA,zbc,AT,false_or];exact .inl hn
   ·exact Bh _ (hM q hq n hn)
 obtain⟨M,hM⟩:=iX;obtain⟨f,o,hf⟩:=zmQ M _ _ (dbQ ts) .mt zcv hM (Ai _) (Ai _);refine⟨L,f,o,AB (zmU G L L) c2,gs,λq hq=>⟨kE ts h q hq,c3 q hq⟩,λq hq=>by obtain⟨x,hx,_⟩:=c1.kin q hq;exact⟨x,hx⟩,λn eu=>by obtain⟨z,hz⟩:=hR.occ n ts eu;obtain⟨h1,h2⟩:=s5 hz;exact⟨z,h2,h1⟩,hf,dbQ ts,dbQ ts,cW,[],?_,e1,hf,rfl⟩;exact⟨⟨λq x hx c hc=>by
   obtain⟨h1,h2⟩:=zbD hx;obtain⟨y,hy,hk⟩:=c1.kin q h1;rw[h2]at hy;injection hy with hy;subst hy
   obtain⟨z,hz,_⟩:=c1.kin c (hk c hc);exact⟨z,by rw[hin c (hk c hc)];exact hz⟩,λq x hx=>⟨x,hx⟩,λ_=>rfl,λq x hx=>(zbD hx).1⟩,
  λp d h hp=>⟨d,h,hp,rfl⟩,λp n _ _=>rfl,List.Nodup.sublist e2 hn,λ_ _=>rfl,e3,(λc hc=>by cases hc),zcv,za5⟩
end Go.Proofs.YtfafilmklhnngaaGreatDoor
