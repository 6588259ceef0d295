import Derived.Test.YtfafilmklhnngaaGreatDoorBiAH
import Derived.Test.YtfafilmklhnngaaGreatDoorBiH
set_option maxHeartbeats 12800000
namespace Go.Proofs.YtfafilmklhnngaaGreatDoor
open Go.RowKit Go.Shelf Lx Tx
set_option maxRecDepth 100000
attribute [local go_sem] Oper.semAt_some
def LaidP(b B:Nat)(t:TypeId)(cs:Array Value)(l ids:List Nat)(v:Value)(A:Option Addr)(c:Nat)(w:World)(k:Nat)(W:World):Prop :=
 ∃v',Blk W b t (cs.setIfInBounds 0 v')/\W.ownsRow B 75 1 v' (l++(ids.drop k).reverse).length ((l++(ids.drop k).reverse).map PK)/\(v'.ownBlock=v.ownBlock\/∃g,v'.ownBlock=some g/\w.heap.size+2<=g) /\
  Blk W w.heap.size 228 #[.pointer (some ⟨b,0,none⟩)]/\Blk W (w.heap.size+1) 130 #[.slice A ids.length c]/\Chg (λg=>g=b\/v.ownBlock=some g) w W
theorem LaidP.keep {b B:Nat} {t:TypeId} {cs:Array Value} {l ids:List Nat} {v:Value} {A:Option Addr} {c:Nat} {w:World} {k:Nat} {W W':World}(h:LaidP b B t cs l ids v A c w k W)(hc:∀g,g<W.heap.size->(∃x y,W.heap[g]?=some (.cells x y (0,0)))->W'.heap[g]?=W.heap[g]?)
  (hC:Chg (λg=>g=b\/v.ownBlock=some g) w W'):LaidP b B t cs l ids v A c w k W':=by
 obtain⟨v',h1,h2,h3,h4,h5,h6⟩:=h;refine⟨v',h1.same (hc _ h1.lt ⟨_,_,h1⟩),zal h2 (λg hg=>?_),h3,h4.same (hc _ h4.lt ⟨_,_,h4⟩),h5.same (hc _ h5.lt ⟨_,_,h5⟩),hC⟩;obtain⟨_,hl,cur,hcur⟩:=zab h2 g hg;exact hc g hl ⟨_,_,hcur⟩
theorem zaG {W:World} {l:Nat} {r r':Loop}(hl:W.heap[l]?=some (.loop r))(g:Nat)(hg:∃x y,W.heap[g]?=some (.cells x y (0,0))):(W.putObj l (.loop r')).heap[g]?=W.heap[g]? :=
 World.putObj_heap_other λe=>by
  obtain⟨x,y,hx⟩:=hg;rw[e,hl]at hx
  cases hx
theorem Chg.putObj {M:Nat->Prop} {w W:World}(h:Chg M w W)(l:Nat)(o:Obj)(hl:w.heap.size<=l):Chg M w (W.putObj l o) :=
 ⟨h.os,h.tape,h.output,by rw[World.putObj_size];exact h.size,λk hk hn=>(World.putObj_heap_other (by omega)).trans (h.block k hk hn)⟩
theorem LaidP.noRec {b B:Nat} {t:TypeId} {cs:Array Value} {l ids:List Nat} {v:Value} {A:Option Addr} {c:Nat} {w:World} {k lp:Nat}(hlp:w.heap.size<=lp):NoRec lp (LaidP b B t cs l ids v A c w k):=λW r r' h hl =>
 h.keep (λg _ hg=>zaG hl g hg) (by obtain⟨_,_,_,_,_,_,h6⟩:=h;exact h6.putObj _ _ hlp)
theorem zeJ(b B:Nat)(t:TypeId)(cs:Array Value)(hcs:0<cs.size)(l ids:List Nat)(v:Value)(A:Option Addr)(c:Nat)(w:World)
  (hb:Blk w b t (cs.setIfInBounds 0 v))(ho:w.ownsRow B 75 1 v l.length (l.map PK))(hB:B<=w.heap.size)(hvb:v.ownBlock≠some b)(hlen:l.length+ids.length<=1000000000)
  (hA:∀(j q:Nat),ids[j]?=some q->∃g,A=some ⟨g,0,none⟩/\g<w.heap.size/\g≠b/\v.ownBlock≠some g/\w.cell? ⟨g,j,none⟩=some (.pointer (some ⟨q,0,none⟩))):Calls Tryz.prog 119 #[.pointer (some ⟨b,0,none⟩),.slice A ids.length c] w λe w'=>(∃x,e=.returned x)/\LaidP b B t cs l ids v A c w 0 w':=by
 refine(callsIn_wide (n:=10)).1 ?_;refine callsIn_of_wp_marks Tryz.func119 rfl trivial ?_ rfl;simp only[Tryz.ntmps119,List.size_toArray,List.length_cons,List.length_nil,Nat.reduceAdd,Nat.reduceSub,Array.replicate_succ,Array.replicate_zero,List.push_toArray,List.append_toArray,List.nil_append,List.cons_append];have HB:=hidE hb;have HO:=hidE ho;have HA:=hidE hA;have HVB:=hidE hvb;clear hb ho hA hvb;gi_wp2
 refine⟨trivial,?_⟩;refine(zm0 Fence.wide _ trivial rfl _ _ _ _).mono ?_;rintro e w' ⟨rfl,rfl⟩;gi_wp2
 obtain⟨k1,k2,hs2,hb2⟩:=za2 w (.cells #[.pointer (some ⟨b,0,none⟩)] 228) (.cells #[.slice A ids.length c] 130);obtain⟨w2,hw2⟩:∃w2,(w.alloc (.cells #[.pointer (some ⟨b,0,none⟩)] 228)).alloc (.cells #[.slice A ids.length c] 130)=w2:=⟨_,rfl⟩;rw[hw2]at k1 k2 hs2 hb2 ⊢
 have h0:LaidP b B t cs l ids v A c w ids.length w2:=by
  refine⟨v,HB.out.below hb2 HB.out.lt,?_,.inl rfl,k1,k2,Chg.of_below hb2⟩;rw[List.drop_length,List.reverse_nil,List.append_nil]
  exact zal HO.out λg hg=>hb2.block g (zab HO.out g hg).2.1
 have hcell:∀k W,LaidP b B t cs l ids v A c w k W->∀(j q:Nat),ids[j]?=some q->∃g,A=some ⟨g,0,none⟩/\W.cell? ⟨g,j,none⟩=some (.pointer (some ⟨q,0,none⟩)):=λk W h j q hq=>by
  obtain⟨_,_,_,_,_,_,hc⟩:=h;obtain⟨g,e,hg1,hg2,hg3,hg4⟩:=HA.out j q hq;exact⟨g,e,(World.cell?_of_block (w:=w) (a:=⟨g,j,none⟩) (hc.block g hg1 (λh=>by rcases h with h|h;exact hg2 h;exact hg3 h))).trans hg4⟩
 have H0:=hidE h0;have HC:=hidE hcell;have HS2:=hidE hs2;clear h0 hcell k1 k2 hb2 hw2 hs2;refine zb7 (σ:=Nat × Nat) rfl (by omega) (gf:=184) (fb:=#[]) (lb:=#[.pointer (some ⟨w.heap.size+1,0,none⟩)]) rfl trivial (enters_of Tryz.func184 (by kernel_rfl) rfl)
  (λs=>#[.int .i64 (s.1:Nat),.pointer (some ⟨s.2,0,none⟩)]) (λ_=>rfl)
  (λs W=>LaidP b B t cs l ids v A c w (s.1+1) W/\ids[s.1]?=some s.2) (λs W=>LaidP b B t cs l ids v A c w s.1 W)
  (λs a₁ W=>(LaidP b B t cs l ids v A c w (s.1+1) W/\ids[s.1]?=some s.2)/\a₁ = { tmps:=#[.pointer (some ⟨b,0,none⟩),.slice A ids.length c,.pointer (some ⟨w.heap.size,0,none⟩),undef,undef,.pointer (some ⟨s.2,0,none⟩),.slice A ids.length c,.func (.func 184) #[] #[.pointer (some ⟨w.heap.size+1,0,none⟩)],.int .i64 (s.1:Nat),.pointer (some ⟨s.2,0,none⟩),undef,undef,undef,undef,undef,undef,undef,undef,undef,undef],defers:=[] })
  (LaidP b B t cs l ids v A c w 0) (λ_ _=>False) (λs a₁ W r r' h hl=>⟨⟨LaidP.noRec (by have:=HS2.out;omega) W r r' h.1.1 hl,h.1.2⟩,h.2⟩) (λs=>LaidP.noRec (by have:=HS2.out;omega)) (LaidP.noRec (by have:=HS2.out;omega)) (λ_ _ _ _ h _=>h) ?assign ?body ?iter ?done ?stop
 case assign =>
  intro r s W hj hl;have HJ:=hidE hj;have HL:=hidE hl;clear hj hl;gi_wp2
  exact⟨HL.out,HJ.out,trivial⟩
 case iter =>
  intro rec W1 hb1 hs1 hl1 hY;refine(zmY Fence.wide (10-1) trivial rfl (by omega) (w2.heap.size+1) (w.heap.size+1) ids A c (λk W=>LaidP b B t cs l ids v A c w k W/\LoopAt (rec .ready none) (w2.heap.size+1) w2.heap.size W) (by omega)
   (λk W h=>by obtain⟨⟨_,_,_,_,_,h5,_⟩,_⟩:=h;exact h5.cell 0) (λk W h=>HC.out k W h.1) (λk q W h hq=>?_) W1 ⟨H0.out.keep (λg hg _=>hb1.block g hg) (by obtain⟨_,_,_,_,_,_,h6⟩:=H0.out;exact h6.below hb1),hl1⟩).mono ?_
  ·refine(hY (k,q) W ⟨h.1,hq⟩ h.2).mono ?_
   intro e W' hs;rcases hs with⟨h1,h2,h3⟩|⟨_,_,h2,_⟩
   ·exact⟨h1,h2,h3⟩
   ·exact h2.elim
  ·rintro e W' ⟨hv,hj,hl⟩
   exact⟨hv,.inl ⟨hj,hl⟩⟩
 case done =>
  intro W hj hD;have HJ:=hidE hj;have HD:=hidE hD;clear hj hD;gi_wp2
  refine⟨by simp,.inl ⟨_,_,rfl,run_takeDeferred HD.out,?_⟩⟩;refine⟨_,results_none rfl _ _ _,⟨_,rfl⟩,?_⟩;exact HJ.out.keep (λg _ hg=>World.putObj_heap_other λe=>by
   obtain⟨x,y,hx⟩:=hg;rw[e,HD.out]at hx
   cases hx) (by obtain⟨_,_,_,_,_,_,h6⟩:=HJ.out;exact h6.putObj _ _ (by have:=HS2.out;omega))
 case stop=>intro c W h;exact h.elim
 case body =>
  rintro r ⟨k,q⟩ a₁ W ⟨⟨hj,hq⟩,rfl⟩ hl;obtain⟨v1,h1,h2,h3,h4,h5,h6⟩:=hj;obtain⟨i0,hi0,hz0,hz1,hz2⟩:=info_parts infoPtr;have e1:W.cell? ⟨w.heap.size,0,none⟩=some (.pointer (some ⟨b,0,none⟩)):=h4.cell 0;have e2:W.cell? ⟨b,0,none⟩=some v1:=(h1.cell 0).trans (by simp[hcs]);have l1:=h1.lt;have l2:=h4.lt;have hvb1:v1.ownBlock≠some b:=by
   rcases h3 with e|⟨g,e,hg⟩
   ·rw[e];exact HVB.out
   ·rw[e];intro e;injection e with e;have:=HB.out.lt;omega
  have hws:v1.ownBlock≠some w.heap.size:=by
   rcases h3 with e|⟨g,e,hg⟩
   ·rw[e];intro e;have:=(zab HO.out _ e).2.1;omega
   ·rw[e];intro e;injection e with e;omega
  have HEND:Hid (∀(g6 c6:Nat) (w6:World),w6.ownsRow B 75 1 (.slice (some ⟨g6,0,none⟩) ((l++(ids.drop (k+1)).reverse).length+1) c6) ((l++(ids.drop (k+1)).reverse).length+1) ((l++(ids.drop (k+1)).reverse).map PK++[.pointer (some ⟨q,0,none⟩)]) ->
    (W.drew.alloc (.cells #[.pointer (some ⟨q,0,none⟩)] 75)).grownBy w6 v1.ownBlock->(v1.ownBlock=some g6\/g6=(W.drew.alloc (.cells #[.pointer (some ⟨q,0,none⟩)] 75)).heap.size) ->
    LaidP b B t cs l ids v A c w k (w6.setCell ⟨b,0,none⟩ (.slice (some ⟨g6,0,none⟩) ((l++(ids.drop (k+1)).reverse).length+1) c6))/\LoopAt r (w2.heap.size+1) w2.heap.size (w6.setCell ⟨b,0,none⟩ (.slice (some ⟨g6,0,none⟩) ((l++(ids.drop (k+1)).reverse).length+1) c6))):=hidE (by
   intro g6 c6 w6 ho6 hg6 hat;have hsW:=h6.size;have hs6:=hg6.size;have hsz:(W.drew.alloc (.cells #[.pointer (some ⟨q,0,none⟩)] 75)).heap.size=W.heap.size+1:=by rw[World.size_alloc];rfl
   rw[hsz]at hs6 hat
   have hkp:∀g,g<W.heap.size->v1.ownBlock≠some g->g≠b->(w6.setCell ⟨b,0,none⟩ (.slice (some ⟨g6,0,none⟩) ((l++(ids.drop (k+1)).reverse).length+1) c6)).heap[g]?=W.heap[g]?:=λg hg hne hgb =>
    (Below.heap_setCell _ _ _ _ hgb).trans ((hg6.block g (by rw[hsz];omega) (λe=>hne e.symm)).trans (Below.heap_alloc W.drew _ g hg))
   have hb6:Blk w6 b t (cs.setIfInBounds 0 v1):=(Blk.alloc (w:=W.drew) h1 (.cells #[.pointer (some ⟨q,0,none⟩)] 75)).grown hg6 (λe=>hvb1 e.symm);have hdrop:(ids.drop k).reverse=(ids.drop (k+1)).reverse++[q]:=by
    obtain⟨hk,e⟩:=List.getElem?_eq_some_iff.1 hq;rw[List.drop_eq_getElem_cons hk,List.reverse_cons]
    simp at e;rw[e]
   have hg6b:g6≠b:=by
    rcases hat with e|e
    ·intro e2;rw[e2]at e;exact hvb1 e
    ·have:=h1.lt;omega
   have hob1:∀g,v1.ownBlock=some g->v.ownBlock=some g\/w.heap.size+2<=g:=λg hg=>by
    rcases h3 with e|⟨g',e,hg'⟩
    ·exact .inl (e▸hg)
    ·rw[e]at hg;injection hg with hg;exact .inr (hg▸hg')
   have hl2:=HS2.out;refine⟨⟨.slice (some ⟨g6,0,none⟩) ((l++(ids.drop (k+1)).reverse).length+1) c6,?_,?_,?_,?_,?_,?_⟩,?_,?_⟩
   ·have:=heap_setCell_same w6 b 0 _ t (.slice (some ⟨g6,0,none⟩) ((l++(ids.drop (k+1)).reverse).length+1) c6) hb6
    rw[Array.setIfInBounds_setIfInBounds]at this
    exact this
   ·rw[hdrop,<-List.append_assoc,List.map_append,show(l++(ids.drop (k+1)).reverse++[q]).length=(l++(ids.drop (k+1)).reverse).length+1 from List.length_append]
    exact ownsRow_setCell_other (a:=⟨b,0,none⟩) ho6 (λe=>hg6b (by simpa[Value.ownBlock] using e)) _
   ·rcases hat with e|e
    ·rcases hob1 g6 e with e2|e2
     ·exact .inl e2.symm
     ·exact .inr ⟨g6,rfl,e2⟩
    ·exact .inr ⟨g6,rfl,by omega⟩
   ·exact h4.same (hkp _ h4.lt hws (by have:=HB.out.lt;omega))
   ·exact h5.same (hkp _ h5.lt (λe=>by rcases hob1 _ e with e2|e2;have:=(zab HO.out _ e2).2.1;omega;omega) (by have:=HB.out.lt;omega))
   ·refine((((show Chg (λg=>g=b\/v.ownBlock=some g) w W.drew from h6.drew).alloc _).grown hg6 (λg hg=>?_)).setCell (p:=⟨b,0,none⟩) (.inr (.inl rfl)) _)
    rcases hob1 g hg with e|e
    ·exact .inr (.inr e)
    ·exact .inl (by omega)
   ·exact(hkp _ hl.lt.1 (λe=>by rcases hob1 _ e with e2|e2;have:=(zab HO.out _ e2).2.1;omega;obtain⟨_,_,cur,hcur⟩:=zab h2 _ e;rw[hl.1]at hcur;cases hcur) (by have:=HB.out.lt;omega)).trans hl.1
   ·exact(hkp _ hl.lt.2 (λe=>by obtain⟨_,_,cur,hcur⟩:=zab h2 _ e;rw[hl.2]at hcur;cases hcur) (by have:=HB.out.lt;omega)).trans hl.2)
  obtain⟨L1,hL1⟩:∃L1,l++(ids.drop (k+1)).reverse=L1:=⟨_,rfl⟩;rw[hL1]at HEND h2
  have hlen1:L1.length<1000000000:=by
   have:=(List.getElem?_eq_some_iff.1 hq).1;simp at this;rw[<-hL1]
   simp;omega
  have HOWN:Hid ((W.drew.alloc (.cells #[.pointer (some ⟨q,0,none⟩)] 75)).ownsRow B 75 1 v1 L1.length (L1.map PK)):=hidE (World.ownsRow.alloc (w:=W.drew) h2 _);have HNEW:Hid (∀j u,[Value.pointer (some ⟨q,0,none⟩)][j]?=some u->(W.drew.alloc (.cells #[.pointer (some ⟨q,0,none⟩)] 75)).cell? ((⟨W.heap.size,0,none⟩:Addr).add j)=some u):=hidE (zar _ _ _ _ rfl);have hBW:B<=W.heap.size:=by have:=h6.size;omega
  have HB1:=hidE h1;have HB4:=hidE h4;have HVB1:Hid (some b≠v1.ownBlock):=hidE λe=>hvb1 e.symm;have HWS1:Hid (some w.heap.size≠v1.ownBlock):=hidE λe=>hws e.symm;clear h1 h2 h3 h4 h5 h6 hvb1 hq hws hL1 hl;gi_wp2
  refine wpIn_region_any (by kernel_rfl) ?_;refine zcG _ _ (zcZ (by kernel_rfl)) (λ_ _ h=>h) _ _ _ _ ?_;change wpAny _ _ _ _ _ _ _ (World.drew _)
  iterate 12
   all_goals
    iterate 4
     try
      first
       |refine wpAny_take (i:=5) (v:=(.pointer (some ⟨q,0,none⟩))) rfl (by kernel_rfl) (by decide +kernel) (by decide +kernel) (λ_ _ _ h=>h) (Or.inl ⟨by rfl,λw=>by go_simp⟩) ?_
       |refine wpAny_take (i:=2) (v:=(.pointer (some ⟨b,0,none⟩))) rfl (by kernel_rfl) (by decide +kernel) (by decide +kernel) (λ_ _ _ h=>h) (Or.inl ⟨by rfl,λw=>by go_simp⟩) ?_
       |refine wpAny_take (i:=3) (v:=(.pointer (some ⟨b,0,none⟩))) rfl (by kernel_rfl) (by decide +kernel) (by decide +kernel) (λ_ _ _ h=>h) (Or.inl ⟨by rfl,λw=>by go_simp⟩) ?_
       |refine wpAny_take (i:=8) (v:=(.pointer (some ⟨b,0,none⟩))) rfl (by kernel_rfl) (by decide +kernel) (by decide +kernel) (λ_ _ _ h=>h) (Or.inl ⟨by rfl,λw=>by go_simp⟩) ?_
       |refine wpAny_take (i:=9) (v:=(.pointer (some ⟨b,0,none⟩))) rfl (by kernel_rfl) (by decide +kernel) (by decide +kernel) (λ_ _ _ h=>h) (Or.inl ⟨by rfl,λw=>by go_simp⟩) ?_
   all_goals first
    |(refine wpAny_done (by decide +kernel) ?_ _;exact HEND.out _ _ _ HO6.out HG6.out HAT.out)
    |refine wpAny_ready (rs:=[10]) (by decide +kernel) (by simp) ?_
    |refine wpAny_ready (rs:=[7]) (by decide +kernel) (by simp) ?_
    |refine wpAny_ready (rs:=[4]) (by decide +kernel) (by simp) ?_
    |refine wpAny_ready (rs:=[6]) (by decide +kernel) (by simp) ?_
    |refine wpAny_ready (rs:=[0,7]) (by decide +kernel) (by simp) ?_
    |refine wpAny_ready (rs:=[0]) (by decide +kernel) (by simp) ?_
    |refine wpAny_ready (rs:=[4,6]) (by decide +kernel) (by simp) ?_
    |refine wpAny_ready (rs:=[1]) (by decide +kernel) (by simp) ?_
    |refine wpAny_ready (rs:=[0,4]) (by decide +kernel) (by simp) ?_
    |refine wpAny_ready (rs:=[0,1,6]) (by decide +kernel) (by simp) ?_
    |refine wpAny_ready (rs:=[1,6]) (by decide +kernel) (by simp) ?_
    |refine wpAny_ready (rs:=[0,4,6]) (by decide +kernel) (by simp) ?_
    |refine wpAny_ready (rs:=[0,6]) (by decide +kernel) (by simp) ?_
    |refine wpAny_ready (rs:=[0,1]) (by decide +kernel) (by simp) ?_
   all_goals first
    |refine AllReady.cons rfl (λK hK=>?_) AllReady.nil
    |refine AllReady.cons rfl (λK hK=>?_) (AllReady.cons rfl (λK hK=>?_) AllReady.nil)
    |refine AllReady.cons rfl (λK hK=>?_) (AllReady.cons rfl (λK hK=>?_) (AllReady.cons rfl (λK hK=>?_) AllReady.nil))
   all_goals first
    |((refine step_append_lies _ (by rfl) _ _ _ (by rfl) B 75 i0 _ 1 8 Tryz.underlying130 hi0 hz0 hz1 hz2 rfl (by decide) _ L1.length (L1.map PK) (by rfl) HOWN.out ⟨W.heap.size,0,none⟩ 1 1 [.pointer (some ⟨q,0,none⟩)] rfl rfl HNEW.out (by intro u hu;simp at hu;subst hu;rfl) (by omega) (by unfold maxLen;omega) (by omega) (by simp;omega) _ rfl ?_;intro g6 c6 w6 hown6 hgrow hat hlt6;have hb6:=(Blk.alloc (w:=W.drew) HB1.out (.cells #[.pointer (some ⟨q,0,none⟩)] 75)).grown hgrow HVB1.out;have f1:w6.cell? ⟨b,0,none⟩=some v1:=(hb6.cell 0).trans (by simp[hcs]);have f2:w6.frozen? ⟨b,0,none⟩=false:=hb6.frozen 0;have f3:=hb6.lt;have f4:w6.cell? ⟨w.heap.size,0,none⟩=some (.pointer (some ⟨b,0,none⟩)):=((Blk.alloc (w:=W.drew) HB4.out (.cells #[.pointer (some ⟨q,0,none⟩)] 75)).grown hgrow HWS1.out).cell 0;have HO6:=hidE hown6;have HG6:=hidE hgrow;have HAT:=hidE hat;clear hown6 hgrow hat hb6);(try go_simp);refine hK _ _ ?_;clear hK K)
    |(go_simp;refine hK _ _ ?_;clear hK K)
end Go.Proofs.YtfafilmklhnngaaGreatDoor
namespace Go.Proofs.YtfafilmklhnngaaGreatDoor
open Go.RowKit Lx Tx Go.Maps Go.WideMaps
set_option maxRecDepth 100000
inductive Rch (G:Nat->Option Nd) (hd:Nat->Nat):Nat->Nat->Prop
 |refl (p:Nat):Rch G hd p p
 |step (p q k:Nat) (x:Nd):Rch G hd p q->G q=some x->k∈x.kids->Rch G hd p (hd k)
structure Gr (G:Nat->Option Nd) (hd:Nat->Nat) (L:List Nat):Prop where
 kin:∀q x,G q=some x->∀k∈x.kids,∃y,G k=some y
 hin:∀q x,G q=some x->∃y,G (hd q)=some y
 idm:∀q,hd (hd q)=hd q
 all:∀q x,G q=some x->q∈L
def wg(G:Nat->Option Nd)(Vs:List Nat):List Nat->Nat
 |[]=>0
 |q::l=>(if q∈Vs then 0 else match G q with|some x=>x.kids.length+1|none=>0)+wg G Vs l
theorem ziU(G:Nat->Option Nd)(q:Nat)(Vs:List Nat):(L:List Nat)->wg G (q::Vs) L<=wg G Vs L
 |[]=>Nat.le_refl _
 |a::l=>by
  have:=ziU G q Vs l;unfold wg;by_cases h:a∈Vs
  ·rw[if_pos (List.mem_cons_of_mem _ h),if_pos h];omega
  ·rw[if_neg h]
   split <;> omega
theorem zd0(G:Nat->Option Nd)(q:Nat)(Vs:List Nat)(x:Nd)(hx:G q=some x)(hq:q∉Vs):(L:List Nat)->q∈L->wg G (q::Vs) L+(x.kids.length+1)<=wg G Vs L
 |[],h=>(List.not_mem_nil h).elim
 |a::l,h=>by
  unfold wg;by_cases e:a=q
  ·subst e
   rw[if_pos List.mem_cons_self,if_neg hq,hx]
   have:=ziU G a Vs l;show 0+wg G (a::Vs) l+(x.kids.length+1)<=x.kids.length+1+wg G Vs l;omega
  ·have hl:q∈l:=by
    rcases List.mem_cons.1 h with h|h
    ·exact(e h.symm).elim
    ·exact h
   have:=zd0 G q Vs x hx hq l hl;by_cases hv:a∈Vs
   ·rw[if_pos (List.mem_cons_of_mem _ hv),if_pos hv];omega
   ·rw[if_neg hv,if_neg (by rw[List.mem_cons];rintro(h|h);exact e h;exact hv h)];omega
structure Dfs (G:Nat->Option Nd) (hd:Nat->Nat) (p:Nat) (Vs stk:List Nat):Prop where
 hv:∀q∈Vs,∃x,G q=some x
 rv:∀q∈Vs,Rch G hd (hd p) q
 ks:∀j∈stk,(∃y,G j=some y)/\Rch G hd (hd p) (hd j)
 cl:∀q∈Vs,∀x,G q=some x->∀k∈x.kids,hd k∈Vs\/∃j∈stk,hd j=hd k
 rt:hd p∈Vs\/∃j∈stk,hd j=hd p
theorem Dfs.start {G:Nat->Option Nd} {hd:Nat->Nat} {p:Nat} {y:Nd}(h:G p=some y):Dfs G hd p [] [p] where
 hv q h:=(List.not_mem_nil h).elim
 rv q h:=(List.not_mem_nil h).elim
 ks j hj:=by rw[List.mem_singleton]at hj;subst hj;exact⟨⟨y,h⟩,.refl _⟩
 cl q h:=(List.not_mem_nil h).elim
 rt:=.inr ⟨p,List.mem_singleton.2 rfl,rfl⟩
theorem Dfs.skip {G:Nat->Option Nd} {hd:Nat->Nat} {p:Nat} {Vs l:List Nat} {j:Nat}(h:Dfs G hd p Vs (l++[j]))(hj:hd j∈Vs):Dfs G hd p Vs l where
 hv:=h.hv
 rv:=h.rv
 ks i hi:=h.ks i (List.mem_append_left _ hi)
 cl q hq x hx k hk:=by
  rcases h.cl q hq x hx k hk with h1|⟨i,hi,e⟩
  ·exact .inl h1
  ·rcases List.mem_append.1 hi with hi|hi
   ·exact .inr ⟨i,hi,e⟩
   ·rw[List.mem_singleton]at hi
    rw[<-e,hi]
    exact .inl hj
 rt:=by
  rcases h.rt with h1|⟨i,hi,e⟩
  ·exact .inl h1
  ·rcases List.mem_append.1 hi with hi|hi
   ·exact .inr ⟨i,hi,e⟩
   ·rw[List.mem_singleton]at hi
    rw[<-e,hi]
    exact .inl hj
theorem Dfs.visit {G:Nat->Option Nd} {hd:Nat->Nat} {p:Nat} {L Vs l:List Nat} {j:Nat} {x:Nd}(g:Gr G hd L)(h:Dfs G hd p Vs (l++[j]))(hx:G (hd j)=some x):Dfs G hd p (hd j::Vs) (l++x.kids.reverse) where
 hv q hq:=by
  rcases List.mem_cons.1 hq with e|hq
  ·rw[e];exact⟨x,hx⟩
  ·exact h.hv q hq
 rv q hq:=by
  rcases List.mem_cons.1 hq with e|hq
  ·rw[e];exact(h.ks j (List.mem_append_right _ (List.mem_singleton.2 rfl))).2
  ·exact h.rv q hq
 ks i hi:=by
  rcases List.mem_append.1 hi with hi|hi
  ·exact h.ks i (List.mem_append_left _ hi)
  ·rw[List.mem_reverse]at hi
   exact⟨g.kin _ x hx i hi,.step _ _ _ x (h.ks j (List.mem_append_right _ (List.mem_singleton.2 rfl))).2 hx hi⟩
 cl q hq y hy k hk:=by
  rcases List.mem_cons.1 hq with e|hq
  ·rw[e,hx]at hy
   injection hy with hy;subst hy;exact .inr ⟨k,List.mem_append_right _ (List.mem_reverse.2 hk),rfl⟩
  ·rcases h.cl q hq y hy k hk with h1|⟨i,hi,e⟩
   ·exact .inl (List.mem_cons_of_mem _ h1)
   ·rcases List.mem_append.1 hi with hi|hi
    ·exact .inr ⟨i,List.mem_append_left _ hi,e⟩
    ·rw[List.mem_singleton]at hi
     rw[<-e,hi]
     exact .inl List.mem_cons_self
 rt:=by
  rcases h.rt with h1|⟨i,hi,e⟩
  ·exact .inl (List.mem_cons_of_mem _ h1)
  ·rcases List.mem_append.1 hi with hi|hi
   ·exact .inr ⟨i,List.mem_append_left _ hi,e⟩
   ·rw[List.mem_singleton]at hi
    rw[<-e,hi]
    exact .inl List.mem_cons_self
theorem Dfs.done {G:Nat->Option Nd} {hd:Nat->Nat} {p:Nat} {Vs:List Nat}(h:Dfs G hd p Vs [])(q:Nat):q∈Vs↔Rch G hd (hd p) q:=by
 refine⟨h.rv q,λhr=>?_⟩;have hp:hd p∈Vs:=by
  rcases h.rt with h1|⟨i,hi,_⟩
  ·exact h1
  ·exact(List.not_mem_nil hi).elim
 generalize hd p=r at hp hr;induction hr with
 |refl=>exact hp
 |step q k x _ hx hk ih =>
  rcases h.cl q ih x hx k hk with h1|⟨i,hi,_⟩
  ·exact h1
  ·exact(List.not_mem_nil hi).elim
theorem ziV {w:World} {B:Nat} {e:TypeId} {v:Value} {l:List Nat} {x:Nat}(h:w.ownsRow B e 1 v (l++[x]).length ((l++[x]).map PK)):∃g cap,v=.slice (some ⟨g,0,none⟩) (l++[x]).length cap/\w.ownsRow B e 1 (.slice (some ⟨g,0,none⟩) l.length cap) l.length (l.map PK):=by
 obtain⟨h0,⟨_,h1⟩|⟨g,cap,cur,hv,h1,h2,h3,h4,h5,h6⟩⟩:=h
 ·simp at h1
 ·refine⟨g,cap,hv,by simp,.inr ⟨g,cap,cur,rfl,h1,h2,?_,h4,h5,?_⟩⟩
  ·rw[List.length_append]at h3;simp at h3;omega
  ·rw[List.map_append,List.length_append]at h6
   have:=congrArg (List.take l.length) h6;rw[List.take_take,List.take_left' (by simp)]at this
   rw[<-this]
   congr 1
   simp
theorem zlj {W:World} {B st:Nat} {v:Value} {l:List Nat}(hb:Blk W st 195 #[v])(ho:W.ownsRow B 75 1 v l.length (l.map PK))(hl:l.length<=1000000000):∃A c,v=.slice A l.length c/\StkP W st l A c:=by
 obtain⟨h0,⟨hv,h1⟩|⟨g,cap,cur,hv,h1,h2,h3,h4,h5,h6⟩⟩:=ho
 ·refine⟨none,0,by rw[hv,h1],by rw[h1,<-hv];exact hb.cell 0,hb.frozen 0,hb.lt,by omega,hl,λhn=>?_⟩
  exact(hn (List.eq_nil_of_length_eq_zero h1)).elim
 ·refine⟨some ⟨g,0,none⟩,cap,hv,by rw[<-hv];exact hb.cell 0,hb.frozen 0,hb.lt,h3,hl,λ_=>⟨g,rfl,λj q hq=>?_⟩⟩
  rw[cell_of_row W g j cur _ (0,0) h2]
  have hj:j<l.length:=(List.getElem?_eq_some_iff.1 hq).1;have:(cur.toList.take (l.length*1))[j]?=some (PK q):=by rw[h6,List.getElem?_map,hq];rfl
  rw[List.getElem?_take,if_pos (by omega),Array.getElem?_toList]at this
  exact this
end Go.Proofs.YtfafilmklhnngaaGreatDoor
namespace Go.Proofs.YtfafilmklhnngaaGreatDoor
open Go.RowKit Go.Shelf Lx Tx Go.Maps Go.WideMaps
set_option maxRecDepth 100000
attribute [local go_sem] Oper.semAt_some
def dV(D:Nat->Dy)(S:Int)(Vs:List Nat):Nat->Dy:=λq=>if q∈Vs then { D q with sr:=S } else D q
structure ThrL (b mk bo bu ba bn st e3 e5:Nat) (G:Nat->Option Nd) (D:Nat->Dy):Prop where
 b:b<st
 mp:mk<st
 bo:bo<st
 bu:bu<st
 ba:ba<st
 bn:bn<st
 e3:e3<st
 e5:e5<st
 gl:∀q x,G q=some x->q<st
 rl:∀q x,G q=some x->x.kids≠[]->(D q).row<st
structure ThrV (b mk u bo bu ba bn e3 e5:Nat) (S:Int) (c0 c1 c2:Value) (G:Nat->Option Nd) (D:Nat->Dy) (hd:Nat->Nat) (Vs Vn:List Nat) (W:World):Prop where
 sb:Blk W b 85 #[c0,c1,c2,.map (some mk),.int .i64 S]
 kn:∃K',Knw W mk K' hd
 pd:PartsD W G (dV D S Vs)
 nt:Notes W bo bu ba bn u (decide (u∈Vn)) (Vn.any λq=>(G q).any λx=>decide (x.kd=5)) (Vn.any λq=>(G q).any λx=>x.new)
 b3:Blk W e3 72 #[.pointer (some ⟨b,0,none⟩)]
 b5:Blk W e5 227 #[.func (.func 158) #[] #[.pointer (some ⟨bo,0,none⟩),.pointer (some ⟨bu,0,none⟩),.pointer (some ⟨ba,0,none⟩),.pointer (some ⟨bn,0,none⟩)]]
theorem zlk(D:Nat->Dy)(S:Int)(Vs:List Nat)(q:Nat):(dV D S Vs q).row=(D q).row:=by
 unfold dV;split <;> rfl
section
variable {b mk u bo bu ba bn st e3 e5:Nat} {S:Int} {c0 c1 c2:Value} {G:Nat->Option Nd} {D:Nat->Dy} {hd:Nat->Nat} {Vs Vn:List Nat} {W W':World}
theorem ThrV.keep(l:ThrL b mk bo bu ba bn st e3 e5 G D)(h:ThrV b mk u bo bu ba bn e3 e5 S c0 c1 c2 G D hd Vs Vn W)(hb:Below st W W')(hl:∀x,LaidQ W x->LaidQ W' x):ThrV b mk u bo bu ba bn e3 e5 S c0 c1 c2 G D hd Vs Vn W' where
 sb:=h.sb.below hb l.b
 kn:=by obtain⟨K',hk⟩:=h.kn;exact⟨K',hk.keep (hb.block _ l.mp) hl⟩
 pd:=h.pd.but (λq x hx=>hb.block _ (l.gl q x hx)) (λq x hx hn=>by rw[zlk];exact hb.block _ (l.rl q x hx hn))
 nt:=h.nt.keep (hb.block _ l.bo) (hb.block _ l.bu) (hb.block _ l.ba) (hb.block _ l.bn)
 b3:=h.b3.below hb l.e3
 b5:=h.b5.below hb l.e5
theorem ThrV.head(h:ThrV b mk u bo bu ba bn e3 e5 S c0 c1 c2 G D hd Vs Vn W)(hc:Chg (only mk) W W')(hk:∃K',Knw W' mk K' hd):ThrV b mk u bo bu ba bn e3 e5 S c0 c1 c2 G D hd Vs Vn W':=by
 obtain⟨K,hK⟩:=h.kn;have hne:∀(g:Nat) (cs:Array Value) (t:TypeId),W.heap[g]?=some (.cells cs t (0,0))->W'.heap[g]?=W.heap[g]?:=λg cs t hg=>hc.block g (Array.getElem?_eq_some_iff.1 hg).1 (λe=>by
  have e:g=mk:=e;rw[e]at hg
  exact MapK.no hK.mp hg)
 refine⟨h.sb.same (hne _ _ _ h.sb),hk,?_,h.nt.keep (hne _ _ _ h.nt.o) (hne _ _ _ h.nt.u) (hne _ _ _ h.nt.a) (hne _ _ _ h.nt.n),h.b3.same (hne _ _ _ h.b3),h.b5.same (hne _ _ _ h.b5)⟩;exact h.pd.same λk hl ⟨cs,t,hx⟩=>hne k cs t hx
theorem PartC.mark {w:World} {p:Nat} {x:Nd} {d:Dy}(h:PartC w p x d)(s:Int):PartC (w.setCell ⟨p,8,none⟩ (.int .i64 s)) p x { d with sr:=s }:=by
 obtain⟨A,c,hb,hr⟩:=h;refine⟨A,c,heap_setCell_same w p 8 _ _ (.int .i64 s) hb,λhk=>?_⟩;obtain⟨e,cur,hc,hq⟩:=hr hk;exact⟨e,cur,(Below.heap_setCell _ _ _ _ (Blk.ne_ (show Blk w d.row _ cur from hc) hb (by decide))).trans hc,hq⟩
theorem PartC.ne {w:World} {p q:Nat} {x y:Nd} {d e:Dy}(h:PartC w p x d)(k:PartC w q y e)(hk:x.kids≠[]):d.row≠q:=by
 obtain⟨A,c,hb,hr⟩:=h;obtain⟨_,_,hb2,_⟩:=k;obtain⟨_,cur,hc,_⟩:=hr hk;exact Blk.ne_ (show Blk w d.row _ cur from hc) hb2 (by decide)
theorem PartC.blkNe {w:World} {p g:Nat} {x:Nd} {d:Dy} {t:TypeId} {cs:Array Value}(h:PartC w p x d)(k:Blk w g t cs)(ht:t≠132):g≠p:=by
 obtain⟨A,c,hb,_⟩:=h;exact Blk.ne_ k hb ht
theorem LaidQ.setCell {w:World} {x:Nat}(h:LaidQ w x)(g o:Nat)(v:Value):LaidQ (w.setCell ⟨g,o,none⟩ v) x:=by
 obtain⟨cs,hx⟩:=h;by_cases e:x=g
 ·subst e
  exact⟨_,heap_setCell_same w x o _ _ v hx⟩
 ·exact⟨cs,(Below.heap_setCell _ _ _ _ e).trans hx⟩
theorem ThrV.mark(h:ThrV b mk u bo bu ba bn e3 e5 S c0 c1 c2 G D hd Vs Vn W) {q:Nat} {x:Nd}(hx:G q=some x):ThrV b mk u bo bu ba bn e3 e5 S c0 c1 c2 G D hd (q::Vs) Vn (W.setCell ⟨q,8,none⟩ (.int .i64 S)):=by
 have hq:=h.pd q x hx;have hne:∀g t cs,Blk W g t cs->t≠132->(W.setCell ⟨q,8,none⟩ (.int .i64 S)).heap[g]?=W.heap[g]?:=λg t cs hg ht=>Below.heap_setCell _ _ _ _ (hq.blkNe hg ht);obtain⟨K,hK⟩:=h.kn;refine⟨h.sb.same (hne _ _ _ h.sb (by decide)),⟨K,hK.keep (Below.heap_setCell _ _ _ _ λe=>by obtain⟨_,_,hb,_⟩:=hq;have e:mk=q:=e;rw[<-e]at hb;exact MapK.no hK.mp hb) (λy hy=>hy.setCell _ _ _)⟩,?_,
  h.nt.keep (hne _ _ _ h.nt.o (by decide)) (hne _ _ _ h.nt.u (by decide)) (hne _ _ _ h.nt.a (by decide)) (hne _ _ _ h.nt.n (by decide)),h.b3.same (hne _ _ _ h.b3 (by decide)),h.b5.same (hne _ _ _ h.b5 (by decide))⟩
 intro r y hy;have hr:=h.pd r y hy;by_cases e:r=q
 ·subst e
  have:=hr.mark S;unfold dV at this ⊢;rw[if_pos List.mem_cons_self]
  by_cases hv:r∈Vs
  ·rw[if_pos hv]at this;exact this
  ·rw[if_neg hv]at this;exact this
 ·have hd':dV D S (q::Vs) r=dV D S Vs r:=by
   unfold dV;by_cases hv:r∈Vs
   ·rw[if_pos hv,if_pos (List.mem_cons_of_mem _ hv)]
   ·rw[if_neg hv,if_neg (by rw[List.mem_cons];rintro(h|h);exact e h;exact hv h)]
  rw[hd']
  exact hr.keep (Below.heap_setCell _ _ _ _ e) (λhk=>Below.heap_setCell _ _ _ _ (hr.ne hq hk))
theorem ThrV.note(h:ThrV b mk u bo bu ba bn e3 e5 S c0 c1 c2 G D hd Vs Vn W) {q:Nat} {x:Nd}(hx:G q=some x)(hc:Chg (λg=>g=bo\/g=ba\/g=bn) W W')
  (hn:Notes W' bo bu ba bn u (decide (u∈Vn)||decide (q=u)) ((Vn.any λq=>(G q).any λx=>decide (x.kd=5))||decide (x.kd=5)) ((Vn.any λq=>(G q).any λx=>x.new)||x.new))(hl:∀y,LaidQ W y->LaidQ W' y):ThrV b mk u bo bu ba bn e3 e5 S c0 c1 c2 G D hd Vs (q::Vn) W':=by
 have hne:∀g t cs,Blk W g t cs->t≠4->W'.heap[g]?=W.heap[g]?:=λg t cs hg ht=>hc.block g hg.lt (by
  rintro(e|e|e)
  ·exact Blk.ne_ hg h.nt.o ht e
  ·exact Blk.ne_ hg h.nt.a ht e
  ·exact Blk.ne_ hg h.nt.n ht e)
 obtain⟨K,hK⟩:=h.kn;refine⟨h.sb.same (hne _ _ _ h.sb (by decide)),⟨K,hK.keep (hc.block _ (MapK.lt hK.mp) (by
  rintro(e|e|e)
  ·exact MapK.no hK.mp (e▸h.nt.o)
  ·exact MapK.no hK.mp (e▸h.nt.a)
  ·exact MapK.no hK.mp (e▸h.nt.n))) hl⟩,?_,?_,h.b3.same (hne _ _ _ h.b3 (by decide)),h.b5.same (hne _ _ _ h.b5 (by decide))⟩
 ·intro r y hy
  obtain⟨A,c,hb,hr⟩:=h.pd r y hy;refine PartC.keep ⟨A,c,hb,hr⟩ (hne _ _ _ hb (by decide)) (λhk=>?_);obtain⟨_,cur,hcur,_⟩:=hr hk;exact hne _ _ cur hcur (by decide)
 ·have e1:decide (u∈q::Vn)=(decide (u∈Vn)||decide (q=u)):=by
   rw[Bool.eq_iff_iff];simp[List.mem_cons];constructor
   ·rintro(e|e)
    ·exact .inr e.symm
    ·exact .inl e
   ·rintro(e|e)
    ·exact .inr e
    ·exact .inl e.symm
  rw[e1,List.any_cons,List.any_cons,hx,Bool.or_comm (Option.any _ _) _,Bool.or_comm (Option.any _ _) _]
  exact hn
end
attribute [local go_sem] Oper.semAt_some
def ThrJ(b mk u bo bu ba bn st e3 e5 B p:Nat)(S:Int)(c0 c1 c2:Value)(G:Nat->Option Nd)(D:Nat->Dy)(hd:Nat->Nat)(L:List Nat)(w:World)(N:Nat)(top stk:List Nat)(W:World):Prop :=
 ∃Vs v,Dfs G hd p Vs (stk++top)/\N=(stk++top).length+wg G Vs L/\N<=1000000/\ThrV b mk u bo bu ba bn e3 e5 S c0 c1 c2 G D hd Vs Vs W /\
  Blk W st 195 #[v]/\W.ownsRow B 75 1 v stk.length (stk.map PK)/\Chg (λg=>g=mk\/g=b\/(∃x,G g=some x)\/g=bo\/g=ba\/g=bn) w W
theorem ThrJ.noRec {b mk u bo bu ba bn st e3 e5 B p:Nat} {S:Int} {c0 c1 c2:Value} {G:Nat->Option Nd} {D:Nat->Dy} {hd:Nat->Nat} {L:List Nat} {w:World}(l:ThrL b mk bo bu ba bn st e3 e5 G D) {N:Nat} {top stk:List Nat} {lp:Nat}(h1:st<=lp)(h2:w.heap.size<=lp):NoRec lp (ThrJ b mk u bo bu ba bn st e3 e5 B p S c0 c1 c2 G D hd L w N top stk):=λW r r' h hl=>by
 obtain⟨Vs,v,hd1,hN,hM,hv,hs,ho,hc⟩:=h;have hb:Below st W (W.putObj lp (.loop r')):=⟨rfl,rfl,rfl,by rw[World.putObj_size];exact Nat.le_refl _,λg hg=>World.putObj_heap_other (by omega)⟩;refine⟨Vs,v,hd1,hN,hM,hv.keep l hb (λx hx=>by obtain⟨cs,hx⟩:=hx;exact⟨cs,(zaG hl x ⟨_,_,hx⟩).trans hx⟩),hs.same (zaG hl st ⟨_,_,hs⟩),zal ho (λg hg=>?_),hc.putObj _ _ h2⟩;obtain⟨_,_,cur,hcur⟩:=zab ho g hg;exact zaG hl g ⟨_,_,hcur⟩
theorem zjX(b mk p u bo bu ba bn:Nat)(s:Int)(c0 c1 c2:Value)(G:Nat->Option Nd)(D:Nat->Dy)(K:Nat->Option Nat)(hd:Nat->Nat)(L:List Nat)(w:World)
  (hb:Blk w b 85 #[c0,c1,c2,.map (some mk),.int .i64 s])(hk:Knw w mk K hd)(hpd:PartsD w G D)(hg:Gr G hd L)(hsr:∀q x,G q=some x->(D q).sr<=s)(y:Nd)(hp:G p=some y)
  (hn:Notes w bo bu ba bn u false false false)(h1:bo≠ba)(h2:bo≠bn)(h3:ba≠bn)(yu:Nd)(hu:G u=some yu)(hw:1+wg G [] L<=1000000)(hs0:0<=s)(hs:s<1000000000000):Calls Tryz.prog 157 #[.pointer (some ⟨b,0,none⟩),.pointer (some ⟨p,0,none⟩),.func (.func 158) #[] #[.pointer (some ⟨bo,0,none⟩),.pointer (some ⟨bu,0,none⟩),.pointer (some ⟨ba,0,none⟩),.pointer (some ⟨bn,0,none⟩)]] w λe w'=>(∃x,e=.returned x) /\
   ∃Vs e3 e5,(∀q,q∈Vs↔Rch G hd (hd p) q)/\ThrV b mk u bo bu ba bn e3 e5 (s+1) c0 c1 c2 G D hd Vs Vs w'/\Chg (λg=>g=mk\/g=b\/(∃x,G g=some x)\/g=bo\/g=ba\/g=bn) w w':=by
 refine(callsIn_wide (n:=10)).1 ?_;refine callsIn_of_wp_marks Tryz.func157 rfl trivial ?_ rfl;simp only[Tryz.ntmps157,List.size_toArray,List.length_cons,List.length_nil,Nat.reduceAdd,Nat.reduceSub,Array.replicate_succ,Array.replicate_zero,List.push_toArray,List.append_toArray,List.nil_append,List.cons_append];have hbl:=hb.lt;have hne:∀g cs t,Blk w g t cs->g≠mk:=λg cs t hg e=>by rw[e]at hg;exact MapK.no hk.mp hg
 have hmk:mk<w.heap.size:=MapK.lt hk.mp;obtain⟨w1,hw1⟩:∃W,w.setCell ⟨b,4,none⟩ (.int .i64 (s+1))=W:=⟨_,rfl⟩;have hs1:w1.heap.size=w.heap.size:=by rw[<-hw1];exact World.size_setCell _ _ _
 obtain⟨l0,l1,ls2,lb2⟩:=za2 w1 (.cells #[.pointer (some ⟨b,0,none⟩)] 72) (.cells #[.func (.func 158) #[] #[.pointer (some ⟨bo,0,none⟩),.pointer (some ⟨bu,0,none⟩),.pointer (some ⟨ba,0,none⟩),.pointer (some ⟨bn,0,none⟩)]] 227);obtain⟨w2,hw2⟩:∃W,(w1.alloc (.cells #[.pointer (some ⟨b,0,none⟩)] 72)).alloc (.cells #[.func (.func 158) #[] #[.pointer (some ⟨bo,0,none⟩),.pointer (some ⟨bu,0,none⟩),.pointer (some ⟨ba,0,none⟩),.pointer (some ⟨bn,0,none⟩)]] 227)=W:=⟨_,rfl⟩;rw[hw2]at l0 l1 ls2 lb2
 have e2:w2.heap.size=w.heap.size+1+1:=by omega
 rw[hs1]at l0 l1
 obtain⟨m0,m1,ms2,mb2⟩:=za2 w2 (.cells #[.slice none 0 0] 195) (.cells #[.pointer (some ⟨p,0,none⟩)] 75);obtain⟨w5,hw5⟩:∃W,(w2.alloc (.cells #[.slice none 0 0] 195)).alloc (.cells #[.pointer (some ⟨p,0,none⟩)] 75)=W:=⟨_,rfl⟩;rw[hw5]at m0 m1 ms2 mb2
 rw[e2]at m0 m1
 have hlay:=zeJ (w.heap.size+1+1) (w.heap.size+1+1+1) 195 #[.slice none 0 0] (by decide) [] [p] (.slice none 0 0) (some ⟨w.heap.size+1+1+1,0,none⟩) 1 w5 m0 (World.ownsRow_nil _ _ _ _) (by omega) (by simp[Value.ownBlock]) (by simp) (λj q hq=>by
  rw[List.getElem?_singleton]at hq
  split at hq
  ·rename_i hj
   injection hq with hq;subst hj hq;exact⟨w.heap.size+1+1+1,rfl,by omega,by omega,by simp[Value.ownBlock],(show Blk w5 (w.heap.size+1+1+1) _ _ from m1).cell 0⟩
  ·cases hq)
 rw[<-hw5,<-hw2,<-hw1]at hlay
 have HLAY:=hidE hlay;clear hlay;have z3:((w.alloc (.cells #[.pointer (some ⟨b,0,none⟩)] 72)).alloc (.cells #[.func (.func 158) #[] #[.pointer (some ⟨bo,0,none⟩),.pointer (some ⟨bu,0,none⟩),.pointer (some ⟨ba,0,none⟩),.pointer (some ⟨bn,0,none⟩)]] 227)).cell? ⟨b,4,none⟩=some (.int .i64 s):=(Blk.alloc (Blk.alloc hb _) _).cell 4;have zf:w.frozen? ⟨b,4,none⟩=false:=hb.frozen 4;have HW1:=hidE hw1;have HW2:=hidE hw2;have HW5:=hidE hw5;have HL0:=hidE l0;have HL1:=hidE l1;have HM0:=hidE m0;clear hw1 hw2 hw5 l0 l1 m0 m1;gi_wp2
 refine⟨trivial,?_⟩;refine((callsIn_wide (n:=9)).2 HLAY.out).mono ?_;rintro e w6 ⟨⟨v0,rfl⟩,hl6⟩;rw[HW1.out,HW2.out,HW5.out]at hl6
 gi_wp2
 have hL:ThrL b mk bo bu ba bn (w.heap.size+1+1) w.heap.size (w.heap.size+1) G D:=⟨by omega,by omega,by have:=hn.o.lt;omega,by have:=hn.u.lt;omega,by have:=hn.a.lt;omega,by have:=hn.n.lt;omega,by omega,by omega,λq x hx=>by have:=(hpd q x hx).lt;omega,λq x hx hk=>by have:=(hpd q x hx).row_lt hk;omega⟩;obtain⟨v6,a1,a2,-,-,-,a6⟩:=hl6;have hs6:=a6.size;have k26:Below (w.heap.size+1+1) w2 w6:=(mb2.mono (by omega)).trans (a6.toBelow (by omega) (λk hk h=>by rcases h with h|h;omega;cases h));have k1:∀g,g<w.heap.size->g≠b->w6.heap[g]?=w.heap[g]?:=λg hg hgb=>(k26.block g (by omega)).trans ((lb2.block g (by omega)).trans (by rw[<-HW1.out];exact Below.heap_setCell _ _ _ _ hgb));have hdV:dV D (s+1) []=D:=by funext q;unfold dV;rw[if_neg List.not_mem_nil]
 have hv6:ThrV b mk u bo bu ba bn w.heap.size (w.heap.size+1) (s+1) c0 c1 c2 G D hd [] [] w6:=by
  refine⟨?_,⟨K,hk.keep (k1 mk hmk (hne b _ _ hb).symm) (λx hx=>?_)⟩,?_,?_,?_,?_⟩
  ·have:Blk w1 b 85 #[c0,c1,c2,.map (some mk),.int .i64 (s+1)]:=by rw[<-HW1.out];exact heap_setCell_same w b 4 _ _ _ hb
   exact(this.below lb2 (by omega)).below k26 (by omega)
  ·obtain⟨cs,hx⟩:=hx
   exact⟨cs,(k1 x (Array.getElem?_eq_some_iff.1 hx).1 (Blk.ne_ (show Blk w x _ cs from hx) hb (by decide))).trans hx⟩
  ·rw[hdV]
   intro q x hx;obtain⟨A,c,hq,hr⟩:=hpd q x hx;refine PartC.keep ⟨A,c,hq,hr⟩ (k1 q hq.lt (Blk.ne_ hq hb (by decide))) (λhn=>?_);obtain⟨_,cur,hc,_⟩:=hr hn;exact k1 _ (Array.getElem?_eq_some_iff.1 hc).1 (Blk.ne_ (show Blk w _ _ cur from hc) hb (by decide))
  ·have:=hn.keep (w':=w6) (k1 bo hn.o.lt (Blk.ne_ hn.o hb (by decide))) (k1 bu hn.u.lt (Blk.ne_ hn.u hb (by decide))) (k1 ba hn.a.lt (Blk.ne_ hn.a hb (by decide))) (k1 bn hn.n.lt (Blk.ne_ hn.n hb (by decide)))
   simpa using this
  ·exact Blk.below (show Blk w2 _ _ _ from HL0.out) k26 (by omega)
  ·exact Blk.below (show Blk w2 _ _ _ from HL1.out) k26 (by omega)
 have h0:ThrJ b mk u bo bu ba bn (w.heap.size+1+1) w.heap.size (w.heap.size+1) (w.heap.size+1+1+1) p (s+1) c0 c1 c2 G D hd L w (1+wg G [] L) [] [p] w6:=by
  refine⟨[],v6,?_,rfl,hw,hv6,a1,a2,?_⟩
  ·exact Dfs.start hp
  ·refine((((Chg.refl _ w).setCell (p:=⟨b,4,none⟩) (.inr (.inr (.inl rfl))) _).trans' (HW1.out▸Chg.of_below lb2) (λ_ _ h=>h)).belowB mb2 (by omega)).trans' a6 (λi hi h=>?_)
   rcases h with h|h
   ·omega
   ·cases h
 have HL:=hidE hL;have H0:=hidE h0;have HG:=hidE hg;have HSR:=hidE hsr;have HS6:Hid (w.heap.size+1+1+1+1<=w6.heap.size):=hidE (by omega);have HOO:Hid (bo≠ba/\bo≠bn/\ba≠bn):=hidE ⟨h1,h2,h3⟩;have HU:=hidE hu;have HNM:=hidE hw;clear hL h0 hv6 hdV k1 k26 hs6 a1 a2 a6 hg hsr hb hk hpd hp hn h1 h2 h3 hu hw hne hmk hbl hs1 ls2 lb2 e2 ms2 mb2 z3 zf HW1 HW2 HW5 HL0 HL1 HM0 HLAY;obtain⟨STW,hSTW⟩:∃n,w.heap.size+1+1=n:=⟨_,rfl⟩;rw[hSTW]at HL H0 HS6 ⊢
 refine zb7 (σ:=Nat × Nat × List Nat) rfl (by omega) (gf:=120) (fb:=#[.pointer (some ⟨STW,0,none⟩)]) (lb:=#[]) rfl trivial (enters_of Tryz.func120 (by kernel_rfl) rfl)
  (λx=>#[.pointer (some ⟨x.2.1,0,none⟩)]) (λ_=>rfl)
  (λx W=>ThrJ b mk u bo bu ba bn STW w.heap.size (w.heap.size+1) (STW+1) p (s+1) c0 c1 c2 G D hd L w x.1 [x.2.1] x.2.2 W)
  (λx W=>∃N' l',N'<x.1/\ThrJ b mk u bo bu ba bn STW w.heap.size (w.heap.size+1) (STW+1) p (s+1) c0 c1 c2 G D hd L w N' [] l' W)
  (λx a₁ W=>ThrJ b mk u bo bu ba bn STW w.heap.size (w.heap.size+1) (STW+1) p (s+1) c0 c1 c2 G D hd L w x.1 [x.2.1] x.2.2 W/\a₁ = { tmps:=#[.pointer (some ⟨b,0,none⟩),.pointer (some ⟨p,0,none⟩),
   .func (.func 158) #[] #[.pointer (some ⟨bo,0,none⟩),.pointer (some ⟨bu,0,none⟩),.pointer (some ⟨ba,0,none⟩),.pointer (some ⟨bn,0,none⟩)],.pointer (some ⟨w.heap.size,0,none⟩),undef,.pointer (some ⟨w.heap.size+1,0,none⟩),
   .pointer (some ⟨STW,0,none⟩),.pointer (some ⟨x.2.1,0,none⟩),.pointer (some ⟨b,0,none⟩),.pointer (some ⟨b,0,none⟩),.pointer (some ⟨b,4,none⟩),.int .i64 s,.int .i64 (s+1),.pointer (some ⟨b,0,none⟩),.pointer (some ⟨b,4,none⟩),.pointer (some ⟨p,0,none⟩),
   .slice (some ⟨STW+1,0,none⟩) 1 1,v0,.func (.func 120) #[.pointer (some ⟨STW,0,none⟩)] #[],.pointer (some ⟨x.2.1,0,none⟩),undef,undef,undef,undef,undef,undef,undef,undef,undef,undef,undef,undef,undef,undef,undef,undef,undef,undef,undef,undef,undef,undef,undef,undef,undef,undef,undef],defers:=[] })
  (λW=>∃N,ThrJ b mk u bo bu ba bn STW w.heap.size (w.heap.size+1) (STW+1) p (s+1) c0 c1 c2 G D hd L w N [] [] W) (λ_ _=>False)
  (λx a₁ W r r' h hl=>⟨ThrJ.noRec HL.out (by have:=HS6.out;omega) (by have:=HS6.out;omega) W r r' h.1 hl,h.2⟩)
  (λx W r r' h hl=>by obtain⟨N',l',hlt,h⟩:=h;exact⟨N',l',hlt,ThrJ.noRec HL.out (by have:=HS6.out;omega) (by have:=HS6.out;omega) W r r' h hl⟩)
  (λW r r' h hl=>by obtain⟨N,h⟩:=h;exact⟨N,ThrJ.noRec HL.out (by have:=HS6.out;omega) (by have:=HS6.out;omega) W r r' h hl⟩) (λ_ _ _ _ h _=>h) ?assign ?body ?iter ?done ?stop
 case assign =>
  intro r x W hj hl;have HJ:=hidE hj;have HLP:=hidE hl;clear hj hl;gi_wp2
  exact⟨HLP.out,HJ.out,trivial⟩
 case stop=>intro c W h;exact h.elim
 case done =>
  intro W hj hD;have HJ:=hidE hj;have HD:=hidE hD;clear hj hD;gi_wp2
  refine⟨by simp,.inl ⟨_,_,rfl,run_takeDeferred HD.out,?_⟩⟩;refine⟨_,results_none rfl _ _ _,⟨_,rfl⟩,?_⟩;obtain⟨N,Vs,v,h1,-,-,h4,-,-,h7⟩:=HJ.out;have hle:=HS6.out;have hb:Below STW W (W.putObj w6.heap.size (.deferred none)):=⟨rfl,rfl,rfl,by rw[World.putObj_size];exact Nat.le_refl _,λg hg=>World.putObj_heap_other (by omega)⟩;exact⟨Vs,_,_,λq=>h1.done q,h4.keep HL.out hb (λx hx=>by obtain⟨cs,hx⟩:=hx;exact⟨cs,(World.putObj_heap_other λe=>by rw[e,HD.out]at hx;cases hx).trans hx⟩),h7.putObj _ _ (by omega)⟩
 case iter =>
  intro rec W1 hb1 hs1 hl1 hY;have hJ0:ThrJ b mk u bo bu ba bn STW w.heap.size (w.heap.size+1) (STW+1) p (s+1) c0 c1 c2 G D hd L w (1+wg G [] L) [] [p] W1:=by
   obtain⟨Vs,v,h1,h2,h3,h4,h5,h6,h7⟩:=H0.out;have hle:=HS6.out;exact⟨Vs,v,h1,h2,h3,h4.keep HL.out (hb1.mono (by omega)) (λx hx=>by obtain⟨cs,hx⟩:=hx;exact⟨cs,(hb1.block x (Array.getElem?_eq_some_iff.1 hx).1).trans hx⟩),h5.below hb1 (by omega),zal h6 (λg hg=>hb1.block g (zab h6 g hg).2.1),h7.below hb1⟩
  refine(zgP Fence.wide (10-1) trivial rfl (by omega) (w6.heap.size+1) STW (λN l W=>ThrJ b mk u bo bu ba bn STW w.heap.size (w.heap.size+1) (STW+1) p (s+1) c0 c1 c2 G D hd L w N [] l W/\LoopAt (rec .ready none) (w6.heap.size+1) w6.heap.size W)
   (λN x l W=>ThrJ b mk u bo bu ba bn STW w.heap.size (w.heap.size+1) (STW+1) p (s+1) c0 c1 c2 G D hd L w N [x] l W/\LoopAt (rec .ready none) (w6.heap.size+1) w6.heap.size W) (λ_=>False) (λN l W h=>?_) (λN x l W h=>?_) W1 _ _ ⟨hJ0,hl1⟩).mono ?_
  ·obtain⟨⟨Vs,v,h1,h2,h3,h4,h5,h6,h7⟩,hlp⟩:=h
   rw[List.append_nil]at h1 h2
   obtain⟨A,c,rfl,hst⟩:=zlj h5 h6 (by omega);refine⟨A,c,hst,λx l' e=>?_⟩;subst e;obtain⟨g,cap,hgc,ho⟩:=ziV h6;injection hgc with e1 _ e2;subst e1 e2;have hle:=HS6.out;have hne:=HL.out.e5;have hgst:g≠STW:=λe=>by
    obtain⟨hB,_⟩:=zab ho g rfl;omega
   refine⟨⟨Vs,_,h1,h2,h3,h4.keep HL.out ((Below.refl _ W).setCell (p:=⟨STW,0,none⟩) (Nat.le_refl _) _) (λy hy=>hy.setCell _ _ _),heap_setCell_same W STW 0 _ _ _ h5,ownsRow_setCell_other (a:=⟨STW,0,none⟩) ho (λe=>hgst (by simpa[Value.ownBlock] using e)) _,h7.setCell (p:=⟨STW,0,none⟩) (.inl (by show w.heap.size<=STW;omega)) _⟩,hlp.setCell ⟨STW,0,none⟩ _ (by show STW≠_;omega) (by show STW≠_;omega)⟩
  ·refine(hY (N,x,l) W h.1 h.2).mono ?_
   intro e W' hs;rcases hs with⟨h1,⟨N',l',hlt,h2⟩,h3⟩|⟨_,_,h2,_⟩
   ·exact .inl ⟨h1,N',l',hlt,h2,h3⟩
   ·exact h2.elim
  ·rintro e W' ⟨hv,⟨N,hj,hl⟩|h⟩
   ·exact⟨hv,.inl ⟨⟨N,hj⟩,hl⟩⟩
   ·exact h.elim
 case body =>
  have hmx:Tryz.prog.follows .mixedOrders=true:=by kernel_rfl
  rintro r ⟨N,x,l⟩ a₁ W ⟨⟨Vs,v,hdf,hN,hNm,hv,hst,hown,hch⟩,rfl⟩ hl;obtain⟨K0,hK⟩:=hv.kn;obtain⟨⟨y,hy⟩,hrx⟩:=hdf.ks x (List.mem_append_right _ (List.mem_singleton.2 rfl));have hhead:=zeI b mk K0 hd x W c0 c1 c2 (.int .i64 (s+1)) hv.sb hK (hv.pd x y hy).laid;have z3:W.cell? ⟨w.heap.size,0,none⟩=some (.pointer (some ⟨b,0,none⟩)):=hv.b3.cell 0;have lz:w.heap.size<W.heap.size:=hv.b3.lt;have HHEAD:=hidE hhead;have HDF:=hidE hdf;have HN:=hidE hN;have HNm:=hidE hNm;have HV:=hidE hv;have HST:=hidE hst;have HOWN:=hidE hown;have HCH:=hidE hch;have HLP:=hidE hl;have HY:=hidE hy;clear hhead hdf hN hNm hv hst hown hch hl hK hrx hy;gi_wp2
  refine⟨trivial,?_⟩;refine(CallsIn.inRound _ ((callsIn_wide (n:=_)).2 HHEAD.out)).mono ?_;rintro e W1 ⟨rfl,K1,hk1,hc1,hs1,hlq⟩;have hv1:=HV.out.head hc1 ⟨K1,hk1⟩;obtain⟨y1,hy1⟩:=HG.out.hin x y HY.out;have hmk:=HL.out.mp;have hle:=HS6.out;have hl1:LoopAt r (w6.heap.size+1) w6.heap.size W1:=HLP.out.keep (hc1.block _ HLP.out.lt.1 (λe=>by have e:w6.heap.size+1=mk:=e;omega)) (hc1.block _ HLP.out.lt.2 (λe=>by have e:w6.heap.size=mk:=e;omega));have hst1:Blk W1 STW 195 #[v]:=HST.out.same (hc1.block STW HST.out.lt (λe=>by have e:STW=mk:=e;omega));have hown1:=zal HOWN.out (λg hg=>hc1.block g (zab HOWN.out g hg).2.1 (λe=>by have e:g=mk:=e;have:=(zab HOWN.out g hg).1;omega));have hch1:=HCH.out.trans' hc1 (λi _ h=>.inl h);obtain⟨q,hq⟩:∃q,hd x=q:=⟨_,rfl⟩;rw[hq]at hy1 ⊢
  obtain⟨A1,cc1,hb1,hr1⟩:=hv1.pd q y1 hy1;have f8:W1.cell? ⟨q,8,none⟩=some (.int .i64 (dV D (s+1) Vs q).sr):=hb1.cell 8;have g4:W1.cell? ⟨b,4,none⟩=some (.int .i64 (s+1)):=hv1.sb.cell 4;have g3:W1.cell? ⟨w.heap.size,0,none⟩=some (.pointer (some ⟨b,0,none⟩)):=hv1.b3.cell 0;have lq:=hb1.lt;have lb:=hv1.sb.lt;have l3:=hv1.b3.lt;have HV1:=hidE hv1;have HL1:=hidE hl1;have HST1:=hidE hst1;have HOWN1:=hidE hown1;have HCH1:=hidE hch1;have HY1:=hidE hy1;have HQ:=hidE hq;have HB1:=hidE hb1;have HR1:=hidE hr1;clear hv1 hl1 hst1 hown1 hch1 hy1 hq hb1 hr1 hk1 hc1 hs1 hlq z3 lz hmk hle;by_cases hqv:q∈Vs
  ·have e8:(dV D (s+1) Vs q).sr=s+1:=by unfold dV;rw[if_pos hqv]
   rw[e8]at f8
   have HQV:=hidE hqv;clear e8 hqv;gi_wp2
   refine zdZ (zcZ (by kernel_rfl)) (λ_ _ h=>h) (by kernel_rfl) (by kernel_rfl) ?_
   repeat (quiet_step (fail))
   refine wpQuiet_nil ?_;intro _ hw';obtain⟨nq,hw''⟩:=hw';subst hw''
   obtain⟨Wd,hWd⟩:∃X,W1.drewN nq=X:=⟨_,rfl⟩;have hbd:Below W1.heap.size W1 Wd:=by rw[<-hWd];exact below_drewN' (Below.refl _ _) _
   have hsd:∀g:Nat,Wd.heap[g]?=W1.heap[g]?:=λg=>by rw[<-hWd];rfl
   have hchd:Chg (λg=>g=mk\/g=b\/(∃x,G g=some x)\/g=bo\/g=ba\/g=bn) w Wd:=by rw[<-hWd];exact HCH1.out.drewN _
   have hlw:STW<=W1.heap.size:=by have:=HST1.out.lt;omega
   rw[hWd]
   clear hWd f8 g4 g3 lq lb l3;have HX:=hidE hbd;have HXS:=hidE hsd;have HXC:=hidE hchd;clear hbd hsd hchd;gi_wp2
   have hk2:ThrV b mk u bo bu ba bn w.heap.size (w.heap.size+1) (s+1) c0 c1 c2 G D hd Vs Vs Wd:=HV1.out.keep HL.out (HX.out.mono hlw) (λy hy=>by obtain⟨cs,hy⟩:=hy;exact⟨cs,(HXS.out y).trans hy⟩);refine⟨⟨l.length+wg G Vs L,l,?_,Vs,v,?_,?_,?_,hk2,HST1.out.same (HXS.out _),zal HOWN1.out (λg _=>HXS.out g),HXC.out⟩,HL1.out.keep (HXS.out _) (HXS.out _)⟩
   ·have:=HN.out;rw[List.length_append]at this;simp at this;show _<N;omega
   ·rw[List.append_nil];exact HDF.out.skip (by rw[HQ.out];exact HQV.out)
   ·rw[List.append_nil]
   ·have:=HN.out;have:=HNm.out;rw[List.length_append]at *;simp at *;omega
  ·have e8:((dV D (s+1) Vs q).sr==s+1)=false:=by
    have:(dV D (s+1) Vs q).sr<=s:=by unfold dV;rw[if_neg hqv];exact HSR.out q y1 HY1.out
    rw[Bool.eq_false_iff];intro e;simp at e;omega
   obtain⟨sq,hsq⟩:∃sq,(dV D (s+1) Vs q).sr=sq:=⟨_,rfl⟩;rw[hsq]at e8 f8
   have HQV:=hidE hqv;clear hqv hsq;gi_wp2
   refine zdZ (zcZ (by kernel_rfl)) (λ_ _ h=>h) (by kernel_rfl) (by kernel_rfl) ?_
   repeat (quiet_step (fail))
   refine wpQuiet_nil ?_;intro _ hw';obtain⟨nq,hw''⟩:=hw';subst hw''
   obtain⟨Wd,hWd⟩:∃X,W1.drewN nq=X:=⟨_,rfl⟩;have hbd:Below W1.heap.size W1 Wd:=by rw[<-hWd];exact below_drewN' (Below.refl _ _) _
   have hsd:∀g:Nat,Wd.heap[g]?=W1.heap[g]?:=λg=>by rw[<-hWd];rfl
   have hchd:Chg (λg=>g=mk\/g=b\/(∃x,G g=some x)\/g=bo\/g=ba\/g=bn) w Wd:=by rw[<-hWd];exact HCH1.out.drewN _
   have hlw:STW<=W1.heap.size:=by have:=HST1.out.lt;omega
   have hvd:=HV1.out.keep HL.out (hbd.mono hlw) (λy hy=>by obtain⟨cs,hy⟩:=hy;exact⟨cs,(hsd y).trans hy⟩);have hstd:Blk Wd STW 195 #[v]:=HST1.out.same (hsd _);have hownd:=zal HOWN1.out (λg _=>hsd g);have hld:LoopAt r (w6.heap.size+1) w6.heap.size Wd:=HL1.out.keep (hsd _) (hsd _);rw[hWd]
   clear hWd f8 g4 g3 lq lb l3 hbd hsd;obtain⟨Ad,cd,hbd,-⟩:=hvd.pd q y1 HY1.out;have hfr:Wd.frozen? ⟨q,8,none⟩=false:=hbd.frozen 8;have f8:Wd.cell? ⟨q,8,none⟩=some (.int .i64 (dV D (s+1) Vs q).sr):=hbd.cell 8;have g4:Wd.cell? ⟨b,4,none⟩=some (.int .i64 (s+1)):=hvd.sb.cell 4;have g3:Wd.cell? ⟨w.heap.size,0,none⟩=some (.pointer (some ⟨b,0,none⟩)):=hvd.b3.cell 0;have lq:=hbd.lt;have lb:=hvd.sb.lt;have l3:=hvd.b3.lt;obtain⟨w2,hw2⟩:∃W,Wd.setCell ⟨q,8,none⟩ (.int .i64 (s+1))=W:=⟨_,rfl⟩;have hv2:ThrV b mk u bo bu ba bn w.heap.size (w.heap.size+1) (s+1) c0 c1 c2 G D hd (q::Vs) Vs w2:=by
    rw[<-hw2]
    exact hvd.mark HY1.out
   have hqs:=HL.out.gl q y1 HY1.out;have hle:=HS6.out;have k2:∀g,g≠q->w2.heap[g]?=Wd.heap[g]?:=λg hg=>by rw[<-hw2];exact Below.heap_setCell Wd _ _ _ hg
   have hl2:LoopAt r (w6.heap.size+1) w6.heap.size w2:=hld.keep (k2 _ (by omega)) (k2 _ (by omega));have hst2:Blk w2 STW 195 #[v]:=hstd.same (k2 _ (by omega));have hown2:=zal hownd (λg hg=>k2 g (by have:=(zab hownd g hg).1;omega));have hch2:Chg (λg=>g=mk\/g=b\/(∃x,G g=some x)\/g=bo\/g=ba\/g=bn) w w2:=by
    rw[<-hw2]
    exact hchd.setCell (p:=⟨q,8,none⟩) (.inr (.inr (.inr (.inl ⟨y1,HY1.out⟩)))) _
   have g5:w2.cell? ⟨w.heap.size+1,0,none⟩=some (.func (.func 158) #[] #[.pointer (some ⟨bo,0,none⟩),.pointer (some ⟨bu,0,none⟩),.pointer (some ⟨ba,0,none⟩),.pointer (some ⟨bn,0,none⟩)]):=hv2.b5.cell 0;have l5:w.heap.size+1<w2.heap.size:=hv2.b5.lt;have hnote:=zoe bo bu ba bn u q _ _ _ y1 _ w2 hv2.nt (hv2.pd q y1 HY1.out) (hv2.pd u yu HU.out).laid HOO.out.1 HOO.out.2.1 HOO.out.2.2;rw[<-hw2]at hnote g5 l5
   have HNOTE:=hidE hnote;have HV2:=hidE hv2;have HL2:=hidE hl2;have HST2:=hidE hst2;have HOWN2:=hidE hown2;have HCH2:=hidE hch2;have HW2':=hidE hw2;clear hv2 hqs hle k2 hl2 hst2 hown2 hch2 hnote hw2 hbd hvd hstd hownd hld hchd hlw
   ·gi_wp2
    refine⟨trivial,?_⟩;refine(CallsIn.inRound _ ((callsIn_wide (n:=_)).2 HNOTE.out)).mono ?_;rintro e W3 ⟨⟨ve,rfl⟩,hn3,hc3,hs3⟩;rw[HW2'.out]at hc3 hs3
    clear HNOTE f8 g4 g3 g5 l5 hfr lq lb l3;have hv3:=HV2.out.note HY1.out hc3 hn3 (λy hy=>by
     obtain⟨cs,hy⟩:=hy;refine⟨cs,(hc3.block y (Array.getElem?_eq_some_iff.1 hy).1 (λh=>?_)).trans hy⟩;rcases h with h|h|h
     ·exact Blk.ne_ (show Blk w2 y _ cs from hy) HV2.out.nt.o (by decide) h
     ·exact Blk.ne_ (show Blk w2 y _ cs from hy) HV2.out.nt.a (by decide) h
     ·exact Blk.ne_ (show Blk w2 y _ cs from hy) HV2.out.nt.n (by decide) h)
    have hbo:=HL.out.bo;have hba:=HL.out.ba;have hbn:=HL.out.bn;have hle:=HS6.out;have hB2:=HST2.out.lt;have k3:∀g,g<w2.heap.size->STW<=g->W3.heap[g]?=w2.heap[g]?:=λg hg hs=>hc3.block g hg (by omega);have hl3:LoopAt r (w6.heap.size+1) w6.heap.size W3:=HL2.out.keep (k3 _ HL2.out.lt.1 (by omega)) (k3 _ HL2.out.lt.2 (by omega));have hst3:Blk W3 STW 195 #[v]:=HST2.out.same (k3 _ HST2.out.lt (by omega));have hown3:=zal HOWN2.out (λg hg=>k3 g (zab HOWN2.out g hg).2.1 (by have:=(zab HOWN2.out g hg).1;omega));have hch3:=HCH2.out.trans' hc3 (λi _ h=>.inr (.inr (.inr h)));obtain⟨A3,cc3,hb3,hr3⟩:=hv3.pd q y1 HY1.out;have hwv:=zd0 G q Vs y1 HY1.out HQV.out L (HG.out.all q y1 HY1.out);have hNN:=HN.out;have hNN2:=HNm.out;rw[List.length_append]at hNN
    simp only[List.length_cons,List.length_nil]at hNN;have hlay:=zeJ STW (STW+1) 195 #[v] (by simp) l y1.kids v A3 cc3 W3 hst3 hown3 (by have:=hs3;omega) (λe=>by have:=(zab hown3 _ e).1;omega) (by omega) (λj k hk=>by
     obtain⟨e1,cur,hcur,hq⟩:=hr3 (λh=>by rw[h]at hk;simp at hk);rw[zlk]at e1 hcur
     have hrl:=HL.out.rl q y1 HY1.out (λh=>by rw[h]at hk;simp at hk);exact⟨_,e1,by omega,by omega,λe=>by have:=(zab hown3 _ e).1;omega,(cell_of_row W3 _ j cur _ (0,0) hcur).trans (hq j k hk)⟩)
    have h4:W3.cell? ⟨q,4,none⟩=some (.slice A3 y1.kids.length cc3):=hb3.cell 4;have lq3:=hb3.lt;have HLAY:=hidE hlay;have HV3:=hidE hv3;have HL3:=hidE hl3;have HST3:=hidE hst3;have HOWN3:=hidE hown3;have HCH3:=hidE hch3;have HWV:=hidE hwv;have HNN:=hidE hNN;clear hlay hv3 hl3 hst3 hown3 hch3 hwv hNN hNN2 hb3 hr3 k3 hn3 hc3 hs3 hbo hba hbn hle hB2;gi_wp2
    refine⟨trivial,?_⟩;refine(CallsIn.inRound _ ((callsIn_wide (n:=_)).2 HLAY.out)).mono ?_;rintro e W4 ⟨⟨ve2,rfl⟩,v4,d1,d2,-,-,-,d6⟩;have hle:=HS6.out;have hs3:=HST3.out.lt;have hbel:Below STW W3 W4:=d6.toBelow (by omega) (λk hk h=>by
     rcases h with h|h
     ·omega
     ·have:=(zab HOWN3.out _ h).1;omega)
    have hlaid:∀y,LaidQ W3 y->LaidQ W4 y:=λy hy=>by
     obtain⟨cs,hy⟩:=hy;refine⟨cs,(d6.block y (Array.getElem?_eq_some_iff.1 hy).1 (λh=>?_)).trans hy⟩;rcases h with h|h
     ·exact Blk.ne_ (show Blk W3 y _ cs from hy) HST3.out (by decide) h
     ·obtain⟨_,_,cur,hcur⟩:=zab HOWN3.out _ h
      exact Blk.ne_ (show Blk W3 y _ cs from hy) (show Blk W3 y _ cur from hcur) (by decide) rfl
    have hl4:∀(g:Nat) (o:Obj),W3.heap[g]?=some o->(∀(cs:Array Value) (t:TypeId),o≠.cells cs t (0,0))->W4.heap[g]?=W3.heap[g]?:=λg o hg ho=>d6.block g (Array.getElem?_eq_some_iff.1 hg).1 (λh=>by
     rcases h with h|h
     ·rw[h]at hg
      have:W3.heap[STW]?=_:=HST3.out;rw[this]at hg
      injection hg with hg;exact ho _ _ hg.symm
     ·obtain⟨_,_,cur,hcur⟩:=zab HOWN3.out _ h
      rw[hcur]at hg
      injection hg with hg;exact ho _ _ hg.symm)
    have hv4:=HV3.out.keep HL.out hbel hlaid;have hlp4:LoopAt r (w6.heap.size+1) w6.heap.size W4:=HL3.out.keep (hl4 _ _ HL3.out.1 (λ_ _ h=>by cases h)) (hl4 _ _ HL3.out.2 (λ_ _ h=>by cases h));have hch4:=HCH3.out.trans' d6 (λi hi h=>by
     rcases h with h|h
     ·omega
     ·have:=(zab HOWN3.out _ h).1;omega)
    have HV4:=hidE hv4;have HL4:=hidE hlp4;have HCH4:=hidE hch4;have HD1:=hidE d1;have HD2:=hidE d2;clear hle hs3 hbel hlaid hl4 hv4 hlp4 hch4 d1 d2 d6;gi_wp2
    refine⟨⟨(l++y1.kids.reverse).length+wg G (q::Vs) L,l++y1.kids.reverse,?_,q::Vs,v4,?_,?_,?_,HV4.out,HD1.out,HD2.out,HCH4.out⟩,HL4.out⟩
    ·have h1:=HWV.out
     have h2:=HNN.out;rw[List.length_append,List.length_reverse]
     show _<N;omega
    ·rw[List.append_nil]
     have:=HDF.out.visit HG.out (x:=y1) (by rw[HQ.out];exact HY1.out);rw[HQ.out]at this
     exact this
    ·rw[List.append_nil]
    ·have h1:=HWV.out
     have h2:=HNN.out;have h3:=HNm.out;rw[List.length_append,List.length_reverse]
     omega
end Go.Proofs.YtfafilmklhnngaaGreatDoor
namespace Go.Proofs.YtfafilmklhnngaaGreatDoor
open Go.RowKit Lx Tx Go.Maps Go.WideMaps
set_option maxRecDepth 100000
def zfK(G:Nat->Option Nd)(hd:Nat->Nat)(p:Nat):Prop:=∃q x,Rch G hd (hd p) q/\G q=some x/\x.kd=5
def NewR(G:Nat->Option Nd)(hd:Nat->Nat)(p:Nat):Prop:=∃q x,Rch G hd (hd p) q/\G q=some x/\x.new=true
def AgR(G:Nat->Option Nd)(hd:Nat->Nat)(p u:Nat)(r:Int):Prop :=
 (r=41/\Rch G hd (hd p) u)\/(¬Rch G hd (hd p) u/\((r=42/\zfK G hd p)\/(¬zfK G hd p/\((r=43/\NewR G hd p)\/(r=0/\¬NewR G hd p)))))
def AgPost(b mk u p:Nat)(s:Int)(c0 c1 c2:Value)(G:Nat->Option Nd)(D:Nat->Dy)(hd:Nat->Nat)(w:World)(e:Ending)(w':World):Prop :=
 ∃r Vs,e=.returned (.int .i64 r)/\AgR G hd p u r/\Blk w' b 85 #[c0,c1,c2,.map (some mk),.int .i64 (s+1)]/\(∃K',Knw w' mk K' hd)/\PartsD w' G (dV D (s+1) Vs)/\Chg (λg=>g=mk\/g=b\/∃x,G g=some x) w w'
theorem zjY(b mk p u:Nat)(s:Int)(c0 c1 c2:Value)(G:Nat->Option Nd)(D:Nat->Dy)(K:Nat->Option Nat)(hd:Nat->Nat)(L:List Nat)(w:World)
  (hb:Blk w b 85 #[c0,c1,c2,.map (some mk),.int .i64 s])(hk:Knw w mk K hd)(hpd:PartsD w G D)(hg:Gr G hd L)(hsr:∀q x,G q=some x->(D q).sr<=s)(y:Nd)(hp:G p=some y)
  (yu:Nd)(hu:G u=some yu)(hw:1+wg G [] L<=1000000)(hs0:0<=s)(hs:s<1000000000000):Calls Tryz.prog 118 #[.pointer (some ⟨b,0,none⟩),.pointer (some ⟨u,0,none⟩),.pointer (some ⟨p,0,none⟩)] w (AgPost b mk u p s c0 c1 c2 G D hd w):=by
 obtain⟨l0,l1,l2,l3,hs4,hb4⟩:=zeG w (.cells #[.pointer (some ⟨u,0,none⟩)] 75) (.cells #[.bool false] 4) (.cells #[.bool false] 4) (.cells #[.bool false] 4);obtain⟨w4,hw4⟩:∃W,(((w.alloc (.cells #[.pointer (some ⟨u,0,none⟩)] 75)).alloc (.cells #[.bool false] 4)).alloc (.cells #[.bool false] 4)).alloc (.cells #[.bool false] 4)=W:=⟨_,rfl⟩;rw[hw4]at l0 l1 l2 l3 hs4 hb4
 have hpd4:PartsD w4 G D:=hpd.same λk hk _=>hb4.block k hk;have hthr:=zjX b mk p u (w.heap.size+1) w.heap.size (w.heap.size+1+1) (w.heap.size+1+1+1) s c0 c1 c2 G D K hd L w4 (hb.below hb4 hb.lt) (hk.keep (hb4.block _ (MapK.lt hk.mp)) (λx hx=>by obtain⟨cs,hx⟩:=hx;exact⟨cs,(hb4.block x (Array.getElem?_eq_some_iff.1 hx).1).trans hx⟩))
  hpd4 hg hsr y hp ⟨l1,l0,l2,l3⟩ (by omega) (by omega) (by omega) yu hu hw hs0 hs
 have HGL:Hid (∀q x,G q=some x->q<w.heap.size):=hidE λq x hx=>(hpd q x hx).lt;have HBL:=hidE hb.lt;have HML:Hid (mk<w.heap.size):=hidE (MapK.lt hk.mp);have HB4:=hidE hb4;have HS4:=hidE hs4;rw[<-hw4]at hthr
 have HTHR:=hidE hthr;have HW4:=hidE hw4;clear hthr hw4 l0 l1 l2 l3 hpd4 hb hk hpd hg hsr hp hu hw hb4 hs4;go_enter Tryz.func118,Tryz.ntmps118
 go_wp2_with fail
 refine HTHR.out.mono ?_;rintro e w5 ⟨⟨ve,rfl⟩,Vs,e3,e5,hrch,hv,hc⟩;rw[HW4.out]at hc
 have q0:w5.cell? ⟨w.heap.size+1,0,none⟩=some (.bool (decide (u∈Vs))):=hv.nt.o.cell 0;have q1:w5.cell? ⟨w.heap.size+1+1,0,none⟩=some (.bool (Vs.any λq=>(G q).any λx=>decide (x.kd=5))):=hv.nt.a.cell 0;have q2:w5.cell? ⟨w.heap.size+1+1+1,0,none⟩=some (.bool (Vs.any λq=>(G q).any λx=>x.new)):=hv.nt.n.cell 0;have t0:=hv.nt.o.lt;have t1:=hv.nt.a.lt;have t2:=hv.nt.n.lt;have r0:decide (u∈Vs)=true↔Rch G hd (hd p) u:=by rw[decide_eq_true_iff];exact hrch u
 have r1:(Vs.any λq=>(G q).any λx=>decide (x.kd=5))=true↔zfK G hd p:=by
  rw[List.any_eq_true]
  constructor
  ·rintro⟨q,hq,h⟩
   cases hx:G q with
   |none=>rw[hx]at h;cases h
   |some x=>rw[hx]at h;exact⟨q,x,(hrch q).1 hq,hx,by simpa using h⟩
  ·rintro⟨q,x,hq,hx,h⟩
   exact⟨q,(hrch q).2 hq,by rw[hx];simpa using h⟩
 have r2:(Vs.any λq=>(G q).any λx=>x.new)=true↔NewR G hd p:=by
  rw[List.any_eq_true]
  constructor
  ·rintro⟨q,hq,h⟩
   cases hx:G q with
   |none=>rw[hx]at h;cases h
   |some x=>rw[hx]at h;exact⟨q,x,(hrch q).1 hq,hx,by simpa using h⟩
  ·rintro⟨q,x,hq,hx,h⟩
   exact⟨q,(hrch q).2 hq,by rw[hx];simpa using h⟩
 obtain⟨o,ho⟩:∃o,decide (u∈Vs)=o:=⟨_,rfl⟩;obtain⟨a,ha⟩:∃a,(Vs.any λq=>(G q).any λx=>decide (x.kd=5))=a:=⟨_,rfl⟩;obtain⟨n,hn⟩:∃n,(Vs.any λq=>(G q).any λx=>x.new)=n:=⟨_,rfl⟩;rw[ho]at q0 r0
 rw[ha]at q1 r1
 rw[hn]at q2 r2
 have HR0:=hidE r0;have HR1:=hidE r1;have HR2:=hidE r2;have HEND:Hid (∀r:Int,AgR G hd p u r->AgPost b mk u p s c0 c1 c2 G D hd w (.returned (.int .i64 r)) w5):=hidE λr hr =>
  ⟨r,Vs,rfl,hr,hv.sb,hv.kn,hv.pd,(Chg.of_below HB4.out).trans' hc (λi hi h=>by
   rcases h with h|h|h|h|h|h
   ·exact .inl h
   ·exact .inr (.inl h)
   ·exact .inr (.inr h)
   ·omega
   ·omega
   ·omega)⟩
 clear r0 r1 r2 ho ha hn hv hc hrch HTHR HW4;cases o
 ·cases a
  ·cases n
   ·go_wp2_with fail
    go_ret
    exact HEND.out 0 (.inr ⟨λh=>Bool.false_ne_true (HR0.out.2 h),.inr ⟨λh=>Bool.false_ne_true (HR1.out.2 h),.inr ⟨rfl,λh=>Bool.false_ne_true (HR2.out.2 h)⟩⟩⟩)
   ·go_wp2_with fail
    go_ret
    exact HEND.out 43 (.inr ⟨λh=>Bool.false_ne_true (HR0.out.2 h),.inr ⟨λh=>Bool.false_ne_true (HR1.out.2 h),.inl ⟨rfl,HR2.out.1 (by trivial)⟩⟩⟩)
  ·go_wp2_with fail
   go_ret
   exact HEND.out 42 (.inr ⟨λh=>Bool.false_ne_true (HR0.out.2 h),.inl ⟨rfl,HR1.out.1 (by trivial)⟩⟩)
 ·go_wp2_with fail
  go_ret
  exact HEND.out 41 (.inl ⟨rfl,HR0.out.1 (by trivial)⟩)
end Go.Proofs.YtfafilmklhnngaaGreatDoor
namespace Go.Proofs.YtfafilmklhnngaaGreatDoor
open Go.RowKit Lx Tx Go.Maps Go.WideMaps
set_option maxRecDepth 100000
theorem Root.link {K:Nat->Option Nat} {m t:Nat}(hm:K m=none)(ht:K t=none)(hmt:m≠t) {z n r:Nat}(h:Root K z n r):(r=m->Root (upn K m (some t)) z (n+1) t)/\(r≠m->Root (upn K m (some t)) z n r):=by
 induction h with
 |nil p hp =>
  constructor
  ·intro e
   subst e;exact .step _ t _ _ (zak _ _ _) (.nil _ (by rw[zac _ _ _ _ (Ne.symm hmt)];exact ht))
  ·intro e
   exact .nil _ (by rw[zac _ _ _ _ e];exact hp)
 |step p q n r hp _ ih =>
  have hpm:p≠m:=λe=>by rw[e,hm]at hp;cases hp
  constructor
  ·intro e
   exact .step _ q _ _ (by rw[zac _ _ _ _ hpm];exact hp) (ih.1 e)
  ·intro e
   exact .step _ q _ _ (by rw[zac _ _ _ _ hpm];exact hp) (ih.2 e)
def hdL(hd:Nat->Nat)(m t:Nat):Nat->Nat:=λz=>if hd z=m then t else hd z
theorem Knw.link {w w1:World} {mk:Nat} {K:Nat->Option Nat} {hd:Nat->Nat}(h:Knw w mk K hd) {m t:Nat}(hm:hd m=m)(ht:hd t=t)(hmt:m≠t)(hlm:LaidQ w m)(hlt:LaidQ w t)
  (hm1:MapQ w1 mk (upn K m (some t)))(hl:∀x,LaidQ w x->LaidQ w1 x):Knw w1 mk (upn K m (some t)) (hdL hd m t) where
 mp:=hm1
 rep p:=by
  obtain⟨n,hn⟩:=h.rep p;have hk:=Root.link ((h.none_iff m).2 hm) ((h.none_iff t).2 ht) hmt hn;unfold hdL;by_cases e:hd p=m
  ·rw[if_pos e];exact⟨_,hk.1 e⟩
  ·rw[if_neg e];exact⟨_,hk.2 e⟩
 laid x y hx:=by
  by_cases e:x=m
  ·rw[e,zak]at hx
   injection hx with hx;rw[e,<-hx]
   exact⟨hl _ hlm,hl _ hlt⟩
  ·rw[zac _ _ _ _ e]at hx
   exact⟨hl _ (h.laid x y hx).1,hl _ (h.laid x y hx).2⟩
def lrn(p q:Nat)(x y:Nd):Nat × Nat:=if x.kd≠2\/(y.kd=2/\x.n<y.n) then(q,p) else(p,q)
def LnPost(b mk m t:Nat)(s:Int)(c0 c1 c2:Value)(G:Nat->Option Nd)(D:Nat->Dy)(hd:Nat->Nat)(w:World)(e:Ending)(w':World):Prop :=
 ∃r Vs,e=.returned (.int .i64 r)/\AgR G hd t m r/\Blk w' b 85 #[c0,c1,c2,.map (some mk),.int .i64 (s+1)]/\(∃K',Knw w' mk K' (if r=0 then hdL hd m t else hd))/\PartsD w' G (dV D (s+1) Vs)/\Chg (λg=>g=mk\/g=b\/∃x,G g=some x) w w'
theorem zm3(b mk p q:Nat)(s:Int)(c0 c1 c2:Value)(G:Nat->Option Nd)(D:Nat->Dy)(K:Nat->Option Nat)(hd:Nat->Nat)(L:List Nat)(w:World)
  (hb:Blk w b 85 #[c0,c1,c2,.map (some mk),.int .i64 s])(hk:Knw w mk K hd)(hpd:PartsD w G D)(hg:Gr G hd L)(hsr:∀q x,G q=some x->(D q).sr<=s)(x y:Nd)(hp:G p=some x)(hq:G q=some y)
  (hph:hd p=p)(hqh:hd q=q)(hpq:p≠q)(hw:1+wg G [] L<=1000000)(hs0:0<=s)(hs:s<1000000000000):Calls Tryz.prog 72 #[.pointer (some ⟨b,0,none⟩),.pointer (some ⟨p,0,none⟩),.pointer (some ⟨q,0,none⟩)] w (LnPost b mk (lrn p q x y).1 (lrn p q x y).2 s c0 c1 c2 G D hd w):=by
 obtain⟨A,c,p0,-,p2,-,-,-,-⟩:=(hpd p x hp).facts;obtain⟨B,c',q0,-,q2,-,-,-,-⟩:=(hpd q y hq).facts;have hpl:=(hpd p x hp).lt;have hql:=(hpd q y hq).lt;have HAG:Hid (∀(n m t:Nat) (xm xt:Nd),G m=some xm->G t=some xt->Calls Tryz.prog 118 #[.pointer (some ⟨b,0,none⟩),.pointer (some ⟨m,0,none⟩),.pointer (some ⟨t,0,none⟩)] (w.drewN n) (AgPost b mk t m s c0 c1 c2 G D hd (w.drewN n))->True):=hidE λ_ _ _ _ _ _ _ _=>trivial;clear HAG;have HAG:Hid (∀(n m t:Nat) (xm xt:Nd),G m=some xm->G t=some xt->Calls Tryz.prog 118 #[.pointer (some ⟨b,0,none⟩),.pointer (some ⟨m,0,none⟩),.pointer (some ⟨t,0,none⟩)] (w.drewN n) (AgPost b mk m t s c0 c1 c2 G D hd (w.drewN n))) :=
  hidE λn m t xm xt hm ht=>zjY b mk t m s c0 c1 c2 G D K hd L (w.drewN n) (hb.drewN n) (hk.keep rfl (λ_ h=>h)) (λz xz hz=>(hpd z xz hz).keep rfl (λ_=>rfl)) hg hsr xt ht xm hm hw hs0 hs
 have HTAIL:Hid (∀(m t:Nat) (xm xt:Nd) (Vs:List Nat) (w5 w6:World) (n:Nat) (K':Nat->Option Nat),G m=some xm->G t=some xt->hd m=m->hd t=t->m≠t->AgR G hd t m 0->Blk w5 b 85 #[c0,c1,c2,.map (some mk),.int .i64 (s+1)]->Knw w5 mk K' hd->PartsD w5 G (dV D (s+1) Vs) ->
   Chg (λg=>g=mk\/g=b\/∃x,G g=some x) (w.drewN n) w5->MapQ w6 mk (upn K' m (some t))->w5.grownBy w6 (some mk)->LnPost b mk m t s c0 c1 c2 G D hd w (.returned (.int .i64 0)) w6):=hidE (by
  intro m t xm xt Vs w5 w6 n K' hm ht hmh hth hmt hag hb5 hk5 hp5 hc5 hm6 hg6;have hne:∀g cs tt,Blk w5 g tt cs->w6.heap[g]?=w5.heap[g]?:=λg cs tt hg=>hg6.block g hg.lt (λe=>by injection e with e;rw[e]at hg;exact MapK.no hk5.mp hg);have hl:∀x,LaidQ w5 x->LaidQ w6 x:=λx hx=>by obtain⟨cs,hx⟩:=hx;exact⟨cs,(hne x cs _ hx).trans hx⟩
  refine⟨0,Vs,rfl,hag,hb5.same (hne _ _ _ hb5),⟨upn K' m (some t),?_⟩,hp5.same (λk _ ⟨cs,tt,hx⟩=>hne k cs tt hx),?_⟩
  ·rw[if_pos rfl]
   exact hk5.link hmh hth hmt (hp5 m xm hm).laid (hp5 t xt ht).laid hm6 hl
  ·have h1:Chg (λg=>g=mk\/g=b\/∃x,G g=some x) w (w.drewN n):=(Chg.refl _ w).drewN n
   exact(h1.trans hc5).grown hg6 (λk hk=>.inr (.inl (by injection hk with hk;exact hk.symm))))
 have HEND:Hid (∀(m t:Nat) (r:Int) (Vs:List Nat) (w5:World) (n:Nat),r≠0->AgR G hd t m r->Blk w5 b 85 #[c0,c1,c2,.map (some mk),.int .i64 (s+1)]->(∃K',Knw w5 mk K' hd)->PartsD w5 G (dV D (s+1) Vs) ->
   Chg (λg=>g=mk\/g=b\/∃x,G g=some x) (w.drewN n) w5->LnPost b mk m t s c0 c1 c2 G D hd w (.returned (.int .i64 r)) w5):=hidE (by
  intro m t r Vs w5 n hr hag hb5 hk5 hp5 hc5;have h1:Chg (λg=>g=mk\/g=b\/∃x,G g=some x) w (w.drewN n):=(Chg.refl _ w).drewN n;exact⟨r,Vs,rfl,hag,hb5,by rw[if_neg hr];exact hk5,hp5,h1.trans hc5⟩)
 have HM:Hid (G p=some x/\G q=some y/\hd p=p/\hd q=q/\p≠q):=hidE ⟨hp,hq,hph,hqh,hpq⟩;clear hb hk hpd hg hsr hp hq hph hqh hpq hw;obtain⟨kx,nx,zx,lx,cx,wx⟩:=x;obtain⟨ky,ny,zy,ly,cy,wy⟩:=y;simp only at p0 p2 q0 q2;by_cases h2:kx=2
 ·subst h2
  by_cases h3:ky=2
  ·subst h3
   by_cases hn:zx<zy
   ·have hv:lrn p q ⟨2,nx,zx,lx,cx,wx⟩ ⟨2,ny,zy,ly,cy,wy⟩=(q,p):=by unfold lrn;rw[if_pos (.inr ⟨rfl,hn⟩)]
    rw[hv]
    have hn':decide (zx<zy)=true:=decide_eq_true hn;clear hv hn;go_enter Tryz.func72,Tryz.ntmps72
    go_wp2_with fail
    go_quiet (fail)
    go_wp2_with fail
    refine(HAG.out nq q p _ _ HM.out.2.1 HM.out.1).mono ?_;rintro e w5 ⟨r,Vs,rfl,hag,hb5,⟨K5,hk5⟩,hp5,hc5⟩;by_cases hr:r=0
    ·subst hr
     obtain⟨w6,hrun,hm6,hg6,hs6⟩:=MapK.store hk5.mp keyQ Tryz.underlying83 q p (hp5 q _ HM.out.2.1).laid;have HRUN:(Instr.mapUpdate 83 (.map (some mk)) (.pointer (some ⟨q,0,none⟩)) (.pointer (some ⟨p,0,none⟩))).run Tryz.prog w5=.ok () w6:=hrun;have k3:w5.cell? ⟨b,3,none⟩=some (.map (some mk)):=hb5.cell 3;have kl:=hb5.lt;have HF:Hid (LnPost b mk q p s c0 c1 c2 G D hd w (.returned (.int .i64 0)) w6):=hidE (HTAIL.out q p _ _ Vs w5 w6 nq K5 HM.out.2.1 HM.out.1 HM.out.2.2.2.1 HM.out.2.2.1 (Ne.symm HM.out.2.2.2.2) hag hb5 hk5 hp5 hc5 hm6 hg6);clear hag hb5 hk5 hp5 hc5 hrun hm6 hg6 hs6 HAG HTAIL HEND p0 p2 q0 q2 hpl hql;go_wp2_with fail
     go_ret
     exact HF.out
    ·have hr':(r==0)=false:=by rw[Bool.eq_false_iff];intro e;simp at e;exact hr e
     have HF:Hid (LnPost b mk q p s c0 c1 c2 G D hd w (.returned (.int .i64 r)) w5):=hidE (HEND.out q p r Vs w5 nq hr hag hb5 ⟨K5,hk5⟩ hp5 hc5);clear hag hb5 hk5 hp5 hc5 hr HAG HTAIL HEND p0 p2 q0 q2 hpl hql;go_wp2_with fail
     go_ret
     exact HF.out
   ·have hv:lrn p q ⟨2,nx,zx,lx,cx,wx⟩ ⟨2,ny,zy,ly,cy,wy⟩=(p,q):=by unfold lrn;rw[if_neg (by simp;omega)]
    rw[hv]
    have hn':decide (zx<zy)=false:=decide_eq_false hn;clear hv hn;go_enter Tryz.func72,Tryz.ntmps72
    go_wp2_with fail
    go_quiet (fail)
    go_wp2_with fail
    refine(HAG.out nq p q _ _ HM.out.1 HM.out.2.1).mono ?_;rintro e w5 ⟨r,Vs,rfl,hag,hb5,⟨K5,hk5⟩,hp5,hc5⟩;by_cases hr:r=0
    ·subst hr
     obtain⟨w6,hrun,hm6,hg6,hs6⟩:=MapK.store hk5.mp keyQ Tryz.underlying83 p q (hp5 p _ HM.out.1).laid;have HRUN:(Instr.mapUpdate 83 (.map (some mk)) (.pointer (some ⟨p,0,none⟩)) (.pointer (some ⟨q,0,none⟩))).run Tryz.prog w5=.ok () w6:=hrun;have k3:w5.cell? ⟨b,3,none⟩=some (.map (some mk)):=hb5.cell 3;have kl:=hb5.lt;have HF:Hid (LnPost b mk p q s c0 c1 c2 G D hd w (.returned (.int .i64 0)) w6):=hidE (HTAIL.out p q _ _ Vs w5 w6 nq K5 HM.out.1 HM.out.2.1 HM.out.2.2.1 HM.out.2.2.2.1 HM.out.2.2.2.2 hag hb5 hk5 hp5 hc5 hm6 hg6);clear hag hb5 hk5 hp5 hc5 hrun hm6 hg6 hs6 HAG HTAIL HEND p0 p2 q0 q2 hpl hql;go_wp2_with fail
     go_ret
     exact HF.out
    ·have hr':(r==0)=false:=by rw[Bool.eq_false_iff];intro e;simp at e;exact hr e
     have HF:Hid (LnPost b mk p q s c0 c1 c2 G D hd w (.returned (.int .i64 r)) w5):=hidE (HEND.out p q r Vs w5 nq hr hag hb5 ⟨K5,hk5⟩ hp5 hc5);clear hag hb5 hk5 hp5 hc5 hr HAG HTAIL HEND p0 p2 q0 q2 hpl hql;go_wp2_with fail
     go_ret
     exact HF.out
  ·have hv:lrn p q ⟨2,nx,zx,lx,cx,wx⟩ ⟨ky,ny,zy,ly,cy,wy⟩=(p,q):=by unfold lrn;rw[if_neg (by simp[h3])]
   rw[hv]
   have e2:((ky:Int)==2)=false:=by rw[Bool.eq_false_iff];intro e;simp at e;omega
   clear hv h3;go_enter Tryz.func72,Tryz.ntmps72
   go_wp2_with fail
   go_quiet (fail)
   go_wp2_with fail
   refine(HAG.out nq p q _ _ HM.out.1 HM.out.2.1).mono ?_;rintro e w5 ⟨r,Vs,rfl,hag,hb5,⟨K5,hk5⟩,hp5,hc5⟩;by_cases hr:r=0
   ·subst hr
    obtain⟨w6,hrun,hm6,hg6,hs6⟩:=MapK.store hk5.mp keyQ Tryz.underlying83 p q (hp5 p _ HM.out.1).laid;have HRUN:(Instr.mapUpdate 83 (.map (some mk)) (.pointer (some ⟨p,0,none⟩)) (.pointer (some ⟨q,0,none⟩))).run Tryz.prog w5=.ok () w6:=hrun;have k3:w5.cell? ⟨b,3,none⟩=some (.map (some mk)):=hb5.cell 3;have kl:=hb5.lt;have HF:Hid (LnPost b mk p q s c0 c1 c2 G D hd w (.returned (.int .i64 0)) w6):=hidE (HTAIL.out p q _ _ Vs w5 w6 nq K5 HM.out.1 HM.out.2.1 HM.out.2.2.1 HM.out.2.2.2.1 HM.out.2.2.2.2 hag hb5 hk5 hp5 hc5 hm6 hg6);clear hag hb5 hk5 hp5 hc5 hrun hm6 hg6 hs6 HAG HTAIL HEND p0 p2 q0 q2 hpl hql;go_wp2_with fail
    go_ret
    exact HF.out
   ·have hr':(r==0)=false:=by rw[Bool.eq_false_iff];intro e;simp at e;exact hr e
    have HF:Hid (LnPost b mk p q s c0 c1 c2 G D hd w (.returned (.int .i64 r)) w5):=hidE (HEND.out p q r Vs w5 nq hr hag hb5 ⟨K5,hk5⟩ hp5 hc5);clear hag hb5 hk5 hp5 hc5 hr HAG HTAIL HEND p0 p2 q0 q2 hpl hql;go_wp2_with fail
    go_ret
    exact HF.out
 ·have hv:lrn p q ⟨kx,nx,zx,lx,cx,wx⟩ ⟨ky,ny,zy,ly,cy,wy⟩=(q,p):=by unfold lrn;rw[if_pos (.inl h2)]
  rw[hv]
  have e2:((kx:Int) != 2)=true:=by rw[bne_iff_ne];omega
  clear hv h2;go_enter Tryz.func72,Tryz.ntmps72
  go_wp2_with fail
  go_quiet (fail)
  go_wp2_with fail
  refine(HAG.out nq q p _ _ HM.out.2.1 HM.out.1).mono ?_;rintro e w5 ⟨r,Vs,rfl,hag,hb5,⟨K5,hk5⟩,hp5,hc5⟩;by_cases hr:r=0
  ·subst hr
   obtain⟨w6,hrun,hm6,hg6,hs6⟩:=MapK.store hk5.mp keyQ Tryz.underlying83 q p (hp5 q _ HM.out.2.1).laid;have HRUN:(Instr.mapUpdate 83 (.map (some mk)) (.pointer (some ⟨q,0,none⟩)) (.pointer (some ⟨p,0,none⟩))).run Tryz.prog w5=.ok () w6:=hrun;have k3:w5.cell? ⟨b,3,none⟩=some (.map (some mk)):=hb5.cell 3;have kl:=hb5.lt;have HF:Hid (LnPost b mk q p s c0 c1 c2 G D hd w (.returned (.int .i64 0)) w6):=hidE (HTAIL.out q p _ _ Vs w5 w6 nq K5 HM.out.2.1 HM.out.1 HM.out.2.2.2.1 HM.out.2.2.1 (Ne.symm HM.out.2.2.2.2) hag hb5 hk5 hp5 hc5 hm6 hg6);clear hag hb5 hk5 hp5 hc5 hrun hm6 hg6 hs6 HAG HTAIL HEND p0 p2 q0 q2 hpl hql;go_wp2_with fail
   go_ret
   exact HF.out
  ·have hr':(r==0)=false:=by rw[Bool.eq_false_iff];intro e;simp at e;exact hr e
   have HF:Hid (LnPost b mk q p s c0 c1 c2 G D hd w (.returned (.int .i64 r)) w5):=hidE (HEND.out q p r Vs w5 nq hr hag hb5 ⟨K5,hk5⟩ hp5 hc5);clear hag hb5 hk5 hp5 hc5 hr HAG HTAIL HEND p0 p2 q0 q2 hpl hql;go_wp2_with fail
   go_ret
   exact HF.out
end Go.Proofs.YtfafilmklhnngaaGreatDoor
namespace Go.Proofs.YtfafilmklhnngaaGreatDoor
open Go.RowKit Lx Tx Go.Maps Go.WideMaps
set_option maxRecDepth 100000
structure WkI (b e mk ql qr:Nat) (dn:Bool) (c0 c1 c2 c4:Value) (hd:Nat->Nat) (w W:World):Prop where
 sb:Blk W b 85 #[c0,c1,c2,.map (some mk),c4]
 eb:Blk W e 78 #[.pointer (some ⟨ql,0,none⟩),.pointer (some ⟨qr,0,none⟩),.bool dn]
 kn:∃K',Knw W mk K' hd
 ll:LaidQ W ql
 lr:LaidQ W qr
 hl:LaidQ W (hd ql)
 hr:LaidQ W (hd qr)
 ch:Chg (only mk) w W
theorem WkI.drew {b e mk ql qr:Nat} {dn:Bool} {c0 c1 c2 c4:Value} {hd:Nat->Nat} {w W:World}(h:WkI b e mk ql qr dn c0 c1 c2 c4 hd w W):WkI b e mk ql qr dn c0 c1 c2 c4 hd w W.drew :=
 ⟨h.sb,h.eb,by obtain⟨K,hK⟩:=h.kn;exact⟨K,hK.keep rfl (λ_ h=>h)⟩,h.ll,h.lr,h.hl,h.hr,h.ch.drew⟩
theorem WkI.head {b e mk ql qr:Nat} {dn:Bool} {c0 c1 c2 c4:Value} {hd:Nat->Nat} {w W:World}(h:WkI b e mk ql qr dn c0 c1 c2 c4 hd w W)(x:Nat)(hx:LaidQ W x):Calls Tryz.prog 71 #[.pointer (some ⟨b,0,none⟩),.pointer (some ⟨x,0,none⟩)] W λr w'=>r=.returned (.pointer (some ⟨hd x,0,none⟩))/\WkI b e mk ql qr dn c0 c1 c2 c4 hd w w':=by
 obtain⟨K,hK⟩:=h.kn;refine(zeI b mk K hd x W c0 c1 c2 c4 h.sb hK hx).mono ?_;rintro r w' ⟨rfl,K1,hk1,hc1,hs1,-⟩;have hne:∀g cs t,Blk W g t cs->¬only mk g:=λg cs t hg e=>by
  have e:g=mk:=e;rw[e]at hg
  exact MapK.no hK.mp hg
 exact⟨rfl,h.sb.chg hc1 (hne _ _ _ h.sb),h.eb.chg hc1 (hne _ _ _ h.eb),⟨K1,hk1⟩,h.ll.chg hK.mp hc1,h.lr.chg hK.mp hc1,h.hl.chg hK.mp hc1,h.hr.chg hK.mp hc1,h.ch.trans hc1⟩
theorem WkI.facts {b e mk ql qr:Nat} {dn:Bool} {c0 c1 c2 c4:Value} {hd:Nat->Nat} {w W:World}(h:WkI b e mk ql qr dn c0 c1 c2 c4 hd w W):W.cell? ⟨e,0,none⟩=some (.pointer (some ⟨ql,0,none⟩))/\W.cell? ⟨e,1,none⟩=some (.pointer (some ⟨qr,0,none⟩))/\W.cell? ⟨e,2,none⟩=some (.bool dn)/\e<W.heap.size:=⟨h.eb.cell 0,h.eb.cell 1,h.eb.cell 2,h.eb.lt⟩
theorem zm4(b mk ql qr:Nat)(dn:Bool)(c4:Value)(c0 c1 c2:Value)(K:Nat->Option Nat)(hd:Nat->Nat)(w:World)
  (hb:Blk w b 85 #[c0,c1,c2,.map (some mk),c4])(hk:Knw w mk K hd)(hl:LaidQ w ql)(hr:LaidQ w qr)(hhl:LaidQ w (hd ql))(hhr:LaidQ w (hd qr))(heq:hd ql=hd qr):Calls Tryz.prog 36 #[.pointer (some ⟨b,0,none⟩),.agg #[.pointer (some ⟨ql,0,none⟩),.pointer (some ⟨qr,0,none⟩),.bool dn]] w λr w'=>r=.returned (.int .i64 0)/\∃e,WkI b e mk ql qr dn c0 c1 c2 c4 hd w w':=by
 have HEQ:=hidE heq;clear heq;have hmk:mk<w.heap.size:=MapK.lt hk.mp;have h1:WkI b w.heap.size mk ql qr dn c0 c1 c2 c4 hd w (w.alloc (.cells #[.pointer (some ⟨ql,0,none⟩),.pointer (some ⟨qr,0,none⟩),.bool dn] 78)):=by
  have hbb:∀g,g<w.heap.size->(w.alloc (.cells #[.pointer (some ⟨ql,0,none⟩),.pointer (some ⟨qr,0,none⟩),.bool dn] 78)).heap[g]?=w.heap[g]?:=λg hg=>Below.heap_alloc _ _ _ hg;have hla:∀x,LaidQ w x->LaidQ (w.alloc (.cells #[.pointer (some ⟨ql,0,none⟩),.pointer (some ⟨qr,0,none⟩),.bool dn] 78)) x:=λx ⟨cs,hx⟩=>⟨cs,(hbb x (Array.getElem?_eq_some_iff.1 hx).1).trans hx⟩;exact⟨hb.alloc _,heap_alloc_new _ _,⟨K,hk.keep (hbb _ hmk) hla⟩,hla _ hl,hla _ hr,hla _ hhl,hla _ hhr,(Chg.refl _ _).alloc _⟩
 obtain⟨w1,hw1⟩:∃W,w.alloc (.cells #[.pointer (some ⟨ql,0,none⟩),.pointer (some ⟨qr,0,none⟩),.bool dn] 78)=W:=⟨_,rfl⟩;rw[hw1]at h1
 obtain⟨z0,z1,z2,zl⟩:=h1.drew.facts;have HL0:=hidE (h1.drew.head ql h1.ll);have HR0:=hidE (h1.drew.head qr h1.lr);have HW1:=hidE hw1;clear hb hk hl hr hhl hhr hmk h1 hw1;go_enter Tryz.func36,Tryz.ntmps36
 go_upto_region 1 with fail
 rw[HW1.out]
 go_cut [5,6] from 7 to 14 (λv5 v6 wx=>v5=.pointer (some ⟨hd ql,0,none⟩)/\v6=.pointer (some ⟨hd qr,0,none⟩)/\Hid (WkI b w.heap.size mk ql qr dn c0 c1 c2 c4 hd w wx))
 case first =>
  go_region_law (first
   |(go_simp;(with_reducible refine HL0.out.mono ?_);rintro r w5 ⟨rfl,hw5⟩;obtain⟨y0,y1,y2,yl⟩:=hw5.facts;have HR5:=hidE (hw5.head qr hw5.lr);clear hw5)
   |(go_simp;(with_reducible refine HR0.out.mono ?_);rintro r w5 ⟨rfl,hw5⟩;obtain⟨y0,y1,y2,yl⟩:=hw5.facts;have HL5:=hidE (hw5.head ql hw5.ll);clear hw5)
   |(go_simp;(with_reducible refine HR5.out.mono ?_);rintro r w6 ⟨rfl,hw6⟩;obtain⟨x0,x1,x2,xl⟩:=hw6.facts;have HW6:=hidE hw6;clear hw6)
   |(go_simp;(with_reducible refine HL5.out.mono ?_);rintro r w6 ⟨rfl,hw6⟩;obtain⟨x0,x1,x2,xl⟩:=hw6.facts;have HW6:=hidE hw6;clear hw6))
  all_goals
   go_wp2_with fail
   go_meet
   case rel=>exact⟨rfl,rfl,HW6⟩
 case rest =>
  rename World=>V0;obtain⟨rfl,rfl,hw⟩:=hcut;have heq:=zcf hw.out.hl hw.out.hr;rw[decide_eq_true HEQ.out]at heq
  go_wp2_with fail
  go_ret
  exact⟨rfl,_,hw.out⟩
theorem zm5(b mk ql qr:Nat)(c4:Value)(c0 c1 c2:Value)(K:Nat->Option Nat)(hd:Nat->Nat)(w:World)
  (hb:Blk w b 85 #[c0,c1,c2,.map (some mk),c4])(hk:Knw w mk K hd)(hl:LaidQ w ql)(hr:LaidQ w qr)(hhl:LaidQ w (hd ql))(hhr:LaidQ w (hd qr))(hne:hd ql≠hd qr):Calls Tryz.prog 36 #[.pointer (some ⟨b,0,none⟩),.agg #[.pointer (some ⟨ql,0,none⟩),.pointer (some ⟨qr,0,none⟩),.bool true]] w λr w'=>r=.returned (.int .i64 0)/\Blk w' b 85 #[c0,c1,c2,.map (some mk),c4]/\(∃K',Knw w' mk K' (hdL hd (hd ql) (hd qr)))/\Chg (only mk) w w':=by
 have HNE:=hidE hne;have HID:Hid (hd (hd ql)=hd ql/\hd (hd qr)=hd qr):=hidE ⟨hk.idem _,hk.idem _⟩;clear hne;have hmk:mk<w.heap.size:=MapK.lt hk.mp;have h1:WkI b w.heap.size mk ql qr true c0 c1 c2 c4 hd w (w.alloc (.cells #[.pointer (some ⟨ql,0,none⟩),.pointer (some ⟨qr,0,none⟩),.bool true] 78)):=by
  have hbb:∀g,g<w.heap.size->(w.alloc (.cells #[.pointer (some ⟨ql,0,none⟩),.pointer (some ⟨qr,0,none⟩),.bool true] 78)).heap[g]?=w.heap[g]?:=λg hg=>Below.heap_alloc _ _ _ hg;have hla:∀x,LaidQ w x->LaidQ (w.alloc (.cells #[.pointer (some ⟨ql,0,none⟩),.pointer (some ⟨qr,0,none⟩),.bool true] 78)) x:=λx ⟨cs,hx⟩=>⟨cs,(hbb x (Array.getElem?_eq_some_iff.1 hx).1).trans hx⟩;exact⟨hb.alloc _,heap_alloc_new _ _,⟨K,hk.keep (hbb _ hmk) hla⟩,hla _ hl,hla _ hr,hla _ hhl,hla _ hhr,(Chg.refl _ _).alloc _⟩
 obtain⟨w1,hw1⟩:∃W,w.alloc (.cells #[.pointer (some ⟨ql,0,none⟩),.pointer (some ⟨qr,0,none⟩),.bool true] 78)=W:=⟨_,rfl⟩;rw[hw1]at h1
 obtain⟨z0,z1,z2,zl⟩:=h1.drew.facts;have HL0:=hidE (h1.drew.head ql h1.ll);have HR0:=hidE (h1.drew.head qr h1.lr);have HW1:=hidE hw1;clear hb hk hl hr hhl hhr hmk h1 hw1;go_enter Tryz.func36,Tryz.ntmps36
 go_upto_region 1 with fail
 rw[HW1.out]
 go_cut [5,6] from 7 to 14 (λv5 v6 wx=>v5=.pointer (some ⟨hd ql,0,none⟩)/\v6=.pointer (some ⟨hd qr,0,none⟩)/\Hid (WkI b w.heap.size mk ql qr true c0 c1 c2 c4 hd w wx))
 case first =>
  go_region_law (first
   |(go_simp;(with_reducible refine HL0.out.mono ?_);rintro r w5 ⟨rfl,hw5⟩;obtain⟨y0,y1,y2,yl⟩:=hw5.facts;have HR5:=hidE (hw5.head qr hw5.lr);clear hw5)
   |(go_simp;(with_reducible refine HR0.out.mono ?_);rintro r w5 ⟨rfl,hw5⟩;obtain⟨y0,y1,y2,yl⟩:=hw5.facts;have HL5:=hidE (hw5.head ql hw5.ll);clear hw5)
   |(go_simp;(with_reducible refine HR5.out.mono ?_);rintro r w6 ⟨rfl,hw6⟩;obtain⟨x0,x1,x2,xl⟩:=hw6.facts;have HW6:=hidE hw6;clear hw6)
   |(go_simp;(with_reducible refine HL5.out.mono ?_);rintro r w6 ⟨rfl,hw6⟩;obtain⟨x0,x1,x2,xl⟩:=hw6.facts;have HW6:=hidE hw6;clear hw6))
  all_goals
   go_wp2_with fail
   go_meet
   case rel=>exact⟨rfl,rfl,HW6⟩
 case rest =>
  rename World=>V0;obtain⟨rfl,rfl,hw⟩:=hcut;have hwo:=hw.out;have heq:=zcf hwo.hl hwo.hr;rw[decide_eq_false HNE.out]at heq
  obtain⟨K5,hk5⟩:=hwo.kn;obtain⟨w6,hrun,hm6,hg6,hs6⟩:=MapK.store hk5.mp keyQ Tryz.underlying83 (hd ql) (hd qr) hwo.hl;have HRUN:(Instr.mapUpdate 83 (.map (some mk)) (.pointer (some ⟨hd ql,0,none⟩)) (.pointer (some ⟨hd qr,0,none⟩))).run Tryz.prog V0=.ok () w6:=hrun;obtain⟨z0,z1,z2,zl⟩:=hwo.facts;have k3:V0.cell? ⟨b,3,none⟩=some (.map (some mk)):=hwo.sb.cell 3;have kl:=hwo.sb.lt;have hneb:∀(g:Nat) (cs:Array Value) (t:TypeId),V0.heap[g]?=some (.cells cs t (0,0))->w6.heap[g]?=V0.heap[g]?:=λg cs t hg=>hg6.block g (Array.getElem?_eq_some_iff.1 hg).1 (λe=>by injection e with e;rw[e]at hg;exact MapK.no hk5.mp hg);have HF:Hid (Blk w6 b 85 #[c0,c1,c2,.map (some mk),c4]/\(∃K',Knw w6 mk K' (hdL hd (hd ql) (hd qr)))/\Chg (only mk) w w6):=hidE ⟨hwo.sb.same (hneb _ _ _ hwo.sb),⟨_,hk5.link HID.out.1 HID.out.2 HNE.out hwo.hl hwo.hr hm6 (λx ⟨cs,hx⟩=>⟨cs,(hneb x cs _ hx).trans hx⟩)⟩,hwo.ch.grown hg6 (λk hk=>.inr (by injection hk with hk;exact hk.symm))⟩;clear hwo hk5 hrun hm6 hg6 hs6 hneb hw HL0 HR0;go_wp2_with fail
  go_ret
  exact⟨rfl,HF.out⟩
end Go.Proofs.YtfafilmklhnngaaGreatDoor
namespace Go.Proofs.YtfafilmklhnngaaGreatDoor
open Go.RowKit Lx Tx Go.Maps Go.WideMaps
set_option maxRecDepth 100000
theorem zm6(b mk ql qr:Nat)(s:Int)(c0 c1 c2:Value)(K:Nat->Option Nat)(hd:Nat->Nat)(w:World)
  (hb:Blk w b 85 #[c0,c1,c2,.map (some mk),.int .i64 s])(hk:Knw w mk K hd)(hl:LaidQ w ql)(hr:LaidQ w qr)(hhl:LaidQ w (hd ql))(hhr:LaidQ w (hd qr))(G:Nat->Option Nd)(D:Nat->Dy)(L:List Nat)(hpd:PartsD w G D)(hg:Gr G hd L)(hsr:∀q x,G q=some x->(D q).sr<=s)(x y:Nd)(hx:G (hd ql)=some x)(hy:G (hd qr)=some y)(hne:hd ql≠hd qr)(hm:x.kd=2\/y.kd=2)(hwt:1+wg G [] L<=1000000)(hs0:0<=s)(hs:s<1000000000000):Calls Tryz.prog 36 #[.pointer (some ⟨b,0,none⟩),.agg #[.pointer (some ⟨ql,0,none⟩),.pointer (some ⟨qr,0,none⟩),.bool false]] w (LnPost b mk (lrn (hd ql) (hd qr) x y).1 (lrn (hd ql) (hd qr) x y).2 s c0 c1 c2 G D hd w):=by
 have HNE:=hidE hne;have HID:Hid (hd (hd ql)=hd ql/\hd (hd qr)=hd qr):=hidE ⟨hk.idem _,hk.idem _⟩;have HPD:=hidE hpd;have HNM:Hid (∀(g:Nat) (cs:Array Value) (t:TypeId),w.heap[g]?=some (.cells cs t (0,0))->¬only mk g):=hidE λg cs t hg e=>by
  have e:g=mk:=e;rw[e]at hg
  exact MapK.no hk.mp hg
 have HX:=hidE hx;have HY:=hidE hy;have HM:=hidE hm;have HG:=hidE hg;have HSR:=hidE hsr;have HWT:=hidE hwt;clear hm hg hsr hwt;clear hne hpd hx hy;have hmk:mk<w.heap.size:=MapK.lt hk.mp;have h1:WkI b w.heap.size mk ql qr false c0 c1 c2 (.int .i64 s) hd w (w.alloc (.cells #[.pointer (some ⟨ql,0,none⟩),.pointer (some ⟨qr,0,none⟩),.bool false] 78)):=by
  have hbb:∀g,g<w.heap.size->(w.alloc (.cells #[.pointer (some ⟨ql,0,none⟩),.pointer (some ⟨qr,0,none⟩),.bool false] 78)).heap[g]?=w.heap[g]?:=λg hg=>Below.heap_alloc _ _ _ hg;have hla:∀x,LaidQ w x->LaidQ (w.alloc (.cells #[.pointer (some ⟨ql,0,none⟩),.pointer (some ⟨qr,0,none⟩),.bool false] 78)) x:=λx ⟨cs,hx⟩=>⟨cs,(hbb x (Array.getElem?_eq_some_iff.1 hx).1).trans hx⟩;exact⟨hb.alloc _,heap_alloc_new _ _,⟨K,hk.keep (hbb _ hmk) hla⟩,hla _ hl,hla _ hr,hla _ hhl,hla _ hhr,(Chg.refl _ _).alloc _⟩
 obtain⟨w1,hw1⟩:∃W,w.alloc (.cells #[.pointer (some ⟨ql,0,none⟩),.pointer (some ⟨qr,0,none⟩),.bool false] 78)=W:=⟨_,rfl⟩;rw[hw1]at h1
 obtain⟨z0,z1,z2,zl⟩:=h1.drew.facts;have HL0:=hidE (h1.drew.head ql h1.ll);have HR0:=hidE (h1.drew.head qr h1.lr);have HW1:=hidE hw1;clear hb hk hl hr hhl hhr hmk h1 hw1;go_enter Tryz.func36,Tryz.ntmps36
 go_upto_region 1 with fail
 rw[HW1.out]
 go_cut [5,6] from 7 to 14 (λv5 v6 wx=>v5=.pointer (some ⟨hd ql,0,none⟩)/\v6=.pointer (some ⟨hd qr,0,none⟩)/\Hid (WkI b w.heap.size mk ql qr false c0 c1 c2 (.int .i64 s) hd w wx))
 case first =>
  go_region_law (first
   |(go_simp;(with_reducible refine HL0.out.mono ?_);rintro r w5 ⟨rfl,hw5⟩;obtain⟨y0,y1,y2,yl⟩:=hw5.facts;have HR5:=hidE (hw5.head qr hw5.lr);clear hw5)
   |(go_simp;(with_reducible refine HR0.out.mono ?_);rintro r w5 ⟨rfl,hw5⟩;obtain⟨y0,y1,y2,yl⟩:=hw5.facts;have HL5:=hidE (hw5.head ql hw5.ll);clear hw5)
   |(go_simp;(with_reducible refine HR5.out.mono ?_);rintro r w6 ⟨rfl,hw6⟩;obtain⟨x0,x1,x2,xl⟩:=hw6.facts;have HW6:=hidE hw6;clear hw6)
   |(go_simp;(with_reducible refine HL5.out.mono ?_);rintro r w6 ⟨rfl,hw6⟩;obtain⟨x0,x1,x2,xl⟩:=hw6.facts;have HW6:=hidE hw6;clear hw6))
  all_goals
   go_wp2_with fail
   go_meet
   case rel=>exact⟨rfl,rfl,HW6⟩
 case rest =>
  rename World=>V0;obtain⟨rfl,rfl,hw⟩:=hcut;have hwo:=hw.out;have heq:=zcf hwo.hl hwo.hr;rw[decide_eq_false HNE.out]at heq
  obtain⟨K5,hk5⟩:=hwo.kn;obtain⟨z0,z1,z2,zl⟩:=hwo.facts;have hpd0:PartsD V0 G D:=HPD.out.same λk hk ⟨cs,t,hx⟩=>hwo.ch.block k hk (HNM.out k cs t hx);obtain⟨A1,cc1,p0,-,-,-,-,-,-⟩:=(hpd0 _ x HX.out).facts;obtain⟨A2,cc2,q0,-,-,-,-,-,-⟩:=(hpd0 _ y HY.out).facts;have lp:=(hpd0 _ x HX.out).lt;have lq:=(hpd0 _ y HY.out).lt;obtain⟨kx,hkx⟩:∃k,x.kd=k:=⟨_,rfl⟩;obtain⟨ky,hky⟩:∃k,y.kd=k:=⟨_,rfl⟩;rw[hkx]at p0
  rw[hky]at q0
  have hln:=zm3 b mk (hd ql) (hd qr) s c0 c1 c2 G D K5 hd L V0 hwo.sb hk5 hpd0 HG.out HSR.out x y HX.out HY.out HID.out.1 HID.out.2 HNE.out HWT.out hs0 hs;have HLN:=hidE hln;have HCH:=hidE hwo.ch;have hm:=HM.out;rw[hkx,hky]at hm
  clear hln hwo hk5 hpd0 hw HL0 HR0 hkx hky;by_cases h2:kx=2
  ·have e2:((kx:Int)==2)=true:=by simp[h2]
   clear h2 hm;go_wp2_with fail
   refine HLN.out.mono ?_;rintro e w5 ⟨r,Vs,rfl,a1,a2,a3,a4,a5⟩;have HF:Hid (LnPost b mk (lrn (hd ql) (hd qr) x y).1 (lrn (hd ql) (hd qr) x y).2 s c0 c1 c2 G D hd w (.returned (.int .i64 r)) w5):=hidE ⟨r,Vs,rfl,a1,a2,a3,a4,(HCH.out.mono (λ_ _ h=>.inl h)).trans a5⟩;clear a1 a2 a3 a4 a5 HLN;go_wp2_with fail
   go_ret
   exact HF.out
  ·have e2:((kx:Int)==2)=false:=by rw[Bool.eq_false_iff];intro e;simp at e;omega
   have e3:((ky:Int)==2)=true:=by simp;omega
   clear h2 hm;go_wp2_with fail
   refine HLN.out.mono ?_;rintro e w5 ⟨r,Vs,rfl,a1,a2,a3,a4,a5⟩;have HF:Hid (LnPost b mk (lrn (hd ql) (hd qr) x y).1 (lrn (hd ql) (hd qr) x y).2 s c0 c1 c2 G D hd w (.returned (.int .i64 r)) w5):=hidE ⟨r,Vs,rfl,a1,a2,a3,a4,(HCH.out.mono (λ_ _ h=>.inl h)).trans a5⟩;clear a1 a2 a3 a4 a5 HLN;go_wp2_with fail
   go_ret
   exact HF.out
theorem zm7(b mk ql qr:Nat)(c4:Value)(c0 c1 c2:Value)(K:Nat->Option Nat)(hd:Nat->Nat)(w:World)
  (hb:Blk w b 85 #[c0,c1,c2,.map (some mk),c4])(hk:Knw w mk K hd)(hl:LaidQ w ql)(hr:LaidQ w qr)(hhl:LaidQ w (hd ql))(hhr:LaidQ w (hd qr))(G:Nat->Option Nd)(D:Nat->Dy)(hpd:PartsD w G D)(x y:Nd)(hx:G (hd ql)=some x)(hy:G (hd qr)=some y)(hne:hd ql≠hd qr)(hm:x.kd≠2/\y.kd≠2)(hft:fitB x y=false):Calls Tryz.prog 36 #[.pointer (some ⟨b,0,none⟩),.agg #[.pointer (some ⟨ql,0,none⟩),.pointer (some ⟨qr,0,none⟩),.bool false]] w λr w'=>r=.returned (.int .i64 40)/\Blk w' b 85 #[c0,c1,c2,.map (some mk),c4]/\(∃K',Knw w' mk K' hd)/\PartsD w' G D/\Chg (only mk) w w':=by
 have HNE:=hidE hne;have HID:Hid (hd (hd ql)=hd ql/\hd (hd qr)=hd qr):=hidE ⟨hk.idem _,hk.idem _⟩;have HPD:=hidE hpd;have HNM:Hid (∀(g:Nat) (cs:Array Value) (t:TypeId),w.heap[g]?=some (.cells cs t (0,0))->¬only mk g):=hidE λg cs t hg e=>by
  have e:g=mk:=e;rw[e]at hg
  exact MapK.no hk.mp hg
 have HX:=hidE hx;have HY:=hidE hy;have HM:=hidE hm;have HFT:=hidE hft;clear hm hft;clear hne hpd hx hy;have hmk:mk<w.heap.size:=MapK.lt hk.mp;have h1:WkI b w.heap.size mk ql qr false c0 c1 c2 c4 hd w (w.alloc (.cells #[.pointer (some ⟨ql,0,none⟩),.pointer (some ⟨qr,0,none⟩),.bool false] 78)):=by
  have hbb:∀g,g<w.heap.size->(w.alloc (.cells #[.pointer (some ⟨ql,0,none⟩),.pointer (some ⟨qr,0,none⟩),.bool false] 78)).heap[g]?=w.heap[g]?:=λg hg=>Below.heap_alloc _ _ _ hg;have hla:∀x,LaidQ w x->LaidQ (w.alloc (.cells #[.pointer (some ⟨ql,0,none⟩),.pointer (some ⟨qr,0,none⟩),.bool false] 78)) x:=λx ⟨cs,hx⟩=>⟨cs,(hbb x (Array.getElem?_eq_some_iff.1 hx).1).trans hx⟩;exact⟨hb.alloc _,heap_alloc_new _ _,⟨K,hk.keep (hbb _ hmk) hla⟩,hla _ hl,hla _ hr,hla _ hhl,hla _ hhr,(Chg.refl _ _).alloc _⟩
 obtain⟨w1,hw1⟩:∃W,w.alloc (.cells #[.pointer (some ⟨ql,0,none⟩),.pointer (some ⟨qr,0,none⟩),.bool false] 78)=W:=⟨_,rfl⟩;rw[hw1]at h1
 obtain⟨z0,z1,z2,zl⟩:=h1.drew.facts;have HL0:=hidE (h1.drew.head ql h1.ll);have HR0:=hidE (h1.drew.head qr h1.lr);have HW1:=hidE hw1;clear hb hk hl hr hhl hhr hmk h1 hw1;go_enter Tryz.func36,Tryz.ntmps36
 go_upto_region 1 with fail
 rw[HW1.out]
 go_cut [5,6] from 7 to 14 (λv5 v6 wx=>v5=.pointer (some ⟨hd ql,0,none⟩)/\v6=.pointer (some ⟨hd qr,0,none⟩)/\Hid (WkI b w.heap.size mk ql qr false c0 c1 c2 c4 hd w wx))
 case first =>
  go_region_law (first
   |(go_simp;(with_reducible refine HL0.out.mono ?_);rintro r w5 ⟨rfl,hw5⟩;obtain⟨y0,y1,y2,yl⟩:=hw5.facts;have HR5:=hidE (hw5.head qr hw5.lr);clear hw5)
   |(go_simp;(with_reducible refine HR0.out.mono ?_);rintro r w5 ⟨rfl,hw5⟩;obtain⟨y0,y1,y2,yl⟩:=hw5.facts;have HL5:=hidE (hw5.head ql hw5.ll);clear hw5)
   |(go_simp;(with_reducible refine HR5.out.mono ?_);rintro r w6 ⟨rfl,hw6⟩;obtain⟨x0,x1,x2,xl⟩:=hw6.facts;have HW6:=hidE hw6;clear hw6)
   |(go_simp;(with_reducible refine HL5.out.mono ?_);rintro r w6 ⟨rfl,hw6⟩;obtain⟨x0,x1,x2,xl⟩:=hw6.facts;have HW6:=hidE hw6;clear hw6))
  all_goals
   go_wp2_with fail
   go_meet
   case rel=>exact⟨rfl,rfl,HW6⟩
 case rest =>
  rename World=>V0;obtain⟨rfl,rfl,hw⟩:=hcut;have hwo:=hw.out;have heq:=zcf hwo.hl hwo.hr;rw[decide_eq_false HNE.out]at heq
  obtain⟨K5,hk5⟩:=hwo.kn;obtain⟨z0,z1,z2,zl⟩:=hwo.facts;have hpd0:PartsD V0 G D:=HPD.out.same λk hk ⟨cs,t,hx⟩=>hwo.ch.block k hk (HNM.out k cs t hx);obtain⟨A1,cc1,p0,-,-,-,-,-,-⟩:=(hpd0 _ x HX.out).facts;obtain⟨A2,cc2,q0,-,-,-,-,-,-⟩:=(hpd0 _ y HY.out).facts;have lp:=(hpd0 _ x HX.out).lt;have lq:=(hpd0 _ y HY.out).lt;obtain⟨kx,hkx⟩:∃k,x.kd=k:=⟨_,rfl⟩;obtain⟨ky,hky⟩:∃k,y.kd=k:=⟨_,rfl⟩;rw[hkx]at p0
  rw[hky]at q0
  have hft:=zgb (hd ql) (hd qr) x y _ _ V0 (hpd0 _ x HX.out) (hpd0 _ y HY.out);rw[HFT.out]at hft
  have HFI:=hidE hft;have HEND:Hid (∀w5,Below V0.heap.size V0 w5->Blk w5 b 85 #[c0,c1,c2,.map (some mk),c4]/\(∃K',Knw w5 mk K' hd)/\PartsD w5 G D/\Chg (only mk) w w5):=hidE λw5 h5 =>
   ⟨hwo.sb.below h5 hwo.sb.lt,⟨K5,hk5.keep (h5.block _ (MapK.lt hk5.mp)) (λx ⟨cs,hx⟩=>⟨cs,(h5.block x (Array.getElem?_eq_some_iff.1 hx).1).trans hx⟩)⟩,hpd0.same λk hk _=>h5.block k hk,hwo.ch.below h5⟩
  have hm:=HM.out;rw[hkx,hky]at hm
  have e2:((kx:Int)==2)=false:=by rw[Bool.eq_false_iff];intro e;simp at e;omega
  have e3:((ky:Int)==2)=false:=by rw[Bool.eq_false_iff];intro e;simp at e;omega
  clear hft hwo hk5 hpd0 hw HL0 HR0 hkx hky hm;go_wp2_with fail
  refine HFI.out.mono ?_;rintro e w5 ⟨rfl,h5,-⟩;have HF:=hidE (HEND.out w5 h5);clear h5 HEND HFI p0 q0 lp lq heq z0 z1 z2 zl;go_wp2_with fail
  go_ret
  exact⟨rfl,HF.out⟩
end Go.Proofs.YtfafilmklhnngaaGreatDoor
namespace Go.Proofs.YtfafilmklhnngaaGreatDoor
open Go.RowKit Go.Shelf Lx Tx
set_option maxRecDepth 100000
attribute [local go_sem] Oper.semAt_some
def LaidE(b B:Nat)(t:TypeId)(cs:Array Value)(l ids:List Eqn)(v:Value)(A:Option Addr)(c:Nat)(w:World)(k:Nat)(W:World):Prop :=
 ∃v',Blk W b t (cs.setIfInBounds 0 v')/\W.ownsRow B 78 3 v' (l++(ids.drop k).reverse).length (eqCells (l++(ids.drop k).reverse))/\(v'.ownBlock=v.ownBlock\/∃g,v'.ownBlock=some g/\w.heap.size+2<=g) /\
  Blk W w.heap.size 134 #[.pointer (some ⟨b,0,none⟩)]/\Blk W (w.heap.size+1) 74 #[.slice A ids.length c]/\Chg (λg=>g=b\/v.ownBlock=some g) w W
def LaidV(b B:Nat)(t:TypeId)(cs:Array Value)(l ids:List Eqn)(v:Value)(A:Option Addr)(c:Nat)(w:World)(k bx:Nat)(W:World):Prop :=
 ∃v',v'.ownBlock≠some bx/\Blk W b t (cs.setIfInBounds 0 v')/\W.ownsRow B 78 3 v' (l++(ids.drop k).reverse).length (eqCells (l++(ids.drop k).reverse))/\(v'.ownBlock=v.ownBlock\/∃g,v'.ownBlock=some g/\w.heap.size+2<=g) /\
  Blk W w.heap.size 134 #[.pointer (some ⟨b,0,none⟩)]/\Blk W (w.heap.size+1) 74 #[.slice A ids.length c]/\Chg (λg=>g=b\/v.ownBlock=some g) w W
theorem LaidE.keep {b B:Nat} {t:TypeId} {cs:Array Value} {l ids:List Eqn} {v:Value} {A:Option Addr} {c:Nat} {w:World} {k:Nat} {W W':World}(h:LaidE b B t cs l ids v A c w k W)(hc:∀g,g<W.heap.size->(∃x y,W.heap[g]?=some (.cells x y (0,0)))->W'.heap[g]?=W.heap[g]?)
  (hC:Chg (λg=>g=b\/v.ownBlock=some g) w W'):LaidE b B t cs l ids v A c w k W':=by
 obtain⟨v',h1,h2,h3,h4,h5,h6⟩:=h;refine⟨v',h1.same (hc _ h1.lt ⟨_,_,h1⟩),zal h2 (λg hg=>?_),h3,h4.same (hc _ h4.lt ⟨_,_,h4⟩),h5.same (hc _ h5.lt ⟨_,_,h5⟩),hC⟩;obtain⟨_,hl,cur,hcur⟩:=zab h2 g hg;exact hc g hl ⟨_,_,hcur⟩
theorem LaidE.noRec {b B:Nat} {t:TypeId} {cs:Array Value} {l ids:List Eqn} {v:Value} {A:Option Addr} {c:Nat} {w:World} {k lp:Nat}(hlp:w.heap.size<=lp):NoRec lp (LaidE b B t cs l ids v A c w k):=λW r r' h hl =>
 h.keep (λg _ hg=>zaG hl g hg) (by obtain⟨_,_,_,_,_,_,h6⟩:=h;exact h6.putObj _ _ hlp)
theorem LaidV.noRec {b B:Nat} {t:TypeId} {cs:Array Value} {l ids:List Eqn} {v:Value} {A:Option Addr} {c:Nat} {w:World} {k bx lp:Nat}(hlp:w.heap.size<=lp):NoRec lp (LaidV b B t cs l ids v A c w k bx):=λW r r' h hl=>by
 obtain⟨v',h0,h1,h2,h3,h4,h5,h6⟩:=h;refine⟨v',h0,h1.same (zaG hl b ⟨_,_,h1⟩),zal h2 (λg hg=>?_),h3,h4.same (zaG hl _ ⟨_,_,h4⟩),h5.same (zaG hl _ ⟨_,_,h5⟩),h6.putObj _ _ hlp⟩;obtain⟨_,_,cur,hcur⟩:=zab h2 g hg;exact zaG hl g ⟨_,_,hcur⟩
theorem infoEq:(Tryz.prog.info? 78).map (λi=>(i.zero,i.size,i.bytes))=some (some (.agg #[.pointer none,.pointer none,.bool false]),3,24):=by kernel_rfl
theorem zga(b B:Nat)(t:TypeId)(cs:Array Value)(hcs:0<cs.size)(l ids:List Eqn)(v:Value)(A:Option Addr)(c:Nat)(w:World)
  (hb:Blk w b t (cs.setIfInBounds 0 v))(ho:w.ownsRow B 78 3 v l.length (eqCells l))(hB:B<=w.heap.size)(hvb:v.ownBlock≠some b)(hlen:l.length+ids.length<=1000000000)
  (hA:∀(j:Nat)(q:Eqn),ids[j]?=some q->∃g,A=some ⟨g,0,none⟩/\g<w.heap.size/\g≠b/\v.ownBlock≠some g/\w.cell? ⟨g,j*3,none⟩=some (.pointer (some ⟨q.l,0,none⟩))/\w.cell? ⟨g,j*3+1,none⟩=some (.pointer (some ⟨q.r,0,none⟩))/\w.cell? ⟨g,j*3+2,none⟩=some (.bool q.d)):Calls Tryz.prog 34 #[.pointer (some ⟨b,0,none⟩),.slice A ids.length c] w λe w'=>(∃x,e=.returned x)/\LaidE b B t cs l ids v A c w 0 w':=by
 refine(callsIn_wide (n:=10)).1 ?_;refine callsIn_of_wp_marks Tryz.func34 rfl trivial ?_ rfl;simp only[Tryz.ntmps34,List.size_toArray,List.length_cons,List.length_nil,Nat.reduceAdd,Nat.reduceSub,Array.replicate_succ,Array.replicate_zero,List.push_toArray,List.append_toArray,List.nil_append,List.cons_append];have HB:=hidE hb;have HO:=hidE ho;have HA:=hidE hA;have HVB:=hidE hvb;clear hb ho hA hvb;gi_wp2
 refine⟨trivial,?_⟩;refine(zm1 Fence.wide _ trivial rfl _ _ _ _).mono ?_;rintro e w' ⟨rfl,rfl⟩;gi_wp2
 obtain⟨k1,k2,hs2,hb2⟩:=za2 w (.cells #[.pointer (some ⟨b,0,none⟩)] 134) (.cells #[.slice A ids.length c] 74);obtain⟨w2,hw2⟩:∃w2,(w.alloc (.cells #[.pointer (some ⟨b,0,none⟩)] 134)).alloc (.cells #[.slice A ids.length c] 74)=w2:=⟨_,rfl⟩;rw[hw2]at k1 k2 hs2 hb2 ⊢
 have h0:LaidE b B t cs l ids v A c w ids.length w2:=by
  refine⟨v,HB.out.below hb2 HB.out.lt,?_,.inl rfl,k1,k2,Chg.of_below hb2⟩;rw[List.drop_length,List.reverse_nil,List.append_nil]
  exact zal HO.out λg hg=>hb2.block g (zab HO.out g hg).2.1
 have hcell:∀k W,LaidE b B t cs l ids v A c w k W->∀(j:Nat) (q:Eqn),ids[j]?=some q->∃g,A=some ⟨g,0,none⟩/\W.cell? ⟨g,j*3,none⟩=some (.pointer (some ⟨q.l,0,none⟩))/\W.cell? ⟨g,j*3+1,none⟩=some (.pointer (some ⟨q.r,0,none⟩))/\W.cell? ⟨g,j*3+2,none⟩=some (.bool q.d):=λk W h j q hq=>by
  obtain⟨_,_,_,_,_,_,hc⟩:=h;obtain⟨g,e,hg1,hg2,hg3,hg4,hg5,hg6⟩:=HA.out j q hq;have hbk:=hc.block g hg1 (λh=>by rcases h with h|h;exact hg2 h;exact hg3 h);exact⟨g,e,(World.cell?_of_block (w:=w) (a:=⟨g,j*3,none⟩) hbk).trans hg4,(World.cell?_of_block (w:=w) (a:=⟨g,j*3+1,none⟩) hbk).trans hg5,(World.cell?_of_block (w:=w) (a:=⟨g,j*3+2,none⟩) hbk).trans hg6⟩
 have H0:=hidE h0;have HC:=hidE hcell;have HS2:=hidE hs2;clear h0 hcell k1 k2 hb2 hw2 hs2;refine zb7 (σ:=Nat × Eqn) rfl (by omega) (gf:=117) (fb:=#[]) (lb:=#[.pointer (some ⟨w.heap.size+1,0,none⟩)]) rfl trivial (enters_of Tryz.func117 (by kernel_rfl) rfl)
  (λs=>#[.int .i64 (s.1:Nat),.agg #[.pointer (some ⟨s.2.l,0,none⟩),.pointer (some ⟨s.2.r,0,none⟩),.bool s.2.d]]) (λ_=>rfl)
  (λs W=>LaidE b B t cs l ids v A c w (s.1+1) W/\ids[s.1]?=some s.2) (λs W=>LaidE b B t cs l ids v A c w s.1 W)
  (λs a₁ W=>∃bx,w.heap.size+4<=bx/\LaidV b B t cs l ids v A c w (s.1+1) bx W/\ids[s.1]?=some s.2/\Blk W bx 78 #[.pointer (some ⟨s.2.l,0,none⟩),.pointer (some ⟨s.2.r,0,none⟩),.bool s.2.d]/\a₁ = { tmps:=#[.pointer (some ⟨b,0,none⟩),.slice A ids.length c,.pointer (some ⟨w.heap.size,0,none⟩),undef,undef,.pointer (some ⟨bx,0,none⟩),.slice A ids.length c,.func (.func 117) #[] #[.pointer (some ⟨w.heap.size+1,0,none⟩)],.int .i64 (s.1:Nat),.agg #[.pointer (some ⟨s.2.l,0,none⟩),.pointer (some ⟨s.2.r,0,none⟩),.bool s.2.d],undef,undef,undef,undef,undef,undef,undef,undef,undef,undef],defers:=[] })
  (LaidE b B t cs l ids v A c w 0) (λ_ _=>False) (λs a₁ W r r' h hl=>by obtain⟨bx,h0,h1,h2,h3,h4⟩:=h;exact⟨bx,h0,LaidV.noRec (by have:=HS2.out;omega) W r r' h1 hl,h2,h3.same (zaG hl bx ⟨_,_,h3⟩),h4⟩) (λs=>LaidE.noRec (by have:=HS2.out;omega)) (LaidE.noRec (by have:=HS2.out;omega)) (λ_ _ _ _ h _=>h) ?assign ?body ?iter ?done ?stop
 case assign =>
  intro r s W hj hl;have HJ:=hidE hj;have HL:=hidE hl;clear hj hl;gi_wp2
  obtain⟨⟨v',h1,h2,h3,h4,h5,h6⟩,hq⟩:=HJ.out;have hsW:=h6.size;have hl2:=HS2.out;have hlw:=HL.out.lt.1;have hbb:Below W.heap.size W (W.alloc (.cells #[.pointer (some ⟨s.2.l,0,none⟩),.pointer (some ⟨s.2.r,0,none⟩),.bool s.2.d] 78)):=(Below.refl _ W).alloc (Nat.le_refl _) _;exact⟨HL.out.below hbb,W.heap.size,by omega,⟨v',λe=>by have:=(zab h2 _ e).2.1;omega,h1.below hbb h1.lt,zal h2 (λg hg=>hbb.block g (zab h2 g hg).2.1),h3,h4.below hbb h4.lt,h5.below hbb h5.lt,h6.alloc _⟩,hq,heap_alloc_new W _,rfl⟩
 case iter =>
  intro rec W1 hb1 hs1 hl1 hY;refine(zmZ Fence.wide (10-1) trivial rfl (by omega) (w2.heap.size+1) (w.heap.size+1) ids A c (λk W=>LaidE b B t cs l ids v A c w k W/\LoopAt (rec .ready none) (w2.heap.size+1) w2.heap.size W) (by omega)
   (λk W h=>by obtain⟨⟨_,_,_,_,_,h5,_⟩,_⟩:=h;exact h5.cell 0) (λk W h=>HC.out k W h.1) (λk q W h hq=>?_) W1 ⟨H0.out.keep (λg hg _=>hb1.block g hg) (by obtain⟨_,_,_,_,_,_,h6⟩:=H0.out;exact h6.below hb1),hl1⟩).mono ?_
  ·refine(hY (k,q) W ⟨h.1,hq⟩ h.2).mono ?_
   intro e W' hs;rcases hs with⟨h1,h2,h3⟩|⟨_,_,h2,_⟩
   ·exact⟨h1,h2,h3⟩
   ·exact h2.elim
  ·rintro e W' ⟨hv,hj,hl⟩
   exact⟨hv,.inl ⟨hj,hl⟩⟩
 case done =>
  intro W hj hD;have HJ:=hidE hj;have HD:=hidE hD;clear hj hD;gi_wp2
  refine⟨by simp,.inl ⟨_,_,rfl,run_takeDeferred HD.out,?_⟩⟩;refine⟨_,results_none rfl _ _ _,⟨_,rfl⟩,?_⟩;exact HJ.out.keep (λg _ hg=>World.putObj_heap_other λe=>by
   obtain⟨x,y,hx⟩:=hg;rw[e,HD.out]at hx
   cases hx) (by obtain⟨_,_,_,_,_,_,h6⟩:=HJ.out;exact h6.putObj _ _ (by have:=HS2.out;omega))
 case stop=>intro c W h;exact h.elim
 case body =>
  rintro r ⟨k,q⟩ a₁ W ⟨bx,hbx,hj,hq,hx,rfl⟩ hl;obtain⟨v1,hvx,h1,h2,h3,h4,h5,h6⟩:=hj;obtain⟨i0,hi0,hz0,hz1,hz2⟩:=info_parts infoEq;have x0:W.cell? ⟨bx,0,none⟩=some (.pointer (some ⟨q.l,0,none⟩)):=Blk.cell hx 0;have x1:W.cell? ⟨bx,1,none⟩=some (.pointer (some ⟨q.r,0,none⟩)):=Blk.cell hx 1;have x2:W.cell? ⟨bx,2,none⟩=some (.bool q.d):=Blk.cell hx 2;have l3:=hx.lt;have e1:W.cell? ⟨w.heap.size,0,none⟩=some (.pointer (some ⟨b,0,none⟩)):=h4.cell 0;have e2:W.cell? ⟨b,0,none⟩=some v1:=(h1.cell 0).trans (by simp[hcs]);have l1:=h1.lt;have l2:=h4.lt;have hvb1:v1.ownBlock≠some b:=by
   rcases h3 with e|⟨g,e,hg⟩
   ·rw[e];exact HVB.out
   ·rw[e];intro e;injection e with e;have:=HB.out.lt;omega
  have hws:v1.ownBlock≠some w.heap.size:=by
   rcases h3 with e|⟨g,e,hg⟩
   ·rw[e];intro e;have:=(zab HO.out _ e).2.1;omega
   ·rw[e];intro e;injection e with e;omega
  have HEND:Hid (∀(g6 c6:Nat) (w6:World),w6.ownsRow B 78 3 (.slice (some ⟨g6,0,none⟩) ((l++(ids.drop (k+1)).reverse).length+1) c6) ((l++(ids.drop (k+1)).reverse).length+1) (eqCells (l++(ids.drop (k+1)).reverse)++[.pointer (some ⟨q.l,0,none⟩),.pointer (some ⟨q.r,0,none⟩),.bool q.d]) ->
    (W.drew.alloc (.cells #[.pointer (some ⟨q.l,0,none⟩),.pointer (some ⟨q.r,0,none⟩),.bool q.d] 78)).grownBy w6 v1.ownBlock->(v1.ownBlock=some g6\/g6=(W.drew.alloc (.cells #[.pointer (some ⟨q.l,0,none⟩),.pointer (some ⟨q.r,0,none⟩),.bool q.d] 78)).heap.size) ->
    LaidE b B t cs l ids v A c w k (w6.setCell ⟨b,0,none⟩ (.slice (some ⟨g6,0,none⟩) ((l++(ids.drop (k+1)).reverse).length+1) c6))/\LoopAt r (w2.heap.size+1) w2.heap.size (w6.setCell ⟨b,0,none⟩ (.slice (some ⟨g6,0,none⟩) ((l++(ids.drop (k+1)).reverse).length+1) c6))):=hidE (by
   intro g6 c6 w6 ho6 hg6 hat;have hsW:=h6.size;have hs6:=hg6.size;have hsz:(W.drew.alloc (.cells #[.pointer (some ⟨q.l,0,none⟩),.pointer (some ⟨q.r,0,none⟩),.bool q.d] 78)).heap.size=W.heap.size+1:=by rw[World.size_alloc];rfl
   rw[hsz]at hs6 hat
   have hkp:∀g,g<W.heap.size->v1.ownBlock≠some g->g≠b->(w6.setCell ⟨b,0,none⟩ (.slice (some ⟨g6,0,none⟩) ((l++(ids.drop (k+1)).reverse).length+1) c6)).heap[g]?=W.heap[g]?:=λg hg hne hgb =>
    (Below.heap_setCell _ _ _ _ hgb).trans ((hg6.block g (by rw[hsz];omega) (λe=>hne e.symm)).trans (Below.heap_alloc W.drew _ g hg))
   have hb6:Blk w6 b t (cs.setIfInBounds 0 v1):=(Blk.alloc (w:=W.drew) h1 (.cells #[.pointer (some ⟨q.l,0,none⟩),.pointer (some ⟨q.r,0,none⟩),.bool q.d] 78)).grown hg6 (λe=>hvb1 e.symm);have hdrop:(ids.drop k).reverse=(ids.drop (k+1)).reverse++[q]:=by
    obtain⟨hk,e⟩:=List.getElem?_eq_some_iff.1 hq;rw[List.drop_eq_getElem_cons hk,List.reverse_cons]
    simp at e;rw[e]
   have hg6b:g6≠b:=by
    rcases hat with e|e
    ·intro e2;rw[e2]at e;exact hvb1 e
    ·have:=h1.lt;omega
   have hob1:∀g,v1.ownBlock=some g->v.ownBlock=some g\/w.heap.size+2<=g:=λg hg=>by
    rcases h3 with e|⟨g',e,hg'⟩
    ·exact .inl (e▸hg)
    ·rw[e]at hg;injection hg with hg;exact .inr (hg▸hg')
   have hl2:=HS2.out;refine⟨⟨.slice (some ⟨g6,0,none⟩) ((l++(ids.drop (k+1)).reverse).length+1) c6,?_,?_,?_,?_,?_,?_⟩,?_,?_⟩
   ·have:=heap_setCell_same w6 b 0 _ t (.slice (some ⟨g6,0,none⟩) ((l++(ids.drop (k+1)).reverse).length+1) c6) hb6
    rw[Array.setIfInBounds_setIfInBounds]at this
    exact this
   ·rw[hdrop,<-List.append_assoc,zbx,show(l++(ids.drop (k+1)).reverse++[q]).length=(l++(ids.drop (k+1)).reverse).length+1 from List.length_append]
    exact ownsRow_setCell_other (a:=⟨b,0,none⟩) ho6 (λe=>hg6b (by simpa[Value.ownBlock] using e)) _
   ·rcases hat with e|e
    ·rcases hob1 g6 e with e2|e2
     ·exact .inl e2.symm
     ·exact .inr ⟨g6,rfl,e2⟩
    ·exact .inr ⟨g6,rfl,by omega⟩
   ·exact h4.same (hkp _ h4.lt hws (by have:=HB.out.lt;omega))
   ·exact h5.same (hkp _ h5.lt (λe=>by rcases hob1 _ e with e2|e2;have:=(zab HO.out _ e2).2.1;omega;omega) (by have:=HB.out.lt;omega))
   ·refine((((show Chg (λg=>g=b\/v.ownBlock=some g) w W.drew from h6.drew).alloc _).grown hg6 (λg hg=>?_)).setCell (p:=⟨b,0,none⟩) (.inr (.inl rfl)) _)
    rcases hob1 g hg with e|e
    ·exact .inr (.inr e)
    ·exact .inl (by omega)
   ·exact(hkp _ hl.lt.1 (λe=>by rcases hob1 _ e with e2|e2;have:=(zab HO.out _ e2).2.1;omega;obtain⟨_,_,cur,hcur⟩:=zab h2 _ e;rw[hl.1]at hcur;cases hcur) (by have:=HB.out.lt;omega)).trans hl.1
   ·exact(hkp _ hl.lt.2 (λe=>by obtain⟨_,_,cur,hcur⟩:=zab h2 _ e;rw[hl.2]at hcur;cases hcur) (by have:=HB.out.lt;omega)).trans hl.2)
  obtain⟨L1,hL1⟩:∃L1,l++(ids.drop (k+1)).reverse=L1:=⟨_,rfl⟩;rw[hL1]at HEND h2
  have hlen1:L1.length<1000000000:=by
   have:=(List.getElem?_eq_some_iff.1 hq).1;simp at this;rw[<-hL1]
   simp;omega
  have HOWN:Hid ((W.drew.alloc (.cells #[.pointer (some ⟨q.l,0,none⟩),.pointer (some ⟨q.r,0,none⟩),.bool q.d] 78)).ownsRow B 78 3 v1 L1.length (eqCells L1)):=hidE (World.ownsRow.alloc (w:=W.drew) h2 _);have HNEW:Hid (∀j u,[Value.pointer (some ⟨q.l,0,none⟩),.pointer (some ⟨q.r,0,none⟩),.bool q.d][j]?=some u->(W.drew.alloc (.cells #[.pointer (some ⟨q.l,0,none⟩),.pointer (some ⟨q.r,0,none⟩),.bool q.d] 78)).cell? ((⟨W.heap.size,0,none⟩:Addr).add j)=some u):=hidE (zar _ _ _ _ rfl);have hBW:B<=W.heap.size:=by have:=h6.size;omega
  have HB1:=hidE h1;have HB4:=hidE h4;have HVB1:Hid (some b≠v1.ownBlock):=hidE λe=>hvb1 e.symm;have HWS1:Hid (some w.heap.size≠v1.ownBlock):=hidE λe=>hws e.symm;clear h1 h2 h3 h4 h5 h6 hvb1 hq hws hL1 hl hvx hx;gi_wp2
  refine wpIn_region_any (by kernel_rfl) ?_;refine zcG _ _ (zcZ (by kernel_rfl)) (λ_ _ h=>h) _ _ _ _ ?_;change wpAny _ _ _ _ _ _ _ (World.drew _)
  iterate 12
   all_goals
    iterate 4
     try
      first
       |refine wpAny_take (i:=2) (v:=(.pointer (some ⟨b,0,none⟩))) rfl (by kernel_rfl) (by decide +kernel) (by decide +kernel) (λ_ _ _ h=>h) (Or.inl ⟨by rfl,λw=>by go_simp⟩) ?_
       |refine wpAny_take (i:=3) (v:=(.pointer (some ⟨b,0,none⟩))) rfl (by kernel_rfl) (by decide +kernel) (by decide +kernel) (λ_ _ _ h=>h) (Or.inl ⟨by rfl,λw=>by go_simp⟩) ?_
       |refine wpAny_take (i:=8) (v:=(.pointer (some ⟨b,0,none⟩))) rfl (by kernel_rfl) (by decide +kernel) (by decide +kernel) (λ_ _ _ h=>h) (Or.inl ⟨by rfl,λw=>by go_simp⟩) ?_
       |refine wpAny_take (i:=9) (v:=(.pointer (some ⟨b,0,none⟩))) rfl (by kernel_rfl) (by decide +kernel) (by decide +kernel) (λ_ _ _ h=>h) (Or.inl ⟨by rfl,λw=>by go_simp⟩) ?_
   all_goals first
    |(refine wpAny_done (by decide +kernel) ?_ _;exact HEND.out _ _ _ HO6.out HG6.out HAT.out)
    |refine wpAny_ready (rs:=[10]) (by decide +kernel) (by simp) ?_
    |refine wpAny_ready (rs:=[7]) (by decide +kernel) (by simp) ?_
    |refine wpAny_ready (rs:=[6]) (by decide +kernel) (by simp) ?_
    |refine wpAny_ready (rs:=[4]) (by decide +kernel) (by simp) ?_
    |refine wpAny_ready (rs:=[4,6]) (by decide +kernel) (by simp) ?_
    |refine wpAny_ready (rs:=[0,7]) (by decide +kernel) (by simp) ?_
    |refine wpAny_ready (rs:=[0]) (by decide +kernel) (by simp) ?_
    |refine wpAny_ready (rs:=[5]) (by decide +kernel) (by simp) ?_
    |refine wpAny_ready (rs:=[1]) (by decide +kernel) (by simp) ?_
    |refine wpAny_ready (rs:=[0,6]) (by decide +kernel) (by simp) ?_
    |refine wpAny_ready (rs:=[0,4]) (by decide +kernel) (by simp) ?_
    |refine wpAny_ready (rs:=[4,5]) (by decide +kernel) (by simp) ?_
    |refine wpAny_ready (rs:=[1,6]) (by decide +kernel) (by simp) ?_
    |refine wpAny_ready (rs:=[0,4,6]) (by decide +kernel) (by simp) ?_
    |refine wpAny_ready (rs:=[0,1,5]) (by decide +kernel) (by simp) ?_
    |refine wpAny_ready (rs:=[1,5]) (by decide +kernel) (by simp) ?_
    |refine wpAny_ready (rs:=[0,4,5]) (by decide +kernel) (by simp) ?_
    |refine wpAny_ready (rs:=[0,5]) (by decide +kernel) (by simp) ?_
    |refine wpAny_ready (rs:=[0,1,6]) (by decide +kernel) (by simp) ?_
    |refine wpAny_ready (rs:=[0,1]) (by decide +kernel) (by simp) ?_
   all_goals first
    |refine AllReady.cons rfl (λK hK=>?_) AllReady.nil
    |refine AllReady.cons rfl (λK hK=>?_) (AllReady.cons rfl (λK hK=>?_) AllReady.nil)
    |refine AllReady.cons rfl (λK hK=>?_) (AllReady.cons rfl (λK hK=>?_) (AllReady.cons rfl (λK hK=>?_) AllReady.nil))
   all_goals first
    |((refine step_append_lies _ (by rfl) _ _ _ (by rfl) B 78 i0 _ 3 24 Tryz.underlying74 hi0 hz0 hz1 hz2 rfl (by decide) _ L1.length (eqCells L1) (by rfl) HOWN.out ⟨W.heap.size,0,none⟩ 1 1 [.pointer (some ⟨q.l,0,none⟩),.pointer (some ⟨q.r,0,none⟩),.bool q.d] rfl rfl HNEW.out (by intro u hu;simp at hu;rcases hu with hu|hu|hu <;> subst hu <;> rfl) (by omega) (by unfold maxLen;omega) (by omega) (by simp;omega) _ rfl ?_;intro g6 c6 w6 hown6 hgrow hat hlt6;have hb6:=(Blk.alloc (w:=W.drew) HB1.out (.cells #[.pointer (some ⟨q.l,0,none⟩),.pointer (some ⟨q.r,0,none⟩),.bool q.d] 78)).grown hgrow HVB1.out;have f1:w6.cell? ⟨b,0,none⟩=some v1:=(hb6.cell 0).trans (by simp[hcs]);have f2:w6.frozen? ⟨b,0,none⟩=false:=hb6.frozen 0;have f3:=hb6.lt;have f4:w6.cell? ⟨w.heap.size,0,none⟩=some (.pointer (some ⟨b,0,none⟩)):=((Blk.alloc (w:=W.drew) HB4.out (.cells #[.pointer (some ⟨q.l,0,none⟩),.pointer (some ⟨q.r,0,none⟩),.bool q.d] 78)).grown hgrow HWS1.out).cell 0;have HO6:=hidE hown6;have HG6:=hidE hgrow;have HAT:=hidE hat;clear hown6 hgrow hat hb6);(try go_simp);refine hK _ _ ?_;clear hK K)
    |(go_simp;refine hK _ _ ?_;clear hK K)
end Go.Proofs.YtfafilmklhnngaaGreatDoor
namespace Go.Proofs.YtfafilmklhnngaaGreatDoor
open Go.RowKit Lx Tx Go.Maps Go.WideMaps
set_option maxRecDepth 100000
def zax:List Nat->List Nat->List Eqn
 |a::r,b::s=>⟨a,b,false⟩::zax r s
 |_,_=>[]
theorem zcx:(l r:List Nat)->l.length=r.length->(zax l r).length=l.length
 |[],[],_=>rfl
 |a::l,b::r,h=>by simp[zax,zcx l r (by simpa using h)]
 |[],_::_,h=>by simp at h
 |_::_,[],h=>by simp at h
theorem zhN:(l r:List Nat)->(i a b:Nat)->l[i]?=some a->r[i]?=some b->(zax l r)[i]?=some ⟨a,b,false⟩
 |[],_,i,a,b,h,_=>by simp at h
 |_::_,[],i,a,b,_,h=>by simp at h
 |x::l,y::r,0,a,b,h,k=>by simp at h k;simp[zax,h,k]
 |x::l,y::r,i+1,a,b,h,k=>by
  simp only[zax,List.getElem?_cons_succ]at h k ⊢;exact zhN l r i a b h k
theorem zjW {α:Type}(l:List α)(i:Nat)(q:α)(h:l[i]?=some q):l.take (i+1)=l.take i++[q]:=by
 rw[List.take_add_one,h];rfl
def HeadPr(w:World)(l r:List Nat)(n gg:Nat)(v vi:Value)(wr:World):Prop :=
 ∃i:Nat,gg=n-i/\vi=.int .i64 i/\i<=n/\wr.ownsRow w.heap.size 78 3 v i (eqCells ((zax l r).take i))/\Below w.heap.size w wr
theorem zhO(p q:Nat)(x y:Nd)(d e:Dy)(w:World)(hp:PartC w p x d)(hq:PartC w q y e)(hl:x.kids.length=y.kids.length)(hm:x.kids.length<=1000000):Calls Tryz.prog 74 #[.pointer (some ⟨p,0,none⟩),.pointer (some ⟨q,0,none⟩)] w λr w'=>∃g c,r=.returned (.slice (some ⟨g,0,none⟩) (x.kids.length+1) c)/\Below w.heap.size w w' /\
   w'.ownsRow w.heap.size 78 3 (.slice (some ⟨g,0,none⟩) (x.kids.length+1) c) (x.kids.length+1) (eqCells (zax x.kids y.kids++[⟨p,q,true⟩])):=by
 obtain⟨A,c,-,-,-,p4,-,-,hr⟩:=hp.facts;obtain⟨B,c',-,-,-,q4,-,-,hs⟩:=hq.facts;have hpl:=hp.lt;have hql:=hq.lt;obtain⟨i0,hi0,hz0,hz1,hz2⟩:=info_parts infoEq;obtain⟨kx,nx,zx,lx,cx,wx⟩:=x;obtain⟨ky,ny,zy,ly,cy,wy⟩:=y;simp only at p4 q4 hr hs hl hm ⊢;have HP:=hidE hp;have HQ:=hidE hq;clear hp hq;have hpn:=zcx lx ly hl;obtain⟨m,hmm⟩:∃m,lx.length=m:=⟨_,rfl⟩;rw[<-hl]at q4
 rw[hmm]at p4 q4 hm hpn ⊢
 have hlm:ly.length=m:=by omega
 have HX:Hid (∀i a,lx[i]?=some a->A=some ⟨d.row,0,none⟩/\d.row<w.heap.size/\w.cell? ⟨d.row,i,none⟩=some (PK a)):=hidE λi a ha=>by
  obtain⟨h1,cur,h2,h3⟩:=hr (λh=>by rw[h]at ha;simp at ha);exact⟨h1,(Array.getElem?_eq_some_iff.1 h2).1,(cell_of_row w d.row i cur _ (0,0) h2).trans (h3 i a ha)⟩
 have HY:Hid (∀i a,ly[i]?=some a->B=some ⟨e.row,0,none⟩/\e.row<w.heap.size/\w.cell? ⟨e.row,i,none⟩=some (PK a)):=hidE λi a ha=>by
  obtain⟨h1,cur,h2,h3⟩:=hs (λh=>by rw[h]at ha;simp at ha);exact⟨h1,(Array.getElem?_eq_some_iff.1 h2).1,(cell_of_row w e.row i cur _ (0,0) h2).trans (h3 i a ha)⟩
 have HM:=hidE hmm;have HLM:=hidE hlm;have HPN:=hidE hpn;clear hr hs hl hmm hlm hpn;go_enter Tryz.func74,Tryz.ntmps74
 go_wp2_with fail
 go_loopg [5,13] m (λgg v vi wr=>HeadPr w lx ly m gg v vi wr)
 case atStart=>exact⟨0,rfl,rfl,Nat.zero_le _,World.ownsRow_nil _ _ _ _,Below.refl _ _⟩
 case round =>
  obtain⟨i,rfl,rfl,hi,hown,hb⟩:=hrel;obtain⟨Al,cl,rfl⟩:=zao hown;have hsw:=hb.size;have HOWN:=hidE hown;have HB:=hidE hb;have hplr:p<wr.heap.size:=by omega
  have hqlr:q<wr.heap.size:=by omega
  by_cases hlt:i<m
  ·obtain⟨a,ha⟩:∃a,lx[i]?=some a:=⟨_,List.getElem?_eq_getElem (by rw[HM.out];exact hlt)⟩
   obtain⟨b,hbq⟩:∃b,ly[i]?=some b:=⟨_,List.getElem?_eq_getElem (by rw[HLM.out];exact hlt)⟩;obtain⟨rfl,hx1,hx2⟩:=HX.out i a ha;obtain⟨rfl,hy1,hy2⟩:=HY.out i b hbq;have e0:wr.cell? ⟨d.row,i,none⟩=some (.pointer (some ⟨a,0,none⟩)):=(World.cell?_of_block (w:=w) (a:=⟨d.row,i,none⟩) (hb.block _ hx1)).trans hx2;have e1:wr.cell? ⟨e.row,i,none⟩=some (.pointer (some ⟨b,0,none⟩)):=(World.cell?_of_block (w:=w) (a:=⟨e.row,i,none⟩) (hb.block _ hy1)).trans hy2;have r4:wr.cell? ⟨q,4,none⟩=some (.slice (some ⟨e.row,0,none⟩) m c'):=(World.cell?_of_block (w:=w) (a:=⟨q,4,none⟩) (hb.block _ hql)).trans q4;have HPA:=hidE (zjW _ _ _ (zhN lx ly i a b ha hbq));have HLT:=hidE hown.lt;have HO2:=hidE (hown.alloc (.cells #[.pointer (some ⟨a,0,none⟩),.pointer (some ⟨b,0,none⟩),.bool false] 78));skip
   clear ha hbq hx1 hx2 hy1 hy2 hown hb p4 q4;go_wp2_with (at_builtin;refine wpList_append_own_at _ rfl (.tmp 18) (.tmp 28) 74 rfl w.heap.size 78 i0 _ 3 24 Tryz.underlying74 hi0 hz0 hz1 hz2 rfl (by decide) _ i (eqCells ((zax lx ly).take i)) rfl HO2.out ⟨wr.heap.size,0,none⟩ 1 1 [.pointer (some ⟨a,0,none⟩),.pointer (some ⟨b,0,none⟩),.bool false] rfl rfl (zar _ _ _ _ (by simp)) (by intro u hu;simp at hu;rcases hu with rfl|rfl|rfl <;> rfl) (by unfold maxLen;omega) (by omega) (by simp;omega) ?_;intro v2 w5 hown3 hgrow _ hat3;obtain⟨A2',c2',rfl⟩:=zao hown3;have HO3:=hidE hown3;have HG3:=hidE hgrow;clear hown3 hgrow hat3)
   have hb5:Below w.heap.size w w5:=HB.out.trans ⟨HG3.out.os,HG3.out.tape,HG3.out.output,by have:=HG3.out.size;simp at this;omega,λk hk=>(HG3.out.block k (by simp;omega) (λe=>by have:=HLT.out _ e.symm;omega)).trans (Below.heap_alloc _ _ _ (by omega))⟩;have HB5:=hidE hb5;clear hb5;go_roundg (m-(i+1))
   case measure=>omega
   case rel =>
    refine⟨i+1,rfl,by go_num,by omega,?_,HB5.out⟩;rw[HPA.out,zbx]
    exact HO3.out
  ·have him:i=m:=by omega
   have hend:(zax lx ly).take i=zax lx ly:=List.take_of_length_le (by rw[HPN.out];omega);rw[hend]at hown
   have HI:=hidE him;have HLT:=hidE hown.lt;have HO2:=hidE (hown.alloc (.cells #[.pointer (some ⟨p,0,none⟩),.pointer (some ⟨q,0,none⟩),.bool true] 78));clear hend hown hb him p4 q4;go_wp2_with (at_builtin;refine wpList_append_own_at _ rfl (.tmp 31) (.tmp 35) 74 rfl w.heap.size 78 i0 _ 3 24 Tryz.underlying74 hi0 hz0 hz1 hz2 rfl (by decide) _ i (eqCells (zax lx ly)) rfl HO2.out ⟨wr.heap.size,0,none⟩ 1 1 [.pointer (some ⟨p,0,none⟩),.pointer (some ⟨q,0,none⟩),.bool true] rfl rfl (zar _ _ _ _ (by simp)) (by intro u hu;simp at hu;rcases hu with rfl|rfl|rfl <;> rfl) (by unfold maxLen;omega) (by omega) (by simp;omega) ?_;intro v2 w5 hown3 hgrow _ hat3;have HO3:=hidE hown3;have HG3:=hidE hgrow;clear hown3 hgrow hat3)
   have hb5:Below w.heap.size w w5:=HB.out.trans ⟨HG3.out.os,HG3.out.tape,HG3.out.output,by have:=HG3.out.size;simp at this;omega,λk hk=>(HG3.out.block k (by simp;omega) (λe=>by have:=HLT.out _ e.symm;omega)).trans (Below.heap_alloc _ _ _ (by omega))⟩;have HB5:=hidE hb5;clear hb5;go_ret
   rcases HO3.out.2 with⟨_,h0⟩|⟨g,cap,cur,hv,_⟩
   ·omega
   ·rw[<-HI.out]
    refine⟨g,cap,by rw[hv];rfl,HB5.out,?_⟩;rw[zbx,<-hv]
    exact HO3.out
end Go.Proofs.YtfafilmklhnngaaGreatDoor
namespace Go.Proofs.YtfafilmklhnngaaGreatDoor
open Go.RowKit Lx Tx Go.Maps Go.WideMaps
set_option maxRecDepth 100000
theorem zfL {w:World} {B g c n:Nat} {ids:List Eqn}(h:w.ownsRow B 78 3 (.slice (some ⟨g,0,none⟩) n c) n (eqCells ids)):B<=g/\g<w.heap.size/\∀(j:Nat) (q:Eqn),ids[j]?=some q->w.cell? ⟨g,j*3,none⟩=some (.pointer (some ⟨q.l,0,none⟩))/\w.cell? ⟨g,j*3+1,none⟩=some (.pointer (some ⟨q.r,0,none⟩))/\w.cell? ⟨g,j*3+2,none⟩=some (.bool q.d):=by
 obtain⟨h0,⟨hv,_⟩|⟨g',cap,cur,hv,h1,h2,h3,h4,h5,h6⟩⟩:=h
 ·cases hv
 ·injection hv with e1 _ e2
  injection e1 with e1;injection e1 with e1;subst e1;refine⟨h1,(Array.getElem?_eq_some_iff.1 h2).1,λj q hq=>?_⟩;obtain⟨a1,a2,a3⟩:=zfJ ids j q hq;have hj:j<ids.length:=(List.getElem?_eq_some_iff.1 hq).1;have hn:(eqCells ids).length=ids.length*3:=zci ids;have get:∀(k:Nat) (z:Value),k<n*3->(eqCells ids)[k]?=some z->w.cell? ⟨g,k,none⟩=some z:=λk z hk hz=>by
   rw[cell_of_row w g k cur _ (0,0) h2]
   rw[<-h6,List.getElem?_take,if_pos hk,Array.getElem?_toList]at hz
   exact hz
  exact⟨get _ _ (by omega) a1,get _ _ (by omega) a2,get _ _ (by omega) a3⟩
theorem ze8 {x y:Nd}(h:fitB x y=true):x.kids.length=y.kids.length:=by
 unfold fitB at h;simp only[Bool.and_eq_true,beq_iff_eq]at h;exact h.1.1.2
def WkP(b mk B:Nat)(c0 c1 c2 c4:Value)(G:Nat->Option Nd)(D:Nat->Dy)(hd:Nat->Nat)(stk:List Eqn)(w w':World):Prop :=
 ∃v',Blk w' b 85 #[v',c1,c2,.map (some mk),c4]/\w'.ownsRow B 78 3 v' stk.length (eqCells stk)/\(∃K',Knw w' mk K' hd)/\PartsD w' G D/\Chg (λk=>k=mk\/k=b\/c0.ownBlock=some k) w w'
theorem zm8(b mk ql qr:Nat)(c4:Value)(c0 c1 c2:Value)(K:Nat->Option Nat)(hd:Nat->Nat)(w:World)
  (hb:Blk w b 85 #[c0,c1,c2,.map (some mk),c4])(hk:Knw w mk K hd)(hl:LaidQ w ql)(hr:LaidQ w qr)(hhl:LaidQ w (hd ql))(hhr:LaidQ w (hd qr))(G:Nat->Option Nd)(D:Nat->Dy)(hpd:PartsD w G D)(x y:Nd)(hx:G (hd ql)=some x)(hy:G (hd qr)=some y)(hne:hd ql≠hd qr)(hm:x.kd≠2/\y.kd≠2/\x.kd≠5)(hft:fitB x y=true)(B:Nat)(stk:List Eqn)(hB:B<=w.heap.size)(ho:w.ownsRow B 78 3 c0 stk.length (eqCells stk))(hn:stk.length+x.kids.length+1<=1000000):Calls Tryz.prog 36 #[.pointer (some ⟨b,0,none⟩),.agg #[.pointer (some ⟨ql,0,none⟩),.pointer (some ⟨qr,0,none⟩),.bool false]] w λr w'=>r=.returned (.int .i64 0)/\WkP b mk B c0 c1 c2 c4 G D hd (stk++(zax x.kids y.kids++[(⟨hd ql,hd qr,true⟩:Eqn)]).reverse) w w':=by
 have HNE:=hidE hne;have HID:Hid (hd (hd ql)=hd ql/\hd (hd qr)=hd qr):=hidE ⟨hk.idem _,hk.idem _⟩;have HPD:=hidE hpd;have HNM:Hid (∀(g:Nat) (cs:Array Value) (t:TypeId),w.heap[g]?=some (.cells cs t (0,0))->¬only mk g):=hidE λg cs t hg e=>by
  have e:g=mk:=e;rw[e]at hg
  exact MapK.no hk.mp hg
 have HX:=hidE hx;have HY:=hidE hy;have HM:=hidE hm;have HFT:=hidE hft;have HO:=hidE ho;have HBB:=hidE hB;have HN:=hidE hn;clear hm hft ho hB hn;clear hne hpd hx hy;have hmk:mk<w.heap.size:=MapK.lt hk.mp;have h1:WkI b w.heap.size mk ql qr false c0 c1 c2 c4 hd w (w.alloc (.cells #[.pointer (some ⟨ql,0,none⟩),.pointer (some ⟨qr,0,none⟩),.bool false] 78)):=by
  have hbb:∀g,g<w.heap.size->(w.alloc (.cells #[.pointer (some ⟨ql,0,none⟩),.pointer (some ⟨qr,0,none⟩),.bool false] 78)).heap[g]?=w.heap[g]?:=λg hg=>Below.heap_alloc _ _ _ hg;have hla:∀x,LaidQ w x->LaidQ (w.alloc (.cells #[.pointer (some ⟨ql,0,none⟩),.pointer (some ⟨qr,0,none⟩),.bool false] 78)) x:=λx ⟨cs,hx⟩=>⟨cs,(hbb x (Array.getElem?_eq_some_iff.1 hx).1).trans hx⟩;exact⟨hb.alloc _,heap_alloc_new _ _,⟨K,hk.keep (hbb _ hmk) hla⟩,hla _ hl,hla _ hr,hla _ hhl,hla _ hhr,(Chg.refl _ _).alloc _⟩
 obtain⟨w1,hw1⟩:∃W,w.alloc (.cells #[.pointer (some ⟨ql,0,none⟩),.pointer (some ⟨qr,0,none⟩),.bool false] 78)=W:=⟨_,rfl⟩;rw[hw1]at h1
 obtain⟨z0,z1,z2,zl⟩:=h1.drew.facts;have HL0:=hidE (h1.drew.head ql h1.ll);have HR0:=hidE (h1.drew.head qr h1.lr);have HW1:=hidE hw1;clear hb hk hl hr hhl hhr hmk h1 hw1;go_enter Tryz.func36,Tryz.ntmps36
 go_upto_region 1 with fail
 rw[HW1.out]
 go_cut [5,6] from 7 to 14 (λv5 v6 wx=>v5=.pointer (some ⟨hd ql,0,none⟩)/\v6=.pointer (some ⟨hd qr,0,none⟩)/\Hid (WkI b w.heap.size mk ql qr false c0 c1 c2 c4 hd w wx))
 case first =>
  go_region_law (first
   |(go_simp;(with_reducible refine HL0.out.mono ?_);rintro r w5 ⟨rfl,hw5⟩;obtain⟨y0,y1,y2,yl⟩:=hw5.facts;have HR5:=hidE (hw5.head qr hw5.lr);clear hw5)
   |(go_simp;(with_reducible refine HR0.out.mono ?_);rintro r w5 ⟨rfl,hw5⟩;obtain⟨y0,y1,y2,yl⟩:=hw5.facts;have HL5:=hidE (hw5.head ql hw5.ll);clear hw5)
   |(go_simp;(with_reducible refine HR5.out.mono ?_);rintro r w6 ⟨rfl,hw6⟩;obtain⟨x0,x1,x2,xl⟩:=hw6.facts;have HW6:=hidE hw6;clear hw6)
   |(go_simp;(with_reducible refine HL5.out.mono ?_);rintro r w6 ⟨rfl,hw6⟩;obtain⟨x0,x1,x2,xl⟩:=hw6.facts;have HW6:=hidE hw6;clear hw6))
  all_goals
   go_wp2_with fail
   go_meet
   case rel=>exact⟨rfl,rfl,HW6⟩
 case rest =>
  rename World=>V0;obtain⟨rfl,rfl,hw⟩:=hcut;have hwo:=hw.out;have heq:=zcf hwo.hl hwo.hr;rw[decide_eq_false HNE.out]at heq
  obtain⟨K5,hk5⟩:=hwo.kn;obtain⟨z0,z1,z2,zl⟩:=hwo.facts;have hpd0:PartsD V0 G D:=HPD.out.same λk hk ⟨cs,t,hx⟩=>hwo.ch.block k hk (HNM.out k cs t hx);obtain⟨A1,cc1,p0,-,-,-,-,-,-⟩:=(hpd0 _ x HX.out).facts;obtain⟨A2,cc2,q0,-,-,-,-,-,-⟩:=(hpd0 _ y HY.out).facts;have lp:=(hpd0 _ x HX.out).lt;have lq:=(hpd0 _ y HY.out).lt;obtain⟨kx,hkx⟩:∃k,x.kd=k:=⟨_,rfl⟩;obtain⟨ky,hky⟩:∃k,y.kd=k:=⟨_,rfl⟩;rw[hkx]at p0
  rw[hky]at q0
  have hft:=zgb (hd ql) (hd qr) x y _ _ V0 (hpd0 _ x HX.out) (hpd0 _ y HY.out);rw[HFT.out]at hft
  have HFI:=hidE hft;have HWO:=hidE hwo;have HP0:=hidE hpd0;have HK5:=hidE hk5;have hm:=HM.out;rw[hkx,hky]at hm
  have e2:((kx:Int)==2)=false:=by rw[Bool.eq_false_iff];intro e;simp at e;omega
  have e3:((ky:Int)==2)=false:=by rw[Bool.eq_false_iff];intro e;simp at e;omega
  have e5:((kx:Int)==5)=false:=by rw[Bool.eq_false_iff];intro e;simp at e;omega
  have HKX:=hidE hkx;clear hft hwo hk5 hpd0 hw HL0 HR0 hkx hky hm;go_wp2_with fail
  refine HFI.out.mono ?_;rintro e wf ⟨rfl,hbf,hsf⟩;have hpdf:PartsD wf G D:=HP0.out.same λk hk _=>hbf.block k hk;obtain⟨A3,cc3,r0,-,-,-,-,-,-⟩:=(hpdf _ x HX.out).facts;rw[HKX.out]at r0
  have lp3:=(hpdf _ x HX.out).lt;have HBF:=hidE hbf;have HPF:=hidE hpdf;have hfb:=ze8 HFT.out;have hpr:=zhO (hd ql) (hd qr) x y (D _) (D _) wf.drew (PartC.keep (hpdf _ x HX.out) rfl (λ_=>rfl)) (PartC.keep (hpdf _ y HY.out) rfl (λ_=>rfl)) hfb (by have:=HN.out;omega);have HPR:=hidE hpr;have sbf:Blk wf b 85 #[c0,c1,c2,.map (some mk),c4]:=HWO.out.sb.below hbf HWO.out.sb.lt;have lbf:=sbf.lt;have hof:wf.ownsRow B 78 3 c0 stk.length (eqCells stk):=zal HO.out (λg hg=>by
   obtain⟨_,hl,cur,hcur⟩:=zab HO.out g hg;have h0:=HWO.out.ch.block g hl (HNM.out g cur _ hcur);exact(hbf.block g (Nat.lt_of_lt_of_le hl HWO.out.ch.size)).trans h0)
  have hszf:w.heap.size<=wf.heap.size:=Nat.le_trans HWO.out.ch.size hbf.size;have HLAY:Hid (∀(g c:Nat) (w5:World),Below wf.drew.heap.size wf.drew w5->w5.ownsRow wf.drew.heap.size 78 3 (.slice (some ⟨g,0,none⟩) (x.kids.length+1) c) (x.kids.length+1) (eqCells (zax x.kids y.kids++[(⟨hd ql,hd qr,true⟩:Eqn)])) ->
    Calls Tryz.prog 34 #[.pointer (some ⟨b,0,none⟩),.slice (some ⟨g,0,none⟩) (x.kids.length+1) c] w5 λe w'=>(∃z,e=.returned z)/\WkP b mk B c0 c1 c2 c4 G D hd (stk++(zax x.kids y.kids++[(⟨hd ql,hd qr,true⟩:Eqn)]).reverse) w w'):=hidE (by
   intro g c w5 hb5 ho5;obtain⟨hg1,hg2,hcl⟩:=zfL ho5;have hb5':Below wf.heap.size wf w5:=⟨hb5.os,hb5.tape,hb5.output,hb5.size,hb5.block⟩;have hg1':wf.heap.size<=g:=hg1;have hlen:(zax x.kids y.kids++[(⟨hd ql,hd qr,true⟩:Eqn)]).length=x.kids.length+1:=by rw[List.length_append,zcx _ _ hfb];rfl
   have ho5w:w5.ownsRow B 78 3 c0 stk.length (eqCells stk):=zal hof (λk hk=>hb5'.block k (zab hof k hk).2.1);have hvb:c0.ownBlock≠some b:=λe=>by
    obtain⟨_,_,cur,hcur⟩:=zab hof b e;exact Blk.ne_ (show Blk wf b _ cur from hcur) sbf (by decide) rfl
   have sb5:=sbf.below hb5' lbf;have hlay:=zga b B 85 #[c0,c1,c2,.map (some mk),c4] (by simp) stk (zax x.kids y.kids++[(⟨hd ql,hd qr,true⟩:Eqn)]) c0 (some ⟨g,0,none⟩) c w5 sb5 ho5w (by have:=HBB.out;have:=hb5'.size;omega) hvb (by rw[hlen];have:=HN.out;omega) (λj q hq=>⟨g,rfl,hg2,by omega,λe=>by have:=(zab hof g e).2.1;omega,hcl j q hq⟩);rw[hlen]at hlay
   refine hlay.mono ?_;rintro e w' ⟨hz,v',d1,d2,-,-,-,d6⟩;have hchw:Chg (λk=>k=mk\/k=b\/c0.ownBlock=some k) w w':=(((HWO.out.ch.mono (λ_ _ h=>.inl h)).below hbf).below hb5').trans' d6 (λk _ h=>.inr h);have hne6:∀(k:Nat) (cs:Array Value) (t:TypeId),w5.heap[k]?=some (.cells cs t (0,0))->t≠85->t≠78->w'.heap[k]?=w5.heap[k]?:=λk cs t hk ht1 ht2=>d6.block k (Array.getElem?_eq_some_iff.1 hk).1 (λh=>by
    rcases h with h|h
    ·exact Blk.ne_ (show Blk w5 k t cs from hk) sb5 ht1 h
    ·obtain⟨_,_,cur,hcur⟩:=zab ho5w k h
     exact Blk.ne_ (show Blk w5 k t cs from hk) (show Blk w5 k _ cur from hcur) ht2 rfl)
   have hmkl:mk<wf.heap.size:=Nat.lt_of_lt_of_le (MapK.lt HK5.out.mp) hbf.size;have hmk5:w5.heap[mk]?=V0.heap[mk]?:=(hb5'.block mk hmkl).trans (hbf.block mk (MapK.lt HK5.out.mp));have hmk6:w'.heap[mk]?=w5.heap[mk]?:=d6.block mk (Nat.lt_of_lt_of_le hmkl hb5'.size) (λh=>by
    rcases h with h|h
    ·have h1:=HWO.out.sb
     rw[<-h]at h1
     exact MapK.no HK5.out.mp h1
    ·obtain⟨_,_,cur,hcur⟩:=zab ho5w mk h
     rw[hmk5]at hcur
     exact MapK.no HK5.out.mp hcur)
   refine⟨hz,v',d1,d2,⟨K5,HK5.out.keep (hmk6.trans hmk5) (λz ⟨cs,hzz⟩=>?_)⟩,?_,hchw⟩
   ·have h5:w5.heap[z]?=some (.cells cs 132 (0,0)):=((hb5'.block z (Nat.lt_of_lt_of_le (Array.getElem?_eq_some_iff.1 hzz).1 hbf.size)).trans (hbf.block z (Array.getElem?_eq_some_iff.1 hzz).1)).trans hzz
    exact⟨cs,(hne6 z cs _ h5 (by decide) (by decide)).trans h5⟩
   ·intro z nd hz2
    have h5:PartC w5 z nd (D z):=(hpdf z nd hz2).keep (hb5'.block z (hpdf z nd hz2).lt) (λhk=>hb5'.block _ ((hpdf z nd hz2).row_lt hk));obtain⟨A7,c7,hb7,hr7⟩:=h5;refine PartC.keep ⟨A7,c7,hb7,hr7⟩ (hne6 z _ _ hb7 (by decide) (by decide)) (λhk=>?_);obtain⟨_,cur,hcur,_⟩:=hr7 hk;exact hne6 _ cur _ hcur (by decide) (by decide))
  clear hfb hbf hsf hpdf hpr sbf hof hszf HFI p0 q0 lp lq z0 z1 z2 zl HWO HP0 HK5;go_upto_region 13 with fail
  go_region_law (first
   |(go_simp;(with_reducible refine HPR.out.mono ?_);rintro e w5 ⟨g,c,rfl,h5,ho5⟩;have HLA:=hidE (HLAY.out g c w5 h5 ho5);clear h5 ho5)
   |(go_simp;(with_reducible refine HLA.out.mono ?_);rintro e w6 ⟨⟨zz,rfl⟩,hl6⟩;have HL6:=hidE hl6;clear hl6))
  all_goals
   go_wp2_with fail
   go_ret
   exact⟨rfl,HL6.out⟩
end Go.Proofs.YtfafilmklhnngaaGreatDoor
namespace Go.Proofs.YtfafilmklhnngaaGreatDoor
open Lx Tx
set_option maxRecDepth 100000
def kdD:Dt->Nat
 |.fv _=>1
 |.bv _=>1
 |.mt _=>2
 |.con _ _=>3
 |.fn _ _=>4
 |.all _=>5
def nmD:Dt->ByteArray
 |.con c _=>⟨c.toArray⟩
 |_=>⟨#[]⟩
def zaf:Dt->List Dt
 |.con _ l=>l
 |.fn a b=>[a,b]
 |.all t=>[t]
 |_=>[]
def App(d:Dt):Prop:=kdD d=3\/kdD d=4
theorem zcI {d:Dt}(h:App d):Plain d↔∀u∈zaf d,Plain u:=by
 cases d <;> simp[App,kdD]at h
 ·exact zb0 _ _
 ·rw[plain_fn,zaf];simp
theorem App.ap {d:Dt}(h:App d)(k:Sb):App (Tx.ap k d)/\kdD (Tx.ap k d)=kdD d/\nmD (Tx.ap k d)=nmD d/\zaf (Tx.ap k d)=(zaf d).map (Tx.ap k):=by
 cases d <;> simp[App,kdD]at h
 ·rw[zaZ,zbd];simp[App,kdD,nmD,zaf]
 ·rw[zbf];simp[App,kdD,nmD,zaf]
theorem App.ext {d e:Dt}(hd:App d)(hk:kdD d=kdD e)(hn:nmD d=nmD e)(hl:zaf d=zaf e):d=e:=by
 cases d <;> simp[App,kdD]at hd <;> cases e <;> simp[kdD]at hk
 ·simp[nmD]at hn
  simp[zaf]at hl
  rw[hn,hl]
 ·simp[zaf]at hl
  rw[hl.1,hl.2]
theorem App.not_bv {d:Dt}(h:App d)(i:Nat):d≠.bv i:=by rintro rfl;simp[App,kdD]at h
def ixN(c:Nat):List Nat->Option Nat
 |[]=>none
 |y::r=>if c=y then some 0 else(ixN c r).map (· + 1)
theorem zgf(c:Nat):(l:List Nat)->(i:Nat)->ixN c l=some i->l[i]?=some c
 |[],i,h=>by cases h
 |y::r,i,h=>by
  rw[ixN]at h
  by_cases e:c=y
  ·rw[if_pos e]at h;injection h with h;subst h;rw[e];rfl
  ·rw[if_neg e]at h
   cases hr:ixN c r with
   |none=>rw[hr]at h;cases h
   |some j=>rw[hr]at h;injection h with h;subst h;exact zgf c r j hr
theorem zeN(c:Nat):(l:List Nat)->l.Nodup->(i:Nat)->l[i]?=some c->ixN c l=some i
 |[],_,i,h=>by simp at h
 |y::r,hn,0,h=>by
  simp at h;rw[ixN,if_pos h.symm]
 |y::r,hn,i+1,h=>by
  rw[List.nodup_cons]at hn
  simp at h;have hm:c∈r:=List.mem_of_getElem? h;rw[ixN,if_neg (λe:c=y=>hn.1 (by rw[<-e];exact hm)),zeN c r hn.2 i h]
  rfl
noncomputable def pn (d:Dt)(p:Nat):List Nat:=by classical exact if Plain d then[] else[p]
theorem zd4 {d:Dt}(h:Plain d)(p:Nat):pn d p=[]:=by unfold pn;rw[if_pos h]
theorem zcz {d:Dt}(h:¬Plain d)(p:Nat):pn d p=[p]:=by unfold pn;rw[if_neg h]
inductive Tr (G:Nat->Option Nd):List Nat->Nat->Dt->List Nat->Prop
 |fv (env:List Nat) (p:Nat) (x:Name):G p=some ⟨1,⟨x.toArray⟩,0,[],none,false⟩->Tr G env p (.fv x) []
 |bv (env:List Nat) (p:Nat) (nm:ByteArray) (i:Nat):G p=some ⟨1,nm,0,[],none,true⟩->ixN p env=some i->Tr G env p (.bv i) []
 |mt (env:List Nat) (p n:Nat):G p=some ⟨2,⟨#[]⟩,n,[],none,false⟩->Tr G env p (.mt n) []
 |app (env:List Nat) (p:Nat) (d:Dt) (ps:List Nat) (nss:List (List Nat)):App d->G p=some ⟨kdD d,nmD d,0,ps,none,false⟩->ps.length=(zaf d).length->nss.length=(zaf d).length ->
   (∀(i q:Nat)(u:Dt)(ns:List Nat),ps[i]?=some q->(zaf d)[i]?=some u->nss[i]?=some ns->Tr G env q u ns)->Tr G env p d (pn d p++nss.flatten)
 |all (env:List Nat) (p:Nat) (x:ByteArray) (t:Dt) (q c:Nat) (ns:List Nat):G p=some ⟨5,x,0,[q],some c,false⟩->(∃nm,G c=some ⟨1,nm,0,[],none,true⟩)->Tr G (c::env) q t ns->Tr G env p (.all t) (p::c::ns)
theorem Tr.plain {G:Nat->Option Nd} {env:List Nat} {p:Nat} {d:Dt} {ns:List Nat}(h:Tr G env p d ns):Plain d->ns=[]/\∀env',Tr G env' p d []:=by
 induction h with
 |fv env p x h=>exact λ_=>⟨rfl,λe=>.fv e p x h⟩
 |bv env p nm i h _=>exact λhp=>absurd hp (zaH i)
 |mt env p n h=>exact λ_=>⟨rfl,λe=>.mt e p n h⟩
 |app env p d ps nss ha hG h1 h2 h3 ih =>
  intro hp;have hk:=(zcI ha).1 hp;have hall:∀ns∈nss,ns=[]:=by
   intro ns hns;obtain⟨i,hi,rfl⟩:=List.mem_iff_getElem.1 hns;have hi1:i<ps.length:=by omega
   have hi2:i<(zaf d).length:=by omega
   exact(ih i _ _ _ (List.getElem?_eq_getElem hi1) (List.getElem?_eq_getElem hi2) (List.getElem?_eq_getElem hi) (hk _ (List.getElem_mem hi2))).1
  have hfl:nss.flatten=[]:=by rw[List.flatten_eq_nil_iff];exact hall
  refine⟨by rw[zd4 hp,hfl];rfl,λe=>?_⟩;have:=Tr.app (G:=G) e p d ps nss ha hG h1 h2 (λi q u ns a b c=>by
   have h4:=ih i q u ns a b c (hk _ (List.mem_of_getElem? b));rw[hall ns (List.mem_of_getElem? c)]
   exact h4.2 e)
  rw[zd4 hp,hfl]at this
  exact this
 |all env p x t q c ns _ _ _ _=>exact λhp=>absurd hp (zaE t)
theorem Tr.det {G:Nat->Option Nd} {env:List Nat} {p:Nat} {d:Dt} {ns:List Nat}(h:Tr G env p d ns):Plain d->∀ {env':List Nat} {d':Dt} {ns':List Nat},Tr G env' p d' ns'->d'=d:=by
 induction h with
 |fv env p x h =>
  intro _ env' d' ns' h';cases h' with
  |fv _ _ y hy=>rw[h]at hy;simp at hy;rw[hy]
  |bv _ _ _ _ hy _=>rw[h]at hy;simp at hy
  |mt _ _ _ hy=>rw[h]at hy;simp at hy
  |app _ _ _ _ _ ha hy _ _ _=>rw[h]at hy;simp at hy;rcases ha with e|e <;> omega
  |all _ _ _ _ _ _ _ hy _ _=>rw[h]at hy;simp at hy
 |bv env p nm i h _=>exact λhp=>absurd hp (zaH i)
 |mt env p n h =>
  intro _ env' d' ns' h';cases h' with
  |fv _ _ y hy=>rw[h]at hy;simp at hy
  |bv _ _ _ _ hy _=>rw[h]at hy;simp at hy
  |mt _ _ _ hy=>rw[h]at hy;simp at hy;rw[hy]
  |app _ _ _ _ _ ha hy _ _ _=>rw[h]at hy;simp at hy;rcases ha with e|e <;> omega
  |all _ _ _ _ _ _ _ hy _ _=>rw[h]at hy;simp at hy
 |app env p d ps nss ha hG h1 h2 h3 ih =>
  intro hp env' d' ns' h';have hk:=(zcI ha).1 hp;cases h' with
  |fv _ _ y hy=>rw[hG]at hy;simp at hy;rcases ha with e|e <;> omega
  |bv _ _ _ _ hy _=>rw[hG]at hy;simp at hy
  |mt _ _ _ hy=>rw[hG]at hy;simp at hy;rcases ha with e|e <;> omega
  |all _ _ _ _ _ _ _ hy _ _=>rw[hG]at hy;simp at hy
  |app _ _ _ ps' nss' ha' hy g1 g2 g3 =>
   rw[hG]at hy
   simp at hy;obtain⟨e1,e2,rfl⟩:=hy;refine(App.ext ha e1 e2 ?_).symm;refine List.ext_getElem (by omega) λi i1 i2=>?_;exact(ih i _ _ _ (List.getElem?_eq_getElem (by omega)) (List.getElem?_eq_getElem i1) (List.getElem?_eq_getElem (by omega)) (hk _ (List.getElem_mem i1)) (g3 i _ _ _ (List.getElem?_eq_getElem (by omega)) (List.getElem?_eq_getElem i2) (List.getElem?_eq_getElem (by omega)))).symm
 |all env p x t q c ns _ _ _ _=>exact λhp=>absurd hp (zaE t)
def NonP(G:Nat->Option Nd)(p:Nat):Prop:=∀env d ns,Tr G env p d ns->¬Plain d
theorem Tr.nonP {G:Nat->Option Nd} {env:List Nat} {p:Nat} {d:Dt} {ns:List Nat}(h:Tr G env p d ns)(hd:¬Plain d):NonP G p:=λ_ _ _ h' hp=>by
 have:=h'.det hp h;rw[this]at hd
 exact hd hp
theorem zd5 {G:Nat->Option Nd} {c:Nat} {nm:ByteArray}(h:G c=some ⟨1,nm,0,[],none,true⟩):NonP G c:=λ_ d _ h'=>by
 cases h' with
 |fv _ _ y hy=>rw[h]at hy;simp at hy
 |bv _ _ _ i _ _=>exact zaH i
 |mt _ _ _ hy=>rw[h]at hy;simp at hy
 |app _ _ _ _ _ ha hy _ _ _=>rw[h]at hy;simp at hy
 |all _ _ _ _ _ _ _ hy _ _=>rw[h]at hy;simp at hy
theorem Tr.mem_nonP {G:Nat->Option Nd} {env:List Nat} {p:Nat} {d:Dt} {ns:List Nat}(h:Tr G env p d ns):∀x∈ns,NonP G x:=by
 induction h with
 |fv=>intro x hx;cases hx
 |bv=>intro x hx;cases hx
 |mt=>intro x hx;cases hx
 |app env p d ps nss ha hG h1 h2 h3 ih =>
  intro x hx;rcases List.mem_append.1 hx with hx|hx
  ·by_cases hp:Plain d
   ·rw[zd4 hp]at hx;cases hx
   ·rw[zcz hp]at hx
    rw[List.mem_singleton.1 hx]
    exact Tr.nonP (Tr.app env p d ps nss ha hG h1 h2 h3) hp
  ·obtain⟨ns,hns,hx⟩:=List.mem_flatten.1 hx
   obtain⟨i,hi,rfl⟩:=List.mem_iff_getElem.1 hns;exact ih i _ _ _ (List.getElem?_eq_getElem (show i<ps.length by omega)) (List.getElem?_eq_getElem (show i<(zaf d).length by omega)) (List.getElem?_eq_getElem hi) x hx
 |all env p x t q c ns h1 h2 h3 ih =>
  intro y hy;rcases List.mem_cons.1 hy with e|hy
  ·rw[e];exact Tr.nonP (Tr.all env p x t q c ns h1 h2 h3) (zaE t)
  ·rcases List.mem_cons.1 hy with e|hy
   ·obtain⟨nm,h2⟩:=h2;rw[e];exact zd5 h2
   ·exact ih y hy
theorem Tr.self_mem {G:Nat->Option Nd} {env:List Nat} {p:Nat} {d:Dt} {ns:List Nat}(h:Tr G env p d ns)(hp:¬Plain d)(hb:∀i,d≠.bv i):p∈ns:=by
 cases h with
 |fv _ _ x _=>exact absurd (zh5 x) hp
 |bv _ _ _ i _ _=>exact absurd rfl (hb i)
 |mt _ _ n _=>exact absurd (zaM n) hp
 |app _ _ _ _ _ _ _ _ _ _=>rw[zcz hp];exact List.mem_append_left _ List.mem_cons_self
 |all=>exact List.mem_cons_self
theorem Tr.node {G:Nat->Option Nd} {env:List Nat} {p:Nat} {d:Dt} {ns:List Nat}(h:Tr G env p d ns):∃x,G p=some x/\x.kd=kdD d/\x.kids.length=(zaf d).length/\(App d->x.nm=nmD d)/\(∀n,d=.mt n->x.n=n)/\(x.new=true↔∃i,d=.bv i):=by
 cases h with
 |fv _ _ x h=>exact⟨_,h,rfl,rfl,(λh=>by simp[App,kdD]at h),(λn h=>by cases h),by simp⟩
 |bv _ _ nm i h _=>exact⟨_,h,rfl,rfl,(λh=>by simp[App,kdD]at h),(λn h=>by cases h),by simp⟩
 |mt _ _ n h=>exact⟨_,h,rfl,rfl,(λh=>by simp[App,kdD]at h),(λm h=>by injection h),by simp⟩
 |app _ _ _ ps _ ha h h1 _ _ =>
  refine⟨_,h,rfl,h1,(λ_=>rfl),(λn e=>by subst e;simp[App,kdD]at ha),?_⟩;constructor
  ·intro e;simp at e
  ·rintro⟨i,e⟩;exact absurd e (ha.not_bv i)
 |all _ _ _ _ _ _ _ h _ _=>exact⟨_,h,rfl,rfl,(λh=>by simp[App,kdD]at h),(λn h=>by cases h),by simp⟩
structure GrS (G:Nat->Option Nd):Prop where
 uu:∀p q n,G p=some ⟨2,⟨#[]⟩,n,[],none,false⟩->G q=some ⟨2,⟨#[]⟩,n,[],none,false⟩->p=q
 vv:∀p q x,G p=some ⟨1,x,0,[],none,false⟩->G q=some ⟨1,x,0,[],none,false⟩->p=q
structure HdS (G:Nat->Option Nd) (L:List Nat) (hd:Nat->Nat) (k:Sb) (Ns O:List Nat):Prop where
 gr:Gr G hd L
 pl:∀p d,Tr G [] p d []->Plain d->∃d',Tr G [] (hd p) d' []/\Plain d'/\ap k d=ap k d'
 un:∀p n,G p=some ⟨2,⟨#[]⟩,n,[],none,false⟩->hd p=p->k n=.mt n
 nd:Ns.Nodup
 nh:∀x∈Ns,hd x=x
 np:∀x∈Ns,NonP G x
 oc:∀c∈O,(∃nm,G c=some ⟨1,nm,0,[],none,true⟩)/\c∉Ns
 ki:Idem k
 kp:∀n,Plain (k n)
structure EnvOK (hd:Nat->Nat) (O el er:List Nat):Prop where
 len:el.length=er.length
 nd:er.Nodup
 lo:∀c∈el,c∈O
 ro:∀c∈er,c∈O
 lk:∀(i a b:Nat),el[i]?=some a->er[i]?=some b->hd a=b/\hd b=b
theorem zgg {hd:Nat->Nat} {m t p:Nat}(ht:hd t=t)(h:hdL hd m t p=p):hd p=p:=by
 unfold hdL at h;by_cases e:hd p=m
 ·rw[if_pos e]at h;subst h;exact ht
 ·rw[if_neg e]at h;exact h
theorem znn {hd:Nat->Nat} {m t:Nat}(hi:∀q,hd (hd q)=hd q)(ht:hd t=t)(hmt:m≠t)(p:Nat):hdL hd m t (hdL hd m t p)=hdL hd m t p:=by
 unfold hdL;by_cases e:hd p=m
 ·rw[if_pos e,ht,if_neg (Ne.symm hmt)]
 ·rw[if_neg e,hi,if_neg e]
theorem zbs {hd:Nat->Nat} {m t p:Nat}(h:hd p≠m):hdL hd m t p=hd p:=if_neg h
theorem zcN {hd:Nat->Nat} {m t p:Nat}(h:hd p=m):hdL hd m t p=t:=if_pos h
theorem Gr.link {G:Nat->Option Nd} {hd:Nat->Nat} {L:List Nat}(h:Gr G hd L) {m t:Nat}(ht:hd t=t)(hmt:m≠t) {y:Nd}(hy:G t=some y):Gr G (hdL hd m t) L where
 kin:=h.kin
 hin q x hx:=by
  by_cases e:hd q=m
  ·rw[zcN e];exact⟨y,hy⟩
  ·rw[zbs e];exact h.hin q x hx
 idm:=znn h.idm ht hmt
 all:=h.all
theorem EnvOK.link {hd:Nat->Nat} {O O' el er:List Nat}(h:EnvOK hd O el er) {m t:Nat}(hm:m∉O)(hO:∀c∈O,c∈O'):EnvOK (hdL hd m t) O' el er where
 len:=h.len
 nd:=h.nd
 lo c hc:=hO c (h.lo c hc)
 ro c hc:=hO c (h.ro c hc)
 lk i a b ha hb:=by
  obtain⟨h1,h2⟩:=h.lk i a b ha hb;have hbm:b≠m:=λe=>hm (e▸h.ro b (List.mem_of_getElem? hb));refine⟨?_,?_⟩
  ·rw[zbs (by rw[h1];exact hbm)];exact h1
  ·rw[zbs (by rw[h2];exact hbm)];exact h2
def EntOK(G:Nat->Option Nd)(hd:Nat->Nat)(O:List Nat):(Sb->Prop)->List Eqn->List (Dt × Dt)->List Nat->Prop
 |_,[],E,Ns=>E=[]/\Ns=[]
 |A,q::r,E,Ns=>∃el er dl dr nl nr,EnvOK hd O el er/\Tr G el q.l dl nl/\Tr G er q.r dr nr /\
   ((q.d=false/\∃E' N',E=(dl,dr)::E'/\Ns=nl++nr++N'/\EntOK G hd O (λs=>A s/\ap s dl=ap s dr) r E' N') \/
    (q.d=true/\(∀s,A s->ap s dl=ap s dr)/\∃N',Ns=pn dl q.l++pn dr q.r++N'/\EntOK G hd O A r E N'))
theorem EntOK.mono {G:Nat->Option Nd} {hd:Nat->Nat} {O:List Nat} :(l:List Eqn)->∀ {A A':Sb->Prop} {E:List (Dt × Dt)} {Ns:List Nat},EntOK G hd O A l E Ns->(∀s,A' s->A s)->EntOK G hd O A' l E Ns
 |[],_,_,_,_,h,_=>by rw[EntOK]at h ⊢;exact h
 |q::r,A,A',E,Ns,h,hA=>by
  rw[EntOK]at h ⊢
  obtain⟨el,er,dl,dr,nl,nr,h1,h2,h3,h4⟩:=h;refine⟨el,er,dl,dr,nl,nr,h1,h2,h3,?_⟩;rcases h4 with⟨a,E',N',b,c,d⟩|⟨a,b,N',c,d⟩
  ·exact .inl ⟨a,E',N',b,c,EntOK.mono r d λs hs=>⟨hA s hs.1,hs.2⟩⟩
  ·exact .inr ⟨a,λs hs=>b s (hA s hs),N',c,EntOK.mono r d hA⟩
theorem EntOK.link {G:Nat->Option Nd} {hd:Nat->Nat} {O O':List Nat} {m t:Nat}(hm:m∉O)(hO:∀c∈O,c∈O'):(l:List Eqn)->∀ {A:Sb->Prop} {E:List (Dt × Dt)} {Ns:List Nat},EntOK G hd O A l E Ns->EntOK G (hdL hd m t) O' A l E Ns
 |[],_,_,_,h=>by rw[EntOK]at h ⊢;exact h
 |q::r,A,E,Ns,h=>by
  rw[EntOK]at h ⊢
  obtain⟨el,er,dl,dr,nl,nr,h1,h2,h3,h4⟩:=h;refine⟨el,er,dl,dr,nl,nr,h1.link hm hO,h2,h3,?_⟩;rcases h4 with⟨a,E',N',b,c,d⟩|⟨a,b,N',c,d⟩
  ·exact .inl ⟨a,E',N',b,c,EntOK.link hm hO r d⟩
  ·exact .inr ⟨a,b,N',c,EntOK.link hm hO r d⟩
theorem EntOK.put {G:Nat->Option Nd} {hd:Nat->Nat} {O:List Nat} :(ps qs:List Nat)->∀ {A:Sb->Prop} {r:List Eqn} {E:List (Dt × Dt)} {N:List Nat}(el er:List Nat)(ds es:List Dt)(nss mss:List (List Nat)),EnvOK hd O el er ->
  ps.length=ds.length->qs.length=es.length->ps.length=qs.length->nss.length=ds.length->mss.length=es.length ->
  (∀(i q:Nat)(u:Dt)(ns:List Nat),ps[i]?=some q->ds[i]?=some u->nss[i]?=some ns->Tr G el q u ns)->(∀(i q:Nat)(u:Dt)(ns:List Nat),qs[i]?=some q->es[i]?=some u->mss[i]?=some ns->Tr G er q u ns) ->
  EntOK G hd O (λs=>A s/\∀p∈ds.zip es,ap s p.1=ap s p.2) r E N ->
  EntOK G hd O A (zax ps qs++r) (ds.zip es++E) ((List.zipWith (·++·) nss mss).flatten++N)
 |[],[],A,r,E,N,el,er,ds,es,nss,mss,_,h1,h2,_,h4,h5,_,_,h=>by
  obtain rfl:ds=[]:=List.eq_nil_of_length_eq_zero (by simpa using h1.symm);obtain rfl:es=[]:=List.eq_nil_of_length_eq_zero (by simpa using h2.symm);obtain rfl:nss=[]:=List.eq_nil_of_length_eq_zero (by simpa using h4);simp only[zax,List.nil_append,List.zip_nil_left,List.zipWith_nil_left,List.flatten_nil];exact EntOK.mono r h λs hs=>⟨hs,λp hp=>by cases hp⟩
 |[],_::_,_,_,_,_,_,_,_,_,_,_,_,_,_,h3,_,_,_,_,_=>by simp at h3
 |_::_,[],_,_,_,_,_,_,_,_,_,_,_,_,_,h3,_,_,_,_,_=>by simp at h3
 |p::ps,q::qs,A,r,E,N,el,er,ds,es,nss,mss,he,h1,h2,h3,h4,h5,hl,hr,h=>by
  obtain⟨d,ds,rfl⟩:∃d ds',ds=d::ds':=by cases ds with|nil=>simp at h1|cons d ds=>exact⟨d,ds,rfl⟩
  obtain⟨e,es,rfl⟩:∃e es',es=e::es':=by cases es with|nil=>simp at h2|cons d ds=>exact⟨d,ds,rfl⟩
  obtain⟨ns,nss,rfl⟩:∃e es',nss=e::es':=by cases nss with|nil=>simp at h4|cons d ds=>exact⟨d,ds,rfl⟩
  obtain⟨ms,mss,rfl⟩:∃e es',mss=e::es':=by cases mss with|nil=>simp at h5|cons d ds=>exact⟨d,ds,rfl⟩
  simp only[List.length_cons,Nat.add_right_cancel_iff]at h1 h2 h3 h4 h5;simp only[zax,List.cons_append,List.zip_cons_cons,List.zipWith_cons_cons,List.flatten_cons];rw[EntOK]
  refine⟨el,er,d,e,ns,ms,he,hl 0 p d ns rfl rfl rfl,hr 0 q e ms rfl rfl rfl,.inl ⟨rfl,_,_,rfl,by rw[List.append_assoc],?_⟩⟩;refine EntOK.put ps qs el er ds es nss mss he h1 h2 h3 h4 h5 (λi q u ns a b c=>hl (i+1) q u ns (by simpa using a) (by simpa using b) (by simpa using c)) (λi q u ns a b c=>hr (i+1) q u ns (by simpa using a) (by simpa using b) (by simpa using c)) ?_;exact EntOK.mono r h λs hs=>⟨hs.1.1,λz hz=>by
   rcases List.mem_cons.1 hz with e|hz
   ·rw[e];exact hs.1.2
   ·exact hs.2 z hz⟩
def HV(G:Nat->Option Nd)(e er:List Nat)(h:Nat)(d:Dt)(ns:List Nat):Prop :=
 (Tr G e h d ns/\∀i,d≠.bv i)\/(ns=[]/\∃i nm,d=.bv i/\er[i]?=some h/\G h=some ⟨1,nm,0,[],none,true⟩)
section
variable {G:Nat->Option Nd} {L:List Nat} {hd:Nat->Nat} {k:Sb} {Ns O:List Nat}
theorem HdS.head(S:HdS G L hd k Ns O) {e er:List Nat}(hs:∀(i a:Nat),e[i]?=some a->∃b,er[i]?=some b/\hd a=b/\b∈O) {p:Nat} {d:Dt} {ns:List Nat}(h:Tr G e p d ns)(hn:∀x∈ns,x∈Ns):∃d',HV G e er (hd p) d' ns/\ap k d=ap k d'/\(Plain d->Plain d')/\(¬Plain d->d'=d/\((∀i,d≠.bv i)->hd p=p)):=by
 by_cases hp:Plain d
 ·obtain⟨rfl,hpe⟩:=h.plain hp
  obtain⟨d',h1,h2,h3⟩:=S.pl p d (hpe []) hp;exact⟨d',.inl ⟨(h1.plain h2).2 e,λi e=>zaH i (e▸h2)⟩,h3,λ_=>h2,λh=>absurd hp h⟩
 ·by_cases hb:∃i,d=.bv i
  ·obtain⟨i,rfl⟩:=hb
   cases h with
   |bv _ _ nm _ hG hi =>
    obtain⟨b,h1,h2,h3⟩:=hs i p (zgf p e i hi);obtain⟨⟨nm',h4⟩,-⟩:=S.oc b h3;refine⟨.bv i,.inr ⟨rfl,i,nm',rfl,by rw[h2];exact h1,by rw[h2];exact h4⟩,rfl,λh=>absurd h hp,λ_=>⟨rfl,λh=>absurd rfl (h i)⟩⟩
   |app _ _ _ _ _ ha _ _ _ _=>simp[App,kdD]at ha
  ·have hb:∀i,d≠.bv i:=λi e=>hb ⟨i,e⟩
   have:=S.nh p (hn p (h.self_mem hp hb));refine⟨d,.inl ⟨by rw[this];exact h,hb⟩,rfl,λh=>absurd h hp,λ_=>⟨rfl,λ_=>this⟩⟩
theorem EnvOK.left {el er:List Nat}(h:EnvOK hd O el er)(i a:Nat)(ha:el[i]?=some a):∃b,er[i]?=some b/\hd a=b/\b∈O:=by
 have hi:i<er.length:=by rw[<-h.len];exact(List.getElem?_eq_some_iff.1 ha).1
 exact⟨er[i],List.getElem?_eq_getElem hi,(h.lk i a _ ha (List.getElem?_eq_getElem hi)).1,h.ro _ (List.getElem_mem hi)⟩
theorem EnvOK.right {el er:List Nat}(h:EnvOK hd O el er)(i a:Nat)(ha:er[i]?=some a):∃b,er[i]?=some b/\hd a=b/\b∈O:=by
 have hi:i<el.length:=by rw[h.len];exact(List.getElem?_eq_some_iff.1 ha).1
 exact⟨a,ha,(h.lk i _ a (List.getElem?_eq_getElem hi) ha).2,h.ro _ (List.mem_of_getElem? ha)⟩
theorem HdS.same(S:HdS G L hd k Ns O) {el er:List Nat}(he:EnvOK hd O el er) {p q:Nat} {d e:Dt} {nl nr:List Nat}(hp:Tr G el p d nl)(hq:Tr G er q e nr)(hl:∀x∈nl,x∈Ns)(hr:∀x∈nr,x∈Ns)(hx:∀x∈nl,x∉nr)(h:hd p=hd q):ap k d=ap k e:=by
 obtain⟨d',v1,e1,p1,n1⟩:=S.head he.left hp hl;obtain⟨e',v2,e2,p2,n2⟩:=S.head he.right hq hr;rw[e1,e2]
 rw[<-h]at v2
 rcases v1 with⟨t1,b1⟩|⟨-,i,nm,rfl,g1,c1⟩
 ·rcases v2 with⟨t2,b2⟩|⟨-,i,nm,rfl,g2,c2⟩
  ·by_cases hd':Plain d'
   ·rw[t1.det hd' t2]
   ·exfalso
    have hne:¬Plain e':=(t1.nonP hd') _ _ _ t2;have hdn:¬Plain d:=λh=>hd' (p1 h);have hen:¬Plain e:=λh=>hne (p2 h);obtain⟨rfl,f1⟩:=n1 hdn;obtain⟨rfl,f2⟩:=n2 hen;have hpq:p=q:=by rw[<-f1 b1,<-f2 b2,h]
    exact hx p (hp.self_mem hdn b1) (by rw[hpq];exact hq.self_mem hen b2)
  ·exfalso
   obtain⟨x,hx,-,-,-,-,hn⟩:=t1.node;rw[c2]at hx
   injection hx with hx;obtain⟨i,hi⟩:=hn.1 (by rw[<-hx]);exact b1 i hi
 ·rcases v2 with⟨t2,b2⟩|⟨-,j,nm',rfl,g2,c2⟩
  ·exfalso
   obtain⟨x,hx,-,-,-,-,hn⟩:=t2.node;rw[c1]at hx
   injection hx with hx;obtain⟨i,hi⟩:=hn.1 (by rw[<-hx]);exact b2 i hi
  ·have h1:=zeN (hd p) er he.nd i g1
   have h2:=zeN (hd p) er he.nd j g2;rw[h1]at h2
   injection h2 with h2;rw[h2]
end
def apP(k:Sb)(p:Dt × Dt):Dt × Dt:=(ap k p.1,ap k p.2)
def msr(f:Nat)(l:List Eqn):Nat:=2*f+(l.filter (·.d)).length
def Sim(G:Nat->Option Nd)(L:List Nat)(hd:Nat->Nat)(k:Sb)(l:List Eqn)(f:Nat)(o:Nat ⊕ Sb):Prop :=
 ∃E Eu Ns O,HdS G L hd k Ns O/\EntOK G hd O (λs=>Absorbs s k) l E Ns/\unF f Eu k=some o/\Eu.map (apP k)=E.map (apP k)
theorem HdS.sub {G:Nat->Option Nd} {L:List Nat} {hd:Nat->Nat} {k:Sb} {Ns Ns' O:List Nat}(S:HdS G L hd k Ns O)(hn:Ns'.Nodup)(hs:∀x∈Ns',x∈Ns):HdS G L hd k Ns' O where
 gr:=S.gr
 pl:=S.pl
 un:=S.un
 nd:=hn
 nh x hx:=S.nh x (hs x hx)
 np x hx:=S.np x (hs x hx)
 oc c hc:=⟨(S.oc c hc).1,λh=>(S.oc c hc).2 (hs c h)⟩
 ki:=S.ki
 kp:=S.kp
theorem HdS.link {G:Nat->Option Nd} {L:List Nat} {hd:Nat->Nat} {k:Sb} {Ns O:List Nat}(S:HdS G L hd k Ns O) {m t:Nat}(ht:hd t=t)(hmt:m≠t) {y:Nd}(hy:G t=some y)(hm:m∉Ns)
  (hpl:∀d,Tr G [] m d []->Plain d->∃d',Tr G [] t d' []/\Plain d'/\ap k d=ap k d'):HdS G L (hdL hd m t) k Ns O where
 gr:=S.gr.link ht hmt hy
 pl p d h hp:=by
  obtain⟨d',h1,h2,h3⟩:=S.pl p d h hp;by_cases e:hd p=m
  ·rw[zcN e]
   rw[e]at h1
   obtain⟨d2,g1,g2,g3⟩:=hpl d' h1 h2;exact⟨d2,g1,g2,h3.trans g3⟩
  ·rw[zbs e];exact⟨d',h1,h2,h3⟩
 un p n h hp:=S.un p n h (zgg ht hp)
 nd:=S.nd
 nh x hx:=by rw[zbs (by rw[S.nh x hx];exact λe=>hm (e▸hx))];exact S.nh x hx
 np:=S.np
 oc:=S.oc
 ki:=S.ki
 kp:=S.kp
theorem Sim.nil {G:Nat->Option Nd} {L:List Nat} {hd:Nat->Nat} {k:Sb} {f:Nat} {o:Nat ⊕ Sb}(h:Sim G L hd k [] f o):o=.inr k/\∃O,HdS G L hd k [] O:=by
 obtain⟨E,Eu,Ns,O,S,he,hu,hm⟩:=h;rw[EntOK]at he
 obtain⟨rfl,rfl⟩:=he;have:Eu=[]:=by simpa using hm
 subst this;cases f with
 |zero=>rw[unF]at hu;cases hu
 |succ f=>rw[unF]at hu;injection hu with hu;exact⟨hu.symm,O,S⟩
theorem zh7 {k:Sb}(h:Idem k):Absorbs k k:=λn=>h n
theorem zbt {d:Dt}(k:Sb)(h:kdD d≠2):kdD (ap k d)=kdD d:=by
 cases d with
 |mt n=>exact absurd rfl h
 |fv x=>rw[zbm]
 |bv x=>rw[zbA]
 |con c l=>rw[zaZ];rfl
 |fn a b=>rw[zbf];rfl
 |all t=>rw[zaJ];rfl
theorem zdE {d:Dt}(h:kdD d=2):∃n,d=.mt n:=by
 cases d <;> first|exact⟨_,rfl⟩|simp[kdD]at h
theorem Sim.uncons {G:Nat->Option Nd} {L:List Nat} {hd:Nat->Nat} {k:Sb} {q:Eqn} {r:List Eqn} {f:Nat} {o:Nat ⊕ Sb}(h:Sim G L hd k (q::r) f o)(hq:q.d=false):∃el er dl dr nl nr E' N' O a b Eu' f',HdS G L hd k (nl++nr++N') O/\EnvOK hd O el er/\Tr G el q.l dl nl/\Tr G er q.r dr nr/\EntOK G hd O (λs=>Absorbs s k/\ap s dl=ap s dr) r E' N' /\
   f=f'+1/\unF (f'+1) ((a,b)::Eu') k=some o/\ap k a=ap k dl/\ap k b=ap k dr/\Eu'.map (apP k)=E'.map (apP k):=by
 obtain⟨E,Eu,Ns,O,S,he,hu,hm⟩:=h;rw[EntOK]at he
 obtain⟨el,er,dl,dr,nl,nr,h1,h2,h3,⟨-,E',N',rfl,rfl,h4⟩|⟨e,-⟩⟩:=he
 ·cases Eu with
  |nil=>simp at hm
  |cons p Eu' =>
   obtain⟨a,b⟩:=p;simp only[List.map_cons,List.cons.injEq,apP,Prod.mk.injEq]at hm;cases f with
   |zero=>rw[unF]at hu;cases hu
   |succ f'=>exact⟨el,er,dl,dr,nl,nr,E',N',O,a,b,Eu',f',S,h1,h2,h3,h4,rfl,hu,hm.1.1,hm.1.2,hm.2⟩
 ·rw[hq]at e;cases e
theorem zbM {nl nr N:List Nat}(h:(nl++nr++N).Nodup):N.Nodup/\(∀x∈nl,x∉nr)/\(∀x∈nl++nr,x∉N):=by
 have h1:=List.nodup_append.1 h;have h2:=List.nodup_append.1 h1.1;exact⟨h1.2.1,λx hx hy=>h2.2.2 x hx x hy rfl,λx hx hy=>h1.2.2 x hx x hy rfl⟩
theorem Sim.same {G:Nat->Option Nd} {L:List Nat} {hd:Nat->Nat} {k:Sb} {q:Eqn} {r:List Eqn} {f:Nat} {o:Nat ⊕ Sb}(h:Sim G L hd k (q::r) f o)(hh:hd q.l=hd q.r):∃f',msr f' r<msr f (q::r)/\Sim G L hd k r f' o:=by
 cases hq:q.d with
 |false =>
  obtain⟨el,er,dl,dr,nl,nr,E',N',O,a,b,Eu',f',S,h1,h2,h3,h4,rfl,hu,ha,hb,hm⟩:=h.uncons hq;obtain⟨n1,n2,n3⟩:=zbM S.nd;have hs:=S.same h1 h2 h3 (λx hx=>by simp[hx]) (λx hx=>by simp[hx]) n2 hh;obtain⟨g,hg,hu'⟩:=znl S.ki (ha.trans (hs.trans hb.symm)) hu;refine⟨g,by unfold msr;simp[hq];omega,E',Eu',N',O,S.sub n1 (λx hx=>by simp[hx]),h4.mono r λs hs'=>⟨hs',?_⟩,hu',hm⟩;rw[<-hs'.ap dl,<-hs'.ap dr,hs]
 |true =>
  obtain⟨E,Eu,Ns,O,S,he,hu,hm⟩:=h;rw[EntOK]at he
  obtain⟨el,er,dl,dr,nl,nr,h1,h2,h3,⟨e,-⟩|⟨-,hA,N',rfl,h4⟩⟩:=he
  ·rw[hq]at e;cases e
  ·exact⟨f,by unfold msr;simp[hq],E,Eu,N',O,S.sub (zbM S.nd).1 (λx hx=>by simp[hx]),h4,hu,hm⟩
theorem Sim.done {G:Nat->Option Nd} {L:List Nat} {hd:Nat->Nat} {k:Sb} {q:Eqn} {r:List Eqn} {f:Nat} {o:Nat ⊕ Sb}(h:Sim G L hd k (q::r) f o)(hq:q.d=true)(hne:hd q.l≠hd q.r):msr f r<msr f (q::r)/\Sim G L (hdL hd (hd q.l) (hd q.r)) k r f o:=by
 obtain⟨E,Eu,Ns,O,S,he,hu,hm⟩:=h;rw[EntOK]at he
 obtain⟨el,er,dl,dr,nl,nr,h1,h2,h3,⟨e,-⟩|⟨-,hA,N',rfl,h4⟩⟩:=he
 ·rw[hq]at e;cases e
 ·refine⟨by unfold msr;simp[hq],?_⟩
  have hk:=hA k (zh7 S.ki);obtain⟨n1,n2,n3⟩:=zbM S.nd;have hpp:Plain dl↔Plain dr:=by
   have a1:=zcg k dl;have a2:=zcg k dr;rw[hk]at a1
   exact⟨λh=>(a2.1 (a1.2 ⟨h,λm _=>S.kp m⟩)).1,λh=>(a1.1 (a2.2 ⟨h,λm _=>S.kp m⟩)).1⟩
  have S':HdS G L hd k N' O:=S.sub n1 (λx hx=>by simp[hx]);obtain⟨yl,hyl⟩:∃y,G (hd q.l)=some y:=by obtain⟨x,hx,_⟩:=h2.node;exact S.gr.hin _ _ hx
  obtain⟨yr,hyr⟩:∃y,G (hd q.r)=some y:=by obtain⟨x,hx,_⟩:=h3.node;exact S.gr.hin _ _ hx
  by_cases hp:Plain dl
  ·have hp2:=hpp.1 hp
   obtain⟨-,t1⟩:=h2.plain hp;obtain⟨-,t2⟩:=h3.plain hp2;obtain⟨d1,v1,v2,v3⟩:=S.pl _ _ (t1 []) hp;obtain⟨d2,u1,u2,u3⟩:=S.pl _ _ (t2 []) hp2;have hml:hd q.l∉N':=λhx=>S'.np _ hx _ _ _ v1 v2;have hmO:hd q.l∉O:=λhx=>by
    obtain⟨⟨nm,hc⟩,-⟩:=S.oc _ hx;exact zd5 hc _ _ _ v1 v2
   refine⟨E,Eu,N',O,S'.link (S.gr.idm _) hne hyr hml (λd hd' hpd=>?_),h4.link hmO (λ_ h=>h),hu,hm⟩;have:=v1.det v2 hd';subst this;exact⟨d2,u1,u2,by rw[<-v3,<-u3,hk]⟩
  ·have hp2:¬Plain dr:=λh=>hp (hpp.2 h)
   rw[zcz hp,zcz hp2]at S n3
   have e1:hd q.l=q.l:=S.nh _ (by simp);have e2:hd q.r=q.r:=S.nh _ (by simp);rw[e1,e2]at hne ⊢
   have hml:q.l∉N':=n3 _ (by simp);have hmO:q.l∉O:=λhx=>(S.oc _ hx).2 (by simp);rw[e2]at hyr
   exact⟨E,Eu,N',O,S'.link e2 hne hyr hml (λd hd' hpd=>absurd hpd (h2.nonP hp _ _ _ hd')),h4.link hmO (λ_ h=>h),hu,hm⟩
theorem zou {d e:Dt}(h2:kdD d≠2)(h1:kdD d≠1)(hk:kdD d=kdD e)(hl:(zaf d).length=(zaf e).length)(hn:kdD d=3->nmD d=nmD e):act d e=.push ((zaf d).zip (zaf e)):=by
 cases d with
 |fv x=>exact absurd rfl h1
 |bv x=>exact absurd rfl h1
 |mt n=>exact absurd rfl h2
 |con c l=>cases e with
  |con c' l' =>
   have:=hn rfl;simp[nmD]at this
   exact if_pos ⟨this,hl⟩
  |_=>simp[kdD]at hk
 |fn a b=>cases e with
  |fn a' b'=>rfl
  |_=>simp[kdD]at hk
 |all t=>cases e with
  |all t'=>rfl
  |_=>simp[kdD]at hk
theorem zlF {d e:Dt}(h2:kdD d≠2)(h3:kdD e≠2)(hf:¬(kdD d=kdD e/\(zaf d).length=(zaf e).length/\kdD d≠1/\(kdD d=3->nmD d=nmD e)))(hne:d≠e):act d e=.clash:=by
 cases d with
 |mt n=>exact absurd rfl h2
 |fv x=>cases e with
  |mt n=>exact absurd rfl h3
  |fv y=>exact if_neg (λh=>hne (by rw[h]))
  |_=>rfl
 |bv x=>cases e with
  |mt n=>exact absurd rfl h3
  |bv y=>exact if_neg (λh=>hne (by rw[h]))
  |_=>rfl
 |con c l=>cases e with
  |mt n=>exact absurd rfl h3
  |con c' l' =>
   refine if_neg ?_;rintro⟨h,h'⟩;exact hf ⟨rfl,h',by simp[kdD],λ_=>by simp[nmD,h]⟩
  |_=>rfl
 |fn a b=>cases e with
  |mt n=>exact absurd rfl h3
  |fn a' b'=>exact absurd ⟨rfl,rfl,by simp[kdD],λh=>by simp[kdD]at h⟩ hf
  |_=>rfl
 |all t=>cases e with
  |mt n=>exact absurd rfl h3
  |all t'=>exact absurd ⟨rfl,rfl,by simp[kdD],λh=>by simp[kdD]at h⟩ hf
  |_=>rfl
theorem HV.node {G:Nat->Option Nd} {e er:List Nat} {h:Nat} {d:Dt} {ns:List Nat}(v:HV G e er h d ns):∃x,G h=some x/\x.kd=kdD d/\x.kids.length=(zaf d).length/\(App d->x.nm=nmD d)/\(∀n,d=.mt n->x.n=n):=by
 rcases v with⟨t,_⟩|⟨-,i,nm,rfl,_,hG⟩
 ·obtain⟨x,h1,h2,h3,h4,h5,_⟩:=t.node
  exact⟨x,h1,h2,h3,h4,h5⟩
 ·exact⟨_,hG,rfl,rfl,λh=>by simp[App,kdD]at h,λn h=>by cases h⟩
theorem zaX(k:Sb) {d:Dt}(h:kdD d≠2):zaf (ap k d)=(zaf d).map (ap k)/\nmD (ap k d)=nmD d:=by
 cases d with
 |mt n=>exact absurd rfl h
 |fv x=>rw[zbm];exact⟨rfl,rfl⟩
 |bv x=>rw[zbA];exact⟨rfl,rfl⟩
 |con c l=>rw[zaZ,zbd];exact⟨rfl,rfl⟩
 |fn a b=>rw[zbf];exact⟨rfl,rfl⟩
 |all t=>rw[zaJ];exact⟨rfl,rfl⟩
theorem zgh {x y:Nd} {d e:Dt}(hx:x.kd=kdD d/\x.kids.length=(zaf d).length/\(App d->x.nm=nmD d))(hy:y.kd=kdD e/\y.kids.length=(zaf e).length/\(App e->y.nm=nmD e)):fitB x y=true↔(kdD d=kdD e/\(zaf d).length=(zaf e).length/\kdD d≠1/\(kdD d=3->nmD d=nmD e)):=by
 unfold fitB;simp only[Bool.and_eq_true,beq_iff_eq,bne_iff_ne,Bool.or_eq_true,decide_eq_true_eq,ne_eq];rw[hx.1,hy.1,hx.2.1,hy.2.1]
 constructor
 ·rintro⟨⟨⟨a,b⟩,c⟩,d'⟩
  refine⟨a,b,c,λh3=>?_⟩;rcases d' with h|h
  ·exact absurd h3 h
  ·rw[hx.2.2 (.inl h3),hy.2.2 (.inl (a▸h3))]at h;exact h
 ·rintro⟨a,b,c,d'⟩
  refine⟨⟨⟨a,b⟩,c⟩,?_⟩;by_cases h3:kdD d=3
  ·exact .inr (by rw[hx.2.2 (.inl h3),hy.2.2 (.inl (a▸h3))];exact d' h3)
  ·exact .inl h3
theorem HV.ne {G:Nat->Option Nd}(gs:GrS G) {el er:List Nat} {h h':Nat} {d:Dt} {nl nr:List Nat}(v:HV G el er h d nl)(v':HV G er er h' d nr)(hk:kdD d=1):h=h':=by
 rcases v with⟨t,b⟩|⟨-,i,nm,rfl,g,hG⟩
 ·rcases v' with⟨t',b'⟩|⟨-,i,nm,rfl,_,_⟩
  ·cases d with
   |fv x =>
    cases t with
    |fv _ _ _ h1 =>
     cases t' with
     |fv _ _ _ h2=>exact gs.vv _ _ _ h1 h2
     |app _ _ _ _ _ ha _ _ _ _=>simp[App,kdD]at ha
    |app _ _ _ _ _ ha _ _ _ _=>simp[App,kdD]at ha
   |bv i=>exact absurd rfl (b i)
   |_=>simp[kdD]at hk
  ·exact absurd rfl (b i)
 ·rcases v' with⟨t',b'⟩|⟨-,j,nm',e,g',_⟩
  ·exact absurd rfl (b' i)
  ·injection e with e
   subst e;rw[g]at g'
   injection g'
theorem Sim.clash {G:Nat->Option Nd} {L:List Nat} {hd:Nat->Nat} {k:Sb} {q:Eqn} {r:List Eqn} {f:Nat} {o:Nat ⊕ Sb}(gs:GrS G)(h:Sim G L hd k (q::r) f o)(hq:q.d=false)(hne:hd q.l≠hd q.r) {x y:Nd}(hx:G (hd q.l)=some x)(hy:G (hd q.r)=some y)
  (hk:x.kd≠2/\y.kd≠2)(hf:fitB x y=false):o=.inl 40:=by
 obtain⟨el,er,dl,dr,nl,nr,E',N',O,a,b,Eu',f',S,h1,h2,h3,h4,rfl,hu,ha,hb,hm⟩:=h.uncons hq;obtain⟨d',v1,e1,p1,n1⟩:=S.head h1.left h2 (λx hx=>by simp[hx]);obtain⟨e',v2,e2,p2,n2⟩:=S.head h1.right h3 (λx hx=>by simp[hx]);obtain⟨x',hx',x1,x2,x3,-⟩:=v1.node;obtain⟨y',hy',y1,y2,y3,-⟩:=v2.node;rw[hx]at hx';injection hx' with hx';subst hx'
 rw[hy]at hy';injection hy' with hy';subst hy'
 have k1:kdD d'≠2:=by rw[<-x1];exact hk.1
 have k2:kdD e'≠2:=by rw[<-y1];exact hk.2
 have hfi:=zgh ⟨x1,x2,x3⟩ ⟨y1,y2,y3⟩;have hact:act (ap k a) (ap k b)=.clash:=by
  rw[ha,hb,e1,e2]
  refine zlF (by rw[zbt k k1];exact k1) (by rw[zbt k k2];exact k2) ?_ ?_
  ·rw[zbt k k1,zbt k k2,(zaX k k1).1,(zaX k k2).1,(zaX k k1).2,(zaX k k2).2,List.length_map,List.length_map,<-hfi,hf]
   exact Bool.false_ne_true
  ·intro e
   by_cases k3:kdD d'=1
   ·have k4:kdD e'=1:=by have:=congrArg kdD e;rw[zbt k k1,zbt k k2]at this;rw[<-this];exact k3
    have:d'=e':=by
     cases d' <;> simp[kdD]at k3 <;> cases e' <;> simp[kdD]at k4 <;> first|(simp[zbm,zbA]at e;done)|(simpa[zbm,zbA] using e)
    subst this;exact hne (v1.ne gs v2 k3)
   ·have:fitB x y=true:=by
     rw[hfi]
     have c1:=congrArg kdD e;have c2:=congrArg (λz=>(zaf z).length) e;have c3:=congrArg nmD e;simp only[zbt k k1,zbt k k2,(zaX k k1).1,(zaX k k2).1,(zaX k k1).2,(zaX k k2).2,List.length_map]at c1 c2 c3;exact⟨c1,c2,k3,λ_=>c3⟩
    rw[hf]at this
    cases this
 rw[unF,hact]at hu
 injection hu with hu;exact hu.symm
end Go.Proofs.YtfafilmklhnngaaGreatDoor
namespace Go.Proofs.YtfafilmklhnngaaGreatDoor
open Lx Tx
set_option maxRecDepth 100000
theorem zeb(a:Nat):(l m:List (List Nat))->l.length=m.length->(List.zipWith (·++·) l m).flatten.count a=l.flatten.count a+m.flatten.count a
 |[],[],_=>rfl
 |[],_::_,h=>by simp at h
 |_::_,[],h=>by simp at h
 |x::l,y::m,h=>by
  rw[List.zipWith_cons_cons,List.flatten_cons,List.flatten_cons,List.flatten_cons,List.count_append,List.count_append,List.count_append,List.count_append,zeb a l m (by simpa using h)]
  omega
theorem zov(k:Sb)(hk:Idem k)(l m:List Dt):((l.map (ap k)).zip (m.map (ap k))).map (apP k)=(l.zip m).map (apP k):=by
 rw[List.zip_map,List.map_map]
 refine List.map_congr_left λp _=>?_;simp[apP,Prod.map,za0 hk]
theorem zc4:(l m:List Nat)->((zax l m).filter (·.d))=[]
 |[],_=>rfl
 |_::_,[]=>rfl
 |_::l,_::m=>by rw[zax,List.filter_cons_of_neg (by simp)];exact zc4 l m
theorem App.eq_of {d e:Dt}(ha:App d)(hk:kdD d=kdD e)(hl:(zaf d).length=(zaf e).length)(hn:kdD d=3->nmD d=nmD e)(s:Sb)(h:∀p∈(zaf d).zip (zaf e),Tx.ap s p.1=Tx.ap s p.2):Tx.ap s d=Tx.ap s e:=by
 have he:App e:=by unfold App at ha ⊢;rw[<-hk];exact ha
 obtain⟨a1,a2,a3,a4⟩:=ha.ap s;obtain⟨b1,b2,b3,b4⟩:=he.ap s;refine App.ext a1 (a2.trans (hk.trans b2.symm)) ?_ ?_
 ·rw[a3,b3]
  rcases ha with h3|h4
  ·exact hn h3
  ·have h5:kdD e=4:=by rw[<-hk];exact h4
   cases d <;> simp[kdD]at h4
   cases e <;> simp[kdD]at h5
   rfl
 ·rw[a4,b4]
  refine List.ext_getElem (by simpa using hl) λi i1 i2=>?_;rw[List.getElem_map,List.getElem_map]
  simp only[List.length_map]at i1 i2;exact h ((zaf d)[i],(zaf e)[i]) (List.mem_iff_getElem.2 ⟨i,by rw[List.length_zip];omega,by rw[List.getElem_zip]⟩)
theorem Sim.push {G:Nat->Option Nd} {L:List Nat} {hd:Nat->Nat} {k:Sb} {q:Eqn} {r:List Eqn} {f:Nat} {o:Nat ⊕ Sb}(h:Sim G L hd k (q::r) f o)(hq:q.d=false) {x y:Nd}(hx:G (hd q.l)=some x)(hy:G (hd q.r)=some y)
  (hk:x.kd≠2/\y.kd≠2/\x.kd≠5)(hf:fitB x y=true):∃f',msr f' (zax x.kids y.kids++⟨hd q.l,hd q.r,true⟩::r)<msr f (q::r)/\Sim G L hd k (zax x.kids y.kids++⟨hd q.l,hd q.r,true⟩::r) f' o:=by
 obtain⟨el,er,dl,dr,nl,nr,E',N',O,a,b,Eu',f',S,h1,h2,h3,h4,rfl,hu,ha,hb,hm⟩:=h.uncons hq;obtain⟨d',v1,e1,p1,n1⟩:=S.head h1.left h2 (λx hx=>by simp[hx]);obtain⟨e',v2,e2,p2,n2⟩:=S.head h1.right h3 (λx hx=>by simp[hx]);obtain⟨x',hx',x1,x2,x3,-⟩:=v1.node;obtain⟨y',hy',y1,y2,y3,-⟩:=v2.node;rw[hx]at hx';injection hx' with hx';subst hx'
 rw[hy]at hy';injection hy' with hy';subst hy'
 obtain⟨c1,c2,c3,c4⟩:=(zgh ⟨x1,x2,x3⟩ ⟨y1,y2,y3⟩).1 hf;have k1:kdD d'≠2:=by rw[<-x1];exact hk.1
 have k2:kdD e'≠2:=by rw[<-y1];exact hk.2.1
 have k5:kdD d'≠5:=by rw[<-x1];exact hk.2.2
 have ha':App d':=by cases d' <;> simp[App,kdD]at k1 k5 c3 ⊢
 have hb':App e':=by unfold App at ha' ⊢;rw[<-c1];exact ha'
 have hact:act (ap k a) (ap k b)=.push ((zaf (ap k d')).zip (zaf (ap k e'))):=by
  rw[ha,hb,e1,e2]
  refine zou (by rw[zbt k k1];exact k1) (by rw[zbt k k1];exact c3) (by rw[zbt k k1,zbt k k2];exact c1) (by rw[(zaX k k1).1,(zaX k k2).1,List.length_map,List.length_map];exact c2) (λh3=>?_);rw[zbt k k1]at h3
  rw[(zaX k k1).2,(zaX k k2).2]
  exact c4 h3
 rw[unF,hact]at hu
 replace hu:unF f' ((zaf (ap k d')).zip (zaf (ap k e'))++Eu') k=some o:=hu;rw[(zaX k k1).1,(zaX k k2).1]at hu
 obtain⟨t1,b1⟩:Tr G el (hd q.l) d' nl/\∀i,d'≠.bv i:=by
  rcases v1 with h|⟨-,i,nm,e,_⟩
  ·exact h
  ·exact absurd e (ha'.not_bv i)
 obtain⟨t2,b2⟩:Tr G er (hd q.r) e' nr/\∀i,e'≠.bv i:=by
  rcases v2 with h|⟨-,i,nm,e,_⟩
  ·exact h
  ·exact absurd e (hb'.not_bv i)
 have T1:=t1;have T2:=t2;cases t1 with
 |fv=>simp[App,kdD]at ha'
 |bv=>simp[App,kdD]at ha'
 |mt=>simp[App,kdD]at ha'
 |all=>simp[App,kdD]at ha'
 |app _ _ _ ps nss _ g1 l1 l2 kk1 =>
 cases t2 with
 |fv=>simp[App,kdD]at hb'
 |bv=>simp[App,kdD]at hb'
 |mt=>simp[App,kdD]at hb'
 |all=>simp[App,kdD]at hb'
 |app _ _ _ qs mss _ g2 m1 m2 kk2 =>
 rw[g1]at hx;injection hx with hx;subst hx
 rw[g2]at hy;injection hy with hy;subst hy
 have hnn:∀z,((List.zipWith (·++·) nss mss).flatten++(pn d' (hd q.l)++pn e' (hd q.r)++N')).count z=(pn d' (hd q.l)++nss.flatten++(pn e' (hd q.r)++mss.flatten)++N').count z:=by
  intro z;simp only[List.count_append,zeb z nss mss (by omega)];omega
 have hperm:((List.zipWith (·++·) nss mss).flatten++(pn d' (hd q.l)++pn e' (hd q.r)++N')).Perm (pn d' (hd q.l)++nss.flatten++(pn e' (hd q.r)++mss.flatten)++N'):=List.perm_iff_count.2 hnn;refine⟨f',?_,(zaf d').zip (zaf e')++E',((zaf d').map (ap k)).zip ((zaf e').map (ap k))++Eu',_,O,S.sub (hperm.nodup_iff.2 S.nd) (λz hz=>hperm.mem_iff.1 hz),?_,hu,?_⟩
 ·unfold msr
  rw[List.filter_append,zc4,List.nil_append,List.filter_cons_of_pos rfl,List.filter_cons_of_neg (by simp[hq])]
  simp;omega
 ·refine EntOK.put ps qs el er (zaf d') (zaf e') nss mss h1 l1 m1 (by omega) l2 m2 kk1 kk2 ?_
  rw[EntOK]
  refine⟨el,er,d',e',_,_,h1,T1,T2,.inr ⟨rfl,λs hs=>App.eq_of ha' c1 c2 c4 s hs.2,N',rfl,h4.mono r λs hs=>⟨hs.1,?_⟩⟩⟩;rw[<-hs.1.ap dl,<-hs.1.ap dr,e1,e2,hs.1.ap,hs.1.ap]
  exact App.eq_of ha' c1 c2 c4 s hs.2
 ·rw[List.map_append,List.map_append,hm,zov k S.ki]
theorem Sim.open_ {G:Nat->Option Nd} {L:List Nat} {hd:Nat->Nat} {k:Sb} {q:Eqn} {r:List Eqn} {f:Nat} {o:Nat ⊕ Sb}(h:Sim G L hd k (q::r) f o)(hq:q.d=false) {x y:Nd}(hx:G (hd q.l)=some x)(hy:G (hd q.r)=some y)
  (hk:x.kd=5)(hf:fitB x y=true):∃lc rc xl yr,x.con=some lc/\G lc=some xl/\hd lc=lc/\y.con=some rc/\G rc=some yr/\hd rc=rc/\lc≠rc/\∃f',msr f' (zax x.kids y.kids++⟨hd q.l,hd q.r,true⟩::r)<msr f (q::r)/\Sim G L (hdL hd lc rc) k (zax x.kids y.kids++⟨hd q.l,hd q.r,true⟩::r) f' o:=by
 obtain⟨el,er,dl,dr,nl,nr,E',N',O,a,b,Eu',f',S,h1,h2,h3,h4,rfl,hu,ha,hb,hm⟩:=h.uncons hq;obtain⟨d',v1,e1,p1,n1⟩:=S.head h1.left h2 (λx hx=>by simp[hx]);obtain⟨e',v2,e2,p2,n2⟩:=S.head h1.right h3 (λx hx=>by simp[hx]);obtain⟨x',hx',x1,x2,x3,-⟩:=v1.node;obtain⟨y',hy',y1,y2,y3,-⟩:=v2.node;rw[hx]at hx';injection hx' with hx';subst hx'
 rw[hy]at hy';injection hy' with hy';subst hy'
 obtain⟨c1,c2,c3,c4⟩:=(zgh ⟨x1,x2,x3⟩ ⟨y1,y2,y3⟩).1 hf;have k5:kdD d'=5:=by rw[<-x1];exact hk
 obtain⟨tl,rfl⟩:∃t,d'=.all t:=by cases d' <;> simp[kdD]at k5;exact⟨_,rfl⟩
 obtain⟨tr,rfl⟩:∃t,e'=.all t:=by cases e' <;> simp[kdD]at c1;exact⟨_,rfl⟩
 have hpl:¬Plain dl:=λh=>zaE _ (p1 h);have hpr:¬Plain dr:=λh=>zaE _ (p2 h);obtain⟨rfl,f1⟩:=n1 hpl;obtain⟨rfl,f2⟩:=n2 hpr;have f1:=f1 (by simp);have f2:=f2 (by simp);rw[f1]at hx v1 ⊢
 rw[f2]at hy v2 ⊢
 clear e1 e2 p1 p2 n1 n2 v1 v2;cases h2 with
 |app _ _ _ _ _ ha _ _ _ _=>simp[App,kdD]at ha
 |all _ _ nx _ ql lc nsl g1 cl T1 =>
 cases h3 with
 |app _ _ _ _ _ ha _ _ _ _=>simp[App,kdD]at ha
 |all _ _ ny _ qr rc nsr g2 cr T2 =>
 rw[g1]at hx;injection hx with hx;subst hx
 rw[g2]at hy;injection hy with hy;subst hy
 have hact:act (ap k a) (ap k b)=.push [(ap k tl,ap k tr)]:=by rw[ha,hb,zaJ,zaJ];rfl
 rw[unF,hact]at hu
 replace hu:unF f' ((ap k tl,ap k tr)::Eu') k=some o:=hu;have hcnt:∀z,((nsl++nsr)++([q.l]++[q.r]++N')).count z+([lc]++[rc]).count z<=1:=by
  intro z;have:=(List.nodup_iff_count.1 S.nd) z;have e1:q.l::lc::nsl=[q.l]++[lc]++nsl:=rfl;have e2:q.r::rc::nsr=[q.r]++[rc]++nsr:=rfl;rw[e1,e2]at this
  simp only[List.count_append]at this ⊢;omega
 have hnd:((nsl++nsr)++([q.l]++[q.r]++N')).Nodup:=List.nodup_iff_count.2 λz=>by have:=hcnt z;omega
 have hlN:lc∉(nsl++nsr)++([q.l]++[q.r]++N'):=λh=>by
  have h1:=List.count_pos_iff.2 h;have h2:=hcnt lc;have h3:0<([lc]++[rc]).count lc:=List.count_pos_iff.2 (by simp);omega
 have hrN:rc∉(nsl++nsr)++([q.l]++[q.r]++N'):=λh=>by
  have h1:=List.count_pos_iff.2 h;have h2:=hcnt rc;have h3:0<([lc]++[rc]).count rc:=List.count_pos_iff.2 (by simp);omega
 have hlr:lc≠rc:=λe=>by
  have h2:=hcnt lc;subst e;have h3:([lc]++[lc]).count lc=2:=by simp
  omega
 have hml:lc∈q.l::lc::nsl++(q.r::rc::nsr)++N':=by simp
 have hmr:rc∈q.l::lc::nsl++(q.r::rc::nsr)++N':=by simp
 have hlO:lc∉O:=λh=>(S.oc _ h).2 hml;have hrO:rc∉O:=λh=>(S.oc _ h).2 hmr;have el1:=S.nh lc hml;have er1:=S.nh rc hmr;obtain⟨nml,gl⟩:=cl;obtain⟨nmr,gr⟩:=cr;have S1:HdS G L hd k ((nsl++nsr)++([q.l]++[q.r]++N')) O:=S.sub hnd (λz hz=>by
  have:=List.count_pos_iff.2 hz;refine List.count_pos_iff.1 ?_;have e1:q.l::lc::nsl=[q.l]++[lc]++nsl:=rfl;have e2:q.r::rc::nsr=[q.r]++[rc]++nsr:=rfl;rw[e1,e2]
  simp only[List.count_append]at this ⊢;omega)
 have S2:HdS G L (hdL hd lc rc) k ((nsl++nsr)++([q.l]++[q.r]++N')) O:=S1.link er1 hlr gr hlN (λd h hp=>absurd hp (zd5 gl _ _ _ h));have S3:HdS G L (hdL hd lc rc) k ((nsl++nsr)++([q.l]++[q.r]++N')) (lc::rc::O) :=
  ⟨S2.gr,S2.pl,S2.un,S2.nd,S2.nh,S2.np,λc hc=>by
   rcases List.mem_cons.1 hc with e|hc
   ·rw[e];exact⟨⟨nml,gl⟩,hlN⟩
   ·rcases List.mem_cons.1 hc with e|hc
    ·rw[e];exact⟨⟨nmr,gr⟩,hrN⟩
    ·exact S2.oc c hc,S2.ki,S2.kp⟩
 have hO:∀c∈O,c∈lc::rc::O:=λc hc=>by simp[hc]
 have he0:=h1.link (t:=rc) hlO hO;have he:EnvOK (hdL hd lc rc) (lc::rc::O) (lc::el) (rc::er) :=
  ⟨by simp[h1.len],List.nodup_cons.2 ⟨λh=>hrO (h1.ro _ h),h1.nd⟩,λc hc=>by
   rcases List.mem_cons.1 hc with e|hc
   ·simp[e]
   ·exact he0.lo c hc,λc hc=>by
   rcases List.mem_cons.1 hc with e|hc
   ·simp[e]
   ·exact he0.ro c hc,λi a b h h'=>by
   cases i with
   |zero =>
    simp at h h';subst h h';exact⟨zcN el1,by rw[zbs (by rw[er1];exact Ne.symm hlr)];exact er1⟩
   |succ i=>exact he0.lk i a b (by simpa using h) (by simpa using h')⟩
 refine⟨lc,rc,_,_,rfl,gl,el1,rfl,gr,er1,hlr,f',?_,(tl,tr)::E',(ap k tl,ap k tr)::Eu',_,_,S3,?_,hu,?_⟩
 ·unfold msr
  rw[List.filter_append,zc4,List.nil_append,List.filter_cons_of_pos rfl,List.filter_cons_of_neg (by simp[hq])]
  simp;omega
 ·show EntOK G _ _ _ (⟨ql,qr,false⟩::⟨q.l,q.r,true⟩::r) _ _
  rw[EntOK]
  refine⟨lc::el,rc::er,tl,tr,nsl,nsr,he,T1,T2,.inl ⟨rfl,E',_,rfl,rfl,?_⟩⟩;rw[EntOK]
  refine⟨el,er,.all tl,.all tr,_,_,he0,.all _ _ _ _ _ _ _ g1 ⟨nml,gl⟩ T1,.all _ _ _ _ _ _ _ g2 ⟨nmr,gr⟩ T2,.inr ⟨rfl,λs hs=>by rw[zaJ,zaJ,hs.2],N',by rw[zcz hpl,zcz hpr],?_⟩⟩;exact(h4.link hlO hO).mono r λs hs=>⟨hs.1,by rw[zaJ,zaJ,hs.2]⟩
 ·rw[List.map_cons,List.map_cons,hm]
  congr 1
  simp[apP,za0 S.ki]
end Go.Proofs.YtfafilmklhnngaaGreatDoor
namespace Go.Proofs.YtfafilmklhnngaaGreatDoor
open Lx Tx
set_option maxRecDepth 100000
inductive Wi:Dt->Dt->Prop
 |refl (d:Dt):Wi d d
 |kid (d u e:Dt):u∈zaf d->Wi u e->Wi d e
theorem Wi.tail {d u e:Dt}(h:Wi d u)(he:e∈zaf u):Wi d e:=by
 induction h with
 |refl d=>exact .kid d e e he (.refl e)
 |kid d u' _ hu _ ih=>exact .kid d u' e hu (ih he)
theorem Wi.occ(n:Nat)(d:Dt):MtOcc n d↔Wi d (.mt n):=by
 constructor
 ·induction d using Dt.ind with
  |hf x=>intro h;rw[MtOcc]at h;exact h.elim
  |hb i=>intro h;rw[MtOcc]at h;exact h.elim
  |hm m=>intro h;rw[MtOcc]at h;rw[h];exact .refl _
  |hc c l ih =>
   intro h;rw[MtOcc,zaC]at h
   obtain⟨u,hu,h⟩:=h;exact .kid _ u _ hu (ih u hu h)
  |hn a b iha ihb =>
   intro h;rw[MtOcc]at h
   rcases h with h|h
   ·exact .kid _ a _ (by simp[zaf]) (iha h)
   ·exact .kid _ b _ (by simp[zaf]) (ihb h)
  |ha t ih=>intro h;rw[MtOcc]at h;exact .kid _ t _ (by simp[zaf]) (ih h)
 ·intro h
  generalize he:Dt.mt n=e at h;induction h with
  |refl d=>subst he;rw[MtOcc]
  |kid d u e hu _ ih =>
   have:=ih he;cases d with
   |con c l=>rw[MtOcc,zaC];exact⟨u,hu,this⟩
   |fn a b =>
    simp[zaf]at hu
    rw[MtOcc]
    rcases hu with rfl|rfl
    ·exact .inl this
    ·exact .inr this
   |all t=>simp[zaf]at hu;subst hu;rw[MtOcc];exact this
   |_=>cases hu
theorem Wi.poly(d:Dt):polyD d=true↔∃t,Wi d (.all t):=by
 constructor
 ·induction d using Dt.ind with
  |hf x=>intro h;rw[polyD]at h <;> simp at *
  |hb i=>intro h;rw[polyD]at h <;> simp at *
  |hm m=>intro h;rw[polyD]at h <;> simp at *
  |hc c l ih =>
   intro h;rw[polyD,zb9,List.any_eq_true]at h
   obtain⟨u,hu,h⟩:=h;obtain⟨t,ht⟩:=ih u hu h;exact⟨t,.kid _ u _ hu ht⟩
  |hn a b iha ihb =>
   intro h;rw[polyD,Bool.or_eq_true]at h
   rcases h with h|h
   ·obtain⟨t,ht⟩:=iha h;exact⟨t,.kid _ a _ (by simp[zaf]) ht⟩
   ·obtain⟨t,ht⟩:=ihb h;exact⟨t,.kid _ b _ (by simp[zaf]) ht⟩
  |ha t ih=>intro _;exact⟨t,.refl _⟩
 ·rintro⟨t,h⟩
  generalize he:Dt.all t=e at h;induction h with
  |refl d=>subst he;rw[polyD]
  |kid d u e hu _ ih =>
   have:=ih he;cases d with
   |con c l=>rw[polyD,zb9,List.any_eq_true];exact⟨u,hu,this⟩
   |fn a b =>
    simp[zaf]at hu
    rw[polyD,Bool.or_eq_true]
    rcases hu with rfl|rfl
    ·exact .inl this
    ·exact .inr this
   |all t=>rw[polyD]
   |_=>cases hu
theorem Wi.bv(d:Dt):bvD d=true↔∃i,Wi d (.bv i):=by
 constructor
 ·induction d using Dt.ind with
  |hf x=>intro h;rw[bvD]at h <;> simp at *
  |hb i=>intro _;exact⟨i,.refl _⟩
  |hm m=>intro h;rw[bvD]at h <;> simp at *
  |hc c l ih =>
   intro h;rw[bvD,zd2,List.any_eq_true]at h
   obtain⟨u,hu,h⟩:=h;obtain⟨t,ht⟩:=ih u hu h;exact⟨t,.kid _ u _ hu ht⟩
  |hn a b iha ihb =>
   intro h;rw[bvD,Bool.or_eq_true]at h
   rcases h with h|h
   ·obtain⟨t,ht⟩:=iha h;exact⟨t,.kid _ a _ (by simp[zaf]) ht⟩
   ·obtain⟨t,ht⟩:=ihb h;exact⟨t,.kid _ b _ (by simp[zaf]) ht⟩
  |ha t ih =>
   intro h;rw[bvD]at h
   obtain⟨i,hi⟩:=ih h;exact⟨i,.kid _ t _ (by simp[zaf]) hi⟩
 ·rintro⟨i,h⟩
  generalize he:Dt.bv i=e at h;induction h with
  |refl d=>subst he;rw[bvD]
  |kid d u e hu _ ih =>
   have:=ih he;cases d with
   |con c l=>rw[bvD,zd2,List.any_eq_true];exact⟨u,hu,this⟩
   |fn a b =>
    simp[zaf]at hu
    rw[bvD,Bool.or_eq_true]
    rcases hu with rfl|rfl
    ·exact .inl this
    ·exact .inr this
   |all t=>simp[zaf]at hu;subst hu;rw[bvD];exact this
   |_=>cases hu
theorem Rch.cons {G:Nat->Option Nd} {hd:Nat->Nat} {p c q:Nat} {x:Nd}(hx:G p=some x)(hc:c∈x.kids)(h:Rch G hd (hd c) q):Rch G hd p q:=by
 generalize hr:hd c=r at h;induction h with
 |refl=>rw[<-hr];exact .step p p c x (.refl p) hx hc
 |step q k y _ hy hk ih=>exact .step p q k y ih hy hk
def GV(G:Nat->Option Nd)(hd:Nat->Nat)(k:Sb)(q:Nat)(D:Dt):Prop :=
 (∃env d ns,Tr G env q d ns/\(∀i,d≠.bv i)/\(∀x∈ns,hd x=x)/\(∀c∈env,∃nm,G (hd c)=some ⟨1,nm,0,[],none,true⟩)/\D=ap k d)\/((∃i,D=.bv i)/\∃nm,G q=some ⟨1,nm,0,[],none,true⟩)
section
variable {G:Nat->Option Nd} {L:List Nat} {hd:Nat->Nat} {k:Sb} {Ns O:List Nat}
theorem HdS.gv(S:HdS G L hd k Ns O) {env:List Nat} {p:Nat} {d:Dt} {ns:List Nat}(h:Tr G env p d ns)(hn:∀x∈ns,hd x=x)(he:∀c∈env,∃nm,G (hd c)=some ⟨1,nm,0,[],none,true⟩):GV G hd k (hd p) (ap k d):=by
 by_cases hp:Plain d
 ·obtain⟨-,hpe⟩:=h.plain hp
  obtain⟨d',h1,h2,h3⟩:=S.pl p d (hpe []) hp;exact .inl ⟨[],d',[],h1,λi e=>zaH i (e▸h2),(λx hx=>by cases hx),(λx hx=>by cases hx),h3⟩
 ·by_cases hb:∃i,d=.bv i
  ·obtain⟨i,rfl⟩:=hb
   cases h with
   |bv _ _ nm _ hG hi=>exact .inr ⟨⟨i,zbA k i⟩,he p (List.mem_of_getElem? (zgf p env i hi))⟩
   |app _ _ _ _ _ ha _ _ _ _=>simp[App,kdD]at ha
  ·have hb:∀i,d≠.bv i:=λi e=>hb ⟨i,e⟩
   rw[hn p (h.self_mem hp hb)]
   exact .inl ⟨env,d,ns,h,hb,hn,he,rfl⟩
theorem HdS.gv_kids(S:HdS G L hd k Ns O) {q:Nat} {D:Dt}(h:GV G hd k q D)(hq:hd q=q) {x:Nd}(hx:G q=some x):(∀c∈x.kids,∃u∈zaf D,GV G hd k (hd c) u)/\(∀u∈zaf D,∃c∈x.kids,GV G hd k (hd c) u):=by
 rcases h with⟨env,d,ns,ht,hb,hn,he,rfl⟩|⟨⟨i,rfl⟩,nm,hG⟩
 ·cases ht with
  |fv _ _ y hy =>
   rw[hy]at hx;injection hx with hx;subst hx
   rw[zbm]
   exact⟨(λc hc=>by cases hc),(λu hu=>by cases hu)⟩
  |bv _ _ _ i _ _=>exact absurd rfl (hb i)
  |mt _ _ n hy =>
   rw[hy]at hx;injection hx with hx;subst hx
   rw[zaw,S.un q n hy hq]
   exact⟨(λc hc=>by cases hc),(λu hu=>by cases hu)⟩
  |app _ _ _ ps nss ha hy h1 h2 h3 =>
   rw[hy]at hx;injection hx with hx;subst hx
   rw[(ha.ap k).2.2.2]
   have key:∀i (i1:i<ps.length) (i2:i<(zaf d).length),GV G hd k (hd ps[i]) (ap k (zaf d)[i]):=λi i1 i2=>by
    refine S.gv (h3 i _ _ _ (List.getElem?_eq_getElem i1) (List.getElem?_eq_getElem i2) (List.getElem?_eq_getElem (show i<nss.length by omega))) (λx hx=>hn x (List.mem_append_right _ (List.mem_flatten.2 ⟨_,List.getElem_mem _,hx⟩))) he
   constructor
   ·intro c hc
    obtain⟨i,hi,rfl⟩:=List.mem_iff_getElem.1 (show c∈ps from hc);exact⟨_,List.mem_map.2 ⟨_,List.getElem_mem (show i<(zaf d).length by omega),rfl⟩,key i hi (by omega)⟩
   ·intro u hu
    obtain⟨u,hu',rfl⟩:=List.mem_map.1 hu;obtain⟨i,hi,rfl⟩:=List.mem_iff_getElem.1 hu';exact⟨_,List.getElem_mem (show i<ps.length by omega),key i (by omega) hi⟩
  |all _ _ y t qq c ns hy hc ht =>
   rw[hy]at hx;injection hx with hx;subst hx
   rw[zaJ]
   have key:GV G hd k (hd qq) (ap k t):=S.gv ht (λx hx=>hn x (by simp[hx])) (λz hz=>by
    rcases List.mem_cons.1 hz with e|hz
    ·obtain⟨nm,hc⟩:=hc
     rw[e,hn c (by simp)]
     exact⟨nm,hc⟩
    ·exact he z hz)
   exact⟨λz hz=>by rw[List.mem_singleton.1 hz];exact⟨_,by simp[zaf],key⟩,λu hu=>by simp[zaf]at hu;subst hu;exact⟨qq,by simp,key⟩⟩
 ·rw[hG]at hx;injection hx with hx;subst hx
  exact⟨(λc hc=>by cases hc),(λu hu=>by cases hu)⟩
theorem HdS.rch_to(S:HdS G L hd k Ns O) {p q:Nat} {D:Dt}(hp:GV G hd k p D)(hh:hd p=p)(h:Rch G hd p q):hd q=q/\∃E,Wi D E/\GV G hd k q E:=by
 induction h with
 |refl=>exact⟨hh,D,.refl D,hp⟩
 |step q c x _ hx hc ih =>
  obtain⟨h1,E,h2,h3⟩:=ih;obtain⟨u,hu,hg⟩:=(S.gv_kids h3 h1 hx).1 c hc;exact⟨S.gr.idm _,u,h2.tail hu,hg⟩
theorem HdS.rch_of(S:HdS G L hd k Ns O) {D E:Dt}(h:Wi D E):∀ {p:Nat},GV G hd k p D->hd p=p->(∃x,G p=some x)->∃q,Rch G hd p q/\hd q=q/\GV G hd k q E:=by
 induction h with
 |refl d=>exact fun {p} hp hh _=>⟨p,.refl p,hh,hp⟩
 |kid d u e hu _ ih =>
  intro p hp hh hx;obtain⟨x,hx⟩:=hx;obtain⟨c,hc,hg⟩:=(S.gv_kids hp hh hx).2 u hu;obtain⟨y,hy⟩:=S.gr.kin p x hx c hc;obtain⟨q,h1,h2,h3⟩:=ih hg (S.gr.idm c) (S.gr.hin c y hy);exact⟨q,h1.cons hx hc,h2,h3⟩
theorem HdS.gv_mt(S:HdS G L hd k Ns O) {q n:Nat}(h:GV G hd k q (.mt n))(hq:hd q=q):G q=some ⟨2,⟨#[]⟩,n,[],none,false⟩:=by
 rcases h with⟨env,d,ns,ht,hb,hn,he,hD⟩|⟨⟨i,h⟩,_⟩
 ·cases d with
  |mt m =>
   cases ht with
   |mt _ _ _ hy =>
    rw[zaw,S.un q m hy hq]at hD
    injection hD with hD;rw[hD]
    exact hy
   |app _ _ _ _ _ ha _ _ _ _=>simp[App,kdD]at ha
  |fv x=>rw[zbm]at hD;cases hD
  |bv x=>rw[zbA]at hD;cases hD
  |con c l=>rw[zaZ]at hD;cases hD
  |fn a b=>rw[zbf]at hD;cases hD
  |all t=>rw[zaJ]at hD;cases hD
 ·cases h
theorem HdS.mt_gv(S:HdS G L hd k Ns O) {q n:Nat} {D:Dt}(h:GV G hd k q D)(hq:hd q=q)(hG:G q=some ⟨2,⟨#[]⟩,n,[],none,false⟩):D=.mt n:=by
 rcases h with⟨env,d,ns,ht,hb,hn,he,rfl⟩|⟨_,nm,h⟩
 ·have:d=.mt n:=(Tr.mt [] q n hG).det (zaM n) ht
  rw[this,zaw,S.un q n hG hq]
 ·rw[hG]at h;simp at h
theorem zpa {q:Nat} {D:Dt}(h:GV G hd k q D):(∃t,D=.all t)->∃x,G q=some x/\x.kd=5\/∃n,G q=some ⟨2,⟨#[]⟩,n,[],none,false⟩:=by
 rintro⟨t,hD⟩;rcases h with⟨env,d,ns,ht,hb,hn,he,hD'⟩|⟨⟨i,h⟩,_⟩
 ·obtain⟨x,h1,h2,_,_,h5,_⟩:=ht.node
  by_cases e:kdD d=2
  ·obtain⟨n,rfl⟩:=zdE e
   cases ht with
   |mt _ _ _ hy=>exact⟨x,.inr ⟨n,hy⟩⟩
   |app _ _ _ _ _ ha _ _ _ _=>simp[App,kdD]at ha
  ·refine⟨x,.inl ⟨h1,?_⟩⟩
   rw[h2,<-zbt k e,<-hD',hD]
   rfl
 ·rw[hD]at h;cases h
theorem zpb {q:Nat} {D:Dt}(h:GV G hd k q D) {x:Nd}(hx:G q=some x)(h5:x.kd=5):∃t,D=.all t:=by
 rcases h with⟨env,d,ns,ht,hb,hn,he,rfl⟩|⟨_,nm,h⟩
 ·obtain⟨y,h1,h2,_⟩:=ht.node
  rw[hx]at h1;injection h1 with h1;subst h1
  have:kdD d=5:=by rw[<-h2];exact h5
  cases d <;> simp[kdD]at this
  exact⟨_,zaJ _ _⟩
 ·rw[hx]at h;injection h with h;subst h;simp at h5
theorem zoV {q:Nat} {D:Dt}(h:GV G hd k q D) {x:Nd}(hx:G q=some x)(hn:x.new=true):∃i,D=.bv i:=by
 rcases h with⟨env,d,ns,ht,hb,_,he,rfl⟩|⟨h,_⟩
 ·obtain⟨y,h1,_,_,_,_,h6⟩:=ht.node
  rw[hx]at h1;injection h1 with h1;subst h1
  obtain⟨i,hi⟩:=h6.1 hn;exact absurd hi (hb i)
 ·exact h
theorem HdS.gv_new(S:HdS G L hd k Ns O) {q i:Nat}(h:GV G hd k q (.bv i))(hq:hd q=q):∃nm,G q=some ⟨1,nm,0,[],none,true⟩:=by
 rcases h with⟨env,d,ns,ht,hb,hn,he,hD⟩|⟨_,h⟩
 ·exfalso
  cases d with
  |mt m =>
   cases ht with
   |mt _ _ _ hy=>rw[zaw,S.un q m hy hq]at hD;cases hD
   |app _ _ _ _ _ ha _ _ _ _=>simp[App,kdD]at ha
  |fv x=>rw[zbm]at hD;cases hD
  |bv x=>exact hb x rfl
  |con c l=>rw[zaZ]at hD;cases hD
  |fn a b=>rw[zbf]at hD;cases hD
  |all t=>rw[zaJ]at hD;cases hD
 ·exact h
theorem HdS.ag(S:HdS G L hd k Ns O)(gs:GrS G) {m t n:Nat} {D:Dt}(hm:G m=some ⟨2,⟨#[]⟩,n,[],none,false⟩)(hg:GV G hd k t D)(ht:hd t=t)(hx:∃x,G t=some x) {r:Int}(h:AgR G hd t m r):r=(bad n D:Nat):=by
 have e1:n∈zaD D []↔Rch G hd (hd t) m:=by
  rw[ht,zaU]
  simp only[List.not_mem_nil,false_or];rw[Wi.occ]
  constructor
  ·intro h
   obtain⟨q,h1,h2,h3⟩:=S.rch_of h hg ht hx;rw[<-gs.uu _ _ _ (S.gv_mt h3 h2) hm]
   exact h1
  ·intro h
   obtain⟨h1,E,h2,h3⟩:=S.rch_to hg ht h;rw[S.mt_gv h3 h1 hm]at h2
   exact h2
 have e2:polyD D=true↔zfK G hd t:=by
  rw[Wi.poly]
  unfold zfK;rw[ht]
  constructor
  ·rintro⟨u,h⟩
   obtain⟨q,h1,h2,h3⟩:=S.rch_of h hg ht hx;obtain⟨x,h4|⟨j,h4⟩⟩:=zpa h3 ⟨u,rfl⟩
   ·exact⟨q,x,h1,h4⟩
   ·have:=S.mt_gv h3 h2 h4
    cases this
  ·rintro⟨q,x,h1,h2,h3⟩
   obtain⟨h4,E,h5,h6⟩:=S.rch_to hg ht h1;obtain⟨u,rfl⟩:=zpb h6 h2 h3;exact⟨u,h5⟩
 have e3:bvD D=true↔NewR G hd t:=by
  rw[Wi.bv]
  unfold NewR;rw[ht]
  constructor
  ·rintro⟨i,h⟩
   obtain⟨q,h1,h2,h3⟩:=S.rch_of h hg ht hx;obtain⟨nm,h4⟩:=S.gv_new h3 h2;exact⟨q,_,h1,h4,rfl⟩
  ·rintro⟨q,x,h1,h2,h3⟩
   obtain⟨h4,E,h5,h6⟩:=S.rch_to hg ht h1;obtain⟨i,rfl⟩:=zoV h6 h2 h3;exact⟨i,h5⟩
 unfold bad;rcases h with⟨rfl,h⟩|⟨h1,⟨rfl,h⟩|⟨h2,⟨rfl,h⟩|⟨rfl,h⟩⟩⟩
 ·rw[if_pos (e1.2 h)];rfl
 ·rw[if_neg (λe=>h1 (e1.1 e)),if_pos (e2.2 h)];rfl
 ·rw[if_neg (λe=>h1 (e1.1 e)),if_neg (λe=>h2 (e2.1 e)),if_pos (e3.2 h)];rfl
 ·rw[if_neg (λe=>h1 (e1.1 e)),if_neg (λe=>h2 (e2.1 e)),if_neg (λe=>h (e3.1 e))];rfl
end
end Go.Proofs.YtfafilmklhnngaaGreatDoor
namespace Go.Proofs.YtfafilmklhnngaaGreatDoor
open Lx Tx
set_option maxRecDepth 100000
theorem zgX(k:Sb) {d:Dt}(h:kdD d≠2)(n:Nat):ap k d≠.mt n:=λe=>by
 have:=zbt k h;rw[e]at this
 exact h this.symm
theorem zno {m:Nat} {y:Dt}(h:∀n,y≠.mt n):act (.mt m) y=.learn m y:=by
 cases y with
 |mt n=>exact absurd rfl (h n)
 |_=>rfl
theorem zlG {m:Nat} {x:Dt}(h:∀n,x≠.mt n):act x (.mt m)=.learn m x:=by
 cases x with
 |mt n=>exact absurd rfl (h n)
 |_=>rfl
theorem EnvOK.new {G:Nat->Option Nd} {L:List Nat} {hd:Nat->Nat} {k:Sb} {Ns O el er:List Nat}(h:EnvOK hd O el er)(S:HdS G L hd k Ns O):(∀c∈el,∃nm,G (hd c)=some ⟨1,nm,0,[],none,true⟩)/\(∀c∈er,∃nm,G (hd c)=some ⟨1,nm,0,[],none,true⟩):=by
 constructor
 ·intro c hc
  obtain⟨i,hi,rfl⟩:=List.mem_iff_getElem.1 hc;obtain⟨b,_,h2,h3⟩:=h.left i _ (List.getElem?_eq_getElem hi);rw[h2]
  exact(S.oc b h3).1
 ·intro c hc
  obtain⟨i,hi,rfl⟩:=List.mem_iff_getElem.1 hc;obtain⟨b,_,h2,h3⟩:=h.right i _ (List.getElem?_eq_getElem hi);rw[h2]
  exact(S.oc b h3).1
theorem HV.gv {G:Nat->Option Nd} {L:List Nat} {hd:Nat->Nat} {k:Sb} {Ns O:List Nat}(S:HdS G L hd k Ns O) {e er:List Nat} {h:Nat} {d:Dt} {ns:List Nat}(v:HV G e er h d ns)(hn:∀x∈ns,x∈Ns)(he:∀c∈e,∃nm,G (hd c)=some ⟨1,nm,0,[],none,true⟩):GV G hd k h (ap k d):=by
 rcases v with⟨t,b⟩|⟨-,i,nm,rfl,_,hG⟩
 ·exact .inl ⟨e,d,ns,t,b,λx hx=>S.nh x (hn x hx),he,rfl⟩
 ·exact .inr ⟨⟨i,zbA k i⟩,nm,hG⟩
theorem HV.mt {G:Nat->Option Nd} {e er:List Nat} {h n:Nat} {ns:List Nat}(v:HV G e er h (.mt n) ns):G h=some ⟨2,⟨#[]⟩,n,[],none,false⟩:=by
 rcases v with⟨t,b⟩|⟨-,i,nm,e,_,_⟩
 ·cases t with
  |mt _ _ _ h=>exact h
  |app _ _ _ _ _ ha _ _ _ _=>simp[App,kdD]at ha
 ·cases e
theorem HV.plain {G:Nat->Option Nd} {e er:List Nat} {h:Nat} {d:Dt} {ns:List Nat}(v:HV G e er h d ns)(hp:Plain d):Tr G [] h d []:=by
 rcases v with⟨t,b⟩|⟨-,i,nm,e,_,_⟩
 ·exact(t.plain hp).2 []
 ·rw[e]at hp;exact absurd hp (zaH i)
theorem Sim.learnt {G:Nat->Option Nd} {L:List Nat} {hd:Nat->Nat} {k:Sb} {N' nl nr O:List Nat} {dl dr a b:Dt} {E' Eu':List (Dt × Dt)} {r:List Eqn} {f' m t n:Nat} {dt:Dt} {o:Nat ⊕ Sb}(gs:GrS G)(S:HdS G L hd k (nl++nr++N') O)
  (h4:EntOK G hd O (λs=>Absorbs s k/\ap s dl=ap s dr) r E' N')(hu:unF (f'+1) ((a,b)::Eu') k=some o)(ha:ap k a=ap k dl)(hb:ap k b=ap k dr)(hm:Eu'.map (apP k)=E'.map (apP k))
  (hact:act (ap k a) (ap k b)=.learn n (ap k dt))(hG:G m=some ⟨2,⟨#[]⟩,n,[],none,false⟩)(hmm:hd m=m)(htt:hd t=t)(hmt:m≠t)(hg:GV G hd k t (ap k dt))(hx:∃y,G t=some y)(htr:Plain dt->Tr G [] t dt [])
  {e:Int} (hag:AgR G hd t m e):(e=0->∃k',(∃j u,k'=upd j u k)/\Sim G L (hdL hd m t) k' r f' o)/\(e≠0->o=.inl e.toNat):=by
 have hbad:=S.ag gs hG hg htt hx hag;rw[unF,hact]at hu
 simp only at hu;have hkn:=S.un m n hG hmm;constructor
 ·intro he
  have hb0:bad n (ap k dt)=0:=by rw[he]at hbad;omega
  rw[if_pos hb0]at hu
  obtain⟨hocc,hpl⟩:=(zbP _ _).1 hb0;have hpd:Plain dt:=((zcg k dt).1 hpl).1;have htk:ap k (ap k dt)=ap k dt:=za0 S.ki dt;obtain⟨y,hy⟩:=hx;have hlf:=zbz S.ki hact;have hmN:m∉nl++nr++N':=λh=>S.np m h _ _ _ (Tr.mt [] m n hG) (zaM n);have hmO:m∉O:=λh=>by
   obtain⟨⟨nm,h⟩,-⟩:=S.oc m h;rw[hG]at h;simp at h
  have hself:ap (upd n (ap k dt) k) dt=ap k dt:=by rw[za9,zfe _ _ _ hocc]
  refine⟨upd n (ap k dt) k,⟨n,_,rfl⟩,E',Eu',N',O,?_,?_,hu,?_⟩
  ·refine⟨S.gr.link htt hmt hy,λp d h hp=>?_,λp j h hp=>?_,(zbM S.nd).1,λx hx=>?_,λx hx=>S.np x (by simp[hx]),λc hc=>⟨(S.oc c hc).1,λh=>(S.oc c hc).2 (by simp[h])⟩,zc3 S.ki htk hocc,λj=>?_⟩
   ·obtain⟨d',h1,h2,h3⟩:=S.pl p d h hp
    by_cases e:hd p=m
    ·rw[zcN e]
     rw[e]at h1
     have:=(Tr.mt [] m n hG).det (zaM n) h1;subst this;refine⟨dt,htr hpd,hpd,?_⟩;rw[hself,za9,h3,zaw,hkn,zaw,zaW]
    ·rw[zbs e]
     exact⟨d',h1,h2,by rw[za9,za9,h3]⟩
   ·have hp':=zgg htt hp
    have hpm:p≠m:=λe=>by rw[e,zcN hmm]at hp;exact hmt hp.symm
    have hj:j≠n:=λe=>hpm (gs.uu _ _ _ h (e▸hG));show ap (fil n (ap k dt)) (k j)=.mt j;rw[S.un p j h hp',zaw,zaO _ _ _ hj]
   ·rw[zbs]
    ·exact S.nh x (by simp[hx])
    ·rw[S.nh x (by simp[hx])];exact λe=>hmN (by rw[<-e];simp[hx])
   ·show Plain (ap (fil n (ap k dt)) (k j))
    rw[zcg]
    refine⟨S.kp j,λi _=>?_⟩;by_cases hi:i=n
    ·rw[hi,zaW];exact hpl
    ·rw[zaO _ _ _ hi];exact zaM i
  ·refine(h4.link hmO (λ_ h=>h)).mono r λs hs=>?_
   obtain⟨h1,h2⟩:=zdD hs hkn;refine⟨h1,?_⟩;rw[<-h1.ap dl,<-h1.ap dr,<-ha,<-hb]
   obtain⟨(⟨g1,g2⟩|⟨g1,g2⟩),_⟩:=zcy hact
   ·rw[g1,<-g2,zaw];exact h2
   ·rw[g1,<-g2,zaw];exact h2.symm
  ·have:∀p:Dt × Dt,apP (upd n (ap k dt) k) p=(ap (fil n (ap k dt)) (apP k p).1,ap (fil n (ap k dt)) (apP k p).2):=λp=>by simp[apP,za9]
   have e:∀l:List (Dt × Dt),l.map (apP (upd n (ap k dt) k))=(l.map (apP k)).map (λp=>(ap (fil n (ap k dt)) p.1,ap (fil n (ap k dt)) p.2)):=λl=>by
    rw[List.map_map];exact List.map_congr_left λp _=>this p
   rw[e,e,hm]
 ·intro he
  have hb0:bad n (ap k dt)≠0:=λh=>he (by rw[hbad,h];rfl);rw[if_neg hb0]at hu
  injection hu with hu;rw[<-hu,hbad]
  rfl
theorem Sim.learn {G:Nat->Option Nd} {L:List Nat} {hd:Nat->Nat} {k:Sb} {q:Eqn} {r:List Eqn} {f:Nat} {o:Nat ⊕ Sb}(gs:GrS G)(h:Sim G L hd k (q::r) f o)(hq:q.d=false)(hne:hd q.l≠hd q.r) {x y:Nd}(hx:G (hd q.l)=some x)(hy:G (hd q.r)=some y)
  (hk:x.kd=2\/y.kd=2) {e:Int}(hag:AgR G hd (lrn (hd q.l) (hd q.r) x y).2 (lrn (hd q.l) (hd q.r) x y).1 e):(e=0->∃f' k',msr f' r<msr f (q::r)/\(∃j u,k'=upd j u k)/\Sim G L (hdL hd (lrn (hd q.l) (hd q.r) x y).1 (lrn (hd q.l) (hd q.r) x y).2) k' r f' o)/\(e≠0->o=.inl e.toNat):=by
 obtain⟨el,er,dl,dr,nl,nr,E',N',O,a,b,Eu',f',S,h1,h2,h3,h4,rfl,hu,ha,hb,hm⟩:=h.uncons hq;obtain⟨d',v1,e1,p1,n1⟩:=S.head h1.left h2 (λx hx=>by simp[hx]);obtain⟨e',v2,e2,p2,n2⟩:=S.head h1.right h3 (λx hx=>by simp[hx]);obtain⟨x',hx',x1,x2,x3,x4⟩:=v1.node;obtain⟨y',hy',y1,y2,y3,y4⟩:=v2.node;rw[hx]at hx';injection hx' with hx';subst hx'
 rw[hy]at hy';injection hy' with hy';subst hy'
 have g1:=v1.gv S (λx hx=>by simp[hx]) (h1.new S).1;have g2:=v2.gv S (λx hx=>by simp[hx]) (h1.new S).2;have hmu:msr f' r<msr (f'+1) (q::r):=by unfold msr;simp[hq]
 have hcase:∀m t n dt,lrn (hd q.l) (hd q.r) x y=(m,t)->act (ap k a) (ap k b)=.learn n (ap k dt)->G m=some ⟨2,⟨#[]⟩,n,[],none,false⟩->hd m=m->hd t=t->m≠t->GV G hd k t (ap k dt)->(∃y,G t=some y)->(Plain dt->Tr G [] t dt []) ->
   (e=0->∃f'' k',msr f'' r<msr (f'+1) (q::r)/\(∃j u,k'=upd j u k)/\Sim G L (hdL hd (lrn (hd q.l) (hd q.r) x y).1 (lrn (hd q.l) (hd q.r) x y).2) k' r f'' o)/\(e≠0->o=.inl e.toNat):=by
  intro m t n dt hl hact hG hmm htt hmt hg hxt htr;rw[hl]at hag ⊢
  obtain⟨c1,c2⟩:=Sim.learnt gs S h4 hu ha hb hm hact hG hmm htt hmt hg hxt htr hag;exact⟨λh0=>by obtain⟨k',c0,c⟩:=c1 h0;exact⟨f',k',hmu,c0,c⟩,c2⟩
 by_cases hxk:x.kd=2
 ·obtain⟨n,rfl⟩:=zdE (by rw[<-x1];exact hxk:kdD d'=2)
  have hGl:=v1.mt;have hkn:=S.un _ _ hGl (S.gr.idm _);have hxn:=x4 n rfl;by_cases hyk:y.kd=2
  ·obtain⟨j,rfl⟩:=zdE (by rw[<-y1];exact hyk:kdD e'=2)
   have hGr:=v2.mt;have hkj:=S.un _ _ hGr (S.gr.idm _);have hyn:=y4 j rfl;have hnj:n≠j:=λe=>hne (gs.uu _ _ _ hGl (e▸hGr));by_cases hlt:n<j
   ·refine hcase (hd q.r) (hd q.l) j (.mt n) ?_ ?_ hGr (S.gr.idm _) (S.gr.idm _) (Ne.symm hne) g1 ⟨_,hx⟩ (λh=>v1.plain h)
    ·unfold lrn;rw[if_pos (.inr ⟨hyk,by omega⟩)]
    ·rw[ha,hb,e1,e2,zaw,zaw,hkn,hkj]
     show(if n=j then _ else _)=_;rw[if_neg hnj,if_neg (by omega)]
   ·refine hcase (hd q.l) (hd q.r) n (.mt j) ?_ ?_ hGl (S.gr.idm _) (S.gr.idm _) hne g2 ⟨_,hy⟩ (λh=>v2.plain h)
    ·unfold lrn;rw[if_neg (by rintro(h|⟨_,h⟩);exact h hxk;omega)]
    ·rw[ha,hb,e1,e2,zaw,zaw,hkn,hkj]
     show(if n=j then _ else _)=_;rw[if_neg hnj,if_pos (by omega)]
  ·refine hcase (hd q.l) (hd q.r) n e' ?_ ?_ hGl (S.gr.idm _) (S.gr.idm _) hne g2 ⟨_,hy⟩ (λh=>v2.plain h)
   ·unfold lrn;rw[if_neg (by rintro(h|⟨h,_⟩);exact h hxk;exact hyk h)]
   ·rw[ha,hb,e1,e2,zaw,hkn]
    exact zno (zgX k (by rw[<-y1];exact hyk))
 ·have hyk:y.kd=2:=by rcases hk with h|h;exact absurd h hxk;exact h
  obtain⟨j,rfl⟩:=zdE (by rw[<-y1];exact hyk:kdD e'=2);have hGr:=v2.mt;have hkj:=S.un _ _ hGr (S.gr.idm _);refine hcase (hd q.r) (hd q.l) j d' ?_ ?_ hGr (S.gr.idm _) (S.gr.idm _) (Ne.symm hne) g1 ⟨_,hx⟩ (λh=>v1.plain h)
  ·unfold lrn;rw[if_pos (.inl hxk)]
  ·rw[ha,hb,e1,e2,zaw,hkj]
   exact zlG (zgX k (by rw[<-x1];exact hxk))
end Go.Proofs.YtfafilmklhnngaaGreatDoor
