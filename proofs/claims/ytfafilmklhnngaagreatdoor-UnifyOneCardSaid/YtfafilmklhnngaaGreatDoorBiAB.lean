import Derived.Test.YtfafilmklhnngaaGreatDoorBiV
import Derived.Test.YtfafilmklhnngaaGreatDoorBiY
import Derived.Deep.RegionLaw
set_option maxHeartbeats 12800000
namespace Go.Proofs.YtfafilmklhnngaaGreatDoor
open Go.RowKit Lx Tx Go.Maps Go.WideMaps Go.Shelf
set_option maxRecDepth 100000
def unitElem:Value->Option (DataW Unit × List MemPlace)
 |.agg cs=>if cs.size=0 then some (.nil,[]) else none
 |_=>none
theorem unitElem_inv {x:Value} {ps:List MemPlace}(h:unitElem x=some (.nil,ps)):x=.agg #[]:=by
 cases x with
 |agg cs =>
  by_cases h0:cs.size=0
  ·rw[Array.eq_empty_of_size_eq_zero h0]
  ·rw[unitElem,if_neg h0]at h
   cases h
 |_=>cases h
def mkSet:MK Unit where
 t:=93
 e:=153
 R:=unitElem
 enc _:=.nil
 val _:=.agg #[]
 ok _:=True
 z:=.agg #[]
 zd:=.nil
 hT:=Tryz.underlying93
 hz _:=by kernel_rfl
 hR _ _:=rfl
 hzd:=rfl
 inv _ _ _ h:=unitElem_inv h
 invz _ _ h:=unitElem_inv h
def units(l:List Name):List (Name × Unit):=l.reverse.map λx=>(x,())
theorem zmw(x:Name)(l:List Name):look x (l.map λx=>(x,()))=if x∈l then some () else none:=by
 induction l with
 |nil=>rfl
 |cons y r ih =>
  show(if y=x then some () else look x (r.map λx=>(x,())))=_;rw[ih]
  by_cases h:y=x
  ·rw[if_pos h,if_pos (by rw[h];exact List.mem_cons_self)]
  ·rw[if_neg h]
   by_cases h2:x∈r
   ·rw[if_pos h2,if_pos (List.mem_cons_of_mem _ h2)]
   ·rw[if_neg h2,if_neg (λe=>by rcases List.mem_cons.1 e with e|e;exact h e.symm;exact h2 e)]
theorem zft(x:Name)(l:List Name):look x (units l)=if x∈l then some () else none:=by
 unfold units;rw[zmw]
 simp only[List.mem_reverse]
theorem zfu(x:Name)(l:List Name):units (l++[x])=(x,())::units l:=by simp[units]
theorem zbX {w w':World} {B:Nat} {e:TypeId} {size n c:Nat} {A:Option Addr} {xs:List Value}(h:w.ownsRow B e size (.slice A n c) n xs)(hk:∀a,A=some a->w'.heap[a.block]?=w.heap[a.block]?):w'.ownsRow B e size (.slice A n c) n xs:=by
 obtain⟨h0,h⟩:=h;refine⟨h0,?_⟩;rcases h with h|⟨g,cap,cur,hv,hg,hb,h⟩
 ·exact .inl h
 ·refine .inr ⟨g,cap,cur,hv,hg,?_,h⟩
  injection hv with hv;rw[<-hb]
  exact hk _ hv
structure OnceI (b:Nat) (c:Nat) (s:List Name) (M:Nat->Prop) (w:World):Prop where
 met:Blk w (b+3) 93 #[.map (some (b+2))]
 ptr:Blk w (b+1) 158 #[.pointer (some ⟨b,0,none⟩)]
 set:MapE mkSet w (b+2) (units s)
 len:s.length<=c
 low:M b/\M (b+1)/\M (b+2)/\M (b+3)
 all:∀g,M g->g<w.heap.size
 row:∃A cp,Blk w b 95 #[.slice A s.length cp]/\w.ownsRow (b+4) 9 1 (.slice A s.length cp) s.length (strV s)/\∀a,A=some a->M a.block
theorem OnceI.inv(b:Nat):Inv (OnceI b) where
 mono c c' s M w h hc:={ h with len:=Nat.le_trans h.len hc }
 lt c s M w h:=h.all
 keep c s M w w' h hs hk :=
  {met:=h.met.same (hk _ h.low.2.2.2)
   ptr:=h.ptr.same (hk _ h.low.2.1)
   set:=h.set.keep (hk _ h.low.2.2.1)
   len:=h.len
   low:=h.low
   all:=λg hg=>Nat.lt_of_lt_of_le (h.all g hg) hs
   row:=by
    obtain⟨A,cp,h1,h2,h3⟩:=h.row;exact⟨A,cp,h1.same (hk _ h.low.1),zbX h2 (λa ha=>hk _ (h3 a ha)),h3⟩ }
theorem zmx {b c:Nat} {s:List Name} {M:Nat->Prop} {X:ByteArray} {A:Option Addr} {cp:Nat} {w w1 W w5:World} {g3 c3:Nat}(hmet:Blk w (b+3) 93 #[.map (some (b+2))])(hall:∀g,M g->g<w.heap.size)(hlow:M b/\M (b+1)/\M (b+2)/\M (b+3))(hlen:s.length<=c)(hA:∀a,A=some a->M a.block)
  (hown:w.ownsRow (b+4) 9 1 (.slice A s.length cp) s.length (strV s))(hs1:w.heap.size+1<=w1.heap.size)(hk1:∀k,k<w.heap.size->k≠b+2->w1.heap[k]?=w.heap[k]?)(hm1:MapE mkSet w1 (b+2) ((X.data.toList,())::units s))
  (hW:∀k,k<w1.heap.size->W.heap[k]?=w1.heap[k]?)(hWs:W.heap.size=w1.heap.size+1)(hCW:Chg M w W)(ho3:w5.ownsRow (b+4) 9 1 (.slice (some ⟨g3,0,none⟩) (s.length+1) c3) (s.length+1) (strV s++[.string X]))
  (hg3:W.grownBy w5 (Value.slice A s.length cp).ownBlock)(hat:(Value.slice A s.length cp).ownBlock=some g3\/g3=W.heap.size)(hb5:Blk w5 b 95 #[.slice A s.length cp])(hp5:Blk w5 (b+1) 158 #[.pointer (some ⟨b,0,none⟩)])(hlt:g3<w5.heap.size):∃M',OnceI b (c+1) (s++[X.data.toList]) M' (w5.setCell ⟨b,0,none⟩ (.slice (some ⟨g3,0,none⟩) (s.length+1) c3))/\(∀g,M' g->M g\/w.heap.size<=g)/\Chg M w (w5.setCell ⟨b,0,none⟩ (.slice (some ⟨g3,0,none⟩) (s.length+1) c3)):=by
 have hrow:∀k,some k=(Value.slice A s.length cp).ownBlock->b+4<=k/\M k:=λk hk=>by
  refine⟨(hown.lt k hk.symm).1,?_⟩;cases A with
  |none=>cases hk
  |some a=>injection hk with hk;rw[hk];exact hA a rfl
 have hg3b:b+4<=g3:=(ho3.lt g3 rfl).1;have h3:=hall _ hlow.2.2.2;have hf:∀k,k<b+4->k≠b->(w5.setCell ⟨b,0,none⟩ (.slice (some ⟨g3,0,none⟩) (s.length+1) c3)).heap[k]?=w1.heap[k]?:=λk hk hne =>
  (Below.heap_setCell w5 ⟨b,0,none⟩ _ k hne).trans ((hg3.block k (by omega) (λe=>by have:=(hrow k e).1;omega)).trans (hW k (by omega)))
 have hsz:(w5.setCell ⟨b,0,none⟩ (.slice (some ⟨g3,0,none⟩) (s.length+1) c3)).heap.size=w5.heap.size:=by simp
 have hs5:=hg3.size;refine⟨λg=>M g\/g=g3,⟨hmet.same ((hf _ (by omega) (by omega)).trans (hk1 _ (by omega) (by omega))),hp5.far (by show b+1≠b;omega) _,?_,by simp;omega,⟨.inl hlow.1,.inl hlow.2.1,.inl hlow.2.2.1,.inl hlow.2.2.2⟩,λg hg=>?_,some ⟨g3,0,none⟩,c3,?_,?_,λa ha=>by injection ha with ha;rw[<-ha];exact .inr rfl⟩,λg hg=>?_,?_⟩
 ·rw[zfu]
  exact hm1.keep (hf _ (by omega) (by omega))
 ·rw[hsz]
  rcases hg with hg|rfl
  ·have:=hall g hg;omega
  ·exact hlt
 ·have:=one_setCell (u:=.slice (some ⟨g3,0,none⟩) (s.length+1) c3) hb5
  rw[List.length_append]
  exact this
 ·rw[List.length_append,show strV (s++[X.data.toList])=strV s++[.string X] by simp[strV]]
  exact zbX ho3 (λa ha=>by injection ha with ha;rw[<-ha];exact Below.heap_setCell w5 ⟨b,0,none⟩ _ g3 (by show g3≠b;omega))
 ·rcases hg with hg|rfl
  ·exact .inl hg
  ·rcases hat with h|h
   ·exact .inl (hrow _ h.symm).2
   ·exact .inr (by omega)
 ·exact(hCW.grown hg3 (λk hk=>.inr (hrow k hk.symm).2)).setCell (p:=⟨b,0,none⟩) (.inr hlow.1) _
theorem zn0(b c:Nat)(s:List Name)(M:Nat->Prop)(X:ByteArray)(w:World)(h:OnceI b c s M w)(hX:X.size<=24)(hc:c<10000000):Calls Tryz.prog 132 #[.string X,.pointer (some ⟨b+3,0,none⟩),.pointer (some ⟨b+1,0,none⟩)] w λe w'=>e=.returned (.tuple #[])/\∃M',OnceI b (c+1) (addN X.data.toList s) M' w'/\(∀g,M' g->M g\/w.heap.size<=g)/\Chg M w w':=by
 obtain⟨hmet,hptr,hset,hlen,hlow,hall,A,cp,hbk,hown,hA⟩:=h;obtain⟨m0,-,lm⟩:=zai hmet;obtain⟨p0,-,lp⟩:=zai hptr;have hXm:X.size<=maxLen:=by unfold maxLen;omega
 have hlk0:=hset.getOk X hXm;rw[zft]at hlk0
 by_cases hin:X.data.toList∈s
 ·rw[if_pos hin]at hlk0
  replace hlk0:(Instr.lookup 93 (.map (some (b+2))) (.string X) true).run Tryz.prog w=.ok (.tuple #[.agg #[],.bool true]) w:=hlk0;have hadd:addN X.data.toList s=s:=if_pos hin;rw[hadd]
  have HOUT:Hid (OnceI b (c+1) s M (w.alloc (.cells #[] 153))):=hidE ((OnceI.inv b).mono _ _ _ _ _ ((OnceI.inv b).keep _ _ _ _ _ ⟨hmet,hptr,hset,hlen,hlow,hall,A,cp,hbk,hown,hA⟩ (by simp) (λg hg=>Below.heap_alloc _ _ _ (hall g hg))) (by omega));clear hmet hptr hset hlen hlow hall hbk hown hA hin hadd;go_enter Tryz.func132,Tryz.ntmps132
  go_wp2_with fail
  first|go_end0|refine bodyPost_ret (results_none rfl _ _ _) rfl ?_
  exact⟨rfl,M,HOUT.out,λg hg=>.inl hg,(Chg.refl M w).alloc _⟩
 ·rw[if_neg hin]at hlk0
  replace hlk0:(Instr.lookup 93 (.map (some (b+2))) (.string X) true).run Tryz.prog w=.ok (.tuple #[.agg #[],.bool false]) w:=hlk0;have hadd:addN X.data.toList s=s++[X.data.toList]:=if_neg hin;rw[hadd]
  obtain⟨i0,hi0,hz0,hz1,hz2⟩:=info_parts zhl;have HSET:=hidE (hset.keep (w':=w.alloc (.cells #[] 153)) (Below.heap_alloc _ _ _ hset.lt));have hk0:Hid (∀k,k<w.heap.size->(w.alloc (.cells #[] 153)).heap[k]?=w.heap[k]?):=hidE λk hk=>Below.heap_alloc _ _ _ hk;have HX:=hidE hXm;have HLEN:Hid ((units s).length<1000000000):=hidE (by simp[units];omega);obtain⟨z0,z1,z2⟩:=zai hbk;have HMET:=hidE hmet;have HPTR:=hidE hptr;have HBK:=hidE hbk;have HOWN:=hidE hown;have HLOW:=hidE hlow;have HALL:=hidE hall;have HA:=hidE hA;clear hset hin hadd hmet hptr hbk hown hlow hall hA z0 z1;go_enter Tryz.func132,Tryz.ntmps132
  go_wp2_with (at_mapUpdate;refine zcD mkSet _ rfl _ _ _ rfl (b+2) (units s) rfl HSET.out HLEN.out X HX.out rfl () trivial rfl ?_;intro w1 hm1 hg1;have hs1:w.heap.size+1<=w1.heap.size:=(by have:=hg1.size;simp at this;exact this);have hk1:∀k,k<w.heap.size->k≠b+2->w1.heap[k]?=w.heap[k]?:=(λk hk hne=>(hg1.block k (by simp;omega) (λe=>hne (by injection e))).trans (hk0.out k hk));have HM1:=hidE hm1;have HK1:=hidE hk1;have hb1:=HBK.out.same (hk1 b z2 (by omega));have hp1:=HPTR.out.same (hk1 (b+1) lp (by omega));have HOWN1:=hidE (zbX (w':=w1) HOWN.out (λa ha=>hk1 a.block (HALL.out _ (HA.out a ha)) (by have:=(HOWN.out.lt a.block (by rw[ha];rfl)).1;omega)));obtain⟨q0,q1,q2⟩:=zai hb1;obtain⟨r0,r1,r2⟩:=zai hp1;have HB1:=hidE hb1;have HP1:=hidE hp1;have HC1:Hid (Chg M w (w1.alloc (.cells #[.string X] 9)).drew):=hidE (((((Chg.refl M w).alloc (.cells #[] 153)).grown hg1 (λk hk=>.inr (by injection hk with hk;rw[<-hk];exact HLOW.out.2.2.1))).alloc _).drew);have HOWN2:Hid ((w1.drew.alloc (.cells #[.string X] 9)).ownsRow (b+4) 9 1 (.slice A s.length cp) s.length (strV s)):=hidE (HOWN1.out.alloc (.cells #[.string X] 9));have HNEW:Hid (∀j u,[Value.string X][j]?=some u->(w1.drew.alloc (.cells #[.string X] 9)).cell? ((⟨w1.heap.size,0,none⟩:Addr).add j)=some u):=hidE (zar _ _ _ _ rfl);clear hm1 hg1 hk1 hb1 hp1)
  go_region_law (refine step_append_lies _ (by rfl) _ _ _ (by rfl) (b+4) 9 i0 _ 1 16 Tryz.underlying95 hi0 hz0 hz1 hz2 rfl (by decide) _ s.length (strV s) (by rfl) HOWN2.out ⟨w1.heap.size,0,none⟩ 1 1 [.string X] rfl rfl HNEW.out (by intro u hu;simp at hu;subst hu;rfl) (by omega) (by unfold maxLen;omega) (by omega) (by simp;omega) _ rfl ?_;intro g3 c3 w5 hown3 hgrow hat hlt;have hb5:Blk w5 b 95 #[.slice A s.length cp]:=(Blk.alloc (w:=w1.drew) HB1.out _).grown hgrow (λe=>by have:=(HOWN.out.lt b e.symm).1;omega);have hp5:Blk w5 (b+1) 158 #[.pointer (some ⟨b,0,none⟩)]:=(Blk.alloc (w:=w1.drew) HP1.out _).grown hgrow (λe=>by have:=(HOWN.out.lt (b+1) e.symm).1;omega);obtain⟨d0,d1,d2⟩:=zai hb5;obtain⟨e0,e1,e2⟩:=zai hp5;have HO3:=hidE hown3;have HG3:=hidE hgrow;have HAT:=hidE hat;have HB5:=hidE hb5;have HP5:=hidE hp5;clear hown3 hgrow hat hb5 hp5)
  all_goals
   go_wp2_with fail
   first|go_end0|refine bodyPost_ret (results_none rfl _ _ _) rfl ?_
   exact⟨rfl,zmx (W:=(w1.alloc (.cells #[.string X] 9)).drew) HMET.out HALL.out HLOW.out hlen HA.out HOWN.out hs1 HK1.out HM1.out (λk hk=>Below.heap_alloc w1 _ k hk) (size_alloc w1 _) (HC1.out) HO3.out HG3.out HAT.out HB5.out HP5.out hlt⟩
end Go.Proofs.YtfafilmklhnngaaGreatDoor
