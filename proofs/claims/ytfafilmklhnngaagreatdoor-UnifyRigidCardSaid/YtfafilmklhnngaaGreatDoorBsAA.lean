import Derived.Test.YtfafilmklhnngaaGreatDoorBsU
import Derived.Test.YtfafilmklhnngaaGreatDoorBsX
import Derived.Deep.RegionLaw
set_option maxHeartbeats 12800000
set_option maxRecDepth 100000
namespace Go.Proofs.YtfafilmklhnngaaGreatDoor
open Tryz
section
open Go.RowKit Lx Tx Go.Maps Go.WideMaps Go.Shelf
def unitElem:Value->Option (DataW Unit × List MemPlace)
 |.agg cs=>if cs.size=0 then some (.nil,[]) else none
 |_=>none
theorem unitElem_inv {x:Value} {ps:List MemPlace}(h:unitElem x=some (.nil,ps)):x=.agg #[]:=by
 cases x with
 |agg cs =>
  by_cases h0:cs.size=0
  ·rw[Array.eq_empty_of_size_eq_zero h0]
  ·rw[unitElem,Cg h0]at h
   cases h
 |_=>cases h
def mkSet:MK Unit where
 t:=93
 e:=153
 R:=unitElem
 enc _:=.nil
 val _:=.agg #[]
 ok _:=True
 z:=.agg #[]
 zd:=.nil
 hT:=underlying93
 hz _:=by kernel_rfl
 hR _ _:=rfl
 Rf:=rfl
 inv _ _ _ h:=unitElem_inv h
 Mm _ _ h:=unitElem_inv h
def kj(l:List Name):List (Name × Unit):=l.reverse.map λx=>(x,())
theorem zo5(x:Name)(l:List Name):look x (l.map λx=>(x,()))=if x∈l then some () else none:=by
 induction l with
 |nil=>rfl
 |cons y r ih =>
  show(if y=x then some () else look x (r.map λx=>(x,())))=_;rw[ih];by_cases h:y=x
  ·rw[Ch h,Ch (by rw[h];exact Cs)]
  ·rw[Cg h]
   by_cases h2:x∈r
   ·rw[Ch h2,Ch (Cf _ h2)]
   ·rw[Cg h2,Cg (λe=>by rcases Cd.1 e with e|e;exact h e.symm;exact h2 e)]
theorem QV(x:Name)(l:List Name):look x (kj l)=if x∈l then some () else none:=by
 unfold kj;rw[zo5];simp only[DT]
theorem V7(x:Name)(l:List Name):kj (l++[x])=(x,())::kj l:=by simp[kj]
theorem PL {w w':World} {B:Nat} {e:TypeId} {size n c:Nat} {A:Option Addr} {xs:List Value}(h:w.ownsRow B e size (.slice A n c) n xs)(hk:∀a,A=some a->w'.heap[a.block]?=w.heap[a.block]?):w'.ownsRow B e size (.slice A n c) n xs:=by
 obtain⟨h0,h⟩:=h;refine⟨h0,?_⟩;rcases h with h|⟨g,cap,cur,hv,hg,hb,h⟩
 ·exact .inl h
 ·refine .inr ⟨g,cap,cur,hv,hg,?_,h⟩
  injection hv with hv;rw[<-hb]
  exact hk _ hv
structure F6 (b:Nat) (c:Nat) (s:List Name) (M:Nat->Prop) (w:World):Prop where
 met:ar w (b+3) 93 #[.map (some (b+2))]
 ptr:ar w (b+1) 158 #[.pointer (some ⟨b,0,none⟩)]
 set:iT mkSet w (b+2) (kj s)
 len:s.length<=c
 low:M b/\M (b+1)/\M (b+2)/\M (b+3)
 all:∀g,M g->g<w.heap.size
 row:∃A cp,ar w b 95 #[.slice A s.length cp]/\w.ownsRow (b+4) 9 1 (.slice A s.length cp) s.length (FQ s)/\∀a,A=some a->M a.block
theorem F6.inv(b:Nat):Inv (F6 b) where
 mono c c' s M w h hc:={ h with len:=Cm h.len hc }
 lt c s M w h:=h.all
 al c s M w w' h hs hk :=
  {met:=h.met.same (hk _ h.low.2.2.2)
   ptr:=h.ptr.same (hk _ h.low.2.1)
   set:=h.set.al (hk _ h.low.2.2.1)
   len:=h.len
   low:=h.low
   all:=λg hg=>Ci (h.all g hg) hs
   row:=by
    obtain⟨A,cp,h1,h2,h3⟩:=h.row;exact⟨A,cp,h1.same (hk _ h.low.1),PL h2 (λa ha=>hk _ (h3 a ha)),h3⟩ }
theorem zo6 {b c:Nat} {s:List Name} {M:Nat->Prop} {X:ByteArray} {A:Option Addr} {cp:Nat} {w w1 W w5:World} {g3 c3:Nat}(cY:ar w (b+3) 93 #[.map (some (b+2))])(aK:∀g,M g->g<w.heap.size)(bO:M b/\M (b+1)/\M (b+2)/\M (b+3))(hlen:s.length<=c)(hA:∀a,A=some a->M a.block)
  (aj:w.ownsRow (b+4) 9 1 (.slice A s.length cp) s.length (FQ s))(aH:w.heap.size+1<=w1.heap.size)(aU:∀k,k<w.heap.size->k≠b+2->w1.heap[k]?=w.heap[k]?)(aT:iT mkSet w1 (b+2) ((X.data.toList,())::kj s))
  (hW:∀k,k<w1.heap.size->W.heap[k]?=w1.heap[k]?)(hWs:W.heap.size=w1.heap.size+1)(XD:b_ M w W)(yJ:w5.ownsRow (b+4) 9 1 (.slice (some ⟨g3,0,none⟩) (s.length+1) c3) (s.length+1) (FQ s++[.string X]))
  (fL:W.grownBy w5 (Value.slice A s.length cp).ownBlock)(bz:(Value.slice A s.length cp).ownBlock=some g3\/g3=W.heap.size)(aQ:ar w5 b 95 #[.slice A s.length cp])(bM:ar w5 (b+1) 158 #[.pointer (some ⟨b,0,none⟩)])(af:g3<w5.heap.size):∃M',F6 b (c+1) (s++[X.data.toList]) M' (w5.setCell ⟨b,0,none⟩ (.slice (some ⟨g3,0,none⟩) (s.length+1) c3))/\(∀g,M' g->M g\/w.heap.size<=g)/\b_ M w (w5.setCell ⟨b,0,none⟩ (.slice (some ⟨g3,0,none⟩) (s.length+1) c3)):=by
 have aE:∀k,some k=(Value.slice A s.length cp).ownBlock->b+4<=k/\M k:=λk hk=>by
  refine⟨(aj.lt k hk.symm).1,?_⟩;cases A with
  |none=>cases hk
  |some a=>injection hk with hk;rw[hk];exact hA a rfl
 have Zm:b+4<=g3:=(yJ.lt g3 rfl).1;have h3:=aK _ bO.2.2.2;have hf:∀k,k<b+4->k≠b->(w5.setCell ⟨b,0,none⟩ (.slice (some ⟨g3,0,none⟩) (s.length+1) c3)).heap[k]?=w1.heap[k]?:=λk hk ai =>
  (B8 w5 ⟨b,0,none⟩ _ k ai).trans ((fL.block k (by omega) (λe=>by have:=(aE k e).1;omega)).trans (hW k (by omega)))
 have aA:(w5.setCell ⟨b,0,none⟩ (.slice (some ⟨g3,0,none⟩) (s.length+1) c3)).heap.size=w5.heap.size:=by simp
 have eI:=fL.size;refine⟨λg=>M g\/g=g3,⟨cY.same ((hf _ (by omega) (by omega)).trans (aU _ (by omega) (by omega))),bM.I8 (by show b+1≠b;omega) _,?_,by simp;omega,⟨.inl bO.1,.inl bO.2.1,.inl bO.2.2.1,.inl bO.2.2.2⟩,λg hg=>?_,some ⟨g3,0,none⟩,c3,?_,?_,λa ha=>by injection ha with ha;rw[<-ha];exact .inr rfl⟩,λg hg=>?_,?_⟩
 ·rw[V7]
  exact aT.al (hf _ (by omega) (by omega))
 ·rw[aA]
  rcases hg with hg|rfl
  ·have:=aK g hg;omega
  ·exact af
 ·have:=one_setCell (u:=.slice (some ⟨g3,0,none⟩) (s.length+1) c3) aQ
  rw[Cb];exact this
 ·rw[Cb,show FQ (s++[X.data.toList])=FQ s++[.string X] by simp[FQ]]
  exact PL yJ (λa ha=>by injection ha with ha;rw[<-ha];exact B8 w5 ⟨b,0,none⟩ _ g3 (by show g3≠b;omega))
 ·rcases hg with hg|rfl
  ·exact .inl hg
  ·rcases bz with h|h
   ·exact .inl (aE _ h.symm).2
   ·exact .inr (by omega)
 ·exact(XD.grown fL (λk hk=>.inr (aE k hk.symm).2)).setCell (p:=⟨b,0,none⟩) (.inr bO.1) _
theorem zqR(b c:Nat)(s:List Name)(M:Nat->Prop)(X:ByteArray)(w:World)(h:F6 b c s M w)(hX:X.size<=24)(hc:c<8000000000000):Calls prog 132 #[.string X,.pointer (some ⟨b+3,0,none⟩),.pointer (some ⟨b+1,0,none⟩)] w λe w'=>e=.returned (.tuple #[])/\∃M',F6 b (c+1) (FJ X.data.toList s) M' w'/\(∀g,M' g->M g\/w.heap.size<=g)/\b_ M w w':=by
 obtain⟨cY,fT,cU,hlen,bO,aK,A,cp,aq,aj,hA⟩:=h;obtain⟨m0,-,lm⟩:=GG cY;obtain⟨p0,-,lp⟩:=GG fT;have zX:X.size<=maxLen:=by unfold maxLen;omega
 have bJ:=cU.He X zX;rw[QV]at bJ;by_cases Fw:X.data.toList∈s
 ·rw[Ch Fw]at bJ
  replace bJ:(Instr.lookup 93 (.map (some (b+2))) (.string X) true).run prog w=.ok (.tuple #[.agg #[],.bool true]) w:=bJ;have aN:FJ X.data.toList s=s:=Ch Fw;rw[aN];have lv:Hid (F6 b (c+1) s M (w.alloc (.cells #[] 153))):=EP ((F6.inv b).mono _ _ _ _ _ ((F6.inv b).al _ _ _ _ _ ⟨cY,fT,cU,hlen,bO,aK,A,cp,aq,aj,hA⟩ (by simp) (λg hg=>BX _ _ _ (aK g hg))) (by omega));clear cY fT cU hlen bO aK aq aj hA Fw aN;go_in;go_wp2_with fail;first|go_end0|refine Ce (CQ rfl _ _ _) rfl ?_
  exact⟨rfl,M,lv.o,λg hg=>.inl hg,(b_.refl M w).alloc _⟩
 ·rw[Cg Fw]at bJ
  replace bJ:(Instr.lookup 93 (.map (some (b+2))) (.string X) true).run prog w=.ok (.tuple #[.agg #[],.bool false]) w:=bJ;have aN:FJ X.data.toList s=s++[X.data.toList]:=Cg Fw;rw[aN];obtain⟨i0,bK,cj,bS,bC⟩:=Dx zi4;have vy:=EP (cU.al (w':=w.alloc (.cells #[] 153)) (BX _ _ _ cU.lt));have mQ:Hid (∀k,k<w.heap.size->(w.alloc (.cells #[] 153)).heap[k]?=w.heap[k]?):=EP λk hk=>BX _ _ _ hk;have HX:=EP zX;have gU:Hid ((kj s).length<100000000000000):=EP (by simp[kj];omega);obtain⟨z0,z1,z2⟩:=GG aq;have nB:=EP cY;have vC:=EP fT;have iu:=EP aq;have az:=EP aj;have pV:=EP bO;have gy:=EP aK;have HA:=EP hA;clear cU Fw aN cY fT aq aj bO aK hA z0 z1;go_in
  go_wp2_with (at_mapUpdate;refine QW mkSet _ rfl _ _ _ rfl (b+2) (kj s) rfl vy.o gU.o X HX.o rfl () trivial rfl ?_;intro w1 aT aS;have aH:w.heap.size+1<=w1.heap.size:=(by have:=aS.size;simp at this;exact this);have aU:∀k,k<w.heap.size->k≠b+2->w1.heap[k]?=w.heap[k]?:=(λk hk ai=>(aS.block k (by simp;omega) (λe=>ai (by injection e))).trans (mQ.o k hk));have dP:=EP aT;have me:=EP aU;have av:=iu.o.same (aU b z2 (by omega));have jr:=vC.o.same (aU (b+1) lp (by omega));have cP:=EP (PL (w':=w1) az.o (λa ha=>aU a.block (gy.o _ (HA.o a ha)) (by have:=(az.o.lt a.block (by rw[ha];rfl)).1;omega)));obtain⟨q0,q1,q2⟩:=GG av;obtain⟨r0,r1,r2⟩:=GG jr;have bc:=EP av;have xq:=EP jr;have ji:Hid (b_ M w (w1.alloc (.cells #[.string X] 9)).drew):=EP (((((b_.refl M w).alloc (.cells #[] 153)).grown aS (λk hk=>.inr (by injection hk with hk;rw[<-hk];exact pV.o.2.2.1))).alloc _).drew);have bB:Hid ((w1.drew.alloc (.cells #[.string X] 9)).ownsRow (b+4) 9 1 (.slice A s.length cp) s.length (FQ s)):=EP (cP.o.alloc (.cells #[.string X] 9));have dJ:Hid (∀j u,[Value.string X][j]?=some u->(w1.drew.alloc (.cells #[.string X] 9)).cell? ((⟨w1.heap.size,0,none⟩:Addr).add j)=some u):=EP (Iz _ _ _ _ rfl);clear aT aS aU av jr);go_region_law (refine step_append_lies _ (by rfl) _ _ _ (by rfl) (b+4) 9 i0 _ 1 16 underlying95 bK cj bS bC rfl (by decide) _ s.length (FQ s) (by rfl) bB.o ⟨w1.heap.size,0,none⟩ 1 1 [.string X] rfl rfl dJ.o (by intro u hu;simp at hu;subst hu;rfl) (by omega) (by unfold maxLen;omega) (by omega) (by simp;omega) _ rfl ?_;intro g3 c3 w5 an ae bz af;have aQ:ar w5 b 95 #[.slice A s.length cp]:=(ar.alloc (w:=w1.drew) bc.o _).grown ae (λe=>by have:=(az.o.lt b e.symm).1;omega);have bM:ar w5 (b+1) 158 #[.pointer (some ⟨b,0,none⟩)]:=(ar.alloc (w:=w1.drew) xq.o _).grown ae (λe=>by have:=(az.o.lt (b+1) e.symm).1;omega);obtain⟨d0,d1,d2⟩:=GG aQ;obtain⟨e0,e1,e2⟩:=GG bM;have dZ:=EP an;have bk:=EP ae;have gG:=EP bz;have lC:=EP aQ;have qx:=EP bM;clear an ae bz aQ bM)
  all_goals
   go_wp2_with fail;first|go_end0|refine Ce (CQ rfl _ _ _) rfl ?_
   exact⟨rfl,zo6 (W:=(w1.alloc (.cells #[.string X] 9)).drew) nB.o gy.o pV.o hlen HA.o az.o aH me.o dP.o (λk hk=>BX w1 _ k hk) (size_alloc w1 _) (ji.o) dZ.o bk.o gG.o lC.o qx.o af⟩
end
end Go.Proofs.YtfafilmklhnngaaGreatDoor
