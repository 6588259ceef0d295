import Derived.Test.YtfafilmklhnngaaGreatDoorBkV
import Derived.Test.YtfafilmklhnngaaGreatDoorBkY
import Derived.Deep.RegionLaw
set_option maxHeartbeats 12800000
namespace Go.Proofs.YtfafilmklhnngaaGreatDoor
open Go.RowKit Lx Tx Go.Maps Go.WideMaps Go.Shelf
set_option maxRecDepth 100000
def unitElem:Value->Option (DataW Unit × List MemPlace)
 |.agg cs=>if cs.size=0 then some (.nil,[]) else none
 |_=>none
theorem unitElem_inv {x:Value} {ps:List MemPlace}(h:unitElem x=some (.nil,ps)):x=.agg #[]:=by
 cases x with
 |agg cs =>
  by_cases h0:cs.size=0
  ·rw[Array.eq_empty_of_size_eq_zero h0]
  ·rw[unitElem,Am h0]at h
   cases h
 |_=>cases h
def mkSet:MK Unit where
 t:=93
 e:=153
 R:=unitElem
 enc _:=.nil
 val _:=.agg #[]
 ok _:=True
 z:=.agg #[]
 zd:=.nil
 hT:=Tryz.underlying93
 hz _:=by kernel_rfl
 hR _ _:=rfl
 hzd:=rfl
 inv _ _ _ h:=unitElem_inv h
 invz _ _ h:=unitElem_inv h
def units(l:List Name):List (Name × Unit):=l.reverse.map λx=>(x,())
theorem znH(x:Name)(l:List Name):look x (l.map λx=>(x,()))=if x∈l then some () else none:=by
 induction l with
 |nil=>rfl
 |cons y r ih =>
  show(if y=x then some () else look x (r.map λx=>(x,())))=_;rw[ih]
  by_cases h:y=x
  ·rw[Aq h,Aq (by rw[h];exact Ay)]
  ·rw[Am h]
   by_cases h2:x∈r
   ·rw[Aq h2,Aq (Ar _ h2)]
   ·rw[Am h2,Am (λe=>by rcases An.1 e with e|e;exact h e.symm;exact h2 e)]
theorem zef(x:Name)(l:List Name):look x (units l)=if x∈l then some () else none:=by
 unfold units;rw[znH]
 simp only[CB]
theorem zf4(x:Name)(l:List Name):units (l++[x])=(x,())::units l:=by simp[units]
theorem zaY {w w':World} {B:Nat} {e:TypeId} {size n c:Nat} {A:Option Addr} {xs:List Value}(h:w.ownsRow B e size (.slice A n c) n xs)(hk:∀a,A=some a->w'.heap[a.block]?=w.heap[a.block]?):w'.ownsRow B e size (.slice A n c) n xs:=by
 obtain⟨h0,h⟩:=h;refine⟨h0,?_⟩;rcases h with h|⟨g,cap,cur,hv,hg,hb,h⟩
 ·exact .inl h
 ·refine .inr ⟨g,cap,cur,hv,hg,?_,h⟩
  injection hv with hv;rw[<-hb]
  exact hk _ hv
structure OnceI (b:Nat) (c:Nat) (s:List Name) (M:Nat->Prop) (w:World):Prop where
 met:Blk w (b+3) 93 #[.map (some (b+2))]
 ptr:Blk w (b+1) 158 #[.pointer (some ⟨b,0,none⟩)]
 set:MapE mkSet w (b+2) (units s)
 len:s.length<=c
 low:M b/\M (b+1)/\M (b+2)/\M (b+3)
 all:∀g,M g->g<w.heap.size
 row:∃A cp,Blk w b 95 #[.slice A s.length cp]/\w.ownsRow (b+4) 9 1 (.slice A s.length cp) s.length (strV s)/\∀a,A=some a->M a.block
theorem OnceI.inv(b:Nat):Inv (OnceI b) where
 mono c c' s M w h hc:={ h with len:=AB h.len hc }
 lt c s M w h:=h.all
 keep c s M w w' h hs hk :=
  {met:=h.met.same (hk _ h.low.2.2.2)
   ptr:=h.ptr.same (hk _ h.low.2.1)
   set:=h.set.keep (hk _ h.low.2.2.1)
   len:=h.len
   low:=h.low
   all:=λg hg=>As (h.all g hg) hs
   row:=by
    obtain⟨A,cp,h1,h2,h3⟩:=h.row;exact⟨A,cp,h1.same (hk _ h.low.1),zaY h2 (λa ha=>hk _ (h3 a ha)),h3⟩ }
theorem znI {b c:Nat} {s:List Name} {M:Nat->Prop} {X:ByteArray} {A:Option Addr} {cp:Nat} {w w1 W w5:World} {g3 c3:Nat}(dB:Blk w (b+3) 93 #[.map (some (b+2))])(aL:∀g,M g->g<w.heap.size)(aZ:M b/\M (b+1)/\M (b+2)/\M (b+3))(hlen:s.length<=c)(hA:∀a,A=some a->M a.block)
  (ai:w.ownsRow (b+4) 9 1 (.slice A s.length cp) s.length (strV s))(aF:w.heap.size+1<=w1.heap.size)(bI:∀k,k<w.heap.size->k≠b+2->w1.heap[k]?=w.heap[k]?)(aX:MapE mkSet w1 (b+2) ((X.data.toList,())::units s))
  (hW:∀k,k<w1.heap.size->W.heap[k]?=w1.heap[k]?)(hWs:W.heap.size=w1.heap.size+1)(hCW:Chg M w W)(wZ:w5.ownsRow (b+4) 9 1 (.slice (some ⟨g3,0,none⟩) (s.length+1) c3) (s.length+1) (strV s++[.string X]))
  (im:W.grownBy w5 (Value.slice A s.length cp).ownBlock)(bF:(Value.slice A s.length cp).ownBlock=some g3\/g3=W.heap.size)(aP:Blk w5 b 95 #[.slice A s.length cp])(bG:Blk w5 (b+1) 158 #[.pointer (some ⟨b,0,none⟩)])(ah:g3<w5.heap.size):∃M',OnceI b (c+1) (s++[X.data.toList]) M' (w5.setCell ⟨b,0,none⟩ (.slice (some ⟨g3,0,none⟩) (s.length+1) c3))/\(∀g,M' g->M g\/w.heap.size<=g)/\Chg M w (w5.setCell ⟨b,0,none⟩ (.slice (some ⟨g3,0,none⟩) (s.length+1) c3)):=by
 have aJ:∀k,some k=(Value.slice A s.length cp).ownBlock->b+4<=k/\M k:=λk hk=>by
  refine⟨(ai.lt k hk.symm).1,?_⟩;cases A with
  |none=>cases hk
  |some a=>injection hk with hk;rw[hk];exact hA a rfl
 have hg3b:b+4<=g3:=(wZ.lt g3 rfl).1;have h3:=aL _ aZ.2.2.2;have hf:∀k,k<b+4->k≠b->(w5.setCell ⟨b,0,none⟩ (.slice (some ⟨g3,0,none⟩) (s.length+1) c3)).heap[k]?=w1.heap[k]?:=λk hk af =>
  (Below.heap_setCell w5 ⟨b,0,none⟩ _ k af).trans ((im.block k (by omega) (λe=>by have:=(aJ k e).1;omega)).trans (hW k (by omega)))
 have aD:(w5.setCell ⟨b,0,none⟩ (.slice (some ⟨g3,0,none⟩) (s.length+1) c3)).heap.size=w5.heap.size:=by simp
 have ej:=im.size;refine⟨λg=>M g\/g=g3,⟨dB.same ((hf _ (by omega) (by omega)).trans (bI _ (by omega) (by omega))),bG.far (by show b+1≠b;omega) _,?_,by simp;omega,⟨.inl aZ.1,.inl aZ.2.1,.inl aZ.2.2.1,.inl aZ.2.2.2⟩,λg hg=>?_,some ⟨g3,0,none⟩,c3,?_,?_,λa ha=>by injection ha with ha;rw[<-ha];exact .inr rfl⟩,λg hg=>?_,?_⟩
 ·rw[zf4]
  exact aX.keep (hf _ (by omega) (by omega))
 ·rw[aD]
  rcases hg with hg|rfl
  ·have:=aL g hg;omega
  ·exact ah
 ·have:=one_setCell (u:=.slice (some ⟨g3,0,none⟩) (s.length+1) c3) aP
  rw[Ap]
  exact this
 ·rw[Ap,show strV (s++[X.data.toList])=strV s++[.string X] by simp[strV]]
  exact zaY wZ (λa ha=>by injection ha with ha;rw[<-ha];exact Below.heap_setCell w5 ⟨b,0,none⟩ _ g3 (by show g3≠b;omega))
 ·rcases hg with hg|rfl
  ·exact .inl hg
  ·rcases bF with h|h
   ·exact .inl (aJ _ h.symm).2
   ·exact .inr (by omega)
 ·exact(hCW.grown im (λk hk=>.inr (aJ k hk.symm).2)).setCell (p:=⟨b,0,none⟩) (.inr aZ.1) _
theorem zgK(b c:Nat)(s:List Name)(M:Nat->Prop)(X:ByteArray)(w:World)(h:OnceI b c s M w)(hX:X.size<=24)(hc:c<10000000):Calls Tryz.prog 132 #[.string X,.pointer (some ⟨b+3,0,none⟩),.pointer (some ⟨b+1,0,none⟩)] w λe w'=>e=.returned (.tuple #[])/\∃M',OnceI b (c+1) (addN X.data.toList s) M' w'/\(∀g,M' g->M g\/w.heap.size<=g)/\Chg M w w':=by
 obtain⟨dB,eW,bZ,hlen,aZ,aL,A,cp,an,ai,hA⟩:=h;obtain⟨m0,-,lm⟩:=zad dB;obtain⟨p0,-,lp⟩:=zad eW;have yk:X.size<=maxLen:=by unfold maxLen;omega
 have aR:=bZ.getOk X yk;rw[zef]at aR
 by_cases hin:X.data.toList∈s
 ·rw[Aq hin]at aR
  replace aR:(Instr.lookup 93 (.map (some (b+2))) (.string X) true).run Tryz.prog w=.ok (.tuple #[.agg #[],.bool true]) w:=aR;have aW:addN X.data.toList s=s:=Aq hin;rw[aW]
  have od:Hid (OnceI b (c+1) s M (w.alloc (.cells #[] 153))):=CS ((OnceI.inv b).mono _ _ _ _ _ ((OnceI.inv b).keep _ _ _ _ _ ⟨dB,eW,bZ,hlen,aZ,aL,A,cp,an,ai,hA⟩ (by simp) (λg hg=>Below.heap_alloc _ _ _ (aL g hg))) (by omega));clear dB eW bZ hlen aZ aL an ai hA hin aW;go_enter Tryz.func132,Tryz.ntmps132
  go_wp2_with fail
  first|go_end0|refine bodyPost_ret (results_none rfl _ _ _) rfl ?_
  exact⟨rfl,M,od.out,λg hg=>.inl hg,(Chg.refl M w).alloc _⟩
 ·rw[Am hin]at aR
  replace aR:(Instr.lookup 93 (.map (some (b+2))) (.string X) true).run Tryz.prog w=.ok (.tuple #[.agg #[],.bool false]) w:=aR;have aW:addN X.data.toList s=s++[X.data.toList]:=Am hin;rw[aW]
  obtain⟨i0,bm,bO,bD,bj⟩:=info_parts zic;have tN:=CS (bZ.keep (w':=w.alloc (.cells #[] 153)) (Below.heap_alloc _ _ _ bZ.lt));have kX:Hid (∀k,k<w.heap.size->(w.alloc (.cells #[] 153)).heap[k]?=w.heap[k]?):=CS λk hk=>Below.heap_alloc _ _ _ hk;have HX:=CS yk;have dU:Hid ((units s).length<1000000000):=CS (by simp[units];omega);obtain⟨z0,z1,z2⟩:=zad an;have tZ:=CS dB;have tV:=CS eW;have eJ:=CS an;have ay:=CS ai;have eF:=CS aZ;have eG:=CS aL;have HA:=CS hA;clear bZ hin aW dB eW an ai aZ aL hA z0 z1;go_enter Tryz.func132,Tryz.ntmps132
  go_wp2_with (at_mapUpdate;refine zcT mkSet _ rfl _ _ _ rfl (b+2) (units s) rfl tN.out dU.out X HX.out rfl () trivial rfl ?_;intro w1 aX aY;have aF:w.heap.size+1<=w1.heap.size:=(by have:=aY.size;simp at this;exact this);have bI:∀k,k<w.heap.size->k≠b+2->w1.heap[k]?=w.heap[k]?:=(λk hk af=>(aY.block k (by simp;omega) (λe=>af (by injection e))).trans (kX.out k hk));have dH:=CS aX;have oj:=CS bI;have aw:=eJ.out.same (bI b z2 (by omega));have mH:=tV.out.same (bI (b+1) lp (by omega));have cE:=CS (zaY (w':=w1) ay.out (λa ha=>bI a.block (eG.out _ (HA.out a ha)) (by have:=(ay.out.lt a.block (by rw[ha];rfl)).1;omega)));obtain⟨q0,q1,q2⟩:=zad aw;obtain⟨r0,r1,r2⟩:=zad mH;have bN:=CS aw;have HP1:=CS mH;have jG:Hid (Chg M w (w1.alloc (.cells #[.string X] 9)).drew):=CS (((((Chg.refl M w).alloc (.cells #[] 153)).grown aY (λk hk=>.inr (by injection hk with hk;rw[<-hk];exact eF.out.2.2.1))).alloc _).drew);have bp:Hid ((w1.drew.alloc (.cells #[.string X] 9)).ownsRow (b+4) 9 1 (.slice A s.length cp) s.length (strV s)):=CS (cE.out.alloc (.cells #[.string X] 9));have dz:Hid (∀j u,[Value.string X][j]?=some u->(w1.drew.alloc (.cells #[.string X] 9)).cell? ((⟨w1.heap.size,0,none⟩:Addr).add j)=some u):=CS (zas _ _ _ _ rfl);clear aX aY bI aw mH)
  go_region_law (refine step_append_lies _ (by rfl) _ _ _ (by rfl) (b+4) 9 i0 _ 1 16 Tryz.underlying95 bm bO bD bj rfl (by decide) _ s.length (strV s) (by rfl) bp.out ⟨w1.heap.size,0,none⟩ 1 1 [.string X] rfl rfl dz.out (by intro u hu;simp at hu;subst hu;rfl) (by omega) (by unfold maxLen;omega) (by omega) (by simp;omega) _ rfl ?_;intro g3 c3 w5 aj ae bF ah;have aP:Blk w5 b 95 #[.slice A s.length cp]:=(Blk.alloc (w:=w1.drew) bN.out _).grown ae (λe=>by have:=(ay.out.lt b e.symm).1;omega);have bG:Blk w5 (b+1) 158 #[.pointer (some ⟨b,0,none⟩)]:=(Blk.alloc (w:=w1.drew) HP1.out _).grown ae (λe=>by have:=(ay.out.lt (b+1) e.symm).1;omega);obtain⟨d0,d1,d2⟩:=zad aP;obtain⟨e0,e1,e2⟩:=zad bG;have cV:=CS aj;have bg:=CS ae;have fq:=CS bF;have mh:=CS aP;have oQ:=CS bG;clear aj ae bF aP bG)
  all_goals
   go_wp2_with fail
   first|go_end0|refine bodyPost_ret (results_none rfl _ _ _) rfl ?_
   exact⟨rfl,znI (W:=(w1.alloc (.cells #[.string X] 9)).drew) tZ.out eG.out eF.out hlen HA.out ay.out aF oj.out dH.out (λk hk=>Below.heap_alloc w1 _ k hk) (size_alloc w1 _) (jG.out) cV.out bg.out fq.out mh.out oQ.out ah⟩
end Go.Proofs.YtfafilmklhnngaaGreatDoor
