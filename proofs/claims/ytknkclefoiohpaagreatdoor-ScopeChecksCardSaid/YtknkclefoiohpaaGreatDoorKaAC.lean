import Derived.Test.YtknkclefoiohpaaGreatDoorKaQ
import Derived.Test.YtknkclefoiohpaaGreatDoorKaS
import Derived.Deep.RegionLaw
set_option maxHeartbeats 12800000
namespace Go.Proofs.YtknkclefoiohpaaGreatDoor
open Go.RowKit Lx Tx Go.Maps Go.WideMaps Go.Shelf
set_option maxRecDepth 100000
def unitElem:Value->Option (DataW Unit × List MemPlace)
 |.agg cs=>if cs.size=0 then some (.nil,[]) else none
 |_=>none
theorem unitElem_inv {x:Value} {ps:List MemPlace}(h:unitElem x=some (.nil,ps)):x=.agg #[]:=by
 cases x with
 |agg cs =>
  by_cases h0:cs.size=0
  ·rw[Array.eq_empty_of_size_eq_zero h0]
  ·rw[unitElem,ue h0]at h
   cases h
 |_=>cases h
def units(l:List Name):List (Name × Unit):=l.reverse.map λx=>(x,())
theorem znF(x:Name)(l:List Name):look x (l.map λx=>(x,()))=if x∈l then some () else none:=by
 induction l with
 |nil=>rfl
 |cons y r ih =>
  show(if y=x then some () else look x (r.map λx=>(x,())))=_;rw[ih]
  by_cases h:y=x
  ·rw[ud h,ud (by rw[h];exact ve)]
  ·rw[ue h]
   by_cases h2:x∈r
   ·rw[ud h2,ud (vp _ h2)]
   ·rw[ue h2,ue (λe=>by rcases uT.1 e with e|e;exact h e.symm;exact h2 e)]
theorem zj5(x:Name)(l:List Name):look x (units l)=if x∈l then some () else none:=by
 unfold units;rw[znF]
 simp only[List.mem_reverse]
theorem zj6(x:Name)(l:List Name):units (l++[x])=(x,())::units l:=by simp[units]
theorem zbi {w w':World} {B:Nat} {e:TypeId} {size n c:Nat} {A:Option Addr} {xs:List Value}(h:w.ownsRow B e size (.slice A n c) n xs)(hk:∀a,A=some a->w'.heap[a.block]?=w.heap[a.block]?):w'.ownsRow B e size (.slice A n c) n xs:=by
 obtain⟨h0,h⟩:=h;refine⟨h0,?_⟩;rcases h with h|⟨g,cap,cur,hv,hg,hb,h⟩
 ·exact .inl h
 ·refine .inr ⟨g,cap,cur,hv,hg,?_,h⟩
  injection hv with hv;rw[<-hb]
  exact hk _ hv
end Go.Proofs.YtknkclefoiohpaaGreatDoor
