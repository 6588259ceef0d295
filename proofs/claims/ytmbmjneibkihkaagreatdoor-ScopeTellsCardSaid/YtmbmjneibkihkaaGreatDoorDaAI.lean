/-
  Contracts of the code's functions, part 35.
-/
import Derived.Test.YtmbmjneibkihkaaGreatDoorDaS
import Derived.Test.YtmbmjneibkihkaaGreatDoorDaU
import Derived.Deep.AppendLies
import Derived.Deep.RegionLaw
namespace Go.Proofs.YtmbmjneibkihkaaGreatDoor
open Go.RowKit Lx Tx Go.Maps Go.WideMaps Go.Shelf
set_option maxRecDepth 100000
def unitElem:Value->Option (DataW Unit × List MemPlace)
 | .agg cs=>if cs.size=0 then some (.nil,[]) else none
 | _=>none
theorem unitElem_inv {x:Value} {ps:List MemPlace}(h:unitElem x=some (.nil,ps)):x=.agg #[]:=by
 cases x with
 | agg cs =>
  by_cases h0:cs.size=0
  ·rw[Array.eq_empty_of_size_eq_zero h0]
  ·rw[unitElem,if_neg h0]at h
   cases h
 | _=>cases h
def units(l:List Name):List (Name × Unit):=l.reverse.map λx=>(x,())
theorem look_map(x:Name)(l:List Name):look x (l.map λx=>(x,()))=if x∈l then some () else none:=by
 induction l with
 | nil=>rfl
 | cons y r ih =>
  show(if y=x then some () else look x (r.map λx=>(x,())))=_
  rw[ih]
  by_cases h:y=x
  ·rw[if_pos h,if_pos (by rw[h];exact List.mem_cons_self)]
  ·rw[if_neg h]
   by_cases h2:x∈r
   ·rw[if_pos h2,if_pos (List.mem_cons_of_mem _ h2)]
   ·rw[if_neg h2,if_neg (λe=>by rcases List.mem_cons.1 e with e|e;exact h e.symm;exact h2 e)]
theorem look_units(x:Name)(l:List Name):look x (units l)=if x∈l then some () else none:=by
 unfold units
 rw[look_map]
 simp only[List.mem_reverse]
theorem units_snoc(x:Name)(l:List Name):units (l++[x])=(x,())::units l:=by simp[units]
theorem own_keepb {w w':World} {B:Nat} {e:TypeId} {size n c:Nat} {A:Option Addr} {xs:List Value}(h:w.ownsRow B e size (.slice A n c) n xs)(hk:∀a,A=some a->w'.heap[a.block]? = w.heap[a.block]?):w'.ownsRow B e size (.slice A n c) n xs:=by
 obtain⟨h0,h⟩:=h
 refine⟨h0,?_⟩
 rcases h with h|⟨g,cap,cur,hv,hg,hb,h⟩
 ·exact .inl h
 ·refine .inr ⟨g,cap,cur,hv,hg,?_,h⟩
  injection hv with hv
  rw[<-hb]
  exact hk _ hv
end Go.Proofs.YtmbmjneibkihkaaGreatDoor
