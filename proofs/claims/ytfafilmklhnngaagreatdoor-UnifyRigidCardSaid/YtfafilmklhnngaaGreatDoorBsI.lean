import Derived.Test.YtfafilmklhnngaaGreatDoorBsG
import Derived.Deep.QuietTactic
set_option maxHeartbeats 12800000
set_option maxRecDepth 100000
namespace Go.Proofs.YtfafilmklhnngaaGreatDoor
section
open Go.RowKit
theorem zcF {P:Program} {r n id:Nat} {Q:Exit->Act->World->Prop} {a:Act} {w:World} {l:List Oper}(hd:∀(i:Nat)(o:Oper),l.toArray[i]?=some o->∀c:Call,o.op≠Op.defer c)(hQ:∀a w,¬Q .outgrown a w)
  (hm:P.follows .mixedOrders=true)(hB:Region.lexB .any l.toArray=true)
  (h:wpQuiet P l.toArray (λw'=>∃n,w'=w.drewN n) (λa'=>∀w',(∃n,w'=w.drewN n)->Q .normal a' w') l a):(Code.region id l.toArray true).wpIn (Fence.wide.inRound r) n P Q a w:=by
 simp only[Region.lexB,EB]at hB;refine wpIn_region_any hm ?_;refine SF _ _ hd hQ _ _ _ _ ?_;refine wpAny_of_quiet (C:=λw'=>∃n,w'=w.drewN n) (Q:=λa'=>∀w',(∃n,w'=w.drewN n)->Q .normal a' w') (λ_ w' xR h=>h w' xR) _ _ _ _ ⟨1,rfl⟩ ?_;have:=wpAnyQ_lex (C:=λw'=>∃n,w'=w.drewN n) (md:=.any) hB.1 l 0 (Array.replicate l.toArray.size false) a (by simp) (by simpa using hB.2) h;simpa using this
end
end Go.Proofs.YtfafilmklhnngaaGreatDoor
