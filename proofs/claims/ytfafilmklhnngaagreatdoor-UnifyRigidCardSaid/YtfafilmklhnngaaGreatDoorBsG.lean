import Derived.Test.YtfafilmklhnngaaGreatDoorBsE
import Derived.OrdersIn
import Derived.Orders
set_option maxHeartbeats 12800000
set_option maxRecDepth 100000
namespace Go.Proofs.YtfafilmklhnngaaGreatDoor
section
open Go.RowKit
theorem znq {P:Program} {ops:Array Oper} {Q:Exit->Act->World->Prop}(l n:Nat)(hd:∀(i:Nat)(o:Oper),ops[i]?=some o->∀c:Call,o.op≠Op.defer c)(hQ:∀a w,¬Q .outgrown a w)
  {i:Nat} {K K':Act->World->Prop} (hK:∀a w,K a w->K' a w) {a:Act} {w:World} (h:wpOp P ops Q i K a w):wpOpIn (Fence.wide.inRound l) n P ops Q i K' a w:=by
 unfold wpOp at h;unfold wpOpIn;cases ho:ops[i]? with
 |none=>rw[ho]at h;exact hK _ _ h
 |some o =>
  rw[ho]at h;simp only at h ⊢;by_cases hw:Region.wanted o (yielded ops a.tmps)=true
  ·rw[Ch hw]at h ⊢
   rcases h with h|⟨_,a',w',h⟩
   ·refine⟨λ_ _=>trivial,?_⟩
    rw[Oper.semAt_eq _ _ _ (hd i o ho)];unfold Oper.wp at h;cases hr:(execOp a.eval o).run P w with
    |ok nx w1 =>
     rw[hr]at h;cases nx with
     |value v=>exact hK _ _ h
     |skip=>exact hK _ _ h
     |defer d=>exact hK _ _ h
     |enter f args =>
      refine⟨(λhh=>by cases hh),?_⟩;refine CallsIn.inRound l (callsIn_wide.2 ?_);have h':Calls P f args w1 _:=h;refine h'.mono ?_;intro e w2 hh;cases e with
      |returned v=>exact hK _ _ hh
      |panicked c=>exact hh
      |outgrown=>exact hh
     |row r args =>
      refine⟨(λhh=>by cases hh),?_⟩;have h':Rows P r args w1 _:=h;intro c cs _;obtain⟨v,w2,r2,s2⟩:=h' c cs;exact⟨v,w2,hK _ _ r2,stepsIn_wide.2 s2⟩
     |_=>exact(h:False).elim
    |halt x w1 =>
     rw[hr]at h;cases x with
     |panic v=>exact h
     |_=>exact(h:False).elim
   ·exact absurd h (hQ _ _)
  ·rw[Cg hw]at h ⊢
   exact⟨λ_ _=>trivial,hK _ _ h⟩
theorem SF {P:Program} {md:Region.Mode} {ops:Array Oper} {Q:Exit->Act->World->Prop}(l n:Nat)(hd:∀(i:Nat)(o:Oper),ops[i]?=some o->∀c:Call,o.op≠Op.defer c)(hQ:∀a w,¬Q .outgrown a w):∀(fuel:Nat) (listed:Array Bool) (a:Act) (w:World),wpAny P md ops Q fuel listed a w->wpAnyIn (Fence.wide.inRound l) n P md ops Q fuel listed a w
 |0,_,_,_,h=>h
 |fuel+1,_,_,_,h=>⟨h.1,λi hi=>znq l n hd hQ (λa w h=>SF l n hd hQ fuel _ a w h) (h.2 i hi)⟩
def Nt(ops:Array Oper):Bool:=ops.toList.all λo=>match o.op with|.defer _=>false|_=>true
theorem Tb {ops:Array Oper}(h:Nt ops=true):∀(i:Nat)(o:Oper),ops[i]?=some o->∀c:Call,o.op≠Op.defer c:=by
 intro i o ho c e;have hm:o∈ops.toList:=by
  rw[List.mem_iff_getElem?];exact⟨i,by rw[DG];exact ho⟩
 have:=Eo.1 h o hm;rw[e]at this;cases this
end
end Go.Proofs.YtfafilmklhnngaaGreatDoor
