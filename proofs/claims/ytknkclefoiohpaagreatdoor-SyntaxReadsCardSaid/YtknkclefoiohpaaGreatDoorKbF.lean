/-
  Contracts of the code's functions, part 6.
-/
import Derived.Test.YtknkclefoiohpaaGreatDoorKbE
import Derived.Test.YtknkclefoiohpaaGreatDoorKbD
import Derived.Laws.StructEq
namespace Go.Proofs.YtknkclefoiohpaaGreatDoor
open Go.RowKit Lx
def RdT(w:World)(v:Value)(ts:List Tok):Prop :=
 ∃A c,v=.slice A ts.length c/\(0<ts.length->∃g,A=some ⟨g,0,none⟩/\g<w.heap.size/\∀j u,(toksV ts)[j]? = some u->w.cell? ⟨g,j,none⟩=some u)
theorem RdT.of_own {w:World} {base:Nat} {v:Value} {ts:List Tok} {e:TypeId}(h:w.ownsRow base e 3 v ts.length (toksV ts)):RdT w v ts:=by
 have hc:=λg hg=>h.cells (g:=g) hg
 have hlt:=h.lt
 rcases h.2 with⟨rfl,h0⟩|⟨g,cap,cur,rfl,_⟩
 ·exact⟨none,0,by rw[h0],λhp=>by omega⟩
 ·refine⟨_,_,rfl,λ_=>⟨g,rfl,(hlt g rfl).2,λj u hu=>?_⟩⟩
  have hadd:(⟨g,0,none⟩:Addr).add j=⟨g,j,none⟩:=by unfold Addr.add;split <;> simp_all
  have:=hc g rfl j u hu
  rwa [hadd]at this
theorem RdT.keep {w w':World} {v:Value} {ts:List Tok}(h:RdT w v ts)(hs:w.heap.size<=w'.heap.size)(hk:∀k,k<w.heap.size->w'.heap[k]? = w.heap[k]?):RdT w' v ts:=by
 obtain⟨A,c,hv,hp⟩:=h
 refine⟨A,c,hv,λh0=>?_⟩
 obtain⟨g,hA,hg,hc⟩:=hp h0
 exact⟨g,hA,by omega,λj u hu=>by rw[World.cell?_of_block (w:=w) (hk g hg)];exact hc j u hu⟩
theorem RdT.below {w w':World} {v:Value} {ts:List Tok}(h:RdT w v ts)(hb:Below w.heap.size w w'):RdT w' v ts:=h.keep hb.size hb.block
theorem RdT.alloc {w:World} {v:Value} {ts:List Tok}(h:RdT w v ts)(o:Obj):RdT (w.alloc o) v ts:=h.keep (by simp) (λk hk=>Below.heap_alloc w o k hk)
theorem RdT.at_ {w:World} {v:Value} {ts:List Tok}(h:RdT w v ts)(k:Nat)(hk:k<ts.length) :
  ∃g c,v=.slice (some ⟨g,0,none⟩) ts.length c/\w.cell? ⟨g,k*3,none⟩=some (.int .i64 (ts[k].kind:Nat))/\w.cell? ⟨g,k*3+1,none⟩=some (.string ⟨ts[k].text.toArray⟩)/\w.cell? ⟨g,k*3+2,none⟩=some (.int .i64 (ts[k].at_:Nat)):=by
 obtain⟨A,c,hv,hp⟩:=h
 obtain⟨g,rfl,_,hc⟩:=hp (by omega)
 have key:∀(ts:List Tok) (k:Nat) (hk:k<ts.length) (j:Nat),j<3->(toksV ts)[k*3+j]? =(tokV ts[k])[j]?:=by
  intro ts
  induction ts with
  | nil=>intro k hk;simp at hk
  | cons t r ih =>
   intro k hk j hj
   have hl:(tokV t).length=3:=rfl
   show(tokV t++toksV r)[k*3+j]? = _
   cases k with
   | zero=>rw[Nat.zero_mul,Nat.zero_add,List.getElem?_append_left (by omega)];rfl
   | succ k =>
    rw[List.getElem?_append_right (by omega),hl,show(k+1)*3+j-3=k*3+j by omega,ih k (by simpa using hk) j hj]
    rfl
 exact⟨g,c,hv,hc _ _ ((key ts k hk 0 (by omega)).trans rfl),hc _ _ ((key ts k hk 1 (by omega)).trans rfl),hc _ _ ((key ts k hk 2 (by omega)).trans rfl)⟩
theorem bnext {B:Nat} {w w1 w2:World}(h:Below B w w1)(k:Below w1.heap.size w1 w2)(hB:B<=w.heap.size):Below B w w2:=h.trans (k.mono (Nat.le_trans hB h.size))
end Go.Proofs.YtknkclefoiohpaaGreatDoor
