/-
  Contracts of the code's functions, part 30.
-/
import Derived.Test.YtknkclefoiohpaaGreatDoorKbAC
import Derived.Laws.EntriesVeiled
namespace Go.Proofs.YtknkclefoiohpaaGreatDoor
open Go.RowKit Lx Tx Go.Maps Go.WideMaps Go.Shelf
set_option maxRecDepth 100000
end Go.Proofs.YtknkclefoiohpaaGreatDoor

namespace Go.Proofs.YtknkclefoiohpaaGreatDoor
open Go.RowKit Lx Tx Go.Maps Go.WideMaps Go.Shelf
set_option maxRecDepth 100000
end Go.Proofs.YtknkclefoiohpaaGreatDoor

namespace Go.Proofs.YtknkclefoiohpaaGreatDoor
open Go.RowKit Lx Tx Go.Maps Go.WideMaps Go.Shelf
set_option maxRecDepth 100000
end Go.Proofs.YtknkclefoiohpaaGreatDoor

namespace Go.Proofs.YtknkclefoiohpaaGreatDoor
open Go.RowKit Lx Tx Go.Maps Go.WideMaps Go.Shelf
set_option maxRecDepth 100000
theorem own_cell {w:World} {B:Nat} {e:TypeId} {n c:Nat} {A:Option Addr} {xs:List Value}(h:w.ownsRow B e 1 (.slice A n c) n xs) {i:Nat}(hi:i<n) {u:Value}(hu:xs[i]? = some u) :
  ∃g,A=some ⟨g,0,none⟩/\B<=g/\g<w.heap.size/\∀w':World,w'.heap[g]? = w.heap[g]?->w'.cell? ⟨g,i,none⟩=some u:=by
 obtain⟨h0,h⟩:=h
 rcases h with⟨_,h⟩|⟨g,cap,cur,hv,hg,hb,h1,h2,h3,h4⟩
 ·omega
 ·injection hv with hv
  refine⟨g,hv,hg,lt_of_block hb,λw' hk=>?_⟩
  rw[cell_of_row w' g i cur e (0,0) (hk.trans hb),<-hu,<-h4,List.getElem?_take_of_lt (by omega)]
  simp
end Go.Proofs.YtknkclefoiohpaaGreatDoor

namespace Go.Proofs.YtknkclefoiohpaaGreatDoor
open Go.RowKit Lx Tx Go.Maps Go.WideMaps Go.Shelf
set_option maxRecDepth 100000
end Go.Proofs.YtknkclefoiohpaaGreatDoor
