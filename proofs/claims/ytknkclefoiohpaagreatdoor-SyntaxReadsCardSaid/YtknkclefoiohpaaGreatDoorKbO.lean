/-
  Contracts of the code's functions, part 15.
-/
import Derived.Test.YtknkclefoiohpaaGreatDoorKbN
import Derived.Test.YtknkclefoiohpaaGreatDoorKbJ
import Derived.Deep.LoopGhost
namespace Go.Proofs.YtknkclefoiohpaaGreatDoor
open Go.RowKit Lx Tx Go.Maps Go.WideMaps
set_option maxRecDepth 100000
section
variable {σ:Type}
end
end Go.Proofs.YtknkclefoiohpaaGreatDoor

namespace Go.Proofs.YtknkclefoiohpaaGreatDoor
open Go.RowKit Lx Tx Go.Maps Go.WideMaps
set_option maxRecDepth 100000
theorem nm_len {t:Ty}(h:Nm t):(nmB t).size<=24:=by
 have key:∀k x,Gd k x->k<=2->(⟨x.toArray⟩:ByteArray).size<=24:=by
  intro k x h hk
  obtain⟨h1,h2,h3⟩:=h
  show x.length<=24
  cases x with
  | nil=>exact absurd rfl h1
  | cons c r =>
   rw[first]at h2
   split at h2
   ·unfold word at h2
    split at h2
    ·injection h2 with a _;omega
    ·injection h2 with _ b;omega
   ·split at h2
    ·exfalso
     rcases number_cases (c::r) with e|⟨e,_,_⟩ <;> rw[e]at h2 <;> injection h2 with a _ <;> omega
    ·split at h2
     ·exfalso
      unfold meta_ at h2
      split at h2 <;> injection h2 with a _ <;> omega
     ·exfalso
      unfold sign at h2
      split at h2
      ·injection h2 with a _;omega
      ·split at h2 <;> injection h2 with a _ <;> omega
 cases h with
 | var x h=>exact key 1 x h (by decide)
 | mt n _=>exact Nat.zero_le _
 | con c l h _=>exact key 2 c h (by decide)
 | fn a b _ _=>exact Nat.zero_le _
 | all x t h _=>exact key 1 x h (by decide)
section
variable {σ:Type}
end
end Go.Proofs.YtknkclefoiohpaaGreatDoor

namespace Go.Proofs.YtknkclefoiohpaaGreatDoor
open Go.RowKit Lx Tx Go.Maps Go.WideMaps
set_option maxRecDepth 100000
section
variable {σ:Type}
end
end Go.Proofs.YtknkclefoiohpaaGreatDoor
