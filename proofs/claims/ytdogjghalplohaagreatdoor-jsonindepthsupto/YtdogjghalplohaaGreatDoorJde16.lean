import Derived.Test.YtdogjghalplohaaGreatDoorJs34
import Derived.Test.YtdogjghalplohaaGreatDoorJs35
import Derived.SizedLaws
import Derived.Deep.Matrix
namespace Go.Proofs.YtdogjghalplohaaGreatDoor.mem
open Go.ChangeShapes Go.WideShapes Go.ChangeAt Go.RowKit
open ints (hide unhide)
set_option linter.unusedVariables false
theorem row_of_cells {k:IntKind} {w:World} {A:Option Addr} {L C:Nat} {Z:List Int} (h1:L ≤ C) (h2:Z.length = C) (h3:A = none → C = 0) (h4:∀ a',A = some a' → ∀ c,c < C → w.cell? (a'.add c) = some (.int k (Z.getD c 0))) :
  Row k w A L C (Z.take L):=by
 refine ⟨by simp;omega,h1,h3,?_⟩
 by_cases h0:L = 0
 ·exact .inl h0
 ·right
  cases A with
  | none => have:=h3 rfl;omega
  | some a' =>
   obtain ⟨b,off,spot⟩:=a'
   have hc:=h4 _ rfl 0 (by omega)
   have hspot:spot = none:=by simpa [Addr.add] using World.cell?_spot hc
   subst hspot
   refine ⟨b,off,rfl,?_,fun i hi => ?_⟩
   ·exact World.block_lt_of_cell? w _ hc
   ·have:=h4 _ rfl i (by omega)
    rw [Addr.add_lit] at this
    rw [this]
    simp [List.getD,hi]
end Go.Proofs.YtdogjghalplohaaGreatDoor.mem
