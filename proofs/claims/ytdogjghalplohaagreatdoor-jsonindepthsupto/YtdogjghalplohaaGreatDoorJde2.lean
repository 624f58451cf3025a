import Derived.Test.YtdogjghalplohaaGreatDoorJs34
import Derived.Test.YtdogjghalplohaaGreatDoorJs35
import Derived.Test.YtdogjghalplohaaGreatDoorJde1
namespace Go.Proofs.YtdogjghalplohaaGreatDoor.vl
open Go.ChangeShapes Go.WideShapes Go.ChangeAt Go.RowKit
set_option linter.unusedVariables false
theorem Row8.eight {w:World} {b off:Nat} {c0 c1 c2 c3 c4 c5 c6 c7:Value} (h:Row8 w b off [c0,c1,c2,c3,c4,c5,c6,c7]) :
  w.cell? ⟨b,off,none⟩ = some c0 ∧ w.cell? ⟨b,off + 1,none⟩ = some c1 ∧ w.cell? ⟨b,off + 2,none⟩ = some c2 ∧ w.cell? ⟨b,off + 3,none⟩ = some c3 ∧ w.cell? ⟨b,off + 4,none⟩ = some c4 ∧ w.cell? ⟨b,off + 5,none⟩ = some c5 ∧ w.cell? ⟨b,off + 6,none⟩ = some c6 ∧ w.cell? ⟨b,off + 7,none⟩ = some c7:=
 ⟨h 0 c0 rfl,h 1 c1 rfl,h 2 c2 rfl,h 3 c3 rfl,h 4 c4 rfl,h 5 c5 rfl,h 6 c6 rfl,h 7 c7 rfl⟩
end Go.Proofs.YtdogjghalplohaaGreatDoor.vl
