import Derived.Test.YtdogjghalplohaaGreatDoorJs34
import Derived.Test.YtdogjghalplohaaGreatDoorJs35
import Derived.Test.YtdogjghalplohaaGreatDoorJde2
namespace Go.Proofs.YtdogjghalplohaaGreatDoor.vl
open Go.ChangeShapes Go.WideShapes Go.ChangeAt Go.RowKit
set_option linter.unusedVariables false
set_option linter.unusedSimpArgs false
theorem keepC {w w':World} {b o:Nat} {u:Value} (h:Below w.heap.size w w') (hl:b < w.heap.size) (hc:w.cell? ⟨b,o,none⟩ = some u):w'.cell? ⟨b,o,none⟩ = some u:=(h.cell (p:=⟨b,o,none⟩) hl).trans hc
end Go.Proofs.YtdogjghalplohaaGreatDoor.vl
