import Derived.Test.YtdogjghalplohaaGreatDoorJs34
import Derived.Test.YtdogjghalplohaaGreatDoorJs35
import Derived.Test.YtdogjghalplohaaGreatDoorJde6
import Derived.Test.YtdogjghalplohaaGreatDoorJde7
import Derived.Deep.QuietTactic
namespace Go.Proofs.YtdogjghalplohaaGreatDoor.vl
open Go.ChangeShapes Go.WideShapes Go.ChangeAt Go.RowKit
open stp (St)
set_option linter.unusedVariables false
set_option linter.unusedSimpArgs false
def z0:Vl:=.mk 0 false 0 0 { data:=#[] } { data:=#[] } .nil .nil
end Go.Proofs.YtdogjghalplohaaGreatDoor.vl
