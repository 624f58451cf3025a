import Derived.Test.YtdogjghalplohaaGreatDoorJs34
import Derived.Test.YtdogjghalplohaaGreatDoorJs35
import Derived.Test.YtdogjghalplohaaGreatDoorRows
import Derived.Test.YtdogjghalplohaaGreatDoorJde2
import Derived.WalkKit
import Derived.ProofKit
import Derived.OpenShut
import Derived.ShutString
import Derived.Below
import Derived.Outline
import Derived.Laws.Pointers
import Derived.Lib.Bytealg
import Derived.Laws.Externs
import Derived.Laws.Rows
import Derived.Laws.StructEq
import Derived.Deep.RegionHeld3
namespace Go.Proofs.YtdogjghalplohaaGreatDoor.stp
open Go.ChangeShapes Go.WideShapes Go.ChangeAt Go.RowKit
set_option linter.unusedVariables false
theorem hide {p:Prop} (h:p):Hid p:=h
theorem unhide {p:Prop} (h:Hid p):p:=h
structure St where
 nm:ByteArray
 ix:Int
 it:Bool
end Go.Proofs.YtdogjghalplohaaGreatDoor.stp
