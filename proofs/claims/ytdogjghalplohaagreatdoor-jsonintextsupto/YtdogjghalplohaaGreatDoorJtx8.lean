import Derived.Test.YtdogjghalplohaaGreatDoorJs34
import Derived.Test.YtdogjghalplohaaGreatDoorJs35
import Derived.Test.YtdogjghalplohaaGreatDoorJtx1
namespace Go.Proofs.YtdogjghalplohaaGreatDoor.jin
open Go.ChangeShapes Go.WideShapes Go.ChangeAt Go.RowKit
open mem Go.Maps
open vl (Vl Vls Fls VlC VlsAt FlsAt Row8 Small SmallI SmallF)
open ints (hide unhide hexV)
open fto (bytZ NumT)
set_option linter.unusedVariables false
set_option linter.unusedSimpArgs false
theorem bytZ_len (s:ByteArray):(bytZ s).length = s.size:=by unfold fto.bytZ;rw [List.length_map,Array.length_toList];rfl
end Go.Proofs.YtdogjghalplohaaGreatDoor.jin
