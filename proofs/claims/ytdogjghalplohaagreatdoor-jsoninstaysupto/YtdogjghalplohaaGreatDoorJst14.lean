import Derived.Test.YtdogjghalplohaaGreatDoorJv34
import Derived.Test.YtdogjghalplohaaGreatDoorJv35
import Derived.Test.YtdogjghalplohaaGreatDoorJst1
namespace Go.Proofs.YtdogjghalplohaaGreatDoor.jin
open mem
open vl (Vl Vls Fls)
open ints (hexV)
set_option linter.unusedVariables false
set_option linter.unusedSimpArgs false
section
variable {W Z:List Int}
theorem getD_ext {q:Nat} (h:q < Z.length):(Z ++ W).getD q 0 = Z.getD q 0:=by
 rw [List.getD_eq_getElem?_getD,List.getD_eq_getElem?_getD,List.getElem?_append_left h]
variable {σ:Type} {shut:Int}
end
end Go.Proofs.YtdogjghalplohaaGreatDoor.jin
namespace Go.Proofs.YtdogjghalplohaaGreatDoor.jin
open Go.ChangeShapes Go.WideShapes Go.ChangeAt Go.RowKit
open mem Go.Maps
open vl (Vl Vls Fls VlC VlsAt FlsAt Row8 Small SmallI SmallF)
open ints (hide unhide hexV)
open fto (bytZ NumT)
set_option linter.unusedVariables false
set_option linter.unusedSimpArgs false
theorem bytZ_len (s:ByteArray):(bytZ s).length = s.size:=by unfold fto.bytZ;rw [List.length_map,Array.length_toList];rfl
end Go.Proofs.YtdogjghalplohaaGreatDoor.jin
namespace Go.Proofs.YtdogjghalplohaaGreatDoor.jin
open Go.ChangeShapes Go.WideShapes Go.ChangeAt Go.RowKit
open mem
open vl (Vl Vls Fls)
open fto (bytZ)
set_option linter.unusedVariables false
set_option linter.unusedSimpArgs false
theorem str_app (xs ys:List Int):strOfNums xs ++ strOfNums ys = strOfNums (xs ++ ys):=by
 apply ByteArray.ext
 apply Array.toList_inj.1
 rw [ByteArray.data_append,Array.toList_append,strOfNums_data,strOfNums_data,strOfNums_data,List.map_append]
theorem bytZ_str {zs:List Int} (h:∀ z ∈ zs,0 ≤ z ∧ z ≤ 255):bytZ (strOfNums zs) = zs:=bytesZ_str zs h
end Go.Proofs.YtdogjghalplohaaGreatDoor.jin
