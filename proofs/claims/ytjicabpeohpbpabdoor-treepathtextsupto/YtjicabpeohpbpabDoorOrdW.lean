import Derived.Test.YtjicabpeohpbpabDoorOrdL
import Derived.Test.YtjicabpeohpbpabDoorStpO
import Derived.Laws.Concat
namespace Go.Proofs.YtjicabpeohpbpabDoor.stp
open Go.ChangeShapes Go.WideShapes Go.ChangeAt Go.RowKit
set_option linter.unusedVariables false
theorem run_join (L : List UInt8) (w : World) (h : L.length ≤ 1000000000) : (Op.stringOp .add ⟨L.toArray⟩ ⟨#[47]⟩).run Tryd.prog w = .ok (.string ⟨(L ++ [47]).toArray⟩) w := by
  have e1 : (⟨L.toArray⟩ : ByteArray).size = L.length := rfl
  have e2 : (⟨#[47]⟩ : ByteArray).size = 1 := rfl
  rw [run_string_add_sum w _ _ (by rw [e1, e2]; omega)]
  have e : (⟨L.toArray⟩ : ByteArray) ++ (⟨#[47]⟩ : ByteArray) = ⟨(L ++ [47]).toArray⟩ := by
    apply bytes_ext
    rw [toList_data, toList_data]
    show ((⟨L.toArray⟩ : ByteArray) ++ (⟨#[47]⟩ : ByteArray)).data.toList = _
    rw [ByteArray.data_append]
    simp
  rw [e]
theorem eq_texts {L M : List UInt8} (h : L = M) : ((⟨L.toArray⟩ : ByteArray).toList == (⟨M.toArray⟩ : ByteArray).toList) = true := by
  rw [h]
  simp
theorem ne_texts {L M : List UInt8} (h : ¬ L = M) : ((⟨L.toArray⟩ : ByteArray).toList == (⟨M.toArray⟩ : ByteArray).toList) = false := by
  rw [toList_data, toList_data]
  simpa using h
theorem hp_is {L M : List UInt8} {b : Bool} (h : Lib.hasPrefix L M = b) : Lib.hasPrefix (⟨L.toArray⟩ : ByteArray).data.toList (⟨M.toArray⟩ : ByteArray).data.toList = b := h
theorem und_yes {A B : List St} (h : ptx A = ptx B) : undS A B = true := by
  rw [und_text]
  simp [h]
theorem und_no {A B : List St} (h : ¬ ptx A = ptx B) : undS A B = Lib.hasPrefix (ptx A) (ptx B ++ [47]) := by
  rw [und_text]
  simp [h]
theorem tab_now {w w6 : World} {name : String} {k : IntKind} {zs : List Int} (h : Lib.TabBelow Tryd.prog w.heap.size w6 name k zs) (hs : w.heap.size ≤ w6.heap.size) : Lib.TabBelow Tryd.prog w6.heap.size w6 name k zs :=
  fun w' hb => h w' (hb.mono hs)
theorem one_step (w : World) (nm : ByteArray) (ix : Int) (it : Bool) (t : TypeId) : St3 (w.alloc (.cells #[.string nm, .int .i64 ix, .bool it] t)) w.heap.size 0 nm ix it := by
  unfold St3
  simp
end Go.Proofs.YtjicabpeohpbpabDoor.stp
