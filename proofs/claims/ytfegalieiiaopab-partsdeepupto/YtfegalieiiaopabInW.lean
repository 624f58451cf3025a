import Derived.Test.YtfegalieiiaopabInts
namespace Go.Proofs.Ytfegalieiiaopab.ints
open Go.ChangeShapes Go.WideShapes Go.ChangeAt Go.RowKit
set_option linter.unusedVariables false

def inB (c : Int) (s : ByteArray) : Bool := s.data.toList.any fun b => decide ((b.toNat : Int) = c)
theorem inB_yes {c : Int} {s : ByteArray} {k : Nat} (h : k < s.size) (e : (s[k].toNat : Int) = c) : inB c s = true := by
  unfold inB
  rw [List.any_eq_true]
  exact ⟨s[k], by simp [ByteArray.getElem_eq_getElem_data], by simpa using e⟩
theorem inB_no {c : Int} {s : ByteArray} (h : ∀ k (hk : k < s.size), ¬ (s[k].toNat : Int) = c) : inB c s = false := by
  unfold inB
  rw [List.any_eq_false]
  intro b hb
  obtain ⟨k, hk, rfl⟩ := List.mem_iff_getElem.1 hb
  have := h k (by simpa using hk)
  simpa [ByteArray.getElem_eq_getElem_data] using this
theorem wrap32_u8 (b : UInt8) : wrap32 (b.toNat : Int) = (b.toNat : Int) := by
  have := b.toNat_lt
  unfold wrap32
  omega
end Go.Proofs.Ytfegalieiiaopab.ints
