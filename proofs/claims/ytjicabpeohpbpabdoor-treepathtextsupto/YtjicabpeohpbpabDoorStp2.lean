import Derived.Test.YtjicabpeohpbpabDoorStp
import Derived.RegionCalls
import Derived.Deep.RegionLaw
namespace Go.Proofs.YtjicabpeohpbpabDoor.stp
open Go.ChangeShapes Go.WideShapes Go.ChangeAt Go.RowKit
set_option linter.unusedVariables false
theorem bytes_ext {a b : ByteArray} (e : a.toList = b.toList) : a = b := by
  rw [toList_data, toList_data] at e
  obtain ⟨⟨x⟩⟩ := a
  obtain ⟨⟨y⟩⟩ := b
  simp at e
  rw [e]
theorem eqS_iff (n1 n2 : ByteArray) (x1 x2 : Int) (t1 t2 : Bool) : eqS n1 x1 t1 n2 x2 t2 = (cS ⟨n1, x1, t1⟩ ⟨n2, x2, t2⟩ == 0) := by
  unfold eqS cS
  cases t1
  · cases t2
    · simp [pN, pI]
      rcases cB_tri n1 n2 with ⟨h1, _, h3⟩ | ⟨h1, _, h3⟩ | ⟨h1, _, h3⟩
      · have : n1.toList ≠ n2.toList := fun e => h3 (bytes_ext e)
        simp [h1, this]
      · simp [h1, show n1.toList = n2.toList by rw [h3]]
      · have : n1.toList ≠ n2.toList := fun e => h3 (bytes_ext e)
        simp [h1, this]
    · simp [pN, pI]
  · cases t2
    · simp [pN, pI]
    · simp [pN, pI]
      rcases Int.lt_trichotomy x1 x2 with h | h | h
      · rw [c3_lt h]; simp; omega
      · rw [c3_eq h]; simp [h]
      · rw [c3_gt h]; simp; omega
theorem cS_tri (a b : St) : cS a b = -1 ∨ cS a b = 0 ∨ cS a b = 1 := by
  unfold cS
  cases a.it
  · cases b.it
    · rcases cB_tri a.nm b.nm with ⟨h, _⟩ | ⟨h, _⟩ | ⟨h, _⟩ <;> simp [h]
    · simp
  · cases b.it
    · simp
    · rcases Int.lt_trichotomy a.ix b.ix with h | h | h
      · simp [c3_lt h]
      · simp [c3_eq h]
      · simp [c3_gt h]
end Go.Proofs.YtjicabpeohpbpabDoor.stp
