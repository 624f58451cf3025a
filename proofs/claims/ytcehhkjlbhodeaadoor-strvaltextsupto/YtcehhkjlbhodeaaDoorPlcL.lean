import Derived.Test.YtcehhkjlbhodeaaDoorPlcR
import Derived.Test.YtcehhkjlbhodeaaDoorAwk
namespace Go.Proofs.YtcehhkjlbhodeaaDoor.mem
open Go.ChangeShapes Go.WideShapes Go.ChangeAt Go.RowKit
open ints (hide unhide)
set_option linter.unusedVariables false

theorem posCells_get (ps : List (Int × Int)) (m : Nat) (h : m < ps.length) : (posCells ps)[m * 2]? = some (.int .i64 (ps[m]).1) ∧ (posCells ps)[m * 2 + 1]? = some (.int .i64 (ps[m]).2) := by
  induction ps generalizing m with
  | nil => simp at h
  | cons p ps ih =>
    cases m with
    | zero => exact ⟨rfl, rfl⟩
    | succ m =>
      have := ih m (by simpa using h)
      have e : posCells (p :: ps) = .int .i64 p.1 :: .int .i64 p.2 :: posCells ps := rfl
      rw [e, show (m + 1) * 2 = m * 2 + 1 + 1 from by omega]
      simpa using this
theorem plist_get (l : List Int) (k m : Nat) (h : m < k) : (plist l k)[m]'(by rw [plist_len]; exact h) = posT l m := by simp [plist]
theorem wf64 {i : Int} (h : (Lit.int .i64 i).wf = true) : -9223372036854775808 ≤ i ∧ i ≤ 9223372036854775807 := by
  simpa [Lit.wf, IntKind.min, IntKind.max, IntKind.signed, IntKind.bits] using h
end Go.Proofs.YtcehhkjlbhodeaaDoor.mem
