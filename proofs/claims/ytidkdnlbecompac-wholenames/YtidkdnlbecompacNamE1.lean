import Derived.Test.YtidkdnlbecompacNamW
namespace Go.Proofs.Ytidkdnlbecompac.mem
open Go.ChangeShapes Go.WideShapes Go.ChangeAt Go.RowKit
open ints (hide unhide)
set_option linter.unusedVariables false
set_option maxHeartbeats 4000000 in
set_option maxRecDepth 100000 in
theorem errors1_lit (w : World) : Calls Try.prog 25 #[] w fun e w' => e = .returned (.slice (some ⟨w.heap.size, 0, none⟩) 43 43) ∧ w' = w.alloc (.cells cellsA1 50) := by
  go_enter Try.func25, Try.ntmps25
  go_wp2
  go_ret
  refine ⟨rfl, ?_⟩
  unfold cellsA1
  exact rfl
theorem errors1_any (w : World) : Calls Try.prog 25 #[] w fun e w' => e = .returned (.slice (some ⟨w.heap.size, 0, none⟩) 43 43) ∧ w' = w.alloc (.cells (namCells rows1).toArray 50) := by
  have h := errors1_lit w
  rw [cellsA1_eq] at h
  exact h
end Go.Proofs.Ytidkdnlbecompac.mem
