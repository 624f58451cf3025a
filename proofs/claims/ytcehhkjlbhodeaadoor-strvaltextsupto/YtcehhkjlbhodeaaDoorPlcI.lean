import Derived.Test.YtcehhkjlbhodeaaDoorPlcU
namespace Go.Proofs.YtcehhkjlbhodeaaDoor.mem
open Go.ChangeShapes Go.WideShapes Go.ChangeAt Go.RowKit
open ints (hide unhide)
set_option linter.unusedVariables false

def clampN (i : Int) (n : Nat) : Nat := if i < 0 then 0 else if (n : Int) < i then n else i.toNat
theorem clampN_le (i : Int) (n : Nat) : clampN i n ≤ n := by
  unfold clampN
  repeat' split
  all_goals omega
theorem clampN_eq (i : Int) (n : Nat) : max 0 (min i (n : Int)) = (clampN i n : Int) := by
  unfold clampN
  repeat' split
  all_goals omega
end Go.Proofs.YtcehhkjlbhodeaaDoor.mem
