import Derived.Test.YtjlaoeigfokkiaaGreatDoorNri3
import Derived.OneCell
namespace Go.Proofs.YtjlaoeigfokkiaaGreatDoor.mem
open Go.ChangeShapes Go.WideShapes Go.ChangeAt Go.RowKit
open ints (hide unhide)
set_option linter.unusedVariables false

/-- What Digits writes: n digits, and no fewer would do. -/
structure Dec10 (u n : Nat) : Prop where
  pos : 0 < n
  le : n ≤ 20
  lt : u < 10 ^ n
  low : n = 1 ∨ 10 ^ (n - 1) ≤ u
end Go.Proofs.YtjlaoeigfokkiaaGreatDoor.mem
