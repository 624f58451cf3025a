import Derived.Test.YtechaplindbfoaaGreatDoorJsa9
namespace Go.Proofs.YtechaplindbfoaaGreatDoor.og
theorem equal_root : True := by
  have := @equal_ok
  have := @cFl_num
  have := @c3_zero
  have := @stp.cB_tri
  trivial
end Go.Proofs.YtechaplindbfoaaGreatDoor.og
