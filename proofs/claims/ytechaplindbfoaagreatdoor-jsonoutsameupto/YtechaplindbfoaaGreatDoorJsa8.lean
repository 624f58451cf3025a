import Derived.Test.YtechaplindbfoaaGreatDoorJsa7
namespace Go.Proofs.YtechaplindbfoaaGreatDoor.og
open Go.ChangeShapes Go.WideShapes Go.ChangeAt Go.RowKit
open vl hiding cB cFl cS cF cI cK cIt
open stp (c3 c3_lt c3_gt c3_eq cB cB_tri)
open mem (dec_fin dec_inf dec_nan word_of order_fin sv)
set_option linter.unusedVariables false
set_option linter.unusedSimpArgs false
theorem keyF_inj (a b : Nat) (ha : a < 18446744073709551616) (hb : b < 18446744073709551616) (na : nanF a = false) (nb : nanF b = false) (h : keyF a = keyF b) : a = b := by
  unfold keyF at h
  rw [na, nb] at h
  simp only [Bool.false_eq_true, if_false] at h
  by_cases h1 : 9223372036854775808 ≤ a <;> by_cases h2 : 9223372036854775808 ≤ b <;> simp only [h1, h2, if_true, if_false] at h <;> omega
theorem cFl_num (a b : Nat) (ha : a < 18446744073709551616) (hb : b < 18446744073709551616) (na : nanF a = false) (nb : nanF b = false) : (cFl a b == 0) = (a == b) := by
  by_cases h : a = b
  · subst h
    simp [cFl, sameF]
  · rw [show (a == b) = false by simpa using h, cFl_key a b ha hb]
    have : c3 (keyF a) (keyF b) ≠ 0 := fun e => h (keyF_inj a b ha hb na nb (c3_zero e))
    simpa using this
end Go.Proofs.YtechaplindbfoaaGreatDoor.og
