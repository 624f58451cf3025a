import Derived.Test.YtfjoaifcfmcnfabGreatDoorMem
import Derived.WalkLawsBesides
namespace Go.Proofs.YtfjoaifcfmcnfabGreatDoor.mem
open Go.ChangeShapes Go.WideShapes Go.ChangeAt Go.RowKit
open ints (hide unhide)
set_option linter.unusedVariables false

def scP (c : Int) : Prop := (0 ≤ c ∧ c ≤ 55295) ∨ (57344 ≤ c ∧ c ≤ 1114111)
def scB (c : Int) : Bool := (decide (0 ≤ c) && decide (c ≤ 55295)) || (decide (57344 ≤ c) && decide (c ≤ 1114111))
theorem scB_iff (c : Int) : scB c = true ↔ scP c := by simp [scB, scP]
def putB (c : Int) : List Int :=
  if c < 128 then [c]
  else if c < 2048 then [192 + c / 64, 128 + c % 64]
  else if c < 65536 then [224 + c / 4096, 128 + c / 64 % 64, 128 + c % 64]
  else [240 + c / 262144, 128 + c / 4096 % 64, 128 + c / 64 % 64, 128 + c % 64]
theorem putB_len (c : Int) : 1 ≤ (putB c).length ∧ (putB c).length ≤ 4 := by
  unfold putB; repeat' split
  all_goals simp
theorem putB_1 {c : Int} (h : c < 128) : putB c = [c] := if_pos h
theorem putB_2 {c : Int} (h0 : 128 ≤ c) (h : c < 2048) : putB c = [192 + c / 64, 128 + c % 64] := by
  unfold putB; rw [if_neg (by omega), if_pos h]
theorem putB_3 {c : Int} (h0 : 2048 ≤ c) (h : c < 65536) : putB c = [224 + c / 4096, 128 + c / 64 % 64, 128 + c % 64] := by
  unfold putB; rw [if_neg (by omega), if_neg (by omega), if_pos h]
theorem putB_4 {c : Int} (h0 : 65536 ≤ c) : putB c = [240 + c / 262144, 128 + c / 4096 % 64, 128 + c / 64 % 64, 128 + c % 64] := by
  unfold putB; rw [if_neg (by omega), if_neg (by omega), if_neg (by omega)]

end Go.Proofs.YtfjoaifcfmcnfabGreatDoor.mem
