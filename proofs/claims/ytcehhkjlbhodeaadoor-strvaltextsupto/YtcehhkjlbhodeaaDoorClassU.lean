import Derived.Test.YtcehhkjlbhodeaaDoorInW
namespace Go.Proofs.YtcehhkjlbhodeaaDoor.ints
open Go.ChangeShapes Go.WideShapes Go.ChangeAt Go.RowKit
set_option linter.unusedVariables false

def nsP (c : Int) : Prop := (65 ≤ c ∧ c ≤ 90) ∨ (97 ≤ c ∧ c ≤ 122) ∨ c = 95
def nrP (c : Int) : Prop := nsP c ∨ (48 ≤ c ∧ c ≤ 57)
def blP (c : Int) : Prop := c = 9 ∨ c = 10 ∨ c = 13 ∨ c = 32 ∨ c = 44 ∨ c = 65279
def soP (c : Int) : Prop := c = 9 ∨ c = 10 ∨ c = 13 ∨ (32 ≤ c ∧ c ≤ 55295) ∨ (57344 ≤ c ∧ c ≤ 65535)
theorem so_yes (c : Int) (w : World) (h : soP c) :
    Calls Tryd.prog 35 #[.int .i32 c] w fun e w' => e = .returned (.bool true) ∧ w' = w := by
  rcases h with rfl | rfl | rfl | ⟨h1, h2⟩ | ⟨h1, h2⟩
  · go_enter Tryd.func35, Tryd.ntmps35
    go_wp2
    go_ret
    exact ⟨rfl, rfl⟩
  · go_enter Tryd.func35, Tryd.ntmps35
    go_wp2
    go_ret
    exact ⟨rfl, rfl⟩
  · go_enter Tryd.func35, Tryd.ntmps35
    go_wp2
    go_ret
    exact ⟨rfl, rfl⟩
  · have b0 : (c == 9) = false := by simp; omega
    have b1 : (c == 10) = false := by simp; omega
    have b2 : (c == 13) = false := by simp; omega
    go_enter Tryd.func35, Tryd.ntmps35
    go_wp2_with fail
    refine (within_yes _ _ _ _ h1 h2).mono ?_
    rintro e w' ⟨rfl, rfl⟩
    go_wp2
    go_ret
    exact ⟨rfl, rfl⟩
  · have b0 : (c == 9) = false := by simp; omega
    have b1 : (c == 10) = false := by simp; omega
    have b2 : (c == 13) = false := by simp; omega
    have h0 : ¬ (32 ≤ c ∧ c ≤ 55295) := by omega
    go_enter Tryd.func35, Tryd.ntmps35
    go_wp2_with fail
    refine (within_no _ _ _ _ h0).mono ?_
    rintro e w' ⟨rfl, rfl⟩
    go_wp2_with fail
    refine (within_yes _ _ _ _ h1 h2).mono ?_
    rintro e w' ⟨rfl, rfl⟩
    go_wp2
    go_ret
    exact ⟨rfl, rfl⟩
theorem so_no (c : Int) (w : World) (h : ¬ soP c) :
    Calls Tryd.prog 35 #[.int .i32 c] w fun e w' => e = .returned (.bool false) ∧ w' = w := by
  unfold soP at h
  have b0 : (c == 9) = false := by simp; omega
  have b1 : (c == 10) = false := by simp; omega
  have b2 : (c == 13) = false := by simp; omega
  have h0 : ¬ (32 ≤ c ∧ c ≤ 55295) := by omega
  have h1 : ¬ (57344 ≤ c ∧ c ≤ 65535) := by omega
  clear h
  go_enter Tryd.func35, Tryd.ntmps35
  go_wp2_with fail
  refine (within_no _ _ _ _ h0).mono ?_
  rintro e w' ⟨rfl, rfl⟩
  go_wp2_with fail
  refine (within_no _ _ _ _ h1).mono ?_
  rintro e w' ⟨rfl, rfl⟩
  go_wp2
  go_ret
  exact ⟨rfl, rfl⟩
def hexV (c : Int) : Int := if 48 ≤ c ∧ c ≤ 57 then c - 48 else if 97 ≤ c ∧ c ≤ 102 then c - 97 + 10 else if 65 ≤ c ∧ c ≤ 70 then c - 65 + 10 else -1
theorem ret_int {k : IntKind} {a b : Int} (h : a = b) : Ending.returned (.int k a) = .returned (.int k b) := by rw [h]
end Go.Proofs.YtcehhkjlbhodeaaDoor.ints
