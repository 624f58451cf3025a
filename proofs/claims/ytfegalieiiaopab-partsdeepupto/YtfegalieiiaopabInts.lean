import Derived.Test.YtfegalieiiaopabRows
import Derived.WalkKit
import Derived.ProofKit
import Derived.OpenShut
import Derived.ShutString
import Derived.Below
namespace Go.Proofs.Ytfegalieiiaopab.ints
open Go.ChangeShapes Go.WideShapes Go.ChangeAt Go.RowKit

theorem hide {p : Prop} (h : p) : Hid p := h
theorem unhide {p : Prop} (h : Hid p) : p := h
theorem within_yes (c a b : Int) (w : World) (h1 : a ≤ c) (h2 : c ≤ b) :
    Calls Try.prog 70 #[.int .i32 c, .int .i32 a, .int .i32 b] w fun e w' => e = .returned (.bool true) ∧ w' = w := by
  go_enter Try.func70, Try.ntmps70
  go_wp2
  go_ret
  exact ⟨rfl, rfl⟩
theorem within_no (c a b : Int) (w : World) (h : ¬ (a ≤ c ∧ c ≤ b)) :
    Calls Try.prog 70 #[.int .i32 c, .int .i32 a, .int .i32 b] w fun e w' => e = .returned (.bool false) ∧ w' = w := by
  by_cases h1 : a ≤ c
  · have h2 : ¬ c ≤ b := by omega
    go_enter Try.func70, Try.ntmps70
    go_wp2
    go_ret
    exact ⟨rfl, rfl⟩
  · go_enter Try.func70, Try.ntmps70
    go_wp2
    go_ret
    exact ⟨rfl, rfl⟩
theorem join_yes (a b : Int) (w : World) (h1 : 55296 ≤ a) (h2 : a ≤ 56319) (h3 : 56320 ≤ b) (h4 : b ≤ 57343) :
    Calls Try.prog 102 #[.int .i32 a, .int .i32 b] w fun e w' => e = .returned (.tuple #[.int .i32 (65536 + (a - 55296) * 1024 + (b - 56320)), .bool true]) ∧ w' = w := by
  go_enter Try.func102, Try.ntmps102
  go_wp2_with (go_at_call 70; refine (within_yes _ _ _ _ (by omega) (by omega)).mono ?_; rintro e w' ⟨rfl, rfl⟩)
  go_ret2
  exact ⟨rfl, rfl⟩
theorem join_no (a b : Int) (w : World) (h : ¬ (55296 ≤ a ∧ a ≤ 56319 ∧ 56320 ≤ b ∧ b ≤ 57343)) :
    Calls Try.prog 102 #[.int .i32 a, .int .i32 b] w fun e w' => e = .returned (.tuple #[.int .i32 0, .bool false]) ∧ w' = w := by
  by_cases h1 : 55296 ≤ a ∧ a ≤ 56319
  · have h2 : ¬ (56320 ≤ b ∧ b ≤ 57343) := by omega
    obtain ⟨h1, h3⟩ := h1
    go_enter Try.func102, Try.ntmps102
    go_wp2_with fail
    refine (within_yes _ _ _ _ h1 h3).mono ?_
    rintro e w' ⟨rfl, rfl⟩
    go_wp2_with fail
    refine (within_no _ _ _ _ h2).mono ?_
    rintro e w' ⟨rfl, rfl⟩
    go_wp2
    go_ret2
    exact ⟨rfl, rfl⟩
  · go_enter Try.func102, Try.ntmps102
    go_wp2_with fail
    refine (within_no _ _ _ _ h1).mono ?_
    rintro e w' ⟨rfl, rfl⟩
    go_wp2
    go_ret2
    exact ⟨rfl, rfl⟩
end Go.Proofs.Ytfegalieiiaopab.ints
