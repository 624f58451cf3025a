import Derived.Test.YtcehhkjlbhodeaaDoorInts
namespace Go.Proofs.YtcehhkjlbhodeaaDoor.ints
open Go.ChangeShapes Go.WideShapes Go.ChangeAt Go.RowKit

theorem rsplit_yes (c : Int) (w : World) (h1 : 65536 ≤ c) (h2 : c ≤ 1114111) :
    Calls Tryd.prog 34 #[.int .i32 c] w fun e w' => e = .returned (.tuple #[.int .i32 (55296 + (c - 65536) / 1024), .int .i32 (56320 + (c - 65536) % 1024), .bool true]) ∧ w' = w := by
  go_enter Tryd.func34, Tryd.ntmps34
  go_wp2
  go_ret3
  exact ⟨rfl, rfl⟩
theorem rsplit_no (c : Int) (w : World) (h : ¬ (65536 ≤ c ∧ c ≤ 1114111)) :
    Calls Tryd.prog 34 #[.int .i32 c] w fun e w' => e = .returned (.tuple #[.int .i32 0, .int .i32 0, .bool false]) ∧ w' = w := by
  by_cases h1 : c < 65536
  · go_enter Tryd.func34, Tryd.ntmps34
    go_wp2
    go_ret3
    exact ⟨rfl, rfl⟩
  have h2 : 1114111 < c := by omega
  go_enter Tryd.func34, Tryd.ntmps34
  go_wp2
  go_ret3
  exact ⟨rfl, rfl⟩
theorem splitted (c : Int) : ∃ (x z : Int) (y : Bool), (∀ w, Calls Tryd.prog 28 #[.int .i32 c] w fun e w' => e = .returned (.tuple #[.int .i32 x, .int .i32 z, .bool y]) ∧ w' = w) ∧
    ∀ w, Calls Tryd.prog 34 #[.int .i32 c] w fun e w' => e = .returned (.tuple #[.int .i32 x, .int .i32 z, .bool y]) ∧ w' = w := by
  by_cases h : 65536 ≤ c ∧ c ≤ 1114111
  · exact ⟨_, _, _, fun w => split_yes c w h.1 h.2, fun w => rsplit_yes c w h.1 h.2⟩
  · exact ⟨_, _, _, fun w => split_no c w h, fun w => rsplit_no c w h⟩
end Go.Proofs.YtcehhkjlbhodeaaDoor.ints
