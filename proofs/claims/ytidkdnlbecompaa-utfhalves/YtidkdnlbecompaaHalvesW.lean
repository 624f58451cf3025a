import Derived.Test.YtidkdnlbecompaaInts
namespace Go.Proofs.Ytidkdnlbecompaa.ints
open Go.ChangeShapes Go.WideShapes Go.ChangeAt Go.RowKit

theorem rjoin_yes (a b : Int) (w : World) (h1 : 55296 ≤ a) (h2 : a ≤ 56319) (h3 : 56320 ≤ b) (h4 : b ≤ 57343) :
    Calls Try.prog 35 #[.int .i32 a, .int .i32 b] w fun e w' => e = .returned (.tuple #[.int .i32 (65536 + (a - 55296) * 1024 + (b - 56320)), .bool true]) ∧ w' = w := by
  go_enter Try.func35, Try.ntmps35
  go_wp2
  go_ret2
  exact ⟨rfl, rfl⟩
theorem rjoin_no (a b : Int) (w : World) (h : ¬ (55296 ≤ a ∧ a ≤ 56319 ∧ 56320 ≤ b ∧ b ≤ 57343)) :
    Calls Try.prog 35 #[.int .i32 a, .int .i32 b] w fun e w' => e = .returned (.tuple #[.int .i32 0, .bool false]) ∧ w' = w := by
  by_cases h1 : a < 55296
  · go_enter Try.func35, Try.ntmps35
    go_wp2
    go_ret2
    exact ⟨rfl, rfl⟩
  by_cases h2 : 56319 < a
  · go_enter Try.func35, Try.ntmps35
    go_wp2
    go_ret2
    exact ⟨rfl, rfl⟩
  by_cases h3 : b < 56320
  · go_enter Try.func35, Try.ntmps35
    go_wp2
    go_ret2
    exact ⟨rfl, rfl⟩
  have h4 : 57343 < b := by omega
  go_enter Try.func35, Try.ntmps35
  go_wp2
  go_ret2
  exact ⟨rfl, rfl⟩
theorem rsplit_yes (c : Int) (w : World) (h1 : 65536 ≤ c) (h2 : c ≤ 1114111) :
    Calls Try.prog 37 #[.int .i32 c] w fun e w' => e = .returned (.tuple #[.int .i32 (55296 + (c - 65536) / 1024), .int .i32 (56320 + (c - 65536) % 1024), .bool true]) ∧ w' = w := by
  go_enter Try.func37, Try.ntmps37
  go_wp2
  go_ret3
  exact ⟨rfl, rfl⟩
theorem rsplit_no (c : Int) (w : World) (h : ¬ (65536 ≤ c ∧ c ≤ 1114111)) :
    Calls Try.prog 37 #[.int .i32 c] w fun e w' => e = .returned (.tuple #[.int .i32 0, .int .i32 0, .bool false]) ∧ w' = w := by
  by_cases h1 : c < 65536
  · go_enter Try.func37, Try.ntmps37
    go_wp2
    go_ret3
    exact ⟨rfl, rfl⟩
  have h2 : 1114111 < c := by omega
  go_enter Try.func37, Try.ntmps37
  go_wp2
  go_ret3
  exact ⟨rfl, rfl⟩
theorem joined (a b : Int) : ∃ (x : Int) (y : Bool), (∀ w, Calls Try.prog 34 #[.int .i32 a, .int .i32 b] w fun e w' => e = .returned (.tuple #[.int .i32 x, .bool y]) ∧ w' = w) ∧
    ∀ w, Calls Try.prog 35 #[.int .i32 a, .int .i32 b] w fun e w' => e = .returned (.tuple #[.int .i32 x, .bool y]) ∧ w' = w := by
  by_cases h : 55296 ≤ a ∧ a ≤ 56319 ∧ 56320 ≤ b ∧ b ≤ 57343
  · obtain ⟨h1, h2, h3, h4⟩ := h
    exact ⟨_, _, fun w => join_yes a b w h1 h2 h3 h4, fun w => rjoin_yes a b w h1 h2 h3 h4⟩
  · exact ⟨_, _, fun w => join_no a b w h, fun w => rjoin_no a b w h⟩
theorem splitted (c : Int) : ∃ (x z : Int) (y : Bool), (∀ w, Calls Try.prog 36 #[.int .i32 c] w fun e w' => e = .returned (.tuple #[.int .i32 x, .int .i32 z, .bool y]) ∧ w' = w) ∧
    ∀ w, Calls Try.prog 37 #[.int .i32 c] w fun e w' => e = .returned (.tuple #[.int .i32 x, .int .i32 z, .bool y]) ∧ w' = w := by
  by_cases h : 65536 ≤ c ∧ c ≤ 1114111
  · exact ⟨_, _, _, fun w => split_yes c w h.1 h.2, fun w => rsplit_yes c w h.1 h.2⟩
  · exact ⟨_, _, _, fun w => split_no c w h, fun w => rsplit_no c w h⟩
theorem halves_true (a b : Int) (w : World) :
    Calls Try.prog 11 #[.int .i32 a, .int .i32 b] w fun e w' => e = .returned (.bool true) ∧ w' = w := by
  obtain ⟨x, y, hj, hr⟩ := joined a b
  obtain ⟨x2, z2, y2, hs, hq⟩ := splitted a
  have Hj := hide hj
  have Hr := hide hr
  have Hs := hide hs
  have Hq := hide hq
  clear hj hr hs hq
  go_enter Try.func11, Try.ntmps11
  go_wp2_with fail
  refine ((unhide Hj) _).mono ?_
  rintro e w' ⟨rfl, rfl⟩
  go_wp2_with fail
  refine ((unhide Hr) _).mono ?_
  rintro e w' ⟨rfl, rfl⟩
  go_wp2_with fail
  refine ((unhide Hs) _).mono ?_
  rintro e w' ⟨rfl, rfl⟩
  go_wp2_with fail
  refine ((unhide Hq) _).mono ?_
  rintro e w' ⟨rfl, rfl⟩
  go_wp2
  go_ret
  exact ⟨rfl, rfl⟩
end Go.Proofs.Ytidkdnlbecompaa.ints
