import Derived.Test.YtidkdnlbecompabInts
namespace Go.Proofs.Ytidkdnlbecompab.ints
open Go.ChangeShapes Go.WideShapes Go.ChangeAt Go.RowKit

theorem pairs_true (c : Int) (w : World) (h1 : 65536 ≤ c) (h2 : c ≤ 1114111) :
    Calls Try.prog 19 #[.int .i32 c] w fun e w' => e = .returned (.bool true) ∧ w' = w := by
  obtain ⟨h, hh⟩ : ∃ h, h = 55296 + (c - 65536) / 1024 := ⟨_, rfl⟩
  obtain ⟨l, hl⟩ : ∃ l, l = 56320 + (c - 65536) % 1024 := ⟨_, rfl⟩
  have a1 : 55296 ≤ h := by omega
  have a2 : h ≤ 56319 := by omega
  have a3 : 56320 ≤ l := by omega
  have a4 : l ≤ 57343 := by omega
  have hc : 65536 + (h - 55296) * 1024 + (l - 56320) = c := by omega
  have hs := hide (split_yes c)
  have hj := hide (join_yes h l)
  have hn := hide (join_no l h)
  rw [← hh, ← hl] at hs
  rw [hc] at hj
  have b1 : ¬ h < 55296 := by omega
  have b2 : ¬ 56319 < h := by omega
  have b3 : ¬ l < 56320 := by omega
  have b4 : ¬ 57343 < l := by omega
  clear hh hl hc
  go_enter Try.func19, Try.ntmps19
  go_wp2_with fail
  refine ((unhide hs) _ h1 h2).mono ?_
  rintro e w' ⟨rfl, rfl⟩
  go_wp2_with fail
  refine ((unhide hj) _ a1 a2 a3 a4).mono ?_
  rintro e w' ⟨rfl, rfl⟩
  go_wp2_with fail
  refine ((unhide hn) _ (by omega)).mono ?_
  rintro e w' ⟨rfl, rfl⟩
  go_wp2
  go_ret
  exact ⟨rfl, rfl⟩
end Go.Proofs.Ytidkdnlbecompab.ints
