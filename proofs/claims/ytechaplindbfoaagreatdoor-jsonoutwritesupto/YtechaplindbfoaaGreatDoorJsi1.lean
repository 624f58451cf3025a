import Derived.Test.YtechaplindbfoaaGreatDoorJpa13
namespace Go.Proofs.YtechaplindbfoaaGreatDoor.mem
open Go.ChangeShapes Go.WideShapes Go.ChangeAt Go.RowKit
open ints (hide unhide)
set_option linter.unusedVariables false

theorem rsc_yes (c : Int) (w : World) (h : scP c) :
    Calls Tryz.prog 125 #[.int .i32 c] w fun e w' => e = .returned (.bool true) ∧ w' = w := by
  rcases h with ⟨h1, h2⟩ | ⟨h1, h2⟩
  · have a1 : ¬ 55296 ≤ c := by omega
    have a2 : c ≤ 1114111 := by omega
    go_enter Tryz.func125, Tryz.ntmps125
    go_wp2
    go_ret
    exact ⟨rfl, rfl⟩
  · have a1 : 55296 ≤ c := by omega
    have a2 : ¬ c ≤ 57343 := by omega
    have a3 : 0 ≤ c := by omega
    go_enter Tryz.func125, Tryz.ntmps125
    go_wp2
    go_ret
    exact ⟨rfl, rfl⟩
theorem rsc_no (c : Int) (w : World) (h : ¬ scP c) :
    Calls Tryz.prog 125 #[.int .i32 c] w fun e w' => e = .returned (.bool false) ∧ w' = w := by
  unfold scP at h
  by_cases h1 : c < 0
  · have a1 : ¬ 55296 ≤ c := by omega
    have a2 : ¬ 0 ≤ c := by omega
    go_enter Tryz.func125, Tryz.ntmps125
    go_wp2
    go_ret
    exact ⟨rfl, rfl⟩
  by_cases h2 : c ≤ 57343
  · have a1 : 55296 ≤ c := by omega
    go_enter Tryz.func125, Tryz.ntmps125
    go_wp2
    go_ret
    exact ⟨rfl, rfl⟩
  have a1 : 55296 ≤ c := by omega
  have a2 : 0 ≤ c := by omega
  have a3 : ¬ c ≤ 1114111 := by omega
  go_enter Tryz.func125, Tryz.ntmps125
  go_wp2
  go_ret
  exact ⟨rfl, rfl⟩

theorem put_no (c : Int) (w : World) (h : ¬ scP c) :
    Calls Tryz.prog 103 #[.int .i32 c] w fun e w' => e = .returned (.slice none 0 0) ∧ w' = w := by
  go_enter Tryz.func103, Tryz.ntmps103
  go_wp2_with fail
  refine (rsc_no _ _ h).mono ?_
  rintro e w' ⟨rfl, rfl⟩
  go_wp2
  go_ret
  exact ⟨rfl, rfl⟩
theorem put_lit (w : World) (zs : List Int) (m : Nat) (hm : m ≤ maxLen) (hl : zs.length = m) :
    (w.alloc (.cells (zs.map (Value.int .u8)).toArray 5)).ownsRow w.heap.size 5 1 (.slice (some ⟨w.heap.size, 0, none⟩) m m) m (zs.map (Value.int .u8)) := by
  have := World.ownsRow_lit (base := w.heap.size) (e := 5) (size := 1) w (zs.map (Value.int .u8)).toArray m (Nat.le_refl _) hm (by simp [hl])
  simpa using this
set_option maxHeartbeats 1000000 in
theorem put_yes (c : Int) (w : World) (h : scP c) :
    Calls Tryz.prog 103 #[.int .i32 c] w fun e w' => e = .returned (.slice (some ⟨w.heap.size, 0, none⟩) (putB c).length (putB c).length) ∧ w' = w.alloc (.cells ((putB c).map (Value.int .u8)).toArray 5) := by
  have hc0 : 0 ≤ c := by unfold scP at h; omega
  have hc1 : c ≤ 1114111 := by unfold scP at h; omega
  by_cases h1 : c < 128
  · rw [putB_1 h1]
    go_enter Tryz.func103, Tryz.ntmps103
    go_wp2_with fail
    refine (rsc_yes _ _ h).mono ?_
    rintro e w' ⟨rfl, rfl⟩
    go_wp2
    go_ret
    exact ⟨rfl, rfl⟩
  by_cases h2 : c < 2048
  · rw [putB_2 (by omega) h2]
    go_enter Tryz.func103, Tryz.ntmps103
    go_wp2_with fail
    refine (rsc_yes _ _ h).mono ?_
    rintro e w' ⟨rfl, rfl⟩
    go_wp2
    go_ret
    exact ⟨rfl, rfl⟩
  by_cases h3 : c < 65536
  · rw [putB_3 (by omega) h3]
    go_enter Tryz.func103, Tryz.ntmps103
    go_wp2_with fail
    refine (rsc_yes _ _ h).mono ?_
    rintro e w' ⟨rfl, rfl⟩
    go_wp2
    go_ret
    exact ⟨rfl, rfl⟩
  rw [putB_4 (by omega)]
  go_enter Tryz.func103, Tryz.ntmps103
  go_wp2_with fail
  refine (rsc_yes _ _ h).mono ?_
  rintro e w' ⟨rfl, rfl⟩
  go_wp2
  go_ret
  exact ⟨rfl, rfl⟩

end Go.Proofs.YtechaplindbfoaaGreatDoor.mem
