import Derived.Test.YtdfdicgfldcngaaBase
import Derived.Test.YtdfdicgfldcngaaPfx
namespace Go.Proofs.Ytdfdicgfldcngaa.mem
open Go.ChangeShapes Go.WideShapes Go.ChangeAt Go.RowKit
open ints (hide unhide)
set_option linter.unusedVariables false

theorem step_0 (c : Int) (w : World) : Calls Try.prog 35 #[.int .i64 0, .int .i32 c] w fun e w' => e = .returned (.int .i64 (stepZ 0 c)) ∧ Below w.heap.size w w' := by
  by_cases c45 : c = 45
  · subst c45
    go_enter Try.func35, Try.ntmps35
    go_wp2
    go_ret
    exact ⟨rfl, Below.refl _ _⟩
  by_cases c43 : c = 43
  · subst c43
    go_enter Try.func35, Try.ntmps35
    go_wp2
    go_ret
    exact ⟨rfl, Below.refl _ _⟩
  by_cases c46 : c = 46
  · subst c46
    go_enter Try.func35, Try.ntmps35
    go_wp2
    go_ret
    exact ⟨rfl, Below.refl _ _⟩
  by_cases c48 : c = 48
  · subst c48
    go_enter Try.func35, Try.ntmps35
    go_wp2
    go_ret
    exact ⟨rfl, Below.refl _ _⟩
  by_cases c101 : c = 101
  · subst c101
    go_enter Try.func35, Try.ntmps35
    go_wp2
    go_ret
    exact ⟨rfl, Below.refl _ _⟩
  by_cases c69 : c = 69
  · subst c69
    go_enter Try.func35, Try.ntmps35
    go_wp2
    go_ret
    exact ⟨rfl, Below.refl _ _⟩
  have n45 : (c == 45) = false := by simpa using c45
  have n43 : (c == 43) = false := by simpa using c43
  have n46 : (c == 46) = false := by simpa using c46
  have n48 : (c == 48) = false := by simpa using c48
  have n101 : (c == 101) = false := by simpa using c101
  have n69 : (c == 69) = false := by simpa using c69
  by_cases d1 : 48 ≤ c
  · by_cases d2 : c ≤ 57
    · skip
      have hd : digB c = true := by simp [digB]; omega
      have HS := hide (show stepZ 0 c = 3 from by unfold stepZ; rw [hd]; (repeat' split) <;> first | rfl | omega | simp_all)
      clear hd
      go_enter Try.func35, Try.ntmps35
      go_wp2
      go_ret
      exact ⟨by rw [unhide HS]; rfl, Below.refl _ _⟩
    · skip
      have hd : digB c = false := by simp [digB]; omega
      have HS := hide (show stepZ 0 c = -1 from by unfold stepZ; rw [hd]; (repeat' split) <;> first | rfl | omega | simp_all)
      clear hd
      go_enter Try.func35, Try.ntmps35
      go_wp2
      go_ret
      exact ⟨by rw [unhide HS]; rfl, Below.refl _ _⟩
  · skip
    have hd : digB c = false := by simp [digB]; omega
    have HS := hide (show stepZ 0 c = -1 from by unfold stepZ; rw [hd]; (repeat' split) <;> first | rfl | omega | simp_all)
    clear hd
    go_enter Try.func35, Try.ntmps35
    go_wp2
    go_ret
    exact ⟨by rw [unhide HS]; rfl, Below.refl _ _⟩
theorem step_1 (c : Int) (w : World) : Calls Try.prog 35 #[.int .i64 1, .int .i32 c] w fun e w' => e = .returned (.int .i64 (stepZ 1 c)) ∧ Below w.heap.size w w' := by
  by_cases c45 : c = 45
  · subst c45
    go_enter Try.func35, Try.ntmps35
    go_wp2
    go_ret
    exact ⟨rfl, Below.refl _ _⟩
  by_cases c43 : c = 43
  · subst c43
    go_enter Try.func35, Try.ntmps35
    go_wp2
    go_ret
    exact ⟨rfl, Below.refl _ _⟩
  by_cases c46 : c = 46
  · subst c46
    go_enter Try.func35, Try.ntmps35
    go_wp2
    go_ret
    exact ⟨rfl, Below.refl _ _⟩
  by_cases c48 : c = 48
  · subst c48
    go_enter Try.func35, Try.ntmps35
    go_wp2
    go_ret
    exact ⟨rfl, Below.refl _ _⟩
  by_cases c101 : c = 101
  · subst c101
    go_enter Try.func35, Try.ntmps35
    go_wp2
    go_ret
    exact ⟨rfl, Below.refl _ _⟩
  by_cases c69 : c = 69
  · subst c69
    go_enter Try.func35, Try.ntmps35
    go_wp2
    go_ret
    exact ⟨rfl, Below.refl _ _⟩
  have n45 : (c == 45) = false := by simpa using c45
  have n43 : (c == 43) = false := by simpa using c43
  have n46 : (c == 46) = false := by simpa using c46
  have n48 : (c == 48) = false := by simpa using c48
  have n101 : (c == 101) = false := by simpa using c101
  have n69 : (c == 69) = false := by simpa using c69
  by_cases d1 : 48 ≤ c
  · by_cases d2 : c ≤ 57
    · skip
      have hd : digB c = true := by simp [digB]; omega
      have HS := hide (show stepZ 1 c = 3 from by unfold stepZ; rw [hd]; (repeat' split) <;> first | rfl | omega | simp_all)
      clear hd
      go_enter Try.func35, Try.ntmps35
      go_wp2
      go_ret
      exact ⟨by rw [unhide HS]; rfl, Below.refl _ _⟩
    · skip
      have hd : digB c = false := by simp [digB]; omega
      have HS := hide (show stepZ 1 c = -1 from by unfold stepZ; rw [hd]; (repeat' split) <;> first | rfl | omega | simp_all)
      clear hd
      go_enter Try.func35, Try.ntmps35
      go_wp2
      go_ret
      exact ⟨by rw [unhide HS]; rfl, Below.refl _ _⟩
  · skip
    have hd : digB c = false := by simp [digB]; omega
    have HS := hide (show stepZ 1 c = -1 from by unfold stepZ; rw [hd]; (repeat' split) <;> first | rfl | omega | simp_all)
    clear hd
    go_enter Try.func35, Try.ntmps35
    go_wp2
    go_ret
    exact ⟨by rw [unhide HS]; rfl, Below.refl _ _⟩
theorem step_2 (c : Int) (w : World) : Calls Try.prog 35 #[.int .i64 2, .int .i32 c] w fun e w' => e = .returned (.int .i64 (stepZ 2 c)) ∧ Below w.heap.size w w' := by
  by_cases c45 : c = 45
  · subst c45
    go_enter Try.func35, Try.ntmps35
    go_wp2
    go_ret
    exact ⟨rfl, Below.refl _ _⟩
  by_cases c43 : c = 43
  · subst c43
    go_enter Try.func35, Try.ntmps35
    go_wp2
    go_ret
    exact ⟨rfl, Below.refl _ _⟩
  by_cases c46 : c = 46
  · subst c46
    go_enter Try.func35, Try.ntmps35
    go_wp2
    go_ret
    exact ⟨rfl, Below.refl _ _⟩
  by_cases c48 : c = 48
  · subst c48
    go_enter Try.func35, Try.ntmps35
    go_wp2
    go_ret
    exact ⟨rfl, Below.refl _ _⟩
  by_cases c101 : c = 101
  · subst c101
    go_enter Try.func35, Try.ntmps35
    go_wp2
    go_ret
    exact ⟨rfl, Below.refl _ _⟩
  by_cases c69 : c = 69
  · subst c69
    go_enter Try.func35, Try.ntmps35
    go_wp2
    go_ret
    exact ⟨rfl, Below.refl _ _⟩
  have n45 : (c == 45) = false := by simpa using c45
  have n43 : (c == 43) = false := by simpa using c43
  have n46 : (c == 46) = false := by simpa using c46
  have n48 : (c == 48) = false := by simpa using c48
  have n101 : (c == 101) = false := by simpa using c101
  have n69 : (c == 69) = false := by simpa using c69
  by_cases d1 : 48 ≤ c
  · by_cases d2 : c ≤ 57
    · skip
      have hd : digB c = true := by simp [digB]; omega
      have HS := hide (show stepZ 2 c = -1 from by unfold stepZ; rw [hd]; (repeat' split) <;> first | rfl | omega | simp_all)
      clear hd
      go_enter Try.func35, Try.ntmps35
      go_wp2
      go_ret
      exact ⟨by rw [unhide HS]; rfl, Below.refl _ _⟩
    · skip
      have hd : digB c = false := by simp [digB]; omega
      have HS := hide (show stepZ 2 c = -1 from by unfold stepZ; rw [hd]; (repeat' split) <;> first | rfl | omega | simp_all)
      clear hd
      go_enter Try.func35, Try.ntmps35
      go_wp2
      go_ret
      exact ⟨by rw [unhide HS]; rfl, Below.refl _ _⟩
  · skip
    have hd : digB c = false := by simp [digB]; omega
    have HS := hide (show stepZ 2 c = -1 from by unfold stepZ; rw [hd]; (repeat' split) <;> first | rfl | omega | simp_all)
    clear hd
    go_enter Try.func35, Try.ntmps35
    go_wp2
    go_ret
    exact ⟨by rw [unhide HS]; rfl, Below.refl _ _⟩
theorem step_3 (c : Int) (w : World) : Calls Try.prog 35 #[.int .i64 3, .int .i32 c] w fun e w' => e = .returned (.int .i64 (stepZ 3 c)) ∧ Below w.heap.size w w' := by
  by_cases c45 : c = 45
  · subst c45
    go_enter Try.func35, Try.ntmps35
    go_wp2
    go_ret
    exact ⟨rfl, Below.refl _ _⟩
  by_cases c43 : c = 43
  · subst c43
    go_enter Try.func35, Try.ntmps35
    go_wp2
    go_ret
    exact ⟨rfl, Below.refl _ _⟩
  by_cases c46 : c = 46
  · subst c46
    go_enter Try.func35, Try.ntmps35
    go_wp2
    go_ret
    exact ⟨rfl, Below.refl _ _⟩
  by_cases c48 : c = 48
  · subst c48
    go_enter Try.func35, Try.ntmps35
    go_wp2
    go_ret
    exact ⟨rfl, Below.refl _ _⟩
  by_cases c101 : c = 101
  · subst c101
    go_enter Try.func35, Try.ntmps35
    go_wp2
    go_ret
    exact ⟨rfl, Below.refl _ _⟩
  by_cases c69 : c = 69
  · subst c69
    go_enter Try.func35, Try.ntmps35
    go_wp2
    go_ret
    exact ⟨rfl, Below.refl _ _⟩
  have n45 : (c == 45) = false := by simpa using c45
  have n43 : (c == 43) = false := by simpa using c43
  have n46 : (c == 46) = false := by simpa using c46
  have n48 : (c == 48) = false := by simpa using c48
  have n101 : (c == 101) = false := by simpa using c101
  have n69 : (c == 69) = false := by simpa using c69
  by_cases d1 : 48 ≤ c
  · by_cases d2 : c ≤ 57
    · skip
      have hd : digB c = true := by simp [digB]; omega
      have HS := hide (show stepZ 3 c = 3 from by unfold stepZ; rw [hd]; (repeat' split) <;> first | rfl | omega | simp_all)
      clear hd
      go_enter Try.func35, Try.ntmps35
      go_wp2
      go_ret
      exact ⟨by rw [unhide HS]; rfl, Below.refl _ _⟩
    · skip
      have hd : digB c = false := by simp [digB]; omega
      have HS := hide (show stepZ 3 c = -1 from by unfold stepZ; rw [hd]; (repeat' split) <;> first | rfl | omega | simp_all)
      clear hd
      go_enter Try.func35, Try.ntmps35
      go_wp2
      go_ret
      exact ⟨by rw [unhide HS]; rfl, Below.refl _ _⟩
  · skip
    have hd : digB c = false := by simp [digB]; omega
    have HS := hide (show stepZ 3 c = -1 from by unfold stepZ; rw [hd]; (repeat' split) <;> first | rfl | omega | simp_all)
    clear hd
    go_enter Try.func35, Try.ntmps35
    go_wp2
    go_ret
    exact ⟨by rw [unhide HS]; rfl, Below.refl _ _⟩
theorem step_4 (c : Int) (w : World) : Calls Try.prog 35 #[.int .i64 4, .int .i32 c] w fun e w' => e = .returned (.int .i64 (stepZ 4 c)) ∧ Below w.heap.size w w' := by
  by_cases c45 : c = 45
  · subst c45
    go_enter Try.func35, Try.ntmps35
    go_wp2
    go_ret
    exact ⟨rfl, Below.refl _ _⟩
  by_cases c43 : c = 43
  · subst c43
    go_enter Try.func35, Try.ntmps35
    go_wp2
    go_ret
    exact ⟨rfl, Below.refl _ _⟩
  by_cases c46 : c = 46
  · subst c46
    go_enter Try.func35, Try.ntmps35
    go_wp2
    go_ret
    exact ⟨rfl, Below.refl _ _⟩
  by_cases c48 : c = 48
  · subst c48
    go_enter Try.func35, Try.ntmps35
    go_wp2
    go_ret
    exact ⟨rfl, Below.refl _ _⟩
  by_cases c101 : c = 101
  · subst c101
    go_enter Try.func35, Try.ntmps35
    go_wp2
    go_ret
    exact ⟨rfl, Below.refl _ _⟩
  by_cases c69 : c = 69
  · subst c69
    go_enter Try.func35, Try.ntmps35
    go_wp2
    go_ret
    exact ⟨rfl, Below.refl _ _⟩
  have n45 : (c == 45) = false := by simpa using c45
  have n43 : (c == 43) = false := by simpa using c43
  have n46 : (c == 46) = false := by simpa using c46
  have n48 : (c == 48) = false := by simpa using c48
  have n101 : (c == 101) = false := by simpa using c101
  have n69 : (c == 69) = false := by simpa using c69
  by_cases d1 : 48 ≤ c
  · by_cases d2 : c ≤ 57
    · skip
      have hd : digB c = true := by simp [digB]; omega
      have HS := hide (show stepZ 4 c = 5 from by unfold stepZ; rw [hd]; (repeat' split) <;> first | rfl | omega | simp_all)
      clear hd
      go_enter Try.func35, Try.ntmps35
      go_wp2
      go_ret
      exact ⟨by rw [unhide HS]; rfl, Below.refl _ _⟩
    · skip
      have hd : digB c = false := by simp [digB]; omega
      have HS := hide (show stepZ 4 c = -1 from by unfold stepZ; rw [hd]; (repeat' split) <;> first | rfl | omega | simp_all)
      clear hd
      go_enter Try.func35, Try.ntmps35
      go_wp2
      go_ret
      exact ⟨by rw [unhide HS]; rfl, Below.refl _ _⟩
  · skip
    have hd : digB c = false := by simp [digB]; omega
    have HS := hide (show stepZ 4 c = -1 from by unfold stepZ; rw [hd]; (repeat' split) <;> first | rfl | omega | simp_all)
    clear hd
    go_enter Try.func35, Try.ntmps35
    go_wp2
    go_ret
    exact ⟨by rw [unhide HS]; rfl, Below.refl _ _⟩
theorem step_5 (c : Int) (w : World) : Calls Try.prog 35 #[.int .i64 5, .int .i32 c] w fun e w' => e = .returned (.int .i64 (stepZ 5 c)) ∧ Below w.heap.size w w' := by
  by_cases c45 : c = 45
  · subst c45
    go_enter Try.func35, Try.ntmps35
    go_wp2
    go_ret
    exact ⟨rfl, Below.refl _ _⟩
  by_cases c43 : c = 43
  · subst c43
    go_enter Try.func35, Try.ntmps35
    go_wp2
    go_ret
    exact ⟨rfl, Below.refl _ _⟩
  by_cases c46 : c = 46
  · subst c46
    go_enter Try.func35, Try.ntmps35
    go_wp2
    go_ret
    exact ⟨rfl, Below.refl _ _⟩
  by_cases c48 : c = 48
  · subst c48
    go_enter Try.func35, Try.ntmps35
    go_wp2
    go_ret
    exact ⟨rfl, Below.refl _ _⟩
  by_cases c101 : c = 101
  · subst c101
    go_enter Try.func35, Try.ntmps35
    go_wp2
    go_ret
    exact ⟨rfl, Below.refl _ _⟩
  by_cases c69 : c = 69
  · subst c69
    go_enter Try.func35, Try.ntmps35
    go_wp2
    go_ret
    exact ⟨rfl, Below.refl _ _⟩
  have n45 : (c == 45) = false := by simpa using c45
  have n43 : (c == 43) = false := by simpa using c43
  have n46 : (c == 46) = false := by simpa using c46
  have n48 : (c == 48) = false := by simpa using c48
  have n101 : (c == 101) = false := by simpa using c101
  have n69 : (c == 69) = false := by simpa using c69
  by_cases d1 : 48 ≤ c
  · by_cases d2 : c ≤ 57
    · skip
      have hd : digB c = true := by simp [digB]; omega
      have HS := hide (show stepZ 5 c = 5 from by unfold stepZ; rw [hd]; (repeat' split) <;> first | rfl | omega | simp_all)
      clear hd
      go_enter Try.func35, Try.ntmps35
      go_wp2
      go_ret
      exact ⟨by rw [unhide HS]; rfl, Below.refl _ _⟩
    · skip
      have hd : digB c = false := by simp [digB]; omega
      have HS := hide (show stepZ 5 c = -1 from by unfold stepZ; rw [hd]; (repeat' split) <;> first | rfl | omega | simp_all)
      clear hd
      go_enter Try.func35, Try.ntmps35
      go_wp2
      go_ret
      exact ⟨by rw [unhide HS]; rfl, Below.refl _ _⟩
  · skip
    have hd : digB c = false := by simp [digB]; omega
    have HS := hide (show stepZ 5 c = -1 from by unfold stepZ; rw [hd]; (repeat' split) <;> first | rfl | omega | simp_all)
    clear hd
    go_enter Try.func35, Try.ntmps35
    go_wp2
    go_ret
    exact ⟨by rw [unhide HS]; rfl, Below.refl _ _⟩
theorem step_6 (c : Int) (w : World) : Calls Try.prog 35 #[.int .i64 6, .int .i32 c] w fun e w' => e = .returned (.int .i64 (stepZ 6 c)) ∧ Below w.heap.size w w' := by
  by_cases c45 : c = 45
  · subst c45
    go_enter Try.func35, Try.ntmps35
    go_wp2
    go_ret
    exact ⟨rfl, Below.refl _ _⟩
  by_cases c43 : c = 43
  · subst c43
    go_enter Try.func35, Try.ntmps35
    go_wp2
    go_ret
    exact ⟨rfl, Below.refl _ _⟩
  by_cases c46 : c = 46
  · subst c46
    go_enter Try.func35, Try.ntmps35
    go_wp2
    go_ret
    exact ⟨rfl, Below.refl _ _⟩
  by_cases c48 : c = 48
  · subst c48
    go_enter Try.func35, Try.ntmps35
    go_wp2
    go_ret
    exact ⟨rfl, Below.refl _ _⟩
  by_cases c101 : c = 101
  · subst c101
    go_enter Try.func35, Try.ntmps35
    go_wp2
    go_ret
    exact ⟨rfl, Below.refl _ _⟩
  by_cases c69 : c = 69
  · subst c69
    go_enter Try.func35, Try.ntmps35
    go_wp2
    go_ret
    exact ⟨rfl, Below.refl _ _⟩
  have n45 : (c == 45) = false := by simpa using c45
  have n43 : (c == 43) = false := by simpa using c43
  have n46 : (c == 46) = false := by simpa using c46
  have n48 : (c == 48) = false := by simpa using c48
  have n101 : (c == 101) = false := by simpa using c101
  have n69 : (c == 69) = false := by simpa using c69
  by_cases d1 : 48 ≤ c
  · by_cases d2 : c ≤ 57
    · skip
      have hd : digB c = true := by simp [digB]; omega
      have HS := hide (show stepZ 6 c = 8 from by unfold stepZ; rw [hd]; (repeat' split) <;> first | rfl | omega | simp_all)
      clear hd
      go_enter Try.func35, Try.ntmps35
      go_wp2
      go_ret
      exact ⟨by rw [unhide HS]; rfl, Below.refl _ _⟩
    · skip
      have hd : digB c = false := by simp [digB]; omega
      have HS := hide (show stepZ 6 c = -1 from by unfold stepZ; rw [hd]; (repeat' split) <;> first | rfl | omega | simp_all)
      clear hd
      go_enter Try.func35, Try.ntmps35
      go_wp2
      go_ret
      exact ⟨by rw [unhide HS]; rfl, Below.refl _ _⟩
  · skip
    have hd : digB c = false := by simp [digB]; omega
    have HS := hide (show stepZ 6 c = -1 from by unfold stepZ; rw [hd]; (repeat' split) <;> first | rfl | omega | simp_all)
    clear hd
    go_enter Try.func35, Try.ntmps35
    go_wp2
    go_ret
    exact ⟨by rw [unhide HS]; rfl, Below.refl _ _⟩
theorem step_7 (c : Int) (w : World) : Calls Try.prog 35 #[.int .i64 7, .int .i32 c] w fun e w' => e = .returned (.int .i64 (stepZ 7 c)) ∧ Below w.heap.size w w' := by
  by_cases c45 : c = 45
  · subst c45
    go_enter Try.func35, Try.ntmps35
    go_wp2
    go_ret
    exact ⟨rfl, Below.refl _ _⟩
  by_cases c43 : c = 43
  · subst c43
    go_enter Try.func35, Try.ntmps35
    go_wp2
    go_ret
    exact ⟨rfl, Below.refl _ _⟩
  by_cases c46 : c = 46
  · subst c46
    go_enter Try.func35, Try.ntmps35
    go_wp2
    go_ret
    exact ⟨rfl, Below.refl _ _⟩
  by_cases c48 : c = 48
  · subst c48
    go_enter Try.func35, Try.ntmps35
    go_wp2
    go_ret
    exact ⟨rfl, Below.refl _ _⟩
  by_cases c101 : c = 101
  · subst c101
    go_enter Try.func35, Try.ntmps35
    go_wp2
    go_ret
    exact ⟨rfl, Below.refl _ _⟩
  by_cases c69 : c = 69
  · subst c69
    go_enter Try.func35, Try.ntmps35
    go_wp2
    go_ret
    exact ⟨rfl, Below.refl _ _⟩
  have n45 : (c == 45) = false := by simpa using c45
  have n43 : (c == 43) = false := by simpa using c43
  have n46 : (c == 46) = false := by simpa using c46
  have n48 : (c == 48) = false := by simpa using c48
  have n101 : (c == 101) = false := by simpa using c101
  have n69 : (c == 69) = false := by simpa using c69
  by_cases d1 : 48 ≤ c
  · by_cases d2 : c ≤ 57
    · skip
      have hd : digB c = true := by simp [digB]; omega
      have HS := hide (show stepZ 7 c = 8 from by unfold stepZ; rw [hd]; (repeat' split) <;> first | rfl | omega | simp_all)
      clear hd
      go_enter Try.func35, Try.ntmps35
      go_wp2
      go_ret
      exact ⟨by rw [unhide HS]; rfl, Below.refl _ _⟩
    · skip
      have hd : digB c = false := by simp [digB]; omega
      have HS := hide (show stepZ 7 c = -1 from by unfold stepZ; rw [hd]; (repeat' split) <;> first | rfl | omega | simp_all)
      clear hd
      go_enter Try.func35, Try.ntmps35
      go_wp2
      go_ret
      exact ⟨by rw [unhide HS]; rfl, Below.refl _ _⟩
  · skip
    have hd : digB c = false := by simp [digB]; omega
    have HS := hide (show stepZ 7 c = -1 from by unfold stepZ; rw [hd]; (repeat' split) <;> first | rfl | omega | simp_all)
    clear hd
    go_enter Try.func35, Try.ntmps35
    go_wp2
    go_ret
    exact ⟨by rw [unhide HS]; rfl, Below.refl _ _⟩
theorem step_8 (c : Int) (w : World) : Calls Try.prog 35 #[.int .i64 8, .int .i32 c] w fun e w' => e = .returned (.int .i64 (stepZ 8 c)) ∧ Below w.heap.size w w' := by
  by_cases c45 : c = 45
  · subst c45
    go_enter Try.func35, Try.ntmps35
    go_wp2
    go_ret
    exact ⟨rfl, Below.refl _ _⟩
  by_cases c43 : c = 43
  · subst c43
    go_enter Try.func35, Try.ntmps35
    go_wp2
    go_ret
    exact ⟨rfl, Below.refl _ _⟩
  by_cases c46 : c = 46
  · subst c46
    go_enter Try.func35, Try.ntmps35
    go_wp2
    go_ret
    exact ⟨rfl, Below.refl _ _⟩
  by_cases c48 : c = 48
  · subst c48
    go_enter Try.func35, Try.ntmps35
    go_wp2
    go_ret
    exact ⟨rfl, Below.refl _ _⟩
  by_cases c101 : c = 101
  · subst c101
    go_enter Try.func35, Try.ntmps35
    go_wp2
    go_ret
    exact ⟨rfl, Below.refl _ _⟩
  by_cases c69 : c = 69
  · subst c69
    go_enter Try.func35, Try.ntmps35
    go_wp2
    go_ret
    exact ⟨rfl, Below.refl _ _⟩
  have n45 : (c == 45) = false := by simpa using c45
  have n43 : (c == 43) = false := by simpa using c43
  have n46 : (c == 46) = false := by simpa using c46
  have n48 : (c == 48) = false := by simpa using c48
  have n101 : (c == 101) = false := by simpa using c101
  have n69 : (c == 69) = false := by simpa using c69
  by_cases d1 : 48 ≤ c
  · by_cases d2 : c ≤ 57
    · skip
      have hd : digB c = true := by simp [digB]; omega
      have HS := hide (show stepZ 8 c = 8 from by unfold stepZ; rw [hd]; (repeat' split) <;> first | rfl | omega | simp_all)
      clear hd
      go_enter Try.func35, Try.ntmps35
      go_wp2
      go_ret
      exact ⟨by rw [unhide HS]; rfl, Below.refl _ _⟩
    · skip
      have hd : digB c = false := by simp [digB]; omega
      have HS := hide (show stepZ 8 c = -1 from by unfold stepZ; rw [hd]; (repeat' split) <;> first | rfl | omega | simp_all)
      clear hd
      go_enter Try.func35, Try.ntmps35
      go_wp2
      go_ret
      exact ⟨by rw [unhide HS]; rfl, Below.refl _ _⟩
  · skip
    have hd : digB c = false := by simp [digB]; omega
    have HS := hide (show stepZ 8 c = -1 from by unfold stepZ; rw [hd]; (repeat' split) <;> first | rfl | omega | simp_all)
    clear hd
    go_enter Try.func35, Try.ntmps35
    go_wp2
    go_ret
    exact ⟨by rw [unhide HS]; rfl, Below.refl _ _⟩
theorem step_any (st c : Int) (h0 : 0 ≤ st) (h8 : st ≤ 8) (w : World) : Calls Try.prog 35 #[.int .i64 st, .int .i32 c] w fun e w' => e = .returned (.int .i64 (stepZ st c)) ∧ Below w.heap.size w w' := by
  have h : st = 0 ∨ st = 1 ∨ st = 2 ∨ st = 3 ∨ st = 4 ∨ st = 5 ∨ st = 6 ∨ st = 7 ∨ st = 8 := by omega
  rcases h with rfl | rfl | rfl | rfl | rfl | rfl | rfl | rfl | rfl
  · exact step_0 c w
  · exact step_1 c w
  · exact step_2 c w
  · exact step_3 c w
  · exact step_4 c w
  · exact step_5 c w
  · exact step_6 c w
  · exact step_7 c w
  · exact step_8 c w
theorem form_0 (w : World) : Calls Try.prog 36 #[.int .i64 0] w fun e w' => e = .returned (.int .i64 (formZ 0)) ∧ Below w.heap.size w w' := by
  go_enter Try.func36, Try.ntmps36
  go_wp2
  go_ret
  exact ⟨rfl, Below.refl _ _⟩
theorem form_1 (w : World) : Calls Try.prog 36 #[.int .i64 1] w fun e w' => e = .returned (.int .i64 (formZ 1)) ∧ Below w.heap.size w w' := by
  go_enter Try.func36, Try.ntmps36
  go_wp2
  go_ret
  exact ⟨rfl, Below.refl _ _⟩
theorem form_2 (w : World) : Calls Try.prog 36 #[.int .i64 2] w fun e w' => e = .returned (.int .i64 (formZ 2)) ∧ Below w.heap.size w w' := by
  go_enter Try.func36, Try.ntmps36
  go_wp2
  go_ret
  exact ⟨rfl, Below.refl _ _⟩
theorem form_3 (w : World) : Calls Try.prog 36 #[.int .i64 3] w fun e w' => e = .returned (.int .i64 (formZ 3)) ∧ Below w.heap.size w w' := by
  go_enter Try.func36, Try.ntmps36
  go_wp2
  go_ret
  exact ⟨rfl, Below.refl _ _⟩
theorem form_4 (w : World) : Calls Try.prog 36 #[.int .i64 4] w fun e w' => e = .returned (.int .i64 (formZ 4)) ∧ Below w.heap.size w w' := by
  go_enter Try.func36, Try.ntmps36
  go_wp2
  go_ret
  exact ⟨rfl, Below.refl _ _⟩
theorem form_5 (w : World) : Calls Try.prog 36 #[.int .i64 5] w fun e w' => e = .returned (.int .i64 (formZ 5)) ∧ Below w.heap.size w w' := by
  go_enter Try.func36, Try.ntmps36
  go_wp2
  go_ret
  exact ⟨rfl, Below.refl _ _⟩
theorem form_6 (w : World) : Calls Try.prog 36 #[.int .i64 6] w fun e w' => e = .returned (.int .i64 (formZ 6)) ∧ Below w.heap.size w w' := by
  go_enter Try.func36, Try.ntmps36
  go_wp2
  go_ret
  exact ⟨rfl, Below.refl _ _⟩
theorem form_7 (w : World) : Calls Try.prog 36 #[.int .i64 7] w fun e w' => e = .returned (.int .i64 (formZ 7)) ∧ Below w.heap.size w w' := by
  go_enter Try.func36, Try.ntmps36
  go_wp2
  go_ret
  exact ⟨rfl, Below.refl _ _⟩
theorem form_8 (w : World) : Calls Try.prog 36 #[.int .i64 8] w fun e w' => e = .returned (.int .i64 (formZ 8)) ∧ Below w.heap.size w w' := by
  go_enter Try.func36, Try.ntmps36
  go_wp2
  go_ret
  exact ⟨rfl, Below.refl _ _⟩
theorem form_any (st : Int) (h0 : 0 ≤ st) (h8 : st ≤ 8) (w : World) : Calls Try.prog 36 #[.int .i64 st] w fun e w' => e = .returned (.int .i64 (formZ st)) ∧ Below w.heap.size w w' := by
  have h : st = 0 ∨ st = 1 ∨ st = 2 ∨ st = 3 ∨ st = 4 ∨ st = 5 ∨ st = 6 ∨ st = 7 ∨ st = 8 := by omega
  rcases h with rfl | rfl | rfl | rfl | rfl | rfl | rfl | rfl | rfl
  · exact form_0 w
  · exact form_1 w
  · exact form_2 w
  · exact form_3 w
  · exact form_4 w
  · exact form_5 w
  · exact form_6 w
  · exact form_7 w
  · exact form_8 w
end Go.Proofs.Ytdfdicgfldcngaa.mem
