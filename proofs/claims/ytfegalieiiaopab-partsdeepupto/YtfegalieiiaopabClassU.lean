import Derived.Test.YtfegalieiiaopabInW
namespace Go.Proofs.Ytfegalieiiaopab.ints
open Go.ChangeShapes Go.WideShapes Go.ChangeAt Go.RowKit
set_option linter.unusedVariables false

theorem digit_yes (c : Int) (w : World) (h1 : 48 ≤ c) (h2 : c ≤ 57) :
    Calls Try.prog 60 #[.int .i32 c] w fun e w' => e = .returned (.bool true) ∧ w' = w := by
  go_enter Try.func60, Try.ntmps60
  go_wp2_with fail
  refine (within_yes _ _ _ _ h1 h2).mono ?_
  rintro e w' ⟨rfl, rfl⟩
  go_wp2
  go_ret
  exact ⟨rfl, rfl⟩
theorem digit_no (c : Int) (w : World) (h : ¬ (48 ≤ c ∧ c ≤ 57)) :
    Calls Try.prog 60 #[.int .i32 c] w fun e w' => e = .returned (.bool false) ∧ w' = w := by
  go_enter Try.func60, Try.ntmps60
  go_wp2_with fail
  refine (within_no _ _ _ _ h).mono ?_
  rintro e w' ⟨rfl, rfl⟩
  go_wp2
  go_ret
  exact ⟨rfl, rfl⟩
def nsP (c : Int) : Prop := (65 ≤ c ∧ c ≤ 90) ∨ (97 ≤ c ∧ c ≤ 122) ∨ c = 95
theorem ns_yes (c : Int) (w : World) (h : nsP c) :
    Calls Try.prog 58 #[.int .i32 c] w fun e w' => e = .returned (.bool true) ∧ w' = w := by
  rcases h with ⟨h1, h2⟩ | ⟨h1, h2⟩ | h
  · go_enter Try.func58, Try.ntmps58
    go_wp2_with fail
    refine (within_yes _ _ _ _ h1 h2).mono ?_
    rintro e w' ⟨rfl, rfl⟩
    go_wp2
    go_ret
    exact ⟨rfl, rfl⟩
  · go_enter Try.func58, Try.ntmps58
    go_wp2_with fail
    refine (within_no _ _ _ _ (by omega)).mono ?_
    rintro e w' ⟨rfl, rfl⟩
    go_wp2_with fail
    refine (within_yes _ _ _ _ h1 h2).mono ?_
    rintro e w' ⟨rfl, rfl⟩
    go_wp2
    go_ret
    exact ⟨rfl, rfl⟩
  · have h0 : ¬ (65 ≤ c ∧ c ≤ 90) := by omega
    have h1 : ¬ (97 ≤ c ∧ c ≤ 122) := by omega
    have hb : (c == 95) = true := by simpa using h
    clear h
    go_enter Try.func58, Try.ntmps58
    go_wp2_with fail
    refine (within_no _ _ _ _ h0).mono ?_
    rintro e w' ⟨rfl, rfl⟩
    go_wp2_with fail
    refine (within_no _ _ _ _ h1).mono ?_
    rintro e w' ⟨rfl, rfl⟩
    go_wp2
    go_ret
    exact ⟨rfl, rfl⟩
theorem ns_no (c : Int) (w : World) (h : ¬ nsP c) :
    Calls Try.prog 58 #[.int .i32 c] w fun e w' => e = .returned (.bool false) ∧ w' = w := by
  unfold nsP at h
  have h0 : ¬ (65 ≤ c ∧ c ≤ 90) := by omega
  have h1 : ¬ (97 ≤ c ∧ c ≤ 122) := by omega
  have hb : (c == 95) = false := by simp; omega
  clear h
  go_enter Try.func58, Try.ntmps58
  go_wp2_with fail
  refine (within_no _ _ _ _ h0).mono ?_
  rintro e w' ⟨rfl, rfl⟩
  go_wp2_with fail
  refine (within_no _ _ _ _ h1).mono ?_
  rintro e w' ⟨rfl, rfl⟩
  go_wp2
  go_ret
  exact ⟨rfl, rfl⟩
def nrP (c : Int) : Prop := nsP c ∨ (48 ≤ c ∧ c ≤ 57)
theorem nr_yes (c : Int) (w : World) (h : nrP c) :
    Calls Try.prog 72 #[.int .i32 c] w fun e w' => e = .returned (.bool true) ∧ w' = w := by
  by_cases h1 : nsP c
  · go_enter Try.func72, Try.ntmps72
    go_wp2_with fail
    refine (ns_yes _ _ h1).mono ?_
    rintro e w' ⟨rfl, rfl⟩
    go_wp2
    go_ret
    exact ⟨rfl, rfl⟩
  · have h2 : 48 ≤ c ∧ c ≤ 57 := by rcases h with h | h; exact absurd h h1; exact h
    clear h
    go_enter Try.func72, Try.ntmps72
    go_wp2_with fail
    refine (ns_no _ _ h1).mono ?_
    rintro e w' ⟨rfl, rfl⟩
    go_wp2_with fail
    refine (digit_yes _ _ h2.1 h2.2).mono ?_
    rintro e w' ⟨rfl, rfl⟩
    go_wp2
    go_ret
    exact ⟨rfl, rfl⟩
theorem nr_no (c : Int) (w : World) (h : ¬ nrP c) :
    Calls Try.prog 72 #[.int .i32 c] w fun e w' => e = .returned (.bool false) ∧ w' = w := by
  have h1 : ¬ nsP c := fun x => h (.inl x)
  have h2 : ¬ (48 ≤ c ∧ c ≤ 57) := fun x => h (.inr x)
  clear h
  go_enter Try.func72, Try.ntmps72
  go_wp2_with fail
  refine (ns_no _ _ h1).mono ?_
  rintro e w' ⟨rfl, rfl⟩
  go_wp2_with fail
  refine (digit_no _ _ h2).mono ?_
  rintro e w' ⟨rfl, rfl⟩
  go_wp2
  go_ret
  exact ⟨rfl, rfl⟩
def blP (c : Int) : Prop := c = 9 ∨ c = 10 ∨ c = 13 ∨ c = 32 ∨ c = 44 ∨ c = 65279
theorem bl_yes (c : Int) (w : World) (h : blP c) :
    Calls Try.prog 55 #[.int .i32 c] w fun e w' => e = .returned (.bool true) ∧ w' = w := by
  rcases h with rfl | rfl | rfl | rfl | rfl | rfl
  all_goals
    go_enter Try.func55, Try.ntmps55
    go_wp2
    go_ret
    exact ⟨rfl, rfl⟩
theorem bl_no (c : Int) (w : World) (h : ¬ blP c) :
    Calls Try.prog 55 #[.int .i32 c] w fun e w' => e = .returned (.bool false) ∧ w' = w := by
  unfold blP at h
  have b0 : (c == 9) = false := by simp; omega
  have b1 : (c == 10) = false := by simp; omega
  have b2 : (c == 13) = false := by simp; omega
  have b3 : (c == 32) = false := by simp; omega
  have b4 : (c == 44) = false := by simp; omega
  have b5 : (c == 65279) = false := by simp; omega
  clear h
  go_enter Try.func55, Try.ntmps55
  go_wp2
  go_ret
  exact ⟨rfl, rfl⟩
def soP (c : Int) : Prop := c = 9 ∨ c = 10 ∨ c = 13 ∨ (32 ≤ c ∧ c ≤ 55295) ∨ (57344 ≤ c ∧ c ≤ 65535)
theorem so_yes (c : Int) (w : World) (h : soP c) :
    Calls Try.prog 56 #[.int .i32 c] w fun e w' => e = .returned (.bool true) ∧ w' = w := by
  rcases h with rfl | rfl | rfl | ⟨h1, h2⟩ | ⟨h1, h2⟩
  · go_enter Try.func56, Try.ntmps56
    go_wp2
    go_ret
    exact ⟨rfl, rfl⟩
  · go_enter Try.func56, Try.ntmps56
    go_wp2
    go_ret
    exact ⟨rfl, rfl⟩
  · go_enter Try.func56, Try.ntmps56
    go_wp2
    go_ret
    exact ⟨rfl, rfl⟩
  · have b0 : (c == 9) = false := by simp; omega
    have b1 : (c == 10) = false := by simp; omega
    have b2 : (c == 13) = false := by simp; omega
    go_enter Try.func56, Try.ntmps56
    go_wp2_with fail
    refine (within_yes _ _ _ _ h1 h2).mono ?_
    rintro e w' ⟨rfl, rfl⟩
    go_wp2
    go_ret
    exact ⟨rfl, rfl⟩
  · have b0 : (c == 9) = false := by simp; omega
    have b1 : (c == 10) = false := by simp; omega
    have b2 : (c == 13) = false := by simp; omega
    have h0 : ¬ (32 ≤ c ∧ c ≤ 55295) := by omega
    go_enter Try.func56, Try.ntmps56
    go_wp2_with fail
    refine (within_no _ _ _ _ h0).mono ?_
    rintro e w' ⟨rfl, rfl⟩
    go_wp2_with fail
    refine (within_yes _ _ _ _ h1 h2).mono ?_
    rintro e w' ⟨rfl, rfl⟩
    go_wp2
    go_ret
    exact ⟨rfl, rfl⟩
theorem so_no (c : Int) (w : World) (h : ¬ soP c) :
    Calls Try.prog 56 #[.int .i32 c] w fun e w' => e = .returned (.bool false) ∧ w' = w := by
  unfold soP at h
  have b0 : (c == 9) = false := by simp; omega
  have b1 : (c == 10) = false := by simp; omega
  have b2 : (c == 13) = false := by simp; omega
  have h0 : ¬ (32 ≤ c ∧ c ≤ 55295) := by omega
  have h1 : ¬ (57344 ≤ c ∧ c ≤ 65535) := by omega
  clear h
  go_enter Try.func56, Try.ntmps56
  go_wp2_with fail
  refine (within_no _ _ _ _ h0).mono ?_
  rintro e w' ⟨rfl, rfl⟩
  go_wp2_with fail
  refine (within_no _ _ _ _ h1).mono ?_
  rintro e w' ⟨rfl, rfl⟩
  go_wp2
  go_ret
  exact ⟨rfl, rfl⟩
def hexV (c : Int) : Int := if 48 ≤ c ∧ c ≤ 57 then c - 48 else if 97 ≤ c ∧ c ≤ 102 then c - 97 + 10 else if 65 ≤ c ∧ c ≤ 70 then c - 65 + 10 else -1
theorem ret_int {k : IntKind} {a b : Int} (h : a = b) : Ending.returned (.int k a) = .returned (.int k b) := by rw [h]
theorem hex_any (c : Int) (w : World) :
    Calls Try.prog 103 #[.int .i32 c] w fun e w' => e = .returned (.int .i64 (hexV c)) ∧ w' = w := by
  by_cases h1 : 48 ≤ c ∧ c ≤ 57
  · have hv := hide (show hexV c = c - 48 from if_pos h1)
    obtain ⟨a1, a2⟩ := h1
    go_enter Try.func103, Try.ntmps103
    go_wp2_with fail
    refine (digit_yes _ _ a1 a2).mono ?_
    rintro e w' ⟨rfl, rfl⟩
    go_wp2
    go_ret
    rw [unhide hv]
    exact ⟨rfl, rfl⟩
  by_cases h2 : 97 ≤ c ∧ c ≤ 102
  · have hv := hide (show hexV c = c - 97 + 10 from by unfold hexV; rw [if_neg h1, if_pos h2])
    obtain ⟨a1, a2⟩ := h2
    go_enter Try.func103, Try.ntmps103
    go_wp2_with fail
    refine (digit_no _ _ h1).mono ?_
    rintro e w' ⟨rfl, rfl⟩
    go_wp2_with fail
    refine (within_yes _ _ _ _ a1 a2).mono ?_
    rintro e w' ⟨rfl, rfl⟩
    go_wp2
    go_ret
    rw [unhide hv]
    exact ⟨rfl, rfl⟩
  by_cases h3 : 65 ≤ c ∧ c ≤ 70
  · have hv := hide (show hexV c = c - 65 + 10 from by unfold hexV; rw [if_neg h1, if_neg h2, if_pos h3])
    obtain ⟨a1, a2⟩ := h3
    go_enter Try.func103, Try.ntmps103
    go_wp2_with fail
    refine (digit_no _ _ h1).mono ?_
    rintro e w' ⟨rfl, rfl⟩
    go_wp2_with fail
    refine (within_no _ _ _ _ h2).mono ?_
    rintro e w' ⟨rfl, rfl⟩
    go_wp2_with fail
    refine (within_yes _ _ _ _ a1 a2).mono ?_
    rintro e w' ⟨rfl, rfl⟩
    go_wp2
    go_ret
    rw [unhide hv]
    exact ⟨rfl, rfl⟩
  have hv := hide (show hexV c = -1 from by unfold hexV; rw [if_neg h1, if_neg h2, if_neg h3])
  go_enter Try.func103, Try.ntmps103
  go_wp2_with fail
  refine (digit_no _ _ h1).mono ?_
  rintro e w' ⟨rfl, rfl⟩
  go_wp2_with fail
  refine (within_no _ _ _ _ h2).mono ?_
  rintro e w' ⟨rfl, rfl⟩
  go_wp2_with fail
  refine (within_no _ _ _ _ h3).mono ?_
  rintro e w' ⟨rfl, rfl⟩
  go_wp2
  go_ret
  rw [unhide hv]
  exact ⟨rfl, rfl⟩
end Go.Proofs.Ytfegalieiiaopab.ints
