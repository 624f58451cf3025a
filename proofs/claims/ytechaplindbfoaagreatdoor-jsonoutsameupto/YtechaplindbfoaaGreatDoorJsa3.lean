import Derived.Test.YtechaplindbfoaaGreatDoorJsa2
namespace Go.Proofs.YtechaplindbfoaaGreatDoor.og
open Go.ChangeShapes Go.WideShapes Go.ChangeAt Go.RowKit
open vl hiding cB cFl cS cF cI cK cIt
open stp (c3 c3_lt c3_gt c3_eq cB cB_tri)
set_option linter.unusedVariables false
set_option linter.unusedSimpArgs false
theorem str_cmpE (a b : ByteArray) (w : World) : Calls Tryz.prog 51 #[.string a, .string b] w fun e w' => e = .returned (.int .i64 (cB a b)) ∧ w = w' := by
  have hr := fun w => stp.run_cmp a b w
  go_enter Tryz.func51, Tryz.ntmps51
  go_wp2
  go_ret
  exact ⟨rfl, rfl⟩
theorem i64_cmp (x t : Int) (w : World) : Calls Tryz.prog 49 #[.int .i64 x, .int .i64 t] w fun e w' => e = .returned (.int .i64 (c3 x t)) ∧ w = w' := by
  rcases Int.lt_trichotomy x t with h | h | h
  · go_enter Tryz.func49, Tryz.ntmps49
    go_wp2
    go_ret
    exact ⟨by rw [c3_lt h]; rfl, rfl⟩
  · go_enter Tryz.func49, Tryz.ntmps49
    go_wp2
    go_ret
    exact ⟨by rw [c3_eq (by omega)]; rfl, rfl⟩
  · go_enter Tryz.func49, Tryz.ntmps49
    go_wp2
    go_ret
    exact ⟨by rw [c3_gt h]; rfl, rfl⟩
theorem kind_cmp (x t : Int) (w : World) : Calls Tryz.prog 47 #[.int .i64 x, .int .i64 t] w fun e w' => e = .returned (.int .i64 (c3 x t)) ∧ w = w' := by
  rcases Int.lt_trichotomy x t with h | h | h
  · go_enter Tryz.func47, Tryz.ntmps47
    go_wp2
    go_ret
    exact ⟨by rw [c3_lt h]; rfl, rfl⟩
  · go_enter Tryz.func47, Tryz.ntmps47
    go_wp2
    go_ret
    exact ⟨by rw [c3_eq (by omega)]; rfl, rfl⟩
  · go_enter Tryz.func47, Tryz.ntmps47
    go_wp2
    go_ret
    exact ⟨by rw [c3_gt h]; rfl, rfl⟩
theorem bools_ok (a b : Bool) (w : World) : Calls Tryz.prog 48 #[.bool a, .bool b] w fun e w' => e = .returned (.int .i64 (cBo a b)) ∧ w = w' := by
  cases a <;> cases b
  all_goals
    go_enter Tryz.func48, Tryz.ntmps48
    go_wp2
    go_ret
    exact ⟨rfl, rfl⟩
theorem cmpOr_ok (x y : Int) (b : Nat) (w : World) (h0 : w.cell? ⟨b, 0, none⟩ = some (.int .i64 x)) (h1 : w.cell? ⟨b, 1, none⟩ = some (.int .i64 y)) : Calls Tryz.prog 55 #[.slice (some ⟨b, 0, none⟩) 2 2] w fun e w' => e = .returned (.int .i64 (if x = 0 then y else x)) ∧ w = w' := by
  by_cases hx : x = 0
  · subst hx
    by_cases hy : y = 0
    · subst hy
      go_enter Tryz.func55, Tryz.ntmps55
      go_wp2_with fail
      go_loopw [8] (fun v wr => ∃ k : Nat, k ≤ 2 ∧ v = .int .i64 k ∧ w = wr) (fun v _ => 2 - (intOf v).toNat)
      case atStart => exact ⟨0, by omega, rfl, rfl⟩
      case round =>
        obtain ⟨k, hk, rfl, rfl⟩ := hrel
        rcases (by omega : k = 0 ∨ k = 1 ∨ k = 2) with rfl | rfl | rfl
        · go_wp2
          go_roundw
          case rel => exact ⟨1, by omega, by go_num, (by first | rfl | trivial)⟩
          case measure => simp [intOf]
        · go_wp2
          go_roundw
          case rel => exact ⟨2, by omega, by go_num, (by first | rfl | trivial)⟩
          case measure => simp [intOf]
        · go_wp2
          go_ret
          exact ⟨rfl, rfl⟩
    · have hy2 : (y != 0) = true := by simpa using hy
      go_enter Tryz.func55, Tryz.ntmps55
      go_wp2_with fail
      go_loopw [8] (fun v wr => ∃ k : Nat, k ≤ 1 ∧ v = .int .i64 k ∧ w = wr) (fun v _ => 2 - (intOf v).toNat)
      case atStart => exact ⟨0, by omega, rfl, rfl⟩
      case round =>
        obtain ⟨k, hk, rfl, rfl⟩ := hrel
        rcases (by omega : k = 0 ∨ k = 1) with rfl | rfl
        · go_wp2
          go_roundw
          case rel => exact ⟨1, by omega, by go_num, (by first | rfl | trivial)⟩
          case measure => simp [intOf]
        · go_wp2
          go_ret
          exact ⟨rfl, rfl⟩
  · have hx2 : (x != 0) = true := by simpa using hx
    have hi := hide (show (if x = 0 then y else x) = x from if_neg hx)
    generalize (if x = 0 then y else x) = r at *
    go_enter Tryz.func55, Tryz.ntmps55
    go_wp2_with fail
    go_loopw [8] (fun v wr => v = .int .i64 0 ∧ w = wr) (fun v _ => 2 - (intOf v).toNat)
    case atStart => exact ⟨rfl, rfl⟩
    case round =>
      obtain ⟨rfl, rfl⟩ := hrel
      go_wp2
      go_ret
      exact ⟨by rw [unhide hi]; rfl, rfl⟩
def kdV : Vl → Int
  | .mk kd _ _ _ _ _ _ _ => kdOf kd
theorem kindOf_ok (v : Vl) (cs : List Value) (w w0 : World) (hv : VlC w0 v cs) : Calls Tryz.prog 46 #[.agg cs.toArray] w fun e w' => e = .returned (.int .i64 (kdV v)) ∧ Gr w w' := by
  obtain ⟨kd, b, n, f, tx, ty, its, fls⟩ := v
  unfold VlC at hv
  obtain ⟨ai, ni, ci, af, nf, cf, rfl, -⟩ := hv
  unfold kdV
  by_cases h1 : kd < 0
  · have hr := hide (show kdOf kd = 0 by unfold kdOf; rw [if_pos (.inl h1)])
    go_enter Tryz.func46, Tryz.ntmps46
    go_wp2
    go_ret
    exact ⟨by rw [unhide hr]; rfl, (Gr.refl _).alloc _⟩
  · by_cases h2 : 7 < kd
    · have hr := hide (show kdOf kd = 0 by unfold kdOf; rw [if_pos (.inr h2)])
      go_enter Tryz.func46, Tryz.ntmps46
      go_wp2
      go_ret
      exact ⟨by rw [unhide hr]; rfl, (Gr.refl _).alloc _⟩
    · have hr := hide (show kdOf kd = kd by unfold kdOf; rw [if_neg (by omega)])
      go_enter Tryz.func46, Tryz.ntmps46
      go_wp2
      go_ret
      exact ⟨by rw [unhide hr]; rfl, (Gr.refl _).alloc _⟩
end Go.Proofs.YtechaplindbfoaaGreatDoor.og
