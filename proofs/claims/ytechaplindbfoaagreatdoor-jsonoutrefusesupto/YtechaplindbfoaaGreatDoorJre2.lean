import Derived.Test.YtechaplindbfoaaGreatDoorJre1
namespace Go.Proofs.YtechaplindbfoaaGreatDoor.og
open Go.ChangeShapes Go.WideShapes Go.ChangeAt Go.RowKit
open vl hiding cB cFl cS cF cI cK cIt
open mem (dec_fin dec_inf dec_nan word_of order_fin order_word vR vR_mono sv)
set_option linter.unusedVariables false
set_option linter.unusedSimpArgs false
/-- no number, or one without bound -/
def badF (x : Nat) : Bool := decide (9218868437227405312 ≤ x % 9223372036854775808)
theorem gt_max (r : Nat) (h : r ≤ 9218868437227405312) : (FloatKind.f64.format.order r 9218868437227405311 == some Ordering.gt) = decide (9218868437227405312 ≤ r) := by
  have e1 : r = Ieee.double.word false r := rfl
  by_cases hr : r = 9218868437227405312
  · subst hr
    rfl
  · rw [decide_eq_false (by omega)]
    have := order_word false false r 9218868437227405311 (by omega) (by omega)
    have e2 : FloatKind.f64.format.order r 9218868437227405311 = some (compare (sv false (vR r)) (sv false (vR 9218868437227405311))) := this
    rw [e2]
    have hle : vR r ≤ vR 9218868437227405311 := mem.vR_mono_le (by omega)
    have : compare (sv false (vR r)) (sv false (vR 9218868437227405311)) ≠ Ordering.gt := by
      intro hc
      rw [Int.compare_eq_gt] at hc
      unfold sv at hc
      simp at hc
      omega
    cases hc : compare (sv false (vR r)) (sv false (vR 9218868437227405311)) with
    | gt => exact absurd hc this
    | lt => rfl
    | eq => rfl
theorem andNotSign (b : Nat) (h : b < 18446744073709551616) : bits .andNot .u64 (b : Int) 9223372036854775808 = ((b % 9223372036854775808 : Nat) : Int) := by
  have := u64_andNot_nat b 9223372036854775808 (by omega) (by omega)
  rw [show 18446744073709551615 - 9223372036854775808 = 9223372036854775807 from rfl, nat_mask63] at this
  exact this
theorem run_frombits (x : Int) (w : World) : (callFunc 112 #[.int .u64 x]).run Tryz.prog w = .ok (.value (.float .f64 x.toNat)) w := by
  rw [run_callFunc_extern (e := Extern.MathFloatBits.float64frombits) Tryz.func112 (by kernel_rfl) (by kernel_rfl) (by kernel_rfl) (by kernel_rfl)]
  rfl
theorem abs_ok (x : Nat) (w : World) (h : x < 18446744073709551616) : Calls Tryz.prog 93 #[.float .f64 x] w fun e w' => e = .returned (.float .f64 (x % 9223372036854775808)) ∧ w = w' := by
  have T1 := run_tobits x w
  have e2 := andNotSign x h
  have T2 := run_frombits ((x % 9223372036854775808 : Nat) : Int) w
  rw [Int.toNat_natCast] at T2
  generalize x % 9223372036854775808 = r at *
  go_enter Tryz.func93, Tryz.ntmps93
  go_wp2
  go_ret
  exact ⟨rfl, rfl⟩
theorem isInf_ok (x : Nat) (w : World) (h : x < 18446744073709551616) (hn : nanF x = false) : Calls Tryz.prog 79 #[.float .f64 x, .int .i64 0] w fun e w' => e = .returned (.bool (badF x)) ∧ w = w' := by
  have A := vl.hide (fun W => abs_ok x W h)
  have hg := gt_max (x % 9223372036854775808) (by unfold nanF at hn; simpa using hn)
  have hB := vl.hide (show badF x = decide (9218868437227405312 ≤ x % 9223372036854775808) from rfl)
  clear hn h
  generalize x % 9223372036854775808 = r at *
  rw [← vl.unhide hB] at hg
  clear hB
  generalize badF x = B at *
  go_enter Tryz.func79, Tryz.ntmps79
  go_wp2_with fail
  refine (vl.unhide A _).mono ?_
  rintro e w1 ⟨rfl, rfl⟩
  clear A
  go_wp2
  go_ret
  exact ⟨by first | rfl | (rw [← hg]; rfl), rfl⟩
end Go.Proofs.YtechaplindbfoaaGreatDoor.og
