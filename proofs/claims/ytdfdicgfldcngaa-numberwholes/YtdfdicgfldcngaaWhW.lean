import Derived.Test.YtdfdicgfldcngaaTrc
import Derived.Laws.FloatArith
import Derived.Laws.Externs
namespace Go.Proofs.Ytdfdicgfldcngaa.mem
open Go.ChangeShapes Go.WideShapes Go.ChangeAt Go.RowKit
open ints (hide unhide)
set_option linter.unusedVariables false

theorem run_trunc (x : Nat) (w : World) (ng : Bool) (m : Nat) (p : Int) (h : FloatKind.f64.decode x = .number ng m p) :
    (callFunc 52 #[.float .f64 x]).run Try.prog w = .ok (.value (.float .f64 (FloatKind.f64.encode ((Ieee.Datum.number ng m p).integral .zero)))) w := by
  rw [run_callFunc_extern (e := Extern.MathFloor.toIntegral "math.archTrunc" .zero) Try.func52 (by kernel_rfl) (by kernel_rfl) (by kernel_rfl) (by kernel_rfl)]
  have key : Extern.MathFloor.toIntegral "math.archTrunc" .zero #[.float .f64 x] = Extern.MathFloor.toIntegral.match_1 (fun _ => Sem Value) (FloatKind.f64.decode x) _ _ := rfl
  rw [key, h]
  rfl
theorem run_tobits (x : Nat) (w : World) : (callFunc 15 #[.float .f64 x]).run Try.prog w = .ok (.value (.int .u64 x)) w := by
  rw [run_callFunc_extern (e := Extern.MathFloatBits.float64bits) Try.func15 (by kernel_rfl) (by kernel_rfl) (by kernel_rfl) (by kernel_rfl)]
  rfl
theorem run_frombits (n : Nat) (w : World) : (callFunc 11 #[.int .u64 (n : Int)]).run Try.prog w = .ok (.value (.float .f64 n)) w := by
  rw [run_callFunc_extern (e := Extern.MathFloatBits.float64frombits) Try.func11 (by kernel_rfl) (by kernel_rfl) (by kernel_rfl) (by kernel_rfl)]
  rfl
theorem trunc_any (ng : Bool) (r : Nat) (w : World) (h : r < 9218868437227405312) :
    Calls Try.prog 28 #[.float .f64 (Ieee.double.word ng r)] w fun e w' => e = .returned (.float .f64 (FloatKind.f64.encode (.number ng (vR r / k74) 0))) ∧ w' = w := by
  have hrun := run_trunc (Ieee.double.word ng r) w ng _ _ (dec_fin ng r h)
  rw [integral_low] at hrun
  generalize Ieee.double.word ng r = x at *
  generalize FloatKind.f64.encode (.number ng (vR r / k74) 0) = y at *
  go_enter Try.func28, Try.ntmps28
  go_wp2
  go_ret
  exact ⟨rfl, rfl⟩
theorem toInt_low (ng : Bool) (r : Nat) (h : r < 9218868437227405312) (hr : -9223372036854775808 ≤ sv ng (vR r / k74) ∧ sv ng (vR r / k74) ≤ 9223372036854775807) : floatToIntVal .f64 (Ieee.double.word ng r) .i64 = some (sv ng (vR r / k74)) := by
  unfold floatToIntVal
  rw [dec_fin ng r h]
  have e : (Ieee.Datum.number ng (mantR r) ((exR r : Int) - 1074)).toInt .zero = some (sv ng (vR r / k74)) := by
    unfold Ieee.Datum.toInt
    rw [integral_low]
    show some (Ieee.signed ng (vR r / k74) 0) = _
    rw [signed_eq, Nat.pow_zero, Nat.mul_one]
  rw [e]
  exact if_pos hr
def wholeV (ng : Bool) (r : Nat) : Int := if okW ng r then valW ng r else 0
theorem whole_out (x : Nat) (w : World) (h : ¬ (FloatKind.f64.format.order x 14114281232179134464 = some .gt ∨ FloatKind.f64.format.order x 14114281232179134464 = some .eq) ∨ ¬ FloatKind.f64.format.order x 4890909195324358656 = some .lt) :
    Calls Try.prog 7 #[.float .f64 x] w fun e w' => e = .returned (.tuple #[.int .i64 0, .bool false]) ∧ w' = w := by
  by_cases h1 : FloatKind.f64.format.order x 14114281232179134464 = some .gt ∨ FloatKind.f64.format.order x 14114281232179134464 = some .eq
  · have h2 : ¬ FloatKind.f64.format.order x 4890909195324358656 = some .lt := by
      rcases h with h | h
      · exact absurd h1 h
      · exact h
    clear h
    go_enter Try.func7, Try.ntmps7
    go_wp2
    go_ret2
    exact ⟨rfl, rfl⟩
  · clear h
    go_enter Try.func7, Try.ntmps7
    go_wp2
    go_ret2
    exact ⟨rfl, rfl⟩
set_option maxRecDepth 4000 in
theorem whole_in (ng : Bool) (r : Nat) (w : World) (h : r < 9218868437227405312) (h1 : FloatKind.f64.format.order (Ieee.double.word ng r) 14114281232179134464 = some .gt ∨ FloatKind.f64.format.order (Ieee.double.word ng r) 14114281232179134464 = some .eq)
    (h2 : FloatKind.f64.format.order (Ieee.double.word ng r) 4890909195324358656 = some .lt) (hl : vR r / k74 < 2 ^ 64) (hr : -9223372036854775808 ≤ sv ng (vR r / k74) ∧ sv ng (vR r / k74) ≤ 9223372036854775807) :
    Calls Try.prog 7 #[.float .f64 (Ieee.double.word ng r)] w fun e w' => e = .returned (.tuple #[.int .i64 (if vR r % k74 = 0 then sv ng (vR r / k74) else 0), .bool (decide (vR r % k74 = 0))]) ∧ w' = w := by
  have T := hide (trunc_any ng r w h)
  have hte := trunc_eq ng r h hl
  have hti := toInt_low ng r h hr
  have hcv := run_convert_float_int (P := Try.prog) w 36 2 .f64 .i64 _ _ (by rw [Try.underlying36]; rfl) Try.underlying2 hti
  generalize sv ng (vR r / k74) = z at *
  generalize FloatKind.f64.encode (.number ng (vR r / k74) 0) = y at *
  generalize Ieee.double.word ng r = x at *
  obtain ⟨A, hA⟩ : ∃ A, A = FloatKind.f64.format.order x 14114281232179134464 := ⟨_, rfl⟩
  obtain ⟨B, hB⟩ : ∃ B, B = FloatKind.f64.format.order x 4890909195324358656 := ⟨_, rfl⟩
  have g1 : (FloatKind.f64.format.order x 14114281232179134464 == some Ordering.gt || FloatKind.f64.format.order x 14114281232179134464 == some Ordering.eq) = true := by
    rw [← hA] at h1 ⊢
    rcases h1 with rfl | rfl <;> rfl
  have g2 : (FloatKind.f64.format.order x 4890909195324358656 == some Ordering.lt) = true := by
    rw [← hB] at h2 ⊢
    rw [h2]; rfl
  clear h1 h2 hA hB
  by_cases hz : vR r % k74 = 0
  · have he0 : FloatKind.f64.format.order x y = some .eq := hte.2 hz
    have he : (FloatKind.f64.format.order x y != some Ordering.eq) = false := by rw [he0]; rfl
    clear he0
    rw [if_pos hz, decide_eq_true hz]
    clear hte hz hti hl hr h
    go_enter Try.func7, Try.ntmps7
    go_wp2_with fail
    refine (unhide T).mono ?_
    rintro e w1 ⟨rfl, rfl⟩
    clear g1 g2 T
    go_wp2
    go_ret2
    exact ⟨rfl, rfl⟩
  · have he : (FloatKind.f64.format.order x y != some Ordering.eq) = true := by rw [bne_iff_ne]; exact fun e => hz (hte.1 e)
    rw [if_neg hz, decide_eq_false hz]
    clear hte hz hti hcv hl hr h
    go_enter Try.func7, Try.ntmps7
    go_wp2_with fail
    refine (unhide T).mono ?_
    rintro e w1 ⟨rfl, rfl⟩
    clear g1 g2 T
    go_wp2
    go_ret2
    exact ⟨rfl, rfl⟩
theorem low_word : Ieee.double.word true 4890909195324358656 = 14114281232179134464 := by decide +kernel
theorem high_word : Ieee.double.word false 4890909195324358656 = 4890909195324358656 := by decide +kernel
theorem order_low (ng : Bool) (r : Nat) (h : r < 9218868437227405312) : FloatKind.f64.format.order (Ieee.double.word ng r) 14114281232179134464 = some (compare (sv ng (vR r)) (-((9223372036854775808 * k74 : Nat) : Int))) := by
  rw [← low_word, order_word ng true r _ h (by decide), v63]; rfl
theorem order_high (ng : Bool) (r : Nat) (h : r < 9218868437227405312) : FloatKind.f64.format.order (Ieee.double.word ng r) 4890909195324358656 = some (compare (sv ng (vR r)) ((9223372036854775808 * k74 : Nat) : Int)) := by
  have e := order_word ng false r 4890909195324358656 h (by decide)
  rw [high_word, v63] at e
  exact e
theorem div_le63 (V : Nat) : (V ≤ 9223372036854775808 * k74 → V / k74 ≤ 9223372036854775808) ∧ (V < 9223372036854775808 * k74 ↔ V / k74 < 9223372036854775808) ∧ (V % k74 = 0 → V / k74 ≤ 9223372036854775808 → V ≤ 9223372036854775808 * k74) := by
  refine ⟨fun h => ?_, ?_, fun h1 h2 => ?_⟩
  · have := Nat.div_le_div_right (c := k74) h
    rwa [Nat.mul_div_cancel _ k74_pos] at this
  · rw [Nat.div_lt_iff_lt_mul k74_pos]
  · have := Nat.div_add_mod V k74
    have h3 := Nat.mul_le_mul_right k74 h2
    rw [Nat.mul_comm] at this
    omega
/-- Whole of every float. -/
theorem whole_any (ng : Bool) (r : Nat) (w : World) (hr : r < 9223372036854775808) :
    Calls Try.prog 7 #[.float .f64 (Ieee.double.word ng r)] w fun e w' => e = .returned (.tuple #[.int .i64 (wholeV ng r), .bool (okW ng r)]) ∧ w' = w := by
  by_cases hin : r < 9218868437227405312
  · have ol := order_low ng r hin
    have oh := order_high ng r hin
    obtain ⟨q1, q2, q3⟩ := div_le63 (vR r)
    by_cases hc : if ng then vR r ≤ 9223372036854775808 * k74 else vR r < 9223372036854775808 * k74
    · have hpos : 0 < 9223372036854775808 * k74 := Nat.mul_pos (by decide) k74_pos
      have h1 : FloatKind.f64.format.order (Ieee.double.word ng r) 14114281232179134464 = some .gt ∨ FloatKind.f64.format.order (Ieee.double.word ng r) 14114281232179134464 = some .eq := by
        rw [ol, Option.some.injEq, Option.some.injEq, Int.compare_eq_gt, Int.compare_eq_eq]
        unfold sv
        generalize 9223372036854775808 * k74 = K at *
        cases ng
        · simp at hc ⊢; omega
        · simp at hc ⊢; omega
      have h2 : FloatKind.f64.format.order (Ieee.double.word ng r) 4890909195324358656 = some .lt := by
        rw [oh, Option.some.injEq, Int.compare_eq_lt]
        unfold sv
        generalize 9223372036854775808 * k74 = K at *
        cases ng
        · simp at hc ⊢; omega
        · simp at hc ⊢; omega
      have hq : vR r / k74 ≤ 9223372036854775808 := by
        cases ng
        · simp at hc; have := q2.1 hc; omega
        · simp at hc; exact q1 hc
      have hok : okW ng r = decide (vR r % k74 = 0) := by
        unfold okW
        refine decide_eq_decide.2 ⟨fun h => h.2.1, fun h => ⟨hin, h, ?_⟩⟩
        cases ng
        · simp at hc ⊢; exact q2.1 hc
        · simpa using hq
      refine (whole_in ng r w hin h1 h2 (Nat.lt_of_le_of_lt hq (by decide)) ?_).mono ?_
      · have hq' : ng = false → vR r / k74 < 9223372036854775808 := fun e => by subst e; simp at hc; exact q2.1 hc
        clear q1 q2 q3 hok ol oh h1 h2
        generalize vR r / k74 = Q at *
        unfold sv
        cases ng
        · have := hq' rfl
          show -9223372036854775808 ≤ (Q : Int) ∧ (Q : Int) ≤ 9223372036854775807
          omega
        · show -9223372036854775808 ≤ -(Q : Int) ∧ -(Q : Int) ≤ 9223372036854775807
          omega
      · rintro e w' ⟨rfl, rfl⟩
        refine ⟨?_, rfl⟩
        have hv : wholeV ng r = if vR r % k74 = 0 then sv ng (vR r / k74) else 0 := by
          unfold wholeV
          rw [hok]
          by_cases hz : vR r % k74 = 0
          · rw [if_pos hz, if_pos (decide_eq_true hz)]; rfl
          · rw [if_neg hz, if_neg (by simpa using hz)]
        rw [hv, hok]
    · have hok : okW ng r = false := by
        unfold okW
        rw [decide_eq_false_iff_not]
        rintro ⟨_, h2, h3⟩
        apply hc
        cases ng
        · simp at h3 ⊢; exact q2.2 h3
        · simp at h3 ⊢; exact q3 h2 h3
      have hv : wholeV ng r = 0 := by unfold wholeV; rw [hok]; rfl
      rw [hok, hv]
      refine whole_out _ w ?_
      rw [ol, oh]
      simp only [Option.some.injEq, Int.compare_eq_gt, Int.compare_eq_eq, Int.compare_eq_lt]
      unfold sv
      generalize 9223372036854775808 * k74 = K at *
      cases ng
      · simp at hc ⊢; omega
      · simp at hc ⊢; omega
  · have hok : okW ng r = false := by
      unfold okW
      rw [decide_eq_false_iff_not]
      exact fun h => hin h.1
    have hv : wholeV ng r = 0 := by unfold wholeV; rw [hok]; rfl
    rw [hok, hv]
    refine whole_out _ w ?_
    by_cases hinf : r = 9218868437227405312
    · subst hinf
      cases ng
      · right
        show ¬ (FloatKind.f64.decode _).order (FloatKind.f64.decode _) = _
        rw [dec_inf, ← high_word, dec_fin false _ (by decide)]
        simp [Ieee.Datum.order]
      · left
        show ¬ ((FloatKind.f64.decode _).order (FloatKind.f64.decode _) = _ ∨ (FloatKind.f64.decode _).order (FloatKind.f64.decode _) = _)
        rw [dec_inf, ← low_word, dec_fin true _ (by decide)]
        simp [Ieee.Datum.order]
    · obtain ⟨f, hf⟩ := dec_nan ng r (by omega) hr
      left
      show ¬ ((FloatKind.f64.decode _).order (FloatKind.f64.decode _) = _ ∨ (FloatKind.f64.decode _).order (FloatKind.f64.decode _) = _)
      rw [hf]
      simp [Ieee.Datum.order]
end Go.Proofs.Ytdfdicgfldcngaa.mem
