import Derived.Test.YtjfdjpaocdhbbaaGreatDoorNbk11
import Derived.Laws.FloatArith
import Derived.Laws.Externs
namespace Go.Proofs.YtjfdjpaocdhbbaaGreatDoor.mem
open Go.ChangeShapes Go.WideShapes Go.ChangeAt Go.RowKit
open ints (hide unhide)
set_option linter.unusedVariables false
set_option maxRecDepth 8000
/-- Is the float with the sign ng and the rung r a whole number within int64, and which? -/
def okW (ng : Bool) (r : Nat) : Bool := decide (r < 9218868437227405312 ∧ vR r % k74 = 0 ∧ (if ng then vR r / k74 ≤ 9223372036854775808 else vR r / k74 < 9223372036854775808))
def valW (ng : Bool) (r : Nat) : Int := if ng then -((vR r / k74 : Nat) : Int) else ((vR r / k74 : Nat) : Int)
theorem k74_split {E : Nat} (h : E ≤ 1074) : k74 = 2 ^ E * 2 ^ (1074 - E) := by
  unfold k74
  rw [← Nat.pow_add, show E + (1074 - E) = 52 + e22 from by rw [e22_eq]; omega]
theorem odd_no {M E V : Nat} (hV : M * 2 ^ E = V) (hM : M % 2 = 1) (hE : E < 1074) : V % k74 ≠ 0 := by
  intro h
  obtain ⟨q, hq⟩ := Nat.dvd_of_mod_eq_zero h
  rw [← hV, k74_split (E := E) (by omega), Nat.mul_assoc, Nat.mul_comm M] at hq
  have h2 := Nat.eq_of_mul_eq_mul_left (Nat.two_pow_pos E) hq
  rw [show 1074 - E = (1074 - E - 1) + 1 by omega, Nat.pow_succ] at h2
  have : M = 2 * (2 ^ (1074 - E - 1) * q) := by rw [h2, Nat.mul_comm _ 2, Nat.mul_assoc]
  omega
theorem big_no {M E V : Nat} (hV : M * 2 ^ E = V) (hM : 9223372036854775808 ≤ M) (hE : 1074 < E) : 18446744073709551616 ≤ V / k74 := by
  rw [Nat.le_div_iff_mul_le k74_pos, ← hV]
  have e : 2 ^ E = 2 ^ (E - 1074 - 1) * 2 * k74 := by
    unfold k74
    rw [← Nat.pow_succ, ← Nat.pow_add, show (E - 1074 - 1).succ + (52 + e22) = E from by rw [e22_eq]; omega]
  rw [e, ← Nat.mul_assoc]
  refine Nat.mul_le_mul_right _ ?_
  have h1 := Nat.two_pow_pos (E - 1074 - 1)
  have h2 : 1 * 2 ≤ 2 ^ (E - 1074 - 1) * 2 := Nat.mul_le_mul_right _ h1
  have h3 := Nat.mul_le_mul hM h2
  omega
theorem whole_end {M E V : Nat} (hV : M * 2 ^ E = V) (h : M = 0 ∨ E = 1074) : V % k74 = 0 ∧ V / k74 = M := by
  rcases h with rfl | h
  · rw [Nat.zero_mul] at hV
    rw [← hV]; simp
  · have : 2 ^ E = k74 := by unfold k74; rw [show E = 52 + e22 from by rw [e22_eq]; omega]
    rw [this] at hV
    rw [← hV]
    exact ⟨Nat.mul_mod_left _ _, Nat.mul_div_cancel _ k74_pos⟩
theorem cut_zero (ng : Bool) (n d : Nat) : Ieee.Toward.zero.cut ng n d = n / 2 ^ d := by
  unfold Ieee.Toward.cut
  simp only [Bool.toNat_false, Nat.add_zero, Nat.shiftLeft_eq, Nat.one_mul]
  by_cases h : d ≤ n.log2 + 2
  · rw [Nat.min_eq_left h]
  · rw [Nat.min_eq_right (by omega)]
    have h1 : n < 2 ^ (n.log2 + 2) := Nat.lt_of_lt_of_le (Nat.lt_log2_self (n := n)) (Nat.pow_le_pow_right (by decide) (by omega))
    have h2 : n < 2 ^ d := Nat.lt_of_lt_of_le h1 (Nat.pow_le_pow_right (by decide) (by omega))
    rw [Nat.div_eq_of_lt h1, Nat.div_eq_of_lt h2]
theorem low_eq (r : Nat) : (exR r < 1074 → vR r / k74 = mantR r / 2 ^ (1074 - exR r)) ∧ (1074 ≤ exR r → vR r / k74 = mantR r * 2 ^ (exR r - 1074)) := by
  constructor
  · intro h
    unfold vR
    rw [k74_split (E := exR r) (by omega), Nat.mul_comm (2 ^ exR r)]
    exact Nat.mul_div_mul_right _ _ (Nat.two_pow_pos _)
  · intro h
    have e : mantR r * 2 ^ exR r = mantR r * 2 ^ (exR r - 1074) * k74 := by
      unfold k74
      rw [Nat.mul_assoc, ← Nat.pow_add, show exR r - 1074 + (52 + e22) = exR r from by rw [e22_eq]; omega]
    unfold vR
    rw [e, Nat.mul_div_cancel _ k74_pos]
theorem integral_low (ng : Bool) (r : Nat) : (Ieee.Datum.number ng (mantR r) ((exR r : Int) - 1074)).integral .zero = .number ng (vR r / k74) 0 := by
  unfold Ieee.Datum.integral
  simp only [cut_zero]
  congr 1
  by_cases h : exR r < 1074
  · rw [(low_eq r).1 h, show ((exR r : Int) - 1074).toNat = 0 by omega, show (-((exR r : Int) - 1074)).toNat = 1074 - exR r by omega, Nat.shiftLeft_zero]
  · rw [(low_eq r).2 (by omega), show ((exR r : Int) - 1074).toNat = exR r - 1074 by omega, show (-((exR r : Int) - 1074)).toNat = 0 by omega, Nat.shiftLeft_eq]
    simp
theorem exact_int {n : Nat} (h : n ≠ 0) (hd : 2 ^ n.log2 ∣ n * b52) : vR (loN n) = n * k74 := by
  obtain ⟨p1, p2, _⟩ := loN_parts h
  unfold vR
  rw [p1, p2, Nat.pow_add, ← Nat.mul_assoc, Nat.div_mul_cancel hd, k74_eq, Nat.mul_assoc, show k22 = 2 ^ e22 from rfl]
theorem low_div (r : Nat) (h0 : vR r / k74 ≠ 0) : 2 ^ (vR r / k74).log2 ∣ (vR r / k74) * b52 := by
  by_cases h : exR r < 1074
  · have hl := (low_eq r).1 h
    have hm : mantR r < b53 := by unfold mantR b52 b53; split; omega; have := Nat.mod_lt r (show 4503599627370496 > 0 by decide); omega
    have h1 : vR r / k74 < 2 ^ 53 := by
      rw [hl]
      exact Nat.lt_of_le_of_lt (Nat.div_le_self _ _) hm
    have h2 : (vR r / k74).log2 < 53 := (Nat.log2_lt h0).2 h1
    have h3 : 2 ^ (vR r / k74).log2 ∣ b52 := by
      rw [b52_eq]
      exact Nat.pow_dvd_pow 2 (by omega)
    exact Nat.dvd_trans h3 (Nat.dvd_mul_left _ _)
  · have hl := (low_eq r).2 (by omega)
    have hr : ¬ r < b52 := by
      intro hr
      have : exR r = 0 := by unfold exR; rw [Nat.div_eq_of_lt hr]
      omega
    have hm : mantR r < 2 ^ 53 ∧ 2 ^ 52 ≤ mantR r := by
      unfold mantR
      rw [if_neg hr]
      unfold b52
      have := Nat.mod_lt r (show 4503599627370496 > 0 by decide)
      omega
    have hL : (vR r / k74).log2 = 52 + (exR r - 1074) := by
      rw [hl, Nat.log2_eq_iff (by rw [← hl]; exact h0)]
      rw [Nat.pow_add, Nat.add_assoc, Nat.add_comm _ 1, ← Nat.add_assoc, Nat.pow_add]
      exact ⟨Nat.mul_le_mul_right _ hm.2, Nat.mul_lt_mul_of_pos_right hm.1 (Nat.two_pow_pos _)⟩
    rw [hL, hl, Nat.pow_add, b52_eq, Nat.mul_assoc, Nat.mul_comm (2 ^ (exR r - 1074))]
    exact Nat.dvd_mul_left _ _
theorem enc_low (ng : Bool) (r : Nat) (hl : vR r / k74 < 2 ^ 64) : ∃ R, FloatKind.f64.encode (.number ng (vR r / k74) 0) = Ieee.double.word ng R ∧ R < 9218868437227405312 ∧ vR R = vR r / k74 * k74 := by
  by_cases h0 : vR r / k74 = 0
  · refine ⟨0, ?_, by decide, ?_⟩
    · rw [h0]; cases ng <;> rfl
    · rw [h0, Nat.zero_mul]; rfl
  · have hv := exact_int h0 (low_div r h0)
    refine ⟨loN (vR r / k74), ?_, ?_, hv⟩
    · show Ieee.double.nearest ng (vR r / k74) 0 = _
      rw [nearest_int ng h0 hl, round_exact hv.symm]
    · have hL : (vR r / k74).log2 < 64 := (Nat.log2_lt h0).2 hl
      obtain ⟨b1, b2⟩ := q_bd h0
      have := e22_eq
      unfold loN
      generalize vR r / k74 * b52 / 2 ^ (vR r / k74).log2 = q at *
      generalize (vR r / k74).log2 = L at *
      unfold b52 b53 at *
      omega
theorem sv_inj {ng : Bool} {a b : Nat} : sv ng a = sv ng b ↔ a = b := by
  unfold sv
  cases ng <;> simp <;> omega
theorem trunc_eq (ng : Bool) (r : Nat) (h : r < 9218868437227405312) (hl : vR r / k74 < 2 ^ 64) :
    FloatKind.f64.format.order (Ieee.double.word ng r) (FloatKind.f64.encode (.number ng (vR r / k74) 0)) = some .eq ↔ vR r % k74 = 0 := by
  obtain ⟨R, e, hR, hv⟩ := enc_low ng r hl
  rw [e, order_word ng ng r R h hR, Option.some.injEq, Int.compare_eq_eq, sv_inj, hv]
  have := Nat.div_add_mod (vR r) k74
  rw [Nat.mul_comm]
  omega
theorem v63 : vR 4890909195324358656 = 9223372036854775808 * k74 := by
  have e1 : mantR 4890909195324358656 = 4503599627370496 := by decide +kernel
  have e2 : exR 4890909195324358656 = 63 + e22 := by rw [e22_eq]; decide +kernel
  unfold vR k74
  rw [e1, e2, show (9223372036854775808 : Nat) = 2 ^ 63 from rfl, show (4503599627370496 : Nat) = 2 ^ 52 from rfl, ← Nat.pow_add, ← Nat.pow_add, show 52 + (63 + e22) = 63 + (52 + e22) by omega]
theorem run_trunc (x : Nat) (w : World) (ng : Bool) (m : Nat) (p : Int) (h : FloatKind.f64.decode x = .number ng m p) :
    (callFunc 55 #[.float .f64 x]).run Tryz.prog w = .ok (.value (.float .f64 (FloatKind.f64.encode ((Ieee.Datum.number ng m p).integral .zero)))) w := by
  rw [run_callFunc_extern (e := Extern.MathFloor.toIntegral "math.archTrunc" .zero) Tryz.func55 (by kernel_rfl) (by kernel_rfl) (by kernel_rfl) (by kernel_rfl)]
  have key : Extern.MathFloor.toIntegral "math.archTrunc" .zero #[.float .f64 x] = Extern.MathFloor.toIntegral.match_1 (fun _ => Sem Value) (FloatKind.f64.decode x) _ _ := rfl
  rw [key, h]
  rfl
theorem run_tobits (x : Nat) (w : World) : (callFunc 15 #[.float .f64 x]).run Tryz.prog w = .ok (.value (.int .u64 x)) w := by
  rw [run_callFunc_extern (e := Extern.MathFloatBits.float64bits) Tryz.func15 (by kernel_rfl) (by kernel_rfl) (by kernel_rfl) (by kernel_rfl)]
  rfl
theorem run_frombits (n : Nat) (w : World) : (callFunc 8 #[.int .u64 (n : Int)]).run Tryz.prog w = .ok (.value (.float .f64 n)) w := by
  rw [run_callFunc_extern (e := Extern.MathFloatBits.float64frombits) Tryz.func8 (by kernel_rfl) (by kernel_rfl) (by kernel_rfl) (by kernel_rfl)]
  rfl
theorem trunc_any (ng : Bool) (r : Nat) (w : World) (h : r < 9218868437227405312) :
    Calls Tryz.prog 29 #[.float .f64 (Ieee.double.word ng r)] w fun e w' => e = .returned (.float .f64 (FloatKind.f64.encode (.number ng (vR r / k74) 0))) ∧ w' = w := by
  have hrun := run_trunc (Ieee.double.word ng r) w ng _ _ (dec_fin ng r h)
  rw [integral_low] at hrun
  generalize Ieee.double.word ng r = x at *
  generalize FloatKind.f64.encode (.number ng (vR r / k74) 0) = y at *
  go_enter Tryz.func29, Tryz.ntmps29
  go_wp2
  go_ret
  exact ⟨rfl, rfl⟩
theorem toInt_low (ng : Bool) (r : Nat) (h : r < 9218868437227405312) (hr : -9223372036854775808 ≤ sv ng (vR r / k74) ∧ sv ng (vR r / k74) ≤ 9223372036854775807) : floatToIntVal .f64 (Ieee.double.word ng r) .i64 = some (sv ng (vR r / k74)) := by
  unfold floatToIntVal
  rw [dec_fin ng r h]
  have e : (Ieee.Datum.number ng (mantR r) ((exR r : Int) - 1074)).toInt .zero = some (sv ng (vR r / k74)) := by
    unfold Ieee.Datum.toInt
    rw [integral_low]
    show some (Ieee.signed ng (vR r / k74) 0) = _
    rw [signed_eq, Nat.pow_zero, Nat.mul_one]
  rw [e]
  exact if_pos hr
def wholeV (ng : Bool) (r : Nat) : Int := if okW ng r then valW ng r else 0
theorem whole_out (x : Nat) (w : World) (h : ¬ (FloatKind.f64.format.order x 14114281232179134464 = some .gt ∨ FloatKind.f64.format.order x 14114281232179134464 = some .eq) ∨ ¬ FloatKind.f64.format.order x 4890909195324358656 = some .lt) :
    Calls Tryz.prog 17 #[.float .f64 x] w fun e w' => e = .returned (.tuple #[.int .i64 0, .bool false]) ∧ w' = w := by
  by_cases h1 : FloatKind.f64.format.order x 14114281232179134464 = some .gt ∨ FloatKind.f64.format.order x 14114281232179134464 = some .eq
  · have h2 : ¬ FloatKind.f64.format.order x 4890909195324358656 = some .lt := by
      rcases h with h | h
      · exact absurd h1 h
      · exact h
    clear h
    go_enter Tryz.func17, Tryz.ntmps17
    go_wp2
    go_ret2
    exact ⟨rfl, rfl⟩
  · clear h
    go_enter Tryz.func17, Tryz.ntmps17
    go_wp2
    go_ret2
    exact ⟨rfl, rfl⟩
set_option maxRecDepth 4000 in
theorem whole_in (ng : Bool) (r : Nat) (w : World) (h : r < 9218868437227405312) (h1 : FloatKind.f64.format.order (Ieee.double.word ng r) 14114281232179134464 = some .gt ∨ FloatKind.f64.format.order (Ieee.double.word ng r) 14114281232179134464 = some .eq)
    (h2 : FloatKind.f64.format.order (Ieee.double.word ng r) 4890909195324358656 = some .lt) (hl : vR r / k74 < 2 ^ 64) (hr : -9223372036854775808 ≤ sv ng (vR r / k74) ∧ sv ng (vR r / k74) ≤ 9223372036854775807) :
    Calls Tryz.prog 17 #[.float .f64 (Ieee.double.word ng r)] w fun e w' => e = .returned (.tuple #[.int .i64 (if vR r % k74 = 0 then sv ng (vR r / k74) else 0), .bool (decide (vR r % k74 = 0))]) ∧ w' = w := by
  have T := hide (trunc_any ng r w h)
  have hte := trunc_eq ng r h hl
  have hti := toInt_low ng r h hr
  have hcv := run_convert_float_int (P := Tryz.prog) w 26 2 .f64 .i64 _ _ (by rw [Tryz.underlying26]; rfl) Tryz.underlying2 hti
  generalize sv ng (vR r / k74) = z at *
  generalize FloatKind.f64.encode (.number ng (vR r / k74) 0) = y at *
  generalize Ieee.double.word ng r = x at *
  obtain ⟨A, hA⟩ : ∃ A, A = FloatKind.f64.format.order x 14114281232179134464 := ⟨_, rfl⟩
  obtain ⟨B, hB⟩ : ∃ B, B = FloatKind.f64.format.order x 4890909195324358656 := ⟨_, rfl⟩
  have g1 : (FloatKind.f64.format.order x 14114281232179134464 == some Ordering.gt || FloatKind.f64.format.order x 14114281232179134464 == some Ordering.eq) = true := by
    rw [← hA] at h1 ⊢
    rcases h1 with rfl | rfl <;> rfl
  have g2 : (FloatKind.f64.format.order x 4890909195324358656 == some Ordering.lt) = true := by
    rw [← hB] at h2 ⊢
    rw [h2]; rfl
  clear h1 h2 hA hB
  by_cases hz : vR r % k74 = 0
  · have he0 : FloatKind.f64.format.order x y = some .eq := hte.2 hz
    have he : (FloatKind.f64.format.order x y != some Ordering.eq) = false := by rw [he0]; rfl
    clear he0
    rw [if_pos hz, decide_eq_true hz]
    clear hte hz hti hl hr h
    go_enter Tryz.func17, Tryz.ntmps17
    go_wp2_with fail
    refine (unhide T).mono ?_
    rintro e w1 ⟨rfl, rfl⟩
    clear g1 g2 T
    go_wp2
    go_ret2
    exact ⟨rfl, rfl⟩
  · have he : (FloatKind.f64.format.order x y != some Ordering.eq) = true := by rw [bne_iff_ne]; exact fun e => hz (hte.1 e)
    rw [if_neg hz, decide_eq_false hz]
    clear hte hz hti hcv hl hr h
    go_enter Tryz.func17, Tryz.ntmps17
    go_wp2_with fail
    refine (unhide T).mono ?_
    rintro e w1 ⟨rfl, rfl⟩
    clear g1 g2 T
    go_wp2
    go_ret2
    exact ⟨rfl, rfl⟩
theorem low_word : Ieee.double.word true 4890909195324358656 = 14114281232179134464 := by decide +kernel
theorem high_word : Ieee.double.word false 4890909195324358656 = 4890909195324358656 := by decide +kernel
theorem order_low (ng : Bool) (r : Nat) (h : r < 9218868437227405312) : FloatKind.f64.format.order (Ieee.double.word ng r) 14114281232179134464 = some (compare (sv ng (vR r)) (-((9223372036854775808 * k74 : Nat) : Int))) := by
  rw [← low_word, order_word ng true r _ h (by decide), v63]; rfl
theorem order_high (ng : Bool) (r : Nat) (h : r < 9218868437227405312) : FloatKind.f64.format.order (Ieee.double.word ng r) 4890909195324358656 = some (compare (sv ng (vR r)) ((9223372036854775808 * k74 : Nat) : Int)) := by
  have e := order_word ng false r 4890909195324358656 h (by decide)
  rw [high_word, v63] at e
  exact e
theorem div_le63 (V : Nat) : (V ≤ 9223372036854775808 * k74 → V / k74 ≤ 9223372036854775808) ∧ (V < 9223372036854775808 * k74 ↔ V / k74 < 9223372036854775808) ∧ (V % k74 = 0 → V / k74 ≤ 9223372036854775808 → V ≤ 9223372036854775808 * k74) := by
  refine ⟨fun h => ?_, ?_, fun h1 h2 => ?_⟩
  · have := Nat.div_le_div_right (c := k74) h
    rwa [Nat.mul_div_cancel _ k74_pos] at this
  · rw [Nat.div_lt_iff_lt_mul k74_pos]
  · have := Nat.div_add_mod V k74
    have h3 := Nat.mul_le_mul_right k74 h2
    rw [Nat.mul_comm] at this
    omega
/-- Whole of every float. -/
theorem whole_any (ng : Bool) (r : Nat) (w : World) (hr : r < 9223372036854775808) :
    Calls Tryz.prog 17 #[.float .f64 (Ieee.double.word ng r)] w fun e w' => e = .returned (.tuple #[.int .i64 (wholeV ng r), .bool (okW ng r)]) ∧ w' = w := by
  by_cases hin : r < 9218868437227405312
  · have ol := order_low ng r hin
    have oh := order_high ng r hin
    obtain ⟨q1, q2, q3⟩ := div_le63 (vR r)
    by_cases hc : if ng then vR r ≤ 9223372036854775808 * k74 else vR r < 9223372036854775808 * k74
    · have hpos : 0 < 9223372036854775808 * k74 := Nat.mul_pos (by decide) k74_pos
      have h1 : FloatKind.f64.format.order (Ieee.double.word ng r) 14114281232179134464 = some .gt ∨ FloatKind.f64.format.order (Ieee.double.word ng r) 14114281232179134464 = some .eq := by
        rw [ol, Option.some.injEq, Option.some.injEq, Int.compare_eq_gt, Int.compare_eq_eq]
        unfold sv
        generalize 9223372036854775808 * k74 = K at *
        cases ng
        · simp at hc ⊢; omega
        · simp at hc ⊢; omega
      have h2 : FloatKind.f64.format.order (Ieee.double.word ng r) 4890909195324358656 = some .lt := by
        rw [oh, Option.some.injEq, Int.compare_eq_lt]
        unfold sv
        generalize 9223372036854775808 * k74 = K at *
        cases ng
        · simp at hc ⊢; omega
        · simp at hc ⊢; omega
      have hq : vR r / k74 ≤ 9223372036854775808 := by
        cases ng
        · simp at hc; have := q2.1 hc; omega
        · simp at hc; exact q1 hc
      have hok : okW ng r = decide (vR r % k74 = 0) := by
        unfold okW
        refine decide_eq_decide.2 ⟨fun h => h.2.1, fun h => ⟨hin, h, ?_⟩⟩
        cases ng
        · simp at hc ⊢; exact q2.1 hc
        · simpa using hq
      refine (whole_in ng r w hin h1 h2 (Nat.lt_of_le_of_lt hq (by decide)) ?_).mono ?_
      · have hq' : ng = false → vR r / k74 < 9223372036854775808 := fun e => by subst e; simp at hc; exact q2.1 hc
        clear q1 q2 q3 hok ol oh h1 h2
        generalize vR r / k74 = Q at *
        unfold sv
        cases ng
        · have := hq' rfl
          show -9223372036854775808 ≤ (Q : Int) ∧ (Q : Int) ≤ 9223372036854775807
          omega
        · show -9223372036854775808 ≤ -(Q : Int) ∧ -(Q : Int) ≤ 9223372036854775807
          omega
      · rintro e w' ⟨rfl, rfl⟩
        refine ⟨?_, rfl⟩
        have hv : wholeV ng r = if vR r % k74 = 0 then sv ng (vR r / k74) else 0 := by
          unfold wholeV
          rw [hok]
          by_cases hz : vR r % k74 = 0
          · rw [if_pos hz, if_pos (decide_eq_true hz)]; rfl
          · rw [if_neg hz, if_neg (by simpa using hz)]
        rw [hv, hok]
    · have hok : okW ng r = false := by
        unfold okW
        rw [decide_eq_false_iff_not]
        rintro ⟨_, h2, h3⟩
        apply hc
        cases ng
        · simp at h3 ⊢; exact q2.2 h3
        · simp at h3 ⊢; exact q3 h2 h3
      have hv : wholeV ng r = 0 := by unfold wholeV; rw [hok]; rfl
      rw [hok, hv]
      refine whole_out _ w ?_
      rw [ol, oh]
      simp only [Option.some.injEq, Int.compare_eq_gt, Int.compare_eq_eq, Int.compare_eq_lt]
      unfold sv
      generalize 9223372036854775808 * k74 = K at *
      cases ng
      · simp at hc ⊢; omega
      · simp at hc ⊢; omega
  · have hok : okW ng r = false := by
      unfold okW
      rw [decide_eq_false_iff_not]
      exact fun h => hin h.1
    have hv : wholeV ng r = 0 := by unfold wholeV; rw [hok]; rfl
    rw [hok, hv]
    refine whole_out _ w ?_
    by_cases hinf : r = 9218868437227405312
    · subst hinf
      cases ng
      · right
        show ¬ (FloatKind.f64.decode _).order (FloatKind.f64.decode _) = _
        rw [dec_inf, ← high_word, dec_fin false _ (by decide)]
        simp [Ieee.Datum.order]
      · left
        show ¬ ((FloatKind.f64.decode _).order (FloatKind.f64.decode _) = _ ∨ (FloatKind.f64.decode _).order (FloatKind.f64.decode _) = _)
        rw [dec_inf, ← low_word, dec_fin true _ (by decide)]
        simp [Ieee.Datum.order]
    · obtain ⟨f, hf⟩ := dec_nan ng r (by omega) hr
      left
      show ¬ ((FloatKind.f64.decode _).order (FloatKind.f64.decode _) = _ ∨ (FloatKind.f64.decode _).order (FloatKind.f64.decode _) = _)
      rw [hf]
      simp [Ieee.Datum.order]
theorem roundR_le (P B lo : Nat) : roundR P B lo ≤ lo + 1 := by
  unfold roundR
  split <;> omega
theorem loN_le {n : Nat} (h : n ≠ 0) (hn : n < 2 ^ 64) : loN n + 1 < 9218868437227405312 := by
  have hL : n.log2 < 64 := (Nat.log2_lt h).2 hn
  obtain ⟨b1, b2⟩ := q_bd h
  have := e22_eq
  unfold loN
  generalize n * b52 / 2 ^ n.log2 = q at *
  generalize n.log2 = L at *
  unfold b52 b53 at *
  omega
/-- float64(n). -/
def fOf (n : Int) : Nat := Ieee.double.nearest (decide (n < 0)) n.natAbs 0
def rOf (n : Int) : Nat := if n.natAbs = 0 then 0 else roundR (n.natAbs * k74) 1 (loN n.natAbs)
theorem fOf_word (n : Int) (h : n.natAbs < 2 ^ 64) : fOf n = Ieee.double.word (decide (n < 0)) (rOf n) := by
  unfold fOf rOf
  by_cases h0 : n.natAbs = 0
  · rw [if_pos h0, h0]; rfl
  · rw [if_neg h0, nearest_int _ h0 h]
theorem rOf_lt (n : Int) (h : n.natAbs < 2 ^ 64) : rOf n < 9218868437227405312 := by
  unfold rOf
  by_cases h0 : n.natAbs = 0
  · rw [if_pos h0]; decide
  · rw [if_neg h0]
    have := roundR_le (n.natAbs * k74) 1 (loN n.natAbs)
    have := loN_le h0 h
    omega
theorem word_lt (ng : Bool) (r : Nat) (h : r < 9223372036854775808) : Ieee.double.word ng r < 18446744073709551616 ∧ decide (9223372036854775808 ≤ Ieee.double.word ng r) = ng ∧ Ieee.double.word ng r % 9223372036854775808 = r := by
  have hs : Ieee.double.signWeight = 9223372036854775808 := by rfl
  unfold Ieee.Format.word
  rw [hs]
  cases ng
  · refine ⟨by simp; omega, by simp; omega, by simp; omega⟩
  · refine ⟨by simp; omega, by simp, by simp; omega⟩
def jst (n : Int) : Bool := okW (decide (n < 0)) (rOf n) && (wholeV (decide (n < 0)) (rOf n) == n)
theorem ofWhole_any (n : Int) (w : World) (h0 : -9223372036854775808 ≤ n) (h1 : n ≤ 9223372036854775807) :
    Calls Tryz.prog 16 #[.int .i64 n] w fun e w' => e = .returned (.tuple #[.float .f64 (fOf n), .bool (jst n)]) ∧ w' = w := by
  have hw := fOf_word n (by omega)
  have hl := rOf_lt n (by omega)
  have W := hide (whole_any (decide (n < 0)) (rOf n) w (by omega))
  rw [← hw] at W
  have HJ := hide (show jst n = (okW (decide (n < 0)) (rOf n) && (wholeV (decide (n < 0)) (rOf n) == n)) from rfl)
  have hcv : ∀ W', (convert 2 26 (.int .i64 n)).run Tryz.prog W' = .ok (.float .f64 (fOf n)) W' := fun W' => by
    rw [run_convert_int_float (P := Tryz.prog) W' 2 26 .i64 .f64 n (by rw [Tryz.underlying2]; rfl) Tryz.underlying26]
    rfl
  generalize okW (decide (n < 0)) (rOf n) = OK at *
  generalize wholeV (decide (n < 0)) (rOf n) = V at *
  generalize fOf n = F at *
  clear hw hl
  cases OK
  · cases hv : (V == n)
    all_goals
      go_enter Tryz.func16, Tryz.ntmps16
      go_wp2_with fail
      refine (unhide W).mono ?_
      rintro e w1 ⟨rfl, rfl⟩
      go_wp2
      go_ret2
      exact ⟨by rw [unhide HJ, hv]; rfl, rfl⟩
  · cases hv : (V == n)
    all_goals
      go_enter Tryz.func16, Tryz.ntmps16
      go_wp2_with fail
      refine (unhide W).mono ?_
      rintro e w1 ⟨rfl, rfl⟩
      go_wp2
      go_ret2
      exact ⟨by rw [unhide HJ, hv]; rfl, rfl⟩
end Go.Proofs.YtjfdjpaocdhbbaaGreatDoor.mem
