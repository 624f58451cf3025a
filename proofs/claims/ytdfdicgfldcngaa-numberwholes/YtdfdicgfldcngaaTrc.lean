import Derived.Test.YtdfdicgfldcngaaFlt
namespace Go.Proofs.Ytdfdicgfldcngaa.mem
set_option linter.unusedVariables false

theorem cut_zero (ng : Bool) (n d : Nat) : Ieee.Toward.zero.cut ng n d = n / 2 ^ d := by
  unfold Ieee.Toward.cut
  simp only [Bool.toNat_false, Nat.add_zero, Nat.shiftLeft_eq, Nat.one_mul]
  by_cases h : d ≤ n.log2 + 2
  · rw [Nat.min_eq_left h]
  · rw [Nat.min_eq_right (by omega)]
    have h1 : n < 2 ^ (n.log2 + 2) := Nat.lt_of_lt_of_le (Nat.lt_log2_self (n := n)) (Nat.pow_le_pow_right (by decide) (by omega))
    have h2 : n < 2 ^ d := Nat.lt_of_lt_of_le h1 (Nat.pow_le_pow_right (by decide) (by omega))
    rw [Nat.div_eq_of_lt h1, Nat.div_eq_of_lt h2]
theorem low_eq (r : Nat) : (exR r < 1074 → vR r / k74 = mantR r / 2 ^ (1074 - exR r)) ∧ (1074 ≤ exR r → vR r / k74 = mantR r * 2 ^ (exR r - 1074)) := by
  constructor
  · intro h
    unfold vR
    rw [k74_split (E := exR r) (by omega), Nat.mul_comm (2 ^ exR r)]
    exact Nat.mul_div_mul_right _ _ (Nat.two_pow_pos _)
  · intro h
    have e : mantR r * 2 ^ exR r = mantR r * 2 ^ (exR r - 1074) * k74 := by
      unfold k74
      rw [Nat.mul_assoc, ← Nat.pow_add, show exR r - 1074 + (52 + e22) = exR r from by rw [e22_eq]; omega]
    unfold vR
    rw [e, Nat.mul_div_cancel _ k74_pos]
theorem integral_low (ng : Bool) (r : Nat) : (Ieee.Datum.number ng (mantR r) ((exR r : Int) - 1074)).integral .zero = .number ng (vR r / k74) 0 := by
  unfold Ieee.Datum.integral
  simp only [cut_zero]
  congr 1
  by_cases h : exR r < 1074
  · rw [(low_eq r).1 h, show ((exR r : Int) - 1074).toNat = 0 by omega, show (-((exR r : Int) - 1074)).toNat = 1074 - exR r by omega, Nat.shiftLeft_zero]
  · rw [(low_eq r).2 (by omega), show ((exR r : Int) - 1074).toNat = exR r - 1074 by omega, show (-((exR r : Int) - 1074)).toNat = 0 by omega, Nat.shiftLeft_eq]
    simp
theorem exact_int {n : Nat} (h : n ≠ 0) (hd : 2 ^ n.log2 ∣ n * b52) : vR (loN n) = n * k74 := by
  obtain ⟨p1, p2, _⟩ := loN_parts h
  unfold vR
  rw [p1, p2, Nat.pow_add, ← Nat.mul_assoc, Nat.div_mul_cancel hd, k74_eq, Nat.mul_assoc, show k22 = 2 ^ e22 from rfl]
theorem low_div (r : Nat) (h0 : vR r / k74 ≠ 0) : 2 ^ (vR r / k74).log2 ∣ (vR r / k74) * b52 := by
  by_cases h : exR r < 1074
  · have hl := (low_eq r).1 h
    have hm : mantR r < b53 := by unfold mantR b52 b53; split; omega; have := Nat.mod_lt r (show 4503599627370496 > 0 by decide); omega
    have h1 : vR r / k74 < 2 ^ 53 := by
      rw [hl]
      exact Nat.lt_of_le_of_lt (Nat.div_le_self _ _) hm
    have h2 : (vR r / k74).log2 < 53 := (Nat.log2_lt h0).2 h1
    have h3 : 2 ^ (vR r / k74).log2 ∣ b52 := by
      rw [b52_eq]
      exact Nat.pow_dvd_pow 2 (by omega)
    exact Nat.dvd_trans h3 (Nat.dvd_mul_left _ _)
  · have hl := (low_eq r).2 (by omega)
    have hr : ¬ r < b52 := by
      intro hr
      have : exR r = 0 := by unfold exR; rw [Nat.div_eq_of_lt hr]
      omega
    have hm : mantR r < 2 ^ 53 ∧ 2 ^ 52 ≤ mantR r := by
      unfold mantR
      rw [if_neg hr]
      unfold b52
      have := Nat.mod_lt r (show 4503599627370496 > 0 by decide)
      omega
    have hL : (vR r / k74).log2 = 52 + (exR r - 1074) := by
      rw [hl, Nat.log2_eq_iff (by rw [← hl]; exact h0)]
      rw [Nat.pow_add, Nat.add_assoc, Nat.add_comm _ 1, ← Nat.add_assoc, Nat.pow_add]
      exact ⟨Nat.mul_le_mul_right _ hm.2, Nat.mul_lt_mul_of_pos_right hm.1 (Nat.two_pow_pos _)⟩
    rw [hL, hl, Nat.pow_add, b52_eq, Nat.mul_assoc, Nat.mul_comm (2 ^ (exR r - 1074))]
    exact Nat.dvd_mul_left _ _
theorem enc_low (ng : Bool) (r : Nat) (hl : vR r / k74 < 2 ^ 64) : ∃ R, FloatKind.f64.encode (.number ng (vR r / k74) 0) = Ieee.double.word ng R ∧ R < 9218868437227405312 ∧ vR R = vR r / k74 * k74 := by
  by_cases h0 : vR r / k74 = 0
  · refine ⟨0, ?_, by decide, ?_⟩
    · rw [h0]; cases ng <;> rfl
    · rw [h0, Nat.zero_mul]; rfl
  · have hv := exact_int h0 (low_div r h0)
    refine ⟨loN (vR r / k74), ?_, ?_, hv⟩
    · show Ieee.double.nearest ng (vR r / k74) 0 = _
      rw [nearest_int ng h0 hl, round_exact hv.symm]
    · have hL : (vR r / k74).log2 < 64 := (Nat.log2_lt h0).2 hl
      obtain ⟨b1, b2⟩ := q_bd h0
      have := e22_eq
      unfold loN
      generalize vR r / k74 * b52 / 2 ^ (vR r / k74).log2 = q at *
      generalize (vR r / k74).log2 = L at *
      unfold b52 b53 at *
      omega
theorem sv_inj {ng : Bool} {a b : Nat} : sv ng a = sv ng b ↔ a = b := by
  unfold sv
  cases ng <;> simp <;> omega
theorem trunc_eq (ng : Bool) (r : Nat) (h : r < 9218868437227405312) (hl : vR r / k74 < 2 ^ 64) :
    FloatKind.f64.format.order (Ieee.double.word ng r) (FloatKind.f64.encode (.number ng (vR r / k74) 0)) = some .eq ↔ vR r % k74 = 0 := by
  obtain ⟨R, e, hR, hv⟩ := enc_low ng r hl
  rw [e, order_word ng ng r R h hR, Option.some.injEq, Int.compare_eq_eq, sv_inj, hv]
  have := Nat.div_add_mod (vR r) k74
  rw [Nat.mul_comm]
  omega
theorem v63 : vR 4890909195324358656 = 9223372036854775808 * k74 := by
  have e1 : mantR 4890909195324358656 = 4503599627370496 := by decide +kernel
  have e2 : exR 4890909195324358656 = 63 + e22 := by rw [e22_eq]; decide +kernel
  unfold vR k74
  rw [e1, e2, show (9223372036854775808 : Nat) = 2 ^ 63 from rfl, show (4503599627370496 : Nat) = 2 ^ 52 from rfl, ← Nat.pow_add, ← Nat.pow_add, show 52 + (63 + e22) = 63 + (52 + e22) by omega]
end Go.Proofs.Ytdfdicgfldcngaa.mem
