import Derived.Test.YtjlaoeigfokkiaaGreatDoorBs17
import Derived.Test.YtjlaoeigfokkiaaGreatDoorBs11
namespace Go.Proofs.YtjlaoeigfokkiaaGreatDoor.fto
open Go.ChangeShapes Go.WideShapes Go.ChangeAt Go.RowKit
open mem Go.Sort
open ints (hide unhide)
set_option linter.unusedVariables false
theorem run_fromb (x : Int) (w : World) : (callFunc 156 #[.int .u64 x]).run Tryz.prog w = .ok (.value (.float .f64 x.toNat)) w := by
  rw [run_callFunc_extern (e := Extern.MathFloatBits.float64frombits) Tryz.func156 (by kernel_rfl) (by kernel_rfl) (by kernel_rfl) (by kernel_rfl)]
  rfl
theorem and_key (V : Nat) : V &&& 2 ^ 52 = if V / 2 ^ 52 % 2 = 1 then 2 ^ 52 else 0 := by
  apply Nat.eq_of_testBit_eq
  intro i
  rw [Nat.testBit_and, Nat.testBit_two_pow]
  by_cases hi : 52 = i
  · subst hi
    rw [decide_eq_true rfl, Bool.and_true, Nat.testBit_eq_decide_div_mod_eq]
    split
    · rename_i h; rw [decide_eq_true h, Nat.testBit_two_pow_self]
    · rename_i h; rw [decide_eq_false h, Nat.zero_testBit]
  · rw [decide_eq_false hi, Bool.and_false]
    split
    · rw [Nat.testBit_two_pow, decide_eq_false hi]
    · rw [Nat.zero_testBit]
/-- the bit 52 of a number below 2^53, with or without a sign -/
theorem and52 (S m : Nat) (hS : S = 0 ∨ S = 9223372036854775808) (hm : m < 9007199254740992) : bits .and .u64 ((S + m : Nat) : Int) 4503599627370496 = (((if m < 4503599627370496 then 0 else 4503599627370496) : Nat) : Int) := by
  have h := u64_and_nat (S + m) 4503599627370496 (by omega) (by decide)
  refine h.trans ?_
  congr 1
  have k := and_key (S + m)
  rw [show (2 : Nat) ^ 52 = 4503599627370496 from rfl] at k
  rw [k]
  by_cases h1 : m < 4503599627370496
  · rw [if_pos h1, if_neg (by omega)]
  · rw [if_neg h1, if_pos (by omega)]
theorem or_sgn (S m : Nat) (hS : S = 0 ∨ S = 9223372036854775808) (hm : m < 9223372036854775808) : S ||| m = S + m := by
  rcases hS with rfl | rfl
  · rw [Nat.zero_or, Nat.zero_add]
  · have := Nat.two_pow_add_eq_or_of_lt (i := 63) (b := m) hm 1
    rw [Nat.mul_one] at this
    exact this.symm
theorem low52 (r z : Nat) (hr : r < 4503599627370496) (hz : 4503599627370495 &&& z = 4503599627370495) : r &&& z = r := by
  have h1 : r &&& 4503599627370495 = r := by
    have := Nat.and_two_pow_sub_one_eq_mod r 52
    rw [show 2 ^ 52 - 1 = 4503599627370495 from rfl] at this
    rw [this]
    exact Nat.mod_eq_of_lt hr
  calc r &&& z = (r &&& 4503599627370495) &&& z := by rw [h1]
    _ = r &&& (4503599627370495 &&& z) := Nat.and_assoc _ _ _
    _ = r := by rw [hz, h1]
theorem not52 (S r : Nat) (hS : S = 0 ∨ S = 9223372036854775808) (hr : r < 4503599627370496) : bits .andNot .u64 ((S + (4503599627370496 + r) : Nat) : Int) 4503599627370496 = ((S + r : Nat) : Int) := by
  have h := u64_andNot_nat (S + (4503599627370496 + r)) 4503599627370496 (by omega) (by decide)
  refine h.trans ?_
  congr 1
  have e1 : 4503599627370496 + r = 4503599627370496 ||| r := by
    have := Nat.two_pow_add_eq_or_of_lt (i := 52) (b := r) hr 1
    rw [Nat.mul_one] at this
    exact this
  rw [← or_sgn S _ hS (by omega), ← or_sgn S r hS (by omega), e1, Nat.and_or_distrib_right, Nat.and_or_distrib_right, low52 r _ hr (by decide)]
  rcases hS with rfl | rfl
  · rw [Nat.zero_and, show (4503599627370496 &&& (18446744073709551615 - 4503599627370496) : Nat) = 0 by decide, Nat.zero_or]
  · rw [show (4503599627370496 &&& (18446744073709551615 - 4503599627370496) : Nat) = 0 by decide, show (9223372036854775808 &&& (18446744073709551615 - 4503599627370496) : Nat) = 9223372036854775808 by decide, Nat.zero_or]
theorem or_exp (S r E : Nat) (hS : S = 0 ∨ S = 9223372036854775808) (hr : r < 4503599627370496) (hE : E ≤ 2046) : bits .or .u64 ((S + r : Nat) : Int) ((E * 4503599627370496 : Nat) : Int) = ((S + (r + E * 4503599627370496) : Nat) : Int) := by
  have h := u64_or_nat (S + r) (E * 4503599627370496) (by omega) (by omega)
  refine h.trans ?_
  congr 1
  have e1 : r + E * 4503599627370496 = r ||| E * 4503599627370496 := by
    have := Nat.two_pow_add_eq_or_of_lt (i := 52) (b := r) hr E
    rw [show 2 ^ 52 = 4503599627370496 from rfl] at this
    rw [Nat.or_comm, Nat.mul_comm, ← this]
    omega
  rw [← or_sgn S r hS (by omega), Nat.or_assoc, ← e1, or_sgn S _ hS (by omega)]
theorem pk_lo (S m : Nat) (x : Int) (w : World) (hS : S = 0 ∨ S = 9223372036854775808) (hm : m < 4503599627370496) : Calls Tryz.prog 182 #[.int .u64 ((S + m : Nat) : Int), .int .i64 x] w fun e w' => e = .returned (.tuple #[.float .f64 (S + m), .nilIface]) ∧ w' = w := by
  have a := and52 S m hS (by omega)
  rw [if_pos hm] at a
  obtain ⟨V, hV⟩ : ∃ V, V = S + m := ⟨_, rfl⟩
  rw [← hV] at a ⊢
  have hV1 : V < 18446744073709551616 := by omega
  have rb := run_fromb (V : Int)
  clear hV
  go_enter Tryz.func182, Tryz.ntmps182
  go_wp2
  go_ret2
  exact ⟨rfl, rfl⟩
set_option maxHeartbeats 1000000 in
set_option maxRecDepth 100000 in
theorem pk_hi (S r E : Nat) (x : Int) (w : World) (hS : S = 0 ∨ S = 9223372036854775808) (hr : r < 4503599627370496) (hE : 1075 + x = (E : Int)) (hE1 : E ≤ 2046) : Calls Tryz.prog 182 #[.int .u64 ((S + (4503599627370496 + r) : Nat) : Int), .int .i64 x] w fun e w' => e = .returned (.tuple #[.float .f64 (S + (r + E * 4503599627370496)), .nilIface]) ∧ w' = w := by
  have a := and52 S (4503599627370496 + r) hS (by omega)
  rw [if_neg (by omega)] at a
  have b := not52 S r hS hr
  have c := or_exp S r E hS hr hE1
  obtain ⟨V, hV⟩ : ∃ V, V = S + (4503599627370496 + r) := ⟨_, rfl⟩
  obtain ⟨V1, hV1⟩ : ∃ V, V = S + r := ⟨_, rfl⟩
  obtain ⟨V2, hV2⟩ : ∃ V, V = S + (r + E * 4503599627370496) := ⟨_, rfl⟩
  rw [← hV] at a b ⊢
  rw [← hV1] at b c
  rw [← hV2] at c ⊢
  have rb := run_fromb (V2 : Int) w
  rw [Int.toNat_natCast] at rb
  have l1 : V < 18446744073709551616 := by omega
  have l2 : V1 < 18446744073709551616 := by omega
  have hx : x = (E : Int) - 1075 := by omega
  have hx1 : (E : Int) ≤ 2046 := by omega
  rw [Int.natCast_mul] at c
  have c' : bits .or .u64 (V1 : Int) ((1075 + ((E : Int) - 1075)) * 4503599627370496) = (V2 : Int) := by rw [show 1075 + ((E : Int) - 1075) = E by omega]; exact c
  clear c
  subst hx
  clear hV hV1 hV2 hE
  go_enter Tryz.func182, Tryz.ntmps182
  go_wp2
  go_ret2
  exact ⟨rfl, rfl⟩
end Go.Proofs.YtjlaoeigfokkiaaGreatDoor.fto
