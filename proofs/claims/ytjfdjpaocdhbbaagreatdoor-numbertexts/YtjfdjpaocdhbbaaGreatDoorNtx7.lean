import Derived.Test.YtjfdjpaocdhbbaaGreatDoorNtx1
import Derived.Test.YtjfdjpaocdhbbaaGreatDoorNbk11
namespace Go.Proofs.YtjfdjpaocdhbbaaGreatDoor.mem
open Go.ChangeShapes Go.WideShapes Go.ChangeAt Go.RowKit
open ints (hide unhide)
set_option linter.unusedVariables false

theorem and52 (r : Nat) (h : r < 18446744073709551616) : bits .and .u64 (r : Int) 4503599627370495 = ((r % 4503599627370496 : Nat) : Int) := by
  have := u64_and_nat r 4503599627370495 (by omega) (by omega)
  rw [nat_mask52] at this
  exact this
theorem and2047 (r : Nat) (h : r < 18446744073709551616) : bits .and .u64 (r : Int) 2047 = ((r % 2048 : Nat) : Int) := by
  have := u64_and_nat r 2047 (by omega) (by omega)
  rw [nat_mask11] at this
  exact this
theorem or52 (t : Nat) (h : t < 4503599627370496) : bits .or .u64 (t : Int) 4503599627370496 = ((4503599627370496 + t : Nat) : Int) := by
  have := u64_or_nat t 4503599627370496 (by omega) (by omega)
  rw [show (t ||| 4503599627370496) = 4503599627370496 + t from by
    rw [Nat.or_comm, show (4503599627370496 : Nat) = 2 ^ 52 * 1 from rfl, Nat.two_pow_add_eq_or_of_lt (by omega)]] at this
  exact this
theorem splitX (r : Nat) (h : r < 9223372036854775808) : wrap64 (bits .and .u64 ((r : Int) / 4503599627370496) 2047) = ((r / 4503599627370496 : Nat) : Int) := by
  have e3 : (r : Int) / 4503599627370496 = ((r / 4503599627370496 : Nat) : Int) := by omega
  rw [e3, and2047 _ (by omega), Nat.mod_eq_of_lt (by omega)]
  have : r / 4503599627370496 < 2048 := by omega
  exact IntWalk.wrap64_in _ ⟨by omega, by omega⟩
theorem split_raw (r : Int) (w : World) :
    Calls Tryz.prog 38 #[.int .u64 r] w fun e w' => (e = .returned (if (wrap64 (bits .and .u64 (r / 4503599627370496) 2047) == 0) = true then .tuple #[.int .u64 (bits .and .u64 r 4503599627370495), .int .i64 (-1074)]
      else .tuple #[.int .u64 (bits .or .u64 (bits .and .u64 r 4503599627370495) 4503599627370496), .int .i64 (wrap64 (wrap64 (bits .and .u64 (r / 4503599627370496) 2047) - 1075))])) ∧ w' = w := by
  cases hx : (wrap64 (bits .and .u64 (r / 4503599627370496) 2047) == 0)
  · go_enter Tryz.func38, Tryz.ntmps38
    go_wp2
    go_ret2
    exact ⟨rfl, rfl⟩
  · go_enter Tryz.func38, Tryz.ntmps38
    go_wp2
    go_ret2
    exact ⟨rfl, rfl⟩
theorem split_any (r : Nat) (w : World) (h : r < 9223372036854775808) :
    Calls Tryz.prog 38 #[.int .u64 (r : Int)] w fun e w' => e = .returned (.tuple #[.int .u64 (mantR r : Nat), .int .i64 ((exR r : Int) - 1074)]) ∧ w' = w := by
  have hraw := split_raw (r : Int) w
  rw [splitX r h, and52 r (by omega), or52 _ (by omega)] at hraw
  refine hraw.mono ?_
  rintro e w' ⟨rfl, rfl⟩
  refine ⟨?_, rfl⟩
  have hm : r / 4503599627370496 < 2048 := by omega
  unfold mantR exR b52
  by_cases h0 : r < 4503599627370496
  · have e0 : r / 4503599627370496 = 0 := by omega
    rw [if_pos h0, e0, if_pos (by simp), Nat.mod_eq_of_lt h0]
    rfl
  · have e0 : r / 4503599627370496 ≠ 0 := by omega
    rw [if_neg h0, if_neg (by simp; omega)]
    have e1 : wrap64 (((r / 4503599627370496 : Nat) : Int) - 1075) = ((r / 4503599627370496 - 1 : Nat) : Int) - 1074 := by
      generalize r / 4503599627370496 = x at *
      have : wrap64 ((x : Int) - 1075) = (x : Int) - 1075 := IntWalk.wrap64_in _ ⟨by omega, by omega⟩
      rw [this]; omega
    rw [e1]
end Go.Proofs.YtjfdjpaocdhbbaaGreatDoor.mem
