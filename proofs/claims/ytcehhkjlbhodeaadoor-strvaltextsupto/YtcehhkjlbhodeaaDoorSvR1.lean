import Derived.Test.YtcehhkjlbhodeaaDoorSvQ5
import Derived.Test.YtcehhkjlbhodeaaDoorEncR
import Derived.Test.YtcehhkjlbhodeaaDoorDecR
import Derived.Laws.DeepStrings4
namespace Go.Proofs.YtcehhkjlbhodeaaDoor.sv
open Go.ChangeShapes Go.WideShapes Go.ChangeAt Go.RowKit
open mem
open ints (hide unhide)
set_option linter.unusedVariables false
theorem i64_and15 (n : Int) : bits .and .i64 n 15 = n % 16 := by
  have h15 : (BitVec.ofInt 64 15).toNat = 2 ^ 4 - 1 := by decide
  have key : (BitVec.ofInt 64 n &&& BitVec.ofInt 64 15).toNat = (n % ((2 ^ 64 : Nat) : Int)).toNat % 2 ^ 4 := by
    rw [BitVec.toNat_and, BitVec.toNat_ofInt, h15, Nat.and_two_pow_sub_one_eq_mod]
  show IntKind.i64.wrap ((BitVec.ofInt 64 n &&& BitVec.ofInt 64 15).toNat : Nat) = n % 16
  rw [key, IntKind.wrap_i64]
  omega
theorem and15L (n m : Int) (h0 : 0 ≤ n) (h1 : n ≤ 65535) (hm1 : 1 ≤ m) : ∃ k : Nat, k < 16 ∧ bits .and .i64 (n / m) 15 = (k : Int) ∧ (k : Int) = n / m % 16 := by
  have h2 : 0 ≤ n / m := Int.ediv_nonneg h0 (by omega)
  have h3 : n / m ≤ n := Int.ediv_le_self m h0
  obtain ⟨x, hx⟩ : ∃ x : Nat, n / m = x := ⟨(n / m).toNat, by omega⟩
  refine ⟨x % 16, by omega, ?_, by omega⟩
  rw [hx]
  have h4 : (0 : Int) ≤ (x : Int) := by omega
  have h5 : (x : Int) < 65536 := by omega
  have : bits .and .i64 (x : Int) 15 = (x : Int) % 16 := i64_and15 x
  rw [this]
  omega
def digU : ByteArray := ⟨#[48, 49, 50, 51, 52, 53, 54, 55, 56, 57, 65, 66, 67, 68, 69, 70]⟩
theorem dig_cut (k : Nat) (h : k < 16) : digU.extract k (k + 1) = strOfNums [hd (k : Int)] := by
  have e : ∀ j : Fin 16, digU.extract j.val (j.val + 1) = strOfNums [hd (j.val : Int)] := by decide +kernel
  exact e ⟨k, h⟩
theorem str_add (xs ys : List Int) : strOfNums xs ++ strOfNums ys = strOfNums (xs ++ ys) := by
  apply ByteArray.ext
  apply Array.toList_inj.1
  rw [ByteArray.data_append, Array.toList_append, strOfNums_data, strOfNums_data, strOfNums_data, List.map_append]
set_option maxHeartbeats 4000000 in
theorem rhex_ok (c : Int) (w : World) (h0 : 0 ≤ c) (h1 : c ≤ 65535) :
    Calls Tryd.prog 33 #[.int .i32 c] w fun e w' => e = .returned (.string (strOfNums (hex4 c))) ∧ w' = w := by
  obtain ⟨k3, l3, a3, e3⟩ := and15L c 4096 h0 h1 (by omega)
  obtain ⟨k2, l2, a2, e2⟩ := and15L c 256 h0 h1 (by omega)
  obtain ⟨k1, l1, a1, e1⟩ := and15L c 16 h0 h1 (by omega)
  obtain ⟨k0, l0, a0, e0⟩ := and15L c 1 h0 h1 (by omega)
  rw [Int.ediv_one] at a0 e0
  have HX := hide (show hex4 c = [92, 117, hd k3, hd k2, hd k1, hd k0] by unfold hex4; rw [e3, e2, e1, e0])
  obtain ⟨X, hX⟩ : ∃ X, X = strOfNums (hex4 c) := ⟨_, rfl⟩
  rw [← hX]
  rw [unhide HX] at hX
  have HY := hide hX
  clear HX hX e3 e2 e1 e0
  have hsz : (⟨#[48, 49, 50, 51, 52, 53, 54, 55, 56, 57, 65, 66, 67, 68, 69, 70]⟩ : ByteArray).size = 16 := rfl
  obtain ⟨m3, hm3⟩ : ∃ m : Nat, (k3 : Int) + 1 = (m : Int) := ⟨k3 + 1, by omega⟩
  have u3 : k3 ≤ m3 := by omega
  have v3 : m3 ≤ (⟨#[48, 49, 50, 51, 52, 53, 54, 55, 56, 57, 65, 66, 67, 68, 69, 70]⟩ : ByteArray).size := by rw [hsz]; omega
  obtain ⟨m2, hm2⟩ : ∃ m : Nat, (k2 : Int) + 1 = (m : Int) := ⟨k2 + 1, by omega⟩
  have u2 : k2 ≤ m2 := by omega
  have v2 : m2 ≤ (⟨#[48, 49, 50, 51, 52, 53, 54, 55, 56, 57, 65, 66, 67, 68, 69, 70]⟩ : ByteArray).size := by rw [hsz]; omega
  obtain ⟨m1, hm1⟩ : ∃ m : Nat, (k1 : Int) + 1 = (m : Int) := ⟨k1 + 1, by omega⟩
  have u1 : k1 ≤ m1 := by omega
  have v1 : m1 ≤ (⟨#[48, 49, 50, 51, 52, 53, 54, 55, 56, 57, 65, 66, 67, 68, 69, 70]⟩ : ByteArray).size := by rw [hsz]; omega
  obtain ⟨m0, hm0⟩ : ∃ m : Nat, (k0 : Int) + 1 = (m : Int) := ⟨k0 + 1, by omega⟩
  have u0 : k0 ≤ m0 := by omega
  have v0 : m0 ≤ (⟨#[48, 49, 50, 51, 52, 53, 54, 55, 56, 57, 65, 66, 67, 68, 69, 70]⟩ : ByteArray).size := by rw [hsz]; omega
  go_enter Tryd.func33, Tryd.ntmps33
  go_wp2_with fail
  refine wp_loop_rounds 5 ?_
  rw [rounds_succ]
  go_wp2_with fail
  rw [rounds_succ]
  go_wp2_with fail
  rw [rounds_succ]
  go_wp2_with fail
  rw [rounds_succ]
  go_wp2_with fail
  rw [rounds_succ]
  go_wp2
  go_ret
  refine ⟨?_, rfl⟩
  rw [unhide HY]
  have g3 := dig_cut k3 l3
  have g2 := dig_cut k2 l2
  have g1 := dig_cut k1 l1
  have g0 := dig_cut k0 l0
  obtain rfl : m3 = k3 + 1 := by omega
  obtain rfl : m2 = k2 + 1 := by omega
  obtain rfl : m1 = k1 + 1 := by omega
  obtain rfl : m0 = k0 + 1 := by omega
  have e : (⟨#[92, 117]⟩ : ByteArray) ++ digU.extract k3 (k3 + 1) ++ digU.extract k2 (k2 + 1) ++ digU.extract k1 (k1 + 1) ++ digU.extract k0 (k0 + 1) = strOfNums [92, 117, hd k3, hd k2, hd k1, hd k0] := by
    rw [g3, g2, g1, g0, show (⟨#[92, 117]⟩ : ByteArray) = strOfNums [92, 117] from rfl, str_add, str_add, str_add, str_add]
    rfl
  rw [← e]
  rfl
end Go.Proofs.YtcehhkjlbhodeaaDoor.sv
