import Derived.Test.YtcehhkjlbhodeaaDoorSvR1
namespace Go.Proofs.YtcehhkjlbhodeaaDoor.sv
open Go.ChangeShapes Go.WideShapes Go.ChangeAt Go.RowKit
open mem
open ints (hide unhide)
set_option linter.unusedVariables false
set_option linter.unusedSimpArgs false
set_option maxHeartbeats 4000000 in
theorem rw_34 (w : World) :
    Calls Tryd.prog 13 #[.int .i32 34] w fun e w' => e = .returned (.string (strOfNums ([92, 34]))) ∧ Below w.heap.size w w' := by
  have M0 : wrap32 ((((⟨#[34, 92, 8, 12, 10, 13, 9]⟩ : ByteArray)[0]'(by decide)).toNat : Nat) : Int) = 34 := by decide +kernel
  have M1 : wrap32 ((((⟨#[34, 92, 8, 12, 10, 13, 9]⟩ : ByteArray)[1]'(by decide)).toNat : Nat) : Int) = 92 := by decide +kernel
  have M2 : wrap32 ((((⟨#[34, 92, 8, 12, 10, 13, 9]⟩ : ByteArray)[2]'(by decide)).toNat : Nat) : Int) = 8 := by decide +kernel
  have M3 : wrap32 ((((⟨#[34, 92, 8, 12, 10, 13, 9]⟩ : ByteArray)[3]'(by decide)).toNat : Nat) : Int) = 12 := by decide +kernel
  have M4 : wrap32 ((((⟨#[34, 92, 8, 12, 10, 13, 9]⟩ : ByteArray)[4]'(by decide)).toNat : Nat) : Int) = 10 := by decide +kernel
  have M5 : wrap32 ((((⟨#[34, 92, 8, 12, 10, 13, 9]⟩ : ByteArray)[5]'(by decide)).toNat : Nat) : Int) = 13 := by decide +kernel
  have M6 : wrap32 ((((⟨#[34, 92, 8, 12, 10, 13, 9]⟩ : ByteArray)[6]'(by decide)).toNat : Nat) : Int) = 9 := by decide +kernel
  go_enter Tryd.func13, Tryd.ntmps13
  go_wp2_with fail
  refine wp_loop_rounds 1 ?_
  rw [rounds_succ]
  go_wp2
  go_ret
  have e : (⟨#[92]⟩ : ByteArray) ++ (⟨#[34, 92, 98, 102, 110, 114, 116]⟩ : ByteArray).extract 0 1 = strOfNums [92, 34] := by decide +kernel
  refine ⟨?_, Below.refl _ _⟩
  rw [← e]
  rfl
set_option maxHeartbeats 4000000 in
theorem rw_92 (w : World) :
    Calls Tryd.prog 13 #[.int .i32 92] w fun e w' => e = .returned (.string (strOfNums ([92, 92]))) ∧ Below w.heap.size w w' := by
  have M0 : wrap32 ((((⟨#[34, 92, 8, 12, 10, 13, 9]⟩ : ByteArray)[0]'(by decide)).toNat : Nat) : Int) = 34 := by decide +kernel
  have M1 : wrap32 ((((⟨#[34, 92, 8, 12, 10, 13, 9]⟩ : ByteArray)[1]'(by decide)).toNat : Nat) : Int) = 92 := by decide +kernel
  have M2 : wrap32 ((((⟨#[34, 92, 8, 12, 10, 13, 9]⟩ : ByteArray)[2]'(by decide)).toNat : Nat) : Int) = 8 := by decide +kernel
  have M3 : wrap32 ((((⟨#[34, 92, 8, 12, 10, 13, 9]⟩ : ByteArray)[3]'(by decide)).toNat : Nat) : Int) = 12 := by decide +kernel
  have M4 : wrap32 ((((⟨#[34, 92, 8, 12, 10, 13, 9]⟩ : ByteArray)[4]'(by decide)).toNat : Nat) : Int) = 10 := by decide +kernel
  have M5 : wrap32 ((((⟨#[34, 92, 8, 12, 10, 13, 9]⟩ : ByteArray)[5]'(by decide)).toNat : Nat) : Int) = 13 := by decide +kernel
  have M6 : wrap32 ((((⟨#[34, 92, 8, 12, 10, 13, 9]⟩ : ByteArray)[6]'(by decide)).toNat : Nat) : Int) = 9 := by decide +kernel
  go_enter Tryd.func13, Tryd.ntmps13
  go_wp2_with fail
  refine wp_loop_rounds 2 ?_
  rw [rounds_succ]
  go_wp2_with fail
  rw [rounds_succ]
  go_wp2
  go_ret
  have e : (⟨#[92]⟩ : ByteArray) ++ (⟨#[34, 92, 98, 102, 110, 114, 116]⟩ : ByteArray).extract 1 2 = strOfNums [92, 92] := by decide +kernel
  refine ⟨?_, Below.refl _ _⟩
  rw [← e]
  rfl
set_option maxHeartbeats 4000000 in
theorem rw_8 (w : World) :
    Calls Tryd.prog 13 #[.int .i32 8] w fun e w' => e = .returned (.string (strOfNums ([92, 98]))) ∧ Below w.heap.size w w' := by
  have M0 : wrap32 ((((⟨#[34, 92, 8, 12, 10, 13, 9]⟩ : ByteArray)[0]'(by decide)).toNat : Nat) : Int) = 34 := by decide +kernel
  have M1 : wrap32 ((((⟨#[34, 92, 8, 12, 10, 13, 9]⟩ : ByteArray)[1]'(by decide)).toNat : Nat) : Int) = 92 := by decide +kernel
  have M2 : wrap32 ((((⟨#[34, 92, 8, 12, 10, 13, 9]⟩ : ByteArray)[2]'(by decide)).toNat : Nat) : Int) = 8 := by decide +kernel
  have M3 : wrap32 ((((⟨#[34, 92, 8, 12, 10, 13, 9]⟩ : ByteArray)[3]'(by decide)).toNat : Nat) : Int) = 12 := by decide +kernel
  have M4 : wrap32 ((((⟨#[34, 92, 8, 12, 10, 13, 9]⟩ : ByteArray)[4]'(by decide)).toNat : Nat) : Int) = 10 := by decide +kernel
  have M5 : wrap32 ((((⟨#[34, 92, 8, 12, 10, 13, 9]⟩ : ByteArray)[5]'(by decide)).toNat : Nat) : Int) = 13 := by decide +kernel
  have M6 : wrap32 ((((⟨#[34, 92, 8, 12, 10, 13, 9]⟩ : ByteArray)[6]'(by decide)).toNat : Nat) : Int) = 9 := by decide +kernel
  go_enter Tryd.func13, Tryd.ntmps13
  go_wp2_with fail
  refine wp_loop_rounds 3 ?_
  rw [rounds_succ]
  go_wp2_with fail
  rw [rounds_succ]
  go_wp2_with fail
  rw [rounds_succ]
  go_wp2
  go_ret
  have e : (⟨#[92]⟩ : ByteArray) ++ (⟨#[34, 92, 98, 102, 110, 114, 116]⟩ : ByteArray).extract 2 3 = strOfNums [92, 98] := by decide +kernel
  refine ⟨?_, Below.refl _ _⟩
  rw [← e]
  rfl
set_option maxHeartbeats 4000000 in
theorem rw_12 (w : World) :
    Calls Tryd.prog 13 #[.int .i32 12] w fun e w' => e = .returned (.string (strOfNums ([92, 102]))) ∧ Below w.heap.size w w' := by
  have M0 : wrap32 ((((⟨#[34, 92, 8, 12, 10, 13, 9]⟩ : ByteArray)[0]'(by decide)).toNat : Nat) : Int) = 34 := by decide +kernel
  have M1 : wrap32 ((((⟨#[34, 92, 8, 12, 10, 13, 9]⟩ : ByteArray)[1]'(by decide)).toNat : Nat) : Int) = 92 := by decide +kernel
  have M2 : wrap32 ((((⟨#[34, 92, 8, 12, 10, 13, 9]⟩ : ByteArray)[2]'(by decide)).toNat : Nat) : Int) = 8 := by decide +kernel
  have M3 : wrap32 ((((⟨#[34, 92, 8, 12, 10, 13, 9]⟩ : ByteArray)[3]'(by decide)).toNat : Nat) : Int) = 12 := by decide +kernel
  have M4 : wrap32 ((((⟨#[34, 92, 8, 12, 10, 13, 9]⟩ : ByteArray)[4]'(by decide)).toNat : Nat) : Int) = 10 := by decide +kernel
  have M5 : wrap32 ((((⟨#[34, 92, 8, 12, 10, 13, 9]⟩ : ByteArray)[5]'(by decide)).toNat : Nat) : Int) = 13 := by decide +kernel
  have M6 : wrap32 ((((⟨#[34, 92, 8, 12, 10, 13, 9]⟩ : ByteArray)[6]'(by decide)).toNat : Nat) : Int) = 9 := by decide +kernel
  go_enter Tryd.func13, Tryd.ntmps13
  go_wp2_with fail
  refine wp_loop_rounds 4 ?_
  rw [rounds_succ]
  go_wp2_with fail
  rw [rounds_succ]
  go_wp2_with fail
  rw [rounds_succ]
  go_wp2_with fail
  rw [rounds_succ]
  go_wp2
  go_ret
  have e : (⟨#[92]⟩ : ByteArray) ++ (⟨#[34, 92, 98, 102, 110, 114, 116]⟩ : ByteArray).extract 3 4 = strOfNums [92, 102] := by decide +kernel
  refine ⟨?_, Below.refl _ _⟩
  rw [← e]
  rfl
set_option maxHeartbeats 4000000 in
theorem rw_10 (w : World) :
    Calls Tryd.prog 13 #[.int .i32 10] w fun e w' => e = .returned (.string (strOfNums ([92, 110]))) ∧ Below w.heap.size w w' := by
  have M0 : wrap32 ((((⟨#[34, 92, 8, 12, 10, 13, 9]⟩ : ByteArray)[0]'(by decide)).toNat : Nat) : Int) = 34 := by decide +kernel
  have M1 : wrap32 ((((⟨#[34, 92, 8, 12, 10, 13, 9]⟩ : ByteArray)[1]'(by decide)).toNat : Nat) : Int) = 92 := by decide +kernel
  have M2 : wrap32 ((((⟨#[34, 92, 8, 12, 10, 13, 9]⟩ : ByteArray)[2]'(by decide)).toNat : Nat) : Int) = 8 := by decide +kernel
  have M3 : wrap32 ((((⟨#[34, 92, 8, 12, 10, 13, 9]⟩ : ByteArray)[3]'(by decide)).toNat : Nat) : Int) = 12 := by decide +kernel
  have M4 : wrap32 ((((⟨#[34, 92, 8, 12, 10, 13, 9]⟩ : ByteArray)[4]'(by decide)).toNat : Nat) : Int) = 10 := by decide +kernel
  have M5 : wrap32 ((((⟨#[34, 92, 8, 12, 10, 13, 9]⟩ : ByteArray)[5]'(by decide)).toNat : Nat) : Int) = 13 := by decide +kernel
  have M6 : wrap32 ((((⟨#[34, 92, 8, 12, 10, 13, 9]⟩ : ByteArray)[6]'(by decide)).toNat : Nat) : Int) = 9 := by decide +kernel
  go_enter Tryd.func13, Tryd.ntmps13
  go_wp2_with fail
  refine wp_loop_rounds 5 ?_
  rw [rounds_succ]
  go_wp2_with fail
  rw [rounds_succ]
  go_wp2_with fail
  rw [rounds_succ]
  go_wp2_with fail
  rw [rounds_succ]
  go_wp2_with fail
  rw [rounds_succ]
  go_wp2
  go_ret
  have e : (⟨#[92]⟩ : ByteArray) ++ (⟨#[34, 92, 98, 102, 110, 114, 116]⟩ : ByteArray).extract 4 5 = strOfNums [92, 110] := by decide +kernel
  refine ⟨?_, Below.refl _ _⟩
  rw [← e]
  rfl
set_option maxHeartbeats 4000000 in
theorem rw_13 (w : World) :
    Calls Tryd.prog 13 #[.int .i32 13] w fun e w' => e = .returned (.string (strOfNums ([92, 114]))) ∧ Below w.heap.size w w' := by
  have M0 : wrap32 ((((⟨#[34, 92, 8, 12, 10, 13, 9]⟩ : ByteArray)[0]'(by decide)).toNat : Nat) : Int) = 34 := by decide +kernel
  have M1 : wrap32 ((((⟨#[34, 92, 8, 12, 10, 13, 9]⟩ : ByteArray)[1]'(by decide)).toNat : Nat) : Int) = 92 := by decide +kernel
  have M2 : wrap32 ((((⟨#[34, 92, 8, 12, 10, 13, 9]⟩ : ByteArray)[2]'(by decide)).toNat : Nat) : Int) = 8 := by decide +kernel
  have M3 : wrap32 ((((⟨#[34, 92, 8, 12, 10, 13, 9]⟩ : ByteArray)[3]'(by decide)).toNat : Nat) : Int) = 12 := by decide +kernel
  have M4 : wrap32 ((((⟨#[34, 92, 8, 12, 10, 13, 9]⟩ : ByteArray)[4]'(by decide)).toNat : Nat) : Int) = 10 := by decide +kernel
  have M5 : wrap32 ((((⟨#[34, 92, 8, 12, 10, 13, 9]⟩ : ByteArray)[5]'(by decide)).toNat : Nat) : Int) = 13 := by decide +kernel
  have M6 : wrap32 ((((⟨#[34, 92, 8, 12, 10, 13, 9]⟩ : ByteArray)[6]'(by decide)).toNat : Nat) : Int) = 9 := by decide +kernel
  go_enter Tryd.func13, Tryd.ntmps13
  go_wp2_with fail
  refine wp_loop_rounds 6 ?_
  rw [rounds_succ]
  go_wp2_with fail
  rw [rounds_succ]
  go_wp2_with fail
  rw [rounds_succ]
  go_wp2_with fail
  rw [rounds_succ]
  go_wp2_with fail
  rw [rounds_succ]
  go_wp2_with fail
  rw [rounds_succ]
  go_wp2
  go_ret
  have e : (⟨#[92]⟩ : ByteArray) ++ (⟨#[34, 92, 98, 102, 110, 114, 116]⟩ : ByteArray).extract 5 6 = strOfNums [92, 114] := by decide +kernel
  refine ⟨?_, Below.refl _ _⟩
  rw [← e]
  rfl
set_option maxHeartbeats 4000000 in
theorem rw_9 (w : World) :
    Calls Tryd.prog 13 #[.int .i32 9] w fun e w' => e = .returned (.string (strOfNums ([92, 116]))) ∧ Below w.heap.size w w' := by
  have M0 : wrap32 ((((⟨#[34, 92, 8, 12, 10, 13, 9]⟩ : ByteArray)[0]'(by decide)).toNat : Nat) : Int) = 34 := by decide +kernel
  have M1 : wrap32 ((((⟨#[34, 92, 8, 12, 10, 13, 9]⟩ : ByteArray)[1]'(by decide)).toNat : Nat) : Int) = 92 := by decide +kernel
  have M2 : wrap32 ((((⟨#[34, 92, 8, 12, 10, 13, 9]⟩ : ByteArray)[2]'(by decide)).toNat : Nat) : Int) = 8 := by decide +kernel
  have M3 : wrap32 ((((⟨#[34, 92, 8, 12, 10, 13, 9]⟩ : ByteArray)[3]'(by decide)).toNat : Nat) : Int) = 12 := by decide +kernel
  have M4 : wrap32 ((((⟨#[34, 92, 8, 12, 10, 13, 9]⟩ : ByteArray)[4]'(by decide)).toNat : Nat) : Int) = 10 := by decide +kernel
  have M5 : wrap32 ((((⟨#[34, 92, 8, 12, 10, 13, 9]⟩ : ByteArray)[5]'(by decide)).toNat : Nat) : Int) = 13 := by decide +kernel
  have M6 : wrap32 ((((⟨#[34, 92, 8, 12, 10, 13, 9]⟩ : ByteArray)[6]'(by decide)).toNat : Nat) : Int) = 9 := by decide +kernel
  go_enter Tryd.func13, Tryd.ntmps13
  go_wp2_with fail
  refine wp_loop_rounds 7 ?_
  rw [rounds_succ]
  go_wp2_with fail
  rw [rounds_succ]
  go_wp2_with fail
  rw [rounds_succ]
  go_wp2_with fail
  rw [rounds_succ]
  go_wp2_with fail
  rw [rounds_succ]
  go_wp2_with fail
  rw [rounds_succ]
  go_wp2_with fail
  rw [rounds_succ]
  go_wp2
  go_ret
  have e : (⟨#[92]⟩ : ByteArray) ++ (⟨#[34, 92, 98, 102, 110, 114, 116]⟩ : ByteArray).extract 6 7 = strOfNums [92, 116] := by decide +kernel
  refine ⟨?_, Below.refl _ _⟩
  rw [← e]
  rfl
set_option maxHeartbeats 4000000 in
theorem rw_low (c : Int) (w : World) (n34 : ¬ 34 = c) (n92 : ¬ 92 = c) (n8 : ¬ 8 = c) (n12 : ¬ 12 = c) (n10 : ¬ 10 = c) (n13 : ¬ 13 = c) (n9 : ¬ 9 = c) (h0 : 0 ≤ c) (h1 : c < 32) :
    Calls Tryd.prog 13 #[.int .i32 c] w fun e w' => e = .returned (.string (strOfNums (hex4 c))) ∧ Below w.heap.size w w' := by
  have H := hide (fun W => rhex_ok c W h0 (by omega))
  have M0 : wrap32 ((((⟨#[34, 92, 8, 12, 10, 13, 9]⟩ : ByteArray)[0]'(by decide)).toNat : Nat) : Int) = 34 := by decide +kernel
  have M1 : wrap32 ((((⟨#[34, 92, 8, 12, 10, 13, 9]⟩ : ByteArray)[1]'(by decide)).toNat : Nat) : Int) = 92 := by decide +kernel
  have M2 : wrap32 ((((⟨#[34, 92, 8, 12, 10, 13, 9]⟩ : ByteArray)[2]'(by decide)).toNat : Nat) : Int) = 8 := by decide +kernel
  have M3 : wrap32 ((((⟨#[34, 92, 8, 12, 10, 13, 9]⟩ : ByteArray)[3]'(by decide)).toNat : Nat) : Int) = 12 := by decide +kernel
  have M4 : wrap32 ((((⟨#[34, 92, 8, 12, 10, 13, 9]⟩ : ByteArray)[4]'(by decide)).toNat : Nat) : Int) = 10 := by decide +kernel
  have M5 : wrap32 ((((⟨#[34, 92, 8, 12, 10, 13, 9]⟩ : ByteArray)[5]'(by decide)).toNat : Nat) : Int) = 13 := by decide +kernel
  have M6 : wrap32 ((((⟨#[34, 92, 8, 12, 10, 13, 9]⟩ : ByteArray)[6]'(by decide)).toNat : Nat) : Int) = 9 := by decide +kernel
  go_enter Tryd.func13, Tryd.ntmps13
  go_wp2_with fail
  refine wp_loop_rounds 8 ?_
  rw [rounds_succ]
  go_wp2_with fail
  rw [rounds_succ]
  go_wp2_with fail
  rw [rounds_succ]
  go_wp2_with fail
  rw [rounds_succ]
  go_wp2_with fail
  rw [rounds_succ]
  go_wp2_with fail
  rw [rounds_succ]
  go_wp2_with fail
  rw [rounds_succ]
  go_wp2_with fail
  rw [rounds_succ]
  go_wp2_with fail
  refine (unhide H _).mono ?_
  rintro e w1 ⟨rfl, rfl⟩
  go_wp2
  go_ret
  exact ⟨rfl, Below.refl _ _⟩
set_option maxHeartbeats 4000000 in
theorem rw_127 (w : World) :
    Calls Tryd.prog 13 #[.int .i32 127] w fun e w' => e = .returned (.string (strOfNums (hex4 127))) ∧ Below w.heap.size w w' := by
  have H := hide (fun W => rhex_ok 127 W (by omega) (by omega))
  have M0 : wrap32 ((((⟨#[34, 92, 8, 12, 10, 13, 9]⟩ : ByteArray)[0]'(by decide)).toNat : Nat) : Int) = 34 := by decide +kernel
  have M1 : wrap32 ((((⟨#[34, 92, 8, 12, 10, 13, 9]⟩ : ByteArray)[1]'(by decide)).toNat : Nat) : Int) = 92 := by decide +kernel
  have M2 : wrap32 ((((⟨#[34, 92, 8, 12, 10, 13, 9]⟩ : ByteArray)[2]'(by decide)).toNat : Nat) : Int) = 8 := by decide +kernel
  have M3 : wrap32 ((((⟨#[34, 92, 8, 12, 10, 13, 9]⟩ : ByteArray)[3]'(by decide)).toNat : Nat) : Int) = 12 := by decide +kernel
  have M4 : wrap32 ((((⟨#[34, 92, 8, 12, 10, 13, 9]⟩ : ByteArray)[4]'(by decide)).toNat : Nat) : Int) = 10 := by decide +kernel
  have M5 : wrap32 ((((⟨#[34, 92, 8, 12, 10, 13, 9]⟩ : ByteArray)[5]'(by decide)).toNat : Nat) : Int) = 13 := by decide +kernel
  have M6 : wrap32 ((((⟨#[34, 92, 8, 12, 10, 13, 9]⟩ : ByteArray)[6]'(by decide)).toNat : Nat) : Int) = 9 := by decide +kernel
  go_enter Tryd.func13, Tryd.ntmps13
  go_wp2_with fail
  refine wp_loop_rounds 8 ?_
  rw [rounds_succ]
  go_wp2_with fail
  rw [rounds_succ]
  go_wp2_with fail
  rw [rounds_succ]
  go_wp2_with fail
  rw [rounds_succ]
  go_wp2_with fail
  rw [rounds_succ]
  go_wp2_with fail
  rw [rounds_succ]
  go_wp2_with fail
  rw [rounds_succ]
  go_wp2_with fail
  rw [rounds_succ]
  go_wp2_with fail
  refine (unhide H _).mono ?_
  rintro e w1 ⟨rfl, rfl⟩
  go_wp2
  go_ret
  exact ⟨rfl, Below.refl _ _⟩
set_option maxHeartbeats 4000000 in
theorem rw_two (c : Int) (w : World) (h0 : 65536 ≤ c) (h1 : c ≤ 1114111) :
    Calls Tryd.prog 13 #[.int .i32 c] w fun e w' => e = .returned (.string (strOfNums (hex4 (55296 + (c - 65536) / 1024) ++ hex4 (56320 + (c - 65536) % 1024)))) ∧ Below w.heap.size w w' := by
  have n34 : ¬ 34 = c := by omega
  have n92 : ¬ 92 = c := by omega
  have n8 : ¬ 8 = c := by omega
  have n12 : ¬ 12 = c := by omega
  have n10 : ¬ 10 = c := by omega
  have n13 : ¬ 13 = c := by omega
  have n9 : ¬ 9 = c := by omega
  have n127 : ¬ c = 127 := by omega
  have e127 : (c == 127) = false := by simp [n127]
  have S := hide (fun W => ints.rsplit_yes c W h0 h1)
  have g1 : 0 ≤ 55296 + (c - 65536) / 1024 ∧ 55296 + (c - 65536) / 1024 ≤ 65535 := by omega
  have g2 : 0 ≤ 56320 + (c - 65536) % 1024 ∧ 56320 + (c - 65536) % 1024 ≤ 65535 := by omega
  have H1 := hide (fun W => rhex_ok _ W g1.1 g1.2)
  have H2 := hide (fun W => rhex_ok _ W g2.1 g2.2)
  obtain ⟨hi, hhi⟩ : ∃ x, x = 55296 + (c - 65536) / 1024 := ⟨_, rfl⟩
  obtain ⟨lo, hlo⟩ : ∃ x, x = 56320 + (c - 65536) % 1024 := ⟨_, rfl⟩
  rw [← hhi, ← hlo] at S
  rw [← hhi] at H1 ⊢
  rw [← hlo] at H2 ⊢
  clear hhi hlo g1 g2
  have M0 : wrap32 ((((⟨#[34, 92, 8, 12, 10, 13, 9]⟩ : ByteArray)[0]'(by decide)).toNat : Nat) : Int) = 34 := by decide +kernel
  have M1 : wrap32 ((((⟨#[34, 92, 8, 12, 10, 13, 9]⟩ : ByteArray)[1]'(by decide)).toNat : Nat) : Int) = 92 := by decide +kernel
  have M2 : wrap32 ((((⟨#[34, 92, 8, 12, 10, 13, 9]⟩ : ByteArray)[2]'(by decide)).toNat : Nat) : Int) = 8 := by decide +kernel
  have M3 : wrap32 ((((⟨#[34, 92, 8, 12, 10, 13, 9]⟩ : ByteArray)[3]'(by decide)).toNat : Nat) : Int) = 12 := by decide +kernel
  have M4 : wrap32 ((((⟨#[34, 92, 8, 12, 10, 13, 9]⟩ : ByteArray)[4]'(by decide)).toNat : Nat) : Int) = 10 := by decide +kernel
  have M5 : wrap32 ((((⟨#[34, 92, 8, 12, 10, 13, 9]⟩ : ByteArray)[5]'(by decide)).toNat : Nat) : Int) = 13 := by decide +kernel
  have M6 : wrap32 ((((⟨#[34, 92, 8, 12, 10, 13, 9]⟩ : ByteArray)[6]'(by decide)).toNat : Nat) : Int) = 9 := by decide +kernel
  go_enter Tryd.func13, Tryd.ntmps13
  go_wp2_with fail
  refine wp_loop_rounds 8 ?_
  rw [rounds_succ]
  go_wp2_with fail
  rw [rounds_succ]
  go_wp2_with fail
  rw [rounds_succ]
  go_wp2_with fail
  rw [rounds_succ]
  go_wp2_with fail
  rw [rounds_succ]
  go_wp2_with fail
  rw [rounds_succ]
  go_wp2_with fail
  rw [rounds_succ]
  go_wp2_with fail
  rw [rounds_succ]
  go_wp2_with fail
  refine (unhide S _).mono ?_
  rintro e w' ⟨rfl, rfl⟩
  go_wp2_with fail
  refine (unhide H1 _).mono ?_
  rintro e w' ⟨rfl, rfl⟩
  go_wp2_with fail
  refine (unhide H2 _).mono ?_
  rintro e w' ⟨rfl, rfl⟩
  go_wp2
  go_ret
  refine ⟨?_, Below.refl _ _⟩
  rw [← str_add]
  rfl
set_option maxHeartbeats 4000000 in
theorem rw_std (c : Int) (w : World) (n34 : ¬ 34 = c) (n92 : ¬ 92 = c) (n8 : ¬ 8 = c) (n12 : ¬ 12 = c) (n10 : ¬ 10 = c) (n13 : ¬ 13 = c) (n9 : ¬ 9 = c) (n127 : ¬ c = 127) (h0 : 32 ≤ c) (h1 : c < 65536) (hs : scP c) :
    Calls Tryd.prog 13 #[.int .i32 c] w fun e w' => e = .returned (.string (strOfNums (putB c))) ∧ Below w.heap.size w w' := by
  have e127 : (c == 127) = false := by simp [n127]
  have S := hide (fun W => ints.rsplit_no c W (by omega))
  have E := hide (fun W h => rencode_any (some ⟨w.heap.size, 0, none⟩) 1 1 [c] W h (by omega))
  have eE : encS [c] = strOfNums (putB c) := by rw [encS_yes (by simp [(scB_iff c).2 hs])]; simp
  rw [eE] at E
  obtain ⟨R, hR⟩ : ∃ R, R = strOfNums (putB c) := ⟨_, rfl⟩
  rw [← hR] at E ⊢
  clear eE hR
  have M0 : wrap32 ((((⟨#[34, 92, 8, 12, 10, 13, 9]⟩ : ByteArray)[0]'(by decide)).toNat : Nat) : Int) = 34 := by decide +kernel
  have M1 : wrap32 ((((⟨#[34, 92, 8, 12, 10, 13, 9]⟩ : ByteArray)[1]'(by decide)).toNat : Nat) : Int) = 92 := by decide +kernel
  have M2 : wrap32 ((((⟨#[34, 92, 8, 12, 10, 13, 9]⟩ : ByteArray)[2]'(by decide)).toNat : Nat) : Int) = 8 := by decide +kernel
  have M3 : wrap32 ((((⟨#[34, 92, 8, 12, 10, 13, 9]⟩ : ByteArray)[3]'(by decide)).toNat : Nat) : Int) = 12 := by decide +kernel
  have M4 : wrap32 ((((⟨#[34, 92, 8, 12, 10, 13, 9]⟩ : ByteArray)[4]'(by decide)).toNat : Nat) : Int) = 10 := by decide +kernel
  have M5 : wrap32 ((((⟨#[34, 92, 8, 12, 10, 13, 9]⟩ : ByteArray)[5]'(by decide)).toNat : Nat) : Int) = 13 := by decide +kernel
  have M6 : wrap32 ((((⟨#[34, 92, 8, 12, 10, 13, 9]⟩ : ByteArray)[6]'(by decide)).toNat : Nat) : Int) = 9 := by decide +kernel
  go_enter Tryd.func13, Tryd.ntmps13
  go_wp2_with fail
  refine wp_loop_rounds 8 ?_
  rw [rounds_succ]
  go_wp2_with fail
  rw [rounds_succ]
  go_wp2_with fail
  rw [rounds_succ]
  go_wp2_with fail
  rw [rounds_succ]
  go_wp2_with fail
  rw [rounds_succ]
  go_wp2_with fail
  rw [rounds_succ]
  go_wp2_with fail
  rw [rounds_succ]
  go_wp2_with fail
  rw [rounds_succ]
  go_wp2_with fail
  refine (unhide S _).mono ?_
  rintro e w' ⟨rfl, rfl⟩
  go_wp2_with fail
  refine (unhide E _ ⟨rfl, Nat.le_refl _, (fun e => by cases e), .inr ⟨w'.heap.size, 0, rfl, by simp, fun i hi => ?_⟩⟩).mono ?_
  · obtain rfl : i = 0 := by omega
    simp
  rintro e w1 ⟨rfl, b1⟩
  go_wp2
  go_ret
  exact ⟨rfl, ((Below.refl _ _).alloc (Nat.le_refl _) _).trans (b1.mono (by simp))⟩
theorem rw_ok (c : Int) (w : World) (hs : scP c) :
    Calls Tryd.prog 13 #[.int .i32 c] w fun e w' => e = .returned (.string (strOfNums (wrB c))) ∧ Below w.heap.size w w' := by
  unfold wrB wrR
  by_cases n34 : c = 34
  · subst n34
    exact rw_34 w
  rw [if_neg n34]
  by_cases n92 : c = 92
  · subst n92
    exact rw_92 w
  rw [if_neg n92]
  by_cases n8 : c = 8
  · subst n8
    exact rw_8 w
  rw [if_neg n8]
  by_cases n12 : c = 12
  · subst n12
    exact rw_12 w
  rw [if_neg n12]
  by_cases n10 : c = 10
  · subst n10
    exact rw_10 w
  rw [if_neg n10]
  by_cases n13 : c = 13
  · subst n13
    exact rw_13 w
  rw [if_neg n13]
  by_cases n9 : c = 9
  · subst n9
    exact rw_9 w
  rw [if_neg n9]
  have hs2 := hs
  unfold scP at hs2
  by_cases n127 : c = 127
  · subst n127
    rw [if_pos (by omega), hex_flat]
    exact rw_127 w
  by_cases h32 : c < 32
  · rw [if_pos (by omega), hex_flat]
    exact rw_low c w (by omega) (by omega) (by omega) (by omega) (by omega) (by omega) (by omega) (by omega) h32
  rw [if_neg (by omega)]
  by_cases h2 : 65536 ≤ c
  · rw [if_pos h2, List.flatMap_append, hex_flat, hex_flat]
    exact rw_two c w h2 (by omega)
  rw [if_neg h2]
  have e : [c].flatMap putB = putB c := by simp
  rw [e]
  exact rw_std c w (by omega) (by omega) (by omega) (by omega) (by omega) (by omega) (by omega) n127 (by omega) (by omega) hs
end Go.Proofs.YtcehhkjlbhodeaaDoor.sv
