import Derived.Test.YtechaplindbfoaaGreatDoorJpa13
import Derived.Test.YtechaplindbfoaaGreatDoorJsi3
import Derived.Maps.AppendAt
namespace Go.Proofs.YtechaplindbfoaaGreatDoor.jsn
open Go.ChangeShapes Go.WideShapes Go.ChangeAt Go.RowKit
open mem Go.Maps
open vl hiding hide unhide Hid
open ints (hide unhide)
set_option linter.unusedVariables false
theorem lit_own (w : World) (o : Obj) (zs : List Int) (m : Nat) (hm : m ≤ maxLen) (hl : zs.length = m) :
    ((w.alloc o).alloc (.cells (zs.map (Value.int .u8)).toArray 5)).ownsRow w.heap.size 5 1 (.slice (some ⟨w.heap.size + 1, 0, none⟩) m m) m (zs.map (Value.int .u8)) := by
  have h := put_lit (w.alloc o) zs m hm hl
  have e : (w.alloc o).heap.size = w.heap.size + 1 := by simp
  rw [e] at h
  exact own_low h (by omega)
set_option maxHeartbeats 4000000 in
theorem chr_34 (w : World) : Calls Tryz.prog 90 #[.int .i32 34] w fun e w' => ∃ v, e = .returned v ∧ w'.ownsRow w.heap.size 5 1 v 2 (([92, 34] : List Int).map (Value.int .u8)) ∧ Below w.heap.size w w' := by
  go_enter Tryz.func90, Tryz.ntmps90
  go_wp2
  go_ret
  exact ⟨.slice (some ⟨w.heap.size + 1, 0, none⟩) 2 2, rfl, lit_own w _ [92, 34] 2 (by unfold maxLen; omega) rfl, ((Below.refl _ _).alloc (Nat.le_refl _) _).alloc (by simp) _⟩
set_option maxHeartbeats 4000000 in
theorem chr_92 (w : World) : Calls Tryz.prog 90 #[.int .i32 92] w fun e w' => ∃ v, e = .returned v ∧ w'.ownsRow w.heap.size 5 1 v 2 (([92, 92] : List Int).map (Value.int .u8)) ∧ Below w.heap.size w w' := by
  go_enter Tryz.func90, Tryz.ntmps90
  go_wp2
  go_ret
  exact ⟨.slice (some ⟨w.heap.size + 1, 0, none⟩) 2 2, rfl, lit_own w _ [92, 92] 2 (by unfold maxLen; omega) rfl, ((Below.refl _ _).alloc (Nat.le_refl _) _).alloc (by simp) _⟩
set_option maxHeartbeats 4000000 in
theorem chr_8 (w : World) : Calls Tryz.prog 90 #[.int .i32 8] w fun e w' => ∃ v, e = .returned v ∧ w'.ownsRow w.heap.size 5 1 v 2 (([92, 98] : List Int).map (Value.int .u8)) ∧ Below w.heap.size w w' := by
  go_enter Tryz.func90, Tryz.ntmps90
  go_wp2
  refine wp_loop_rounds 1 ?_
  rw [rounds_succ]
  go_wp2
  go_ret
  exact ⟨.slice (some ⟨w.heap.size + 1, 0, none⟩) 2 2, rfl, lit_own w _ [92, 98] 2 (by unfold maxLen; omega) rfl, ((Below.refl _ _).alloc (Nat.le_refl _) _).alloc (by simp) _⟩
set_option maxHeartbeats 4000000 in
theorem chr_9 (w : World) : Calls Tryz.prog 90 #[.int .i32 9] w fun e w' => ∃ v, e = .returned v ∧ w'.ownsRow w.heap.size 5 1 v 2 (([92, 116] : List Int).map (Value.int .u8)) ∧ Below w.heap.size w w' := by
  go_enter Tryz.func90, Tryz.ntmps90
  go_wp2
  refine wp_loop_rounds 2 ?_
  rw [rounds_succ]
  go_wp2
  rw [rounds_succ]
  go_wp2
  go_ret
  exact ⟨.slice (some ⟨w.heap.size + 1, 0, none⟩) 2 2, rfl, lit_own w _ [92, 116] 2 (by unfold maxLen; omega) rfl, ((Below.refl _ _).alloc (Nat.le_refl _) _).alloc (by simp) _⟩
set_option maxHeartbeats 4000000 in
theorem chr_10 (w : World) : Calls Tryz.prog 90 #[.int .i32 10] w fun e w' => ∃ v, e = .returned v ∧ w'.ownsRow w.heap.size 5 1 v 2 (([92, 110] : List Int).map (Value.int .u8)) ∧ Below w.heap.size w w' := by
  go_enter Tryz.func90, Tryz.ntmps90
  go_wp2
  refine wp_loop_rounds 3 ?_
  rw [rounds_succ]
  go_wp2
  rw [rounds_succ]
  go_wp2
  rw [rounds_succ]
  go_wp2
  go_ret
  exact ⟨.slice (some ⟨w.heap.size + 1, 0, none⟩) 2 2, rfl, lit_own w _ [92, 110] 2 (by unfold maxLen; omega) rfl, ((Below.refl _ _).alloc (Nat.le_refl _) _).alloc (by simp) _⟩
set_option maxHeartbeats 4000000 in
theorem chr_12 (w : World) : Calls Tryz.prog 90 #[.int .i32 12] w fun e w' => ∃ v, e = .returned v ∧ w'.ownsRow w.heap.size 5 1 v 2 (([92, 102] : List Int).map (Value.int .u8)) ∧ Below w.heap.size w w' := by
  go_enter Tryz.func90, Tryz.ntmps90
  go_wp2
  refine wp_loop_rounds 4 ?_
  rw [rounds_succ]
  go_wp2
  rw [rounds_succ]
  go_wp2
  rw [rounds_succ]
  go_wp2
  rw [rounds_succ]
  go_wp2
  go_ret
  exact ⟨.slice (some ⟨w.heap.size + 1, 0, none⟩) 2 2, rfl, lit_own w _ [92, 102] 2 (by unfold maxLen; omega) rfl, ((Below.refl _ _).alloc (Nat.le_refl _) _).alloc (by simp) _⟩
set_option maxHeartbeats 4000000 in
theorem chr_13 (w : World) : Calls Tryz.prog 90 #[.int .i32 13] w fun e w' => ∃ v, e = .returned v ∧ w'.ownsRow w.heap.size 5 1 v 2 (([92, 114] : List Int).map (Value.int .u8)) ∧ Below w.heap.size w w' := by
  go_enter Tryz.func90, Tryz.ntmps90
  go_wp2
  refine wp_loop_rounds 5 ?_
  rw [rounds_succ]
  go_wp2
  rw [rounds_succ]
  go_wp2
  rw [rounds_succ]
  go_wp2
  rw [rounds_succ]
  go_wp2
  rw [rounds_succ]
  go_wp2
  go_ret
  exact ⟨.slice (some ⟨w.heap.size + 1, 0, none⟩) 2 2, rfl, lit_own w _ [92, 114] 2 (by unfold maxLen; omega) rfl, ((Below.refl _ _).alloc (Nat.le_refl _) _).alloc (by simp) _⟩
set_option maxHeartbeats 8000000 in
theorem chr_rest (c : Int) (w : World) (hs : scP c) (h34 : ¬ c = 34) (h92 : ¬ c = 92) (h32 : 32 ≤ c) :
    Calls Tryz.prog 90 #[.int .i32 c] w fun e w' => ∃ v, e = .returned v ∧ w'.ownsRow w.heap.size 5 1 v (putB c).length ((putB c).map (Value.int .u8)) ∧ Below w.heap.size w w' := by
  have g8 : ¬ 8 = c := by omega
  have g9 : ¬ 9 = c := by omega
  have g10 : ¬ 10 = c := by omega
  have g12 : ¬ 12 = c := by omega
  have g13 : ¬ 13 = c := by omega
  have e34 : (c == 34) = false := by simp [h34]
  have e92 : (c == 92) = false := by simp [h92]
  have P := hide (fun W => put_yes c W hs)
  have hpl := hide (putB_len c)
  go_enter Tryz.func90, Tryz.ntmps90
  go_wp2_with fail
  refine wp_loop_rounds 6 ?_
  rw [rounds_succ]
  go_wp2_with fail
  rw [rounds_succ]
  go_wp2_with fail
  rw [rounds_succ]
  go_wp2_with fail
  rw [rounds_succ]
  go_wp2_with fail
  rw [rounds_succ]
  go_wp2_with fail
  rw [rounds_succ]
  go_wp2_with fail
  refine (unhide P _).mono ?_
  rintro e w1 ⟨rfl, rfl⟩
  clear P
  go_wp2
  go_ret
  have := unhide hpl
  exact ⟨.slice (some ⟨w.heap.size + 1, 0, none⟩) (putB c).length (putB c).length, by simp, lit_own w _ (putB c) _ (by unfold maxLen; omega) rfl, ((Below.refl _ _).alloc (Nat.le_refl _) _).alloc (by simp) _⟩
end Go.Proofs.YtechaplindbfoaaGreatDoor.jsn
