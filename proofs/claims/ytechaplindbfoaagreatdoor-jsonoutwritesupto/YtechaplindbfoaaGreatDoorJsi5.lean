import Derived.Test.YtechaplindbfoaaGreatDoorJsi4
import Derived.Test.YtechaplindbfoaaGreatDoorJsi3
import Derived.Maps.AppendAt
namespace Go.Proofs.YtechaplindbfoaaGreatDoor.jsn
open Go.ChangeShapes Go.WideShapes Go.ChangeAt Go.RowKit
open mem Go.Maps
open vl hiding hide unhide Hid
open ints (hide unhide)
set_option linter.unusedVariables false
set_option maxHeartbeats 8000000 in
theorem chr_low (n : Nat) (w : World) (h : n < 32) (h8 : ¬ n = 8) (h9 : ¬ n = 9) (h10 : ¬ n = 10) (h12 : ¬ n = 12) (h13 : ¬ n = 13) :
    Calls Tryz.prog 90 #[.int .i32 (n : Int)] w fun e w' => ∃ v, e = .returned v ∧ w'.ownsRow w.heap.size 5 1 v 6 ((chr7 (n : Int)).map (Value.int .u8)) ∧ Below w.heap.size w w' := by
  have h34 : ¬ (n : Int) = 34 := by omega
  have h92 : ¬ (n : Int) = 92 := by omega
  have g8 : ¬ 8 = (n : Int) := by omega
  have g9 : ¬ 9 = (n : Int) := by omega
  have g10 : ¬ 10 = (n : Int) := by omega
  have g12 : ¬ 12 = (n : Int) := by omega
  have g13 : ¬ 13 = (n : Int) := by omega
  have g32 : ¬ 32 ≤ (n : Int) := by omega
  have hn := hide (show n = 0 ∨ n = 1 ∨ n = 2 ∨ n = 3 ∨ n = 4 ∨ n = 5 ∨ n = 6 ∨ n = 7 ∨ n = 11 ∨ n = 14 ∨ n = 15 ∨ n = 16 ∨ n = 17 ∨ n = 18 ∨ n = 19 ∨ n = 20 ∨ n = 21 ∨ n = 22 ∨ n = 23 ∨ n = 24 ∨ n = 25 ∨ n = 26 ∨ n = 27 ∨ n = 28 ∨ n = 29 ∨ n = 30 ∨ n = 31 by omega)
  obtain ⟨z, hz⟩ : ∃ z : Int, z = (n : Int) := ⟨_, rfl⟩
  rw [← hz] at h34 h92 g8 g9 g10 g12 g13 g32 ⊢
  have e34 : (z == 34) = false := by simp [h34]
  have e92 : (z == 92) = false := by simp [h92]
  have HZ := hide hz
  clear hz
  go_enter Tryz.func90, Tryz.ntmps90
  go_wp2_with fail
  refine wp_loop_rounds 6 ?_
  rw [rounds_succ]
  go_wp2_with fail
  rw [rounds_succ]
  go_wp2_with fail
  rw [rounds_succ]
  go_wp2_with fail
  rw [rounds_succ]
  go_wp2_with fail
  rw [rounds_succ]
  go_wp2_with fail
  rw [rounds_succ]
  go_wp2_with fail
  clear h34 h92 e34 e92 g8 g9 g10 g12 g13 g32 h8 h9 h10 h12 h13 h
  have hz := unhide HZ
  clear HZ
  rcases unhide hn with rfl | rfl | rfl | rfl | rfl | rfl | rfl | rfl | rfl | rfl | rfl | rfl | rfl | rfl | rfl | rfl | rfl | rfl | rfl | rfl | rfl | rfl | rfl | rfl | rfl | rfl | rfl
  · obtain rfl : z = _ := hz
    go_region <;> (try go_wp2)
    all_goals go_ret
    all_goals refine ⟨.slice (some ⟨w.heap.size + 1, 0, none⟩) 6 6, rfl, ?_, (((Below.refl _ _).alloc (Nat.le_refl _) _).alloc (by simp) _).drew⟩
    all_goals rw [show chr7 0 = ([92, 117, 48, 48, 48, 48] : List Int) by decide +kernel]
    all_goals exact lit_own w _ [92, 117, 48, 48, 48, 48] 6 (by unfold maxLen; omega) rfl
  · obtain rfl : z = _ := hz
    go_region <;> (try go_wp2)
    all_goals go_ret
    all_goals refine ⟨.slice (some ⟨w.heap.size + 1, 0, none⟩) 6 6, rfl, ?_, (((Below.refl _ _).alloc (Nat.le_refl _) _).alloc (by simp) _).drew⟩
    all_goals rw [show chr7 1 = ([92, 117, 48, 48, 48, 49] : List Int) by decide +kernel]
    all_goals exact lit_own w _ [92, 117, 48, 48, 48, 49] 6 (by unfold maxLen; omega) rfl
  · obtain rfl : z = _ := hz
    go_region <;> (try go_wp2)
    all_goals go_ret
    all_goals refine ⟨.slice (some ⟨w.heap.size + 1, 0, none⟩) 6 6, rfl, ?_, (((Below.refl _ _).alloc (Nat.le_refl _) _).alloc (by simp) _).drew⟩
    all_goals rw [show chr7 2 = ([92, 117, 48, 48, 48, 50] : List Int) by decide +kernel]
    all_goals exact lit_own w _ [92, 117, 48, 48, 48, 50] 6 (by unfold maxLen; omega) rfl
  · obtain rfl : z = _ := hz
    go_region <;> (try go_wp2)
    all_goals go_ret
    all_goals refine ⟨.slice (some ⟨w.heap.size + 1, 0, none⟩) 6 6, rfl, ?_, (((Below.refl _ _).alloc (Nat.le_refl _) _).alloc (by simp) _).drew⟩
    all_goals rw [show chr7 3 = ([92, 117, 48, 48, 48, 51] : List Int) by decide +kernel]
    all_goals exact lit_own w _ [92, 117, 48, 48, 48, 51] 6 (by unfold maxLen; omega) rfl
  · obtain rfl : z = _ := hz
    go_region <;> (try go_wp2)
    all_goals go_ret
    all_goals refine ⟨.slice (some ⟨w.heap.size + 1, 0, none⟩) 6 6, rfl, ?_, (((Below.refl _ _).alloc (Nat.le_refl _) _).alloc (by simp) _).drew⟩
    all_goals rw [show chr7 4 = ([92, 117, 48, 48, 48, 52] : List Int) by decide +kernel]
    all_goals exact lit_own w _ [92, 117, 48, 48, 48, 52] 6 (by unfold maxLen; omega) rfl
  · obtain rfl : z = _ := hz
    go_region <;> (try go_wp2)
    all_goals go_ret
    all_goals refine ⟨.slice (some ⟨w.heap.size + 1, 0, none⟩) 6 6, rfl, ?_, (((Below.refl _ _).alloc (Nat.le_refl _) _).alloc (by simp) _).drew⟩
    all_goals rw [show chr7 5 = ([92, 117, 48, 48, 48, 53] : List Int) by decide +kernel]
    all_goals exact lit_own w _ [92, 117, 48, 48, 48, 53] 6 (by unfold maxLen; omega) rfl
  · obtain rfl : z = _ := hz
    go_region <;> (try go_wp2)
    all_goals go_ret
    all_goals refine ⟨.slice (some ⟨w.heap.size + 1, 0, none⟩) 6 6, rfl, ?_, (((Below.refl _ _).alloc (Nat.le_refl _) _).alloc (by simp) _).drew⟩
    all_goals rw [show chr7 6 = ([92, 117, 48, 48, 48, 54] : List Int) by decide +kernel]
    all_goals exact lit_own w _ [92, 117, 48, 48, 48, 54] 6 (by unfold maxLen; omega) rfl
  · obtain rfl : z = _ := hz
    go_region <;> (try go_wp2)
    all_goals go_ret
    all_goals refine ⟨.slice (some ⟨w.heap.size + 1, 0, none⟩) 6 6, rfl, ?_, (((Below.refl _ _).alloc (Nat.le_refl _) _).alloc (by simp) _).drew⟩
    all_goals rw [show chr7 7 = ([92, 117, 48, 48, 48, 55] : List Int) by decide +kernel]
    all_goals exact lit_own w _ [92, 117, 48, 48, 48, 55] 6 (by unfold maxLen; omega) rfl
  · obtain rfl : z = _ := hz
    go_region <;> (try go_wp2)
    all_goals go_ret
    all_goals refine ⟨.slice (some ⟨w.heap.size + 1, 0, none⟩) 6 6, rfl, ?_, (((Below.refl _ _).alloc (Nat.le_refl _) _).alloc (by simp) _).drew⟩
    all_goals rw [show chr7 11 = ([92, 117, 48, 48, 48, 98] : List Int) by decide +kernel]
    all_goals exact lit_own w _ [92, 117, 48, 48, 48, 98] 6 (by unfold maxLen; omega) rfl
  · obtain rfl : z = _ := hz
    go_region <;> (try go_wp2)
    all_goals go_ret
    all_goals refine ⟨.slice (some ⟨w.heap.size + 1, 0, none⟩) 6 6, rfl, ?_, (((Below.refl _ _).alloc (Nat.le_refl _) _).alloc (by simp) _).drew⟩
    all_goals rw [show chr7 14 = ([92, 117, 48, 48, 48, 101] : List Int) by decide +kernel]
    all_goals exact lit_own w _ [92, 117, 48, 48, 48, 101] 6 (by unfold maxLen; omega) rfl
  · obtain rfl : z = _ := hz
    go_region <;> (try go_wp2)
    all_goals go_ret
    all_goals refine ⟨.slice (some ⟨w.heap.size + 1, 0, none⟩) 6 6, rfl, ?_, (((Below.refl _ _).alloc (Nat.le_refl _) _).alloc (by simp) _).drew⟩
    all_goals rw [show chr7 15 = ([92, 117, 48, 48, 48, 102] : List Int) by decide +kernel]
    all_goals exact lit_own w _ [92, 117, 48, 48, 48, 102] 6 (by unfold maxLen; omega) rfl
  · obtain rfl : z = _ := hz
    go_region <;> (try go_wp2)
    all_goals go_ret
    all_goals refine ⟨.slice (some ⟨w.heap.size + 1, 0, none⟩) 6 6, rfl, ?_, (((Below.refl _ _).alloc (Nat.le_refl _) _).alloc (by simp) _).drew⟩
    all_goals rw [show chr7 16 = ([92, 117, 48, 48, 49, 48] : List Int) by decide +kernel]
    all_goals exact lit_own w _ [92, 117, 48, 48, 49, 48] 6 (by unfold maxLen; omega) rfl
  · obtain rfl : z = _ := hz
    go_region <;> (try go_wp2)
    all_goals go_ret
    all_goals refine ⟨.slice (some ⟨w.heap.size + 1, 0, none⟩) 6 6, rfl, ?_, (((Below.refl _ _).alloc (Nat.le_refl _) _).alloc (by simp) _).drew⟩
    all_goals rw [show chr7 17 = ([92, 117, 48, 48, 49, 49] : List Int) by decide +kernel]
    all_goals exact lit_own w _ [92, 117, 48, 48, 49, 49] 6 (by unfold maxLen; omega) rfl
  · obtain rfl : z = _ := hz
    go_region <;> (try go_wp2)
    all_goals go_ret
    all_goals refine ⟨.slice (some ⟨w.heap.size + 1, 0, none⟩) 6 6, rfl, ?_, (((Below.refl _ _).alloc (Nat.le_refl _) _).alloc (by simp) _).drew⟩
    all_goals rw [show chr7 18 = ([92, 117, 48, 48, 49, 50] : List Int) by decide +kernel]
    all_goals exact lit_own w _ [92, 117, 48, 48, 49, 50] 6 (by unfold maxLen; omega) rfl
  · obtain rfl : z = _ := hz
    go_region <;> (try go_wp2)
    all_goals go_ret
    all_goals refine ⟨.slice (some ⟨w.heap.size + 1, 0, none⟩) 6 6, rfl, ?_, (((Below.refl _ _).alloc (Nat.le_refl _) _).alloc (by simp) _).drew⟩
    all_goals rw [show chr7 19 = ([92, 117, 48, 48, 49, 51] : List Int) by decide +kernel]
    all_goals exact lit_own w _ [92, 117, 48, 48, 49, 51] 6 (by unfold maxLen; omega) rfl
  · obtain rfl : z = _ := hz
    go_region <;> (try go_wp2)
    all_goals go_ret
    all_goals refine ⟨.slice (some ⟨w.heap.size + 1, 0, none⟩) 6 6, rfl, ?_, (((Below.refl _ _).alloc (Nat.le_refl _) _).alloc (by simp) _).drew⟩
    all_goals rw [show chr7 20 = ([92, 117, 48, 48, 49, 52] : List Int) by decide +kernel]
    all_goals exact lit_own w _ [92, 117, 48, 48, 49, 52] 6 (by unfold maxLen; omega) rfl
  · obtain rfl : z = _ := hz
    go_region <;> (try go_wp2)
    all_goals go_ret
    all_goals refine ⟨.slice (some ⟨w.heap.size + 1, 0, none⟩) 6 6, rfl, ?_, (((Below.refl _ _).alloc (Nat.le_refl _) _).alloc (by simp) _).drew⟩
    all_goals rw [show chr7 21 = ([92, 117, 48, 48, 49, 53] : List Int) by decide +kernel]
    all_goals exact lit_own w _ [92, 117, 48, 48, 49, 53] 6 (by unfold maxLen; omega) rfl
  · obtain rfl : z = _ := hz
    go_region <;> (try go_wp2)
    all_goals go_ret
    all_goals refine ⟨.slice (some ⟨w.heap.size + 1, 0, none⟩) 6 6, rfl, ?_, (((Below.refl _ _).alloc (Nat.le_refl _) _).alloc (by simp) _).drew⟩
    all_goals rw [show chr7 22 = ([92, 117, 48, 48, 49, 54] : List Int) by decide +kernel]
    all_goals exact lit_own w _ [92, 117, 48, 48, 49, 54] 6 (by unfold maxLen; omega) rfl
  · obtain rfl : z = _ := hz
    go_region <;> (try go_wp2)
    all_goals go_ret
    all_goals refine ⟨.slice (some ⟨w.heap.size + 1, 0, none⟩) 6 6, rfl, ?_, (((Below.refl _ _).alloc (Nat.le_refl _) _).alloc (by simp) _).drew⟩
    all_goals rw [show chr7 23 = ([92, 117, 48, 48, 49, 55] : List Int) by decide +kernel]
    all_goals exact lit_own w _ [92, 117, 48, 48, 49, 55] 6 (by unfold maxLen; omega) rfl
  · obtain rfl : z = _ := hz
    go_region <;> (try go_wp2)
    all_goals go_ret
    all_goals refine ⟨.slice (some ⟨w.heap.size + 1, 0, none⟩) 6 6, rfl, ?_, (((Below.refl _ _).alloc (Nat.le_refl _) _).alloc (by simp) _).drew⟩
    all_goals rw [show chr7 24 = ([92, 117, 48, 48, 49, 56] : List Int) by decide +kernel]
    all_goals exact lit_own w _ [92, 117, 48, 48, 49, 56] 6 (by unfold maxLen; omega) rfl
  · obtain rfl : z = _ := hz
    go_region <;> (try go_wp2)
    all_goals go_ret
    all_goals refine ⟨.slice (some ⟨w.heap.size + 1, 0, none⟩) 6 6, rfl, ?_, (((Below.refl _ _).alloc (Nat.le_refl _) _).alloc (by simp) _).drew⟩
    all_goals rw [show chr7 25 = ([92, 117, 48, 48, 49, 57] : List Int) by decide +kernel]
    all_goals exact lit_own w _ [92, 117, 48, 48, 49, 57] 6 (by unfold maxLen; omega) rfl
  · obtain rfl : z = _ := hz
    go_region <;> (try go_wp2)
    all_goals go_ret
    all_goals refine ⟨.slice (some ⟨w.heap.size + 1, 0, none⟩) 6 6, rfl, ?_, (((Below.refl _ _).alloc (Nat.le_refl _) _).alloc (by simp) _).drew⟩
    all_goals rw [show chr7 26 = ([92, 117, 48, 48, 49, 97] : List Int) by decide +kernel]
    all_goals exact lit_own w _ [92, 117, 48, 48, 49, 97] 6 (by unfold maxLen; omega) rfl
  · obtain rfl : z = _ := hz
    go_region <;> (try go_wp2)
    all_goals go_ret
    all_goals refine ⟨.slice (some ⟨w.heap.size + 1, 0, none⟩) 6 6, rfl, ?_, (((Below.refl _ _).alloc (Nat.le_refl _) _).alloc (by simp) _).drew⟩
    all_goals rw [show chr7 27 = ([92, 117, 48, 48, 49, 98] : List Int) by decide +kernel]
    all_goals exact lit_own w _ [92, 117, 48, 48, 49, 98] 6 (by unfold maxLen; omega) rfl
  · obtain rfl : z = _ := hz
    go_region <;> (try go_wp2)
    all_goals go_ret
    all_goals refine ⟨.slice (some ⟨w.heap.size + 1, 0, none⟩) 6 6, rfl, ?_, (((Below.refl _ _).alloc (Nat.le_refl _) _).alloc (by simp) _).drew⟩
    all_goals rw [show chr7 28 = ([92, 117, 48, 48, 49, 99] : List Int) by decide +kernel]
    all_goals exact lit_own w _ [92, 117, 48, 48, 49, 99] 6 (by unfold maxLen; omega) rfl
  · obtain rfl : z = _ := hz
    go_region <;> (try go_wp2)
    all_goals go_ret
    all_goals refine ⟨.slice (some ⟨w.heap.size + 1, 0, none⟩) 6 6, rfl, ?_, (((Below.refl _ _).alloc (Nat.le_refl _) _).alloc (by simp) _).drew⟩
    all_goals rw [show chr7 29 = ([92, 117, 48, 48, 49, 100] : List Int) by decide +kernel]
    all_goals exact lit_own w _ [92, 117, 48, 48, 49, 100] 6 (by unfold maxLen; omega) rfl
  · obtain rfl : z = _ := hz
    go_region <;> (try go_wp2)
    all_goals go_ret
    all_goals refine ⟨.slice (some ⟨w.heap.size + 1, 0, none⟩) 6 6, rfl, ?_, (((Below.refl _ _).alloc (Nat.le_refl _) _).alloc (by simp) _).drew⟩
    all_goals rw [show chr7 30 = ([92, 117, 48, 48, 49, 101] : List Int) by decide +kernel]
    all_goals exact lit_own w _ [92, 117, 48, 48, 49, 101] 6 (by unfold maxLen; omega) rfl
  · obtain rfl : z = _ := hz
    go_region <;> (try go_wp2)
    all_goals go_ret
    all_goals refine ⟨.slice (some ⟨w.heap.size + 1, 0, none⟩) 6 6, rfl, ?_, (((Below.refl _ _).alloc (Nat.le_refl _) _).alloc (by simp) _).drew⟩
    all_goals rw [show chr7 31 = ([92, 117, 48, 48, 49, 102] : List Int) by decide +kernel]
    all_goals exact lit_own w _ [92, 117, 48, 48, 49, 102] 6 (by unfold maxLen; omega) rfl
theorem char_ok (c : Int) (w : World) (hs : scP c) :
    Calls Tryz.prog 90 #[.int .i32 c] w fun e w' => ∃ v, e = .returned v ∧ w'.ownsRow w.heap.size 5 1 v (chrZ c).length ((chrZ c).map (Value.int .u8)) ∧ Below w.heap.size w w' := by
  have h0 : 0 ≤ c := by unfold scP at hs; omega
  obtain ⟨n, rfl⟩ : ∃ n : Nat, c = n := ⟨c.toNat, by omega⟩
  have std7 : ∀ m, m < 128 → 32 ≤ m → m ≠ 34 → m ≠ 92 → escU (UInt8.ofNat m) = [UInt8.ofNat m] := by decide +kernel
  rcases (show n = 34 ∨ n = 92 ∨ n = 8 ∨ n = 9 ∨ n = 10 ∨ n = 12 ∨ n = 13 ∨ (n < 32 ∧ ¬ n = 8 ∧ ¬ n = 9 ∧ ¬ n = 10 ∧ ¬ n = 12 ∧ ¬ n = 13) ∨ (32 ≤ n ∧ ¬ n = 34 ∧ ¬ n = 92) by omega) with rfl | rfl | rfl | rfl | rfl | rfl | rfl | ⟨h1, h8, h9, h10, h12, h13⟩ | ⟨h1, h2, h3⟩
  · exact chr_34 w
  · exact chr_92 w
  · exact chr_8 w
  · exact chr_9 w
  · exact chr_10 w
  · exact chr_12 w
  · exact chr_13 w
  · have e : chrZ (n : Int) = chr7 (n : Int) := if_pos (by omega)
    have e6 : (chr7 (n : Int)).length = 6 := by
      have : ∀ m : Nat, m < 32 → (m == 8 || m == 9 || m == 10 || m == 12 || m == 13 || (chr7 (m : Int)).length == 6) = true := by decide +kernel
      have := this n h1
      simpa [h8, h9, h10, h12, h13] using this
    rw [e, e6]
    exact chr_low n w h1 h8 h9 h10 h12 h13
  · have e : chrZ (n : Int) = putB (n : Int) := by
      unfold chrZ
      by_cases h7 : (n : Int) < 128
      · rw [if_pos h7, putB_1 h7]
        unfold chr7
        rw [Int.toNat_natCast, std7 n (by omega) h1 h2 h3]
        have : n < 256 := by omega
        simp [zB]
        omega
      · rw [if_neg h7]
    rw [e]
    exact chr_rest (n : Int) w hs (by omega) (by omega) (by omega)
end Go.Proofs.YtechaplindbfoaaGreatDoor.jsn
