import Derived.Test.YtjfdjpaocdhbbaaGreatDoorNtx11
import Derived.Test.YtjfdjpaocdhbbaaGreatDoorNtx8
namespace Go.Proofs.YtjfdjpaocdhbbaaGreatDoor.mem
open Go.ChangeShapes Go.WideShapes Go.ChangeAt Go.RowKit
open ints (hide unhide)
set_option linter.unusedVariables false

theorem big_lit1 (w : World) : Big (w.alloc (.cells #[.int .u32 1] 107)) (some ⟨w.heap.size, 0, none⟩) 1 1 1 :=
  ⟨[1], row_lit .u32 107 (0, 0) w [1], (by intro z hz; simp at hz; omega), .inr (by decide), by simp [val, vT]⟩
theorem times_len0 {w w' : World} {a a2 : Option Addr} {n c N n2 c2 M : Nat} (h : Big w a n c N) (h2 : Big w' a2 n2 c2 (N * M)) (hM : M < 4294967296) : n2 ≤ n + 1 :=
  times_len h (M := M) (D := 0) (by simpa using h2) hM (by decide)
set_option maxHeartbeats 1000000 in
theorem ten_any (k : Int) (w : World) (hk : k ≤ 10000) (hk0 : -10000 ≤ k) :
    Calls Tryz.prog 71 #[.int .i64 k] w fun e w' => ∃ a n c, e = .returned (.slice a n c) ∧ n ≤ k.toNat + 1 ∧ Big w' a n c (10 ^ k.toNat) ∧ Below w.heap.size w w' := by
  have HL := hide (big_lit1 w)
  have HB := hide ((Below.refl w.heap.size w).alloc (Nat.le_refl _) (.cells #[.int .u32 1] 107))
  go_enter Tryz.func71, Tryz.ntmps71
  go_wp2
  go_loopw [0, 3] (fun x v wr => ∃ (y : Int) (a : Option Addr) (n c : Nat), x = .int .i64 y ∧ y ≤ k ∧ (y = k ∨ 0 ≤ y) ∧ v = .slice a n c ∧ n ≤ (k - y).toNat + 1 ∧ Big wr a n c (10 ^ (k - y).toNat) ∧ Below w.heap.size w wr) (fun x _ _ => (intOf x).toNat)
  case atStart => exact ⟨k, some ⟨w.heap.size, 0, none⟩, 1, 1, rfl, by omega, .inl rfl, rfl, by omega, by rw [Int.sub_self]; exact unhide HL, unhide HB⟩
  case round =>
    obtain ⟨y, a, n, c, rfl, hy, hy0, rfl, hn, hB, hbel⟩ := hrel
    clear HL HB
    by_cases hgo : 9 ≤ y
    · have g1 : (9 : Int) ≤ y := hgo
      have g2 : (0 : Int) < y := by omega
      go_wp2_with fail
      refine (times_big a n c _ 1000000000 0 wr hB (by omega) (by omega) (by omega)).mono ?_
      rintro e w1 ⟨a1, n1, c1, rfl, B1, b1⟩
      have HP := hide (show 10 ^ (k - y).toNat * (1000000000 : Int).toNat + (0 : Int).toNat = 10 ^ (k - (y - 9)).toNat from by
        rw [show (k - (y - 9)).toNat = (k - y).toNat + 9 by omega, Nat.pow_add, show (1000000000 : Int).toNat = 10 ^ 9 from by decide]; exact Nat.add_zero _)
      have hl := times_len hB B1 (by decide) (by decide)
      rw [unhide HP] at B1
      have hb1 := hbel.trans (b1.mono hbel.size)
      clear hB b1
      go_wp2
      go_roundw
      case rel => exact ⟨y - 9, a1, n1, c1, by go_num, by omega, by omega, rfl, by omega, B1, hb1⟩
      case measure => simp [intOf]; omega
    · have g1 : ¬ (9 : Int) ≤ y := hgo
      go_wp2
      go_loopw [0, 3] (fun x v wr => ∃ (y : Int) (a : Option Addr) (n c : Nat), x = .int .i64 y ∧ y ≤ k ∧ (y = k ∨ 0 ≤ y) ∧ v = .slice a n c ∧ n ≤ (k - y).toNat + 1 ∧ Big wr a n c (10 ^ (k - y).toNat) ∧ Below w.heap.size w wr) (fun x _ _ => (intOf x).toNat)
      case atStart => exact ⟨y, a, n, c, rfl, hy, hy0, rfl, hn, hB, hbel⟩
      case round =>
        clear hB hbel hy hy0 hn g1 hgo
        obtain ⟨y, a, n, c, rfl, hy, hy0, rfl, hn, hB, hbel⟩ := hrel
        skip
        by_cases hgo : 1 ≤ y
        · have g1 : (1 : Int) ≤ y := hgo
          have g2 : (0 : Int) < y := by omega
          go_wp2_with fail
          refine (times_big a n c _ 10 0 wr hB (by omega) (by omega) (by omega)).mono ?_
          rintro e w1 ⟨a1, n1, c1, rfl, B1, b1⟩
          have HP := hide (show 10 ^ (k - y).toNat * (10 : Int).toNat + (0 : Int).toNat = 10 ^ (k - (y - 1)).toNat from by
            rw [show (k - (y - 1)).toNat = (k - y).toNat + 1 by omega, Nat.pow_add, show (10 : Int).toNat = 10 ^ 1 from by decide]; exact Nat.add_zero _)
          have hl := times_len hB B1 (by decide) (by decide)
          rw [unhide HP] at B1
          have hb1 := hbel.trans (b1.mono hbel.size)
          clear hB b1
          go_wp2
          go_roundw
          case rel => exact ⟨y - 1, a1, n1, c1, by go_num, by omega, by omega, rfl, by omega, B1, hb1⟩
          case measure => simp [intOf]; omega
        · have g1 : ¬ (1 : Int) ≤ y := hgo
          have g3 : ¬ (0 : Int) < y := by omega
          go_wp2
          go_ret
          have e : (k - y).toNat = k.toNat := by omega
          rw [e] at hB hn
          exact ⟨a, n, c, rfl, hn, hB, hbel⟩
end Go.Proofs.YtjfdjpaocdhbbaaGreatDoor.mem
