import Derived.Test.YtidkdnlbecompacNamT
namespace Go.Proofs.Ytidkdnlbecompac.mem
open Go.ChangeShapes Go.WideShapes Go.ChangeAt Go.RowKit
set_option linter.unusedVariables false
set_option maxHeartbeats 4000000 in
theorem names_walk (w : World) :
    Calls Try.prog 6 #[] w fun e w' => e = .returned (.bool true) ∧ Below w.heap.size w w' := by
  obtain ⟨W, hW, B0, hlb, T⟩ := tabs w 50 45
  have HW := ints.hide hW
  clear hW
  go_enter Try.func6, Try.ntmps6
  go_wp2_with fail
  refine (errors1_any _).mono ?_
  rintro e w1 ⟨rfl, rfl⟩
  go_wp2_with fail
  refine (errors2_any _).mono ?_
  rintro e w2 ⟨rfl, rfl⟩
  go_wp2
  rw [← ints.unhide HW]
  clear HW
  generalize w.heap.size + 1 + 1 = lb at *
  go_loopw [9] (fun v wr => ∃ k : Nat, k ≤ 2 ∧ v = .int .i64 k ∧ Below W.heap.size W wr) (fun v _ => 2 - (intOf v).toNat)
  case atStart => exact ⟨0, by omega, rfl, Below.refl _ _⟩
  case round =>
    obtain ⟨k, hk, rfl, hbel⟩ := hrel
    by_cases hlt : k < 2
    · obtain ⟨b, n, hn, hc, ht⟩ := T k hlt
      have hc1 := (hbel.cell (p := ⟨lb, k, none⟩) hlb).trans hc
      have ht1 := ht.below hbel
      have hkj : (k : Int) < 2 := by omega
      clear T hc ht hlb
      obtain ⟨wo, hwo⟩ : ∃ wo, wo = wr := ⟨_, rfl⟩
      subst hwo
      go_wp2
      go_loopw [15] (fun v wr => ∃ j : Nat, j ≤ n ∧ v = .int .i64 j ∧ Below wo.heap.size wo wr) (fun v _ => n - (intOf v).toNat)
      case atStart => exact ⟨0, by omega, rfl, Below.refl _ _⟩
      case round =>
        obtain ⟨j, hj, rfl, hbe2⟩ := hrel
        by_cases hjn : j < n
        · have ht2 := ht1.below hbe2
          obtain ⟨x, x1, x2, x3⟩ := ht2.2 j hjn
          have ji : (j : Int) < (n : Int) := by omega
          clear ht1 ht2
          have hbx : Below wr.heap.size wr (wr.alloc (.cells #[.int .i64 x, .int .i64 x, .string (wordF x)] 50)) := (Below.refl _ _).alloc (Nat.le_refl _) _
          have HX := ints.hide hbx
          clear hbx
          have xx : (x != x) = false := by simp
          go_wp2
          go_quiet ((go_at_call 27; exact Calls.quiet_of_same (word_any x _)))
          go_wp2
          go_roundw
          case rel => exact ⟨j + 1, by omega, by go_num, below_drewN (hbe2.trans ((ints.unhide HX).mono hbe2.size)) _⟩
          case measure => simp [intOf]; omega
        · have ji : ¬ (j : Int) < (n : Int) := by omega
          go_wp2
          go_roundw
          case rel => exact ⟨k + 1, by omega, by go_num, hbel.trans (hbe2.mono hbel.size)⟩
          case measure => simp [intOf]; omega
    · have hkj : ¬ (k : Int) < 2 := by omega
      go_wp2
      go_ret
      exact ⟨rfl, B0.trans (hbel.mono B0.size)⟩
end Go.Proofs.Ytidkdnlbecompac.mem
