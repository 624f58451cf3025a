import Derived.Test.YtfegalieiiaopabLxA
import Derived.Deep.LoopGhost
import Derived.WalkMore
namespace Go.Proofs.Ytfegalieiiaopab.lx
open Go.ChangeShapes Go.WideShapes Go.ChangeAt Go.RowKit
open ints (hide unhide)
open mem (Row)
set_option linter.unusedVariables false
theorem blank_ok (c : Int) (w : World) : Calls Try.prog 55 #[.int .i32 c] w fun e w' => e = .returned (.bool (blB c)) ∧ w' = w := by
  by_cases h : ints.blP c
  · have : blB c = true := decide_eq_true h
    rw [this]; exact ints.bl_yes c w h
  · have : blB c = false := decide_eq_false h
    rw [this]; exact ints.bl_no c w h
theorem source_ok (c : Int) (w : World) : Calls Try.prog 56 #[.int .i32 c] w fun e w' => e = .returned (.bool (soB c)) ∧ w' = w := by
  by_cases h : ints.soP c
  · have : soB c = true := decide_eq_true h
    rw [this]; exact ints.so_yes c w h
  · have : soB c = false := decide_eq_false h
    rw [this]; exact ints.so_no c w h
theorem ns_ok (c : Int) (w : World) : Calls Try.prog 58 #[.int .i32 c] w fun e w' => e = .returned (.bool (nsB c)) ∧ w' = w := by
  by_cases h : ints.nsP c
  · have : nsB c = true := decide_eq_true h
    rw [this]; exact ints.ns_yes c w h
  · have : nsB c = false := decide_eq_false h
    rw [this]; exact ints.ns_no c w h
theorem nr_ok (c : Int) (w : World) : Calls Try.prog 72 #[.int .i32 c] w fun e w' => e = .returned (.bool (nrB c)) ∧ w' = w := by
  by_cases h : ints.nrP c
  · have : nrB c = true := decide_eq_true h
    rw [this]; exact ints.nr_yes c w h
  · have : nrB c = false := decide_eq_false h
    rw [this]; exact ints.nr_no c w h
theorem digit_ok (c : Int) (w : World) : Calls Try.prog 60 #[.int .i32 c] w fun e w' => e = .returned (.bool (mem.digB c)) ∧ w' = w := by
  by_cases h : 48 ≤ c ∧ c ≤ 57
  · have : mem.digB c = true := by unfold mem.digB; simpa using h
    rw [this]; exact ints.digit_yes c w h.1 h.2
  · have : mem.digB c = false := by unfold mem.digB; rw [← Bool.not_eq_true]; simpa using h
    rw [this]; exact ints.digit_no c w h
/-- the receiver, in a block of its own -/
structure Sb (w0 w : World) (a : Option Addr) (n c : Nat) (cl : Bool) : Prop where
  lt : w0.heap.size < w.heap.size
  c0 : w.cell? ⟨w0.heap.size, 0, none⟩ = some (.slice a n c)
  c1 : w.cell? ⟨w0.heap.size, 1, none⟩ = some (.bool cl)
  bel : Below w0.heap.size w0 w
theorem Sb.new (w : World) (a : Option Addr) (n c : Nat) (cl : Bool) : Sb w (w.alloc (.cells #[.slice a n c, .bool cl] 76)) a n c cl :=
  ⟨by simp, by simp, by simp, (Below.refl _ _).alloc (Nat.le_refl _) _⟩
theorem Sb.below {w0 w w' : World} {a : Option Addr} {n c : Nat} {cl : Bool} (h : Sb w0 w a n c cl) (hb : Below w.heap.size w w') : Sb w0 w' a n c cl :=
  ⟨Nat.lt_of_lt_of_le h.lt hb.size, (hb.cell (p := ⟨w0.heap.size, 0, none⟩) h.lt).trans h.c0, (hb.cell (p := ⟨w0.heap.size, 1, none⟩) h.lt).trans h.c1, h.bel.trans (hb.mono (Nat.le_of_lt h.lt))⟩
set_option maxHeartbeats 2000000 in
theorem ign_ok (a : Option Addr) (n c : Nat) (cl : Bool) (l : List Int) (i : Nat) (w : World) (h : Row .i32 w a n c l) (hn : n ≤ 1099511627776) (hi : i ≤ n) :
    Calls Try.prog 42 #[src a n c cl, .int .i64 (i : Int)] w fun e w' => e = .returned (.int .i64 (ign l false i : Nat)) ∧ Below w.heap.size w w' := by
  have hl := hide h.len
  obtain ⟨R, hR⟩ : ∃ R, R = ign l false i := ⟨_, rfl⟩
  rw [← hR]
  have HR := hide hR.symm
  clear hR
  unfold src
  have hsb := hide (Sb.new w a n c cl)
  go_enter Try.func42, Try.ntmps42
  go_wp2_with fail
  go_step3
  go_wp2_with fail
  go_step3
  go_wp2_with fail
  obtain ⟨w1, hw1⟩ : ∃ w1, w1 = w.alloc (.cells #[.slice a n c, .bool cl] 76) := ⟨_, rfl⟩
  rw [← hw1] at hsb ⊢
  clear hw1
  go_loopg [1] (n + 1) (fun g vi wr => ∃ k : Nat, k ≤ n ∧ n + 1 ≤ g + k ∧ vi = .int .i64 k ∧ Hid (ign l false k = R) ∧ Sb w wr a n c cl)
  case atStart => exact ⟨i, hi, by omega, rfl, HR, unhide hsb⟩
  case round =>
    obtain ⟨k, hk, hg, rfl, hik, hs⟩ := hrel
    have d0 := hs.c0
    have d1 := hs.c1
    go_wp2_with fail
    refine (at_ok a n c cl l k wr (h.below hs.bel) (by omega)).mono ?_
    rintro e w2 ⟨rfl, b2⟩
    have hs2 := hs.below b2
    obtain ⟨x, hx⟩ : ∃ x, x = cAt l k := ⟨_, rfl⟩
    rw [← hx]
    have Hx := hide hx.symm
    clear hx hs d0 d1
    go_wp2_with fail
    refine (blank_ok x w2).mono ?_
    rintro e w3 ⟨rfl, rfl⟩
    have hL := unhide hl
    cases hb : blB x
    · have n35 : ∀ y : Int, y = 35 → (y != 35) = false := fun y e => by subst e; rfl
      by_cases h35 : x = 35
      · subst h35
        have hlt : k < n := by rw [← hL]; exact cAt_lt (unhide Hx) (by decide)
        have hik2 := hide (show ign l true (k + 1) = R from by
          have e := unhide hik
          rw [ign_f, unhide Hx] at e
          exact e)
        clear n35 hL
        go_wp2_with fail
        go_loopg [1] (n + 1) (fun g vi wq => ∃ j : Nat, j < n ∧ k ≤ j ∧ n + 1 ≤ g + j ∧ vi = .int .i64 j ∧ Hid (ign l true (j + 1) = R) ∧ Sb w wq a n c cl)
        case atStart => exact ⟨k, hlt, Nat.le_refl _, by omega, rfl, hik2, hs2⟩
        case round =>
          obtain ⟨j, hj, hkj, hg2, rfl, hij, hs3⟩ := hrel
          have d0 := hs3.c0
          have d1 := hs3.c1
          go_wp2_with fail
          rw [show ((j : Int) + 1) = ((j + 1 : Nat) : Int) by omega]
          refine (at_ok a n c cl l (j + 1) _ (h.below hs3.bel) (by omega)).mono ?_
          rintro e w4 ⟨rfl, b4⟩
          have hs4 := hs3.below b4
          obtain ⟨y, hy⟩ : ∃ y, y = cAt l (j + 1) := ⟨_, rfl⟩
          rw [← hy]
          have Hy := hide hy.symm
          clear hy hs3 d0 d1
          have hL := unhide hl
          by_cases hnl : y = 10 ∨ y = 13
          · have hlt2 : j + 1 < n := by rw [← hL]; exact cAt_lt (unhide Hy) (by omega)
            have hij2 := hide (show ign l false (j + 2) = R from by
              have e := unhide hij
              rw [ign_t, unhide Hy, if_pos hnl] at e
              exact e)
            clear hL
            rcases hnl with rfl | rfl
            · go_wp2_with fail
              go_roundg (n - 1 - j)
              case rel => exact ⟨j + 2, by omega, by omega, by go_num, hij2, hs4⟩
              case measure => omega
            · go_wp2_with fail
              go_roundg (n - 1 - j)
              case rel => exact ⟨j + 2, by omega, by omega, by go_num, hij2, hs4⟩
              case measure => omega
          · have e10 : (y == 10) = false := by simp; omega
            have e13 : (y == 13) = false := by simp; omega
            have Hnl := hide hnl
            clear hnl
            go_wp2_with fail
            refine (source_ok y _).mono ?_
            rintro e w5 ⟨rfl, rfl⟩
            cases hso : soB y
            · have hij2 := hide (show j + 1 = R from by
                have e := unhide hij
                rw [ign_t, unhide Hy, if_neg (unhide Hnl), hso] at e
                exact e)
              clear hL
              go_wp2_with fail
              try rw [Exit.noGoto_ret]
              go_ret
              exact ⟨by rw [← unhide hij2]; rfl, hs4.bel⟩
            · have hlt2 : j + 1 < n := by
                rw [← hL]; exact cAt_lt (unhide Hy) (fun e => by rw [e] at hso; revert hso; decide)
              have hij2 := hide (show ign l true (j + 1 + 1) = R from by
                have e := unhide hij
                rw [ign_t, unhide Hy, if_neg (unhide Hnl), hso] at e
                exact e)
              clear hL
              go_wp2_with fail
              go_roundg (gk - 1)
              case rel => exact ⟨j + 1, by omega, by omega, by omega, by go_num, hij2, hs4⟩
              case measure => omega
      · have hb35 : (x != 35) = true := by simpa using h35
        have hik2 := hide (show k = R from by
          have e := unhide hik
          rw [ign_f, unhide Hx, hb, if_neg (by decide), if_neg h35] at e
          exact e)
        clear h35 n35
        go_wp2_with fail
        try rw [Exit.noGoto_ret]
        go_ret
        exact ⟨by rw [← unhide hik2]; rfl, hs2.bel⟩
    · have hlt : k < n := by
        rw [← hL]; exact cAt_lt (unhide Hx) (fun e => by rw [e] at hb; revert hb; decide)
      have hik2 := hide (show ign l false (k + 1) = R from by
        have e := unhide hik
        rw [ign_f, unhide Hx, hb] at e
        exact e)
      clear hL
      go_wp2_with fail
      go_roundg (gk - 1)
      case rel => exact ⟨k + 1, by omega, by omega, by go_num, hik2, hs2⟩
      case measure => omega
end Go.Proofs.Ytfegalieiiaopab.lx
