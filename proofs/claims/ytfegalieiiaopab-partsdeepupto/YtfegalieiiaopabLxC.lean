import Derived.Test.YtfegalieiiaopabLxB
namespace Go.Proofs.Ytfegalieiiaopab.lx
open Go.ChangeShapes Go.WideShapes Go.ChangeAt Go.RowKit
open ints (hide unhide)
open mem (Row)
set_option linter.unusedVariables false
set_option maxHeartbeats 2000000 in
theorem nam_ok (a : Option Addr) (n c : Nat) (cl : Bool) (l : List Int) (i : Nat) (w : World) (h : Row .i32 w a n c l) (hn : n ≤ 1099511627776) (hi : i ≤ n) :
    Calls Try.prog 59 #[src a n c cl, .int .i64 (i : Int)] w fun e w' => e = .returned (.int .i64 (nam l i : Nat)) ∧ Below w.heap.size w w' := by
  have hl := hide h.len
  obtain ⟨R, hR⟩ : ∃ R, R = nam l i := ⟨_, rfl⟩
  rw [← hR]
  have HR := hide hR.symm
  clear hR
  unfold src
  have hsb := hide (Sb.new w a n c cl)
  go_enter Try.func59, Try.ntmps59
  go_wp2_with fail
  obtain ⟨w1, hw1⟩ : ∃ w1, w1 = w.alloc (.cells #[.slice a n c, .bool cl] 76) := ⟨_, rfl⟩
  rw [← hw1] at hsb ⊢
  clear hw1
  go_loopg [1] (n + 1) (fun g vi wr => ∃ k : Nat, k ≤ n ∧ n + 1 ≤ g + k ∧ vi = .int .i64 k ∧ Hid (nam l k = R) ∧ Sb w wr a n c cl)
  case atStart => exact ⟨i, hi, by omega, rfl, HR, unhide hsb⟩
  case round =>
    obtain ⟨k, hk, hg, rfl, hik, hs⟩ := hrel
    have d0 := hs.c0
    have d1 := hs.c1
    go_wp2_with fail
    refine (at_ok a n c cl l k wr (h.below hs.bel) (by omega)).mono ?_
    rintro e w2 ⟨rfl, b2⟩
    have hs2 := hs.below b2
    obtain ⟨x, hx⟩ : ∃ x, x = cAt l k := ⟨_, rfl⟩
    rw [← hx]
    have Hx := hide hx.symm
    clear hx hs d0 d1
    go_wp2_with fail
    refine (nr_ok x w2).mono ?_
    rintro e w3 ⟨rfl, rfl⟩
    have hL := unhide hl
    cases hb : nrB x
    · have hik2 := hide (show k = R from by
        have e := unhide hik
        rw [nam_eq, unhide Hx, hb] at e
        exact e)
      clear hL
      go_wp2_with fail
      go_ret
      exact ⟨by rw [← unhide hik2]; rfl, hs2.bel⟩
    · have hlt : k < n := by
        rw [← hL]; exact cAt_lt (unhide Hx) (fun e => by rw [e] at hb; revert hb; decide)
      have hik2 := hide (show nam l (k + 1) = R from by
        have e := unhide hik
        rw [nam_eq, unhide Hx, hb] at e
        exact e)
      clear hL
      go_wp2_with fail
      go_roundg (gk - 1)
      case rel => exact ⟨k + 1, by omega, by omega, by go_num, hik2, hs2⟩
      case measure => omega
theorem bad_ok (i : Nat) (w : World) : Calls Try.prog 65 #[.int .i64 (i : Int)] w fun e w' => e = .returned (.tuple #[.int .i64 1, .int .i64 (i : Int), .string ⟨#[]⟩]) ∧ w' = w := by
  go_enter Try.func65, Try.ntmps65
  go_wp2
  go_ret3
  exact ⟨rfl, rfl⟩
set_option maxHeartbeats 2000000 in
theorem num_ok (a : Option Addr) (n c : Nat) (cl : Bool) (l : List Int) (i : Nat) (w : World) (h : Row .i32 w a n c l) (hn : n ≤ 1099511627776) (hi : i ≤ n) :
    Calls Try.prog 61 #[src a n c cl, .int .i64 (i : Int)] w fun e w' => e = .returned (.tuple #[.int .i64 (num l i).1, .int .i64 ((num l i).2 : Nat), .string ⟨#[]⟩]) ∧ Below w.heap.size w w' := by
  have hl := hide h.len
  have hsb := hide (Sb.new w a n c cl)
  have hpl := mem.pfx_le l i (by rw [h.len]; exact hi)
  have hP := hide (fun W (hb : Below w.heap.size w W) => mem.prefix_in_i a n c l i W (h.below hb) (by omega) hi)
  have hN := hide (show num l i = (if cAt l (mem.pfx l i).1 = 46 ∨ nrB (cAt l (mem.pfx l i).1) then (1, i) else if (mem.pfx l i).2.2 = 1 then (4, (mem.pfx l i).1) else if (mem.pfx l i).2.2 = 2 then (5, (mem.pfx l i).1) else (1, i)) from rfl)
  have hpl1 := hpl.1
  obtain ⟨N, hNe⟩ : ∃ N, N = num l i := ⟨_, rfl⟩
  rw [← hNe] at hN ⊢
  clear hpl hNe
  obtain ⟨u, hu⟩ : ∃ u, u = (mem.pfx l i).2.1 := ⟨_, rfl⟩
  rw [← hu] at hP
  clear hu
  obtain ⟨t, ht⟩ : ∃ t, t = (mem.pfx l i).1 := ⟨_, rfl⟩
  obtain ⟨f, hf⟩ : ∃ f, f = (mem.pfx l i).2.2 := ⟨_, rfl⟩
  rw [← ht, ← hf] at hP hN
  rw [← ht] at hpl1
  clear ht hf
  have hL := unhide hl
  have htn : t ≤ n := by omega
  clear hpl1 hL
  unfold src
  go_enter Try.func61, Try.ntmps61
  go_wp2_with fail
  obtain ⟨w1, hw1⟩ : ∃ w1, w1 = w.alloc (.cells #[.slice a n c, .bool cl] 76) := ⟨_, rfl⟩
  rw [← hw1] at hsb ⊢
  clear hw1
  refine ((unhide hP) w1 (unhide hsb).bel).mono ?_
  rintro e w2 ⟨rfl, b2⟩
  have hs2 := (unhide hsb).below b2
  have d0 := hs2.c0
  have d1 := hs2.c1
  clear hP
  go_wp2_with fail
  refine (at_ok a n c cl l t w2 (h.below hs2.bel) (by omega)).mono ?_
  rintro e w3 ⟨rfl, b3⟩
  have hs3 := hs2.below b3
  obtain ⟨x, hx⟩ : ∃ x, x = cAt l t := ⟨_, rfl⟩
  rw [← hx] at hN ⊢
  clear hx d0 d1
  by_cases h46 : x = 46
  · subst h46
    have hN2 := hide (show N = (1, i) from by rw [unhide hN]; simp)
    go_wp2_with fail
    refine (bad_ok i _).mono ?_
    rintro e w4 ⟨rfl, rfl⟩
    go_wp2_with fail
    go_ret3
    exact ⟨by rw [unhide hN2]; rfl, hs3.bel⟩
  · have e46 : (x == 46) = false := by simpa using h46
    have H46 := hide h46
    clear h46
    go_wp2_with fail
    refine (nr_ok x _).mono ?_
    rintro e w4 ⟨rfl, rfl⟩
    cases hnr : nrB x
    · have hN1 := hide (show N = (if f = 1 then (4, t) else if f = 2 then (5, t) else (1, i)) from by
        rw [unhide hN, if_neg (fun e => by rcases e with e | e; exact unhide H46 e; rw [hnr] at e; cases e)])
      clear hN
      by_cases f1 : f = 1
      · subst f1
        go_wp2_with fail
        go_ret3
        exact ⟨by rw [unhide hN1]; rfl, hs3.bel⟩
      · by_cases f2 : f = 2
        · subst f2
          go_wp2_with fail
          go_ret3
          exact ⟨by rw [unhide hN1]; rfl, hs3.bel⟩
        · have hN2 := hide (show N = (1, i) from by rw [unhide hN1, if_neg f1, if_neg f2])
          have e1 : (f == 1) = false := by simpa using f1
          have e2 : (f == 2) = false := by simpa using f2
          clear f1 f2
          go_wp2_with fail
          refine (bad_ok i _).mono ?_
          rintro e w4 ⟨rfl, rfl⟩
          go_wp2_with fail
          go_ret3
          exact ⟨by rw [unhide hN2]; rfl, hs3.bel⟩
    · have hN2 := hide (show N = (1, i) from by rw [unhide hN]; simp [hnr])
      go_wp2_with fail
      refine (bad_ok i _).mono ?_
      rintro e w4 ⟨rfl, rfl⟩
      go_wp2_with fail
      go_ret3
      exact ⟨by rw [unhide hN2]; rfl, hs3.bel⟩
end Go.Proofs.Ytfegalieiiaopab.lx
