import Derived.Test.YtfegalieiiaopabLxD
namespace Go.Proofs.Ytfegalieiiaopab.lx
open Go.ChangeShapes Go.WideShapes Go.ChangeAt Go.RowKit
open ints (hide unhide)
open mem (Row)
set_option linter.unusedVariables false
set_option maxHeartbeats 4000000 in
theorem rd_ok (a : Option Addr) (n c : Nat) (l : List Int) (i : Nat) (w : World) (h : Row .i32 w a n c l) (hn : n ≤ 1099511627776) (hi : i ≤ n) (hp : Plain l) :
    Calls Try.prog 43 #[src a n c true, .int .i64 (i : Int)] w fun e w' => e = .returned (.tuple #[.int .i64 (rd l true i).1, .int .i64 ((rd l true i).2 : Nat), .string ⟨#[]⟩]) ∧ Below w.heap.size w w' := by
  have hl := hide h.len
  have hsb := hide (Sb.new w a n c true)
  have hN := hide (show rd l true i = (if i = l.length ∧ true = true then (0, i)
    else if cAt l i = 46 then (if cAt l (i + 1) = 46 ∧ cAt l (i + 2) = 46 then (2, i + 3) else (1, i))
    else if puB (cAt l i) then (2, i + 1)
    else if nsB (cAt l i) then (3, nam l (i + 1))
    else if cAt l i = 45 ∨ mem.digB (cAt l i) then num l i
    else (1, i)) from rfl)
  obtain ⟨N, hNe⟩ : ∃ N, N = rd l true i := ⟨_, rfl⟩
  rw [← hNe] at hN ⊢
  clear hNe
  have hA := hide (fun W (hb : Below w.heap.size w W) (k : Nat) => at_ok a n c true l k W (h.below hb) (by omega))
  have hpl : i < n → 0 ≤ cAt l i ∧ cAt l i ≤ 127 ∧ cAt l i ≠ 34 := fun h' => hp.at_ (by rw [h.len]; exact h')
  have htq := hide (fun W (hb : Below w.heap.size w W) (h34 : cAt l i ≠ 34) => tq_no a n c true l i W (h.below hb) hn hi h34)
  obtain ⟨x, hx⟩ : ∃ x, x = cAt l i := ⟨_, rfl⟩
  have hX := hide hx
  rw [← hx] at hpl hN htq
  clear hx
  unfold src
  go_enter Try.func43, Try.ntmps43
  go_wp2_with fail
  obtain ⟨w1, hw1⟩ : ∃ w1, w1 = w.alloc (.cells #[.slice a n c, .bool true] 76) := ⟨_, rfl⟩
  rw [← hw1] at hsb ⊢
  clear hw1
  refine ((unhide hA) w1 (unhide hsb).bel i).mono ?_
  rintro e w2 ⟨rfl, b2⟩
  have hs2 := (unhide hsb).below b2
  rw [← unhide hX]
  have d0 := hs2.c0
  have d1 := hs2.c1
  by_cases hin : i = n
  · have hN2 := hide (show N = (0, i) from by rw [unhide hN, if_pos ⟨by rw [unhide hl]; exact hin, by first | rfl | trivial⟩])
    subst hin
    go_wp2_with fail
    go_ret3
    exact ⟨by rw [unhide hN2]; rfl, hs2.bel⟩
  · have hlt : i < n := by omega
    obtain ⟨x0, x1, x34⟩ := hpl hlt
    have ene : ((i : Int) == (n : Int)) = false := by simp; omega
    have hN1 := hide (show N = (if x = 46 then (if cAt l (i + 1) = 46 ∧ cAt l (i + 2) = 46 then (2, i + 3) else (1, i))
      else if puB x then (2, i + 1)
      else if nsB x then (3, nam l (i + 1))
      else if x = 45 ∨ mem.digB x then num l i
      else (1, i)) from by rw [unhide hN, if_neg (fun e => hin (by rw [e.1, unhide hl]))])
    have hnm := hide (fun W (hb : Below w.heap.size w W) => nam_ok a n c true l (i + 1) W (h.below hb) hn (by omega))
    have hnu := hide (fun W (hb : Below w.heap.size w W) => num_ok a n c true l i W (h.below hb) hn hi)
    clear hN hpl hin
    by_cases h46 : x = 46
    · subst h46
      have hN2 := hide (show N = (if cAt l (i + 1) = 46 ∧ cAt l (i + 2) = 46 then (2, i + 3) else (1, i)) from unhide hN1)
      clear hN1
      go_wp2_with fail
      rw [show ((i : Int) + 1) = ((i + 1 : Nat) : Int) by omega]
      refine ((unhide hA) _ hs2.bel (i + 1)).mono ?_
      rintro e w3 ⟨rfl, b3⟩
      have hs3 := hs2.below b3
      clear d0 d1
      have d0 := hs3.c0
      have d1 := hs3.c1
      obtain ⟨y, hy⟩ : ∃ y, y = cAt l (i + 1) := ⟨_, rfl⟩
      rw [← hy] at hN2 ⊢
      clear hy
      by_cases hy46 : y = 46
      · subst hy46
        go_wp2_with fail
        rw [show ((i : Int) + 2) = ((i + 2 : Nat) : Int) by omega]
        refine ((unhide hA) _ hs3.bel (i + 2)).mono ?_
        rintro e w4 ⟨rfl, b4⟩
        have hs4 := hs3.below b4
        obtain ⟨z, hz⟩ : ∃ z, z = cAt l (i + 2) := ⟨_, rfl⟩
        rw [← hz] at hN2 ⊢
        clear hz
        by_cases hz46 : z = 46
        · subst hz46
          have hN3 := hide (show N = (2, i + 3) from by rw [unhide hN2]; simp)
          go_wp2_with fail
          go_ret3
          exact ⟨by rw [unhide hN3]; go_num, hs4.bel⟩
        · have e46 : (z != 46) = true := by simpa using hz46
          have hN3 := hide (show N = (1, i) from by rw [unhide hN2, if_neg (fun e => hz46 e.2)])
          clear hz46
          go_wp2_with fail
          refine (bad_ok i _).mono ?_
          rintro e w5 ⟨rfl, rfl⟩
          go_wp2_with fail
          go_ret3
          exact ⟨by rw [unhide hN3]; rfl, hs4.bel⟩
      · have e46 : (y != 46) = true := by simpa using hy46
        have hN3 := hide (show N = (1, i) from by rw [unhide hN2, if_neg (fun e => hy46 e.1)])
        clear hy46
        go_wp2_with fail
        refine (bad_ok i _).mono ?_
        rintro e w5 ⟨rfl, rfl⟩
        go_wp2_with fail
        go_ret3
        exact ⟨by rw [unhide hN3]; rfl, hs3.bel⟩
    · have e46 : (x == 46) = false := by simpa using h46
      have hN2 := hide (show N = (if puB x then (2, i + 1)
        else if nsB x then (3, nam l (i + 1))
        else if x = 45 ∨ mem.digB x then num l i
        else (1, i)) from by rw [unhide hN1, if_neg h46])
      clear hN1 h46
      go_wp2_with fail
      refine (contains_ok x _ x0 x1).mono ?_
      rintro e w3 ⟨rfl, rfl⟩
      cases hpu : puB x
      · go_wp2_with fail
        refine (ns_ok x _).mono ?_
        rintro e w3 ⟨rfl, rfl⟩
        cases hns : nsB x
        · by_cases h45 : x = 45
          · subst h45
            have hN3 := hide (show N = num l i from by rw [unhide hN2]; simp [hpu, hns])
            clear hN2
            go_wp2_with fail
            refine ((unhide hnu) _ hs2.bel).mono ?_
            rintro e w3 ⟨rfl, b3⟩
            have hs3 := hs2.below b3
            go_wp2_with fail
            go_ret3
            exact ⟨by rw [unhide hN3]; rfl, hs3.bel⟩
          · have e45 : (x == 45) = false := by simpa using h45
            have H45 := hide h45
            clear h45
            go_wp2_with fail
            refine (digit_ok x _).mono ?_
            rintro e w3 ⟨rfl, rfl⟩
            cases hdg : mem.digB x
            · have hN3 := hide (show N = (1, i) from by rw [unhide hN2]; simp [hpu, hns, hdg, unhide H45])
              clear hN2
              go_wp2_with fail
              refine ((unhide htq) _ hs2.bel x34).mono ?_
              rintro e w3 ⟨rfl, b3⟩
              have hs3 := hs2.below b3
              have e34 : (x == 34) = false := by simpa using x34
              clear x34
              go_wp2_with fail
              refine (bad_ok i _).mono ?_
              rintro e w4 ⟨rfl, rfl⟩
              go_wp2_with fail
              go_ret3
              exact ⟨by rw [unhide hN3]; rfl, hs3.bel⟩
            · have hN3 := hide (show N = num l i from by rw [unhide hN2]; simp [hpu, hns, hdg])
              clear hN2
              go_wp2_with fail
              refine ((unhide hnu) _ hs2.bel).mono ?_
              rintro e w3 ⟨rfl, b3⟩
              have hs3 := hs2.below b3
              go_wp2_with fail
              go_ret3
              exact ⟨by rw [unhide hN3]; rfl, hs3.bel⟩
        · have hN3 := hide (show N = (3, nam l (i + 1)) from by rw [unhide hN2]; simp [hpu, hns])
          clear hN2
          go_wp2_with fail
          refine ((unhide hnm) _ hs2.bel).mono ?_
          rintro e w3 ⟨rfl, b3⟩
          have hs3 := hs2.below b3
          go_wp2_with fail
          go_ret3
          exact ⟨by rw [unhide hN3]; rfl, hs3.bel⟩
      · have hN3 := hide (show N = (2, i + 1) from by rw [unhide hN2]; simp [hpu])
        clear hN2
        go_wp2_with fail
        go_ret3
        exact ⟨by rw [unhide hN3]; go_num, hs2.bel⟩
end Go.Proofs.Ytfegalieiiaopab.lx
