import Derived.Test.YtechaplindbfoaaGreatDoorJsa3
namespace Go.Proofs.YtechaplindbfoaaGreatDoor.og
open Go.ChangeShapes Go.WideShapes Go.ChangeAt Go.RowKit
open vl hiding cB cFl cS cF cI cK cIt
open stp (c3 c3_lt c3_gt c3_eq cB cB_tri)
set_option linter.unusedVariables false
set_option linter.unusedSimpArgs false
theorem run_tobits (x : Nat) (w : World) : (callFunc 88 #[.float .f64 x]).run Tryz.prog w = .ok (.value (.int .u64 x)) w := by
  rw [run_callFunc_extern (e := Extern.MathFloatBits.float64bits) Tryz.func88 (by kernel_rfl) (by kernel_rfl) (by kernel_rfl) (by kernel_rfl)]
  rfl
theorem isNaN_any (x : Nat) (w : World) (h : x < 18446744073709551616) : Calls Tryz.prog 78 #[.float .f64 x] w fun e w' => e = .returned (.bool (nanF x)) ∧ w = w' := by
  have ho := (ordSelf x h).1
  generalize nanF x = N at *
  go_enter Tryz.func78, Tryz.ntmps78
  go_wp2
  go_ret
  exact ⟨by first | rfl | (rw [← ho]; rfl), rfl⟩
theorem cnan_any (x : Nat) (w : World) (h : x < 18446744073709551616) : Calls Tryz.prog 95 #[.float .f64 x] w fun e w' => e = .returned (.bool (nanF x)) ∧ w = w' := by
  have ho := (ordSelf x h).1
  generalize nanF x = N at *
  go_enter Tryz.func95, Tryz.ntmps95
  go_wp2
  go_ret
  exact ⟨by first | rfl | (rw [← ho]; rfl), rfl⟩
theorem sameF_ok (a b : Nat) (w : World) (ha : a < 18446744073709551616) (hb : b < 18446744073709551616) : Calls Tryz.prog 74 #[.float .f64 a, .float .f64 b] w fun e w' => e = .returned (.bool (sameF a b)) ∧ w = w' := by
  have NA := hide (fun W => isNaN_any a W ha)
  have NB := hide (fun W => isNaN_any b W hb)
  have T1 := run_tobits a w
  have T2 := run_tobits b w
  have HS := hide (show sameF a b = ((a == b) || (nanF a && nanF b)) from rfl)
  have HE := hide (show (a == b) = true → nanF a = nanF b from fun h => by rw [eq_of_beq h])
  generalize nanF a = A at *
  generalize nanF b = B at *
  cases A
  · cases B
    · have hi : (((a : Nat) : Int) == ((b : Nat) : Int)) = (a == b) := by
        by_cases h : a = b
        · subst h; simp
        · have h2 : ((a : Int) == (b : Int)) = false := by simp; omega
          rw [h2]; simp [h]
      cases hab : (a == b)
      all_goals
        rw [hab] at hi HS HE
        clear hab
        go_enter Tryz.func74, Tryz.ntmps74
        go_wp2_with fail
        refine (unhide NA _).mono ?_
        rintro e w1 ⟨rfl, rfl⟩
        go_wp2_with fail
        refine (unhide NB _).mono ?_
        rintro e w2 ⟨rfl, rfl⟩
        go_wp2
        go_ret
        exact ⟨by rw [unhide HS]; rfl, rfl⟩
    · have hab : (a == b) = false := by
        cases h : (a == b)
        · rfl
        · have := unhide HE h; cases this
      rw [hab] at HS
      clear hab HE
      go_enter Tryz.func74, Tryz.ntmps74
      go_wp2_with fail
      refine (unhide NA _).mono ?_
      rintro e w1 ⟨rfl, rfl⟩
      go_wp2_with fail
      refine (unhide NB _).mono ?_
      rintro e w2 ⟨rfl, rfl⟩
      go_wp2_with fail
      refine (unhide NA _).mono ?_
      rintro e w3 ⟨rfl, rfl⟩
      go_wp2
      go_ret
      exact ⟨by rw [unhide HS]; rfl, rfl⟩
  · cases B
    · have hab : (a == b) = false := by
        cases h : (a == b)
        · rfl
        · have := unhide HE h; cases this
      rw [hab] at HS
      clear hab HE
      go_enter Tryz.func74, Tryz.ntmps74
      go_wp2_with fail
      refine (unhide NA _).mono ?_
      rintro e w1 ⟨rfl, rfl⟩
      go_wp2_with fail
      refine (unhide NA _).mono ?_
      rintro e w2 ⟨rfl, rfl⟩
      go_wp2_with fail
      refine (unhide NB _).mono ?_
      rintro e w3 ⟨rfl, rfl⟩
      go_wp2
      go_ret
      exact ⟨by rw [unhide HS]; rfl, rfl⟩
    · have HT := hide (show sameF a b = true from by rw [unhide HS]; simp)
      clear HE HS
      go_enter Tryz.func74, Tryz.ntmps74
      go_wp2_with fail
      refine (unhide NA _).mono ?_
      rintro e w1 ⟨rfl, rfl⟩
      go_wp2_with fail
      refine (unhide NA _).mono ?_
      rintro e w2 ⟨rfl, rfl⟩
      go_wp2_with fail
      refine (unhide NB _).mono ?_
      rintro e w3 ⟨rfl, rfl⟩
      go_wp2
      go_ret
      exact ⟨by rw [unhide HT]; rfl, rfl⟩
theorem cmpF_ok (a b : Nat) (w : World) (ha : a < 18446744073709551616) (hb : b < 18446744073709551616) : Calls Tryz.prog 75 #[.float .f64 a, .float .f64 b] w fun e w' => e = .returned (.int .i64 (cmpF a b)) ∧ w = w' := by
  have NA := hide (fun W => cnan_any a W ha)
  have NB := hide (fun W => cnan_any b W hb)
  have HC := hide (show cmpF a b = (if nanF a = true then (if nanF b = true then 0 else -1) else if nanF b = true then 1 else if (FloatKind.f64.format.order a b == some Ordering.lt) = true then -1 else if (FloatKind.f64.format.order a b == some Ordering.gt) = true then 1 else 0) from rfl)
  generalize cmpF a b = C at *
  generalize nanF a = A at *
  generalize nanF b = B at *
  clear ha hb
  cases A
  · cases B
    · cases hl : (FloatKind.f64.format.order a b == some Ordering.lt)
      · cases hg : (FloatKind.f64.format.order a b == some Ordering.gt)
        · have HC := hide ((unhide HC).trans (show _ = (0 : Int) by rw [hl, hg]; rfl))
          go_enter Tryz.func75, Tryz.ntmps75
          go_wp2_with fail
          refine (unhide NA _).mono ?_
          rintro e w1 ⟨rfl, rfl⟩
          go_wp2_with fail
          refine (unhide NB _).mono ?_
          rintro e w2 ⟨rfl, rfl⟩
          go_wp2
          go_ret
          exact ⟨by rw [unhide HC]; rfl, rfl⟩
        · have HC := hide ((unhide HC).trans (show _ = (1 : Int) by rw [hl, hg]; rfl))
          go_enter Tryz.func75, Tryz.ntmps75
          go_wp2_with fail
          refine (unhide NA _).mono ?_
          rintro e w1 ⟨rfl, rfl⟩
          go_wp2_with fail
          refine (unhide NB _).mono ?_
          rintro e w2 ⟨rfl, rfl⟩
          go_wp2
          go_ret
          exact ⟨by rw [unhide HC]; rfl, rfl⟩
      · have HC := hide ((unhide HC).trans (show _ = (-1 : Int) by rw [hl]; rfl))
        go_enter Tryz.func75, Tryz.ntmps75
        go_wp2_with fail
        refine (unhide NA _).mono ?_
        rintro e w1 ⟨rfl, rfl⟩
        go_wp2_with fail
        refine (unhide NB _).mono ?_
        rintro e w2 ⟨rfl, rfl⟩
        go_wp2
        go_ret
        exact ⟨by rw [unhide HC]; rfl, rfl⟩
    · have HC := hide ((unhide HC).trans (show _ = (1 : Int) from rfl))
      go_enter Tryz.func75, Tryz.ntmps75
      go_wp2_with fail
      refine (unhide NA _).mono ?_
      rintro e w1 ⟨rfl, rfl⟩
      go_wp2_with fail
      refine (unhide NB _).mono ?_
      rintro e w2 ⟨rfl, rfl⟩
      go_wp2
      go_ret
      exact ⟨by rw [unhide HC]; rfl, rfl⟩
  · cases B
    · have HC := hide ((unhide HC).trans (show _ = (-1 : Int) from rfl))
      go_enter Tryz.func75, Tryz.ntmps75
      go_wp2_with fail
      refine (unhide NA _).mono ?_
      rintro e w1 ⟨rfl, rfl⟩
      go_wp2_with fail
      refine (unhide NB _).mono ?_
      rintro e w2 ⟨rfl, rfl⟩
      go_wp2
      go_ret
      exact ⟨by rw [unhide HC]; rfl, rfl⟩
    · have HC := hide ((unhide HC).trans (show _ = (0 : Int) from rfl))
      go_enter Tryz.func75, Tryz.ntmps75
      go_wp2_with fail
      refine (unhide NA _).mono ?_
      rintro e w1 ⟨rfl, rfl⟩
      go_wp2_with fail
      refine (unhide NB _).mono ?_
      rintro e w2 ⟨rfl, rfl⟩
      go_wp2
      go_ret
      exact ⟨by rw [unhide HC]; rfl, rfl⟩
theorem i64_of (x : Nat) (h : x < 18446744073709551616) : decide (wrap64 (x : Int) < 0) = sgn x := by
  unfold sgn
  by_cases h1 : 9223372036854775808 ≤ x
  · rw [decide_eq_true h1]
    have : wrap64 (x : Int) = x - 18446744073709551616 := by unfold wrap64; omega
    rw [this]
    simp
    omega
  · rw [decide_eq_false h1]
    have : wrap64 (x : Int) = x := by unfold wrap64; omega
    rw [this]
    simp
theorem sgn_ok (x : Nat) (w : World) (h : x < 18446744073709551616) : Calls Tryz.prog 76 #[.float .f64 x] w fun e w' => e = .returned (.bool (sgn x)) ∧ w = w' := by
  have T1 := run_tobits x w
  have hs := i64_of x h
  generalize sgn x = S at *
  go_enter Tryz.func76, Tryz.ntmps76
  go_wp2
  go_ret
  exact ⟨by first | rfl | (rw [← hs]; rfl), rfl⟩
theorem floats_ok (a b : Nat) (w : World) (ha : a < 18446744073709551616) (hb : b < 18446744073709551616) : Calls Tryz.prog 50 #[.float .f64 a, .float .f64 b] w fun e w' => e = .returned (.int .i64 (cFl a b)) ∧ w = w' := by
  have HS := hide (fun W => sameF_ok a b W ha hb)
  have HC := hide (fun W => cmpF_ok a b W ha hb)
  have H1 := hide (fun W => sgn_ok b W hb)
  have H2 := hide (fun W => sgn_ok a W ha)
  have HR := hide (show cFl a b = (if sameF a b = true then 0 else if cmpF a b = 0 then cBo (sgn b) (sgn a) else cmpF a b) from rfl)
  generalize cFl a b = R at *
  generalize sgn a = sa at *
  generalize sgn b = sb at *
  generalize sameF a b = S at *
  generalize cmpF a b = C at *
  clear ha hb
  cases S
  · by_cases hc : C = 0
    · have HR := hide ((unhide HR).trans (show _ = cBo sb sa by rw [if_neg (by simp), if_pos hc]))
      subst hc
      go_enter Tryz.func50, Tryz.ntmps50
      go_wp2_with fail
      refine (unhide HS _).mono ?_
      rintro e w1 ⟨rfl, rfl⟩
      go_wp2_with fail
      refine (unhide HC _).mono ?_
      rintro e w1 ⟨rfl, rfl⟩
      go_wp2_with fail
      refine (unhide H1 _).mono ?_
      rintro e w1 ⟨rfl, rfl⟩
      go_wp2_with fail
      refine (unhide H2 _).mono ?_
      rintro e w1 ⟨rfl, rfl⟩
      go_wp2_with fail
      refine (bools_ok sb sa _).mono ?_
      rintro e w1 ⟨rfl, rfl⟩
      go_wp2
      go_ret
      exact ⟨by rw [unhide HR]; rfl, rfl⟩
    · have HR := hide ((unhide HR).trans (show _ = C by rw [if_neg (by simp), if_neg hc]))
      go_enter Tryz.func50, Tryz.ntmps50
      go_wp2_with fail
      refine (unhide HS _).mono ?_
      rintro e w1 ⟨rfl, rfl⟩
      go_wp2_with fail
      refine (unhide HC _).mono ?_
      rintro e w1 ⟨rfl, rfl⟩
      go_wp2
      go_ret
      exact ⟨by rw [unhide HR]; rfl, rfl⟩
  · have HR := hide ((unhide HR).trans (show _ = (0 : Int) by rw [if_pos rfl]))
    go_enter Tryz.func50, Tryz.ntmps50
    go_wp2_with fail
    refine (unhide HS _).mono ?_
    rintro e w1 ⟨rfl, rfl⟩
    go_wp2
    go_ret
    exact ⟨by rw [unhide HR]; rfl, rfl⟩
end Go.Proofs.YtechaplindbfoaaGreatDoor.og
