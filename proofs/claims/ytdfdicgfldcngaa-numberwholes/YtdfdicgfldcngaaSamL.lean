import Derived.Test.YtdfdicgfldcngaaWhL
namespace Go.Proofs.Ytdfdicgfldcngaa.mem
open Go.ChangeShapes Go.WideShapes Go.ChangeAt Go.RowKit
open ints (hide unhide)
set_option linter.unusedVariables false

def nanB (x : Nat) : Bool := decide (9218868437227405312 < x % 9223372036854775808)
def sameB (a b : Nat) : Bool := (a == b) || (nanB a && nanB b)
theorem order_self (x : Nat) (h : x < 18446744073709551616) : (FloatKind.f64.format.order x x != some Ordering.eq) = nanB x := by
  have hw := word_of x h
  obtain ⟨r, hr⟩ : ∃ r, r = x % 9223372036854775808 := ⟨_, rfl⟩
  obtain ⟨ng, hng⟩ : ∃ ng, ng = decide (9223372036854775808 ≤ x) := ⟨_, rfl⟩
  have hrl : r < 9223372036854775808 := by omega
  unfold nanB
  rw [← hr]
  rw [← hr, ← hng] at hw
  clear hr hng
  rw [← hw]
  show ((FloatKind.f64.decode _).order (FloatKind.f64.decode _) != some Ordering.eq) = _
  rcases Nat.lt_trichotomy r 9218868437227405312 with h1 | h1 | h1
  · rw [dec_fin ng r h1, order_fin, Int.compare_eq_eq.2 rfl, decide_eq_false (by omega)]; rfl
  · subst h1
    rw [dec_inf, decide_eq_false (by omega)]
    cases ng <;> rfl
  · obtain ⟨f, hf⟩ := dec_nan ng r h1 hrl
    rw [hf, decide_eq_true h1]; rfl
theorem isNaN_any (x : Nat) (w : World) (h : x < 18446744073709551616) : Calls Try.prog 29 #[.float .f64 x] w fun e w' => e = .returned (.bool (nanB x)) ∧ w' = w := by
  have ho := order_self x h
  generalize nanB x = N at *
  go_enter Try.func29, Try.ntmps29
  go_wp2
  go_ret
  exact ⟨by first | rfl | (rw [← ho]; rfl), rfl⟩
theorem same_any (a b : Nat) (w : World) (ha : a < 18446744073709551616) (hb : b < 18446744073709551616) : Calls Try.prog 10 #[.float .f64 a, .float .f64 b] w fun e w' => e = .returned (.bool (sameB a b)) ∧ w' = w := by
  have NA := hide (fun W => isNaN_any a W ha)
  have NB := hide (fun W => isNaN_any b W hb)
  have T1 := run_tobits a w
  have T2 := run_tobits b w
  have HS := hide (show sameB a b = ((a == b) || (nanB a && nanB b)) from rfl)
  have HE := hide (show (a == b) = true → nanB a = nanB b from fun h => by rw [eq_of_beq h])
  generalize nanB a = A at *
  generalize nanB b = B at *
  cases A
  · cases B
    · have hi : (((a : Nat) : Int) == ((b : Nat) : Int)) = (a == b) := by
        by_cases h : a = b
        · subst h; simp
        · have h2 : ((a : Int) == (b : Int)) = false := by simp; omega
          rw [h2]; simp [h]
      cases hab : (a == b)
      all_goals
        rw [hab] at hi HS HE
        clear hab
        go_enter Try.func10, Try.ntmps10
        go_wp2_with fail
        refine (unhide NA _).mono ?_
        rintro e w1 ⟨rfl, rfl⟩
        go_wp2_with fail
        refine (unhide NB _).mono ?_
        rintro e w2 ⟨rfl, rfl⟩
        go_wp2
        go_ret
        exact ⟨by rw [unhide HS]; rfl, rfl⟩
    · have hab : (a == b) = false := by
        cases h : (a == b)
        · rfl
        · have := unhide HE h; cases this
      rw [hab] at HS
      clear hab HE
      go_enter Try.func10, Try.ntmps10
      go_wp2_with fail
      refine (unhide NA _).mono ?_
      rintro e w1 ⟨rfl, rfl⟩
      go_wp2_with fail
      refine (unhide NB _).mono ?_
      rintro e w2 ⟨rfl, rfl⟩
      go_wp2_with fail
      refine (unhide NA _).mono ?_
      rintro e w3 ⟨rfl, rfl⟩
      go_wp2
      go_ret
      exact ⟨by rw [unhide HS]; rfl, rfl⟩
  · cases B
    · have hab : (a == b) = false := by
        cases h : (a == b)
        · rfl
        · have := unhide HE h; cases this
      rw [hab] at HS
      clear hab HE
      go_enter Try.func10, Try.ntmps10
      go_wp2_with fail
      refine (unhide NA _).mono ?_
      rintro e w1 ⟨rfl, rfl⟩
      go_wp2_with fail
      refine (unhide NA _).mono ?_
      rintro e w2 ⟨rfl, rfl⟩
      go_wp2_with fail
      refine (unhide NB _).mono ?_
      rintro e w3 ⟨rfl, rfl⟩
      go_wp2
      go_ret
      exact ⟨by rw [unhide HS]; rfl, rfl⟩
    · have HT := hide (show sameB a b = true from by rw [unhide HS]; simp)
      clear HE HS
      go_enter Try.func10, Try.ntmps10
      go_wp2_with fail
      refine (unhide NA _).mono ?_
      rintro e w1 ⟨rfl, rfl⟩
      go_wp2_with fail
      refine (unhide NA _).mono ?_
      rintro e w2 ⟨rfl, rfl⟩
      go_wp2_with fail
      refine (unhide NB _).mono ?_
      rintro e w3 ⟨rfl, rfl⟩
      go_wp2
      go_ret
      exact ⟨by rw [unhide HT]; rfl, rfl⟩
theorem nan_any (b : Nat) (w : World) (h : b < 18446744073709551616) : Calls Try.prog 31 #[.int .u64 (b : Int)] w fun e w' => e = .returned (.bool (nanB b)) ∧ w' = w := by
  have e2 := andNotSign b h
  have hd := hide (show decide ((9218868437227405312 : Int) < ((b % 9223372036854775808 : Nat) : Int)) = nanB b from decide_eq_decide.2 (by omega))
  generalize b % 9223372036854775808 = r at *
  generalize nanB b = N at *
  go_enter Try.func31, Try.ntmps31
  go_wp2
  go_ret
  exact ⟨by rw [← unhide hd]; rfl, rfl⟩
theorem sameBits_any (a b : Nat) (w : World) (ha : a < 18446744073709551616) (hb : b < 18446744073709551616) : Calls Try.prog 13 #[.int .u64 (a : Int), .int .u64 (b : Int)] w fun e w' => e = .returned (.bool (sameB a b)) ∧ w' = w := by
  have NA := hide (fun W => nan_any a W ha)
  have NB := hide (fun W => nan_any b W hb)
  have HS := hide (show sameB a b = ((a == b) || (nanB a && nanB b)) from rfl)
  have hi : (((a : Nat) : Int) == ((b : Nat) : Int)) = (a == b) := by
    by_cases h : a = b
    · subst h; simp
    · have h2 : ((a : Int) == (b : Int)) = false := by simp; omega
      rw [h2]; simp [h]
  clear ha hb
  cases hab : (a == b)
  · rw [hab] at hi HS
    clear hab
    cases hA : nanB a
    · rw [hA] at NA HS
      clear hA
      go_enter Try.func13, Try.ntmps13
      go_wp2_with fail
      refine (unhide NA _).mono ?_
      rintro e w1 ⟨rfl, rfl⟩
      go_wp2
      go_ret
      exact ⟨by rw [unhide HS]; rfl, rfl⟩
    · rw [hA] at NA HS
      clear hA
      cases hB : nanB b
      all_goals
        rw [hB] at NB HS
        clear hB
        go_enter Try.func13, Try.ntmps13
        go_wp2_with fail
        refine (unhide NA _).mono ?_
        rintro e w1 ⟨rfl, rfl⟩
        go_wp2_with fail
        refine (unhide NB _).mono ?_
        rintro e w2 ⟨rfl, rfl⟩
        go_wp2
        go_ret
        exact ⟨by rw [unhide HS]; rfl, rfl⟩
  · rw [hab] at hi
    have HT := hide (show sameB a b = true from by rw [unhide HS, hab]; simp)
    clear hab HS
    go_enter Try.func13, Try.ntmps13
    go_wp2
    go_ret
    exact ⟨by rw [unhide HT]; rfl, rfl⟩
def fitB (n : Int) : Bool := decide (-2147483648 ≤ n) && decide (n ≤ 2147483647)
theorem fits_any (n : Int) (w : World) : Calls Try.prog 9 #[.int .i64 n] w fun e w' => e = .returned (.bool (fitB n)) ∧ w' = w := by
  have HF := hide (show fitB n = (decide (-2147483648 ≤ n) && decide (n ≤ 2147483647)) from rfl)
  by_cases h1 : -2147483648 ≤ n
  · by_cases h2 : n ≤ 2147483647
    all_goals
      go_enter Try.func9, Try.ntmps9
      go_wp2
      go_ret
      exact ⟨by rw [unhide HF]; simp [h1, h2], rfl⟩
  · go_enter Try.func9, Try.ntmps9
    go_wp2
    go_ret
    exact ⟨by rw [unhide HF]; simp; omega, rfl⟩
theorem refFits_any (n : Int) (w : World) : Calls Try.prog 16 #[.int .i64 n] w fun e w' => e = .returned (.bool (fitB n)) ∧ w' = w := by
  have HF := hide (show fitB n = (decide (-2147483648 ≤ n) && decide (n ≤ 2147483647)) from rfl)
  by_cases h1 : -2147483648 ≤ n
  · by_cases h2 : n ≤ 2147483647
    all_goals
      go_enter Try.func16, Try.ntmps16
      go_wp2
      go_ret
      exact ⟨by rw [unhide HF]; simp [h1, h2], rfl⟩
  · go_enter Try.func16, Try.ntmps16
    go_wp2
    go_ret
    exact ⟨by rw [unhide HF]; simp; omega, rfl⟩
end Go.Proofs.Ytdfdicgfldcngaa.mem
