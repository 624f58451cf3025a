import Derived.Test.YtjlafneklcfgoabVlK
import Derived.Test.YtjlafneklcfgoabFlt
import Derived.Laws.Cover2
import Derived.Laws.FloatArith
namespace Go.Proofs.Ytjlafneklcfgoab.vl
open Go.ChangeShapes Go.WideShapes Go.ChangeAt Go.RowKit
open mem
set_option linter.unusedVariables false
def nanF (x : Nat) : Bool := decide (9218868437227405312 < x % 9223372036854775808)
theorem ordSelf (x : Nat) (h : x < 18446744073709551616) : (FloatKind.f64.format.order x x != some Ordering.eq) = nanF x ∧ (FloatKind.f64.format.order x x == some Ordering.eq) = !nanF x := by
  have key : (FloatKind.f64.format.order x x == some Ordering.eq) = !nanF x := by
    have hw := word_of x h
    obtain ⟨r, hr⟩ : ∃ r, r = x % 9223372036854775808 := ⟨_, rfl⟩
    obtain ⟨ng, hng⟩ : ∃ ng, ng = decide (9223372036854775808 ≤ x) := ⟨_, rfl⟩
    have hrl : r < 9223372036854775808 := by omega
    unfold nanF
    rw [← hr]
    rw [← hr, ← hng] at hw
    clear hr hng
    rw [← hw]
    show ((FloatKind.f64.decode _).order (FloatKind.f64.decode _) == some Ordering.eq) = _
    rcases Nat.lt_trichotomy r 9218868437227405312 with h1 | h1 | h1
    · rw [dec_fin ng r h1, order_fin, Int.compare_eq_eq.2 rfl, decide_eq_false (by omega)]; rfl
    · subst h1
      rw [dec_inf, decide_eq_false (by omega)]
      cases ng <;> rfl
    · obtain ⟨f, hf⟩ := dec_nan ng r h1 hrl
      rw [hf, decide_eq_true h1]; rfl
  refine ⟨?_, key⟩
  show (!(FloatKind.f64.format.order x x == some Ordering.eq)) = _
  rw [key]
  cases nanF x <;> rfl
theorem ordZero (x : Nat) (h : x < 18446744073709551616) (h0 : x % 9223372036854775808 ≠ 0) : (FloatKind.f64.format.order x 0 == some Ordering.eq) = false := by
  have hw := word_of x h
  obtain ⟨r, hr⟩ : ∃ r, r = x % 9223372036854775808 := ⟨_, rfl⟩
  obtain ⟨ng, hng⟩ : ∃ ng, ng = decide (9223372036854775808 ≤ x) := ⟨_, rfl⟩
  have hrl : r < 9223372036854775808 := by omega
  rw [← hr] at h0
  rw [← hr, ← hng] at hw
  clear hr hng
  rw [← hw]
  have hz : FloatKind.f64.decode 0 = .number false (mantR 0) ((exR 0 : Int) - 1074) := dec_fin false 0 (by omega)
  show ((FloatKind.f64.decode _).order (FloatKind.f64.decode 0) == some Ordering.eq) = _
  rw [hz]
  rcases Nat.lt_trichotomy r 9218868437227405312 with h1 | h1 | h1
  · rw [dec_fin ng r h1, order_fin]
    have hm : 0 < mantR r * 2 ^ exR r := Nat.mul_pos (by unfold mantR; split <;> (unfold b52 at *; omega)) (Nat.two_pow_pos _)
    have hm0 : mantR 0 * 2 ^ exR 0 = 0 := by simp [mantR, b52]
    rw [hm0]
    generalize mantR r * 2 ^ exR r = M at *
    have : compare (sv ng M) (sv false 0) ≠ Ordering.eq := fun e => by
      have := Int.compare_eq_eq.1 e
      cases ng <;> simp [sv] at this <;> omega
    simp [this]
  · subst h1
    rw [dec_inf]
    cases ng <;> rfl
  · obtain ⟨f, hf⟩ := dec_nan ng r h1 hrl
    rw [hf]; rfl
end Go.Proofs.Ytjlafneklcfgoab.vl
