import Derived.Test.YtjicabpeohpbpabDoorPth2
namespace Go.Proofs.YtjicabpeohpbpabDoor.stp
open Go.ChangeShapes Go.WideShapes Go.ChangeAt Go.RowKit
set_option linter.unusedVariables false
theorem cmpL_anti : ∀ a b : List UInt8, Lib.compareBytes b a = - Lib.compareBytes a b
  | [], [] => rfl
  | [], _ :: _ => rfl
  | _ :: _, [] => rfl
  | x :: a, y :: b => by
    have ih := cmpL_anti a b
    unfold Lib.compareBytes
    by_cases h1 : x < y
    · have h2 : ¬ y < x := fun h => UInt8.lt_irrefl _ (UInt8.lt_trans h1 h)
      simp [h1, h2]
    · by_cases h2 : y < x
      · simp [h1, h2]
      · simp [h1, h2, ih]
theorem cmpL_trans : ∀ a b c : List UInt8, Lib.compareBytes a b ≤ 0 → Lib.compareBytes b c ≤ 0 → Lib.compareBytes a c ≤ 0
  | [], _, [], _, _ => by simp [Lib.compareBytes]
  | [], _, _ :: _, _, _ => by simp [Lib.compareBytes]
  | _ :: _, [], _, h, _ => by simp [Lib.compareBytes] at h
  | _ :: _, _ :: _, [], _, h => by simp [Lib.compareBytes] at h
  | x :: a, y :: b, z :: c, h1, h2 => by
    have ih := cmpL_trans a b c
    unfold Lib.compareBytes at h1 h2 ⊢
    by_cases xy : x < y
    · by_cases yz : y < z
      · simp [UInt8.lt_trans xy yz]
      · by_cases zy : z < y
        · simp [yz, zy] at h2
        · have e : y = z := UInt8.le_antisymm (UInt8.not_lt.1 zy) (UInt8.not_lt.1 yz)
          subst e
          simp [xy]
    · by_cases yx : y < x
      · simp [xy, yx] at h1
      · have e : x = y := UInt8.le_antisymm (UInt8.not_lt.1 yx) (UInt8.not_lt.1 xy)
        subst e
        by_cases yz : x < z
        · simp [yz]
        · by_cases zy : z < x
          · simp [yz, zy] at h2
          · simp [yz, zy, xy] at h1 h2 ⊢
            exact ih h1 h2
theorem c3_anti (x y : Int) : c3 y x = - c3 x y := by
  rcases Int.lt_trichotomy x y with h | h | h
  · rw [c3_lt h, c3_gt h]; rfl
  · simp [c3_eq h, c3_eq h.symm]
  · rw [c3_gt h, c3_lt h]
theorem cS_anti (a b : St) : cS b a = - cS a b := by
  unfold cS
  cases a.it <;> cases b.it <;> simp
  · exact cmpL_anti _ _
  · exact c3_anti _ _
theorem c3_trans {x y z : Int} (h1 : c3 x y ≤ 0) (h2 : c3 y z ≤ 0) : c3 x z ≤ 0 := by
  rcases Int.lt_trichotomy x y with h | h | h
  · rcases Int.lt_trichotomy y z with k | k | k
    · rw [c3_lt (by omega)]; decide
    · rw [c3_lt (by omega)]; decide
    · rw [c3_gt k] at h2; exact absurd h2 (by decide)
  · subst h; exact h2
  · rw [c3_gt h] at h1; exact absurd h1 (by decide)
theorem cS_trans {a b c : St} (h1 : cS a b ≤ 0) (h2 : cS b c ≤ 0) : cS a c ≤ 0 := by
  unfold cS at *
  revert h1 h2
  cases a.it <;> cases b.it <;> cases c.it <;> simp
  · exact cmpL_trans _ _ _
  · exact c3_trans
theorem cS_zero {a b c : St} (h : cS a b = 0) : cS a c = cS b c := by
  have h' : cS b a = 0 := by rw [cS_anti, h]; rfl
  have k1 : cS b c ≤ 0 → cS a c ≤ 0 := fun k => cS_trans (by omega) k
  have k2 : cS a c ≤ 0 → cS b c ≤ 0 := fun k => cS_trans (by omega) k
  have k3 : cS c b ≤ 0 → cS c a ≤ 0 := fun k => cS_trans k (by omega)
  have k4 : cS c a ≤ 0 → cS c b ≤ 0 := fun k => cS_trans k (by omega)
  rw [cS_anti b c, cS_anti a c] at k3 k4
  rcases cS_tri a c with e | e | e <;> rcases cS_tri b c with f | f | f <;> omega
theorem lex_anti : ∀ a b : List St, lexS b a = - lexS a b
  | [], [] => rfl
  | [], _ :: _ => rfl
  | _ :: _, [] => rfl
  | s :: a, t :: b => by
    have ih := lex_anti a b
    have e := cS_anti s t
    unfold lexS
    by_cases h : cS s t = 0
    · rw [if_pos h, if_pos (by rw [e, h]; rfl)]
      exact ih
    · rw [if_neg h, if_neg (by omega)]
      exact e
theorem lex_tri : ∀ a b : List St, lexS a b = -1 ∨ lexS a b = 0 ∨ lexS a b = 1
  | [], [] => by simp [lexS]
  | [], _ :: _ => by simp [lexS]
  | _ :: _, [] => by simp [lexS]
  | s :: a, t :: b => by
    unfold lexS
    split
    · exact lex_tri a b
    · exact cS_tri s t
theorem lex_trans : ∀ a b c : List St, lexS a b ≤ 0 → lexS b c ≤ 0 → lexS a c ≤ 0
  | [], _, [], _, _ => by simp [lexS]
  | [], _, _ :: _, _, _ => by simp [lexS]
  | _ :: _, [], _, h, _ => by simp [lexS] at h
  | _ :: _, _ :: _, [], _, h => by simp [lexS] at h
  | s :: a, t :: b, u :: c, h1, h2 => by
    have ih := lex_trans a b c
    unfold lexS at h1 h2 ⊢
    by_cases e1 : cS s t = 0
    · rw [if_pos e1] at h1
      rw [cS_zero e1]
      by_cases e2 : cS t u = 0
      · rw [if_pos e2] at h2 ⊢
        exact ih h1 h2
      · rw [if_neg e2] at h2 ⊢
        exact h2
    · rw [if_neg e1] at h1
      by_cases e2 : cS t u = 0
      · have e3 : cS s u = cS s t := by
          have := cS_zero (c := s) e2
          rw [cS_anti s t, cS_anti s u] at this
          omega
        rw [e3, if_neg e1]
        exact h1
      · rw [if_neg e2] at h2
        have := cS_trans h1 h2
        have e3 : cS s u ≠ 0 := by
          intro e
          have hz := cS_zero (c := t) e
          rw [cS_anti t u] at hz
          omega
        rw [if_neg e3]
        exact this
theorem lex_zero {a b : List St} (h : lexS a b = 0) (c : List St) : lexS a c = lexS b c := by
  have h' : lexS b a = 0 := by rw [lex_anti, h]; rfl
  have k1 : lexS b c ≤ 0 → lexS a c ≤ 0 := fun k => lex_trans a b c (by omega) k
  have k2 : lexS a c ≤ 0 → lexS b c ≤ 0 := fun k => lex_trans b a c (by omega) k
  have k3 : lexS c b ≤ 0 → lexS c a ≤ 0 := fun k => lex_trans c b a k (by omega)
  have k4 : lexS c a ≤ 0 → lexS c b ≤ 0 := fun k => lex_trans c a b k (by omega)
  rw [lex_anti b c, lex_anti a c] at k3 k4
  rcases lex_tri a c with e | e | e <;> rcases lex_tri b c with f | f | f <;> omega
theorem lex_und : ∀ {a b : List St}, undS a b = true → 0 ≤ lexS a b
  | _, [], _ => by rename_i a _; cases a <;> simp [lexS]
  | [], t :: b, h => by simp [undS] at h
  | s :: a, t :: b, h => by
    rw [und_cons, Bool.and_eq_true, beq_iff_eq] at h
    unfold lexS
    rw [if_pos h.1]
    exact lex_und h.2
end Go.Proofs.YtjicabpeohpbpabDoor.stp
