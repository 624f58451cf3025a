import Derived.Test.YtfegalieiiaopabEncU
namespace Go.Proofs.Ytfegalieiiaopab.mem
open Go.ChangeShapes Go.WideShapes Go.ChangeAt Go.RowKit
open ints (hide unhide)
set_option linter.unusedVariables false

def oneQ (n : Nat) (b0 b1 b2 b3 : Int) : Int × Nat :=
  if 0 < n ∧ b0 < 128 then (b0, 1)
  else if 1 < n ∧ b0 / 32 = 6 ∧ b1 / 64 = 2 ∧ 128 ≤ b0 % 32 * 64 + b1 % 64 then (b0 % 32 * 64 + b1 % 64, 2)
  else if 2 < n ∧ b0 / 16 = 14 ∧ b1 / 64 = 2 ∧ b2 / 64 = 2 ∧ 2048 ≤ b0 % 16 * 4096 + b1 % 64 * 64 + b2 % 64 ∧ (b0 % 16 * 4096 + b1 % 64 * 64 + b2 % 64 ≤ 55295 ∨ 57344 ≤ b0 % 16 * 4096 + b1 % 64 * 64 + b2 % 64) then (b0 % 16 * 4096 + b1 % 64 * 64 + b2 % 64, 3)
  else if 3 < n ∧ b0 / 8 = 30 ∧ b1 / 64 = 2 ∧ b2 / 64 = 2 ∧ b3 / 64 = 2 ∧ 65536 ≤ b0 % 8 * 262144 + b1 % 64 * 4096 + b2 % 64 * 64 + b3 % 64 ∧ b0 % 8 * 262144 + b1 % 64 * 4096 + b2 % 64 * 64 + b3 % 64 ≤ 1114111 then (b0 % 8 * 262144 + b1 % 64 * 4096 + b2 % 64 * 64 + b3 % 64, 4)
  else (0, 0)
def oneL (l : List Int) : Int × Nat := oneQ l.length (l.getD 0 0) (l.getD 1 0) (l.getD 2 0) (l.getD 3 0)
def Byt (l : List Int) : Prop := ∀ z ∈ l, 0 ≤ z ∧ z ≤ 255

theorem byt_getD {l : List Int} (h : Byt l) (i : Nat) : 0 ≤ l.getD i 0 ∧ l.getD i 0 ≤ 255 := by
  by_cases hi : i < l.length
  · have := h (l.getD i 0) (by simp [List.getD, hi])
    exact this
  · simp [List.getD, List.getElem?_eq_none (show l.length ≤ i by omega)]
theorem byt_drop {l : List Int} (h : Byt l) (i : Nat) : Byt (l.drop i) := fun z hz => h z (List.mem_of_mem_drop hz)
theorem putB_byt {c : Int} (h : scP c) : Byt (putB c) := by
  intro z hz
  unfold scP at h
  unfold putB at hz
  repeat' split at hz
  all_goals simp at hz
  all_goals omega

/-- What is written is read. -/
theorem one_put (c : Int) (h : scP c) (r : List Int) : oneL (putB c ++ r) = (c, (putB c).length) := by
  unfold scP at h
  by_cases h1 : c < 128
  · rw [putB_1 h1]
    simp only [oneL, oneQ, List.cons_append, List.nil_append, List.length_cons, List.length_nil, List.getD_cons_zero]
    rw [if_pos (by omega)]
  by_cases h2 : c < 2048
  · rw [putB_2 (by omega) h2]
    simp only [oneL, oneQ, List.cons_append, List.nil_append, List.length_cons, List.length_nil, List.getD_cons_zero, List.getD_cons_succ]
    rw [if_neg (by omega), if_pos (by omega)]
    refine Prod.ext ?_ rfl
    show _ = c
    omega
  by_cases h3 : c < 65536
  · rw [putB_3 (by omega) h3]
    simp only [oneL, oneQ, List.cons_append, List.nil_append, List.length_cons, List.length_nil, List.getD_cons_zero, List.getD_cons_succ]
    rw [if_neg (by omega), if_neg (by omega), if_pos (by omega)]
    refine Prod.ext ?_ rfl
    show _ = c
    omega
  · rw [putB_4 (by omega)]
    simp only [oneL, oneQ, List.cons_append, List.nil_append, List.length_cons, List.length_nil, List.getD_cons_zero, List.getD_cons_succ]
    rw [if_neg (by omega), if_neg (by omega), if_neg (by omega), if_pos (by omega)]
    refine Prod.ext ?_ rfl
    show _ = c
    omega
/-- What is read was so written. -/
theorem one_back (l : List Int) (hb : Byt l) (h : (oneL l).2 ≠ 0) : scP (oneL l).1 ∧ l = putB (oneL l).1 ++ l.drop (oneL l).2 ∧ (oneL l).2 = (putB (oneL l).1).length := by
  have g0 := byt_getD hb 0
  have g1 := byt_getD hb 1
  have g2 := byt_getD hb 2
  have g3 := byt_getD hb 3
  match l, hb, h, g0, g1, g2, g3 with
  | [], _, h, _, _, _, _ => exact absurd rfl h
  | [b0], _, h, g0, _, _, _ =>
    simp only [List.getD_cons_zero] at g0
    by_cases c1 : b0 < 128
    · have e : oneL [b0] = (b0, 1) := by simp only [oneL, oneQ, List.length_cons, List.length_nil, List.getD_cons_zero]; rw [if_pos (by omega)]
      rw [e, putB_1 c1]
      exact ⟨by unfold scP; simp only; omega, rfl, rfl⟩
    · have e : oneL [b0] = (0, 0) := by
        simp only [oneL, oneQ, List.length_cons, List.length_nil, List.getD_cons_zero]
        rw [if_neg (by omega), if_neg (by omega), if_neg (by omega), if_neg (by omega)]
      rw [e] at h; exact absurd rfl h
  | [b0, b1], _, h, g0, g1, _, _ =>
    simp only [List.getD_cons_zero, List.getD_cons_succ] at g0 g1
    by_cases c1 : b0 < 128
    · have e : oneL [b0, b1] = (b0, 1) := by simp only [oneL, oneQ, List.length_cons, List.length_nil, List.getD_cons_zero]; rw [if_pos (by omega)]
      rw [e, putB_1 c1]
      exact ⟨by unfold scP; simp only; omega, rfl, rfl⟩
    by_cases c2 : b0 / 32 = 6 ∧ b1 / 64 = 2 ∧ 128 ≤ b0 % 32 * 64 + b1 % 64
    · have e : oneL [b0, b1] = (b0 % 32 * 64 + b1 % 64, 2) := by
        simp only [oneL, oneQ, List.length_cons, List.length_nil, List.getD_cons_zero, List.getD_cons_succ]; rw [if_neg (by omega), if_pos (by omega)]
      rw [e, putB_2 (by simp only; omega) (by simp only; omega)]
      refine ⟨by unfold scP; simp only; omega, ?_, rfl⟩
      simp
      omega
    · have e : oneL [b0, b1] = (0, 0) := by
        simp only [oneL, oneQ, List.length_cons, List.length_nil, List.getD_cons_zero, List.getD_cons_succ]
        rw [if_neg (by omega), if_neg (by omega), if_neg (by omega), if_neg (by omega)]
      rw [e] at h; exact absurd rfl h
  | [b0, b1, b2], _, h, g0, g1, g2, _ =>
    simp only [List.getD_cons_zero, List.getD_cons_succ] at g0 g1 g2
    by_cases c1 : b0 < 128
    · have e : oneL [b0, b1, b2] = (b0, 1) := by simp only [oneL, oneQ, List.length_cons, List.length_nil, List.getD_cons_zero]; rw [if_pos (by omega)]
      rw [e, putB_1 c1]
      exact ⟨by unfold scP; simp only; omega, rfl, rfl⟩
    by_cases c2 : b0 / 32 = 6 ∧ b1 / 64 = 2 ∧ 128 ≤ b0 % 32 * 64 + b1 % 64
    · have e : oneL [b0, b1, b2] = (b0 % 32 * 64 + b1 % 64, 2) := by
        simp only [oneL, oneQ, List.length_cons, List.length_nil, List.getD_cons_zero, List.getD_cons_succ]; rw [if_neg (by omega), if_pos (by omega)]
      rw [e, putB_2 (by simp only; omega) (by simp only; omega)]
      refine ⟨by unfold scP; simp only; omega, ?_, rfl⟩
      simp
      omega
    by_cases c3 : b0 / 16 = 14 ∧ b1 / 64 = 2 ∧ b2 / 64 = 2 ∧ 2048 ≤ b0 % 16 * 4096 + b1 % 64 * 64 + b2 % 64 ∧ (b0 % 16 * 4096 + b1 % 64 * 64 + b2 % 64 ≤ 55295 ∨ 57344 ≤ b0 % 16 * 4096 + b1 % 64 * 64 + b2 % 64)
    · have e : oneL [b0, b1, b2] = (b0 % 16 * 4096 + b1 % 64 * 64 + b2 % 64, 3) := by
        simp only [oneL, oneQ, List.length_cons, List.length_nil, List.getD_cons_zero, List.getD_cons_succ]; rw [if_neg (by omega), if_neg (by omega), if_pos (by omega)]
      rw [e, putB_3 (by simp only; omega) (by simp only; omega)]
      refine ⟨by unfold scP; simp only; omega, ?_, rfl⟩
      simp
      omega
    · have e : oneL [b0, b1, b2] = (0, 0) := by
        simp only [oneL, oneQ, List.length_cons, List.length_nil, List.getD_cons_zero, List.getD_cons_succ]
        rw [if_neg (by omega), if_neg (by omega), if_neg (by omega), if_neg (by omega)]
      rw [e] at h; exact absurd rfl h
  | b0 :: b1 :: b2 :: b3 :: r, _, h, g0, g1, g2, g3 =>
    simp only [List.getD_cons_zero, List.getD_cons_succ] at g0 g1 g2 g3
    by_cases c1 : b0 < 128
    · have e : oneL (b0 :: b1 :: b2 :: b3 :: r) = (b0, 1) := by simp only [oneL, oneQ, List.length_cons, List.getD_cons_zero]; rw [if_pos (by omega)]
      rw [e, putB_1 c1]
      exact ⟨by unfold scP; simp only; omega, rfl, rfl⟩
    by_cases c2 : b0 / 32 = 6 ∧ b1 / 64 = 2 ∧ 128 ≤ b0 % 32 * 64 + b1 % 64
    · have e : oneL (b0 :: b1 :: b2 :: b3 :: r) = (b0 % 32 * 64 + b1 % 64, 2) := by
        simp only [oneL, oneQ, List.length_cons, List.getD_cons_zero, List.getD_cons_succ]; rw [if_neg (by omega), if_pos (by omega)]
      rw [e, putB_2 (by simp only; omega) (by simp only; omega)]
      refine ⟨by unfold scP; simp only; omega, ?_, rfl⟩
      simp
      omega
    by_cases c3 : b0 / 16 = 14 ∧ b1 / 64 = 2 ∧ b2 / 64 = 2 ∧ 2048 ≤ b0 % 16 * 4096 + b1 % 64 * 64 + b2 % 64 ∧ (b0 % 16 * 4096 + b1 % 64 * 64 + b2 % 64 ≤ 55295 ∨ 57344 ≤ b0 % 16 * 4096 + b1 % 64 * 64 + b2 % 64)
    · have e : oneL (b0 :: b1 :: b2 :: b3 :: r) = (b0 % 16 * 4096 + b1 % 64 * 64 + b2 % 64, 3) := by
        simp only [oneL, oneQ, List.length_cons, List.getD_cons_zero, List.getD_cons_succ]; rw [if_neg (by omega), if_neg (by omega), if_pos (by omega)]
      rw [e, putB_3 (by simp only; omega) (by simp only; omega)]
      refine ⟨by unfold scP; simp only; omega, ?_, rfl⟩
      simp
      omega
    by_cases c4 : b0 / 8 = 30 ∧ b1 / 64 = 2 ∧ b2 / 64 = 2 ∧ b3 / 64 = 2 ∧ 65536 ≤ b0 % 8 * 262144 + b1 % 64 * 4096 + b2 % 64 * 64 + b3 % 64 ∧ b0 % 8 * 262144 + b1 % 64 * 4096 + b2 % 64 * 64 + b3 % 64 ≤ 1114111
    · have e : oneL (b0 :: b1 :: b2 :: b3 :: r) = (b0 % 8 * 262144 + b1 % 64 * 4096 + b2 % 64 * 64 + b3 % 64, 4) := by
        simp only [oneL, oneQ, List.length_cons, List.getD_cons_zero, List.getD_cons_succ]; rw [if_neg (by omega), if_neg (by omega), if_neg (by omega), if_pos (by omega)]
      rw [e, putB_4 (by simp only; omega)]
      refine ⟨by unfold scP; simp only; omega, ?_, rfl⟩
      simp
      omega
    · have e : oneL (b0 :: b1 :: b2 :: b3 :: r) = (0, 0) := by
        simp only [oneL, oneQ, List.length_cons, List.getD_cons_zero, List.getD_cons_succ]
        rw [if_neg (by omega), if_neg (by omega), if_neg (by omega), if_neg (by omega)]
      rw [e] at h; exact absurd rfl h

/-- Decoding: the characters and the length of the good beginning. -/
def decF : Nat → List Int → List Int × Nat
  | 0, _ => ([], 0)
  | f + 1, l => if (oneL l).2 = 0 then ([], 0) else ((oneL l).1 :: (decF f (l.drop (oneL l).2)).1, (oneL l).2 + (decF f (l.drop (oneL l).2)).2)
def decZ (l : List Int) : List Int × Nat := decF l.length l
theorem decF_end (f : Nat) (l : List Int) (h : (oneL l).2 = 0) : decF f l = ([], 0) := by
  cases f with
  | zero => rfl
  | succ f => simp [decF, h]
theorem decF_go (f : Nat) (l : List Int) (h : (oneL l).2 ≠ 0) : decF (f + 1) l = ((oneL l).1 :: (decF f (l.drop (oneL l).2)).1, (oneL l).2 + (decF f (l.drop (oneL l).2)).2) := by
  simp [decF, h]
theorem oneL_le (l : List Int) : (oneL l).2 ≤ l.length := by
  unfold oneL oneQ
  repeat' split
  all_goals simp only
  all_goals omega
theorem oneL_4 (l : List Int) : (oneL l).2 ≤ 4 := by
  unfold oneL oneQ
  repeat' split
  all_goals simp
theorem take_of (l p r : List Int) (k : Nat) (h : l = p ++ r) (hk : k = p.length) : l.take k = p := by subst h hk; simp
/-- What decoding answers: scalar values, written as the good beginning. -/
theorem decF_flat : ∀ (f : Nat) (l : List Int), Byt l → ((decF f l).1.flatMap putB = l.take (decF f l).2 ∧ (decF f l).2 ≤ l.length ∧ ((decF f l).1).all scB = true ∧ ((decF f l).1.flatMap putB).length = (decF f l).2)
  | 0, l, _ => by simp [decF]
  | f + 1, l, hb => by
    by_cases h : (oneL l).2 = 0
    · rw [decF_end _ _ h]; simp
    · rw [decF_go f l h]
      obtain ⟨h1, h2, h3⟩ := one_back l hb h
      obtain ⟨i1, i2, i3, i4⟩ := decF_flat f (l.drop (oneL l).2) (byt_drop hb _)
      have hle := oneL_le l
      simp only [List.flatMap_cons]
      refine ⟨?_, ?_, ?_, ?_⟩
      · rw [i1, List.take_add]
        rw [take_of l _ _ _ h2 h3]
      · simp at i2; omega
      · simp [i3, (scB_iff _).2 h1]
      · rw [List.length_append, i4, ← h3]
/-- ... and behind it no character stands. -/
theorem decF_stop : ∀ (f : Nat) (l : List Int), l.length ≤ f → (oneL (l.drop (decF f l).2)).2 = 0
  | 0, l, h => by
    have : l = [] := List.eq_nil_of_length_eq_zero (by omega)
    subst this; rfl
  | f + 1, l, h => by
    by_cases h0 : (oneL l).2 = 0
    · rw [decF_end _ _ h0]; simpa using h0
    · rw [decF_go f l h0]
      have := decF_stop f (l.drop (oneL l).2) (by simp; omega)
      rw [List.drop_drop] at this
      exact this
end Go.Proofs.Ytfegalieiiaopab.mem
