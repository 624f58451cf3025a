import Derived.Test.YtcehhkjlbhodeaaDoorSv1
import Derived.Test.YtcehhkjlbhodeaaDoorLin
namespace Go.Proofs.YtcehhkjlbhodeaaDoor.sv
open mem
set_option linter.unusedVariables false

/-- Stage 1's lines are these lines. -/
theorem lns_cr : ∀ (x r : List Int), flat x → r.head? ≠ some 10 → lns (x ++ 13 :: r) = x :: lns r
  | [], r, _, h => by simp [lns, h]
  | c :: x, r, h, hr => by
    have hc := h c (by simp)
    rw [List.cons_append, lns, if_neg hc.1, if_neg hc.2, lns_cr x r (flat_tail h) hr]
    rfl
theorem lns_crlf : ∀ (x r : List Int), flat x → lns (x ++ 13 :: 10 :: r) = x :: lns r
  | [], r, _ => by simp [lns]
  | c :: x, r, h => by
    have hc := h c (by simp)
    rw [List.cons_append, lns, if_neg hc.1, if_neg hc.2, lns_crlf x r (flat_tail h)]
    rfl
theorem noEnd (l : List Int) (k : Nat) : ∀ j, (linesTo l k).2 ≤ j → j < k → enB l j = false := by
  induction k with
  | zero => intro j _ h; omega
  | succ k ih =>
    intro j h1 h2
    rw [linesTo] at h1
    cases he : enB l k
    · rw [he] at h1
      simp only [Bool.false_eq_true, if_false] at h1
      by_cases e : j = k
      · rw [e]; exact he
      · exact ih j h1 (by omega)
    · rw [he] at h1
      simp only [if_true] at h1
      omega
theorem getD_drop (l : List Int) (a i : Nat) : (l.drop a).getD i 0 = l.getD (a + i) 0 := by simp [List.getD]
theorem mem_cut {l : List Int} {a b : Nat} {c : Int} (h : c ∈ cut l a b) : ∃ j, a ≤ j ∧ j < b ∧ j < l.length ∧ l.getD j 0 = c := by
  obtain ⟨i, hi, e⟩ := List.mem_iff_getElem.1 h
  have hi2 : i < b - a ∧ a + i < l.length := by simp [cut] at hi; omega
  refine ⟨a + i, by omega, by omega, hi2.2, ?_⟩
  rw [← e]
  simp [cut, List.getD, hi2.2]
theorem cut_flat (l : List Int) (k : Nat) (hk : k ≤ l.length) : flat (cut l (linesTo l k).2 (toOf l k)) := by
  intro c hc
  obtain ⟨j, h1, h2, h3, h4⟩ := mem_cut hc
  have hft := from_to l k
  have hn := noEnd l k j h1 (by omega)
  unfold enB at hn
  rw [h4] at hn
  simp only [Bool.or_eq_false_iff, Bool.and_eq_false_iff, beq_eq_false_iff_ne, Bool.not_eq_false'] at hn
  refine ⟨hn.1, ?_⟩
  rcases hn.2 with h5 | h5
  · exact h5
  · exfalso
    have h6 := h5
    simp only [prB, Bool.and_eq_true, decide_eq_true_eq, beq_iff_eq] at h6
    by_cases e : j + 1 = k
    · have : toOf l k = k - 1 := by
        unfold toOf
        have : k - 1 = j := by omega
        rw [this, if_pos ⟨by omega, h5⟩]
      omega
    · have hn2 := noEnd l k (j + 1) (by omega) (by omega)
      unfold enB at hn2
      rw [h6.2] at hn2
      simp at hn2
theorem drop_cut (l : List Int) (a b : Nat) (h : a ≤ b) : l.drop a = cut l a b ++ l.drop b := by
  unfold cut
  conv => lhs; rw [← List.take_append_drop (b - a) (l.drop a)]
  rw [List.drop_drop]
  congr 2
  omega
theorem drop_at {l : List Int} {k : Nat} (h : k < l.length) : l.drop k = l.getD k 0 :: l.drop (k + 1) := by
  rw [List.drop_eq_getElem_cons h]
  simp [List.getD, h]
theorem lns_to (l : List Int) : ∀ k, k ≤ l.length → lns l = (linesTo l k).1 ++ lns (l.drop (linesTo l k).2)
  | 0, _ => by simp [linesTo]
  | k + 1, h => by
    have ih := lns_to l k (by omega)
    have hcf := cut_flat l k (by omega)
    have hft := from_to l k
    rw [linesTo]
    cases he : enB l k
    · simpa using ih
    · simp only [if_true]
      rw [ih, List.append_assoc, List.singleton_append]
      congr 1
      rw [drop_cut l _ _ hft.1]
      by_cases hp : 1 ≤ k ∧ prB l (k - 1) = true
      · have ht : toOf l k = k - 1 := by unfold toOf; rw [if_pos hp]
        have hp2 := hp.2
        simp only [prB, Bool.and_eq_true, decide_eq_true_eq, beq_iff_eq] at hp2
        have hk1 : k - 1 + 1 = k := by omega
        rw [hk1] at hp2
        have e1 : l.drop (toOf l k) = 13 :: 10 :: l.drop (k + 1) := by rw [ht, drop_at (by omega), hk1, drop_at (by omega), hp2.1.2, hp2.2]
        rw [e1, lns_crlf _ _ hcf]
      · have ht : toOf l k = k := by unfold toOf; rw [if_neg hp]
        have e1 : l.drop (toOf l k) = l.getD k 0 :: l.drop (k + 1) := by rw [ht, drop_at (by omega)]
        rw [e1]
        have he2 := he
        unfold enB at he2
        simp only [Bool.or_eq_true, Bool.and_eq_true, beq_iff_eq, Bool.not_eq_true'] at he2
        rcases he2 with h5 | ⟨h5, h6⟩
        · rw [h5, lns_cut _ _ hcf]
        · rw [h5, lns_cr _ _ hcf]
          intro h7
          rw [← Bool.not_eq_true] at h6
          apply h6
          have hlt : k + 1 < l.length := by
            by_cases h8 : k + 1 < l.length
            · exact h8
            · rw [List.drop_eq_nil_of_le (by omega)] at h7; cases h7
          simp only [prB, Bool.and_eq_true, decide_eq_true_eq, beq_iff_eq]
          refine ⟨⟨hlt, h5⟩, ?_⟩
          rw [drop_at hlt] at h7
          simpa using h7
theorem linesL_eq (l : List Int) : linesL l = lns l := by
  rw [lns_to l l.length (Nat.le_refl _)]
  unfold linesL
  congr 1
  have h := cut_flat l l.length (Nat.le_refl _)
  have hft := from_to l l.length
  have ht : toOf l l.length = l.length := by
    unfold toOf
    rw [if_neg]
    rintro ⟨h1, h2⟩
    simp only [prB, Bool.and_eq_true, decide_eq_true_eq] at h2
    omega
  rw [ht] at h
  have e : cut l (linesTo l l.length).2 l.length = l.drop (linesTo l l.length).2 := by
    unfold cut
    exact List.take_of_length_le (by simp)
  rw [e] at h
  rw [lns_one _ h]
end Go.Proofs.YtcehhkjlbhodeaaDoor.sv
