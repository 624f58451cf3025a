import Derived.Test.YtcehhkjlbhodeaaDoorSta
namespace Go.Proofs.YtcehhkjlbhodeaaDoor.mem
open Go.ChangeShapes Go.WideShapes Go.ChangeAt Go.RowKit
open ints (hide unhide)
set_option linter.unusedVariables false

theorem sta_le (l : List Int) (k : Nat) : ∀ x ∈ staTo l k, 0 ≤ x ∧ x ≤ k := by
  induction k with
  | zero => intro x hx; simp [staTo] at hx; omega
  | succ k ih =>
    intro x hx
    simp only [staTo] at hx
    split at hx
    · rcases List.mem_append.1 hx with h | h
      · have := ih x h; omega
      · simp at h; omega
    · have := ih x hx; omega
theorem sta_pre (l : List Int) (i m : Nat) (h : i ≤ m) : ∃ r, staTo l m = staTo l i ++ r ∧ ∀ x ∈ r, (i : Int) < x := by
  induction m with
  | zero => have : i = 0 := by omega
            subst this; exact ⟨[], by simp, by simp⟩
  | succ m ih =>
    by_cases e : i = m + 1
    · subst e; exact ⟨[], by simp, by simp⟩
    · obtain ⟨r, hr, hx⟩ := ih (by omega)
      simp only [staTo]
      split
      · refine ⟨r ++ [(m : Int) + 1], by rw [hr, List.append_assoc], ?_⟩
        intro x hxm
        rcases List.mem_append.1 hxm with h1 | h1
        · exact hx x h1
        · simp at h1; omega
      · exact ⟨r, hr, hx⟩
theorem posT_sta (l : List Int) (i : Nat) : (posT l i).1 = (staTo l i).length ∧ (posT l i).2 = (i : Int) + 1 - (staTo l i).getD ((staTo l i).length - 1) 0 := by
  induction i with
  | zero => simp [posT, staTo]
  | succ i ih =>
    simp only [posT, staTo]
    split
    · refine ⟨by rw [ih.1]; simp, ?_⟩
      simp [List.getD]
      omega
    · refine ⟨ih.1, ?_⟩
      rw [ih.2]
      omega
def stN (S : List Int) (n k : Nat) : Nat := (S.getD k ((n : Int) + 1)).toNat
theorem stN_in {l : List Int} {n k : Nat} (hk : k < (staTo l n).length) : ((stN (staTo l n) n k : Nat) : Int) = (staTo l n).getD k 0 ∧ stN (staTo l n) n k ≤ n := by
  have hm : (staTo l n).getD k 0 ∈ staTo l n := by simp [List.getD, hk]
  have hb := sta_le l n _ hm
  have e : (staTo l n).getD k ((n : Int) + 1) = (staTo l n).getD k 0 := by simp [List.getD, hk]
  unfold stN
  rw [e]
  omega
theorem stN_out {l : List Int} {n k : Nat} (hk : (staTo l n).length ≤ k) : stN (staTo l n) n k = n + 1 := by
  unfold stN
  simp [List.getD, List.getElem?_eq_none hk]
theorem pos_line {l : List Int} {n k i : Nat} (hk : k < (staTo l n).length) (h1 : stN (staTo l n) n k ≤ i) (h2 : i < stN (staTo l n) n (k + 1)) :
    (posT l i).1 = (k : Int) + 1 ∧ (posT l i).2 = (i : Int) - (staTo l n).getD k 0 + 1 ∧ (staTo l i).length = k + 1 := by
  have hs := stN_in hk
  have hi : i ≤ n := by
    by_cases hk1 : k + 1 < (staTo l n).length
    · have := (stN_in hk1).2; omega
    · have := stN_out (l := l) (n := n) (k := k + 1) (by omega); omega
  obtain ⟨r, hr, hx⟩ := sta_pre l i n hi
  have hp := posT_sta l i
  have hpp := staTo_pos l i
  have hkp : k < (staTo l i).length := by
    rcases Nat.lt_or_ge k (staTo l i).length with h | h
    · exact h
    · exfalso
      have hmem : (staTo l n).getD k 0 ∈ r := by
        have hk' := hk
        rw [hr, List.length_append] at hk'
        rw [hr]
        have hlt : k - (staTo l i).length < r.length := by omega
        simp [List.getD, List.getElem?_append_right h, hlt]
      have := hx _ hmem
      omega
  have hkq : ¬ k + 1 < (staTo l i).length := by
    intro h
    have hk1 : k + 1 < (staTo l n).length := by rw [hr, List.length_append]; omega
    have e1 := (stN_in hk1).1
    have e2 : (staTo l n).getD (k + 1) 0 = (staTo l i).getD (k + 1) 0 := by
      rw [hr]; simp [List.getD, List.getElem?_append_left h]
    have hm : (staTo l i).getD (k + 1) 0 ∈ staTo l i := by simp [List.getD, h]
    have := sta_le l i _ hm
    omega
  have hlen : (staTo l i).length = k + 1 := by omega
  have e3 : (staTo l n).getD k 0 = (staTo l i).getD k 0 := by rw [hr]; simp [List.getD, List.getElem?_append_left hkp]
  refine ⟨by rw [hp.1, hlen]; simp, ?_, hlen⟩
  rw [hp.2, hlen, e3]
  simp
  omega
theorem sta_inc (l : List Int) (n : Nat) : ∀ k, k + 1 < (staTo l n).length → (staTo l n).getD k 0 ≤ (staTo l n).getD (k + 1) 0 := by
  induction n with
  | zero => intro k hk; simp [staTo] at hk
  | succ n ih =>
    intro k hk
    simp only [staTo] at hk ⊢
    split
    · rename_i he
      rw [if_pos he] at hk
      rw [List.length_append, List.length_singleton] at hk
      by_cases h1 : k + 1 < (staTo l n).length
      · have e1 : (staTo l n ++ [(n : Int) + 1]).getD k 0 = (staTo l n).getD k 0 := by simp [List.getD, List.getElem?_append_left (show k < (staTo l n).length by omega)]
        have e2 : (staTo l n ++ [(n : Int) + 1]).getD (k + 1) 0 = (staTo l n).getD (k + 1) 0 := by simp [List.getD, List.getElem?_append_left h1]
        rw [e1, e2]; exact ih k h1
      · have e1 : (staTo l n ++ [(n : Int) + 1]).getD k 0 = (staTo l n).getD k 0 := by simp [List.getD, List.getElem?_append_left (show k < (staTo l n).length by omega)]
        have e2 : (staTo l n ++ [(n : Int) + 1]).getD (k + 1) 0 = (n : Int) + 1 := by
          have : k + 1 = (staTo l n).length := by omega
          rw [this]; simp [List.getD]
        have hm : (staTo l n).getD k 0 ∈ staTo l n := by simp [List.getD, show k < (staTo l n).length by omega]
        have := sta_le l n _ hm
        rw [e1, e2]; omega
    · rename_i he
      rw [if_neg he] at hk
      exact ih k hk
theorem stN_mono {l S : List Int} {n k : Nat} (hk : k < (staTo l n).length) (hS : S = staTo l n) : stN S n k ≤ stN S n (k + 1) := by
  subst hS
  have h1 := stN_in hk
  by_cases hk1 : k + 1 < (staTo l n).length
  · have h2 := stN_in hk1
    have := sta_inc l n k hk1
    omega
  · have := stN_out (l := l) (n := n) (k := k + 1) (by omega)
    omega
theorem row_at {k : IntKind} {w : World} {base : Nat} {e : TypeId} {a : Option Addr} {n c : Nat} {zs : List Int} (h : w.ownsRow base e 1 (.slice a n c) n (zs.map (Value.int k))) : Row k w a n c zs := by
  obtain ⟨a', c', e', hr⟩ := own_row h
  simp only [Value.slice.injEq] at e'
  obtain ⟨rfl, _, rfl⟩ := e'
  exact hr
end Go.Proofs.YtcehhkjlbhodeaaDoor.mem
