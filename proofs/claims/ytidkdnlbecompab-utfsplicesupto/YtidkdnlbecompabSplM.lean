import Derived.Test.YtidkdnlbecompabLinU
namespace Go.Proofs.Ytidkdnlbecompab.mem
open Go.ChangeShapes Go.WideShapes Go.ChangeAt Go.RowKit
open ints (hide unhide)
set_option linter.unusedVariables false

def bareB (z : Int) : Bool := z != 13 && z != 10
def bareL (l : List Int) : List Int := l.filter bareB
def markL (kd : Int) (b : List Int) : List Int := if kd.tmod 3 = 1 then [13, 10] else if kd.tmod 3 = 2 ∧ 0 < b.length then [13] else [10]
theorem bareL_no (l : List Int) : ∀ z ∈ bareL l, z ≠ 13 ∧ z ≠ 10 := by
  intro z hz
  simpa [bareL, bareB] using (List.mem_filter.1 hz).2
theorem getD_left {l r : List Int} {k : Nat} (h : k < l.length) : (l ++ r).getD k 0 = l.getD k 0 := by simp [List.getD, List.getElem?_append_left h]
theorem getD_right (l r : List Int) (k : Nat) : (l ++ r).getD (l.length + k) 0 = r.getD k 0 := by
  simp [List.getD, List.getElem?_append_right (Nat.le_add_right _ _)]
theorem pr_left {l r : List Int} (hl : l.getD (l.length - 1) 0 ≠ 13) {k : Nat} (hk : k < l.length) : prB (l ++ r) k = prB l k := by
  unfold prB
  rw [getD_left hk]
  by_cases h1 : k + 1 < l.length
  · have h2 : k + 1 < (l ++ r).length := by simp; omega
    rw [getD_left h1, decide_eq_true h1, decide_eq_true h2]
  · have e : k = l.length - 1 := by omega
    have h13 : (l.getD k 0 == 13) = false := by rw [e]; simpa using hl
    rw [h13]
    simp
theorem en_left {l r : List Int} (hl : l.getD (l.length - 1) 0 ≠ 13) {k : Nat} (hk : k < l.length) : enB (l ++ r) k = enB l k := by
  unfold enB
  rw [getD_left hk, pr_left hl hk]
theorem to_left {l r : List Int} (hl : l.getD (l.length - 1) 0 ≠ 13) {k : Nat} (hk : k ≤ l.length) : toOf (l ++ r) k = toOf l k := by
  unfold toOf
  by_cases h1 : 1 ≤ k
  · rw [pr_left hl (by omega)]
  · rw [if_neg (by omega), if_neg (by omega)]
theorem cut_left {l r : List Int} {f t : Nat} (hft : f ≤ t) (ht : t ≤ l.length) : cut (l ++ r) f t = cut l f t := by
  unfold cut
  rw [List.drop_append_of_le_length (by omega), List.take_append_of_le_length (by rw [List.length_drop]; omega)]
theorem linesTo_left {l r : List Int} (hl : l.getD (l.length - 1) 0 ≠ 13) : ∀ k, k ≤ l.length → linesTo (l ++ r) k = linesTo l k
  | 0, _ => rfl
  | k + 1, hk => by
    have ih := linesTo_left (r := r) hl k (by omega)
    have ft := from_to l k
    simp only [linesTo]
    rw [en_left hl (by omega), ih, to_left hl (by omega), cut_left ft.1 (by omega)]
theorem linesTo_flat {l : List Int} {k : Nat} : ∀ m, (∀ j, j < m → enB l (k + j) = false) → linesTo l (k + m) = linesTo l k
  | 0, _ => rfl
  | m + 1, h => by
    rw [← Nat.add_assoc, linesTo_no (h m (by omega))]
    exact linesTo_flat m (fun j hj => h j (by omega))
theorem en_bare {l b : List Int} (hb : ∀ z ∈ b, z ≠ 13 ∧ z ≠ 10) {j : Nat} (hj : j < b.length) : enB (l ++ b) (l.length + j) = false := by
  have hm : b.getD j 0 ∈ b := by simp [List.getD, hj]
  have := hb _ hm
  unfold enB
  rw [getD_right]
  have h1 : (b.getD j 0 == 13) = false := by simpa using this.1
  have h2 : (b.getD j 0 == 10) = false := by simpa using this.2
  rw [h1, h2]
  rfl
theorem lines_bare {p b : List Int} (hb : ∀ z ∈ b, z ≠ 13 ∧ z ≠ 10) {L : List (List Int)} (h : linesTo (p ++ b) p.length = (L, p.length)) : linesL (p ++ b) = L ++ [b] := by
  unfold linesL
  have e : (p ++ b).length = p.length + b.length := by simp
  rw [e, linesTo_flat b.length (fun j hj => en_bare hb hj), h]
  simp
theorem drop_cut (l : List Int) (F : Nat) : cut l F l.length = l.drop F := by
  unfold cut
  exact List.take_of_length_le (by simp)
theorem lines_snoc {l m b : List Int} (h0 : 0 < l.length) (hl : l.getD (l.length - 1) 0 ≠ 13) (hb : ∀ z ∈ b, z ≠ 13 ∧ z ≠ 10) (hm : m = [10] ∨ m = [13, 10] ∨ (m = [13] ∧ 0 < b.length)) :
    linesL ((l ++ m) ++ b) = linesL l ++ [b] := by
  have hA := linesTo_left (r := m ++ b) hl l.length (Nat.le_refl _)
  rw [← List.append_assoc] at hA
  have hF := linesTo_inv l l.length
  have hpl : prB l (l.length - 1) = false := by unfold prB; rw [decide_eq_false (by omega)]; rfl
  have htl : toOf (l ++ m ++ b) l.length = l.length := by
    rw [List.append_assoc, to_left hl (Nat.le_refl _)]
    unfold toOf
    rw [hpl]
    simp
  have hcl : cut (l ++ m ++ b) (linesTo l l.length).2 l.length = l.drop (linesTo l l.length).2 := by
    rw [List.append_assoc, cut_left hF.1 (Nat.le_refl _), drop_cut]
  have g0 : ∀ j, (l ++ m ++ b).getD (l.length + j) 0 = (m ++ b).getD j 0 := fun j => by rw [List.append_assoc, getD_right]
  refine lines_bare hb ?_
  have key : linesTo (l ++ m ++ b) (l ++ m).length = (linesL l, (l ++ m).length) := by
    rcases hm with rfl | rfl | ⟨rfl, hbl⟩
    · have he : enB (l ++ [10] ++ b) l.length = true := by
        have := g0 0
        rw [Nat.add_zero] at this
        unfold enB
        rw [this]
        rfl
      have e : (l ++ [(10 : Int)]).length = l.length + 1 := by simp
      rw [e, linesTo_yes he, hA, htl, hcl]
      rfl
    · have hp : prB (l ++ [13, 10] ++ b) l.length = true := by
        have a0 := g0 0
        have a1 := g0 1
        rw [Nat.add_zero] at a0
        unfold prB
        rw [a0, a1, decide_eq_true (by simp)]
        rfl
      have he : enB (l ++ [13, 10] ++ b) l.length = false := en_pr _ _ hp
      have he1 : enB (l ++ [13, 10] ++ b) (l.length + 1) = true := by
        have := g0 1
        unfold enB
        rw [this]
        rfl
      have ht1 : toOf (l ++ [13, 10] ++ b) (l.length + 1) = l.length := by
        unfold toOf
        rw [if_pos ⟨by omega, by simpa using hp⟩]
        rfl
      have e : (l ++ [(13 : Int), 10]).length = l.length + 1 + 1 := by simp
      rw [e, linesTo_yes he1, linesTo_no he, hA, ht1, hcl]
      rfl
    · have hp : prB (l ++ [13] ++ b) l.length = false := by
        have a1 := g0 1
        have hm : b.getD 0 0 ∈ b := by simp [List.getD, hbl]
        have hb0 := (hb _ hm).2
        have e1 : ([13] ++ b).getD 1 0 = b.getD 0 0 := by simp [List.getD]
        unfold prB
        rw [a1, e1]
        have : (b.getD 0 0 == 10) = false := by simpa using hb0
        rw [this]
        simp
      have he : enB (l ++ [13] ++ b) l.length = true := by
        have := g0 0
        rw [Nat.add_zero] at this
        unfold enB
        rw [hp, this]
        rfl
      have e : (l ++ [(13 : Int)]).length = l.length + 1 := by simp
      rw [e, linesTo_yes he, hA, htl, hcl]
      rfl
  exact key
def allTo (zss : Nat → List Int) (kd : Nat → Int) : Nat → List Int
  | 0 => [120]
  | k + 1 => (allTo zss kd k ++ markL (kd k) (bareL (zss k))) ++ bareL (zss k)
theorem markL_or (kd : Int) (b : List Int) : markL kd b = [10] ∨ markL kd b = [13, 10] ∨ (markL kd b = [13] ∧ 0 < b.length) := by
  unfold markL
  split
  · exact .inr (.inl rfl)
  · split
    · rename_i h; exact .inr (.inr ⟨rfl, h.2⟩)
    · exact .inl rfl
theorem all_lines (zss : Nat → List Int) (kd : Nat → Int) : ∀ k, linesL (allTo zss kd k) = [120] :: (List.range k).map (fun i => bareL (zss i)) ∧ 0 < (allTo zss kd k).length ∧ (allTo zss kd k).getD ((allTo zss kd k).length - 1) 0 ≠ 13
  | 0 => ⟨show linesL [120] = [[120]] by decide +kernel, show 0 < ([120] : List Int).length by decide, show ([120] : List Int).getD (([120] : List Int).length - 1) 0 ≠ 13 by decide⟩
  | k + 1 => by
    obtain ⟨h1, h2, h3⟩ := all_lines zss kd k
    have hb := bareL_no (zss k)
    have hm := markL_or (kd k) (bareL (zss k))
    refine ⟨?_, ?_, ?_⟩
    · simp only [allTo]
      rw [lines_snoc h2 h3 hb hm, h1, List.range_succ]
      simp
    · simp only [allTo, List.length_append]; omega
    · simp only [allTo]
      generalize bareL (zss k) = b at *
      generalize markL (kd k) b = m at *
      generalize allTo zss kd k = l at *
      by_cases hbl : 0 < b.length
      · have e : (l ++ m ++ b).length - 1 = (l ++ m).length + (b.length - 1) := by simp; omega
        rw [e, getD_right]
        have hm : b.getD (b.length - 1) 0 ∈ b := by simp [List.getD, show b.length - 1 < b.length by omega]
        exact (hb _ hm).1
      · have eb : b = [] := List.eq_nil_of_length_eq_zero (by omega)
        subst eb
        rw [List.append_nil]
        rcases hm with rfl | rfl | ⟨rfl, hbl⟩
        · have e : (l ++ [(10 : Int)]).length - 1 = l.length + 0 := by simp
          rw [e, getD_right]
          decide
        · have e : (l ++ [(13 : Int), 10]).length - 1 = l.length + 1 := by simp
          rw [e, getD_right]
          decide
        · simp at hbl
theorem mark_len (kd : Int) (b : List Int) : (markL kd b).length ≤ 2 := by
  rcases markL_or kd b with h | h | ⟨h, _⟩ <;> rw [h] <;> simp
theorem bare_len (l : List Int) : (bareL l).length ≤ l.length := List.length_filter_le _ _
theorem all_len {zss : Nat → List Int} {kd : Nat → Int} {N : Nat} (h : ∀ i, (zss i).length ≤ N) : ∀ k, (allTo zss kd k).length ≤ 1 + k * (N + 2)
  | 0 => by simp [allTo]
  | k + 1 => by
    have ih := all_len (kd := kd) h k
    have h1 := mark_len (kd k) (bareL (zss k))
    have h2 := bare_len (zss k)
    have h3 := h k
    simp only [allTo, List.length_append]
    rw [Nat.succ_mul]
    omega
theorem all_len' {zss : Nat → List Int} {kd : Nat → Int} {N n k : Nat} (h : ∀ i, (zss i).length ≤ N) (hN : N ≤ 1048575) (hn : n ≤ 1048575) (hk : k ≤ n) : (allTo zss kd k).length ≤ 1099511627776 := by
  have h1 := all_len (kd := kd) h k
  have h2 : k * (N + 2) ≤ 1048575 * 1048577 := Nat.mul_le_mul (by omega) (by omega)
  omega
end Go.Proofs.Ytidkdnlbecompab.mem
