import Derived.Test.YtcehhkjlbhodeaaDoorEncW
namespace Go.Proofs.YtcehhkjlbhodeaaDoor.mem
open Go.ChangeShapes Go.WideShapes Go.ChangeAt Go.RowKit
open ints (hide unhide)
set_option linter.unusedVariables false

def encS (zs : List Int) : ByteArray := if zs.all scB = true then strOfNums (zs.flatMap putB) else ⟨#[]⟩
theorem encS_yes {zs : List Int} (h : zs.all scB = true) : encS zs = strOfNums (zs.flatMap putB) := if_pos h
theorem encS_no {zs : List Int} (h : zs.all scB = false) : encS zs = ⟨#[]⟩ := if_neg (by rw [h]; simp)
def flat (zs : List Int) (k : Nat) : List Int := (zs.take k).flatMap putB
theorem flat_zero (zs : List Int) : flat zs 0 = [] := rfl
theorem flat_succ (zs : List Int) (k : Nat) (h : k < zs.length) : flat zs (k + 1) = flat zs k ++ putB (zs.getD k 0) := by
  unfold flat
  rw [List.take_succ_eq_append_getElem h, List.flatMap_append]
  simp [List.getD, h]
theorem flat_len (zs : List Int) (k : Nat) : (flat zs k).length ≤ 4 * k := by
  unfold flat
  have : ∀ l : List Int, (l.flatMap putB).length ≤ 4 * l.length := by
    intro l
    induction l with
    | nil => simp
    | cons a l ih => have := putB_len a; rw [List.flatMap_cons, List.length_append, List.length_cons]; omega
  have h1 := this (zs.take k)
  have h2 : (zs.take k).length ≤ k := List.length_take_le _ _
  omega
theorem flat_all (zs : List Int) (k : Nat) (h : zs.length ≤ k) : flat zs k = zs.flatMap putB := by
  unfold flat; rw [List.take_of_length_le h]
theorem all_of (zs : List Int) (h : ∀ j, j < zs.length → scP (zs.getD j 0)) : zs.all scB = true := by
  rw [List.all_eq_true]
  intro x hx
  obtain ⟨i, hi, rfl⟩ := List.mem_iff_getElem.1 hx
  have := h i hi
  rw [scB_iff]
  simpa [List.getD, hi] using this
theorem not_all (zs : List Int) (k : Nat) (hk : k < zs.length) (h : ¬ scP (zs.getD k 0)) : zs.all scB = false := by
  rw [List.all_eq_false]
  refine ⟨zs.getD k 0, by simp [List.getD, hk], ?_⟩
  intro e
  exact h ((scB_iff _).1 e)

end Go.Proofs.YtcehhkjlbhodeaaDoor.mem
