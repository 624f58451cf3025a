import Derived.Test.YtcehhkjlbhodeaaDoorSvB3
import Derived.Test.YtcehhkjlbhodeaaDoorSvP1
import Derived.Test.YtcehhkjlbhodeaaDoorSvR3
namespace Go.Proofs.YtcehhkjlbhodeaaDoor.sv
open Go.ChangeShapes Go.WideShapes Go.ChangeAt Go.RowKit
open mem
open ints (hide unhide soP)
set_option linter.unusedVariables false
theorem cut_le {l : List Int} {n : Nat} (hl : l.length = n) (a b : Nat) : (cut l a b).length ≤ n := by
  unfold cut
  simp
  omega
theorem lines_bd (l : List Int) : 1 ≤ (linesL l).length ∧ (linesL l).length ≤ l.length + 1 ∧ ∀ k, ((linesL l).getD k []).length ≤ l.length := by
  have hLen := linesL_len l
  have hsp := staTo_pos l l.length
  refine ⟨by omega, by omega, fun k => ?_⟩
  have hs := lin_sta l l.length
  by_cases hk1 : k + 1 < (staTo l l.length).length
  · rw [linesL_in l k hk1]
    exact cut_le rfl _ _
  · by_cases hk2 : k + 1 = (staTo l l.length).length
    · rw [linesL_last l k hk2]
      exact cut_le rfl _ _
    · have : (linesL l).length ≤ k := by omega
      simp [List.getD, List.getElem?_eq_none this]

def bT (s : ByteArray) : Option (List Int) := if cln s = true then btx (decZ (bytesZ s)).1 else none
def bS (s : ByteArray) : ByteArray := match bT s with | none => ⟨#[]⟩ | some t => strOfNums ([34, 34, 34] ++ t.flatMap putB ++ [34, 34, 34])
def bO (s : ByteArray) : Bool := (bT s).isSome
theorem btx_fit (zs : List Int) (h : fitB zs = false) : btx zs = none := by unfold btx; exact if_pos h
theorem btx_pos (zs : List Int) (h : fitB zs = true) (h0 : zs ≠ []) : btx zs = if pos (lns zs) then some (ins (lns zs)) else none := by
  unfold btx
  rw [if_neg (by unfold fitB at h; rw [h]; simp), if_neg h0]
theorem data_zU (s : ByteArray) (zs : List Int) (h : bytesZ s = zs.flatMap putB) : s.data.toList = zU zs := by
  unfold zU
  rw [← h]
  unfold bytesZ
  rw [List.map_map]
  conv => lhs; rw [← List.map_id s.data.toList]
  apply List.map_congr_left
  intro b hb
  simp
/-- the two ways in which a block string begins -/
theorem ins_form (zs : List Int) (hf : fitB zs = true) (hp : pos (lns zs) = true) :
    ins (lns zs) = (if (lns zs).length = 1 ∧ 0 < ind ((lns zs).getD 0 []) then [] else [10]) ++ (grd zs ++ [10]) := by
  have h13 : ∀ c ∈ zs, c ≠ 13 := by
    intro c hc e
    unfold fitB at hf
    rw [Bool.and_eq_true] at hf
    have h2 := hf.2
    simp only [Bool.not_eq_true', List.contains_eq_mem, decide_eq_false_iff_not] at h2
    rw [e] at hc
    exact h2 hc
  have hj : (lns zs).flatMap (fun x => grd x ++ [10]) = grd zs ++ [10] := by rw [grd_jn _ (lns_ne zs), jn_lns zs h13]
  unfold ins
  rw [hj]
  generalize lns zs = L at hp
  cases L with
  | nil => simp [pos] at hp
  | cons x r =>
    have hx : blk x = false := by
      unfold pos at hp
      cases hb : blk x
      · rfl
      · simp [hb] at hp
    cases x with
    | nil => rw [blk_nil] at hx; cases hx
    | cons c y =>
      have e : (0 < ind (c :: y)) ↔ whB c = true := by
        cases hc : whB c
        · rw [ind0 hc]; simp
        · have : ind (c :: y) = ind y + 1 := by unfold ind; rw [List.takeWhile_cons, hc]; simp
          rw [this]; simp
      have e2 : ((c :: y) :: r).getD 0 [] = c :: y := rfl
      rw [e2]
      by_cases h2 : (((c :: y) :: r).length = 1 ∧ 0 < ind (c :: y))
      · rw [if_pos h2]
        have h3 : (((c :: y) :: r).length == 1 && whB ((((c :: y) :: r).headD []).headD 0)) = true := by
          rw [Bool.and_eq_true]
          exact ⟨beq_iff_eq.2 h2.1, e.1 h2.2⟩
        rw [if_pos h3]
        rfl
      · rw [if_neg h2]
        have h3 : ¬ (((c :: y) :: r).length == 1 && whB ((((c :: y) :: r).headD []).headD 0)) = true := by
          intro h3
          rw [Bool.and_eq_true] at h3
          exact h2 ⟨beq_iff_eq.1 h3.1, e.2 h3.2⟩
        rw [if_neg h3]
        rfl
/-- the bytes of a block string, as the program joins them -/
theorem bs_join (s : ByteArray) (zs : List Int) (hall : zs.all scB = true) (hz : bytesZ s = zs.flatMap putB) (hf : fitB zs = true) (hp : pos (lns zs) = true) (bg : ByteArray)
    (hb : bg = if (lns zs).length = 1 ∧ 0 < ind ((lns zs).getD 0 []) then ⟨#[]⟩ else ⟨#[10]⟩) :
    ((⟨#[34, 34, 34]⟩ : ByteArray) ++ bg ++ ⟨(Lib.replaceAll s.data.toList [34, 34, 34] [92, 34, 34, 34]).toArray⟩ ++ ⟨#[10]⟩ ++ ⟨#[34, 34, 34]⟩) = strOfNums ([34, 34, 34] ++ (ins (lns zs)).flatMap putB ++ [34, 34, 34]) := by
  have hs : ∀ c ∈ zs, scP c := fun c hc => (scB_iff c).1 (List.all_eq_true.1 hall c hc)
  have hr : (⟨(Lib.replaceAll s.data.toList [34, 34, 34] [92, 34, 34, 34]).toArray⟩ : ByteArray) = strOfNums ((grd zs).flatMap putB) := by
    rw [replaceAll_grd, data_zU s zs hz, grdU_zU zs.length zs (Nat.le_refl _) hs]
    rfl
  rw [hr, ins_form zs hf hp, List.flatMap_append, List.flatMap_append]
  have e10 : ([10] : List Int).flatMap putB = [10] := by simp [putB]
  rw [e10]
  by_cases h2 : (lns zs).length = 1 ∧ 0 < ind ((lns zs).getD 0 [])
  · rw [if_pos h2] at hb ⊢
    subst hb
    rw [show (⟨#[34, 34, 34]⟩ : ByteArray) = strOfNums [34, 34, 34] from rfl, show (⟨#[]⟩ : ByteArray) = strOfNums [] from rfl, show (⟨#[10]⟩ : ByteArray) = strOfNums [10] from rfl, str_add, str_add, str_add, str_add]
    simp
  · rw [if_neg h2] at hb ⊢
    subst hb
    rw [e10, show (⟨#[34, 34, 34]⟩ : ByteArray) = strOfNums [34, 34, 34] from rfl, show (⟨#[10]⟩ : ByteArray) = strOfNums [10] from rfl, str_add, str_add, str_add, str_add]
    simp
end Go.Proofs.YtcehhkjlbhodeaaDoor.sv
