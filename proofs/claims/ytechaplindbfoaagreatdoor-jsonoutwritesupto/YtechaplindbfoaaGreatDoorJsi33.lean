import Derived.Test.YtechaplindbfoaaGreatDoorJsi10
import Derived.Test.YtechaplindbfoaaGreatDoorJsi32
namespace Go.Proofs.YtechaplindbfoaaGreatDoor.og
open Go.ChangeShapes Go.WideShapes Go.ChangeAt Go.RowKit
open mem
open vl hiding hide unhide Hid
open ints (hide unhide)
set_option linter.unusedVariables false
theorem ffn_kids (v : Vl) : ffn v = if flw v = 0 then (kids v).findSome? (fun q => (ffn q.2).map (fun r => (q.1 :: r.1, r.2))) else some ([], v) := by
  unfold ffn
  rw [pts_kids v [], List.find?_cons]
  by_cases h : flw v = 0
  · rw [if_pos h]
    simp only [h, bne_self_eq_false]
    rw [List.find?_flatMap]
    congr 1
    funext q
    rw [pts_shift q.2 ([] ++ [q.1]), List.find?_map]
    simp [Function.comp_def]
  · rw [if_neg h]
    have : (flw v != 0) = true := by simpa using h
    simp only [this]
theorem ff_own {v : Vl} (h : flw v ≠ 0) : ffP v = [] ∧ ffE v = flw v := by
  have e := ffn_kids v
  rw [if_neg h] at e
  unfold ffP ffE
  rw [e]
  exact ⟨rfl, rfl⟩
end Go.Proofs.YtechaplindbfoaaGreatDoor.og
namespace Go.Proofs.YtechaplindbfoaaGreatDoor.jsn
open Go.ChangeShapes Go.WideShapes Go.ChangeAt Go.RowKit
open mem
open vl hiding hide unhide Hid
open ints (hide unhide)
open og (kids ffE ffn flw nmF ffn_kids)
set_option linter.unusedVariables false
set_option linter.unusedSimpArgs false
/-- the first of some faults -/
def fst0 : List Int → Int
  | [] => 0
  | x :: r => if x = 0 then fst0 r else x
theorem ffE_pos {v : Vl} (h : ffE v ≠ 0) : ∃ q, ffn v = some q ∧ flw q.2 = ffE v := by
  unfold ffE at h ⊢
  cases hn : ffn v with
  | none => rw [hn] at h; exact absurd rfl h
  | some q => exact ⟨q, rfl, rfl⟩
theorem ffE_none' {v : Vl} (h : ffE v = 0) : ffn v = none := by
  unfold ffE at h
  cases hn : ffn v with
  | none => rfl
  | some q =>
    rw [hn] at h
    have := List.find?_some (show (og.pts v []).find? (fun q => flw q.2 != 0) = some q from hn)
    simp at this
    exact absurd h this
theorem ffE_kids (v : Vl) (h : flw v = 0) : ffE v = fst0 ((kids v).map (fun q => ffE q.2)) := by
  have e := ffn_kids v
  rw [if_pos h] at e
  unfold ffE at ⊢
  rw [e]
  generalize kids v = L
  induction L with
  | nil => rfl
  | cons q r ih =>
    rw [List.findSome?_cons, List.map_cons, fst0]
    by_cases h0 : ffE q.2 = 0
    · have h1 : (match ffn q.2 with | none => (0 : Int) | some q => flw q.2) = 0 := h0
      rw [ffE_none' h0]
      simp only [Option.map_none]
      first | rw [if_pos trivial] | rw [if_pos rfl]
      exact ih
    · obtain ⟨x, hx, hf⟩ := ffE_pos h0
      have h1 : ¬ (match ffn q.2 with | none => (0 : Int) | some q => flw q.2) = 0 := h0
      rw [hx] at h1 ⊢
      simp only [Option.map_some] at h1 ⊢
      rw [if_neg h1]
theorem jfL_fst : ∀ l : Vls, jfL l = fst0 (l.list.map jfE)
  | .nil => rfl
  | .cons v r => by rw [jfL, Vls.list, List.map_cons, fst0, jfL_fst r]
theorem jfF_fst : ∀ l : Fls, jfF l = fst0 (l.list.map (fun q => jfE q.2))
  | .nil => rfl
  | .cons nm v r => by rw [jfF, Fls.list, List.map_cons, fst0, jfF_fst r]
theorem nm_same : ∀ (l : List ByteArray) (seen : List (List UInt8)), nmF seen l = nmJ seen l
  | [], seen => rfl
  | s :: r, seen => by
    rw [nmF, nmJ, nm_same r]
    rfl
theorem zip_fst {α β : Type} (g : α → β) : ∀ (l : List α) (i : Nat), (l.zipIdx i).map (fun p => g p.1) = l.map g
  | [], i => rfl
  | a :: l, i => by simp only [List.zipIdx_cons, List.map_cons]; rw [zip_fst g l (i + 1)]
/-- Write refuses with the fault that Sound tells -/
theorem jfE_ff : ∀ v : Vl, jfE v = ffE v := by
  refine Vl.all ?_
  intro kd b n f tx ty its fls ihI ihF
  have kidE := ffE_kids (.mk kd b n f tx ty its fls)
  have own : ∀ h : flw (.mk kd b n f tx ty its fls) ≠ 0, ffE (.mk kd b n f tx ty its fls) = flw (.mk kd b n f tx ty its fls) := fun h => (og.ff_own h).2
  have hnm := nm_same (fls.list.map (·.1)) []
  have eI : its.list.map jfE = its.list.map ffE := List.map_congr_left ihI
  have eF : fls.list.map (fun q => jfE q.2) = fls.list.map (fun q => ffE q.2) := List.map_congr_left ihF
  generalize ffE (.mk kd b n f tx ty its fls) = E at *
  rw [jfE, jfL_fst, jfF_fst, eI, eF]
  rw [flw] at kidE own
  rw [kids] at kidE
  rw [hnm] at kidE own
  by_cases h5 : kd = 5
  · subst h5
    simp only [show ¬ ((5 : Int) = 0 ∨ (5 : Int) = 1 ∨ (5 : Int) = 2) by decide, show ¬ ((5 : Int) = 3) by decide, show ¬ ((5 : Int) = 4) by decide, show ¬ ((5 : Int) = 6) by decide, show ¬ ((5 : Int) < 0 ∨ (7 : Int) ≤ 5) by decide, if_true, if_false, forall_const] at kidE own ⊢
    rw [kidE, List.map_map]
    have := zip_fst ffE its.list 0
    simp only [Function.comp_def]
    rw [this]
  by_cases h6 : kd = 6
  · subst h6
    simp only [show ¬ ((6 : Int) = 0 ∨ (6 : Int) = 1 ∨ (6 : Int) = 2) by decide, show ¬ ((6 : Int) = 3) by decide, show ¬ ((6 : Int) = 4) by decide, show ¬ ((6 : Int) = 5) by decide, show ¬ ((6 : Int) < 0 ∨ (7 : Int) ≤ 6) by decide, if_true, if_false] at kidE own ⊢
    by_cases hz : nmJ [] (fls.list.map (·.1)) = 0
    · rw [if_pos hz, kidE hz, List.map_map]
      rfl
    · rw [if_neg hz, own hz]
  simp only [h5, h6, if_false, List.map_nil, fst0] at kidE own ⊢
  by_cases hr : kd < 0 ∨ 7 ≤ kd
  · rw [if_pos hr] at own
    rw [if_neg (by omega), if_neg (by omega), if_neg (by omega), own (by decide)]
  rw [if_neg hr] at kidE own
  by_cases h3 : kd = 3
  · subst h3
    rw [if_pos rfl] at kidE own
    rw [if_neg (by decide), if_pos rfl]
    have hb : og.badF f = fto.badF f := rfl
    rw [hb] at kidE own
    cases hq : fto.badF f
    · rw [hq] at kidE
      rw [kidE (by simp)]
      simp
    · rw [hq] at own
      rw [own (by simp)]
  rw [if_neg h3] at kidE own
  by_cases h4 : kd = 4
  · subst h4
    rw [if_pos rfl] at kidE own
    rw [if_neg (by decide), if_neg (by decide), if_pos rfl]
    have hb : og.clnS tx = cln tx := rfl
    rw [hb] at kidE own
    cases hq : cln tx
    · rw [hq] at own
      rw [own (by simp)]
    · rw [hq] at kidE
      rw [kidE (by simp)]
      simp
  rw [if_neg h4] at kidE
  rw [if_pos (by omega), kidE rfl]
mutual
theorem small_of : ∀ v : Vl, FlV v → wtV v ≤ 1048576 → Small v
  | .mk kd b n f tx ty its fls, h, hw => by
    rw [wtV] at hw
    unfold FlV at h
    unfold Small
    obtain ⟨-, h2, h3, h4⟩ := h
    have l1 : its.list.length ≤ wtI its := by rw [wtI_sum]; exact take_ge wtV wt_pos _
    have l2 : fls.list.length ≤ wtF fls := by rw [wtF_sum]; exact take_ge (fun q : ByteArray × Vl => q.1.size + wtV q.2) (fun q => by have := wt_pos q.2; omega) _
    exact ⟨by omega, by omega, h2, small_ofI its h3 (by omega), small_ofF fls h4 (by omega)⟩
theorem small_ofI : ∀ l : Vls, FlI l → wtI l ≤ 1048576 → SmallI l
  | .nil, h, hw => by unfold SmallI; trivial
  | .cons v r, h, hw => by
    rw [wtI] at hw
    unfold FlI at h
    unfold SmallI
    exact ⟨small_of v h.1 (by omega), small_ofI r h.2 (by omega)⟩
theorem small_ofF : ∀ l : Fls, FlF l → wtF l ≤ 1048576 → SmallF l
  | .nil, h, hw => by unfold SmallF; trivial
  | .cons nm v r, h, hw => by
    rw [wtF] at hw
    unfold FlF at h
    unfold SmallF
    exact ⟨small_of v h.1 (by omega), small_ofF r h.2 (by omega)⟩
end
mutual
theorem cnt_of : ∀ v : Vl, og.cnt v ≤ wtV v
  | .mk kd b n f tx ty its fls => by
    have h1 := cnt_ofI its
    have h2 := cnt_ofF fls
    rw [og.cnt, wtV]
    split
    · omega
    · split <;> omega
theorem cnt_ofI : ∀ l : Vls, og.cntI l ≤ wtI l
  | .nil => Nat.le_refl _
  | .cons v r => by have h1 := cnt_of v; have h2 := cnt_ofI r; rw [og.cntI, wtI]; omega
theorem cnt_ofF : ∀ l : Fls, og.cntF l ≤ wtF l
  | .nil => Nat.le_refl _
  | .cons _ v r => by have h1 := cnt_of v; have h2 := cnt_ofF r; rw [og.cntF, wtF]; omega
end
end Go.Proofs.YtechaplindbfoaaGreatDoor.jsn
