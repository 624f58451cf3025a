import Derived.Test.YtcehhkjlbhodeaaDoorSv2
import Derived.Test.YtcehhkjlbhodeaaDoorUtf
import Derived.Lib.Replace
namespace Go.Proofs.YtcehhkjlbhodeaaDoor.sv
open mem
set_option linter.unusedVariables false

/-- A backslash ahead of each three quotes, on bytes: what strings.ReplaceAll makes. -/
def triU (l : List UInt8) : Bool := ([34, 34, 34] : List UInt8).isPrefixOf l
def grdU (l : List UInt8) : List UInt8 :=
  match l with
  | [] => []
  | c :: r => if triU (c :: r) then 92 :: 34 :: 34 :: 34 :: grdU (r.drop 2) else c :: grdU r
termination_by l.length
decreasing_by all_goals (simp; try omega)
theorem grdU_nil : grdU [] = [] := by rw [grdU]
theorem grdU_yes {c : UInt8} {r : List UInt8} (h : triU (c :: r) = true) : grdU (c :: r) = 92 :: 34 :: 34 :: 34 :: grdU (r.drop 2) := by rw [grdU, if_pos h]
theorem grdU_no {c : UInt8} {r : List UInt8} (h : triU (c :: r) = false) : grdU (c :: r) = c :: grdU r := by rw [grdU, if_neg (by simp [h])]
theorem grdU_miss : ∀ (l : List UInt8), Lib.index l [34, 34, 34] = -1 → grdU l = l
  | [], _ => grdU_nil
  | c :: l, h => by
    unfold Lib.index at h
    have ht : triU (c :: l) = false := by
      cases ht : triU (c :: l)
      · rfl
      · unfold triU at ht
        rw [if_pos ht] at h
        cases h
    have hl : Lib.index l [34, 34, 34] = -1 := by
      unfold triU at ht
      rw [if_neg (by rw [ht]; simp)] at h
      split at h
      · rename_i h2; exact beq_iff_eq.1 h2
      · have := Lib.index_ge l [34, 34, 34]; omega
    rw [grdU_no ht, grdU_miss l hl]
theorem grdU_hit : ∀ (l : List UInt8) (i : Nat), Lib.index l [34, 34, 34] = i → grdU l = l.take i ++ [92, 34, 34, 34] ++ grdU (l.drop (i + 3))
  | [], i, h => by simp [Lib.index] at h
  | c :: l, i, h => by
    unfold Lib.index at h
    cases ht : triU (c :: l)
    · have ht2 := ht
      unfold triU at ht2
      rw [if_neg (by rw [ht2]; simp)] at h
      split at h
      · omega
      · have hge := Lib.index_ge l [34, 34, 34]
        rename_i h2
        have h3 : Lib.index l [34, 34, 34] ≠ -1 := fun e => h2 (by rw [e]; rfl)
        obtain ⟨j, hj⟩ : ∃ j, i = j + 1 := ⟨i - 1, by omega⟩
        subst hj
        rw [grdU_no ht, grdU_hit l j (by omega)]
        have e : (c :: l).drop (j + 1 + 3) = l.drop (j + 3) := by rw [show j + 1 + 3 = (j + 3) + 1 from by omega, List.drop_succ_cons]
        rw [e]
        rfl
    · have ht2 := ht
      unfold triU at ht2
      rw [if_pos ht2] at h
      have : i = 0 := by omega
      subst this
      rw [grdU_yes ht]
      simp
theorem replaceK_grd : ∀ (k : Nat) (l : List UInt8), Lib.count l [34, 34, 34] = k → Lib.replaceK [34, 34, 34] [92, 34, 34, 34] k l = grdU l
  | 0, l, h => by
    have hm : Lib.index l [34, 34, 34] = -1 := by
      by_cases hm : Lib.index l [34, 34, 34] = -1
      · exact hm
      · have hge := Lib.index_ge l [34, 34, 34]
        obtain ⟨i, hi⟩ : ∃ i : Nat, Lib.index l [34, 34, 34] = i := ⟨(Lib.index l [34, 34, 34]).toNat, by omega⟩
        have := Lib.count_hit (by simp) hi
        omega
    rw [grdU_miss l hm]
    rfl
  | k + 1, l, h => by
    obtain ⟨i, hi⟩ := Lib.index_of_count (s := l) (old := [34, 34, 34]) (by omega)
    have hc : Lib.count l [34, 34, 34] = 1 + Lib.count (l.drop (i + 3)) [34, 34, 34] := Lib.count_hit (by simp) hi
    rw [Lib.replaceK_hit _ _ _ _ i hi, grdU_hit l i hi]
    congr 1
    exact replaceK_grd k _ (by rw [show ([34, 34, 34] : List UInt8).length = 3 from rfl]; omega)
theorem replaceAll_grd (l : List UInt8) : Lib.replaceAll l [34, 34, 34] [92, 34, 34, 34] = grdU l := by
  unfold Lib.replaceAll Lib.replace Lib.replaceNum
  rw [if_neg (by decide), if_pos (by omega)]
  exact replaceK_grd _ l rfl
/-- The bytes of characters. -/
def zU (zs : List Int) : List UInt8 := (zs.flatMap putB).map fun n => UInt8.ofNat n.toNat
theorem zU_cons (c : Int) (r : List Int) : zU (c :: r) = (putB c).map (fun n => UInt8.ofNat n.toNat) ++ zU r := by simp [zU]
theorem zU_one {c : Int} (r : List Int) (h : c < 128) : zU (c :: r) = UInt8.ofNat c.toNat :: zU r := by rw [zU_cons, putB_1 h]; rfl
theorem putB_hi {c : Int} (hs : scP c) (h : 128 ≤ c) : ∀ z ∈ putB c, 128 ≤ z ∧ z ≤ 255 := by
  unfold scP at hs
  intro z hz
  by_cases h2 : c < 2048
  · rw [putB_2 h h2] at hz; simp at hz; omega
  by_cases h3 : c < 65536
  · rw [putB_3 (by omega) h3] at hz; simp at hz; omega
  · rw [putB_4 (by omega)] at hz; simp at hz; omega
theorem u34 {z : Int} (h0 : 0 ≤ z) (h1 : z ≤ 255) (h : z ≠ 34) : UInt8.ofNat z.toNat ≠ 34 := by
  intro e
  have := congrArg UInt8.toNat e
  simp at this
  omega
theorem grdU_skip : ∀ (x l : List UInt8), (∀ b ∈ x, b ≠ 34) → grdU (x ++ l) = x ++ grdU l
  | [], l, _ => rfl
  | b :: x, l, h => by
    have hb := h b (by simp)
    rw [List.cons_append, grdU_no, grdU_skip x l (fun d hd => h d (by simp [hd])), List.cons_append]
    unfold triU
    simp [List.isPrefixOf, Ne.symm hb]
/-- the first byte of characters is a quote where the first character is -/
theorem zU_34 {zs : List Int} {l : List UInt8} (hs : ∀ c ∈ zs, scP c) (h : zU zs = 34 :: l) : ∃ r, zs = 34 :: r ∧ l = zU r := by
  cases zs with
  | nil => simp [zU] at h
  | cons c r =>
    have hc := hs c (by simp)
    by_cases h1 : c < 128
    · rw [zU_one r h1] at h
      injection h with h2 h3
      have h0 : 0 ≤ c := by unfold scP at hc; omega
      by_cases h4 : c = 34
      · exact ⟨r, by rw [h4], h3.symm⟩
      · exact absurd h2 (u34 h0 (by omega) h4)
    · exfalso
      rw [zU_cons] at h
      have hp := putB_len c
      have hh := putB_hi hc (by omega)
      cases hP : putB c with
      | nil => rw [hP] at hp; simp at hp
      | cons z q =>
        rw [hP] at h hh
        simp only [List.map_cons, List.cons_append] at h
        injection h with h2 h3
        have := hh z (by simp)
        exact u34 (by omega) (by omega) (by omega) h2
theorem grdU_zU : ∀ (n : Nat) (zs : List Int), zs.length ≤ n → (∀ c ∈ zs, scP c) → grdU (zU zs) = zU (grd zs)
  | _, [], _, _ => by rw [grd_nil]; exact grdU_nil
  | 0, c :: r, h, _ => by simp at h
  | n + 1, c :: r, h, hs => by
    have hr : r.length ≤ n := by simp at h; omega
    have hsr : ∀ d ∈ r, scP d := fun d hd => hs d (by simp [hd])
    have hc := hs c (by simp)
    cases ht : tri (c :: r)
    · rw [grd_no ht]
      by_cases h1 : c < 128
      · rw [zU_one r h1, zU_one _ h1, grdU_no, grdU_zU n r hr hsr]
        cases hu : triU (UInt8.ofNat c.toNat :: zU r)
        · rfl
        · exfalso
          unfold triU at hu
          rw [List.isPrefixOf_iff_prefix] at hu
          obtain ⟨t, hu2⟩ := hu
          simp only [List.cons_append, List.nil_append] at hu2
          have e1 : zU (c :: r) = 34 :: 34 :: 34 :: t := by rw [zU_one r h1]; exact hu2.symm
          obtain ⟨r1, q1, q2⟩ := zU_34 hs e1
          obtain ⟨r2, q3, q4⟩ := zU_34 (fun d hd => hs d (by rw [q1]; simp [hd])) q2.symm
          obtain ⟨r3, q5, q6⟩ := zU_34 (fun d hd => hs d (by rw [q1, q3]; simp [hd])) q4.symm
          rw [q1, q3, q5] at ht
          simp [tri] at ht
      · rw [zU_cons, zU_cons, grdU_skip _ _ ?_, grdU_zU n r hr hsr]
        intro b hb
        rw [List.mem_map] at hb
        obtain ⟨z, hz, rfl⟩ := hb
        have := putB_hi hc (by omega) z hz
        exact u34 (by omega) (by omega) (by omega)
    · obtain ⟨x, hx⟩ := tri_form ht
      injection hx with h1 h2
      subst h1 h2
      rw [grd_yes ht]
      have e : zU (34 :: 34 :: 34 :: x) = 34 :: 34 :: 34 :: zU x := by rw [zU_one _ (by omega), zU_one _ (by omega), zU_one _ (by omega)]; rfl
      have e2 : ∀ y, zU (92 :: 34 :: 34 :: 34 :: y) = 92 :: 34 :: 34 :: 34 :: zU y := fun y => by rw [zU_one _ (by omega), zU_one _ (by omega), zU_one _ (by omega), zU_one _ (by omega)]; rfl
      rw [e, grdU_yes (by rfl), e2]
      simp only [List.drop_succ_cons, List.drop_zero]
      rw [grdU_zU n x (by simp at h; omega) (fun d hd => hs d (by simp [hd]))]
/-- Guarding line by line. -/
theorem tri_cut (c : Int) (x r : List Int) : tri (c :: (x ++ 10 :: r)) = tri (c :: x) := by
  match x with
  | [] => simp [tri]
  | [a] => simp [tri]
  | a :: b :: y => simp [tri]
theorem grd_cut : ∀ (n : Nat) (x r : List Int), x.length ≤ n → grd (x ++ 10 :: r) = grd x ++ 10 :: grd r
  | _, [], r, _ => by
    rw [List.nil_append, grd_nil, grd_no]
    · rfl
    · simp [tri]
  | 0, c :: x, _, h => by simp at h
  | n + 1, c :: x, r, h => by
    rw [List.cons_append]
    cases ht : tri (c :: x)
    · rw [grd_no ht, grd_no (by rw [tri_cut]; exact ht), grd_cut n x r (by simp at h; omega), List.cons_append]
    · obtain ⟨y, hy⟩ := tri_form ht
      injection hy with h1 h2
      subst h1 h2
      rw [grd_yes ht, grd_yes (by rw [tri_cut]; exact ht)]
      simp only [List.cons_append, List.drop_succ_cons, List.drop_zero]
      rw [grd_cut n y r (by simp at h; omega)]
theorem grd_jn : ∀ (L : List (List Int)), L ≠ [] → L.flatMap (fun x => grd x ++ [10]) = grd (jn L) ++ [10]
  | [], h => absurd rfl h
  | [x], _ => by simp [jn]
  | x :: y :: r, _ => by
    rw [List.flatMap_cons, grd_jn (y :: r) (by simp), jn, grd_cut x.length x _ (Nat.le_refl _)]
    simp
end Go.Proofs.YtcehhkjlbhodeaaDoor.sv
