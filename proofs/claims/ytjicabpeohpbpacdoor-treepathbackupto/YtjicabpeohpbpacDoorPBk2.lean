import Derived.Test.YtjicabpeohpbpacDoorPBk
namespace Go.Proofs.YtjicabpeohpbpacDoor.stp
open Go.ChangeShapes Go.WideShapes Go.ChangeAt Go.RowKit
set_option linter.unusedVariables false
theorem ok_ptx (ss : List St) (hf : Fit ss) : ptx (rdQ ⟨(ptx ss).toArray⟩) = (⟨(ptx ss).toArray⟩ : ByteArray).data.toList := by
  rw [rdQ_ptx ss hf, ptx_pl]
theorem count_is (ss : List St) : Lib.countByte (⟨(ptx ss).toArray⟩ : ByteArray).data.toList 47 = ss.length := count47 ss
set_option maxHeartbeats 1000000 in
set_option maxRecDepth 6000 in
theorem pathBack (aA aB : Option Addr) (nA cA nB cB : Nat) (A B : List St) (s : ByteArray) (w : World) (hA : Pth w aA nA A) (hB : Pth w aB nB B)
    (bA : nA ≤ 1048576) (bB : nB ≤ 1048576) (bs : s.size ≤ 8388608) (fA : Fit A) (fB : Fit B) (wA : wt A ≤ 8388608) (wB : wt B ≤ 8388608) (he : Env w) :
    Calls Tryd.prog 3 #[.slice aA nA cA, .slice aB nB cB, .string s] w fun e w' => e = .returned (.bool true) ∧ Below w.heap.size w w' := by
  have hlA := Nat.le_trans (ptx_len A fA) wA
  have hzA : (⟨(ptx A).toArray⟩ : ByteArray).size = (ptx A).length := rfl
  go_enter Tryd.func3, Tryd.ntmps3
  go_wp2_with fail
  refine (pathText aA nA cA A w hA (by omega) fA (by omega) he.tab).mono ?_
  rintro e w1 ⟨rfl, B1⟩
  have E1 := he.below B1
  go_wp2_with fail
  refine (pathRead_any ⟨(ptx A).toArray⟩ w1 E1 (by rw [hzA]; exact hlA)).mono ?_
  rintro e w2 ⟨hor, hb2⟩
  rcases hor with ⟨_, a2, c2, rfl, hP2, hc2, hn2⟩ | ⟨hno, _⟩
  case inr => exact absurd (ok_ptx A fA) hno
  have B2 := B1.trans (hb2.mono B1.size)
  have E2 := he.below B2
  clear hb2 B1 E1
  have hq := rdQ_ptx A fA
  have hql : (rdQ ⟨(ptx A).toArray⟩).length = nA := by rw [hq, List.length_map, hA.len]
  rw [hql] at hP2 hc2 ⊢
  rw [hq] at hP2
  clear hq hql
  go_wp2_with fail
  refine (clean_any aA nA cA A _ (hA.below B2) (by omega)).mono ?_
  rintro e w3 ⟨a3, c3, rfl, hP3, hb3⟩
  have B3 := B2.trans (hb3.mono B2.size)
  have hP2 := hP2.below hb3
  go_wp2_with fail
  refine (same_any a2 a3 nA c2 c3 (A.map plS) _ hP2 hP3 (by omega)).mono ?_
  rintro e w4 ⟨rfl, hb4⟩
  have B4 := B3.trans (hb4.mono B3.size)
  have E4 := he.below B4
  clear hP2 hP3 hb3 hb4 B3 B2 E2
  go_wp2_with fail
  refine (Tryd.strings_Count_one _ 47 _).mono ?_
  rintro e w5 ⟨rfl, rfl⟩
  rw [count_is, hA.len]
  go_wp2_with fail
  refine (pathRead_any s _ E4 bs).mono ?_
  rintro e w6 ⟨hor, hb6⟩
  have B6 := B4.trans (hb6.mono B4.size)
  have E6 := he.below B6
  clear B4 hb6 E4
  have iff := ptx_eq A B
  rcases hor with ⟨hs, a6, c6, rfl, hP6, hc6, hn6⟩ | ⟨hs, rfl⟩
  · have hln := hide (rdQ_len s)
    have hpl := pcs_len s
    have hcb := countB_le s ⟨#[47]⟩
    have hle : (rdQ s).length ≤ 4611686018427387903 := by have := unhide hln; omega
    go_wp2_with fail
    refine (pathText a6 _ c6 (rdQ s) w6 hP6 hle (rdQ_fit s) (rdQ_wt s bs) E6.tab).mono ?_
    rintro e w7 ⟨rfl, hb7⟩
    have B7 := B6.trans (hb7.mono B6.size)
    have E7 := he.below B7
    have hS1 := eq_bytes hs
    have hs := hide hs
    clear hb7 B6 E6 hpl hcb hP6
    by_cases hE : ptx A = ptx B
    · have hE1 := eq_texts hE.symm
      have hz := iff.1 hE
      have hE2 : (ptx B == ptx A) = true := by rw [beq_iff_eq]; exact hE.symm
      clear iff hE
      go_wp2_with fail
      refine (pathText aB nB cB B w7 (hB.below B7) (by omega) fB (by omega) E7.tab).mono ?_
      rintro e w8 ⟨rfl, hb8⟩
      have B8 := B7.trans (hb8.mono B7.size)
      go_wp2_with fail
      refine (compare_any aA aB nA cA nB cB A B w8 (hA.below B8) (hB.below B8) (by omega) (by omega)).mono ?_
      rintro e w9 ⟨rfl, hb9⟩
      rw [hz]
      go_wp2
      go_ret
      exact ⟨by simp, B8.trans (hb9.mono B8.size)⟩
    · have hE1 := ne_texts (fun h => hE h.symm)
      have hE3 : ¬ ptx B = ptx A := fun h => hE h.symm
      have hz : ¬ lexS A B = 0 := fun h => hE (iff.2 h)
      have hE2 : (ptx B == ptx A) = false := by rw [beq_eq_false_iff_ne]; exact hE3
      have hz2 : (lexS A B == 0) = false := by rw [beq_eq_false_iff_ne]; exact hz
      clear iff hE
      go_wp2_with fail
      refine (pathText aB nB cB B w7 (hB.below B7) (by omega) fB (by omega) E7.tab).mono ?_
      rintro e w8 ⟨rfl, hb8⟩
      have B8 := B7.trans (hb8.mono B7.size)
      go_wp2_with fail
      refine (compare_any aA aB nA cA nB cB A B w8 (hA.below B8) (hB.below B8) (by omega) (by omega)).mono ?_
      rintro e w9 ⟨rfl, hb9⟩
      go_wp2
      go_ret
      exact ⟨by simp, B8.trans (hb9.mono B8.size)⟩
  · clear hs
    by_cases hE : ptx A = ptx B
    · have hE1 := eq_texts hE.symm
      have hz := iff.1 hE
      have hE2 : (ptx B == ptx A) = true := by rw [beq_iff_eq]; exact hE.symm
      clear iff hE
      go_wp2_with fail
      refine (pathText aB nB cB B w6 (hB.below B6) (by omega) fB (by omega) E6.tab).mono ?_
      rintro e w8 ⟨rfl, hb8⟩
      have B8 := B6.trans (hb8.mono B6.size)
      go_wp2_with fail
      refine (compare_any aA aB nA cA nB cB A B w8 (hA.below B8) (hB.below B8) (by omega) (by omega)).mono ?_
      rintro e w9 ⟨rfl, hb9⟩
      rw [hz]
      go_wp2
      go_ret
      exact ⟨by simp, B8.trans (hb9.mono B8.size)⟩
    · have hE1 := ne_texts (fun h => hE h.symm)
      have hE3 : ¬ ptx B = ptx A := fun h => hE h.symm
      have hz : ¬ lexS A B = 0 := fun h => hE (iff.2 h)
      have hE2 : (ptx B == ptx A) = false := by rw [beq_eq_false_iff_ne]; exact hE3
      have hz2 : (lexS A B == 0) = false := by rw [beq_eq_false_iff_ne]; exact hz
      clear iff hE
      go_wp2_with fail
      refine (pathText aB nB cB B w6 (hB.below B6) (by omega) fB (by omega) E6.tab).mono ?_
      rintro e w8 ⟨rfl, hb8⟩
      have B8 := B6.trans (hb8.mono B6.size)
      go_wp2_with fail
      refine (compare_any aA aB nA cA nB cB A B w8 (hA.below B8) (hB.below B8) (by omega) (by omega)).mono ?_
      rintro e w9 ⟨rfl, hb9⟩
      go_wp2
      go_ret
      exact ⟨by simp, B8.trans (hb9.mono B8.size)⟩
end Go.Proofs.YtjicabpeohpbpacDoor.stp
