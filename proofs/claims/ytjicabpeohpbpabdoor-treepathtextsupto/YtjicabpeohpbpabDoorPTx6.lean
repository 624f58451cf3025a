import Derived.Test.YtjicabpeohpbpabDoorPTx5
namespace Go.Proofs.YtjicabpeohpbpabDoor.stp
open Go.ChangeShapes Go.WideShapes Go.ChangeAt Go.RowKit
set_option linter.unusedVariables false
abbrev ex3 : List St := [⟨⟨#[48]⟩, 0, false⟩, ⟨⟨#[]⟩, 0, true⟩, ⟨⟨#[126, 47]⟩, 0, false⟩]
theorem itoa0 : Lib.itoa 0 = [48] := by
  unfold Lib.itoa
  rw [if_neg (by decide)]
  unfold Lib.decDigits
  rw [dif_pos (by decide)]
  rfl
theorem ptx_ex3 : ptx ex3 = [47, 126, 50, 48, 47, 48, 47, 126, 48, 126, 49] := by
  simp only [ex3, ptx, List.flatMap_cons, List.flatMap_nil, encS, itoa0, if_true, Bool.false_eq_true, if_false]
  decide
theorem pth_three (w : World) (n0 n1 n2 : ByteArray) (x0 x1 x2 : Int) (t0 t1 t2 : Bool) (t : TypeId) :
    Pth (w.alloc (.cells #[.string n0, .int .i64 x0, .bool t0, .string n1, .int .i64 x1, .bool t1, .string n2, .int .i64 x2, .bool t2] t)) (some ⟨w.heap.size, 0, none⟩) 3 [⟨n0, x0, t0⟩, ⟨n1, x1, t1⟩, ⟨n2, x2, t2⟩] := by
  refine ⟨rfl, .inr ⟨w.heap.size, 0, rfl, by simp, fun i hi => ?_⟩⟩
  match i, hi with
  | 0, _ => exact ⟨_, rfl, by simp [St3]⟩
  | 1, _ => exact ⟨_, rfl, by simp [St3]⟩
  | 2, _ => exact ⟨_, rfl, by simp [St3]⟩
theorem fit_ex3 : Fit ex3 := by
  intro s hs
  simp [ex3] at hs
  rcases hs with rfl | rfl | rfl <;> decide
theorem wt_ex3 : wt ex3 ≤ 1000000000 := by decide
theorem rd_of {s : ByteArray} {Q : List St} (h : s.data.toList = ptx Q) (hf : Fit Q) (hp : Q.map plS = Q) : rdQ s = Q := by
  have e : s = ⟨(ptx Q).toArray⟩ := by apply bytes_ext; rw [toList_data, toList_data, h]
  rw [e, rdQ_ptx Q hf, hp]
/-- the two readings agree -/
def Both (s : ByteArray) (v1 v2 : Value) (b1 b2 : Bool) (w : World) : Prop := b1 = b2 ∧ ∃ (n : Nat) (a1 a2 : Option Addr) (c1 c2 : Nat) (ss : List St), n ≤ 8388608 ∧ v1 = .slice a1 n c1 ∧ v2 = .slice a2 n c2 ∧ Pth w a1 n ss ∧ Pth w a2 n ss
set_option maxHeartbeats 1000000 in
set_option maxRecDepth 6000 in
theorem pathTexts (aA : Option Addr) (nA cA : Nat) (A : List St) (s : ByteArray) (w : World) (hA : Pth w aA nA A)
    (bA : nA ≤ 1048576) (bs : s.size ≤ 8388607) (fA : Fit A) (wA : wt A ≤ 8388608) (he : Env w) :
    Calls Tryd.prog 3 #[.slice aA nA cA, .string s] w fun e w' => e = .returned (.bool true) ∧ Below w.heap.size w w' := by
  go_enter Tryd.func3, Tryd.ntmps3
  go_wp2_with fail
  have B0 : Below w.heap.size w (w.alloc (.cells #[.string ⟨#[48]⟩, .int .i64 0, .bool false, .string ⟨#[]⟩, .int .i64 0, .bool true, .string ⟨#[126, 47]⟩, .int .i64 0, .bool false] 25)) := (Below.refl _ _).alloc (Nat.le_refl _) _
  have E0 := he.below B0
  refine (pathText (some ⟨w.heap.size, 0, none⟩) 3 3 ex3 _ (pth_three w _ _ _ _ _ _ _ _ _ _) (by decide) fit_ex3 wt_ex3 E0.tab).mono ?_
  rintro e w1 ⟨rfl, b1⟩
  rw [ptx_ex3]
  have B1 := B0.trans (b1.mono B0.size)
  have E1 := he.below B1
  clear b1 B0 E0
  go_wp2_with fail
  refine (pathRead_any s w1 E1 (by omega)).mono ?_
  rintro e w2 ⟨hor, b2⟩
  have B2 := B1.trans (b2.mono B1.size)
  have E2 := he.below B2
  obtain ⟨v1, o1, rfl, hv1⟩ : ∃ v1 o1, e = .returned (.tuple #[v1, .bool o1]) ∧ ((ptx (rdQ s) = s.data.toList ∧ o1 = true ∧ ∃ a c, v1 = .slice a (rdQ s).length c ∧ Pth w2 a (rdQ s).length (rdQ s)) ∨ (¬ ptx (rdQ s) = s.data.toList ∧ o1 = false ∧ v1 = .slice none 0 0)) := by
    rcases hor with ⟨h, a, c, rfl, hP, _, _⟩ | ⟨h, rfl⟩
    · exact ⟨_, _, rfl, .inl ⟨h, rfl, a, c, rfl, hP⟩⟩
    · exact ⟨_, _, rfl, .inr ⟨h, rfl, rfl⟩⟩
  have hv1 := hide hv1
  clear hor b2 B1 E1
  go_wp2_with fail
  refine (refRead_any s w2 E2.tab (by omega)).mono ?_
  rintro e w3 ⟨hor, b3⟩
  have B3 := B2.trans (b3.mono B2.size)
  have E3 := he.below B3
  obtain ⟨v2, o2, rfl, hb⟩ : ∃ v2 o2, e = .returned (.tuple #[v2, .bool o2]) ∧ Both s v1 v2 o1 o2 w3 := by
    rcases unhide hv1 with ⟨h, rfl, a1, c1, rfl, hP1⟩ | ⟨h, rfl, rfl⟩
    · rcases hor with ⟨Q, hQ, hf, hp, a2, c2, rfl, hP2⟩ | ⟨hno, _⟩
      · have hq := rd_of hQ hf hp
        rw [hq] at hP1 ⊢
        have hl : Q.length ≤ 8388608 := by
          have := rdQ_len s
          rw [hq, pcs_len] at this
          have := countB_le s ⟨#[47]⟩
          omega
        exact ⟨_, _, rfl, rfl, Q.length, a1, a2, c1, c2, Q, hl, rfl, rfl, hP1.below b3, hP2⟩
      · exact absurd h hno
    · rcases hor with ⟨Q, hQ, hf, hp, a2, c2, rfl, hP2⟩ | ⟨hno, rfl⟩
      · exfalso
        apply h
        rw [rd_of hQ hf hp]
        exact hQ.symm
      · exact ⟨_, _, rfl, rfl, 0, none, none, 0, 0, [], by omega, rfl, rfl, ⟨rfl, .inl rfl⟩, ⟨rfl, .inl rfl⟩⟩
  clear hor b3 B2 E2 hv1
  obtain ⟨ho, n, a1, a2, c1, c2, ss, hn, rfl, rfl, hP1, hP2⟩ := hb
  subst o2
  have hn := hide hn
  have hE1 := eq_texts (L := ptx A) rfl
  have main : ∀ (w4 : World), Below w.heap.size w w4 → True := fun _ _ => trivial
  clear main
  cases o1
  all_goals (
    go_wp2_with fail
    refine (pathText aA nA cA A w3 (hA.below B3) (by omega) fA (by omega) E3.tab).mono ?_
    rintro e w4 ⟨rfl, b4⟩
    have B4 := B3.trans (b4.mono B3.size)
    have E4 := he.below B4
    have hP1 := hP1.below b4
    have hP2 := hP2.below b4
    go_wp2_with fail
    refine (refText aA nA cA A w4 (hA.below B4) (by omega) fA (by omega) E4.tab).mono ?_
    rintro e w5 ⟨rfl, b5⟩
    have B5 := B4.trans (b5.mono B4.size)
    have hP1 := hP1.below b5
    have hP2 := hP2.below b5
    go_wp2_with fail
    refine (same_any a1 a2 n c1 c2 ss w5 hP1 hP2 (unhide hn)).mono ?_
    rintro e w6 ⟨rfl, b6⟩
    go_wp2
    go_ret
    exact ⟨rfl, B5.trans (b6.mono B5.size)⟩)
end Go.Proofs.YtjicabpeohpbpabDoor.stp
