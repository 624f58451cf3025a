import Derived.Test.YtjicabpeohpbpacDoorOrdL
import Derived.Test.YtjicabpeohpbpacDoorStpO
import Derived.Laws.Concat
namespace Go.Proofs.YtjicabpeohpbpacDoor.stp
open Go.ChangeShapes Go.WideShapes Go.ChangeAt Go.RowKit
set_option linter.unusedVariables false
theorem run_join (L : List UInt8) (w : World) (h : L.length ≤ 1000000000) : (Op.stringOp .add ⟨L.toArray⟩ ⟨#[47]⟩).run Tryd.prog w = .ok (.string ⟨(L ++ [47]).toArray⟩) w := by
  have e1 : (⟨L.toArray⟩ : ByteArray).size = L.length := rfl
  have e2 : (⟨#[47]⟩ : ByteArray).size = 1 := rfl
  rw [run_string_add_sum w _ _ (by rw [e1, e2]; omega)]
  have e : (⟨L.toArray⟩ : ByteArray) ++ (⟨#[47]⟩ : ByteArray) = ⟨(L ++ [47]).toArray⟩ := by
    apply bytes_ext
    rw [toList_data, toList_data]
    show ((⟨L.toArray⟩ : ByteArray) ++ (⟨#[47]⟩ : ByteArray)).data.toList = _
    rw [ByteArray.data_append]
    simp
  rw [e]
theorem eq_texts {L M : List UInt8} (h : L = M) : ((⟨L.toArray⟩ : ByteArray).toList == (⟨M.toArray⟩ : ByteArray).toList) = true := by
  rw [h]
  simp
theorem ne_texts {L M : List UInt8} (h : ¬ L = M) : ((⟨L.toArray⟩ : ByteArray).toList == (⟨M.toArray⟩ : ByteArray).toList) = false := by
  rw [toList_data, toList_data]
  simpa using h
theorem hp_is {L M : List UInt8} {b : Bool} (h : Lib.hasPrefix L M = b) : Lib.hasPrefix (⟨L.toArray⟩ : ByteArray).data.toList (⟨M.toArray⟩ : ByteArray).data.toList = b := h
theorem und_yes {A B : List St} (h : ptx A = ptx B) : undS A B = true := by
  rw [und_text]
  simp [h]
theorem und_no {A B : List St} (h : ¬ ptx A = ptx B) : undS A B = Lib.hasPrefix (ptx A) (ptx B ++ [47]) := by
  rw [und_text]
  simp [h]
theorem tab_now {w w6 : World} {name : String} {k : IntKind} {zs : List Int} (h : Lib.TabBelow Tryd.prog w.heap.size w6 name k zs) (hs : w.heap.size ≤ w6.heap.size) : Lib.TabBelow Tryd.prog w6.heap.size w6 name k zs :=
  fun w' hb => h w' (hb.mono hs)
theorem one_step (w : World) (nm : ByteArray) (ix : Int) (it : Bool) (t : TypeId) : St3 (w.alloc (.cells #[.string nm, .int .i64 ix, .bool it] t)) w.heap.size 0 nm ix it := by
  unfold St3
  simp
set_option maxHeartbeats 1000000 in
set_option maxRecDepth 6000 in
theorem orderLaws (aA aB aC : Option Addr) (nA cA nB cB nC cC : Nat) (A B C : List St) (w : World) (hA : Pth w aA nA A) (hB : Pth w aB nB B) (hC : Pth w aC nC C) (hc : nA ≤ cA) (hn : aA = none → cA = 0)
    (bA : nA ≤ 1048576) (bB : nB ≤ 1048576) (bC : nC ≤ 1048576) (fA : Fit A) (fB : Fit B) (wA : wt A ≤ 1000000000) (wB : wt B ≤ 1000000000)
    (htab : Lib.TabBelow Tryd.prog w.heap.size w "internal/strconv.uint64pow10" .u64 Lib.pow10Tab) :
    Calls Tryd.prog 4 #[.slice aA nA cA, .slice aB nB cB, .slice aC nC cC] w fun e w' => e = .returned (.bool true) ∧ Below w.heap.size w w' := by
  go_enter Tryd.func4, Tryd.ntmps4
  go_wp2_with fail
  have k1 := one_step w ⟨#[120]⟩ 0 false 32
  refine (compare_any none _ 0 0 1 1 [] [⟨⟨#[120]⟩, 0, false⟩] _ ⟨rfl, .inl rfl⟩ (pth_one _ _ _ _ _ (by simp) k1) (by decide) (by decide)).mono ?_
  rintro e w1 ⟨rfl, hb1⟩
  rw [show lexS [] [⟨⟨#[120]⟩, 0, false⟩] = -1 from rfl]
  have B1 : Below w.heap.size w w1 := ((Below.refl _ _).alloc (Nat.le_refl _) _).trans (hb1.mono (by simp))
  clear hb1 k1
  go_wp2_with fail
  refine (compare_any aA aB nA cA nB cB A B w1 (hA.below B1) (hB.below B1) (by omega) (by omega)).mono ?_
  rintro e w2 ⟨rfl, hb2⟩
  have B2 := B1.trans (hb2.mono B1.size)
  clear hb2 B1
  go_wp2_with fail
  refine (compare_any aB aA nB cB nA cA B A w2 (hB.below B2) (hA.below B2) (by omega) (by omega)).mono ?_
  rintro e w3 ⟨rfl, hb3⟩
  have B3 := B2.trans (hb3.mono B2.size)
  clear hb3 B2
  go_wp2_with fail
  refine (compare_any aB aC nB cB nC cC B C w3 (hB.below B3) (hC.below B3) (by omega) (by omega)).mono ?_
  rintro e w4 ⟨rfl, hb4⟩
  have B4 := B3.trans (hb4.mono B3.size)
  clear hb4 B3
  go_wp2_with fail
  refine (compare_any aA aC nA cA nC cC A C w4 (hA.below B4) (hC.below B4) (by omega) (by omega)).mono ?_
  rintro e w5 ⟨rfl, hb5⟩
  have B5 := B4.trans (hb5.mono B4.size)
  clear hb5 B4
  have f0 := lex_anti A B
  have f1 := lex_trans A B C
  have f2 := fun h => lex_zero (a := A) (b := B) h C
  have f3 := hide (@lex_und A B)
  have t1 := lex_tri A B
  have t2 := lex_tri B C
  have t3 := lex_tri A C
  rw [f0]
  clear f0
  generalize lexS A B = x at *
  generalize lexS B C = y at *
  generalize lexS A C = z at *
  rcases t1 with rfl | rfl | rfl <;> rcases t2 with rfl | rfl | rfl <;> rcases t3 with rfl | rfl | rfl <;> first | (exfalso; omega) | skip
  all_goals clear f1 f2
  all_goals (
    go_wp2_with fail
    refine (under_any aA aB nA cA nB cB A B w5 (hA.below B5) (hB.below B5) hc hn (by omega) (by omega)).mono ?_
    rintro e w6 ⟨rfl, hb6⟩
    have B6 := B5.trans (hb6.mono B5.size)
    clear hb6 B5
    by_cases hE : ptx A = ptx B
    · have hE1 := eq_texts hE
      have hU := und_yes hE
      rw [hU]
      have f4 := unhide f3 hU
      have hE := hide hE
      clear hU f3
      first
        | (exfalso; omega)
        | (go_wp2_with fail
           refine (pathText aA nA cA A w6 (hA.below B6) (by omega) fA wA (tab_now (htab.on B6) B6.size)).mono ?_
           rintro e w7 ⟨rfl, hb7⟩
           have B7 := B6.trans (hb7.mono B6.size)
           clear hb7 B6
           go_wp2_with fail
           refine (pathText aB nB cB B w7 (hB.below B7) (by omega) fB wB (tab_now (htab.on B7) B7.size)).mono ?_
           rintro e w8 ⟨rfl, hb8⟩
           have B8 := B7.trans (hb8.mono B7.size)
           clear hb8 B7
           go_wp2
           go_ret
           exact ⟨rfl, B8⟩)
    · have hE1 := ne_texts hE
      have hU := und_no hE
      have hlB := Nat.le_trans (ptx_len B fB) wB
      have hj := fun w => run_join (ptx B) w hlB
      rw [hU]
      rw [hU] at f3
      clear hU hlB
      cases hP : Lib.hasPrefix (ptx A) (ptx B ++ [47])
      · have hP := hide hP
        clear f3
        go_wp2_with fail
        refine (pathText aA nA cA A w6 (hA.below B6) (by omega) fA wA (tab_now (htab.on B6) B6.size)).mono ?_
        rintro e w7 ⟨rfl, hb7⟩
        have B7 := B6.trans (hb7.mono B6.size)
        clear hb7 B6
        go_wp2_with fail
        refine (pathText aB nB cB B w7 (hB.below B7) (by omega) fB wB (tab_now (htab.on B7) B7.size)).mono ?_
        rintro e w8 ⟨rfl, hb8⟩
        have B8 := B7.trans (hb8.mono B7.size)
        clear hb8 B7
        go_wp2_with fail
        refine (Tryd.strings_HasPrefix _ _ _).mono ?_
        rintro e w9 ⟨rfl, hw9⟩
        subst w9
        rw [hp_is (unhide hP)]
        go_wp2
        go_ret
        exact ⟨by first | rfl | simp [hE], B8⟩
      · have f4 := unhide f3 hP
        have hP := hide hP
        clear f3
        first
          | (exfalso; omega)
          | (go_wp2_with fail
             refine (pathText aA nA cA A w6 (hA.below B6) (by omega) fA wA (tab_now (htab.on B6) B6.size)).mono ?_
             rintro e w7 ⟨rfl, hb7⟩
             have B7 := B6.trans (hb7.mono B6.size)
             clear hb7 B6
             go_wp2_with fail
             refine (pathText aB nB cB B w7 (hB.below B7) (by omega) fB wB (tab_now (htab.on B7) B7.size)).mono ?_
             rintro e w8 ⟨rfl, hb8⟩
             have B8 := B7.trans (hb8.mono B7.size)
             clear hb8 B7
             go_wp2_with fail
             refine (Tryd.strings_HasPrefix _ _ _).mono ?_
             rintro e w9 ⟨rfl, hw9⟩
             subst w9
             rw [hp_is (unhide hP)]
             go_wp2
             go_ret
             exact ⟨by first | rfl | simp [hE], B8⟩))
end Go.Proofs.YtjicabpeohpbpacDoor.stp
