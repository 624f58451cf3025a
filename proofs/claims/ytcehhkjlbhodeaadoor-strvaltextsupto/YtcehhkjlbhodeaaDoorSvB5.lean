import Derived.Test.YtcehhkjlbhodeaaDoorSvB4
import Derived.Test.YtcehhkjlbhodeaaDoorDecS
namespace Go.Proofs.YtcehhkjlbhodeaaDoor.sv
open Go.ChangeShapes Go.WideShapes Go.ChangeAt Go.RowKit
open mem
open ints (hide unhide soP)
set_option linter.unusedVariables false
theorem grdU_len : ∀ (n : Nat) (l : List UInt8), l.length ≤ n → (grdU l).length ≤ 4 * l.length
  | _, [], _ => by rw [grdU_nil]; simp
  | 0, c :: r, h => by simp at h
  | n + 1, c :: r, h => by
    have hr : r.length ≤ n := by simp at h; omega
    cases ht : triU (c :: r)
    · rw [grdU_no ht]
      have := grdU_len n r hr
      simp only [List.length_cons]
      omega
    · rw [grdU_yes ht]
      have := grdU_len n (r.drop 2) (by simp; omega)
      simp only [List.length_cons, List.length_drop] at *
      omega
/-- the library's one number -/
def Mx (w : World) : Prop := ∃ m, w.cell? ⟨0, 0, none⟩ = some (.int .i64 m)
theorem Mx.below {w w' : World} (h : Mx w) (hb : Below w.heap.size w w') : Mx w' := by
  obtain ⟨m, h1⟩ := h
  exact ⟨m, (hb.cell (p := ⟨0, 0, none⟩) (World.block_lt_of_cell? w _ h1)).trans h1⟩
theorem repl_ok (s : ByteArray) (w : World) (hM : Mx w) (hs : s.size ≤ 1073741824) :
    Calls Tryd.prog 19 #[.string s, .string ⟨#[34, 34, 34]⟩, .string ⟨#[92, 34, 34, 34]⟩] w fun e w' => e = .returned (.string ⟨(Lib.replaceAll s.data.toList [34, 34, 34] [92, 34, 34, 34]).toArray⟩) ∧ Below w.heap.size w w' := by
  obtain ⟨m, hm⟩ := hM
  have h1 : Lib.countB s ⟨#[34, 34, 34]⟩ ≤ s.size + 1 := by
    have := Lib.count_le s.data.toList (⟨#[34, 34, 34]⟩ : ByteArray).data.toList
    rw [Array.length_toList] at this
    exact this
  exact Tryd.strings_ReplaceAll s ⟨#[34, 34, 34]⟩ ⟨#[92, 34, 34, 34]⟩ m w (by omega) hm (by show 1 ≤ 3; omega) (by
    rw [show (⟨#[92, 34, 34, 34]⟩ : ByteArray).size = 4 from rfl]
    omega)
theorem bt_empty (w : World) :
    Calls Tryd.prog 6 #[.string ⟨#[]⟩] w fun e w' => e = .returned (.tuple #[.string (strOfNums [34, 34, 34, 34, 34, 34]), .bool true]) ∧ Below w.heap.size w w' := by
  go_enter Tryd.func6, Tryd.ntmps6
  go_wp2
  go_ret2
  exact ⟨rfl, Below.refl _ _⟩
set_option maxHeartbeats 4000000 in
theorem bt_bad (s : ByteArray) (w : World) (hs : s.size ≤ 1048576) (hne : s.toList.isEmpty = false) (h : (decZ (bytesZ s)).2 < s.size) :
    Calls Tryd.prog 6 #[.string s] w fun e w' => e = .returned (.tuple #[.string ⟨#[]⟩, .bool false]) ∧ Below w.heap.size w w' := by
  have D := hide (decode_str s w (by omega))
  obtain ⟨g, hg⟩ : ∃ g, g = (decZ (bytesZ s)).2 := ⟨_, rfl⟩
  rw [← hg] at h D
  clear hg
  go_enter Tryd.func6, Tryd.ntmps6
  go_wp2_with fail
  refine (unhide D).mono ?_
  rintro e w1 ⟨v, rfl, ho, b1⟩
  clear D ho
  go_wp2
  go_ret2
  exact ⟨rfl, b1⟩
set_option maxHeartbeats 4000000 in
theorem bt_yes (s : ByteArray) (w : World) (hM : Mx w) (hs : s.size ≤ 1048576) (hne : s.toList.isEmpty = false) (zs : List Int) (hz : zs = (decZ (bytesZ s)).1) (h : (decZ (bytesZ s)).2 = s.size) (hzl : zs.length ≤ s.size) (bg : ByteArray)
    (hb : bg = if (lns zs).length = 1 ∧ 0 < ind ((lns zs).getD 0 []) then ⟨#[]⟩ else ⟨#[10]⟩) :
    Calls Tryd.prog 6 #[.string s] w fun e w' => e = .returned (if fitB zs = true then (if pos (lns zs) = true then .tuple #[.string ((⟨#[34, 34, 34]⟩ : ByteArray) ++ bg ++ ⟨(Lib.replaceAll s.data.toList [34, 34, 34] [92, 34, 34, 34]).toArray⟩ ++ ⟨#[10]⟩ ++ ⟨#[34, 34, 34]⟩), .bool true] else .tuple #[.string ⟨#[]⟩, .bool false]) else .tuple #[.string ⟨#[]⟩, .bool false]) ∧ Below w.heap.size w w' := by
  have D := hide (decode_str s w (by omega))
  rw [h, ← hz] at D
  clear h hz
  have RA := hide (fun W (hW : Mx W) => repl_ok s W hW (by omega))
  obtain ⟨R, hR⟩ : ∃ R : ByteArray, R = ⟨(Lib.replaceAll s.data.toList [34, 34, 34] [92, 34, 34, 34]).toArray⟩ := ⟨_, rfl⟩
  have hRs : R.size ≤ 4194304 := by
    rw [hR, replaceAll_grd]
    have := grdU_len s.data.toList.length s.data.toList (Nat.le_refl _)
    have e : (⟨(grdU s.data.toList).toArray⟩ : ByteArray).size = (grdU s.data.toList).length := rfl
    have e2 : s.data.toList.length = s.size := by rw [Array.length_toList]; rfl
    rw [e]
    omega
  rw [← hR] at RA ⊢
  clear hR
  obtain ⟨l1, l2, l3⟩ := lines_bd zs
  rw [linesL_eq] at l1 l2 l3
  have HM := hide hM
  clear hM
  have HB0 := hide hb
  clear hb
  cases hf : fitB zs
  · go_enter Tryd.func6, Tryd.ntmps6
    go_wp2_with fail
    refine (unhide D).mono ?_
    rintro e w1 ⟨v, rfl, ho, b1⟩
    clear D
    obtain ⟨aC, cC, rfl, hrow⟩ := own_row ho
    clear ho
    have F := hide (fits_ok aC _ cC zs w1 hrow (by omega))
    rw [hf] at F
    clear hf
    have HR := hide hrow
    clear hrow
    go_wp2_with fail
    refine (unhide F).mono ?_
    rintro e w2 ⟨rfl, rfl⟩
    go_wp2
    go_ret2
    exact ⟨rfl, b1⟩
  · have K := hide (fun b c W hW => keeps_ok b (lns zs).length c (lns zs) W hW (by omega) (by omega) (fun i => Nat.le_trans (l3 i) (by omega)))
    cases hp : pos (lns zs)
    · rw [hp] at K
      clear hp
      go_enter Tryd.func6, Tryd.ntmps6
      go_wp2_with fail
      refine (unhide D).mono ?_
      rintro e w1 ⟨v, rfl, ho, b1⟩
      clear D
      obtain ⟨aC, cC, rfl, hrow⟩ := own_row ho
      clear ho
      have F := hide (fits_ok aC _ cC zs w1 hrow (by omega))
      rw [hf] at F
      clear hf
      have HR := hide hrow
      clear hrow
      go_wp2_with fail
      refine (unhide F).mono ?_
      rintro e w2 ⟨rfl, rfl⟩
      clear F
      go_wp2_with fail
      refine (lines_any _ _ _ zs _ (unhide HR) (by omega)).mono ?_
      rintro e w3 ⟨v, gs, rfl, hat, b3⟩
      rw [linesL_eq] at hat
      obtain ⟨b, c, rfl, hL⟩ := lns_of hat (by omega)
      clear hat
      have HL := hide hL
      clear hL
      have HB := hide (b1.trans (b3.mono b1.size))
      clear b1 b3
      go_wp2_with fail
      refine (unhide K b c _ (unhide HL)).mono ?_
      rintro e w4 ⟨rfl, b4⟩
      have HB2 := hide ((unhide HB).trans (b4.mono (unhide HB).size))
      clear b4 HB
      go_wp2
      go_ret2
      exact ⟨rfl, unhide HB2⟩
    · rw [hp] at K
      have HP := hide hp
      clear hp
      go_enter Tryd.func6, Tryd.ntmps6
      go_wp2_with fail
      refine (unhide D).mono ?_
      rintro e w1 ⟨v, rfl, ho, b1⟩
      clear D
      obtain ⟨aC, cC, rfl, hrow⟩ := own_row ho
      clear ho
      have F := hide (fits_ok aC _ cC zs w1 hrow (by omega))
      rw [hf] at F
      clear hf
      have HR := hide hrow
      clear hrow
      go_wp2_with fail
      refine (unhide F).mono ?_
      rintro e w2 ⟨rfl, rfl⟩
      clear F
      go_wp2_with fail
      refine (lines_any _ _ _ zs _ (unhide HR) (by omega)).mono ?_
      rintro e w3 ⟨v, gs, rfl, hat, b3⟩
      rw [linesL_eq] at hat
      obtain ⟨b, c, rfl, hL⟩ := lns_of hat (by omega)
      clear hat
      have HL := hide hL
      clear hL
      have HB := hide (b1.trans (b3.mono b1.size))
      clear b1 b3
      go_wp2_with fail
      refine (unhide K b c _ (unhide HL)).mono ?_
      rintro e w4 ⟨rfl, b4⟩
      have HL4 := hide ((unhide HL).below b4)
      have HB2 := hide ((unhide HB).trans (b4.mono (unhide HB).size))
      clear b4 HB HL K
      have hRM := hide (unhide RA _ ((unhide HM).below (unhide HB2)))
      obtain ⟨n, hn⟩ : ∃ n, n = (lns zs).length := ⟨_, rfl⟩
      rw [← hn] at HL4 l1 l2 HB0 ⊢
      clear hn RA
      by_cases h1 : n = 1
      · subst h1
        obtain ⟨a1, c1, g1, r1⟩ := (unhide HL4).at_ 0 (by omega)
        have hle := (unhide HL4).le
        have I := hide (indent_ok a1 _ c1 _ w4 r1 (by have := l3 0; omega))
        obtain ⟨q, hq⟩ : ∃ q, q = ((lns zs).getD 0 []).length := ⟨_, rfl⟩
        rw [← hq] at g1 I
        obtain ⟨m, hm⟩ : ∃ m, m = ind ((lns zs).getD 0 []) := ⟨_, rfl⟩
        rw [← hm] at I HB0
        clear hq hm r1
        by_cases h0 : 0 < m
        · have eb := hide (show bg = ⟨#[]⟩ by rw [unhide HB0, if_pos ⟨rfl, h0⟩])
          go_wp2_with fail
          refine (unhide I).mono ?_
          rintro e w5 ⟨rfl, rfl⟩
          go_wp2_with fail
          refine (unhide hRM).mono ?_
          rintro e w6 ⟨rfl, b6⟩
          have HB3 := hide ((unhide HB2).trans (b6.mono (unhide HB2).size))
          clear b6 HB2
          go_wp2
          go_ret2
          rw [unhide eb]
          exact ⟨rfl, unhide HB3⟩
        · have eb := hide (show bg = ⟨#[10]⟩ by rw [unhide HB0, if_neg (by omega)])
          have h00 : ¬ (0 : Int) < (m : Int) := by omega
          go_wp2_with fail
          refine (unhide I).mono ?_
          rintro e w5 ⟨rfl, rfl⟩
          go_wp2_with fail
          refine (unhide hRM).mono ?_
          rintro e w6 ⟨rfl, b6⟩
          have HB3 := hide ((unhide HB2).trans (b6.mono (unhide HB2).size))
          clear b6 HB2
          go_wp2
          go_ret2
          rw [unhide eb]
          exact ⟨rfl, unhide HB3⟩
      · have eb := hide (show bg = ⟨#[10]⟩ by rw [unhide HB0, if_neg (by omega)])
        have n1 : ¬ (n : Int) = 1 := by omega
        have e1 : ((n : Int) == 1) = false := by simp; omega
        go_wp2_with fail
        refine (unhide hRM).mono ?_
        rintro e w6 ⟨rfl, b6⟩
        have HB3 := hide ((unhide HB2).trans (b6.mono (unhide HB2).size))
        clear b6 HB2
        go_wp2
        go_ret2
        rw [unhide eb]
        exact ⟨rfl, unhide HB3⟩
theorem bt_ok (s : ByteArray) (w : World) (hM : Mx w) (hs : s.size ≤ 1048576) :
    Calls Tryd.prog 6 #[.string s] w fun e w' => e = .returned (.tuple #[.string (bS s), .bool (bO s)]) ∧ Below w.heap.size w w' := by
  cases he : s.toList.isEmpty
  · unfold bS bO bT
    cases h : cln s
    · exact bt_bad s w hs he (cln_no h)
    · have hl := decZ_len (bytesZ s) (bytesZ_byt s)
      rw [cln_yes h] at hl
      obtain ⟨f1, f2⟩ := cln_flat s h
      have hB := bt_yes s w hM hs he _ rfl (cln_yes h) hl _ rfl
      have hne : (decZ (bytesZ s)).1 ≠ [] := by
        intro e
        rw [e] at f2
        have h0 : s.size = 0 := by rw [← bytesZ_len, f2]; rfl
        have h1 : s.data.toList = [] := List.eq_nil_of_length_eq_zero (by rw [Array.length_toList]; exact h0)
        have h2 : s = ⟨#[]⟩ := by
          cases s
          simp at h1
          rw [h1]
        rw [h2, ByteArray.toList_eq] at he
        cases he
      obtain ⟨zs, hzs⟩ : ∃ zs, zs = (decZ (bytesZ s)).1 := ⟨_, rfl⟩
      rw [← hzs] at hB f1 f2 hne ⊢
      simp only [if_true]
      cases hf : fitB zs
      · rw [btx_fit zs hf]
        rw [hf] at hB
        exact hB
      · rw [btx_pos zs hf hne]
        rw [hf] at hB
        cases hp : pos (lns zs)
        · rw [hp] at hB
          exact hB
        · rw [hp] at hB
          simp only [if_true] at hB ⊢
          rw [bs_join s zs f1 f2 hf hp _ rfl] at hB
          exact hB
  · have h2 : s = ⟨#[]⟩ := by
      have h1 : s.toList = [] := List.isEmpty_iff.1 he
      rw [ByteArray.toList_eq] at h1
      cases s
      simp at h1
      rw [h1]
    subst h2
    have e1 : bS ⟨#[]⟩ = strOfNums [34, 34, 34, 34, 34, 34] := by decide +kernel
    have e2 : bO ⟨#[]⟩ = true := by decide +kernel
    rw [e1, e2]
    exact bt_empty w
end Go.Proofs.YtcehhkjlbhodeaaDoor.sv
