import Derived.Test.YtfjoaifcfmcnfabGreatDoorJoU
import Derived.Test.YtfjoaifcfmcnfabGreatDoorJoSp
namespace Go.Proofs.YtfjoaifcfmcnfabGreatDoor.jsn
open Go.ChangeShapes Go.WideShapes Go.ChangeAt Go.RowKit
open mem vl Go.Maps
open ints (hide unhide)
set_option linter.unusedVariables false
theorem str_back (s : ByteArray) : strOfNums (zB s.data.toList) = s := by
  have hb : Byt (zB s.data.toList) := bytesZ_byt s
  have h := bytesZ_str (zB s.data.toList) hb
  have h2 : zB (strOfNums (zB s.data.toList)).data.toList = zB s.data.toList := h
  have h3 := zB_inj h2
  cases hS : strOfNums (zB s.data.toList) with
  | mk d =>
    rw [hS] at h3
    cases s with
    | mk d' =>
      simp at h3
      rw [h3]
set_option maxHeartbeats 4000000 in
set_option maxRecDepth 100000 in
theorem reads_no (s : ByteArray) (w : World)
    (T1 : ∀ W, Calls Tryz.prog 9 #[.string s] W fun e w' => e = .returned (.tuple #[.string ⟨#[]⟩, .int .i64 1]) ∧ Below W.heap.size W w')
    (C1 : ∀ W, Calls Tryz.prog 11 #[.string s] W fun e w' => e = .returned (.bool false) ∧ Below W.heap.size W w') :
    Calls Tryz.prog 5 #[.string s] w fun e w' => e = .returned (.bool true) ∧ Below w.heap.size w w' := by
  have T1 := hide T1
  have C1 := hide C1
  go_enter Tryz.func5, Tryz.ntmps5
  go_wp2_with fail
  refine (awake_ok w).mono ?_
  rintro e w1 ⟨rfl, b1⟩
  go_wp2_with fail
  refine (unhide T1 _).mono ?_
  rintro e w2 ⟨rfl, b2⟩
  have B2 := hide (b1.trans (b2.mono b1.size))
  clear T1 b1 b2
  go_wp2_with fail
  refine (unhide C1 _).mono ?_
  rintro e w3 ⟨rfl, b3⟩
  have B3 := hide ((unhide B2).trans (b3.mono (unhide B2).size))
  clear C1 B2 b3
  go_wp2
  go_ret
  exact ⟨rfl, unhide B3⟩
set_option maxHeartbeats 4000000 in
set_option maxRecDepth 100000 in
theorem reads_yes (s X : ByteArray) (m : Nat) (w : World) (hXm : X.size = m + 1) (hm1 : 1 ≤ m) (hX1 : m ≤ 70368744177664) (hX0 : X[0] = 34) (hXl : X[m] = 34)
    (T1 : ∀ W, Calls Tryz.prog 9 #[.string s] W fun e w' => e = .returned (.tuple #[.string X, .int .i64 0]) ∧ Below W.heap.size W w')
    (C1 : ∀ W, Calls Tryz.prog 11 #[.string s] W fun e w' => e = .returned (.bool true) ∧ Below W.heap.size W w')
    (U1 : ∀ W, Calls Tryz.prog 12 #[.string (X.extract 1 m)] W fun e w' => ∃ r, e = .returned (.tuple #[r, .bool true]) ∧ w'.ownsRow W.heap.size 5 1 r s.size (Lib.byteCells s.data.toList) ∧ Below W.heap.size W w') :
    Calls Tryz.prog 5 #[.string s] w fun e w' => e = .returned (.bool true) ∧ Below w.heap.size w w' := by
  have T1 := hide T1
  have C1 := hide C1
  have U1 := hide U1
  go_enter Tryz.func5, Tryz.ntmps5
  go_wp2_with fail
  refine (awake_ok w).mono ?_
  rintro e w1 ⟨rfl, b1⟩
  go_wp2_with fail
  refine (unhide T1 _).mono ?_
  rintro e w2 ⟨rfl, b2⟩
  have B2 := hide (b1.trans (b2.mono b1.size))
  clear T1 b1 b2
  go_wp2_with fail
  refine (unhide C1 _).mono ?_
  rintro e w3 ⟨rfl, b3⟩
  have B3 := hide ((unhide B2).trans (b3.mono (unhide B2).size))
  clear C1 B2 b3
  have hsl : ∀ W : World, (Instr.slice 9 (.string X) (some (.int .i64 1)) (some (.int .i64 (m : Int))) none).run Tryz.prog W = .ok (.string (X.extract 1 m)) W := by
    intro W
    have := run_slice_string (P := Tryz.prog) W 9 X .i64 .i64 1 (m : Int) Tryz.underlying9 (by omega) (by omega) (by omega)
    rw [this]
    rfl
  have HXm := hide hXm
  have hle : ¬ (X.size : Int) < 2 := by omega
  have hl0 : 0 < X.size := by omega
  have hXt : ((X.size : Int) - 1).toNat = m := by omega
  go_wp2_with fail
  refine (unhide U1 _).mono ?_
  rintro e w4 ⟨r, rfl, ho, b4⟩
  have B4 := hide ((unhide B3).trans (b4.mono (unhide B3).size))
  rw [cells_z] at ho
  obtain ⟨a, c, rfl, hr⟩ := own_row ho
  have hconv := row_string (P := Tryz.prog) hr 30 9 5 Tryz.underlying30 Tryz.underlying5 Tryz.underlying9
  have es : strOfNums (zB s.data.toList) = s := str_back s
  rw [es] at hconv
  clear U1 B3 b4 ho hr es
  go_wp2
  go_ret
  exact ⟨rfl, unhide B4⟩
theorem at_first (l : List UInt8) (h : 0 < (⟨(txt l).toArray⟩ : ByteArray).size) : (⟨(txt l).toArray⟩ : ByteArray)[0] = 34 := rfl
theorem at_last (l : List UInt8) (m : Nat) (hm : m = (body l).length + 1) (h : m < (⟨(txt l).toArray⟩ : ByteArray).size) : (⟨(txt l).toArray⟩ : ByteArray)[m] = 34 := by
  subst hm
  show (txt l).toArray[(body l).length + 1] = 34
  simp [txt]
theorem law_reads (s : ByteArray) (w : World) (hs : s.size ≤ 1048576) :
    Calls Tryz.prog 5 #[.string s] w fun e w' => e = .returned (.bool true) ∧ Below w.heap.size w w' := by
  have T1 := fun W => text_any s W (by omega)
  have C1 := fun W => clean_any s W (by omega)
  have la := body_len s.data.toList
  rw [size_list] at la
  cases h1 : cln s
  · rw [txS_no h1, txE_no h1] at T1
    rw [h1] at C1
    exact reads_no s w T1 C1
  · rw [txS_yes h1, txE_yes h1] at T1
    rw [h1] at C1
    have hsz : (⟨(txt s.data.toList).toArray⟩ : ByteArray).size = (body s.data.toList).length + 1 + 1 := by rw [str_size, txt_len]
    refine reads_yes s _ ((body s.data.toList).length + 1) w hsz (by omega) (by omega) (at_first _ _) (at_last _ _ rfl _) T1 C1 (fun W => unread_ok s _ ?_ W hs)
    rw [extract_list, str_list]
    unfold txt
    simp
end Go.Proofs.YtfjoaifcfmcnfabGreatDoor.jsn
