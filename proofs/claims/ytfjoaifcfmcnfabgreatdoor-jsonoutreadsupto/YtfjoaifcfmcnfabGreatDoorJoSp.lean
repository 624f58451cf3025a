import Derived.Test.YtfjoaifcfmcnfabGreatDoorJoD
namespace Go.Proofs.YtfjoaifcfmcnfabGreatDoor.jsn
open Go.ChangeShapes Go.WideShapes Go.ChangeAt Go.RowKit
open mem vl Go.Maps
open ints (hide unhide)
set_option linter.unusedVariables false
theorem clean_any (s : ByteArray) (w : World) (hs : s.size ≤ 9223372036854775807) :
    Calls Tryz.prog 11 #[.string s] w fun e w' => e = .returned (.bool (cln s)) ∧ Below w.heap.size w w' := clean_str s w hs
set_option maxHeartbeats 4000000 in
set_option maxRecDepth 100000 in
theorem spl_yes (a b : ByteArray) (w : World) (X Y Z : ByteArray) (ha : a.size ≤ 1048576) (hb : b.size ≤ 1048576) (hX : 2 ≤ X.size) (hX1 : X.size ≤ 70368744177664) (hY : 2 ≤ Y.size) (hY1 : Y.size ≤ 70368744177664) (hZ : Z = X.extract 0 (X.size - 1) ++ Y.extract 1 Y.size)
    (T1 : ∀ W, Calls Tryz.prog 9 #[.string a] W fun e w' => e = .returned (.tuple #[.string X, .int .i64 0]) ∧ Below W.heap.size W w')
    (T2 : ∀ W, Calls Tryz.prog 9 #[.string b] W fun e w' => e = .returned (.tuple #[.string Y, .int .i64 0]) ∧ Below W.heap.size W w')
    (T3 : ∀ W, Calls Tryz.prog 9 #[.string (a ++ b)] W fun e w' => e = .returned (.tuple #[.string Z, .int .i64 0]) ∧ Below W.heap.size W w') :
    Calls Tryz.prog 4 #[.string a, .string b] w fun e w' => e = .returned (.bool true) ∧ Below w.heap.size w w' := by
  have T1 := hide T1
  have T2 := hide T2
  have T3 := hide T3
  have HZ := hide hZ
  clear hZ
  go_enter Tryz.func4, Tryz.ntmps4
  go_wp2_with fail
  refine (awake_ok w).mono ?_
  rintro e w1 ⟨rfl, b1⟩
  go_wp2_with fail
  refine (unhide T1 _).mono ?_
  rintro e w2 ⟨rfl, b2⟩
  have B2 := hide (b1.trans (b2.mono b1.size))
  clear T1 b1 b2
  go_wp2_with fail
  refine (unhide T2 _).mono ?_
  rintro e w3 ⟨rfl, b3⟩
  have B3 := hide ((unhide B2).trans (b3.mono (unhide B2).size))
  clear T2 B2 b3
  go_wp2_with fail
  refine (unhide T3 _).mono ?_
  rintro e w4 ⟨rfl, b4⟩
  have B4 := hide ((unhide B3).trans (b4.mono (unhide B3).size))
  clear T3 B3 b4
  go_wp2
  go_region <;> (try go_wp2)
  all_goals go_ret
  all_goals refine ⟨?_, (unhide B4).drew⟩
  all_goals show Ending.returned (Value.bool (Z.toList == (X.extract 0 (X.size - 1) ++ Y.extract 1 Y.size).toList)) = _
  all_goals (rw [unhide HZ]; simp)
set_option maxHeartbeats 4000000 in
set_option maxRecDepth 100000 in
theorem spl_b (a b : ByteArray) (w : World) (X Y Z : ByteArray) (ha : a.size ≤ 1048576) (hb : b.size ≤ 1048576) (C1 : ∀ W, Calls Tryz.prog 11 #[.string a] W fun e w' => e = .returned (.bool true) ∧ Below W.heap.size W w') (g0 : Int)
    (T1 : ∀ W, Calls Tryz.prog 9 #[.string a] W fun e w' => e = .returned (.tuple #[.string X, .int .i64 0]) ∧ Below W.heap.size W w')
    (T2 : ∀ W, Calls Tryz.prog 9 #[.string b] W fun e w' => e = .returned (.tuple #[.string Y, .int .i64 1]) ∧ Below W.heap.size W w')
    (T3 : ∀ W, Calls Tryz.prog 9 #[.string (a ++ b)] W fun e w' => e = .returned (.tuple #[.string Z, .int .i64 g0]) ∧ Below W.heap.size W w') :
    Calls Tryz.prog 4 #[.string a, .string b] w fun e w' => e = .returned (.bool true) ∧ Below w.heap.size w w' := by
  have T1 := hide T1
  have T2 := hide T2
  have T3 := hide T3
  have C1 := hide C1
  go_enter Tryz.func4, Tryz.ntmps4
  go_wp2_with fail
  refine (awake_ok w).mono ?_
  rintro e w1 ⟨rfl, b1⟩
  go_wp2_with fail
  refine (unhide T1 _).mono ?_
  rintro e w2 ⟨rfl, b2⟩
  have B2 := hide (b1.trans (b2.mono b1.size))
  clear T1 b1 b2
  go_wp2_with fail
  refine (unhide T2 _).mono ?_
  rintro e w3 ⟨rfl, b3⟩
  have B3 := hide ((unhide B2).trans (b3.mono (unhide B2).size))
  clear T2 B2 b3
  go_wp2_with fail
  refine (unhide T3 _).mono ?_
  rintro e w4 ⟨rfl, b4⟩
  have B4 := hide ((unhide B3).trans (b4.mono (unhide B3).size))
  clear T3 B3 b4
  go_wp2_with fail
  refine (unhide C1 _).mono ?_
  rintro e w5 ⟨rfl, b5⟩
  have B5 := hide ((unhide B4).trans (b5.mono (unhide B4).size))
  clear B4 b5 C1
  go_wp2
  go_ret
  exact ⟨rfl, unhide B5⟩
set_option maxHeartbeats 4000000 in
set_option maxRecDepth 100000 in
theorem spl_a (a b : ByteArray) (w : World) (X Y Z : ByteArray) (ha : a.size ≤ 1048576) (hb : b.size ≤ 1048576) (hX : X = ⟨#[]⟩) (C1 : ∀ W, Calls Tryz.prog 11 #[.string a] W fun e w' => e = .returned (.bool false) ∧ Below W.heap.size W w') (f0 g0 : Int)
    (T1 : ∀ W, Calls Tryz.prog 9 #[.string a] W fun e w' => e = .returned (.tuple #[.string X, .int .i64 1]) ∧ Below W.heap.size W w')
    (T2 : ∀ W, Calls Tryz.prog 9 #[.string b] W fun e w' => e = .returned (.tuple #[.string Y, .int .i64 f0]) ∧ Below W.heap.size W w')
    (T3 : ∀ W, Calls Tryz.prog 9 #[.string (a ++ b)] W fun e w' => e = .returned (.tuple #[.string Z, .int .i64 g0]) ∧ Below W.heap.size W w') :
    Calls Tryz.prog 4 #[.string a, .string b] w fun e w' => e = .returned (.bool true) ∧ Below w.heap.size w w' := by
  have T1 := hide T1
  have T2 := hide T2
  have T3 := hide T3
  have C1 := hide C1
  subst hX
  go_enter Tryz.func4, Tryz.ntmps4
  go_wp2_with fail
  refine (awake_ok w).mono ?_
  rintro e w1 ⟨rfl, b1⟩
  go_wp2_with fail
  refine (unhide T1 _).mono ?_
  rintro e w2 ⟨rfl, b2⟩
  have B2 := hide (b1.trans (b2.mono b1.size))
  clear T1 b1 b2
  go_wp2_with fail
  refine (unhide T2 _).mono ?_
  rintro e w3 ⟨rfl, b3⟩
  have B3 := hide ((unhide B2).trans (b3.mono (unhide B2).size))
  clear T2 B2 b3
  go_wp2_with fail
  refine (unhide T3 _).mono ?_
  rintro e w4 ⟨rfl, b4⟩
  have B4 := hide ((unhide B3).trans (b4.mono (unhide B3).size))
  clear T3 B3 b4
  go_wp2_with fail
  refine (unhide C1 _).mono ?_
  rintro e w5 ⟨rfl, b5⟩
  have B5 := hide ((unhide B4).trans (b5.mono (unhide B4).size))
  clear B4 b5 C1
  go_wp2
  go_ret
  exact ⟨rfl, unhide B5⟩
theorem law_splices (a b : ByteArray) (w : World) (ha : a.size ≤ 1048576) (hb : b.size ≤ 1048576) :
    Calls Tryz.prog 4 #[.string a, .string b] w fun e w' => e = .returned (.bool true) ∧ Below w.heap.size w w' := by
  have T1 := fun W => text_any a W (by omega)
  have T2 := fun W => text_any b W (by omega)
  have T3 := fun W => text_any (a ++ b) W (by rw [app_size]; omega)
  have C1 := fun W => clean_any a W (by omega)
  have la := body_len a.data.toList
  have lb := body_len b.data.toList
  rw [size_list] at la lb
  cases h1 : cln a
  · rw [txS_no h1, txE_no h1] at T1
    rw [h1] at C1
    exact spl_a a b w _ _ _ ha hb rfl C1 _ _ T1 T2 T3
  · rw [txS_yes h1, txE_yes h1] at T1
    rw [h1] at C1
    cases h2 : cln b
    · rw [txS_no h2, txE_no h2] at T2
      exact spl_b a b w _ _ _ ha hb C1 _ T1 T2 T3
    · rw [txS_yes h2, txE_yes h2] at T2
      rw [txS_yes (cln_app a b h1 h2), txE_yes (cln_app a b h1 h2)] at T3
      exact spl_yes a b w _ _ _ ha hb (by rw [str_size, txt_len]; omega) (by rw [str_size, txt_len]; omega) (by rw [str_size, txt_len]; omega) (by rw [str_size, txt_len]; omega) (txt_splice a b) T1 T2 T3
end Go.Proofs.YtfjoaifcfmcnfabGreatDoor.jsn
