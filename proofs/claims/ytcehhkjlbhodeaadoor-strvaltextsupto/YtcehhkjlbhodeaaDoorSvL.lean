import Derived.Test.YtcehhkjlbhodeaaDoorSvC3
namespace Go.Proofs.YtcehhkjlbhodeaaDoor.sv
open Go.ChangeShapes Go.WideShapes Go.ChangeAt Go.RowKit
open mem
open ints (hide unhide soP)
set_option linter.unusedVariables false
theorem fix_ok (w : World) : Calls Tryd.prog 4 #[.string ⟨#[9, 34, 240, 159, 152, 128, 47, 127]⟩] w fun e w' => e = .returned (.tuple #[.string ⟨#[34, 92, 116, 92, 34, 92, 117, 68, 56, 51, 68, 92, 117, 68, 69, 48, 48, 47, 92, 117, 48, 48, 55, 70, 34]⟩, .int .i64 0]) ∧ Below w.heap.size w w' := by
  have h := qt_ok ⟨#[9, 34, 240, 159, 152, 128, 47, 127]⟩ w (by show 8 ≤ _; omega)
  have e1 : qS ⟨#[9, 34, 240, 159, 152, 128, 47, 127]⟩ = ⟨#[34, 92, 116, 92, 34, 92, 117, 68, 56, 51, 68, 92, 117, 68, 69, 48, 48, 47, 92, 117, 48, 48, 55, 70, 34]⟩ := by decide +kernel
  have e2 : qE ⟨#[9, 34, 240, 159, 152, 128, 47, 127]⟩ = 0 := by decide +kernel
  rw [e1, e2] at h
  exact h
set_option maxHeartbeats 4000000 in
theorem law_texts (s : ByteArray) (w : World) (hM : Mx w) (hs : s.size ≤ 1048576) :
    Calls Tryd.prog 3 #[.string s] w fun e w' => e = .returned (.bool true) ∧ Below w.heap.size w w' := by
  have F := hide fix_ok
  have Q := hide (fun W => qt_ok s W (by omega))
  have RQ := hide (fun W => rq_ok s W hs)
  have T := hide (fun W (hW : Mx W) => bt_ok s W hW hs)
  have RT := hide (fun W => rbt_ok s W hs)
  have HM := hide hM
  obtain ⟨X, hX⟩ : ∃ X, X = qS s := ⟨_, rfl⟩
  obtain ⟨E, hE⟩ : ∃ E, E = qE s := ⟨_, rfl⟩
  obtain ⟨Y, hY⟩ : ∃ Y, Y = bS s := ⟨_, rfl⟩
  obtain ⟨O, hO⟩ : ∃ O, O = bO s := ⟨_, rfl⟩
  rw [← hX, ← hE] at Q RQ
  rw [← hY, ← hO] at T RT
  clear hX hE hY hO hM
  go_enter Tryd.func3, Tryd.ntmps3
  go_wp2_with fail
  refine (unhide F _).mono ?_
  rintro e w1 ⟨rfl, b1⟩
  clear F
  go_wp2_with fail
  refine (unhide Q _).mono ?_
  rintro e w2 ⟨rfl, b2⟩
  have B2 := hide (b1.trans (b2.mono b1.size))
  clear Q b1 b2
  go_wp2_with fail
  refine (unhide RQ _).mono ?_
  rintro e w3 ⟨rfl, b3⟩
  have B3 := hide ((unhide B2).trans (b3.mono (unhide B2).size))
  clear RQ b3 B2
  go_wp2_with fail
  refine (unhide T _ ((unhide HM).below (unhide B3))).mono ?_
  rintro e w4 ⟨rfl, b4⟩
  have B4 := hide ((unhide B3).trans (b4.mono (unhide B3).size))
  clear T b4 B3
  go_wp2_with fail
  refine (unhide RT _).mono ?_
  rintro e w5 ⟨rfl, b5⟩
  have B5 := hide ((unhide B4).trans (b5.mono (unhide B4).size))
  clear RT b5 B4
  go_wp2
  go_ret
  exact ⟨by simp, unhide B5⟩
end Go.Proofs.YtcehhkjlbhodeaaDoor.sv
