import Derived.Test.YtcehhkjlbhodeaaDoorDecB
namespace Go.Proofs.YtcehhkjlbhodeaaDoor.mem
open Go.ChangeShapes Go.WideShapes Go.ChangeAt Go.RowKit
open ints (hide unhide)
set_option linter.unusedVariables false
set_option maxHeartbeats 1000000 in
theorem decode_str (s : ByteArray) (w : World) (hs : s.size ≤ 70368744177664) :
    Calls Tryd.prog 14 #[.string s] w fun e w' => ∃ v, e = .returned (.tuple #[v, .int .i64 ((decZ (bytesZ s)).2 : Int)]) ∧
      w'.ownsRow w.heap.size 21 1 v (decZ (bytesZ s)).1.length ((decZ (bytesZ s)).1.map (Value.int .i32)) ∧ Below w.heap.size w w' := by
  have hg1 := decZ_le (bytesZ s) (bytesZ_byt s)
  rw [bytesZ_len] at hg1
  obtain ⟨g, hg⟩ : ∃ g, g = (decZ (bytesZ s)).2 := ⟨_, rfl⟩
  have G := hide (good_any s w (by omega))
  have C := hide (fun W => conv_runes s W hs g hg)
  rw [← hg] at hg1 G ⊢
  clear hg
  go_enter Tryd.func14, Tryd.ntmps14
  go_wp2_with fail
  refine (unhide G).mono ?_
  rintro e w1 ⟨rfl, hb1⟩
  obtain ⟨V, W2, hconv, hown, hb2⟩ := unhide C w1
  have hg1i : (g : Int) ≤ (s.size : Int) := by omega
  clear C G
  go_wp2
  go_ret2
  exact ⟨V, rfl, ⟨hown.1, hown.2.imp id (fun ⟨g', r1, r2, r3, r4, r5⟩ => ⟨g', r1, r2, r3, Nat.le_trans hb1.size r4, r5⟩)⟩, hb1.trans (hb2.mono hb1.size)⟩
end Go.Proofs.YtcehhkjlbhodeaaDoor.mem
