import Derived.Test.YtechaplindbfoaaGreatDoorJsi21
namespace Go.Proofs.YtechaplindbfoaaGreatDoor.fto
open Go.ChangeShapes Go.WideShapes Go.ChangeAt Go.RowKit
open mem Go.Sort
open ints (hide unhide)
set_option linter.unusedVariables false
/-- the reference says the text s of the float x -/
def TbF (x : Nat) (s : ByteArray) : Prop := ∀ w, Calls Tryz.prog 87 #[.int .u64 (x : Int)] w fun e w' => e = .returned (.string s) ∧ Below w.heap.size w w'
theorem ft_tb (x : Nat) (h : x < 18446744073709551616) (w : World) (hW : Fx w) :
    Calls Tryz.prog 70 #[.float .f64 x] w fun e w' => ∃ s, e = .returned (.string s) ∧ TbF x s ∧ Below w.heap.size w w' := by
  cases hb : badF x
  · by_cases h0 : x % 9223372036854775808 = 0
    · refine (ftext_nought x w h h0).mono ?_
      rintro e w1 ⟨rfl, b1⟩
      exact ⟨_, rfl, fun W => tb_nought x W h h0, b1⟩
    · obtain ⟨d, q, hc, H⟩ := ftext_any x h hb h0
      refine (H w hW).mono ?_
      rintro e w1 ⟨k, hk, rfl, b1⟩
      exact ⟨_, rfl, fun W => tb_any x d k q W h hb h0 hc hk, b1⟩
  · refine (ftext_bad x w h hb).mono ?_
    rintro e w1 ⟨rfl, b1⟩
    exact ⟨_, rfl, fun W => tb_bad x W h hb, b1⟩
end Go.Proofs.YtechaplindbfoaaGreatDoor.fto
