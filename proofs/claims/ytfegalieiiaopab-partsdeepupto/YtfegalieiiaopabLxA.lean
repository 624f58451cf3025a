import Derived.Test.YtfegalieiiaopabLx
import Derived.Test.YtfegalieiiaopabPfxM
import Derived.Test.YtfegalieiiaopabClassU
import Derived.Test.YtfegalieiiaopabEncU
import Derived.Test.YtfegalieiiaopabPlcU
import Derived.Test.YtfegalieiiaopabDecB
namespace Go.Proofs.Ytfegalieiiaopab.lx
open Go.ChangeShapes Go.WideShapes Go.ChangeAt Go.RowKit
open ints (hide unhide)
open mem (Row)
set_option linter.unusedVariables false
def src (a : Option Addr) (n c : Nat) (cl : Bool) : Value := .agg #[.slice a n c, .bool cl]
theorem at_ok (a : Option Addr) (n c : Nat) (cl : Bool) (l : List Int) (i : Nat) (w : World) (h : Row .i32 w a n c l) (hn : n ≤ 4611686018427387904) :
    Calls Try.prog 54 #[src a n c cl, .int .i64 (i : Int)] w fun e w' => e = .returned (.int .i32 (cAt l i)) ∧ Below w.heap.size w w' := by
  unfold src
  by_cases hi : i < n
  · have hc := hide (cAt_in (l := l) (i := i) (by rw [h.len]; exact hi))
    rcases h.at_ with h0 | ⟨b, off, rfl, hb, hcell⟩
    · omega
    have c1 := hcell i hi
    obtain ⟨x, hx⟩ : ∃ x, x = l.getD i 0 := ⟨_, rfl⟩
    rw [← hx] at c1 hc
    have ii : (i : Int) < (n : Int) := by omega
    clear hx hcell
    go_enter Try.func54, Try.ntmps54
    go_wp2
    go_ret
    rw [unhide hc]
    exact ⟨rfl, (Below.refl _ _).alloc (Nat.le_refl _) _⟩
  · have hc := hide (cAt_end (l := l) (i := i) (by rw [h.len]; omega))
    have ii : ¬ (i : Int) < (n : Int) := by omega
    go_enter Try.func54, Try.ntmps54
    go_wp2
    go_ret
    rw [unhide hc]
    exact ⟨rfl, (Below.refl _ _).alloc (Nat.le_refl _) _⟩
end Go.Proofs.Ytfegalieiiaopab.lx
