import Derived.Test.YtcehhkjlbhodeaaDoorDecU
namespace Go.Proofs.YtcehhkjlbhodeaaDoor.mem
open Go.ChangeShapes Go.WideShapes Go.ChangeAt Go.RowKit
open ints (hide unhide)
set_option linter.unusedVariables false

theorem own_low {w : World} {base base' : Nat} {e : TypeId} {size : Nat} {v : Value} {n : Nat} {xs : List Value} (h : w.ownsRow base e size v n xs) (hb : base' ≤ base) : w.ownsRow base' e size v n xs :=
  ⟨h.1, h.2.imp id (fun ⟨g', r1, r2, r3, r4, r5⟩ => ⟨g', r1, r2, r3, Nat.le_trans hb r4, r5⟩)⟩
theorem clean_str (s : ByteArray) (w : World) (hs : s.size ≤ 9223372036854775807) :
    Calls Tryd.prog 8 #[.string s] w fun e w' => e = .returned (.bool ((((decZ (bytesZ s)).2 : Nat) : Int) == (s.size : Int))) ∧ Below w.heap.size w w' := by
  obtain ⟨g, hg⟩ : ∃ g, g = (decZ (bytesZ s)).2 := ⟨_, rfl⟩
  have G := hide (good_any s w hs)
  rw [← hg] at G ⊢
  clear hg
  go_enter Tryd.func8, Tryd.ntmps8
  go_wp2_with fail
  refine (unhide G).mono ?_
  rintro e w1 ⟨rfl, hb1⟩
  clear G
  go_wp2
  go_ret
  exact ⟨rfl, hb1⟩
end Go.Proofs.YtcehhkjlbhodeaaDoor.mem
