import Derived.Test.YtcehhkjlbhodeaaDoorMem
import Derived.WalkLawsBesides
namespace Go.Proofs.YtcehhkjlbhodeaaDoor.mem
open Go.ChangeShapes Go.WideShapes Go.ChangeAt Go.RowKit
open ints (hide unhide)
set_option linter.unusedVariables false

def prB (l : List Int) (k : Nat) : Bool := decide (k + 1 < l.length) && (l.getD k 0 == 13) && (l.getD (k + 1) 0 == 10)
def enB (l : List Int) (k : Nat) : Bool := (l.getD k 0 == 10) || ((l.getD k 0 == 13) && !prB l k)
theorem paired_neg (a : Option Addr) (n c : Nat) (w : World) :
    Calls Tryd.prog 37 #[.slice a n c, .int .i64 (-1)] w fun e w' => e = .returned (.bool false) ∧ w' = w := by
  go_enter Tryd.func37, Tryd.ntmps37
  go_wp2
  go_ret
  exact ⟨rfl, rfl⟩
theorem paired_nat (a : Option Addr) (n c : Nat) (l : List Int) (k : Nat) (w : World) (h : Row .i32 w a n c l) (hn : n ≤ 9223372036854775806) (hk : k ≤ n) :
    Calls Tryd.prog 37 #[.slice a n c, .int .i64 (k : Int)] w fun e w' => e = .returned (.bool (prB l k)) ∧ w' = w := by
  have hl := h.len
  by_cases h1 : k + 1 < n
  · rcases h.at_ with h0 | ⟨b, off, rfl, hbw, hcell⟩
    · omega
    have c1 := hcell k (by omega)
    have c2 := hcell (k + 1) h1
    have e : prB l k = ((l.getD k 0 == 13) && (l.getD (k + 1) 0 == 10)) := by unfold prB; rw [hl]; simp [h1]
    generalize l.getD k 0 = x at *
    generalize l.getD (k + 1) 0 = y at *
    have E := hide e
    have h1i : (k : Int) + 1 < (n : Int) := by omega
    clear hcell e hl h
    cases hx : (x == 13)
    · have E2 := hide (show prB l k = false from by rw [unhide E, hx]; rfl)
      go_enter Tryd.func37, Tryd.ntmps37
      go_wp2
      go_ret
      rw [unhide E2]
      exact ⟨rfl, rfl⟩
    · cases hy : (y == 10)
      · have E2 := hide (show prB l k = false from by rw [unhide E, hx, hy]; rfl)
        go_enter Tryd.func37, Tryd.ntmps37
        go_wp2
        go_ret
        rw [unhide E2]
        exact ⟨rfl, rfl⟩
      · have E2 := hide (show prB l k = true from by rw [unhide E, hx, hy]; rfl)
        go_enter Tryd.func37, Tryd.ntmps37
        go_wp2
        go_ret
        rw [unhide E2]
        exact ⟨rfl, rfl⟩
  · have E2 := hide (show prB l k = false from by unfold prB; rw [hl]; simp [h1])
    have h1i : ¬ (k : Int) + 1 < (n : Int) := by omega
    clear hl h
    go_enter Tryd.func37, Tryd.ntmps37
    go_wp2
    go_ret
    rw [unhide E2]
    exact ⟨rfl, rfl⟩
theorem ends_any (a : Option Addr) (n c : Nat) (l : List Int) (k : Nat) (w : World) (h : Row .i32 w a n c l) (hn : n ≤ 9223372036854775806) (hk : k < n) :
    Calls Tryd.prog 36 #[.slice a n c, .int .i64 (k : Int)] w fun e w' => e = .returned (.bool (enB l k)) ∧ w' = w := by
  have P := hide (paired_nat a n c l k w h hn (by omega))
  rcases h.at_ with h0 | ⟨b, off, rfl, hbw, hcell⟩
  · omega
  have c1 := hcell k hk
  have E := hide (show enB l k = ((l.getD k 0 == 10) || ((l.getD k 0 == 13) && !prB l k)) from rfl)
  generalize l.getD k 0 = x at *
  generalize prB l k = p at *
  have hki : (k : Int) < (n : Int) := by omega
  clear hcell h
  cases hx : (x == 10)
  · cases hy : (x == 13)
    · have E2 := hide (show enB l k = false from by rw [unhide E, hx, hy]; rfl)
      go_enter Tryd.func36, Tryd.ntmps36
      go_wp2
      go_ret
      rw [unhide E2]
      exact ⟨rfl, rfl⟩
    · have E2 := hide (show enB l k = !p from by rw [unhide E, hx, hy]; simp)
      go_enter Tryd.func36, Tryd.ntmps36
      go_wp2_with fail
      refine (unhide P).mono ?_
      rintro e w' ⟨rfl, rfl⟩
      go_wp2
      go_ret
      rw [unhide E2]
      exact ⟨rfl, rfl⟩
  · have E2 := hide (show enB l k = true from by rw [unhide E, hx]; rfl)
    go_enter Tryd.func36, Tryd.ntmps36
    go_wp2
    go_ret
    rw [unhide E2]
    exact ⟨rfl, rfl⟩
end Go.Proofs.YtcehhkjlbhodeaaDoor.mem
