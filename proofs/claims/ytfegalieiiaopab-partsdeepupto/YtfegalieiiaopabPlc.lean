import Derived.Test.YtfegalieiiaopabMem
import Derived.WalkLawsBesides
namespace Go.Proofs.Ytfegalieiiaopab.mem
open Go.ChangeShapes Go.WideShapes Go.ChangeAt Go.RowKit
open ints (hide unhide)
set_option linter.unusedVariables false

def prB (l : List Int) (k : Nat) : Bool := decide (k + 1 < l.length) && (l.getD k 0 == 13) && (l.getD (k + 1) 0 == 10)
def enB (l : List Int) (k : Nat) : Bool := (l.getD k 0 == 10) || ((l.getD k 0 == 13) && !prB l k)
theorem paired_neg (a : Option Addr) (n c : Nat) (w : World) :
    Calls Try.prog 69 #[.slice a n c, .int .i64 (-1)] w fun e w' => e = .returned (.bool false) ∧ w' = w := by
  go_enter Try.func69, Try.ntmps69
  go_wp2
  go_ret
  exact ⟨rfl, rfl⟩
theorem paired_nat (a : Option Addr) (n c : Nat) (l : List Int) (k : Nat) (w : World) (h : Row .i32 w a n c l) (hn : n ≤ 9223372036854775806) (hk : k ≤ n) :
    Calls Try.prog 69 #[.slice a n c, .int .i64 (k : Int)] w fun e w' => e = .returned (.bool (prB l k)) ∧ w' = w := by
  have hl := h.len
  by_cases h1 : k + 1 < n
  · rcases h.at_ with h0 | ⟨b, off, rfl, hbw, hcell⟩
    · omega
    have c1 := hcell k (by omega)
    have c2 := hcell (k + 1) h1
    have e : prB l k = ((l.getD k 0 == 13) && (l.getD (k + 1) 0 == 10)) := by unfold prB; rw [hl]; simp [h1]
    generalize l.getD k 0 = x at *
    generalize l.getD (k + 1) 0 = y at *
    have E := hide e
    have h1i : (k : Int) + 1 < (n : Int) := by omega
    clear hcell e hl h
    cases hx : (x == 13)
    · have E2 := hide (show prB l k = false from by rw [unhide E, hx]; rfl)
      go_enter Try.func69, Try.ntmps69
      go_wp2
      go_ret
      rw [unhide E2]
      exact ⟨rfl, rfl⟩
    · cases hy : (y == 10)
      · have E2 := hide (show prB l k = false from by rw [unhide E, hx, hy]; rfl)
        go_enter Try.func69, Try.ntmps69
        go_wp2
        go_ret
        rw [unhide E2]
        exact ⟨rfl, rfl⟩
      · have E2 := hide (show prB l k = true from by rw [unhide E, hx, hy]; rfl)
        go_enter Try.func69, Try.ntmps69
        go_wp2
        go_ret
        rw [unhide E2]
        exact ⟨rfl, rfl⟩
  · have E2 := hide (show prB l k = false from by unfold prB; rw [hl]; simp [h1])
    have h1i : ¬ (k : Int) + 1 < (n : Int) := by omega
    clear hl h
    go_enter Try.func69, Try.ntmps69
    go_wp2
    go_ret
    rw [unhide E2]
    exact ⟨rfl, rfl⟩
theorem ends_any (a : Option Addr) (n c : Nat) (l : List Int) (k : Nat) (w : World) (h : Row .i32 w a n c l) (hn : n ≤ 9223372036854775806) (hk : k < n) :
    Calls Try.prog 53 #[.slice a n c, .int .i64 (k : Int)] w fun e w' => e = .returned (.bool (enB l k)) ∧ w' = w := by
  have P := hide (paired_nat a n c l k w h hn (by omega))
  rcases h.at_ with h0 | ⟨b, off, rfl, hbw, hcell⟩
  · omega
  have c1 := hcell k hk
  have E := hide (show enB l k = ((l.getD k 0 == 10) || ((l.getD k 0 == 13) && !prB l k)) from rfl)
  generalize l.getD k 0 = x at *
  generalize prB l k = p at *
  have hki : (k : Int) < (n : Int) := by omega
  clear hcell h
  cases hx : (x == 10)
  · cases hy : (x == 13)
    · have E2 := hide (show enB l k = false from by rw [unhide E, hx, hy]; rfl)
      go_enter Try.func53, Try.ntmps53
      go_wp2
      go_ret
      rw [unhide E2]
      exact ⟨rfl, rfl⟩
    · have E2 := hide (show enB l k = !p from by rw [unhide E, hx, hy]; simp)
      go_enter Try.func53, Try.ntmps53
      go_wp2_with fail
      refine (unhide P).mono ?_
      rintro e w' ⟨rfl, rfl⟩
      go_wp2
      go_ret
      rw [unhide E2]
      exact ⟨rfl, rfl⟩
  · have E2 := hide (show enB l k = true from by rw [unhide E, hx]; rfl)
    go_enter Try.func53, Try.ntmps53
    go_wp2
    go_ret
    rw [unhide E2]
    exact ⟨rfl, rfl⟩
theorem behind_any (a : Option Addr) (n c : Nat) (l : List Int) (k : Nat) (x y : Int) (w : World) (h : Row .i32 w a n c l) (hn : n ≤ 9223372036854775806) (hk : k < n) (hx0 : 0 ≤ x) (hx1 : x ≤ 4611686018427387904) (hy0 : 0 ≤ y) (hy1 : y ≤ 4611686018427387904) :
    Calls Try.prog 41 #[.agg #[.int .i64 x, .int .i64 y], .slice a n c, .int .i64 (k : Int)] w fun e w' =>
      e = .returned (.agg #[.int .i64 (if enB l k then x + 1 else x), .int .i64 (if enB l k then 1 else y + 1)]) ∧ Below w.heap.size w w' := by
  obtain ⟨o1, ho1⟩ : ∃ o, o = Obj.cells #[.int .i64 x, .int .i64 y] 30 (0, 0) := ⟨_, rfl⟩
  obtain ⟨o2, ho2⟩ : ∃ o, o = Obj.cells #[.int .i64 0, .int .i64 0] 30 (0, 0) := ⟨_, rfl⟩
  have hb2 : Below w.heap.size w ((w.alloc o1).alloc o2) := ((Below.refl _ _).alloc (Nat.le_refl _) o1).alloc (by simp) o2
  have P := hide (ends_any a n c l k ((w.alloc o1).alloc o2) (h.below hb2) hn hk)
  rw [ho1, ho2] at P
  cases hp : enB l k
  · rw [hp] at P
    go_enter Try.func41, Try.ntmps41
    go_wp2_with fail
    refine (unhide P).mono ?_
    rintro e w' ⟨rfl, rfl⟩
    go_wp2
    exact bodyPost_ret (v := .agg #[.int .i64 x, .int .i64 (y + 1)]) (by simp [results, Try.results41, go_sem]) rfl ⟨rfl, ((Below.refl _ _).alloc (Nat.le_refl _) _).alloc (by simp) _⟩
  · rw [hp] at P
    go_enter Try.func41, Try.ntmps41
    go_wp2_with fail
    refine (unhide P).mono ?_
    rintro e w' ⟨rfl, rfl⟩
    go_wp2
    exact bodyPost_ret (v := .agg #[.int .i64 (x + 1), .int .i64 1]) (by simp [results, Try.results41, go_sem]) rfl ⟨rfl, ((Below.refl _ _).alloc (Nat.le_refl _) _).alloc (by simp) _⟩
end Go.Proofs.Ytfegalieiiaopab.mem
