import Derived.Test.YtidkdnlbecompacLinR
namespace Go.Proofs.Ytidkdnlbecompac.mem
open Go.ChangeShapes Go.WideShapes Go.ChangeAt Go.RowKit
open ints (hide unhide)
set_option linter.unusedVariables false

theorem Row.drewN {k : IntKind} {w : World} {a : Option Addr} {n c : Nat} {zs : List Int} (h : Row k w a n c zs) (m : Nat) : Row k (w.drewN m) a n c zs := h.below (below_drewN (Below.refl _ _) m)
theorem alike_q (a a' : Option Addr) (n c c' : Nat) (zs : List Int) (w : World) (h : Row .i32 w a n c zs) (h' : Row .i32 w a' n c' zs) (hn : n ≤ 9223372036854775807) :
    Calls Try.prog 19 #[.slice a n c, .slice a' n c'] w fun e w' => e = .returned (.bool true) ∧ ∃ m, w' = w.drewN m := by
  have hne : ((n : Int) != (n : Int)) = false := by simp
  go_enter Try.func19, Try.ntmps19
  go_wp2
  go_loopw [5] (fun i wr => ∃ k m : Nat, k ≤ n ∧ i = .int .i64 k ∧ wr = w.drewN m) (fun i _ => n - (intOf i).toNat)
  case atStart => exact ⟨0, 0, Nat.zero_le _, rfl, rfl⟩
  case round =>
    obtain ⟨k, m, hk, rfl, rfl⟩ := hrel
    by_cases hlt : k < n
    · rcases h.at_ with h0 | ⟨b, off, rfl, hbw, hcell⟩
      · omega
      rcases h'.at_ with h0 | ⟨b', off', rfl, hbw', hcell'⟩
      · omega
      have c1 := hcell k hlt
      have c2 := hcell' k hlt
      generalize zs.getD k 0 = x at *
      have ki : (k : Int) < (n : Int) := by omega
      have hb : (x != x) = false := by simp
      clear hcell hcell'
      go_wp2
      go_quiet (fail)
      go_wp2
      go_roundw
      case rel => exact ⟨k + 1, _, by omega, by go_num, rfl⟩
      case measure => simp [intOf]; omega
    · go_wp2
      go_ret
      exact ⟨rfl, m, rfl⟩
theorem cut_le {l : List Int} {n : Nat} (hl : l.length = n) (a b : Nat) : (cut l a b).length ≤ n := by
  unfold cut
  rw [List.length_take, List.length_drop]
  omega
end Go.Proofs.Ytidkdnlbecompac.mem
