import Derived.Test.YtidkdnlbecompabSplM
import Derived.Test.YtidkdnlbecompabAwk
import Derived.Test.YtidkdnlbecompabGridM
namespace Go.Proofs.Ytidkdnlbecompab.mem
open Go.ChangeShapes Go.WideShapes Go.ChangeAt Go.RowKit
open ints (hide unhide)
set_option linter.unusedVariables false

theorem bare_step (l : List Int) (k : Nat) (hk : k < l.length) : bareL (l.take (k + 1)) = if bareB (l.getD k 0) then bareL (l.take k) ++ [l.getD k 0] else bareL (l.take k) := by
  have e : l.take (k + 1) = l.take k ++ [l.getD k 0] := by
    rw [List.take_add_one]
    simp [List.getD, hk]
  unfold bareL
  rw [e, List.filter_append]
  by_cases hb : bareB (l.getD k 0) = true
  · rw [if_pos hb, List.filter_cons_of_pos hb]; simp
  · rw [if_neg hb, List.filter_cons_of_neg hb]; simp
set_option maxHeartbeats 2000000 in
theorem bare_any (a : Option Addr) (n c : Nat) (l : List Int) (w : World) (h : Row .i32 w a n c l) (hn : n ≤ 1099511627776) :
    Calls Try.prog 24 #[.slice a n c] w fun e w' => ∃ v, e = .returned v ∧ w'.ownsRow w.heap.size 21 1 v (bareL l).length ((bareL l).map (Value.int .i32)) ∧ Below w.heap.size w w' := by
  obtain ⟨i0, hi, hz0, hz1, hz2⟩ := info_parts info32
  go_enter Try.func24, Try.ntmps24
  go_wp2
  go_loopw [3, 4] (fun v i wr => ∃ k : Nat, k ≤ n ∧ i = .int .i64 k ∧ wr.ownsRow w.heap.size 21 1 v (bareL (l.take k)).length ((bareL (l.take k)).map (Value.int .i32)) ∧ Below w.heap.size w wr) (fun _ i _ => n - (intOf i).toNat)
  case atStart => exact ⟨0, Nat.zero_le _, rfl, World.ownsRow_nil _ _ _ _, Below.refl _ _⟩
  case round =>
    obtain ⟨k, hk, rfl, hown, hbel⟩ := hrel
    by_cases hlt : k < n
    · have hst := hide (bare_step l k (by rw [h.len]; exact hlt))
      have hbl := Nat.le_trans (bare_len (l.take k)) (List.length_take_le k l)
      rcases (h.below hbel).at_ with h0 | ⟨b, off, rfl, hbw, hcell⟩
      · omega
      have c1 := hcell k hlt
      have ki : (k : Int) < (n : Int) := by omega
      generalize l.getD k 0 = x at *
      generalize hB : bareL (l.take k) = B at *
      have HB := hide hB
      clear hcell hB
      by_cases x1 : x = 13
      · subst x1
        have e := hide (show bareL (l.take (k + 1)) = B from by rw [unhide hst]; rfl)
        clear hst
        go_wp2
        go_roundw
        case rel => exact ⟨k + 1, by omega, by go_num, by rw [unhide e]; exact hown, hbel⟩
        case measure => simp [intOf]; omega
      · by_cases x2 : x = 10
        · subst x2
          have e := hide (show bareL (l.take (k + 1)) = B from by rw [unhide hst]; rfl)
          clear hst
          go_wp2
          go_roundw
          case rel => exact ⟨k + 1, by omega, by go_num, by rw [unhide e]; exact hown, hbel⟩
          case measure => simp [intOf]; omega
        · have hbx : bareB x = true := by simp [bareB, x1, x2]
          have e := hide (show bareL (l.take (k + 1)) = B ++ [x] from by rw [unhide hst, if_pos hbx])
          have b1 : (x != 13) = true := by simpa using x1
          have b2 : (x != 10) = true := by simpa using x2
          clear hst hbx x1 x2
          have hcel := cellv wr (.int .i32 x) 21
          have Hlt := hide hown.lt
          go_wp2_with (at_builtin; refine wpList_append_own _ rfl _ _ 22 rfl w.heap.size 21 i0 (.int .i32 0) 1 4 Try.underlying22 hi hz0 hz1 hz2 rfl (by decide) _ _ _ rfl (hown.alloc _) ⟨wr.heap.size, 0, none⟩ 1 1 [.int .i32 x] rfl (by simp) hcel (by intro u hu; simp at hu; subst hu; rfl) (by unfold maxLen; omega) (by omega) (by have := hbel.size; simp; omega) ?_; intro v' w2 hown' hgrow _)
          go_roundw
          case rel =>
            refine ⟨k + 1, by omega, by go_num, by rw [unhide e]; simpa using hown', ?_⟩
            exact (hbel.alloc hbel.size _).grown hgrow (by have := hbel.size; simp; omega) (fun k hk => (unhide Hlt k hk).1)
          case measure => simp [intOf]; omega
    · have ki : ¬ (k : Int) < (n : Int) := by omega
      have e : k = n := by omega
      subst e
      have e2 := hide (show l.take k = l from List.take_of_length_le (by rw [h.len]; exact Nat.le_refl _))
      go_wp2
      go_ret
      rw [unhide e2] at hown
      exact ⟨_, rfl, hown, hbel⟩
end Go.Proofs.Ytidkdnlbecompab.mem
