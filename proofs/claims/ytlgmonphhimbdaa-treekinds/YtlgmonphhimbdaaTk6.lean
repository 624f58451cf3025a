import Derived.Test.YtlgmonphhimbdaaTk5
import Derived.Test.YtlgmonphhimbdaaWk1
import Derived.RangeFuncNested
import Derived.RangeFuncBound
import Derived.RangeFuncCalls
import Derived.RangeFuncLeaves
import Derived.Shelf.Abstract
import Derived.Shelf.RegionOpen
import Derived.OwnWalkIn
import Derived.TacticsInMore
import Derived.LoopNIn
import Derived.LoopIn
namespace Go.Proofs.Ytlgmonphhimbdaa.knd
open Go.ChangeShapes Go.WideShapes Go.ChangeAt Go.RowKit Go.Maps Go.Shelf
open wk
attribute [local go_sem] Oper.semAt_some
set_option linter.unusedVariables false
/-- what Clone answers: rows in a block of their own -/
def ClPost (rs : List Rw) (w : World) (e : Ending) (w' : World) : Prop :=
  Below w.heap.size w w' ∧ ((rs = [] ∧ ∃ a c, e = .returned (.slice a 0 c)) ∨ (0 < rs.length ∧ ∃ c, e = .returned (.slice (some ⟨w.heap.size + 1, 0, none⟩) rs.length c) ∧ w'.heap.size = w.heap.size + 2 ∧ w'.rangeAt (w.heap.size + 1) 0 (flat rs)))
theorem sliceNil (w : World) : (binOp BinOp.eql 23 (.slice none 0 0) (.slice none 0 0)).run Try.prog w = .ok (.bool true) w := by kernel_rfl
theorem sliceSome (a : Addr) (n c : Nat) (w : World) : (binOp BinOp.eql 23 (.slice (some a) n c) (.slice none 0 0)).run Try.prog w = .ok (.bool false) w := by kernel_rfl
set_option maxRecDepth 6000 in
theorem clone_ok (w : World) (Y : Nat → Prop) (v : Value) (rs : List Rw) (h : Lie w Y v rs) (hn : rs.length ≤ 1099511627776) : Calls Try.prog 14 #[v] w (ClPost rs w) := by
  obtain ⟨i0, hi0, hz0, hz1, hz2⟩ := info_parts infoR
  have hs1 := sliceNil
  have hs2 := sliceSome
  obtain ⟨a, cap, rfl, hc, hm, h3⟩ := h
  rcases h3 with ⟨rfl, rfl⟩ | ⟨g, off, rfl, hg, hy, hr, ht⟩
  · obtain rfl : rs = [] := List.eq_nil_of_length_eq_zero (by omega)
    simp only [List.length_nil]
    clear hi0 hz0 hz1 hz2
    go_enter Try.func14, Try.ntmps14
    go_wp2
    go_ret
    exact ⟨Below.refl _ _, .inl ⟨rfl, _, _, rfl⟩⟩
  · obtain ⟨W, hW⟩ : ∃ W, W = w.alloc (.cells #[] 52) := ⟨_, rfl⟩
    have sW : W.heap.size = w.heap.size + 1 := by rw [hW]; exact World.size_alloc w _
    have bW : Below w.heap.size w W := by rw [hW]; exact (Below.refl _ w).alloc (Nat.le_refl _) _
    have hrW : W.rangeAt g off (flat rs) := ra_same (bW.block g hg) hr
    obtain ⟨v', w', hrun, hP⟩ : ∃ v' w', (Builtin.append_ #[23, 23] 23 #[.slice (some ⟨w.heap.size, 0, none⟩) 0 0, .slice (some ⟨g, off, none⟩) rs.length cap]).run Try.prog W = .ok v' w' ∧ ClPost rs w (.returned v') w' := by
      by_cases h0 : rs.length = 0
      · obtain rfl : rs = [] := List.eq_nil_of_length_eq_zero h0
        have := run_append_room_cells (P := Try.prog) W 23 23 52 i0 Try.underlying23 hi0 w.heap.size 0 0 0 ⟨g, off, none⟩ 0 cap [] (by simp) (by simp) (by simp) (by omega) (by simp) (by simp)
        exact ⟨_, _, this, bW, .inl ⟨rfl, _, _, rfl⟩⟩
      · have hl : (flat rs).length = rs.length * 5 := flat_len rs
        obtain ⟨v', w', hrun, r1, r2⟩ := run_append_arg_grows (P := Try.prog) W 23 23 52 i0 _ 5 40 Try.underlying23 hi0 hz0 hz1 hz2 rfl (by decide) ⟨w.heap.size, 0, none⟩ 0 0 [] rfl (by simp) ⟨g, off, none⟩ rs.length cap (flat rs) hl (fun j u hj => by rw [Addr.add_lit]; exact hrW j u hj) (by omega) (by simp only [maxLen]; omega) (by omega)
        have hx := run_append_grow (P := Try.prog) W 23 23 52 i0 _ Try.underlying23 hi0 hz0 ⟨w.heap.size, 0, none⟩ 0 0 [] (by simp) (by simp) ⟨g, off, none⟩ rs.length cap (flat rs) (by rw [hz1]; exact hl) (fun j u hj => by rw [Addr.add_lit]; exact hrW j u hj) (by omega) (by omega) (growslice_fits (by omega) (by rw [hz2]; omega))
        rw [hrun] at hx
        injection hx with e1 e2
        refine ⟨v', w', hrun, bW.trans ((Below.refl _ _).grown r2 bW.size (fun q hq => by cases hq)), .inr ⟨by omega, ?_⟩⟩
        rw [Nat.zero_add] at e1 r1
        have hsz : w'.heap.size = w.heap.size + 2 := by
          rw [e2]
          simp [sW]
        rw [e1, sW] at r1 ⊢
        refine ⟨_, rfl, hsz, ?_⟩
        have hl := lie_own (rs := rs) (by simpa using r1)
        obtain ⟨a5, c5, e5, -, -, h5⟩ := hl
        rcases h5 with ⟨rfl, rfl⟩ | ⟨g5, o5, rfl, -, -, q5, -⟩
        · cases e5
        · cases e5
          exact q5
    have HP := hide hP
    rw [hW] at hrun
    clear hW hrW bW sW hP hr ht hc hm hn
    obtain ⟨n, hn'⟩ : ∃ n, n = rs.length := ⟨_, rfl⟩
    rw [← hn'] at hrun ⊢
    clear hn' hi0 hz0 hz1 hz2
    go_enter Try.func14, Try.ntmps14
    go_wp2_with (at_builtin; refine wpl_app rfl _ _ 23 23 rfl (.slice (some ⟨w.heap.size, 0, none⟩) 0 0) (.slice (some ⟨g, off, none⟩) n cap) (by simp [Act.eval]) (by simp [Act.eval]) v' w' hrun ?_)
    refine bodyPost_ret (results_tmp rfl _ _ _) rfl ?_
    exact unhide HP
end Go.Proofs.Ytlgmonphhimbdaa.knd
