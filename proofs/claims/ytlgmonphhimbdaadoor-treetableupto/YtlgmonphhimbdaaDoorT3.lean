import Derived.Test.YtlgmonphhimbdaaDoorT2
import Derived.RangeFuncNested
import Derived.RangeFuncBound
import Derived.RangeFuncCalls
import Derived.RangeFuncLeaves
import Derived.Shelf.Abstract
import Derived.Shelf.RegionOpen
import Derived.OwnWalkIn
import Derived.TacticsInMore
import Derived.LoopNIn
import Derived.LoopIn
namespace Go.Proofs.YtlgmonphhimbdaaDoor.tab
open Go.ChangeShapes Go.WideShapes Go.ChangeAt Go.RowKit Go.Maps Go.Shelf
attribute [local go_sem] Oper.semAt_some
set_option linter.unusedVariables false
theorem all_any (F : Fence) (n : Nat) (hF : F.fn 21) (hro : F.round = none) (p : Option Addr) (w : World) :
    CallsIn F n Tryd.prog 21 #[.pointer p] w fun e w' => e = .returned (.func (.func 28) #[] #[.pointer (some ⟨w.heap.size, 0, none⟩)]) ∧ w' = w.alloc (.cells #[.pointer p] 23) := by
  refine callsIn_of_wp Tryd.func21 rfl hF ?_ hro
  simp only [Tryd.ntmps21, List.size_toArray, List.length_cons, List.length_nil, Nat.reduceAdd, Nat.reduceSub, Array.replicate_succ, Array.replicate_zero, List.push_toArray, List.append_toArray, List.nil_append, List.cons_append]
  gi_wp2
  go_ret
  exact ⟨rfl, rfl⟩
theorem all_nil (F : Fence) (n : Nat) (hF : F.fn 28) (hro : F.round = none) (Bo n₀ : Nat) (w : World) (hB : Bo < w.heap.size) (hc : w.cell? ⟨Bo, 0, none⟩ = some (.pointer none)) :
    SeqStopsK (α := Empty) F n Tryd.prog 28 #[.pointer (some ⟨Bo, 0, none⟩)] (fun x => x.elim) (Below n₀) (fun _ => True) (fun _ => False) 0 w := by
  intro l J Jx W hW hJ hJx hY h0
  have hc' := (hW.cell (p := ⟨Bo, 0, none⟩) hB).trans hc
  refine callsIn_of_wp Tryd.func28 rfl hF ?_ hro
  simp only [Tryd.ntmps28, List.size_toArray, List.length_cons, List.length_nil, Nat.reduceAdd, Nat.reduceSub, Array.replicate_succ, Array.replicate_zero, List.push_toArray, List.append_toArray, List.nil_append, List.cons_append]
  gi_wp2
  refine bodyPost_ret (results_none rfl _ _ _) rfl ?_
  exact ⟨⟨_, rfl⟩, [], h0⟩
theorem len_nil (F : Fence) (n : Nat) (hF : F.fn 6) (hro : F.round = none) (w : World) :
    CallsIn F n Tryd.prog 6 #[.pointer none] w fun e w' => e = .returned (.int .i64 0) ∧ w' = w := by
  refine callsIn_of_wp Tryd.func6 rfl hF ?_ hro
  simp only [Tryd.ntmps6, List.size_toArray, List.length_cons, List.length_nil, Nat.reduceAdd, Nat.reduceSub, Array.replicate_succ, Array.replicate_zero, List.push_toArray, List.append_toArray, List.nil_append, List.cons_append]
  gi_wp2
  go_ret
  exact ⟨rfl, rfl⟩
theorem infoS : (Tryd.prog.info? 9).map (fun i => (i.zero, i.size, i.bytes)) = some (some (.string ⟨#[]⟩), 1, 16) := by kernel_rfl
set_option maxRecDepth 6000 in
theorem keys_nil (F : Fence) (n : Nat) (h1 : F.fn 20) (h2 : F.fn 21) (h3 : F.fn 28) (h4 : F.fn 6) (hro : F.round = none) (hn : 4 ≤ n) (w : World) :
    CallsIn F n Tryd.prog 20 #[.pointer none] w fun e w' => ∃ a c, e = .returned (.slice a 0 c) ∧ Below w.heap.size w w' := by
  have h1' : 1 ≤ n := by omega
  obtain ⟨i0, hi0, hz0, hz1, hz2⟩ := info_parts infoS
  refine callsIn_of_wp_marks Tryd.func20 rfl h1 ?_ hro
  simp only [Tryd.ntmps20, List.size_toArray, List.length_cons, List.length_nil, Nat.reduceAdd, Nat.reduceSub, Array.replicate_succ, Array.replicate_zero, List.push_toArray, List.append_toArray, List.nil_append, List.cons_append]
  gi_wp2_with (first | (gi_at_make; refine wpListIn_make_own _ rfl _ _ 52 rfl w.heap.size 9 i0 _ 1 Tryd.underlying52 hi0 hz0 hz1 .i64 .i64 0 0 rfl rfl rfl (by simp) (by decide) (Nat.le_refl _) ?_; intro w1 ho1 hg1) | (gi_at_call 6; refine (len_nil F (n - 1) h4 hro _).mono ?_; rintro e w' ⟨rfl, hw'⟩; subst w') | (gi_at_call 21; refine (all_any F (n - 1) h2 hro _ _).mono ?_; rintro e w' ⟨rfl, rfl⟩))
  have hw0 : ∃ W0, ((w1.alloc (Obj.cells #[Value.slice (some { block := w.heap.size, off := 0 }) 0 0] 52)).alloc (Obj.cells #[Value.pointer none] 23)) = W0 ∧ W0.heap.size = w1.heap.size + 2 ∧ Below w.heap.size w W0 ∧ W0.cell? ⟨w1.heap.size, 0, none⟩ = some (.slice (some ⟨w.heap.size, 0, none⟩) 0 0) ∧ W0.cell? ⟨w1.heap.size + 1, 0, none⟩ = some (.pointer none) := by
    refine ⟨_, rfl, by simp, (((Below.refl _ _).grown hg1 (Nat.le_refl _) (fun q hq => by cases hq)).alloc hg1.size _).alloc (by have := hg1.size; simp; omega) _, ?_, ?_⟩
    · simp
    · have e : w1.heap.size + 1 = (w1.alloc (Obj.cells #[Value.slice (some { block := w.heap.size, off := 0 }) 0 0] 52)).heap.size := by simp
      rw [e]
      simp
  obtain ⟨W0, e0, s0, B0, k0, k1⟩ := hw0
  rw [e0]
  clear e0
  have sw := hg1.size
  refine wpIn_rangeFunc_ownF (α := Empty) hro h1' (gf := 28) (lb := #[.pointer (some ⟨w1.heap.size + 1, 0, none⟩)]) rfl h3 (enters_of Tryd.func28 (by kernel_rfl) rfl)
    (all_nil F (n - 1) h3 hro (w1.heap.size + 1) w.heap.size W0 (by omega) k1) belowK_t (belowK_b (by omega)) (Below.refl _ _) (fun x => x.elim)
    (fun pre W => W.cell? ⟨w1.heap.size, 0, none⟩ = some (.slice (some ⟨w.heap.size, 0, none⟩) 0 0) ∧ Below w.heap.size w W) (fun _ _ _ => False)
    (OwnFrom.and (Own.from (fun s A B row hs hg hr => cell_kept hs hg hr) _) (ownFrom_below (Nat.le_refl _) (by omega)))
    (fun c => Own.from (fun _ _ _ _ hs _ _ => hs) _) ⟨k0, B0⟩ (fun x => x.elim) ?assign ?body ?done ?stop
  case assign => exact fun l x => x.elim
  case body => exact fun l pre x => x.elim
  case stop =>
    rintro D c pre W _ h _
    exact h.elim
  case done =>
    rintro D ys W hD _ ⟨hc, hB⟩ hK
    gi_wp2
    refine ⟨by simp, .inl ⟨_, _, rfl, run_takeDeferred hK, ?_⟩⟩
    exact ⟨_, results_tmp rfl _ _ _, _, _, rfl, hB.trans (belowK_b (w := w) (Nat.le_refl _) W D _ _ (by have := B0.size; omega) hK rfl rfl)⟩
theorem put_nil (s : ByteArray) (v : Int) (w : World) : Calls Tryd.prog 5 #[.pointer none, .string s, .int .i64 v] w fun e w' => e = .returned (.bool false) ∧ Below w.heap.size w w' := by
  go_enter Tryd.func5, Tryd.ntmps5
  go_wp2
  go_ret
  exact ⟨rfl, Below.refl _ _⟩
theorem drop_nil' (s : ByteArray) (w : World) : Calls Tryd.prog 16 #[.pointer none, .string s] w fun e w' => e = .returned (.bool false) ∧ Below w.heap.size w w' := by
  go_enter Tryd.func16, Tryd.ntmps16
  go_wp2_with fail
  refine (find_nil s _).mono ?_
  rintro e w' ⟨rfl, hw'⟩
  subst w'
  go_wp2
  go_ret
  exact ⟨rfl, Below.refl _ _⟩
theorem get_nil (s : ByteArray) (w : World) : Calls Tryd.prog 14 #[.pointer none, .string s] w fun e w' => e = .returned (.tuple #[.int .i64 0, .bool false]) ∧ Below w.heap.size w w' := by
  go_enter Tryd.func14, Tryd.ntmps14
  go_wp2_with fail
  refine (find_nil s _).mono ?_
  rintro e w' ⟨rfl, hw'⟩
  subst w'
  go_wp2
  go_ret2
  exact ⟨rfl, Below.refl _ _⟩
theorem len_nil' (w : World) : Calls Tryd.prog 6 #[.pointer none] w fun e w' => e = .returned (.int .i64 0) ∧ Below w.heap.size w w' := by
  go_enter Tryd.func6, Tryd.ntmps6
  go_wp2
  go_ret
  exact ⟨rfl, Below.refl _ _⟩
theorem len_one (s : ByteArray) (v : Int) (B b : Nat) (w : World) (h : One w B b s v) : Calls Tryd.prog 6 #[.pointer (some ⟨b, 0, none⟩)] w fun e w' => e = .returned (.int .i64 1) ∧ Below w.heap.size w w' := by
  obtain ⟨g, cap, m, hb, hm, hg, hbg, hmg, hBg, c0, c1, hown, r0, r1, r2, fr⟩ := h
  go_enter Tryd.func6, Tryd.ntmps6
  go_wp2
  go_ret
  exact ⟨rfl, Below.refl _ _⟩
theorem at_nil (i : Int) (w : World) : Calls Tryd.prog 18 #[.pointer none, .int .i64 i] w fun e w' => e = .returned (.tuple #[.string ⟨#[]⟩, .int .i64 0, .bool false]) ∧ Below w.heap.size w w' := by
  by_cases hi : i < 0
  · go_enter Tryd.func18, Tryd.ntmps18
    go_wp2
    go_ret3
    exact ⟨rfl, Below.refl _ _⟩
  · have hi2 : 0 ≤ i := by omega
    go_enter Tryd.func18, Tryd.ntmps18
    go_wp2_with fail
    refine (len_nil' _).mono ?_
    rintro e w' ⟨rfl, hb⟩
    go_wp2
    go_ret3
    exact ⟨rfl, hb⟩
theorem new_ord (w : World) : Calls Tryd.prog 4 #[] w fun e w' => e = .returned (.pointer (some ⟨w.heap.size, 0, none⟩)) ∧ w' = w.alloc (.cells #[.slice none 0 0, .map none, .int .i64 0] 40) := by
  go_enter Tryd.func4, Tryd.ntmps4
  go_wp2
  go_ret
  exact ⟨rfl, rfl⟩
theorem one_below {w w' : World} {B b : Nat} {s : ByteArray} {v : Int} (h : One w B b s v) (hB : Below w.heap.size w w') : One w' B b s v := by
  obtain ⟨g, cap, m, hb, hm, hg, hbg, hmg, hBg, c0, c1, hown, r0, r1, r2, fr⟩ := h
  have hs := hB.size
  refine ⟨g, cap, m, by omega, by omega, by omega, hbg, hmg, hBg, (hB.cell (p := ⟨b, 0, none⟩) hb).trans c0, (hB.cell (p := ⟨b, 1, none⟩) hb).trans c1, ?_, (hB.cell (p := ⟨g, 0, none⟩) hg).trans r0, (hB.cell (p := ⟨g, 1, none⟩) hg).trans r1, (hB.cell (p := ⟨g, 2, none⟩) hg).trans r2, (hB.frozen (p := ⟨g, 2, none⟩) hg).trans fr⟩
  obtain ⟨es, clock, hbk, F1, hle, hD⟩ := hown
  exact ⟨es, clock, by rw [hB.block m hm]; exact hbk, F1, hle, hD⟩
theorem start_new {w w1 : World} (h : w1 = (w.alloc (.cells #[.bool false] 4)).alloc (.cells #[.slice none 0 0, .map none, .int .i64 0] 40)) :
    w1.heap.size = w.heap.size + 2 ∧ (∀ i : Nat, w1.frozen? ⟨w.heap.size + 1, i, none⟩ = false) ∧ w1.cell? ⟨w.heap.size + 1, 0, none⟩ = some (.slice none 0 0) ∧ w1.cell? ⟨w.heap.size + 1, 1, none⟩ = some (.map none) ∧ w1.cell? ⟨w.heap.size + 1, 2, none⟩ = some (.int .i64 0) ∧ Below w.heap.size w w1 ∧ w1.cell? ⟨w.heap.size, 0, none⟩ = some (.bool false) ∧ w1.frozen? ⟨w.heap.size, 0, none⟩ = false := by
  subst h
  have e : w.heap.size + 1 = (w.alloc (.cells #[.bool false] 4)).heap.size := by simp
  refine ⟨by simp, ?_, ?_, ?_, ?_, ((Below.refl _ _).alloc (Nat.le_refl _) _).alloc (by simp) _, by simp, by simp⟩
  · intro i
    rw [e]
    simp
  · rw [e]
    simp
  · rw [e]
    simp
  · rw [e]
    simp
theorem step_on {w wx wy : World} (k : wx.cell? ⟨w.heap.size, 0, none⟩ = some (.bool false)) (f : wx.frozen? ⟨w.heap.size, 0, none⟩ = false) (h1 : Below w.heap.size w wx) (h2 : Below wx.heap.size wx wy) :
    wy.cell? ⟨w.heap.size, 0, none⟩ = some (.bool false) ∧ wy.frozen? ⟨w.heap.size, 0, none⟩ = false ∧ Below w.heap.size w wy := by
  have hl := World.block_lt_of_cell? _ _ k
  exact ⟨(h2.cell (p := ⟨w.heap.size, 0, none⟩) hl).trans k, (h2.frozen (p := ⟨w.heap.size, 0, none⟩) hl).trans f, h1.trans (h2.mono h1.size)⟩
theorem funcSome (f : Fn) (lb : Array Value) (w : World) : (binOp BinOp.eql 55 (.func f #[] lb) .nilFunc).run Tryd.prog w = .ok (.bool false) w := by kernel_rfl
theorem all_box {w wb : World} {p : Option Addr} {t : TypeId} (h : wb = w.alloc (.cells #[.pointer p] t)) : w.heap.size < wb.heap.size ∧ wb.cell? ⟨w.heap.size, 0, none⟩ = some (.pointer p) ∧ Below w.heap.size w wb := by
  subst h
  exact ⟨by simp, by simp, (Below.refl _ _).alloc (Nat.le_refl _) _⟩
end Go.Proofs.YtlgmonphhimbdaaDoor.tab
