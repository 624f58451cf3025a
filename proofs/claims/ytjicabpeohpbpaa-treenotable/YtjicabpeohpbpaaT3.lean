import Derived.Test.YtjicabpeohpbpaaT2
import Derived.RangeFuncNested
import Derived.RangeFuncBound
import Derived.RangeFuncCalls
import Derived.RangeFuncLeaves
import Derived.Shelf.Abstract
import Derived.Shelf.RegionOpen
import Derived.OwnWalkIn
import Derived.TacticsInMore
import Derived.LoopNIn
import Derived.LoopIn
namespace Go.Proofs.Ytjicabpeohpbpaa.tab
open Go.ChangeShapes Go.WideShapes Go.ChangeAt Go.RowKit Go.Maps Go.Shelf
attribute [local go_sem] Oper.semAt_some
set_option linter.unusedVariables false
theorem all_any (F : Fence) (n : Nat) (hF : F.fn 22) (hro : F.round = none) (p : Option Addr) (w : World) :
    CallsIn F n Try.prog 22 #[.pointer p] w fun e w' => e = .returned (.func (.func 40) #[] #[.pointer (some ⟨w.heap.size, 0, none⟩)]) ∧ w' = w.alloc (.cells #[.pointer p] 48) := by
  refine callsIn_of_wp Try.func22 rfl hF ?_ hro
  simp only [Try.ntmps22, List.size_toArray, List.length_cons, List.length_nil, Nat.reduceAdd, Nat.reduceSub, Array.replicate_succ, Array.replicate_zero, List.push_toArray, List.append_toArray, List.nil_append, List.cons_append]
  gi_wp2
  go_ret
  exact ⟨rfl, rfl⟩
theorem all_nil (F : Fence) (n : Nat) (hF : F.fn 40) (hro : F.round = none) (Bo n₀ : Nat) (w : World) (hB : Bo < w.heap.size) (hc : w.cell? ⟨Bo, 0, none⟩ = some (.pointer none)) :
    SeqStopsK (α := Empty) F n Try.prog 40 #[.pointer (some ⟨Bo, 0, none⟩)] (fun x => x.elim) (Below n₀) (fun _ => True) (fun _ => False) 0 w := by
  intro l J Jx W hW hJ hJx hY h0
  have hc' := (hW.cell (p := ⟨Bo, 0, none⟩) hB).trans hc
  refine callsIn_of_wp Try.func40 rfl hF ?_ hro
  simp only [Try.ntmps40, List.size_toArray, List.length_cons, List.length_nil, Nat.reduceAdd, Nat.reduceSub, Array.replicate_succ, Array.replicate_zero, List.push_toArray, List.append_toArray, List.nil_append, List.cons_append]
  gi_wp2
  refine bodyPost_ret (results_none rfl _ _ _) rfl ?_
  exact ⟨⟨_, rfl⟩, [], h0⟩
theorem len_nil (F : Fence) (n : Nat) (hF : F.fn 17) (hro : F.round = none) (w : World) :
    CallsIn F n Try.prog 17 #[.pointer none] w fun e w' => e = .returned (.int .i64 0) ∧ w' = w := by
  refine callsIn_of_wp Try.func17 rfl hF ?_ hro
  simp only [Try.ntmps17, List.size_toArray, List.length_cons, List.length_nil, Nat.reduceAdd, Nat.reduceSub, Array.replicate_succ, Array.replicate_zero, List.push_toArray, List.append_toArray, List.nil_append, List.cons_append]
  gi_wp2
  go_ret
  exact ⟨rfl, rfl⟩
theorem infoS : (Try.prog.info? 9).map (fun i => (i.zero, i.size, i.bytes)) = some (some (.string ⟨#[]⟩), 1, 16) := by kernel_rfl
set_option maxRecDepth 6000 in
theorem keys_nil (F : Fence) (n : Nat) (h1 : F.fn 19) (h2 : F.fn 22) (h3 : F.fn 40) (h4 : F.fn 17) (hro : F.round = none) (hn : 4 ≤ n) (w : World) :
    CallsIn F n Try.prog 19 #[.pointer none] w fun e w' => ∃ a c, e = .returned (.slice a 0 c) ∧ Below w.heap.size w w' := by
  have h1' : 1 ≤ n := by omega
  obtain ⟨i0, hi0, hz0, hz1, hz2⟩ := info_parts infoS
  refine callsIn_of_wp_marks Try.func19 rfl h1 ?_ hro
  simp only [Try.ntmps19, List.size_toArray, List.length_cons, List.length_nil, Nat.reduceAdd, Nat.reduceSub, Array.replicate_succ, Array.replicate_zero, List.push_toArray, List.append_toArray, List.nil_append, List.cons_append]
  gi_wp2_with (first | (gi_at_make; refine wpListIn_make_own _ rfl _ _ 52 rfl w.heap.size 9 i0 _ 1 Try.underlying52 hi0 hz0 hz1 .i64 .i64 0 0 rfl rfl rfl (by simp) (by decide) (Nat.le_refl _) ?_; intro w1 ho1 hg1) | (gi_at_call 17; refine (len_nil F (n - 1) h4 hro _).mono ?_; rintro e w' ⟨rfl, hw'⟩; subst w') | (gi_at_call 22; refine (all_any F (n - 1) h2 hro _ _).mono ?_; rintro e w' ⟨rfl, rfl⟩))
  have hw0 : ∃ W0, ((w1.alloc (Obj.cells #[Value.slice (some { block := w.heap.size, off := 0 }) 0 0] 52)).alloc (Obj.cells #[Value.pointer none] 48)) = W0 ∧ W0.heap.size = w1.heap.size + 2 ∧ Below w.heap.size w W0 ∧ W0.cell? ⟨w1.heap.size, 0, none⟩ = some (.slice (some ⟨w.heap.size, 0, none⟩) 0 0) ∧ W0.cell? ⟨w1.heap.size + 1, 0, none⟩ = some (.pointer none) := by
    refine ⟨_, rfl, by simp, (((Below.refl _ _).grown hg1 (Nat.le_refl _) (fun q hq => by cases hq)).alloc hg1.size _).alloc (by have := hg1.size; simp; omega) _, ?_, ?_⟩
    · simp
    · have e : w1.heap.size + 1 = (w1.alloc (Obj.cells #[Value.slice (some { block := w.heap.size, off := 0 }) 0 0] 52)).heap.size := by simp
      rw [e]
      simp
  obtain ⟨W0, e0, s0, B0, k0, k1⟩ := hw0
  rw [e0]
  clear e0
  have sw := hg1.size
  refine wpIn_rangeFunc_ownF (α := Empty) hro h1' (gf := 40) (lb := #[.pointer (some ⟨w1.heap.size + 1, 0, none⟩)]) rfl h3 (enters_of Try.func40 (by kernel_rfl) rfl)
    (all_nil F (n - 1) h3 hro (w1.heap.size + 1) w.heap.size W0 (by omega) k1) belowK_t (belowK_b (by omega)) (Below.refl _ _) (fun x => x.elim)
    (fun pre W => W.cell? ⟨w1.heap.size, 0, none⟩ = some (.slice (some ⟨w.heap.size, 0, none⟩) 0 0) ∧ Below w.heap.size w W) (fun _ _ _ => False)
    (OwnFrom.and (Own.from (fun s A B row hs hg hr => cell_kept hs hg hr) _) (ownFrom_below (Nat.le_refl _) (by omega)))
    (fun c => Own.from (fun _ _ _ _ hs _ _ => hs) _) ⟨k0, B0⟩ (fun x => x.elim) ?assign ?body ?done ?stop
  case assign => exact fun l x => x.elim
  case body => exact fun l pre x => x.elim
  case stop =>
    rintro D c pre W _ h _
    exact h.elim
  case done =>
    rintro D ys W hD _ ⟨hc, hB⟩ hK
    gi_wp2
    refine ⟨by simp, .inl ⟨_, _, rfl, run_takeDeferred hK, ?_⟩⟩
    exact ⟨_, results_tmp rfl _ _ _, _, _, rfl, hB.trans (belowK_b (w := w) (Nat.le_refl _) W D _ _ (by have := B0.size; omega) hK rfl rfl)⟩
theorem put_nil (s : ByteArray) (v : Int) (w : World) : Calls Try.prog 16 #[.pointer none, .string s, .int .i64 v] w fun e w' => e = .returned (.bool false) ∧ Below w.heap.size w w' := by
  go_enter Try.func16, Try.ntmps16
  go_wp2
  go_ret
  exact ⟨rfl, Below.refl _ _⟩
theorem drop_nil' (s : ByteArray) (w : World) : Calls Try.prog 18 #[.pointer none, .string s] w fun e w' => e = .returned (.bool false) ∧ Below w.heap.size w w' := by
  go_enter Try.func18, Try.ntmps18
  go_wp2_with fail
  refine (find_nil s _).mono ?_
  rintro e w' ⟨rfl, hw'⟩
  subst w'
  go_wp2
  go_ret
  exact ⟨rfl, Below.refl _ _⟩
theorem get_nil (s : ByteArray) (w : World) : Calls Try.prog 20 #[.pointer none, .string s] w fun e w' => e = .returned (.tuple #[.int .i64 0, .bool false]) ∧ Below w.heap.size w w' := by
  go_enter Try.func20, Try.ntmps20
  go_wp2_with fail
  refine (find_nil s _).mono ?_
  rintro e w' ⟨rfl, hw'⟩
  subst w'
  go_wp2
  go_ret2
  exact ⟨rfl, Below.refl _ _⟩
theorem len_nil' (w : World) : Calls Try.prog 17 #[.pointer none] w fun e w' => e = .returned (.int .i64 0) ∧ Below w.heap.size w w' := by
  go_enter Try.func17, Try.ntmps17
  go_wp2
  go_ret
  exact ⟨rfl, Below.refl _ _⟩
theorem len_one (s : ByteArray) (v : Int) (B b : Nat) (w : World) (h : One w B b s v) : Calls Try.prog 17 #[.pointer (some ⟨b, 0, none⟩)] w fun e w' => e = .returned (.int .i64 1) ∧ Below w.heap.size w w' := by
  obtain ⟨g, cap, m, hb, hm, hg, hbg, hmg, hBg, c0, c1, hown, r0, r1, r2, fr⟩ := h
  go_enter Try.func17, Try.ntmps17
  go_wp2
  go_ret
  exact ⟨rfl, Below.refl _ _⟩
theorem at_nil (i : Int) (w : World) : Calls Try.prog 21 #[.pointer none, .int .i64 i] w fun e w' => e = .returned (.tuple #[.string ⟨#[]⟩, .int .i64 0, .bool false]) ∧ Below w.heap.size w w' := by
  by_cases hi : i < 0
  · go_enter Try.func21, Try.ntmps21
    go_wp2
    go_ret3
    exact ⟨rfl, Below.refl _ _⟩
  · have hi2 : 0 ≤ i := by omega
    go_enter Try.func21, Try.ntmps21
    go_wp2_with fail
    refine (len_nil' _).mono ?_
    rintro e w' ⟨rfl, hb⟩
    go_wp2
    go_ret3
    exact ⟨rfl, hb⟩
theorem new_ord (w : World) : Calls Try.prog 15 #[] w fun e w' => e = .returned (.pointer (some ⟨w.heap.size, 0, none⟩)) ∧ w' = w.alloc (.cells #[.slice none 0 0, .map none, .int .i64 0] 82) := by
  go_enter Try.func15, Try.ntmps15
  go_wp2
  go_ret
  exact ⟨rfl, rfl⟩
theorem one_below {w w' : World} {B b : Nat} {s : ByteArray} {v : Int} (h : One w B b s v) (hB : Below w.heap.size w w') : One w' B b s v := by
  obtain ⟨g, cap, m, hb, hm, hg, hbg, hmg, hBg, c0, c1, hown, r0, r1, r2, fr⟩ := h
  have hs := hB.size
  refine ⟨g, cap, m, by omega, by omega, by omega, hbg, hmg, hBg, (hB.cell (p := ⟨b, 0, none⟩) hb).trans c0, (hB.cell (p := ⟨b, 1, none⟩) hb).trans c1, ?_, (hB.cell (p := ⟨g, 0, none⟩) hg).trans r0, (hB.cell (p := ⟨g, 1, none⟩) hg).trans r1, (hB.cell (p := ⟨g, 2, none⟩) hg).trans r2, (hB.frozen (p := ⟨g, 2, none⟩) hg).trans fr⟩
  obtain ⟨es, clock, hbk, F1, hle, hD⟩ := hown
  exact ⟨es, clock, by rw [hB.block m hm]; exact hbk, F1, hle, hD⟩
theorem start_new {w w1 : World} (h : w1 = (w.alloc (.cells #[.bool false] 4)).alloc (.cells #[.slice none 0 0, .map none, .int .i64 0] 82)) :
    w1.heap.size = w.heap.size + 2 ∧ (∀ i : Nat, w1.frozen? ⟨w.heap.size + 1, i, none⟩ = false) ∧ w1.cell? ⟨w.heap.size + 1, 0, none⟩ = some (.slice none 0 0) ∧ w1.cell? ⟨w.heap.size + 1, 1, none⟩ = some (.map none) ∧ w1.cell? ⟨w.heap.size + 1, 2, none⟩ = some (.int .i64 0) ∧ Below w.heap.size w w1 ∧ w1.cell? ⟨w.heap.size, 0, none⟩ = some (.bool false) ∧ w1.frozen? ⟨w.heap.size, 0, none⟩ = false := by
  subst h
  have e : w.heap.size + 1 = (w.alloc (.cells #[.bool false] 4)).heap.size := by simp
  refine ⟨by simp, ?_, ?_, ?_, ?_, ((Below.refl _ _).alloc (Nat.le_refl _) _).alloc (by simp) _, by simp, by simp⟩
  · intro i
    rw [e]
    simp
  · rw [e]
    simp
  · rw [e]
    simp
  · rw [e]
    simp
theorem step_on {w wx wy : World} (k : wx.cell? ⟨w.heap.size, 0, none⟩ = some (.bool false)) (f : wx.frozen? ⟨w.heap.size, 0, none⟩ = false) (h1 : Below w.heap.size w wx) (h2 : Below wx.heap.size wx wy) :
    wy.cell? ⟨w.heap.size, 0, none⟩ = some (.bool false) ∧ wy.frozen? ⟨w.heap.size, 0, none⟩ = false ∧ Below w.heap.size w wy := by
  have hl := World.block_lt_of_cell? _ _ k
  exact ⟨(h2.cell (p := ⟨w.heap.size, 0, none⟩) hl).trans k, (h2.frozen (p := ⟨w.heap.size, 0, none⟩) hl).trans f, h1.trans (h2.mono h1.size)⟩
theorem funcSome (f : Fn) (lb : Array Value) (w : World) : (binOp BinOp.eql 58 (.func f #[] lb) .nilFunc).run Try.prog w = .ok (.bool false) w := by kernel_rfl
theorem all_box {w wb : World} {p : Option Addr} {t : TypeId} (h : wb = w.alloc (.cells #[.pointer p] t)) : w.heap.size < wb.heap.size ∧ wb.cell? ⟨w.heap.size, 0, none⟩ = some (.pointer p) ∧ Below w.heap.size w wb := by
  subst h
  exact ⟨by simp, by simp, (Below.refl _ _).alloc (Nat.le_refl _) _⟩
set_option maxHeartbeats 1000000 in
set_option maxRecDepth 6000 in
theorem noTable_in (s : ByteArray) (v i : Int) (w : World) (hs : s.size ≤ maxLen) :
    CallsIn Fence.wide 12 Try.prog 4 #[.string s, .int .i64 v, .int .i64 i] w fun e w' => e = .returned (.bool true) ∧ Below w.heap.size w w' := by
  refine callsIn_of_wp_marks Try.func4 rfl trivial ?_ rfl
  simp only [Try.ntmps4, List.size_toArray, List.length_cons, List.length_nil, Nat.reduceAdd, Nat.reduceSub, Array.replicate_succ, Array.replicate_zero, List.push_toArray, List.append_toArray, List.nil_append, List.cons_append]
  gi_wp2_with fail
  refine ⟨trivial, (callsIn_wide.2 (new_ord _)).mono ?_⟩
  rintro e w1 ⟨rfl, hw1⟩
  obtain ⟨s1, hn, q0, q1, q2, B1, k1, f1⟩ := start_new hw1
  clear hw1
  gi_wp2_with fail
  refine ⟨trivial, (callsIn_wide.2 (put_first s v (w.heap.size + 1) (w.heap.size + 1) w1 hs (by omega) (Nat.le_refl _) q0 q1 q2 (hn 0) (hn 1) (hn 2))).mono ?_⟩
  rintro e w2 ⟨rfl, O2, B2⟩
  have k1 := (B2.cell (p := ⟨w.heap.size, 0, none⟩) (Nat.lt_succ_self _)).trans k1
  have f1 := (B2.frozen (p := ⟨w.heap.size, 0, none⟩) (Nat.lt_succ_self _)).trans f1
  have B2 := B1.trans (B2.mono (Nat.le_succ _))
  clear B1 q0 q1 q2 hn
  gi_wp2_with fail
  refine ⟨trivial, (callsIn_wide.2 (put_again s v v (w.heap.size + 1) (w.heap.size + 1) w2 hs (by have := B2.size; have := World.block_lt_of_cell? _ _ k1; simp at this; omega) O2)).mono ?_⟩
  rintro e w3 ⟨rfl, O3, B3⟩
  have k1 := (B3.cell (p := ⟨w.heap.size, 0, none⟩) (Nat.lt_succ_self _)).trans k1
  have f1 := (B3.frozen (p := ⟨w.heap.size, 0, none⟩) (Nat.lt_succ_self _)).trans f1
  have B3 := B2.trans (B3.mono (Nat.le_succ _))
  clear B2 O2 s1
  gi_wp2_with fail
  refine ⟨trivial, (callsIn_wide.2 (len_one s v (w.heap.size + 1) (w.heap.size + 1) w3 O3)).mono ?_⟩
  rintro e w4 ⟨rfl, B4⟩
  obtain ⟨k1, f1, B4⟩ := step_on k1 f1 B3 B4
  clear B3 O3
  gi_wp2_with fail
  refine ⟨trivial, (callsIn_wide.2 (put_nil s v w4)).mono ?_⟩
  rintro e w5 ⟨rfl, B5⟩
  obtain ⟨k1, f1, B5⟩ := step_on k1 f1 B4 B5
  clear B4
  gi_wp2_with fail
  refine ⟨trivial, (callsIn_wide.2 (drop_nil' s w5)).mono ?_⟩
  rintro e w6 ⟨rfl, B6⟩
  obtain ⟨k1, f1, B6⟩ := step_on k1 f1 B5 B6
  clear B5
  gi_wp2_with fail
  refine ⟨trivial, (callsIn_wide.2 (len_nil' w6)).mono ?_⟩
  rintro e w7 ⟨rfl, B7⟩
  obtain ⟨k1, f1, B7⟩ := step_on k1 f1 B6 B7
  clear B6
  gi_wp2_with fail
  refine ⟨trivial, (keys_nil Fence.wide 11 trivial trivial trivial trivial rfl (by decide) w7).mono ?_⟩
  rintro e w8 ⟨ka, kc, rfl, B8⟩
  obtain ⟨k1, f1, B8⟩ := step_on k1 f1 B7 B8
  clear B7
  gi_wp2_with fail
  refine ⟨trivial, (callsIn_wide.2 (get_nil s w8)).mono ?_⟩
  rintro e w9 ⟨rfl, B9⟩
  obtain ⟨k1, f1, B9⟩ := step_on k1 f1 B8 B9
  clear B8
  gi_wp2_with fail
  refine ⟨trivial, (callsIn_wide.2 (at_nil i w9)).mono ?_⟩
  rintro e wa ⟨rfl, Ba⟩
  obtain ⟨k1, f1, Ba⟩ := step_on k1 f1 B9 Ba
  clear B9
  gi_wp2_with fail
  refine ⟨trivial, (all_any Fence.wide 11 trivial rfl none wa).mono ?_⟩
  rintro e wb ⟨rfl, hwb⟩
  obtain ⟨hwl, hc, Bb⟩ := all_box hwb
  clear hwb
  obtain ⟨k1, f1, Bb⟩ := step_on k1 f1 Ba Bb
  have hfn := funcSome
  gi_wp2_with fail
  have sa := Ba.size
  refine wpIn_rangeFunc_ownF (α := Empty) rfl (by decide) (gf := 40) (lb := #[.pointer (some ⟨wa.heap.size, 0, none⟩)]) rfl trivial (enters_of Try.func40 (by kernel_rfl) rfl)
    (all_nil Fence.wide 11 trivial rfl wa.heap.size w.heap.size wb hwl hc) belowK_t (belowK_b (by omega)) (Below.refl _ _) (fun x => x.elim)
    (fun pre W => (W.cell? ⟨w.heap.size, 0, none⟩ = some (.bool false) ∧ W.frozen? ⟨w.heap.size, 0, none⟩ = false) ∧ Below w.heap.size w W) (fun _ _ _ => False)
    (OwnFrom.and (Own.from (fun s A B row hs hg hr => ⟨cell_kept hs.1 hg hr, (frozen_kept hs.1 hg hr).trans hs.2⟩) _) (ownFrom_below (Nat.le_refl _) (by omega)))
    (fun c => Own.from (fun _ _ _ _ hs _ _ => hs) _) ⟨⟨k1, f1⟩, Bb⟩ (fun x => x.elim) ?assign ?body ?done ?stop
  case assign => exact fun l x => x.elim
  case body => exact fun l pre x => x.elim
  case stop =>
    rintro D c pre W _ h _
    exact h.elim
  case done =>
    rintro D ys W hD _ ⟨⟨kc, kf⟩, hB⟩ hK
    gi_wp2
    have hK' : (W.setCell ⟨w.heap.size, 0, none⟩ (.bool true)).heap[D]? = some (.deferred (some [])) := (KeepsOthers.setCell W _ _).same D _ hK rfl
    have hc' := cell_kept (World.cell?_setCell_same _ ⟨w.heap.size, 0, none⟩ (.bool true) kc) (grownBy_putObj' _ D (.deferred none)) (fun r e => by cases e; exact ⟨_, hK', rfl⟩)
    refine ⟨by simp, .inl ⟨_, _, rfl, run_takeDeferred hK', ?_⟩⟩
    refine ⟨.bool true, ?_, rfl, (hB.setCell (p := ⟨w.heap.size, 0, none⟩) (Nat.le_refl _) _).trans (belowK_b (w := w) (Nat.le_refl _) _ D _ _ (by omega) hK' rfl rfl)⟩
    simp [results, Try.f4, go_sem, hc']
end Go.Proofs.Ytjicabpeohpbpaa.tab
