import Derived.Test.YtechaplindbfoaaGreatDoorJpa2
import Derived.Maps.AppendAt
import Derived.Deep.DeepMust
import Derived.Test.YtechaplindbfoaaGreatDoorRows
import Derived.WalkKit
import Derived.ProofKit
import Derived.OrdersHeld
import Derived.Deep.MidRow
import Derived.Laws.Rows
import Derived.Laws.ResultCell
import Derived.Deep.RegionHeld3
import Derived.Laws.Externs
import Derived.RegionTactic
import Derived.ChangeAlike
namespace Go.Proofs.YtechaplindbfoaaGreatDoor.fto
open Go.ChangeShapes Go.WideShapes Go.ChangeAt Go.RowKit
open mem
open ints (hide unhide)
set_option linter.unusedVariables false
set_option maxHeartbeats 4000000 in
set_option maxRecDepth 100000 in
theorem efg_many_p2 (B base m : Nat) (v : Value) (g dp x : Int) (ds : List Int) (w : World) {arr : Array Value} {TB : TypeId} {fr : Nat × Nat} (hB : w.heap[B]? = some (.cells arr TB fr)) (hT : TB ≠ 5) (h0 : arr[0]? = some (.int .u8 g)) (hds : ∀ j u, (ds.map (Value.int .u8))[j]? = some u → arr[1 + j]? = some u) (hl : ds.length = m) (hm0 : 1 ≤ m) (hm1 : m ≤ 31) (hown : w.ownsRow base 5 1 v 0 []) (hbase : base ≤ w.heap.size) (hx : dp - 1 = x) (hx1 : 10 ≤ x) (hx2 : x ≤ 99) :
    Calls Tryz.prog 174 #[v, .bool false, .slice (some ⟨B, 0, none⟩) 32 32, .int .i64 dp, .int .i64 ((m : Int) + 1), .int .i64 m, .int .u8 101, .bool true] w fun e w' => ∃ r, e = .returned r ∧ w'.ownsRow base 5 1 r (m + 6) ((g :: 46 :: (ds ++ [101, 43, x / 10 + 48, x % 10 + 48])).map (Value.int .u8)) ∧ Below base w w' := by
  obtain ⟨i0, hi, hz0, hz1, hz2⟩ := info_parts info8
  have c0 := cell_at hB h0
  have hmi : (1 : Int) ≤ m := by omega
  have hmj : (m : Int) ≤ 31 := by omega
  have hmn : min ((m : Int) + 1) ((m : Int) + 1) = (m : Int) + 1 := by omega
  go_enter Tryz.func174, Tryz.ntmps174
  go_wp2_with (first
    | (at_builtin; refine wpList_append_own _ rfl _ _ 34 rfl base 5 i0 (.int .u8 0) 1 1 Tryz.underlying34 hi hz0 hz1 hz2 rfl (by decide) _ _ _ rfl (hown.alloc _) ⟨w.heap.size, 0, none⟩ 1 1 [.int .u8 (g)] rfl rfl (cell_one_new _ _ _) (ints_oneCell .u8 [g]) (by unfold maxLen; omega) (by omega) (by simp; omega) ?_; intro v1 w1 hown1 hgrow1 hnil1; have s1 := Nat.le_trans hbase (World.grownBy.size ((World.grownBy_alloc w _ _).trans hgrow1)); have hB1 := keepB hB hT hown hgrow1)
    | (at_builtin; refine wpList_append_own _ rfl _ _ 34 rfl base 5 i0 (.int .u8 0) 1 1 Tryz.underlying34 hi hz0 hz1 hz2 rfl (by decide) _ _ _ rfl (hown1.alloc _) ⟨w1.heap.size, 0, none⟩ 1 1 [.int .u8 (46)] rfl rfl (cell_one_new _ _ _) (ints_oneCell .u8 [46]) (by unfold maxLen; omega) (by omega) (by simp; omega) ?_; intro v2 w2 hown2 hgrow2 hnil2; have s2 := Nat.le_trans s1 (World.grownBy.size ((World.grownBy_alloc w1 _ _).trans hgrow2)); have hB2 := keepB hB1 hT hown1 hgrow2)
    | (at_builtin; refine wpList_append_own _ rfl _ _ 34 rfl base 5 i0 (.int .u8 0) 1 1 Tryz.underlying34 hi hz0 hz1 hz2 rfl (by decide) _ _ _ rfl hown2 ⟨B, 1, none⟩ m 31 (ds.map (Value.int .u8)) (by first | rfl | (simp; omega)) (by simp [hl]) (row_at hB2 hds) (ints_oneCell .u8 ds) (by unfold maxLen; omega) (by omega) (by first | exact s2 | omega) ?_; intro v3 w3 hown3 hgrow3 hnil3; have s3 := Nat.le_trans s2 (World.grownBy.size hgrow3)))
  refine wp_loop_once ?_
  go_wp2_with (first
    | (at_builtin; refine wpList_append_own _ rfl _ _ 34 rfl base 5 i0 (.int .u8 0) 1 1 Tryz.underlying34 hi hz0 hz1 hz2 rfl (by decide) _ _ _ rfl (hown3.alloc _) ⟨w3.heap.size, 0, none⟩ 1 1 [.int .u8 (101)] rfl rfl (cell_one_new _ _ _) (ints_oneCell .u8 [101]) (by unfold maxLen; omega) (by omega) (by simp; omega) ?_; intro v4 w4 hown4 hgrow4 hnil4; have s4 := Nat.le_trans s3 (World.grownBy.size ((World.grownBy_alloc w3 _ _).trans hgrow4)))
    | (at_builtin; refine wpList_append_own _ rfl _ _ 34 rfl base 5 i0 (.int .u8 0) 1 1 Tryz.underlying34 hi hz0 hz1 hz2 rfl (by decide) _ _ _ rfl (hown4.alloc _) ⟨w4.heap.size, 0, none⟩ 1 1 [.int .u8 (43)] rfl rfl (cell_one_new _ _ _) (ints_oneCell .u8 [43]) (by unfold maxLen; omega) (by omega) (by simp; omega) ?_; intro v5 w5 hown5 hgrow5 hnil5; have s5 := Nat.le_trans s4 (World.grownBy.size ((World.grownBy_alloc w4 _ _).trans hgrow5)))
    | (at_builtin; refine wpList_append_own _ rfl _ _ 34 rfl base 5 i0 (.int .u8 0) 1 1 Tryz.underlying34 hi hz0 hz1 hz2 rfl (by decide) _ _ _ rfl (hown5.alloc _) ⟨w5.heap.size, 0, none⟩ 2 2 [.int .u8 (x / 10 + 48), .int .u8 (x % 10 + 48)] rfl rfl (cell_lit w5 [.int .u8 (x / 10 + 48), .int .u8 (x % 10 + 48)] _) (ints_oneCell .u8 [x / 10 + 48, x % 10 + 48]) (by unfold maxLen; omega) (by omega) (by simp; omega) ?_; intro v6 w6 hown6 hgrow6 hnil6; have s6 := Nat.le_trans s5 (World.grownBy.size ((World.grownBy_alloc w5 _ _).trans hgrow6))))
  go_ret
  refine ⟨_, rfl, ?_, (((((step_below hbase hown hgrow1).trans (step_below s1 hown1 hgrow2)).trans (row_below s2 hown2 hgrow3)).trans (step_below s3 hown3 hgrow4)).trans (step_below s4 hown4 hgrow5)).trans (step_below s5 hown5 hgrow6)⟩
  refine own_as hown6 (by omega) ?_
  simp
end Go.Proofs.YtechaplindbfoaaGreatDoor.fto
namespace Go.Proofs.YtechaplindbfoaaGreatDoor.fto
open Go.ChangeShapes Go.WideShapes Go.ChangeAt Go.RowKit
open mem
open ints (hide unhide)
set_option linter.unusedVariables false
set_option maxHeartbeats 4000000 in
set_option maxRecDepth 100000 in
theorem efg_many_p3 (B base m : Nat) (v : Value) (g dp x : Int) (ds : List Int) (w : World) {arr : Array Value} {TB : TypeId} {fr : Nat × Nat} (hB : w.heap[B]? = some (.cells arr TB fr)) (hT : TB ≠ 5) (h0 : arr[0]? = some (.int .u8 g)) (hds : ∀ j u, (ds.map (Value.int .u8))[j]? = some u → arr[1 + j]? = some u) (hl : ds.length = m) (hm0 : 1 ≤ m) (hm1 : m ≤ 31) (hown : w.ownsRow base 5 1 v 0 []) (hbase : base ≤ w.heap.size) (hx : dp - 1 = x) (hx1 : 100 ≤ x) (hx2 : x ≤ 400) :
    Calls Tryz.prog 174 #[v, .bool false, .slice (some ⟨B, 0, none⟩) 32 32, .int .i64 dp, .int .i64 ((m : Int) + 1), .int .i64 m, .int .u8 101, .bool true] w fun e w' => ∃ r, e = .returned r ∧ w'.ownsRow base 5 1 r (m + 7) ((g :: 46 :: (ds ++ [101, 43, x / 100 + 48, x / 10 % 10 + 48, x % 10 + 48])).map (Value.int .u8)) ∧ Below base w w' := by
  obtain ⟨i0, hi, hz0, hz1, hz2⟩ := info_parts info8
  have c0 := cell_at hB h0
  have hmi : (1 : Int) ≤ m := by omega
  have hmj : (m : Int) ≤ 31 := by omega
  have hmn : min ((m : Int) + 1) ((m : Int) + 1) = (m : Int) + 1 := by omega
  go_enter Tryz.func174, Tryz.ntmps174
  go_wp2_with (first
    | (at_builtin; refine wpList_append_own _ rfl _ _ 34 rfl base 5 i0 (.int .u8 0) 1 1 Tryz.underlying34 hi hz0 hz1 hz2 rfl (by decide) _ _ _ rfl (hown.alloc _) ⟨w.heap.size, 0, none⟩ 1 1 [.int .u8 (g)] rfl rfl (cell_one_new _ _ _) (ints_oneCell .u8 [g]) (by unfold maxLen; omega) (by omega) (by simp; omega) ?_; intro v1 w1 hown1 hgrow1 hnil1; have s1 := Nat.le_trans hbase (World.grownBy.size ((World.grownBy_alloc w _ _).trans hgrow1)); have hB1 := keepB hB hT hown hgrow1)
    | (at_builtin; refine wpList_append_own _ rfl _ _ 34 rfl base 5 i0 (.int .u8 0) 1 1 Tryz.underlying34 hi hz0 hz1 hz2 rfl (by decide) _ _ _ rfl (hown1.alloc _) ⟨w1.heap.size, 0, none⟩ 1 1 [.int .u8 (46)] rfl rfl (cell_one_new _ _ _) (ints_oneCell .u8 [46]) (by unfold maxLen; omega) (by omega) (by simp; omega) ?_; intro v2 w2 hown2 hgrow2 hnil2; have s2 := Nat.le_trans s1 (World.grownBy.size ((World.grownBy_alloc w1 _ _).trans hgrow2)); have hB2 := keepB hB1 hT hown1 hgrow2)
    | (at_builtin; refine wpList_append_own _ rfl _ _ 34 rfl base 5 i0 (.int .u8 0) 1 1 Tryz.underlying34 hi hz0 hz1 hz2 rfl (by decide) _ _ _ rfl hown2 ⟨B, 1, none⟩ m 31 (ds.map (Value.int .u8)) (by first | rfl | (simp; omega)) (by simp [hl]) (row_at hB2 hds) (ints_oneCell .u8 ds) (by unfold maxLen; omega) (by omega) (by first | exact s2 | omega) ?_; intro v3 w3 hown3 hgrow3 hnil3; have s3 := Nat.le_trans s2 (World.grownBy.size hgrow3)))
  refine wp_loop_once ?_
  go_wp2_with (first
    | (at_builtin; refine wpList_append_own _ rfl _ _ 34 rfl base 5 i0 (.int .u8 0) 1 1 Tryz.underlying34 hi hz0 hz1 hz2 rfl (by decide) _ _ _ rfl (hown3.alloc _) ⟨w3.heap.size, 0, none⟩ 1 1 [.int .u8 (101)] rfl rfl (cell_one_new _ _ _) (ints_oneCell .u8 [101]) (by unfold maxLen; omega) (by omega) (by simp; omega) ?_; intro v4 w4 hown4 hgrow4 hnil4; have s4 := Nat.le_trans s3 (World.grownBy.size ((World.grownBy_alloc w3 _ _).trans hgrow4)))
    | (at_builtin; refine wpList_append_own _ rfl _ _ 34 rfl base 5 i0 (.int .u8 0) 1 1 Tryz.underlying34 hi hz0 hz1 hz2 rfl (by decide) _ _ _ rfl (hown4.alloc _) ⟨w4.heap.size, 0, none⟩ 1 1 [.int .u8 (43)] rfl rfl (cell_one_new _ _ _) (ints_oneCell .u8 [43]) (by unfold maxLen; omega) (by omega) (by simp; omega) ?_; intro v5 w5 hown5 hgrow5 hnil5; have s5 := Nat.le_trans s4 (World.grownBy.size ((World.grownBy_alloc w4 _ _).trans hgrow5)))
    | (at_builtin; refine wpList_append_own _ rfl _ _ 34 rfl base 5 i0 (.int .u8 0) 1 1 Tryz.underlying34 hi hz0 hz1 hz2 rfl (by decide) _ _ _ rfl (hown5.alloc _) ⟨w5.heap.size, 0, none⟩ 3 3 [.int .u8 (x / 100 + 48), .int .u8 (x / 10 % 10 + 48), .int .u8 (x % 10 + 48)] rfl rfl (cell_lit w5 [.int .u8 (x / 100 + 48), .int .u8 (x / 10 % 10 + 48), .int .u8 (x % 10 + 48)] _) (ints_oneCell .u8 [x / 100 + 48, x / 10 % 10 + 48, x % 10 + 48]) (by unfold maxLen; omega) (by omega) (by simp; omega) ?_; intro v6 w6 hown6 hgrow6 hnil6; have s6 := Nat.le_trans s5 (World.grownBy.size ((World.grownBy_alloc w5 _ _).trans hgrow6))))
  go_ret
  refine ⟨_, rfl, ?_, (((((step_below hbase hown hgrow1).trans (step_below s1 hown1 hgrow2)).trans (row_below s2 hown2 hgrow3)).trans (step_below s3 hown3 hgrow4)).trans (step_below s4 hown4 hgrow5)).trans (step_below s5 hown5 hgrow6)⟩
  refine own_as hown6 (by omega) ?_
  simp
end Go.Proofs.YtechaplindbfoaaGreatDoor.fto
namespace Go.Proofs.YtechaplindbfoaaGreatDoor.fto
open Go.ChangeShapes Go.WideShapes Go.ChangeAt Go.RowKit
open mem
open ints (hide unhide)
set_option linter.unusedVariables false
set_option maxHeartbeats 4000000 in
set_option maxRecDepth 100000 in
theorem efg_many_n1 (B base m : Nat) (v : Value) (g dp x : Int) (ds : List Int) (w : World) {arr : Array Value} {TB : TypeId} {fr : Nat × Nat} (hB : w.heap[B]? = some (.cells arr TB fr)) (hT : TB ≠ 5) (h0 : arr[0]? = some (.int .u8 g)) (hds : ∀ j u, (ds.map (Value.int .u8))[j]? = some u → arr[1 + j]? = some u) (hl : ds.length = m) (hm0 : 1 ≤ m) (hm1 : m ≤ 31) (hown : w.ownsRow base 5 1 v 0 []) (hbase : base ≤ w.heap.size) (hx : -(dp - 1) = x) (hx1 : 1 ≤ x) (hx2 : x ≤ 9) :
    Calls Tryz.prog 174 #[v, .bool false, .slice (some ⟨B, 0, none⟩) 32 32, .int .i64 dp, .int .i64 ((m : Int) + 1), .int .i64 m, .int .u8 101, .bool true] w fun e w' => ∃ r, e = .returned r ∧ w'.ownsRow base 5 1 r (m + 6) ((g :: 46 :: (ds ++ [101, 45, 48, x + 48])).map (Value.int .u8)) ∧ Below base w w' := by
  obtain ⟨i0, hi, hz0, hz1, hz2⟩ := info_parts info8
  have c0 := cell_at hB h0
  have hmi : (1 : Int) ≤ m := by omega
  have hmj : (m : Int) ≤ 31 := by omega
  have hmn : min ((m : Int) + 1) ((m : Int) + 1) = (m : Int) + 1 := by omega
  go_enter Tryz.func174, Tryz.ntmps174
  go_wp2_with (first
    | (at_builtin; refine wpList_append_own _ rfl _ _ 34 rfl base 5 i0 (.int .u8 0) 1 1 Tryz.underlying34 hi hz0 hz1 hz2 rfl (by decide) _ _ _ rfl (hown.alloc _) ⟨w.heap.size, 0, none⟩ 1 1 [.int .u8 (g)] rfl rfl (cell_one_new _ _ _) (ints_oneCell .u8 [g]) (by unfold maxLen; omega) (by omega) (by simp; omega) ?_; intro v1 w1 hown1 hgrow1 hnil1; have s1 := Nat.le_trans hbase (World.grownBy.size ((World.grownBy_alloc w _ _).trans hgrow1)); have hB1 := keepB hB hT hown hgrow1)
    | (at_builtin; refine wpList_append_own _ rfl _ _ 34 rfl base 5 i0 (.int .u8 0) 1 1 Tryz.underlying34 hi hz0 hz1 hz2 rfl (by decide) _ _ _ rfl (hown1.alloc _) ⟨w1.heap.size, 0, none⟩ 1 1 [.int .u8 (46)] rfl rfl (cell_one_new _ _ _) (ints_oneCell .u8 [46]) (by unfold maxLen; omega) (by omega) (by simp; omega) ?_; intro v2 w2 hown2 hgrow2 hnil2; have s2 := Nat.le_trans s1 (World.grownBy.size ((World.grownBy_alloc w1 _ _).trans hgrow2)); have hB2 := keepB hB1 hT hown1 hgrow2)
    | (at_builtin; refine wpList_append_own _ rfl _ _ 34 rfl base 5 i0 (.int .u8 0) 1 1 Tryz.underlying34 hi hz0 hz1 hz2 rfl (by decide) _ _ _ rfl hown2 ⟨B, 1, none⟩ m 31 (ds.map (Value.int .u8)) (by first | rfl | (simp; omega)) (by simp [hl]) (row_at hB2 hds) (ints_oneCell .u8 ds) (by unfold maxLen; omega) (by omega) (by first | exact s2 | omega) ?_; intro v3 w3 hown3 hgrow3 hnil3; have s3 := Nat.le_trans s2 (World.grownBy.size hgrow3)))
  refine wp_loop_once ?_
  go_wp2_with (first
    | (at_builtin; refine wpList_append_own _ rfl _ _ 34 rfl base 5 i0 (.int .u8 0) 1 1 Tryz.underlying34 hi hz0 hz1 hz2 rfl (by decide) _ _ _ rfl (hown3.alloc _) ⟨w3.heap.size, 0, none⟩ 1 1 [.int .u8 (101)] rfl rfl (cell_one_new _ _ _) (ints_oneCell .u8 [101]) (by unfold maxLen; omega) (by omega) (by simp; omega) ?_; intro v4 w4 hown4 hgrow4 hnil4; have s4 := Nat.le_trans s3 (World.grownBy.size ((World.grownBy_alloc w3 _ _).trans hgrow4)))
    | (at_builtin; refine wpList_append_own _ rfl _ _ 34 rfl base 5 i0 (.int .u8 0) 1 1 Tryz.underlying34 hi hz0 hz1 hz2 rfl (by decide) _ _ _ rfl (hown4.alloc _) ⟨w4.heap.size, 0, none⟩ 1 1 [.int .u8 (45)] rfl rfl (cell_one_new _ _ _) (ints_oneCell .u8 [45]) (by unfold maxLen; omega) (by omega) (by simp; omega) ?_; intro v5 w5 hown5 hgrow5 hnil5; have s5 := Nat.le_trans s4 (World.grownBy.size ((World.grownBy_alloc w4 _ _).trans hgrow5)))
    | (at_builtin; refine wpList_append_own _ rfl _ _ 34 rfl base 5 i0 (.int .u8 0) 1 1 Tryz.underlying34 hi hz0 hz1 hz2 rfl (by decide) _ _ _ rfl (hown5.alloc _) ⟨w5.heap.size, 0, none⟩ 2 2 [.int .u8 (48), .int .u8 (x + 48)] rfl rfl (cell_lit w5 [.int .u8 (48), .int .u8 (x + 48)] _) (ints_oneCell .u8 [48, x + 48]) (by unfold maxLen; omega) (by omega) (by simp; omega) ?_; intro v6 w6 hown6 hgrow6 hnil6; have s6 := Nat.le_trans s5 (World.grownBy.size ((World.grownBy_alloc w5 _ _).trans hgrow6))))
  go_ret
  refine ⟨_, rfl, ?_, (((((step_below hbase hown hgrow1).trans (step_below s1 hown1 hgrow2)).trans (row_below s2 hown2 hgrow3)).trans (step_below s3 hown3 hgrow4)).trans (step_below s4 hown4 hgrow5)).trans (step_below s5 hown5 hgrow6)⟩
  refine own_as hown6 (by omega) ?_
  simp
end Go.Proofs.YtechaplindbfoaaGreatDoor.fto
namespace Go.Proofs.YtechaplindbfoaaGreatDoor.fto
open Go.ChangeShapes Go.WideShapes Go.ChangeAt Go.RowKit
open mem
open ints (hide unhide)
set_option linter.unusedVariables false
set_option maxHeartbeats 4000000 in
set_option maxRecDepth 100000 in
theorem efg_many_n2 (B base m : Nat) (v : Value) (g dp x : Int) (ds : List Int) (w : World) {arr : Array Value} {TB : TypeId} {fr : Nat × Nat} (hB : w.heap[B]? = some (.cells arr TB fr)) (hT : TB ≠ 5) (h0 : arr[0]? = some (.int .u8 g)) (hds : ∀ j u, (ds.map (Value.int .u8))[j]? = some u → arr[1 + j]? = some u) (hl : ds.length = m) (hm0 : 1 ≤ m) (hm1 : m ≤ 31) (hown : w.ownsRow base 5 1 v 0 []) (hbase : base ≤ w.heap.size) (hx : -(dp - 1) = x) (hx1 : 10 ≤ x) (hx2 : x ≤ 99) :
    Calls Tryz.prog 174 #[v, .bool false, .slice (some ⟨B, 0, none⟩) 32 32, .int .i64 dp, .int .i64 ((m : Int) + 1), .int .i64 m, .int .u8 101, .bool true] w fun e w' => ∃ r, e = .returned r ∧ w'.ownsRow base 5 1 r (m + 6) ((g :: 46 :: (ds ++ [101, 45, x / 10 + 48, x % 10 + 48])).map (Value.int .u8)) ∧ Below base w w' := by
  obtain ⟨i0, hi, hz0, hz1, hz2⟩ := info_parts info8
  have c0 := cell_at hB h0
  have hmi : (1 : Int) ≤ m := by omega
  have hmj : (m : Int) ≤ 31 := by omega
  have hmn : min ((m : Int) + 1) ((m : Int) + 1) = (m : Int) + 1 := by omega
  go_enter Tryz.func174, Tryz.ntmps174
  go_wp2_with (first
    | (at_builtin; refine wpList_append_own _ rfl _ _ 34 rfl base 5 i0 (.int .u8 0) 1 1 Tryz.underlying34 hi hz0 hz1 hz2 rfl (by decide) _ _ _ rfl (hown.alloc _) ⟨w.heap.size, 0, none⟩ 1 1 [.int .u8 (g)] rfl rfl (cell_one_new _ _ _) (ints_oneCell .u8 [g]) (by unfold maxLen; omega) (by omega) (by simp; omega) ?_; intro v1 w1 hown1 hgrow1 hnil1; have s1 := Nat.le_trans hbase (World.grownBy.size ((World.grownBy_alloc w _ _).trans hgrow1)); have hB1 := keepB hB hT hown hgrow1)
    | (at_builtin; refine wpList_append_own _ rfl _ _ 34 rfl base 5 i0 (.int .u8 0) 1 1 Tryz.underlying34 hi hz0 hz1 hz2 rfl (by decide) _ _ _ rfl (hown1.alloc _) ⟨w1.heap.size, 0, none⟩ 1 1 [.int .u8 (46)] rfl rfl (cell_one_new _ _ _) (ints_oneCell .u8 [46]) (by unfold maxLen; omega) (by omega) (by simp; omega) ?_; intro v2 w2 hown2 hgrow2 hnil2; have s2 := Nat.le_trans s1 (World.grownBy.size ((World.grownBy_alloc w1 _ _).trans hgrow2)); have hB2 := keepB hB1 hT hown1 hgrow2)
    | (at_builtin; refine wpList_append_own _ rfl _ _ 34 rfl base 5 i0 (.int .u8 0) 1 1 Tryz.underlying34 hi hz0 hz1 hz2 rfl (by decide) _ _ _ rfl hown2 ⟨B, 1, none⟩ m 31 (ds.map (Value.int .u8)) (by first | rfl | (simp; omega)) (by simp [hl]) (row_at hB2 hds) (ints_oneCell .u8 ds) (by unfold maxLen; omega) (by omega) (by first | exact s2 | omega) ?_; intro v3 w3 hown3 hgrow3 hnil3; have s3 := Nat.le_trans s2 (World.grownBy.size hgrow3)))
  refine wp_loop_once ?_
  go_wp2_with (first
    | (at_builtin; refine wpList_append_own _ rfl _ _ 34 rfl base 5 i0 (.int .u8 0) 1 1 Tryz.underlying34 hi hz0 hz1 hz2 rfl (by decide) _ _ _ rfl (hown3.alloc _) ⟨w3.heap.size, 0, none⟩ 1 1 [.int .u8 (101)] rfl rfl (cell_one_new _ _ _) (ints_oneCell .u8 [101]) (by unfold maxLen; omega) (by omega) (by simp; omega) ?_; intro v4 w4 hown4 hgrow4 hnil4; have s4 := Nat.le_trans s3 (World.grownBy.size ((World.grownBy_alloc w3 _ _).trans hgrow4)))
    | (at_builtin; refine wpList_append_own _ rfl _ _ 34 rfl base 5 i0 (.int .u8 0) 1 1 Tryz.underlying34 hi hz0 hz1 hz2 rfl (by decide) _ _ _ rfl (hown4.alloc _) ⟨w4.heap.size, 0, none⟩ 1 1 [.int .u8 (45)] rfl rfl (cell_one_new _ _ _) (ints_oneCell .u8 [45]) (by unfold maxLen; omega) (by omega) (by simp; omega) ?_; intro v5 w5 hown5 hgrow5 hnil5; have s5 := Nat.le_trans s4 (World.grownBy.size ((World.grownBy_alloc w4 _ _).trans hgrow5)))
    | (at_builtin; refine wpList_append_own _ rfl _ _ 34 rfl base 5 i0 (.int .u8 0) 1 1 Tryz.underlying34 hi hz0 hz1 hz2 rfl (by decide) _ _ _ rfl (hown5.alloc _) ⟨w5.heap.size, 0, none⟩ 2 2 [.int .u8 (x / 10 + 48), .int .u8 (x % 10 + 48)] rfl rfl (cell_lit w5 [.int .u8 (x / 10 + 48), .int .u8 (x % 10 + 48)] _) (ints_oneCell .u8 [x / 10 + 48, x % 10 + 48]) (by unfold maxLen; omega) (by omega) (by simp; omega) ?_; intro v6 w6 hown6 hgrow6 hnil6; have s6 := Nat.le_trans s5 (World.grownBy.size ((World.grownBy_alloc w5 _ _).trans hgrow6))))
  go_ret
  refine ⟨_, rfl, ?_, (((((step_below hbase hown hgrow1).trans (step_below s1 hown1 hgrow2)).trans (row_below s2 hown2 hgrow3)).trans (step_below s3 hown3 hgrow4)).trans (step_below s4 hown4 hgrow5)).trans (step_below s5 hown5 hgrow6)⟩
  refine own_as hown6 (by omega) ?_
  simp
end Go.Proofs.YtechaplindbfoaaGreatDoor.fto
namespace Go.Proofs.YtechaplindbfoaaGreatDoor.fto
open Go.ChangeShapes Go.WideShapes Go.ChangeAt Go.RowKit
open mem
open ints (hide unhide)
set_option linter.unusedVariables false
set_option maxHeartbeats 4000000 in
set_option maxRecDepth 100000 in
theorem efg_many_n3 (B base m : Nat) (v : Value) (g dp x : Int) (ds : List Int) (w : World) {arr : Array Value} {TB : TypeId} {fr : Nat × Nat} (hB : w.heap[B]? = some (.cells arr TB fr)) (hT : TB ≠ 5) (h0 : arr[0]? = some (.int .u8 g)) (hds : ∀ j u, (ds.map (Value.int .u8))[j]? = some u → arr[1 + j]? = some u) (hl : ds.length = m) (hm0 : 1 ≤ m) (hm1 : m ≤ 31) (hown : w.ownsRow base 5 1 v 0 []) (hbase : base ≤ w.heap.size) (hx : -(dp - 1) = x) (hx1 : 100 ≤ x) (hx2 : x ≤ 400) :
    Calls Tryz.prog 174 #[v, .bool false, .slice (some ⟨B, 0, none⟩) 32 32, .int .i64 dp, .int .i64 ((m : Int) + 1), .int .i64 m, .int .u8 101, .bool true] w fun e w' => ∃ r, e = .returned r ∧ w'.ownsRow base 5 1 r (m + 7) ((g :: 46 :: (ds ++ [101, 45, x / 100 + 48, x / 10 % 10 + 48, x % 10 + 48])).map (Value.int .u8)) ∧ Below base w w' := by
  obtain ⟨i0, hi, hz0, hz1, hz2⟩ := info_parts info8
  have c0 := cell_at hB h0
  have hmi : (1 : Int) ≤ m := by omega
  have hmj : (m : Int) ≤ 31 := by omega
  have hmn : min ((m : Int) + 1) ((m : Int) + 1) = (m : Int) + 1 := by omega
  go_enter Tryz.func174, Tryz.ntmps174
  go_wp2_with (first
    | (at_builtin; refine wpList_append_own _ rfl _ _ 34 rfl base 5 i0 (.int .u8 0) 1 1 Tryz.underlying34 hi hz0 hz1 hz2 rfl (by decide) _ _ _ rfl (hown.alloc _) ⟨w.heap.size, 0, none⟩ 1 1 [.int .u8 (g)] rfl rfl (cell_one_new _ _ _) (ints_oneCell .u8 [g]) (by unfold maxLen; omega) (by omega) (by simp; omega) ?_; intro v1 w1 hown1 hgrow1 hnil1; have s1 := Nat.le_trans hbase (World.grownBy.size ((World.grownBy_alloc w _ _).trans hgrow1)); have hB1 := keepB hB hT hown hgrow1)
    | (at_builtin; refine wpList_append_own _ rfl _ _ 34 rfl base 5 i0 (.int .u8 0) 1 1 Tryz.underlying34 hi hz0 hz1 hz2 rfl (by decide) _ _ _ rfl (hown1.alloc _) ⟨w1.heap.size, 0, none⟩ 1 1 [.int .u8 (46)] rfl rfl (cell_one_new _ _ _) (ints_oneCell .u8 [46]) (by unfold maxLen; omega) (by omega) (by simp; omega) ?_; intro v2 w2 hown2 hgrow2 hnil2; have s2 := Nat.le_trans s1 (World.grownBy.size ((World.grownBy_alloc w1 _ _).trans hgrow2)); have hB2 := keepB hB1 hT hown1 hgrow2)
    | (at_builtin; refine wpList_append_own _ rfl _ _ 34 rfl base 5 i0 (.int .u8 0) 1 1 Tryz.underlying34 hi hz0 hz1 hz2 rfl (by decide) _ _ _ rfl hown2 ⟨B, 1, none⟩ m 31 (ds.map (Value.int .u8)) (by first | rfl | (simp; omega)) (by simp [hl]) (row_at hB2 hds) (ints_oneCell .u8 ds) (by unfold maxLen; omega) (by omega) (by first | exact s2 | omega) ?_; intro v3 w3 hown3 hgrow3 hnil3; have s3 := Nat.le_trans s2 (World.grownBy.size hgrow3)))
  refine wp_loop_once ?_
  go_wp2_with (first
    | (at_builtin; refine wpList_append_own _ rfl _ _ 34 rfl base 5 i0 (.int .u8 0) 1 1 Tryz.underlying34 hi hz0 hz1 hz2 rfl (by decide) _ _ _ rfl (hown3.alloc _) ⟨w3.heap.size, 0, none⟩ 1 1 [.int .u8 (101)] rfl rfl (cell_one_new _ _ _) (ints_oneCell .u8 [101]) (by unfold maxLen; omega) (by omega) (by simp; omega) ?_; intro v4 w4 hown4 hgrow4 hnil4; have s4 := Nat.le_trans s3 (World.grownBy.size ((World.grownBy_alloc w3 _ _).trans hgrow4)))
    | (at_builtin; refine wpList_append_own _ rfl _ _ 34 rfl base 5 i0 (.int .u8 0) 1 1 Tryz.underlying34 hi hz0 hz1 hz2 rfl (by decide) _ _ _ rfl (hown4.alloc _) ⟨w4.heap.size, 0, none⟩ 1 1 [.int .u8 (45)] rfl rfl (cell_one_new _ _ _) (ints_oneCell .u8 [45]) (by unfold maxLen; omega) (by omega) (by simp; omega) ?_; intro v5 w5 hown5 hgrow5 hnil5; have s5 := Nat.le_trans s4 (World.grownBy.size ((World.grownBy_alloc w4 _ _).trans hgrow5)))
    | (at_builtin; refine wpList_append_own _ rfl _ _ 34 rfl base 5 i0 (.int .u8 0) 1 1 Tryz.underlying34 hi hz0 hz1 hz2 rfl (by decide) _ _ _ rfl (hown5.alloc _) ⟨w5.heap.size, 0, none⟩ 3 3 [.int .u8 (x / 100 + 48), .int .u8 (x / 10 % 10 + 48), .int .u8 (x % 10 + 48)] rfl rfl (cell_lit w5 [.int .u8 (x / 100 + 48), .int .u8 (x / 10 % 10 + 48), .int .u8 (x % 10 + 48)] _) (ints_oneCell .u8 [x / 100 + 48, x / 10 % 10 + 48, x % 10 + 48]) (by unfold maxLen; omega) (by omega) (by simp; omega) ?_; intro v6 w6 hown6 hgrow6 hnil6; have s6 := Nat.le_trans s5 (World.grownBy.size ((World.grownBy_alloc w5 _ _).trans hgrow6))))
  go_ret
  refine ⟨_, rfl, ?_, (((((step_below hbase hown hgrow1).trans (step_below s1 hown1 hgrow2)).trans (row_below s2 hown2 hgrow3)).trans (step_below s3 hown3 hgrow4)).trans (step_below s4 hown4 hgrow5)).trans (step_below s5 hown5 hgrow6)⟩
  refine own_as hown6 (by omega) ?_
  simp
end Go.Proofs.YtechaplindbfoaaGreatDoor.fto
namespace Go.Proofs.YtechaplindbfoaaGreatDoor.fto
open Go.ChangeShapes Go.WideShapes Go.ChangeAt Go.RowKit
open mem
set_option linter.unusedVariables false
def eDig (x : Int) : List Int := if x < 10 then [48, x + 48] else if x < 100 then [x / 10 + 48, x % 10 + 48] else [x / 100 + 48, x / 10 % 10 + 48, x % 10 + 48]
def eTail (dp : Int) : List Int := if 0 ≤ dp - 1 then 43 :: eDig (dp - 1) else 45 :: eDig (-(dp - 1))
def eTxt (g : Int) (ds : List Int) (dp : Int) : List Int := (if ds = [] then [g] else g :: 46 :: ds) ++ 101 :: eTail dp
theorem efg_ok (B base m : Nat) (v : Value) (g dp : Int) (ds : List Int) (w : World) {arr : Array Value} {TB : TypeId} {fr : Nat × Nat} (hB : w.heap[B]? = some (.cells arr TB fr)) (hT : TB ≠ 5) (h0 : arr[0]? = some (.int .u8 g)) (hds : ∀ j u, (ds.map (Value.int .u8))[j]? = some u → arr[1 + j]? = some u) (hl : ds.length = m) (hm1 : m ≤ 31) (hown : w.ownsRow base 5 1 v 0 []) (hbase : base ≤ w.heap.size) (hx1 : -399 ≤ dp) (hx2 : dp ≤ 401) :
    Calls Tryz.prog 174 #[v, .bool false, .slice (some ⟨B, 0, none⟩) 32 32, .int .i64 dp, .int .i64 ((m : Int) + 1), .int .i64 m, .int .u8 101, .bool true] w fun e w' => ∃ r, e = .returned r ∧ w'.ownsRow base 5 1 r (eTxt g ds dp).length ((eTxt g ds dp).map (Value.int .u8)) ∧ Below base w w' := by
  rcases Nat.eq_zero_or_pos m with h | h
  · subst h
    have hd : ds = [] := List.eq_nil_of_length_eq_zero hl
    subst hd
    have e1 : (((0 : Nat) : Int)) + 1 = 1 := rfl
    have e2 : (((0 : Nat) : Int)) = 0 := rfl
    rw [e1, e2]
    have c0 := cell_at hB h0
    by_cases q0 : 0 ≤ dp - 1
    · by_cases q1 : dp - 1 < 10
      · (have hE : eTail dp = 43 :: [48, dp - 1 + 48] := (by unfold eTail eDig; rw [if_pos q0, if_pos q1]); refine (efg_one_p1 B base v g dp _ w c0 hown hbase rfl (by omega) (by omega)).mono ?_; rintro e w' ⟨r, rfl, h1, b1⟩; exact ⟨r, rfl, own_as h1 (by simp [eTxt, hE]) (by simp [eTxt, hE]), b1⟩)
      · by_cases q2 : dp - 1 < 100
        · (have hE : eTail dp = 43 :: [(dp - 1) / 10 + 48, (dp - 1) % 10 + 48] := (by unfold eTail eDig; rw [if_pos q0, if_neg q1, if_pos q2]); refine (efg_one_p2 B base v g dp _ w c0 hown hbase rfl (by omega) (by omega)).mono ?_; rintro e w' ⟨r, rfl, h1, b1⟩; exact ⟨r, rfl, own_as h1 (by simp [eTxt, hE]) (by simp [eTxt, hE]), b1⟩)
        · (have hE : eTail dp = 43 :: [(dp - 1) / 100 + 48, (dp - 1) / 10 % 10 + 48, (dp - 1) % 10 + 48] := (by unfold eTail eDig; rw [if_pos q0, if_neg q1, if_neg q2]); refine (efg_one_p3 B base v g dp _ w c0 hown hbase rfl (by omega) (by omega)).mono ?_; rintro e w' ⟨r, rfl, h1, b1⟩; exact ⟨r, rfl, own_as h1 (by simp [eTxt, hE]) (by simp [eTxt, hE]), b1⟩)
    · by_cases q1 : -(dp - 1) < 10
      · (have hE : eTail dp = 45 :: [48, -(dp - 1) + 48] := (by unfold eTail eDig; rw [if_neg q0, if_pos q1]); refine (efg_one_n1 B base v g dp _ w c0 hown hbase rfl (by omega) (by omega)).mono ?_; rintro e w' ⟨r, rfl, h1, b1⟩; exact ⟨r, rfl, own_as h1 (by simp [eTxt, hE]) (by simp [eTxt, hE]), b1⟩)
      · by_cases q2 : -(dp - 1) < 100
        · (have hE : eTail dp = 45 :: [(-(dp - 1)) / 10 + 48, (-(dp - 1)) % 10 + 48] := (by unfold eTail eDig; rw [if_neg q0, if_neg q1, if_pos q2]); refine (efg_one_n2 B base v g dp _ w c0 hown hbase rfl (by omega) (by omega)).mono ?_; rintro e w' ⟨r, rfl, h1, b1⟩; exact ⟨r, rfl, own_as h1 (by simp [eTxt, hE]) (by simp [eTxt, hE]), b1⟩)
        · (have hE : eTail dp = 45 :: [(-(dp - 1)) / 100 + 48, (-(dp - 1)) / 10 % 10 + 48, (-(dp - 1)) % 10 + 48] := (by unfold eTail eDig; rw [if_neg q0, if_neg q1, if_neg q2]); refine (efg_one_n3 B base v g dp _ w c0 hown hbase rfl (by omega) (by omega)).mono ?_; rintro e w' ⟨r, rfl, h1, b1⟩; exact ⟨r, rfl, own_as h1 (by simp [eTxt, hE]) (by simp [eTxt, hE]), b1⟩)
  · have hd : ds ≠ [] := fun e => by rw [e] at hl; simp at hl; omega
    by_cases q0 : 0 ≤ dp - 1
    · by_cases q1 : dp - 1 < 10
      · (have hE : eTail dp = 43 :: [48, dp - 1 + 48] := (by unfold eTail eDig; rw [if_pos q0, if_pos q1]); refine (efg_many_p1 B base m v g dp _ ds w hB hT h0 hds hl h hm1 hown hbase rfl (by omega) (by omega)).mono ?_; rintro e w' ⟨r, rfl, h1, b1⟩; exact ⟨r, rfl, own_as h1 (by simp [eTxt, hE, hd, hl]) (by simp [eTxt, hE, hd]), b1⟩)
      · by_cases q2 : dp - 1 < 100
        · (have hE : eTail dp = 43 :: [(dp - 1) / 10 + 48, (dp - 1) % 10 + 48] := (by unfold eTail eDig; rw [if_pos q0, if_neg q1, if_pos q2]); refine (efg_many_p2 B base m v g dp _ ds w hB hT h0 hds hl h hm1 hown hbase rfl (by omega) (by omega)).mono ?_; rintro e w' ⟨r, rfl, h1, b1⟩; exact ⟨r, rfl, own_as h1 (by simp [eTxt, hE, hd, hl]) (by simp [eTxt, hE, hd]), b1⟩)
        · (have hE : eTail dp = 43 :: [(dp - 1) / 100 + 48, (dp - 1) / 10 % 10 + 48, (dp - 1) % 10 + 48] := (by unfold eTail eDig; rw [if_pos q0, if_neg q1, if_neg q2]); refine (efg_many_p3 B base m v g dp _ ds w hB hT h0 hds hl h hm1 hown hbase rfl (by omega) (by omega)).mono ?_; rintro e w' ⟨r, rfl, h1, b1⟩; exact ⟨r, rfl, own_as h1 (by simp [eTxt, hE, hd, hl]) (by simp [eTxt, hE, hd]), b1⟩)
    · by_cases q1 : -(dp - 1) < 10
      · (have hE : eTail dp = 45 :: [48, -(dp - 1) + 48] := (by unfold eTail eDig; rw [if_neg q0, if_pos q1]); refine (efg_many_n1 B base m v g dp _ ds w hB hT h0 hds hl h hm1 hown hbase rfl (by omega) (by omega)).mono ?_; rintro e w' ⟨r, rfl, h1, b1⟩; exact ⟨r, rfl, own_as h1 (by simp [eTxt, hE, hd, hl]) (by simp [eTxt, hE, hd]), b1⟩)
      · by_cases q2 : -(dp - 1) < 100
        · (have hE : eTail dp = 45 :: [(-(dp - 1)) / 10 + 48, (-(dp - 1)) % 10 + 48] := (by unfold eTail eDig; rw [if_neg q0, if_neg q1, if_pos q2]); refine (efg_many_n2 B base m v g dp _ ds w hB hT h0 hds hl h hm1 hown hbase rfl (by omega) (by omega)).mono ?_; rintro e w' ⟨r, rfl, h1, b1⟩; exact ⟨r, rfl, own_as h1 (by simp [eTxt, hE, hd, hl]) (by simp [eTxt, hE, hd]), b1⟩)
        · (have hE : eTail dp = 45 :: [(-(dp - 1)) / 100 + 48, (-(dp - 1)) / 10 % 10 + 48, (-(dp - 1)) % 10 + 48] := (by unfold eTail eDig; rw [if_neg q0, if_neg q1, if_neg q2]); refine (efg_many_n3 B base m v g dp _ ds w hB hT h0 hds hl h hm1 hown hbase rfl (by omega) (by omega)).mono ?_; rintro e w' ⟨r, rfl, h1, b1⟩; exact ⟨r, rfl, own_as h1 (by simp [eTxt, hE, hd, hl]) (by simp [eTxt, hE, hd]), b1⟩)
end Go.Proofs.YtechaplindbfoaaGreatDoor.fto
namespace Go.Proofs.YtechaplindbfoaaGreatDoor.rgn
set_option linter.unusedVariables false
variable {P : Program} {md : Region.Mode} {ops : Array Oper} {Q : Exit → Act → World → Prop} {S : World → Prop}
/-- a region that draws its order: an operation that only reads, in every world of S alike, is taken first -/
theorem take {i fuel : Nat} {listed : Array Bool} {a : Act} {w : World} (o : Oper) (v : Value) (ho : ops[i]? = some o) (hs : Region.noSelect ops = true) (hf : Region.free md ops listed i = true) (hr : (Region.ready md ops listed).contains i = true)
    (hQ : ∀ c a w, Q (.panic c) (a.put o.dst v) w → Q (.panic c) a w) (hw : Region.wanted o (yielded ops a.tmps) = true) (hS : S w) (hy : ∀ w, S w → (execOp a.eval o).run P w = .ok (.value v) w)
    (h : wpAnyH P md ops Q S fuel (listed.setIfInBounds i true) (a.put o.dst v) w) : wpAnyH P md ops Q S (fuel + 1) listed a w :=
  wpAnyH_take ho hs hf hr hQ (.inl ⟨hw, hy⟩) hS h
/-- the one operation that may come up now -/
theorem one {i fuel : Nat} {listed : Array Bool} {a : Act} {w : World} (o : Oper) (ho : ops[i]? = some o) (hr : Region.ready md ops listed = [i]) (hw : Region.wanted o (yielded ops a.tmps) = true)
    (h : o.wp P a w (fun a' w' => S w' ∧ wpAnyH P md ops Q S fuel (listed.setIfInBounds i true) a' w') Q) : wpAnyH P md ops Q S (fuel + 1) listed a w := by
  refine wpAnyH_all hr (by simp) ?_
  intro j hj
  obtain rfl : j = i := by simpa using hj
  unfold wpOp
  simp only [ho, hw, if_true]
  exact .inl h
/-- the two operations that may come up now -/
theorem two {i j fuel : Nat} {listed : Array Bool} {a : Act} {w : World} (oi oj : Oper) (hi : ops[i]? = some oi) (hj : ops[j]? = some oj) (hr : Region.ready md ops listed = [i, j]) (wi : Region.wanted oi (yielded ops a.tmps) = true) (wj : Region.wanted oj (yielded ops a.tmps) = true)
    (h1 : oi.wp P a w (fun a' w' => S w' ∧ wpAnyH P md ops Q S fuel (listed.setIfInBounds i true) a' w') Q)
    (h2 : oj.wp P a w (fun a' w' => S w' ∧ wpAnyH P md ops Q S fuel (listed.setIfInBounds j true) a' w') Q) : wpAnyH P md ops Q S (fuel + 1) listed a w := by
  refine wpAnyH_all hr (by simp) ?_
  intro k hk
  rcases (by simpa using hk : k = i ∨ k = j) with rfl | rfl
  · unfold wpOp
    simp only [hi, wi, if_true]
    exact .inl h1
  · unfold wpOp
    simp only [hj, wj, if_true]
    exact .inl h2
/-- a result that lies in a row of cells -/
theorem result_row {fn : Func} {p : Tmp} {ty : TypeId} (h : fn.results = #[.cell p ty]) (tmps : Array Value) (w : World) (b o : Nat) (cs : List Value) (d : TypeDesc) (hp : tmps.getD p undef = .pointer (some ⟨b, o, none⟩)) (hc : w.rangeAt b o cs)
    (hu : P.underlying ty = some d) (hd : d.isRow = true) (hi : (P.info? ty).map (·.size) = some cs.length) : (results fn tmps).run P w = .ok (.agg cs.toArray) w := by
  have := run_loadVar_mid (P := P) w b o ty cs d hc hu hd hi
  have hp' : tmps[p]?.getD undef = .pointer (some ⟨b, o, none⟩) := by simpa using hp
  simp [results, h, hp', asAddr, this]
/-- a result in a row of cells, and one beside it -/
theorem result_row_tmp {fn : Func} {p u : Tmp} {ty : TypeId} (h : fn.results = #[.cell p ty, .tmp u]) (tmps : Array Value) (w : World) (b o : Nat) (cs : List Value) (d : TypeDesc) (hp : tmps.getD p undef = .pointer (some ⟨b, o, none⟩)) (hc : w.rangeAt b o cs)
    (hu : P.underlying ty = some d) (hd : d.isRow = true) (hi : (P.info? ty).map (·.size) = some cs.length) : (results fn tmps).run P w = .ok (.tuple #[.agg cs.toArray, tmps.getD u undef]) w := by
  have := run_loadVar_mid (P := P) w b o ty cs d hc hu hd hi
  have hp' : tmps[p]?.getD undef = .pointer (some ⟨b, o, none⟩) := by simpa using hp
  simp [results, h, hp', asAddr, this]
end Go.Proofs.YtechaplindbfoaaGreatDoor.rgn
namespace Go.Proofs.YtechaplindbfoaaGreatDoor.fto
open Go.ChangeShapes Go.WideShapes Go.ChangeAt Go.RowKit
open mem Go.Sort
open ints (hide unhide)
set_option linter.unusedVariables false
set_option linter.unusedSimpArgs false
theorem run_fbits (x : Nat) (w : World) : (callFunc 171 #[.float .f64 x]).run Tryz.prog w = .ok (.value (.int .u64 x)) w := by
  rw [run_callFunc_extern (e := Extern.MathFloatBits.float64bits) Tryz.func171 (by kernel_rfl) (by kernel_rfl) (by kernel_rfl) (by kernel_rfl)]
  rfl
theorem callW {P : Program} {o : Oper} {a : Act} {w : World} {K : Act → World → Prop} {Q : Exit → Act → World → Prop} (f : FuncId) (fn : Func) (args : Array Operand) (tys : Array TypeId) (ho : o.op = .call { callee := .value (.func f), args := args, argTypes := tys })
    (hf : P.funcs[f]? = some fn) (hname : (fn.name == "runtime.NumGoroutine") = false) (hb : fn.body.isNone = false) (vs : Array Value) (hv : args.map a.eval = vs)
    (hc : Calls P f vs w fun e w' => ∃ v, e = .returned v ∧ K (a.put o.dst v) w') : o.wp P a w K Q := by
  have h1 : fn.name ≠ "runtime.NumGoroutine" := by simpa using hname
  have hrun : (execOp a.eval o).run P w = .ok (.enter f vs) w := by
    unfold execOp
    simp only [ho]
    obtain ⟨c, hc'⟩ : ∃ c, fn.body = some c := by cases h : fn.body <;> simp_all
    simp [resolve, hv, Deferred.ofValue, invoke, callFunc, hf, h1, hc', Act.eval]
  unfold Oper.wp
  rw [hrun, Oper.upon_enter]
  refine hc.mono ?_
  rintro e w' ⟨v, rfl, hk⟩
  exact hk
theorem own_bel {w w' : World} {base : Nat} {e : TypeId} {size n : Nat} {v : Value} {xs : List Value} (h : w.ownsRow base e size v n xs) (hb : Below w.heap.size w w') : w'.ownsRow base e size v n xs := by
  refine ⟨h.1, ?_⟩
  rcases h.2 with h1 | ⟨g', cap, cur, h1, h2, h3, h4⟩
  · exact .inl h1
  · exact .inr ⟨g', cap, cur, h1, h2, (hb.block g' (Array.getElem?_eq_some_iff.1 h3).1).trans h3, h4⟩
theorem mixed : Tryz.prog.follows .mixedOrders = true := by kernel_rfl
theorem cell_arr {w : World} {B j : Nat} {arr : Array Value} {TB : TypeId} {fr : Nat × Nat} {v : Value} (h : w.heap[B]? = some (.cells arr TB fr)) (hc : w.cell? ⟨B, j, none⟩ = some v) : arr[j]? = some v := by
  simpa [World.cell?, h] using hc
def dTail (d nd k : Nat) : List Int := (List.range (k - 1)).map fun j => dgt d nd (1 + j)
def sTxt (d nd k : Nat) (p : Int) : List Int := eTxt (dgt d nd 0) (dTail d nd k) ((nd : Int) + p)
set_option maxHeartbeats 8000000 in
set_option maxRecDepth 100000 in
theorem ftoa_n (f E M mm d nd : Nat) (p : Int) (v : Value) (base : Nat) (w : World) (hE : f / 4503599627370496 = E) (hE0 : 1 ≤ E) (hE1 : E ≤ 2046) (hf : f < 9223372036854775808) (a1 : bits .and .i64 (E : Int) 2047 = (E : Int)) (a2 : bits .and .u64 (f : Int) 4503599627370495 = (M : Int)) (a3 : bits .or .u64 (M : Int) 4503599627370496 = (mm : Int)) (hm1 : 4503599627370496 ≤ mm) (hm2 : mm < 9007199254740992)
    (hown : w.ownsRow base 5 1 v 0 []) (hbase : base ≤ w.heap.size)
    (hS : ∀ W, Below w.heap.size w W → Calls Tryz.prog 181 #[.int .u64 ((mm : Int) * 2048), .int .i64 ((E : Int) + -1023 - 11 - 52)] W fun e w' => e = .returned (.tuple #[.int .u64 d, .int .i64 p]) ∧ Below W.heap.size W w')
    (hN : ∀ W, Below w.heap.size w W → Calls Tryz.prog 105 #[.int .u64 d] W fun e w' => e = .returned (.int .i64 nd) ∧ w' = W)
    (hd : 1 ≤ d) (hnd : d < 10 ^ nd) (hnd1 : 1 ≤ nd) (hnd2 : nd ≤ 20) (hlen : Lib.bitLen mm = 53) (hd64 : d < 18446744073709551616) (hp : -370 ≤ p ∧ p ≤ 370) (hnz : ¬ ∀ j, 0 ≤ j → j < nd → dgt d nd j = 48) :
    Calls Tryz.prog 152 #[v, .float .f64 f, .int .u8 101, .int .i64 (-1)] w fun e w' => ∃ r, e = .returned r ∧ ∃ k : Nat, 1 ≤ k ∧ k ≤ nd ∧ (∀ j, k ≤ j → j < nd → dgt d nd j = 48) ∧ dgt d nd (k - 1) ≠ 48 ∧ w'.ownsRow base 5 1 r (sTxt d nd k p).length ((sTxt d nd k p).map (Value.int .u8)) ∧ Below base w w' := by
  have hb := run_fbits f w
  have HS := hide hS
  have HN := hide hN
  have HZ := hide hnz
  have HD := hide hnd
  clear hS hN hnz hnd
  have i1 : (0 : Int) ≤ (f : Int) := by omega
  have i2 : (f : Int) / 4503599627370496 = (E : Int) := by omega
  have i3 : (f : Int) / 9223372036854775808 = 0 := by omega
  have i4 : ((E : Int) == 2047) = false := by rw [beq_eq_false_iff_ne]; omega
  have i5 : ((E : Int) == 0) = false := by rw [beq_eq_false_iff_ne]; omega
  have i6 : ((mm : Int) == 0) = false := by rw [beq_eq_false_iff_ne]; omega
  go_enter Tryz.func152, Tryz.ntmps152
  go_wp2_with fail
  go_region
  go_wp2_with fail
  have b0 : Below w.heap.size w (w.alloc (.cells (Array.replicate 32 (Value.int .u8 0)) 205)).drew := Below.drew ((Below.refl _ _).alloc (Nat.le_refl _) _)
  have hW : (w.alloc (.cells (Array.replicate 32 (Value.int .u8 0)) 205)).drew.heap[w.heap.size]? = some (.cells (Array.replicate 32 (Value.int .u8 0)) 205) := by
    show (w.heap.push _)[w.heap.size]? = _
    rw [Array.getElem?_push_size]
  have hZ : (w.alloc (.cells (Array.replicate 32 (Value.int .u8 0)) 205)).drew.heap.size = w.heap.size + 1 := by
    show (w.heap.push _).size = _
    rw [Array.size_push]
  generalize hW0 : (w.alloc (.cells (Array.replicate 32 (Value.int .u8 0)) 205)).drew = W0 at b0 hW hZ
  have hW1 : (w.alloc (.cells #[.int .u8 0, .int .u8 0, .int .u8 0, .int .u8 0, .int .u8 0, .int .u8 0, .int .u8 0, .int .u8 0, .int .u8 0, .int .u8 0, .int .u8 0, .int .u8 0, .int .u8 0, .int .u8 0, .int .u8 0, .int .u8 0, .int .u8 0, .int .u8 0, .int .u8 0, .int .u8 0, .int .u8 0, .int .u8 0, .int .u8 0, .int .u8 0, .int .u8 0, .int .u8 0, .int .u8 0, .int .u8 0, .int .u8 0, .int .u8 0, .int .u8 0, .int .u8 0] 205)).drew = W0 := hW0
  rw [hW1]
  refine (Tryz.bits_Len64 mm _ (by omega) (by omega)).mono ?_
  rintro e w' ⟨rfl, rfl⟩
  rw [Int.toNat_natCast, hlen]
  clear hb hW0 hW1
  go_wp2_with fail
  refine (unhide HS _ b0).mono ?_
  rintro e w1 ⟨rfl, b1⟩
  have hB1 : w1.heap[w.heap.size]? = some (.cells (Array.replicate 32 (Value.int .u8 0)) 205) := (b1.block _ (by omega)).trans hW
  have b01 : Below w.heap.size w w1 := b0.trans (b1.mono (by omega))
  have hz1 : w.heap.size < w1.heap.size := by have := b1.size; omega
  go_wp2_with fail
  refine wp_region_noPanic ?_
  refine wp_region_held (S := fun _ => True) mixed ?_
  have hS0 : True := trivial
  refine wpAnyH_take (i := 0) (v := ?v1) rfl (by kernel_rfl) (by kernel_rfl) (by kernel_rfl) (fun _ _ _ h => h) (Or.inl ⟨by rfl, ?hy1⟩) hS0 ?_
  case hy1 => (intro w' hw'; skip; go_simp; try with_reducible rfl)
  simp only [List.getElem_toArray, List.getElem_cons_zero, List.getElem_cons_succ, Act.put, List.setIfInBounds_toArray, List.set_cons_zero, List.set_cons_succ]
  refine wpAnyH_take (i := 1) (v := ?v2) rfl (by kernel_rfl) (by kernel_rfl) (by kernel_rfl) (fun _ _ _ h => h) (Or.inl ⟨by rfl, ?hy2⟩) hS0 ?_
  case hy2 => (intro w' hw'; skip; go_simp; try with_reducible rfl)
  simp only [List.getElem_toArray, List.getElem_cons_zero, List.getElem_cons_succ, Act.put, List.setIfInBounds_toArray, List.set_cons_zero, List.set_cons_succ]
  refine wpAnyH_take (i := 2) (v := ?v3) rfl (by kernel_rfl) (by kernel_rfl) (by kernel_rfl) (fun _ _ _ h => h) (Or.inl ⟨by rfl, ?hy3⟩) hS0 ?_
  case hy3 => (intro w' hw'; skip; go_simp; try with_reducible rfl)
  simp only [List.getElem_toArray, List.getElem_cons_zero, List.getElem_cons_succ, Act.put, List.setIfInBounds_toArray, List.set_cons_zero, List.set_cons_succ]
  refine wpAnyH_take (i := 3) (v := ?v4) rfl (by kernel_rfl) (by kernel_rfl) (by kernel_rfl) (fun _ _ _ h => h) (Or.inl ⟨by rfl, ?hy4⟩) hS0 ?_
  case hy4 => (intro w' hw'; skip; go_simp; try with_reducible rfl)
  simp only [List.getElem_toArray, List.getElem_cons_zero, List.getElem_cons_succ, Act.put, List.setIfInBounds_toArray, List.set_cons_zero, List.set_cons_succ]
  refine rgn.one (i := 4) _ rfl (by kernel_rfl) (by rfl) ?_
  simp only [List.getElem_toArray, List.getElem_cons_zero, List.getElem_cons_succ, Act.put, List.setIfInBounds_toArray, List.set_cons_zero, List.set_cons_succ]
  refine callW _ _ _ _ rfl Tryz.func105 (by kernel_rfl) (by kernel_rfl) #[.int .u64 d] (by first | kernel_rfl | (simp only [List.map_toArray, List.map_cons, List.map_nil]; rfl)) ?_
  refine (unhide HN _ b01.drew).mono ?_
  rintro e w' ⟨rfl, hw'⟩
  subst hw'
  refine ⟨_, rfl, trivial, ?_⟩
  try simp only [List.getElem_toArray, List.getElem_cons_zero, List.getElem_cons_succ, Act.put, List.setIfInBounds_toArray, List.set_cons_zero, List.set_cons_succ]
  refine rgn.one (i := 5) _ rfl (by kernel_rfl) (by rfl) ?_
  simp only [List.getElem_toArray, List.getElem_cons_zero, List.getElem_cons_succ, Act.put, List.setIfInBounds_toArray, List.set_cons_zero, List.set_cons_succ]
  refine callW _ _ _ _ rfl Tryz.func176 (by kernel_rfl) (by kernel_rfl) #[.slice (some ⟨w.heap.size, 0, none⟩) 32 32, .int .u64 d, .int .i64 p, .int .i64 nd] (by first | kernel_rfl | (simp only [List.map_toArray, List.map_cons, List.map_nil]; rfl)) ?_
  have hcell : ∀ j, j < nd → w1.drew.cell? ⟨w.heap.size, j, none⟩ = some (.int .u8 0) ∧ w1.drew.frozen? ⟨w.heap.size, j, none⟩ = false := fun j hj => by
    have hj : j < 32 := by omega
    refine ⟨?_, by show w1.frozen? ⟨w.heap.size, j, none⟩ = false; simp [World.frozen?, hB1]⟩
    rw [World.cell?_drew]
    simp only [World.cell?, hB1]
    simp [hj]
  refine (setDigits_ok w.heap.size d nd p w1.drew (by omega) hcell (unhide HD) hd64 (by omega)).mono ?_
  rintro e w3 ⟨k, rfl, hk, hdg, hz, hnz0, b3, kt⟩
  refine ⟨_, rfl, trivial, ?_⟩
  try simp only [List.getElem_toArray, List.getElem_cons_zero, List.getElem_cons_succ, Act.put, List.setIfInBounds_toArray, List.set_cons_zero, List.set_cons_succ]
  refine wpAnyH_take (i := 6) (v := ?v5) rfl (by kernel_rfl) (by kernel_rfl) (by kernel_rfl) (fun _ _ _ h => h) (Or.inl ⟨by rfl, ?hy5⟩) hS0 ?_
  case hy5 => (intro w' hw'; skip; go_simp; try with_reducible rfl)
  simp only [List.getElem_toArray, List.getElem_cons_zero, List.getElem_cons_succ, Act.put, List.setIfInBounds_toArray, List.set_cons_zero, List.set_cons_succ]
  refine wpAnyH_take (i := 7) (v := ?v6) rfl (by kernel_rfl) (by kernel_rfl) (by kernel_rfl) (fun _ _ _ h => h) (Or.inl ⟨by rfl, ?hy6⟩) hS0 ?_
  case hy6 => (intro w' hw'; skip; go_simp; try with_reducible rfl)
  simp only [List.getElem_toArray, List.getElem_cons_zero, List.getElem_cons_succ, Act.put, List.setIfInBounds_toArray, List.set_cons_zero, List.set_cons_succ]
  refine wpAnyH_take (i := 8) (v := ?v7) rfl (by kernel_rfl) (by kernel_rfl) (by kernel_rfl) (fun _ _ _ h => h) (Or.inl ⟨by rfl, ?hy7⟩) hS0 ?_
  case hy7 => (intro w' hw'; skip; go_simp; try with_reducible rfl)
  simp only [List.getElem_toArray, List.getElem_cons_zero, List.getElem_cons_succ, Act.put, List.setIfInBounds_toArray, List.set_cons_zero, List.set_cons_succ]
  refine wpAnyH_take (i := 9) (v := ?v8) rfl (by kernel_rfl) (by kernel_rfl) (by kernel_rfl) (fun _ _ _ h => h) (Or.inl ⟨by rfl, ?hy8⟩) hS0 ?_
  case hy8 => (intro w' hw'; skip; go_simp; try with_reducible rfl)
  simp only [List.getElem_toArray, List.getElem_cons_zero, List.getElem_cons_succ, Act.put, List.setIfInBounds_toArray, List.set_cons_zero, List.set_cons_succ]
  refine wpAnyH_take (i := 10) (v := ?v9) rfl (by kernel_rfl) (by kernel_rfl) (by kernel_rfl) (fun _ _ _ h => h) (Or.inl ⟨by rfl, ?hy9⟩) hS0 ?_
  case hy9 => (intro w' hw'; skip; go_simp; try with_reducible rfl)
  simp only [List.getElem_toArray, List.getElem_cons_zero, List.getElem_cons_succ, Act.put, List.setIfInBounds_toArray, List.set_cons_zero, List.set_cons_succ]
  refine wpAnyH_done (by kernel_rfl) ?_ _; refine NoPanic.normal ?_
  have hk1 : 1 ≤ k := by
    rcases Nat.eq_zero_or_pos k with h | h
    · exact absurd (fun j h0 hj => hz j (by omega) hj) (unhide HZ)
    · exact h
  have hnz1 : dgt d nd (k - 1) ≠ 48 := by
    rcases hnz0 with h | h
    · omega
    · exact h
  obtain ⟨arr, harr⟩ := kt _ _ _ (show w1.drew.heap[w.heap.size]? = _ from hB1)
  obtain ⟨m, rfl⟩ : ∃ m, k = m + 1 := ⟨k - 1, by omega⟩
  have b13 : Below w.heap.size w w3 := b01.drew.trans b3
  have own3 := own_bel hown b13
  have EF := hide (efg_ok w.heap.size base m v (dgt d nd 0) ((nd : Int) + p) (dTail d nd (m + 1)) w3 harr (by decide) (cell_arr harr (hdg 0 (by omega))) (fun j u hj => by
      have hl : j < m := by have := (List.getElem?_eq_some_iff.1 hj).1; simpa [dTail] using this
      have e : ((dTail d nd (m + 1)).map (Value.int .u8))[j]? = some (.int .u8 (dgt d nd (1 + j))) := by simp [dTail, hl]
      rw [e] at hj
      cases hj
      exact cell_arr harr (hdg (1 + j) (by omega))) (by simp [dTail]) (by omega) own3 (Nat.le_trans hbase b13.size) (by omega) (by omega))
  have R := hide (⟨hz, hnz1, b13⟩ : (∀ j, m + 1 ≤ j → j < nd → dgt d nd j = 48) ∧ dgt d nd (m + 1 - 1) ≠ 48 ∧ Below w.heap.size w w3)
  clear hz hnz0 hnz1 b13 own3 hdg b3 kt harr hcell hB1 b1 b01 b0 hW hZ HS HN HZ
  have im : ((m + 1 : Nat) : Int) - 1 = (m : Int) := by omega
  go_wp2_with fail
  refine (unhide EF).mono ?_
  rintro e w4 ⟨r, rfl, ho, b4⟩
  have HO := hide ho
  have B4 := hide b4
  clear ho b4 EF
  go_wp2
  go_ret
  obtain ⟨hz, hnz1, b13⟩ := unhide R
  exact ⟨r, rfl, m + 1, by omega, hk, hz, hnz1, unhide HO, (b13.mono hbase).trans (unhide B4)⟩
end Go.Proofs.YtechaplindbfoaaGreatDoor.fto
namespace Go.Proofs.YtechaplindbfoaaGreatDoor.fto
open Go.ChangeShapes Go.WideShapes Go.ChangeAt Go.RowKit
open mem Go.Sort
open ints (hide unhide)
set_option linter.unusedVariables false
set_option linter.unusedSimpArgs false
set_option maxHeartbeats 8000000 in
set_option maxRecDepth 100000 in
theorem ftoa_s (f mm L s d nd : Nat) (p : Int) (v : Value) (base : Nat) (w : World) (hf0 : 1 ≤ f) (hf : f < 4503599627370496) (a1 : bits .and .i64 0 2047 = (0 : Int)) (a2 : bits .and .u64 (f : Int) 4503599627370495 = (f : Int)) (hlen : Lib.bitLen f = L) (hL : L + s = 64) (hL2 : 1 ≤ L) (hL3 : L ≤ 52) (hmm : f * 2 ^ s = mm) (hm2 : mm < 18446744073709551616)
    (hown : w.ownsRow base 5 1 v 0 []) (hbase : base ≤ w.heap.size)
    (hS : ∀ W, Below w.heap.size w W → Calls Tryz.prog 181 #[.int .u64 mm, .int .i64 (-1022 - (s : Int) - 52)] W fun e w' => e = .returned (.tuple #[.int .u64 d, .int .i64 p]) ∧ Below W.heap.size W w')
    (hN : ∀ W, Below w.heap.size w W → Calls Tryz.prog 105 #[.int .u64 d] W fun e w' => e = .returned (.int .i64 nd) ∧ w' = W)
    (hd : 1 ≤ d) (hnd : d < 10 ^ nd) (hnd1 : 1 ≤ nd) (hnd2 : nd ≤ 20) (hd64 : d < 18446744073709551616) (hp : -370 ≤ p ∧ p ≤ 370) (hnz : ¬ ∀ j, 0 ≤ j → j < nd → dgt d nd j = 48) :
    Calls Tryz.prog 152 #[v, .float .f64 f, .int .u8 101, .int .i64 (-1)] w fun e w' => ∃ r, e = .returned r ∧ ∃ k : Nat, 1 ≤ k ∧ k ≤ nd ∧ (∀ j, k ≤ j → j < nd → dgt d nd j = 48) ∧ dgt d nd (k - 1) ≠ 48 ∧ w'.ownsRow base 5 1 r (sTxt d nd k p).length ((sTxt d nd k p).map (Value.int .u8)) ∧ Below base w w' := by
  have hb := run_fbits f w
  have HS := hide hS
  have HN := hide hN
  have HZ := hide hnz
  have HD := hide hnd
  clear hS hN hnz hnd
  have x1 : IntKind.u64.wrap ((f : Int) * 2 ^ s) = (mm : Int) := by
    have e1 : ((f : Int) * 2 ^ s) = (mm : Int) := by rw [← hmm]; simp
    rw [e1, IntKind.wrap_u64]; omega
  have hs63 : (s : Int) < 64 := by omega
  have hs12 : 12 ≤ (s : Int) := by omega
  have HL := hide hlen
  have HM := hide hmm
  have i7 : (64 : Int) - (L : Int) = (s : Int) := by omega
  have hLs := hide hL
  clear hlen hmm hL
  have i1 : (0 : Int) ≤ (f : Int) := by omega
  have i2 : (f : Int) / 4503599627370496 = 0 := by omega
  have i3 : (f : Int) / 9223372036854775808 = 0 := by omega
  have i6 : ((f : Int) == 0) = false := by rw [beq_eq_false_iff_ne]; omega
  go_enter Tryz.func152, Tryz.ntmps152
  go_wp2_with fail
  go_region
  go_wp2_with fail
  have b0 : Below w.heap.size w (w.alloc (.cells (Array.replicate 32 (Value.int .u8 0)) 205)).drew := Below.drew ((Below.refl _ _).alloc (Nat.le_refl _) _)
  have hW : (w.alloc (.cells (Array.replicate 32 (Value.int .u8 0)) 205)).drew.heap[w.heap.size]? = some (.cells (Array.replicate 32 (Value.int .u8 0)) 205) := by
    show (w.heap.push _)[w.heap.size]? = _
    rw [Array.getElem?_push_size]
  have hZ : (w.alloc (.cells (Array.replicate 32 (Value.int .u8 0)) 205)).drew.heap.size = w.heap.size + 1 := by
    show (w.heap.push _).size = _
    rw [Array.size_push]
  generalize hW0 : (w.alloc (.cells (Array.replicate 32 (Value.int .u8 0)) 205)).drew = W0 at b0 hW hZ
  have hW1 : (w.alloc (.cells #[.int .u8 0, .int .u8 0, .int .u8 0, .int .u8 0, .int .u8 0, .int .u8 0, .int .u8 0, .int .u8 0, .int .u8 0, .int .u8 0, .int .u8 0, .int .u8 0, .int .u8 0, .int .u8 0, .int .u8 0, .int .u8 0, .int .u8 0, .int .u8 0, .int .u8 0, .int .u8 0, .int .u8 0, .int .u8 0, .int .u8 0, .int .u8 0, .int .u8 0, .int .u8 0, .int .u8 0, .int .u8 0, .int .u8 0, .int .u8 0, .int .u8 0, .int .u8 0] 205)).drew = W0 := hW0
  rw [hW1]
  refine (Tryz.bits_Len64 f _ (by omega) (by omega)).mono ?_
  rintro e w' ⟨rfl, rfl⟩
  rw [Int.toNat_natCast, unhide HL]
  clear hb hW0 hW1
  go_wp2_with fail
  refine (unhide HS _ b0).mono ?_
  rintro e w1 ⟨rfl, b1⟩
  have hB1 : w1.heap[w.heap.size]? = some (.cells (Array.replicate 32 (Value.int .u8 0)) 205) := (b1.block _ (by omega)).trans hW
  have b01 : Below w.heap.size w w1 := b0.trans (b1.mono (by omega))
  have hz1 : w.heap.size < w1.heap.size := by have := b1.size; omega
  go_wp2_with fail
  refine wp_region_noPanic ?_
  refine wp_region_held (S := fun _ => True) mixed ?_
  have hS0 : True := trivial
  refine wpAnyH_take (i := 0) (v := ?v1) rfl (by kernel_rfl) (by kernel_rfl) (by kernel_rfl) (fun _ _ _ h => h) (Or.inl ⟨by rfl, ?hy1⟩) hS0 ?_
  case hy1 => (intro w' hw'; skip; go_simp; try with_reducible rfl)
  simp only [List.getElem_toArray, List.getElem_cons_zero, List.getElem_cons_succ, Act.put, List.setIfInBounds_toArray, List.set_cons_zero, List.set_cons_succ]
  refine wpAnyH_take (i := 1) (v := ?v2) rfl (by kernel_rfl) (by kernel_rfl) (by kernel_rfl) (fun _ _ _ h => h) (Or.inl ⟨by rfl, ?hy2⟩) hS0 ?_
  case hy2 => (intro w' hw'; skip; go_simp; try with_reducible rfl)
  simp only [List.getElem_toArray, List.getElem_cons_zero, List.getElem_cons_succ, Act.put, List.setIfInBounds_toArray, List.set_cons_zero, List.set_cons_succ]
  refine wpAnyH_take (i := 2) (v := ?v3) rfl (by kernel_rfl) (by kernel_rfl) (by kernel_rfl) (fun _ _ _ h => h) (Or.inl ⟨by rfl, ?hy3⟩) hS0 ?_
  case hy3 => (intro w' hw'; skip; go_simp; try with_reducible rfl)
  simp only [List.getElem_toArray, List.getElem_cons_zero, List.getElem_cons_succ, Act.put, List.setIfInBounds_toArray, List.set_cons_zero, List.set_cons_succ]
  refine wpAnyH_take (i := 3) (v := ?v4) rfl (by kernel_rfl) (by kernel_rfl) (by kernel_rfl) (fun _ _ _ h => h) (Or.inl ⟨by rfl, ?hy4⟩) hS0 ?_
  case hy4 => (intro w' hw'; skip; go_simp; try with_reducible rfl)
  simp only [List.getElem_toArray, List.getElem_cons_zero, List.getElem_cons_succ, Act.put, List.setIfInBounds_toArray, List.set_cons_zero, List.set_cons_succ]
  refine rgn.one (i := 4) _ rfl (by kernel_rfl) (by rfl) ?_
  simp only [List.getElem_toArray, List.getElem_cons_zero, List.getElem_cons_succ, Act.put, List.setIfInBounds_toArray, List.set_cons_zero, List.set_cons_succ]
  refine callW _ _ _ _ rfl Tryz.func105 (by kernel_rfl) (by kernel_rfl) #[.int .u64 d] (by first | kernel_rfl | (simp only [List.map_toArray, List.map_cons, List.map_nil]; rfl)) ?_
  refine (unhide HN _ b01.drew).mono ?_
  rintro e w' ⟨rfl, hw'⟩
  subst hw'
  refine ⟨_, rfl, trivial, ?_⟩
  try simp only [List.getElem_toArray, List.getElem_cons_zero, List.getElem_cons_succ, Act.put, List.setIfInBounds_toArray, List.set_cons_zero, List.set_cons_succ]
  refine rgn.one (i := 5) _ rfl (by kernel_rfl) (by rfl) ?_
  simp only [List.getElem_toArray, List.getElem_cons_zero, List.getElem_cons_succ, Act.put, List.setIfInBounds_toArray, List.set_cons_zero, List.set_cons_succ]
  refine callW _ _ _ _ rfl Tryz.func176 (by kernel_rfl) (by kernel_rfl) #[.slice (some ⟨w.heap.size, 0, none⟩) 32 32, .int .u64 d, .int .i64 p, .int .i64 nd] (by first | kernel_rfl | (simp only [List.map_toArray, List.map_cons, List.map_nil]; rfl)) ?_
  have hcell : ∀ j, j < nd → w1.drew.cell? ⟨w.heap.size, j, none⟩ = some (.int .u8 0) ∧ w1.drew.frozen? ⟨w.heap.size, j, none⟩ = false := fun j hj => by
    have hj : j < 32 := by omega
    refine ⟨?_, by show w1.frozen? ⟨w.heap.size, j, none⟩ = false; simp [World.frozen?, hB1]⟩
    rw [World.cell?_drew]
    simp only [World.cell?, hB1]
    simp [hj]
  refine (setDigits_ok w.heap.size d nd p w1.drew (by omega) hcell (unhide HD) hd64 (by omega)).mono ?_
  rintro e w3 ⟨k, rfl, hk, hdg, hz, hnz0, b3, kt⟩
  refine ⟨_, rfl, trivial, ?_⟩
  try simp only [List.getElem_toArray, List.getElem_cons_zero, List.getElem_cons_succ, Act.put, List.setIfInBounds_toArray, List.set_cons_zero, List.set_cons_succ]
  refine wpAnyH_take (i := 6) (v := ?v5) rfl (by kernel_rfl) (by kernel_rfl) (by kernel_rfl) (fun _ _ _ h => h) (Or.inl ⟨by rfl, ?hy5⟩) hS0 ?_
  case hy5 => (intro w' hw'; skip; go_simp; try with_reducible rfl)
  simp only [List.getElem_toArray, List.getElem_cons_zero, List.getElem_cons_succ, Act.put, List.setIfInBounds_toArray, List.set_cons_zero, List.set_cons_succ]
  refine wpAnyH_take (i := 7) (v := ?v6) rfl (by kernel_rfl) (by kernel_rfl) (by kernel_rfl) (fun _ _ _ h => h) (Or.inl ⟨by rfl, ?hy6⟩) hS0 ?_
  case hy6 => (intro w' hw'; skip; go_simp; try with_reducible rfl)
  simp only [List.getElem_toArray, List.getElem_cons_zero, List.getElem_cons_succ, Act.put, List.setIfInBounds_toArray, List.set_cons_zero, List.set_cons_succ]
  refine wpAnyH_take (i := 8) (v := ?v7) rfl (by kernel_rfl) (by kernel_rfl) (by kernel_rfl) (fun _ _ _ h => h) (Or.inl ⟨by rfl, ?hy7⟩) hS0 ?_
  case hy7 => (intro w' hw'; skip; go_simp; try with_reducible rfl)
  simp only [List.getElem_toArray, List.getElem_cons_zero, List.getElem_cons_succ, Act.put, List.setIfInBounds_toArray, List.set_cons_zero, List.set_cons_succ]
  refine wpAnyH_take (i := 9) (v := ?v8) rfl (by kernel_rfl) (by kernel_rfl) (by kernel_rfl) (fun _ _ _ h => h) (Or.inl ⟨by rfl, ?hy8⟩) hS0 ?_
  case hy8 => (intro w' hw'; skip; go_simp; try with_reducible rfl)
  simp only [List.getElem_toArray, List.getElem_cons_zero, List.getElem_cons_succ, Act.put, List.setIfInBounds_toArray, List.set_cons_zero, List.set_cons_succ]
  refine wpAnyH_take (i := 10) (v := ?v9) rfl (by kernel_rfl) (by kernel_rfl) (by kernel_rfl) (fun _ _ _ h => h) (Or.inl ⟨by rfl, ?hy9⟩) hS0 ?_
  case hy9 => (intro w' hw'; skip; go_simp; try with_reducible rfl)
  simp only [List.getElem_toArray, List.getElem_cons_zero, List.getElem_cons_succ, Act.put, List.setIfInBounds_toArray, List.set_cons_zero, List.set_cons_succ]
  refine wpAnyH_done (by kernel_rfl) ?_ _; refine NoPanic.normal ?_
  have hk1 : 1 ≤ k := by
    rcases Nat.eq_zero_or_pos k with h | h
    · exact absurd (fun j h0 hj => hz j (by omega) hj) (unhide HZ)
    · exact h
  have hnz1 : dgt d nd (k - 1) ≠ 48 := by
    rcases hnz0 with h | h
    · omega
    · exact h
  obtain ⟨arr, harr⟩ := kt _ _ _ (show w1.drew.heap[w.heap.size]? = _ from hB1)
  obtain ⟨m, rfl⟩ : ∃ m, k = m + 1 := ⟨k - 1, by omega⟩
  have b13 : Below w.heap.size w w3 := b01.drew.trans b3
  have own3 := own_bel hown b13
  have EF := hide (efg_ok w.heap.size base m v (dgt d nd 0) ((nd : Int) + p) (dTail d nd (m + 1)) w3 harr (by decide) (cell_arr harr (hdg 0 (by omega))) (fun j u hj => by
      have hl : j < m := by have := (List.getElem?_eq_some_iff.1 hj).1; simpa [dTail] using this
      have e : ((dTail d nd (m + 1)).map (Value.int .u8))[j]? = some (.int .u8 (dgt d nd (1 + j))) := by simp [dTail, hl]
      rw [e] at hj
      cases hj
      exact cell_arr harr (hdg (1 + j) (by omega))) (by simp [dTail]) (by omega) own3 (Nat.le_trans hbase b13.size) (by omega) (by omega))
  have R := hide (⟨hz, hnz1, b13⟩ : (∀ j, m + 1 ≤ j → j < nd → dgt d nd j = 48) ∧ dgt d nd (m + 1 - 1) ≠ 48 ∧ Below w.heap.size w w3)
  clear hz hnz0 hnz1 b13 own3 hdg b3 kt harr hcell hB1 b1 b01 b0 hW hZ HS HN HZ
  have im : ((m + 1 : Nat) : Int) - 1 = (m : Int) := by omega
  go_wp2_with fail
  refine (unhide EF).mono ?_
  rintro e w4 ⟨r, rfl, ho, b4⟩
  have HO := hide ho
  have B4 := hide b4
  clear ho b4 EF
  go_wp2
  go_ret
  obtain ⟨hz, hnz1, b13⟩ := unhide R
  exact ⟨r, rfl, m + 1, by omega, hk, hz, hnz1, unhide HO, (b13.mono hbase).trans (unhide B4)⟩
end Go.Proofs.YtechaplindbfoaaGreatDoor.fto
