import Derived.Test.YtjlaoeigfokkiaaGreatDoorBr2
import Derived.Maps.AppendAt
import Derived.Deep.DeepMust
import Derived.Test.YtjlaoeigfokkiaaGreatDoorRows
import Derived.WalkKit
import Derived.ProofKit
import Derived.OrdersHeld
import Derived.Deep.MidRow
import Derived.Laws.Rows
import Derived.Laws.ResultCell
namespace Go.Proofs.YtjlaoeigfokkiaaGreatDoor.fto
open Go.ChangeShapes Go.WideShapes Go.ChangeAt Go.RowKit
open mem
open ints (hide unhide)
set_option linter.unusedVariables false
set_option maxHeartbeats 4000000 in
set_option maxRecDepth 100000 in
theorem efg_many_p1 (B base m:Nat) (v:Value) (g dp x:Int) (ds:List Int) (w:World) {arr:Array Value} {TB:TypeId} {fr:Nat × Nat} (hB:w.heap[B]? = some (.cells arr TB fr)) (hT:TB ≠ 5) (h0:arr[0]? = some (.int .u8 g)) (hds:∀ j u,(ds.map (Value.int .u8))[j]? = some u → arr[1 + j]? = some u) (hl:ds.length = m) (hm0:1 ≤ m) (hm1:m ≤ 31) (hown:w.ownsRow base 5 1 v 0 []) (hbase:base ≤ w.heap.size) (hx:dp - 1 = x) (hx1:0 ≤ x) (hx2:x ≤ 9) :
  Calls Tryz.prog 132 #[v,.bool false,.slice (some ⟨B,0,none⟩) 32 32,.int .i64 dp,.int .i64 ((m:Int) + 1),.int .i64 m,.int .u8 101,.bool true] w fun e w' => ∃ r,e = .returned r ∧ w'.ownsRow base 5 1 r (m + 6) ((g :: 46 :: (ds ++ [101,43,48,x + 48])).map (Value.int .u8)) ∧ Below base w w':=by
 obtain ⟨i0,hi,hz0,hz1,hz2⟩:=info_parts info8
 have c0:=cell_at hB h0
 have hmi:(1:Int) ≤ m:=by omega
 have hmj:(m:Int) ≤ 31:=by omega
 have hmn:min ((m:Int) + 1) ((m:Int) + 1) = (m:Int) + 1:=by omega
 go_enter Tryz.func132,Tryz.ntmps132
 go_wp2_with (first
  | (at_builtin;refine wpList_append_own _ rfl _ _ 45 rfl base 5 i0 (.int .u8 0) 1 1 Tryz.underlying45 hi hz0 hz1 hz2 rfl (by decide) _ _ _ rfl (hown.alloc _) ⟨w.heap.size,0,none⟩ 1 1 [.int .u8 (g)] rfl rfl (cell_one_new _ _ _) (ints_oneCell .u8 [g]) (by unfold maxLen;omega) (by omega) (by simp;omega) ?_;intro v1 w1 hown1 hgrow1 hnil1;have s1:=Nat.le_trans hbase (World.grownBy.size ((World.grownBy_alloc w _ _).trans hgrow1));have hB1:=keepB hB hT hown hgrow1)
  | (at_builtin;refine wpList_append_own _ rfl _ _ 45 rfl base 5 i0 (.int .u8 0) 1 1 Tryz.underlying45 hi hz0 hz1 hz2 rfl (by decide) _ _ _ rfl (hown1.alloc _) ⟨w1.heap.size,0,none⟩ 1 1 [.int .u8 (46)] rfl rfl (cell_one_new _ _ _) (ints_oneCell .u8 [46]) (by unfold maxLen;omega) (by omega) (by simp;omega) ?_;intro v2 w2 hown2 hgrow2 hnil2;have s2:=Nat.le_trans s1 (World.grownBy.size ((World.grownBy_alloc w1 _ _).trans hgrow2));have hB2:=keepB hB1 hT hown1 hgrow2)
  | (at_builtin;refine wpList_append_own _ rfl _ _ 45 rfl base 5 i0 (.int .u8 0) 1 1 Tryz.underlying45 hi hz0 hz1 hz2 rfl (by decide) _ _ _ rfl hown2 ⟨B,1,none⟩ m 31 (ds.map (Value.int .u8)) (by first | rfl | (simp;omega)) (by simp [hl]) (row_at hB2 hds) (ints_oneCell .u8 ds) (by unfold maxLen;omega) (by omega) (by first | exact s2 | omega) ?_;intro v3 w3 hown3 hgrow3 hnil3;have s3:=Nat.le_trans s2 (World.grownBy.size hgrow3)))
 refine wp_loop_once ?_
 go_wp2_with (first
  | (at_builtin;refine wpList_append_own _ rfl _ _ 45 rfl base 5 i0 (.int .u8 0) 1 1 Tryz.underlying45 hi hz0 hz1 hz2 rfl (by decide) _ _ _ rfl (hown3.alloc _) ⟨w3.heap.size,0,none⟩ 1 1 [.int .u8 (101)] rfl rfl (cell_one_new _ _ _) (ints_oneCell .u8 [101]) (by unfold maxLen;omega) (by omega) (by simp;omega) ?_;intro v4 w4 hown4 hgrow4 hnil4;have s4:=Nat.le_trans s3 (World.grownBy.size ((World.grownBy_alloc w3 _ _).trans hgrow4)))
  | (at_builtin;refine wpList_append_own _ rfl _ _ 45 rfl base 5 i0 (.int .u8 0) 1 1 Tryz.underlying45 hi hz0 hz1 hz2 rfl (by decide) _ _ _ rfl (hown4.alloc _) ⟨w4.heap.size,0,none⟩ 1 1 [.int .u8 (43)] rfl rfl (cell_one_new _ _ _) (ints_oneCell .u8 [43]) (by unfold maxLen;omega) (by omega) (by simp;omega) ?_;intro v5 w5 hown5 hgrow5 hnil5;have s5:=Nat.le_trans s4 (World.grownBy.size ((World.grownBy_alloc w4 _ _).trans hgrow5)))
  | (at_builtin;refine wpList_append_own _ rfl _ _ 45 rfl base 5 i0 (.int .u8 0) 1 1 Tryz.underlying45 hi hz0 hz1 hz2 rfl (by decide) _ _ _ rfl (hown5.alloc _) ⟨w5.heap.size,0,none⟩ 2 2 [.int .u8 (48),.int .u8 (x + 48)] rfl rfl (cell_lit w5 [.int .u8 (48),.int .u8 (x + 48)] _) (ints_oneCell .u8 [48,x + 48]) (by unfold maxLen;omega) (by omega) (by simp;omega) ?_;intro v6 w6 hown6 hgrow6 hnil6;have s6:=Nat.le_trans s5 (World.grownBy.size ((World.grownBy_alloc w5 _ _).trans hgrow6))))
 go_ret
 refine ⟨_,rfl,?_,(((((step_below hbase hown hgrow1).trans (step_below s1 hown1 hgrow2)).trans (row_below s2 hown2 hgrow3)).trans (step_below s3 hown3 hgrow4)).trans (step_below s4 hown4 hgrow5)).trans (step_below s5 hown5 hgrow6)⟩
 refine own_as hown6 (by omega) ?_
 simp
end Go.Proofs.YtjlaoeigfokkiaaGreatDoor.fto
namespace Go.Proofs.YtjlaoeigfokkiaaGreatDoor.fto
open Go.ChangeShapes Go.WideShapes Go.ChangeAt Go.RowKit
open mem
open ints (hide unhide)
set_option linter.unusedVariables false
set_option maxHeartbeats 4000000 in
set_option maxRecDepth 100000 in
theorem efg_many_p2 (B base m:Nat) (v:Value) (g dp x:Int) (ds:List Int) (w:World) {arr:Array Value} {TB:TypeId} {fr:Nat × Nat} (hB:w.heap[B]? = some (.cells arr TB fr)) (hT:TB ≠ 5) (h0:arr[0]? = some (.int .u8 g)) (hds:∀ j u,(ds.map (Value.int .u8))[j]? = some u → arr[1 + j]? = some u) (hl:ds.length = m) (hm0:1 ≤ m) (hm1:m ≤ 31) (hown:w.ownsRow base 5 1 v 0 []) (hbase:base ≤ w.heap.size) (hx:dp - 1 = x) (hx1:10 ≤ x) (hx2:x ≤ 99) :
  Calls Tryz.prog 132 #[v,.bool false,.slice (some ⟨B,0,none⟩) 32 32,.int .i64 dp,.int .i64 ((m:Int) + 1),.int .i64 m,.int .u8 101,.bool true] w fun e w' => ∃ r,e = .returned r ∧ w'.ownsRow base 5 1 r (m + 6) ((g :: 46 :: (ds ++ [101,43,x / 10 + 48,x % 10 + 48])).map (Value.int .u8)) ∧ Below base w w':=by
 obtain ⟨i0,hi,hz0,hz1,hz2⟩:=info_parts info8
 have c0:=cell_at hB h0
 have hmi:(1:Int) ≤ m:=by omega
 have hmj:(m:Int) ≤ 31:=by omega
 have hmn:min ((m:Int) + 1) ((m:Int) + 1) = (m:Int) + 1:=by omega
 go_enter Tryz.func132,Tryz.ntmps132
 go_wp2_with (first
  | (at_builtin;refine wpList_append_own _ rfl _ _ 45 rfl base 5 i0 (.int .u8 0) 1 1 Tryz.underlying45 hi hz0 hz1 hz2 rfl (by decide) _ _ _ rfl (hown.alloc _) ⟨w.heap.size,0,none⟩ 1 1 [.int .u8 (g)] rfl rfl (cell_one_new _ _ _) (ints_oneCell .u8 [g]) (by unfold maxLen;omega) (by omega) (by simp;omega) ?_;intro v1 w1 hown1 hgrow1 hnil1;have s1:=Nat.le_trans hbase (World.grownBy.size ((World.grownBy_alloc w _ _).trans hgrow1));have hB1:=keepB hB hT hown hgrow1)
  | (at_builtin;refine wpList_append_own _ rfl _ _ 45 rfl base 5 i0 (.int .u8 0) 1 1 Tryz.underlying45 hi hz0 hz1 hz2 rfl (by decide) _ _ _ rfl (hown1.alloc _) ⟨w1.heap.size,0,none⟩ 1 1 [.int .u8 (46)] rfl rfl (cell_one_new _ _ _) (ints_oneCell .u8 [46]) (by unfold maxLen;omega) (by omega) (by simp;omega) ?_;intro v2 w2 hown2 hgrow2 hnil2;have s2:=Nat.le_trans s1 (World.grownBy.size ((World.grownBy_alloc w1 _ _).trans hgrow2));have hB2:=keepB hB1 hT hown1 hgrow2)
  | (at_builtin;refine wpList_append_own _ rfl _ _ 45 rfl base 5 i0 (.int .u8 0) 1 1 Tryz.underlying45 hi hz0 hz1 hz2 rfl (by decide) _ _ _ rfl hown2 ⟨B,1,none⟩ m 31 (ds.map (Value.int .u8)) (by first | rfl | (simp;omega)) (by simp [hl]) (row_at hB2 hds) (ints_oneCell .u8 ds) (by unfold maxLen;omega) (by omega) (by first | exact s2 | omega) ?_;intro v3 w3 hown3 hgrow3 hnil3;have s3:=Nat.le_trans s2 (World.grownBy.size hgrow3)))
 refine wp_loop_once ?_
 go_wp2_with (first
  | (at_builtin;refine wpList_append_own _ rfl _ _ 45 rfl base 5 i0 (.int .u8 0) 1 1 Tryz.underlying45 hi hz0 hz1 hz2 rfl (by decide) _ _ _ rfl (hown3.alloc _) ⟨w3.heap.size,0,none⟩ 1 1 [.int .u8 (101)] rfl rfl (cell_one_new _ _ _) (ints_oneCell .u8 [101]) (by unfold maxLen;omega) (by omega) (by simp;omega) ?_;intro v4 w4 hown4 hgrow4 hnil4;have s4:=Nat.le_trans s3 (World.grownBy.size ((World.grownBy_alloc w3 _ _).trans hgrow4)))
  | (at_builtin;refine wpList_append_own _ rfl _ _ 45 rfl base 5 i0 (.int .u8 0) 1 1 Tryz.underlying45 hi hz0 hz1 hz2 rfl (by decide) _ _ _ rfl (hown4.alloc _) ⟨w4.heap.size,0,none⟩ 1 1 [.int .u8 (43)] rfl rfl (cell_one_new _ _ _) (ints_oneCell .u8 [43]) (by unfold maxLen;omega) (by omega) (by simp;omega) ?_;intro v5 w5 hown5 hgrow5 hnil5;have s5:=Nat.le_trans s4 (World.grownBy.size ((World.grownBy_alloc w4 _ _).trans hgrow5)))
  | (at_builtin;refine wpList_append_own _ rfl _ _ 45 rfl base 5 i0 (.int .u8 0) 1 1 Tryz.underlying45 hi hz0 hz1 hz2 rfl (by decide) _ _ _ rfl (hown5.alloc _) ⟨w5.heap.size,0,none⟩ 2 2 [.int .u8 (x / 10 + 48),.int .u8 (x % 10 + 48)] rfl rfl (cell_lit w5 [.int .u8 (x / 10 + 48),.int .u8 (x % 10 + 48)] _) (ints_oneCell .u8 [x / 10 + 48,x % 10 + 48]) (by unfold maxLen;omega) (by omega) (by simp;omega) ?_;intro v6 w6 hown6 hgrow6 hnil6;have s6:=Nat.le_trans s5 (World.grownBy.size ((World.grownBy_alloc w5 _ _).trans hgrow6))))
 go_ret
 refine ⟨_,rfl,?_,(((((step_below hbase hown hgrow1).trans (step_below s1 hown1 hgrow2)).trans (row_below s2 hown2 hgrow3)).trans (step_below s3 hown3 hgrow4)).trans (step_below s4 hown4 hgrow5)).trans (step_below s5 hown5 hgrow6)⟩
 refine own_as hown6 (by omega) ?_
 simp
end Go.Proofs.YtjlaoeigfokkiaaGreatDoor.fto
namespace Go.Proofs.YtjlaoeigfokkiaaGreatDoor.fto
open Go.ChangeShapes Go.WideShapes Go.ChangeAt Go.RowKit
open mem
open ints (hide unhide)
set_option linter.unusedVariables false
set_option maxHeartbeats 4000000 in
set_option maxRecDepth 100000 in
theorem efg_many_p3 (B base m:Nat) (v:Value) (g dp x:Int) (ds:List Int) (w:World) {arr:Array Value} {TB:TypeId} {fr:Nat × Nat} (hB:w.heap[B]? = some (.cells arr TB fr)) (hT:TB ≠ 5) (h0:arr[0]? = some (.int .u8 g)) (hds:∀ j u,(ds.map (Value.int .u8))[j]? = some u → arr[1 + j]? = some u) (hl:ds.length = m) (hm0:1 ≤ m) (hm1:m ≤ 31) (hown:w.ownsRow base 5 1 v 0 []) (hbase:base ≤ w.heap.size) (hx:dp - 1 = x) (hx1:100 ≤ x) (hx2:x ≤ 400) :
  Calls Tryz.prog 132 #[v,.bool false,.slice (some ⟨B,0,none⟩) 32 32,.int .i64 dp,.int .i64 ((m:Int) + 1),.int .i64 m,.int .u8 101,.bool true] w fun e w' => ∃ r,e = .returned r ∧ w'.ownsRow base 5 1 r (m + 7) ((g :: 46 :: (ds ++ [101,43,x / 100 + 48,x / 10 % 10 + 48,x % 10 + 48])).map (Value.int .u8)) ∧ Below base w w':=by
 obtain ⟨i0,hi,hz0,hz1,hz2⟩:=info_parts info8
 have c0:=cell_at hB h0
 have hmi:(1:Int) ≤ m:=by omega
 have hmj:(m:Int) ≤ 31:=by omega
 have hmn:min ((m:Int) + 1) ((m:Int) + 1) = (m:Int) + 1:=by omega
 go_enter Tryz.func132,Tryz.ntmps132
 go_wp2_with (first
  | (at_builtin;refine wpList_append_own _ rfl _ _ 45 rfl base 5 i0 (.int .u8 0) 1 1 Tryz.underlying45 hi hz0 hz1 hz2 rfl (by decide) _ _ _ rfl (hown.alloc _) ⟨w.heap.size,0,none⟩ 1 1 [.int .u8 (g)] rfl rfl (cell_one_new _ _ _) (ints_oneCell .u8 [g]) (by unfold maxLen;omega) (by omega) (by simp;omega) ?_;intro v1 w1 hown1 hgrow1 hnil1;have s1:=Nat.le_trans hbase (World.grownBy.size ((World.grownBy_alloc w _ _).trans hgrow1));have hB1:=keepB hB hT hown hgrow1)
  | (at_builtin;refine wpList_append_own _ rfl _ _ 45 rfl base 5 i0 (.int .u8 0) 1 1 Tryz.underlying45 hi hz0 hz1 hz2 rfl (by decide) _ _ _ rfl (hown1.alloc _) ⟨w1.heap.size,0,none⟩ 1 1 [.int .u8 (46)] rfl rfl (cell_one_new _ _ _) (ints_oneCell .u8 [46]) (by unfold maxLen;omega) (by omega) (by simp;omega) ?_;intro v2 w2 hown2 hgrow2 hnil2;have s2:=Nat.le_trans s1 (World.grownBy.size ((World.grownBy_alloc w1 _ _).trans hgrow2));have hB2:=keepB hB1 hT hown1 hgrow2)
  | (at_builtin;refine wpList_append_own _ rfl _ _ 45 rfl base 5 i0 (.int .u8 0) 1 1 Tryz.underlying45 hi hz0 hz1 hz2 rfl (by decide) _ _ _ rfl hown2 ⟨B,1,none⟩ m 31 (ds.map (Value.int .u8)) (by first | rfl | (simp;omega)) (by simp [hl]) (row_at hB2 hds) (ints_oneCell .u8 ds) (by unfold maxLen;omega) (by omega) (by first | exact s2 | omega) ?_;intro v3 w3 hown3 hgrow3 hnil3;have s3:=Nat.le_trans s2 (World.grownBy.size hgrow3)))
 refine wp_loop_once ?_
 go_wp2_with (first
  | (at_builtin;refine wpList_append_own _ rfl _ _ 45 rfl base 5 i0 (.int .u8 0) 1 1 Tryz.underlying45 hi hz0 hz1 hz2 rfl (by decide) _ _ _ rfl (hown3.alloc _) ⟨w3.heap.size,0,none⟩ 1 1 [.int .u8 (101)] rfl rfl (cell_one_new _ _ _) (ints_oneCell .u8 [101]) (by unfold maxLen;omega) (by omega) (by simp;omega) ?_;intro v4 w4 hown4 hgrow4 hnil4;have s4:=Nat.le_trans s3 (World.grownBy.size ((World.grownBy_alloc w3 _ _).trans hgrow4)))
  | (at_builtin;refine wpList_append_own _ rfl _ _ 45 rfl base 5 i0 (.int .u8 0) 1 1 Tryz.underlying45 hi hz0 hz1 hz2 rfl (by decide) _ _ _ rfl (hown4.alloc _) ⟨w4.heap.size,0,none⟩ 1 1 [.int .u8 (43)] rfl rfl (cell_one_new _ _ _) (ints_oneCell .u8 [43]) (by unfold maxLen;omega) (by omega) (by simp;omega) ?_;intro v5 w5 hown5 hgrow5 hnil5;have s5:=Nat.le_trans s4 (World.grownBy.size ((World.grownBy_alloc w4 _ _).trans hgrow5)))
  | (at_builtin;refine wpList_append_own _ rfl _ _ 45 rfl base 5 i0 (.int .u8 0) 1 1 Tryz.underlying45 hi hz0 hz1 hz2 rfl (by decide) _ _ _ rfl (hown5.alloc _) ⟨w5.heap.size,0,none⟩ 3 3 [.int .u8 (x / 100 + 48),.int .u8 (x / 10 % 10 + 48),.int .u8 (x % 10 + 48)] rfl rfl (cell_lit w5 [.int .u8 (x / 100 + 48),.int .u8 (x / 10 % 10 + 48),.int .u8 (x % 10 + 48)] _) (ints_oneCell .u8 [x / 100 + 48,x / 10 % 10 + 48,x % 10 + 48]) (by unfold maxLen;omega) (by omega) (by simp;omega) ?_;intro v6 w6 hown6 hgrow6 hnil6;have s6:=Nat.le_trans s5 (World.grownBy.size ((World.grownBy_alloc w5 _ _).trans hgrow6))))
 go_ret
 refine ⟨_,rfl,?_,(((((step_below hbase hown hgrow1).trans (step_below s1 hown1 hgrow2)).trans (row_below s2 hown2 hgrow3)).trans (step_below s3 hown3 hgrow4)).trans (step_below s4 hown4 hgrow5)).trans (step_below s5 hown5 hgrow6)⟩
 refine own_as hown6 (by omega) ?_
 simp
end Go.Proofs.YtjlaoeigfokkiaaGreatDoor.fto
namespace Go.Proofs.YtjlaoeigfokkiaaGreatDoor.fto
open Go.ChangeShapes Go.WideShapes Go.ChangeAt Go.RowKit
open mem
open ints (hide unhide)
set_option linter.unusedVariables false
set_option maxHeartbeats 4000000 in
set_option maxRecDepth 100000 in
theorem efg_many_n1 (B base m:Nat) (v:Value) (g dp x:Int) (ds:List Int) (w:World) {arr:Array Value} {TB:TypeId} {fr:Nat × Nat} (hB:w.heap[B]? = some (.cells arr TB fr)) (hT:TB ≠ 5) (h0:arr[0]? = some (.int .u8 g)) (hds:∀ j u,(ds.map (Value.int .u8))[j]? = some u → arr[1 + j]? = some u) (hl:ds.length = m) (hm0:1 ≤ m) (hm1:m ≤ 31) (hown:w.ownsRow base 5 1 v 0 []) (hbase:base ≤ w.heap.size) (hx:-(dp - 1) = x) (hx1:1 ≤ x) (hx2:x ≤ 9) :
  Calls Tryz.prog 132 #[v,.bool false,.slice (some ⟨B,0,none⟩) 32 32,.int .i64 dp,.int .i64 ((m:Int) + 1),.int .i64 m,.int .u8 101,.bool true] w fun e w' => ∃ r,e = .returned r ∧ w'.ownsRow base 5 1 r (m + 6) ((g :: 46 :: (ds ++ [101,45,48,x + 48])).map (Value.int .u8)) ∧ Below base w w':=by
 obtain ⟨i0,hi,hz0,hz1,hz2⟩:=info_parts info8
 have c0:=cell_at hB h0
 have hmi:(1:Int) ≤ m:=by omega
 have hmj:(m:Int) ≤ 31:=by omega
 have hmn:min ((m:Int) + 1) ((m:Int) + 1) = (m:Int) + 1:=by omega
 go_enter Tryz.func132,Tryz.ntmps132
 go_wp2_with (first
  | (at_builtin;refine wpList_append_own _ rfl _ _ 45 rfl base 5 i0 (.int .u8 0) 1 1 Tryz.underlying45 hi hz0 hz1 hz2 rfl (by decide) _ _ _ rfl (hown.alloc _) ⟨w.heap.size,0,none⟩ 1 1 [.int .u8 (g)] rfl rfl (cell_one_new _ _ _) (ints_oneCell .u8 [g]) (by unfold maxLen;omega) (by omega) (by simp;omega) ?_;intro v1 w1 hown1 hgrow1 hnil1;have s1:=Nat.le_trans hbase (World.grownBy.size ((World.grownBy_alloc w _ _).trans hgrow1));have hB1:=keepB hB hT hown hgrow1)
  | (at_builtin;refine wpList_append_own _ rfl _ _ 45 rfl base 5 i0 (.int .u8 0) 1 1 Tryz.underlying45 hi hz0 hz1 hz2 rfl (by decide) _ _ _ rfl (hown1.alloc _) ⟨w1.heap.size,0,none⟩ 1 1 [.int .u8 (46)] rfl rfl (cell_one_new _ _ _) (ints_oneCell .u8 [46]) (by unfold maxLen;omega) (by omega) (by simp;omega) ?_;intro v2 w2 hown2 hgrow2 hnil2;have s2:=Nat.le_trans s1 (World.grownBy.size ((World.grownBy_alloc w1 _ _).trans hgrow2));have hB2:=keepB hB1 hT hown1 hgrow2)
  | (at_builtin;refine wpList_append_own _ rfl _ _ 45 rfl base 5 i0 (.int .u8 0) 1 1 Tryz.underlying45 hi hz0 hz1 hz2 rfl (by decide) _ _ _ rfl hown2 ⟨B,1,none⟩ m 31 (ds.map (Value.int .u8)) (by first | rfl | (simp;omega)) (by simp [hl]) (row_at hB2 hds) (ints_oneCell .u8 ds) (by unfold maxLen;omega) (by omega) (by first | exact s2 | omega) ?_;intro v3 w3 hown3 hgrow3 hnil3;have s3:=Nat.le_trans s2 (World.grownBy.size hgrow3)))
 refine wp_loop_once ?_
 go_wp2_with (first
  | (at_builtin;refine wpList_append_own _ rfl _ _ 45 rfl base 5 i0 (.int .u8 0) 1 1 Tryz.underlying45 hi hz0 hz1 hz2 rfl (by decide) _ _ _ rfl (hown3.alloc _) ⟨w3.heap.size,0,none⟩ 1 1 [.int .u8 (101)] rfl rfl (cell_one_new _ _ _) (ints_oneCell .u8 [101]) (by unfold maxLen;omega) (by omega) (by simp;omega) ?_;intro v4 w4 hown4 hgrow4 hnil4;have s4:=Nat.le_trans s3 (World.grownBy.size ((World.grownBy_alloc w3 _ _).trans hgrow4)))
  | (at_builtin;refine wpList_append_own _ rfl _ _ 45 rfl base 5 i0 (.int .u8 0) 1 1 Tryz.underlying45 hi hz0 hz1 hz2 rfl (by decide) _ _ _ rfl (hown4.alloc _) ⟨w4.heap.size,0,none⟩ 1 1 [.int .u8 (45)] rfl rfl (cell_one_new _ _ _) (ints_oneCell .u8 [45]) (by unfold maxLen;omega) (by omega) (by simp;omega) ?_;intro v5 w5 hown5 hgrow5 hnil5;have s5:=Nat.le_trans s4 (World.grownBy.size ((World.grownBy_alloc w4 _ _).trans hgrow5)))
  | (at_builtin;refine wpList_append_own _ rfl _ _ 45 rfl base 5 i0 (.int .u8 0) 1 1 Tryz.underlying45 hi hz0 hz1 hz2 rfl (by decide) _ _ _ rfl (hown5.alloc _) ⟨w5.heap.size,0,none⟩ 2 2 [.int .u8 (48),.int .u8 (x + 48)] rfl rfl (cell_lit w5 [.int .u8 (48),.int .u8 (x + 48)] _) (ints_oneCell .u8 [48,x + 48]) (by unfold maxLen;omega) (by omega) (by simp;omega) ?_;intro v6 w6 hown6 hgrow6 hnil6;have s6:=Nat.le_trans s5 (World.grownBy.size ((World.grownBy_alloc w5 _ _).trans hgrow6))))
 go_ret
 refine ⟨_,rfl,?_,(((((step_below hbase hown hgrow1).trans (step_below s1 hown1 hgrow2)).trans (row_below s2 hown2 hgrow3)).trans (step_below s3 hown3 hgrow4)).trans (step_below s4 hown4 hgrow5)).trans (step_below s5 hown5 hgrow6)⟩
 refine own_as hown6 (by omega) ?_
 simp
end Go.Proofs.YtjlaoeigfokkiaaGreatDoor.fto
namespace Go.Proofs.YtjlaoeigfokkiaaGreatDoor.fto
open Go.ChangeShapes Go.WideShapes Go.ChangeAt Go.RowKit
open mem
open ints (hide unhide)
set_option linter.unusedVariables false
set_option maxHeartbeats 4000000 in
set_option maxRecDepth 100000 in
theorem efg_many_n2 (B base m:Nat) (v:Value) (g dp x:Int) (ds:List Int) (w:World) {arr:Array Value} {TB:TypeId} {fr:Nat × Nat} (hB:w.heap[B]? = some (.cells arr TB fr)) (hT:TB ≠ 5) (h0:arr[0]? = some (.int .u8 g)) (hds:∀ j u,(ds.map (Value.int .u8))[j]? = some u → arr[1 + j]? = some u) (hl:ds.length = m) (hm0:1 ≤ m) (hm1:m ≤ 31) (hown:w.ownsRow base 5 1 v 0 []) (hbase:base ≤ w.heap.size) (hx:-(dp - 1) = x) (hx1:10 ≤ x) (hx2:x ≤ 99) :
  Calls Tryz.prog 132 #[v,.bool false,.slice (some ⟨B,0,none⟩) 32 32,.int .i64 dp,.int .i64 ((m:Int) + 1),.int .i64 m,.int .u8 101,.bool true] w fun e w' => ∃ r,e = .returned r ∧ w'.ownsRow base 5 1 r (m + 6) ((g :: 46 :: (ds ++ [101,45,x / 10 + 48,x % 10 + 48])).map (Value.int .u8)) ∧ Below base w w':=by
 obtain ⟨i0,hi,hz0,hz1,hz2⟩:=info_parts info8
 have c0:=cell_at hB h0
 have hmi:(1:Int) ≤ m:=by omega
 have hmj:(m:Int) ≤ 31:=by omega
 have hmn:min ((m:Int) + 1) ((m:Int) + 1) = (m:Int) + 1:=by omega
 go_enter Tryz.func132,Tryz.ntmps132
 go_wp2_with (first
  | (at_builtin;refine wpList_append_own _ rfl _ _ 45 rfl base 5 i0 (.int .u8 0) 1 1 Tryz.underlying45 hi hz0 hz1 hz2 rfl (by decide) _ _ _ rfl (hown.alloc _) ⟨w.heap.size,0,none⟩ 1 1 [.int .u8 (g)] rfl rfl (cell_one_new _ _ _) (ints_oneCell .u8 [g]) (by unfold maxLen;omega) (by omega) (by simp;omega) ?_;intro v1 w1 hown1 hgrow1 hnil1;have s1:=Nat.le_trans hbase (World.grownBy.size ((World.grownBy_alloc w _ _).trans hgrow1));have hB1:=keepB hB hT hown hgrow1)
  | (at_builtin;refine wpList_append_own _ rfl _ _ 45 rfl base 5 i0 (.int .u8 0) 1 1 Tryz.underlying45 hi hz0 hz1 hz2 rfl (by decide) _ _ _ rfl (hown1.alloc _) ⟨w1.heap.size,0,none⟩ 1 1 [.int .u8 (46)] rfl rfl (cell_one_new _ _ _) (ints_oneCell .u8 [46]) (by unfold maxLen;omega) (by omega) (by simp;omega) ?_;intro v2 w2 hown2 hgrow2 hnil2;have s2:=Nat.le_trans s1 (World.grownBy.size ((World.grownBy_alloc w1 _ _).trans hgrow2));have hB2:=keepB hB1 hT hown1 hgrow2)
  | (at_builtin;refine wpList_append_own _ rfl _ _ 45 rfl base 5 i0 (.int .u8 0) 1 1 Tryz.underlying45 hi hz0 hz1 hz2 rfl (by decide) _ _ _ rfl hown2 ⟨B,1,none⟩ m 31 (ds.map (Value.int .u8)) (by first | rfl | (simp;omega)) (by simp [hl]) (row_at hB2 hds) (ints_oneCell .u8 ds) (by unfold maxLen;omega) (by omega) (by first | exact s2 | omega) ?_;intro v3 w3 hown3 hgrow3 hnil3;have s3:=Nat.le_trans s2 (World.grownBy.size hgrow3)))
 refine wp_loop_once ?_
 go_wp2_with (first
  | (at_builtin;refine wpList_append_own _ rfl _ _ 45 rfl base 5 i0 (.int .u8 0) 1 1 Tryz.underlying45 hi hz0 hz1 hz2 rfl (by decide) _ _ _ rfl (hown3.alloc _) ⟨w3.heap.size,0,none⟩ 1 1 [.int .u8 (101)] rfl rfl (cell_one_new _ _ _) (ints_oneCell .u8 [101]) (by unfold maxLen;omega) (by omega) (by simp;omega) ?_;intro v4 w4 hown4 hgrow4 hnil4;have s4:=Nat.le_trans s3 (World.grownBy.size ((World.grownBy_alloc w3 _ _).trans hgrow4)))
  | (at_builtin;refine wpList_append_own _ rfl _ _ 45 rfl base 5 i0 (.int .u8 0) 1 1 Tryz.underlying45 hi hz0 hz1 hz2 rfl (by decide) _ _ _ rfl (hown4.alloc _) ⟨w4.heap.size,0,none⟩ 1 1 [.int .u8 (45)] rfl rfl (cell_one_new _ _ _) (ints_oneCell .u8 [45]) (by unfold maxLen;omega) (by omega) (by simp;omega) ?_;intro v5 w5 hown5 hgrow5 hnil5;have s5:=Nat.le_trans s4 (World.grownBy.size ((World.grownBy_alloc w4 _ _).trans hgrow5)))
  | (at_builtin;refine wpList_append_own _ rfl _ _ 45 rfl base 5 i0 (.int .u8 0) 1 1 Tryz.underlying45 hi hz0 hz1 hz2 rfl (by decide) _ _ _ rfl (hown5.alloc _) ⟨w5.heap.size,0,none⟩ 2 2 [.int .u8 (x / 10 + 48),.int .u8 (x % 10 + 48)] rfl rfl (cell_lit w5 [.int .u8 (x / 10 + 48),.int .u8 (x % 10 + 48)] _) (ints_oneCell .u8 [x / 10 + 48,x % 10 + 48]) (by unfold maxLen;omega) (by omega) (by simp;omega) ?_;intro v6 w6 hown6 hgrow6 hnil6;have s6:=Nat.le_trans s5 (World.grownBy.size ((World.grownBy_alloc w5 _ _).trans hgrow6))))
 go_ret
 refine ⟨_,rfl,?_,(((((step_below hbase hown hgrow1).trans (step_below s1 hown1 hgrow2)).trans (row_below s2 hown2 hgrow3)).trans (step_below s3 hown3 hgrow4)).trans (step_below s4 hown4 hgrow5)).trans (step_below s5 hown5 hgrow6)⟩
 refine own_as hown6 (by omega) ?_
 simp
end Go.Proofs.YtjlaoeigfokkiaaGreatDoor.fto
namespace Go.Proofs.YtjlaoeigfokkiaaGreatDoor.fto
open Go.ChangeShapes Go.WideShapes Go.ChangeAt Go.RowKit
open mem
open ints (hide unhide)
set_option linter.unusedVariables false
set_option maxHeartbeats 4000000 in
set_option maxRecDepth 100000 in
theorem efg_many_n3 (B base m:Nat) (v:Value) (g dp x:Int) (ds:List Int) (w:World) {arr:Array Value} {TB:TypeId} {fr:Nat × Nat} (hB:w.heap[B]? = some (.cells arr TB fr)) (hT:TB ≠ 5) (h0:arr[0]? = some (.int .u8 g)) (hds:∀ j u,(ds.map (Value.int .u8))[j]? = some u → arr[1 + j]? = some u) (hl:ds.length = m) (hm0:1 ≤ m) (hm1:m ≤ 31) (hown:w.ownsRow base 5 1 v 0 []) (hbase:base ≤ w.heap.size) (hx:-(dp - 1) = x) (hx1:100 ≤ x) (hx2:x ≤ 400) :
  Calls Tryz.prog 132 #[v,.bool false,.slice (some ⟨B,0,none⟩) 32 32,.int .i64 dp,.int .i64 ((m:Int) + 1),.int .i64 m,.int .u8 101,.bool true] w fun e w' => ∃ r,e = .returned r ∧ w'.ownsRow base 5 1 r (m + 7) ((g :: 46 :: (ds ++ [101,45,x / 100 + 48,x / 10 % 10 + 48,x % 10 + 48])).map (Value.int .u8)) ∧ Below base w w':=by
 obtain ⟨i0,hi,hz0,hz1,hz2⟩:=info_parts info8
 have c0:=cell_at hB h0
 have hmi:(1:Int) ≤ m:=by omega
 have hmj:(m:Int) ≤ 31:=by omega
 have hmn:min ((m:Int) + 1) ((m:Int) + 1) = (m:Int) + 1:=by omega
 go_enter Tryz.func132,Tryz.ntmps132
 go_wp2_with (first
  | (at_builtin;refine wpList_append_own _ rfl _ _ 45 rfl base 5 i0 (.int .u8 0) 1 1 Tryz.underlying45 hi hz0 hz1 hz2 rfl (by decide) _ _ _ rfl (hown.alloc _) ⟨w.heap.size,0,none⟩ 1 1 [.int .u8 (g)] rfl rfl (cell_one_new _ _ _) (ints_oneCell .u8 [g]) (by unfold maxLen;omega) (by omega) (by simp;omega) ?_;intro v1 w1 hown1 hgrow1 hnil1;have s1:=Nat.le_trans hbase (World.grownBy.size ((World.grownBy_alloc w _ _).trans hgrow1));have hB1:=keepB hB hT hown hgrow1)
  | (at_builtin;refine wpList_append_own _ rfl _ _ 45 rfl base 5 i0 (.int .u8 0) 1 1 Tryz.underlying45 hi hz0 hz1 hz2 rfl (by decide) _ _ _ rfl (hown1.alloc _) ⟨w1.heap.size,0,none⟩ 1 1 [.int .u8 (46)] rfl rfl (cell_one_new _ _ _) (ints_oneCell .u8 [46]) (by unfold maxLen;omega) (by omega) (by simp;omega) ?_;intro v2 w2 hown2 hgrow2 hnil2;have s2:=Nat.le_trans s1 (World.grownBy.size ((World.grownBy_alloc w1 _ _).trans hgrow2));have hB2:=keepB hB1 hT hown1 hgrow2)
  | (at_builtin;refine wpList_append_own _ rfl _ _ 45 rfl base 5 i0 (.int .u8 0) 1 1 Tryz.underlying45 hi hz0 hz1 hz2 rfl (by decide) _ _ _ rfl hown2 ⟨B,1,none⟩ m 31 (ds.map (Value.int .u8)) (by first | rfl | (simp;omega)) (by simp [hl]) (row_at hB2 hds) (ints_oneCell .u8 ds) (by unfold maxLen;omega) (by omega) (by first | exact s2 | omega) ?_;intro v3 w3 hown3 hgrow3 hnil3;have s3:=Nat.le_trans s2 (World.grownBy.size hgrow3)))
 refine wp_loop_once ?_
 go_wp2_with (first
  | (at_builtin;refine wpList_append_own _ rfl _ _ 45 rfl base 5 i0 (.int .u8 0) 1 1 Tryz.underlying45 hi hz0 hz1 hz2 rfl (by decide) _ _ _ rfl (hown3.alloc _) ⟨w3.heap.size,0,none⟩ 1 1 [.int .u8 (101)] rfl rfl (cell_one_new _ _ _) (ints_oneCell .u8 [101]) (by unfold maxLen;omega) (by omega) (by simp;omega) ?_;intro v4 w4 hown4 hgrow4 hnil4;have s4:=Nat.le_trans s3 (World.grownBy.size ((World.grownBy_alloc w3 _ _).trans hgrow4)))
  | (at_builtin;refine wpList_append_own _ rfl _ _ 45 rfl base 5 i0 (.int .u8 0) 1 1 Tryz.underlying45 hi hz0 hz1 hz2 rfl (by decide) _ _ _ rfl (hown4.alloc _) ⟨w4.heap.size,0,none⟩ 1 1 [.int .u8 (45)] rfl rfl (cell_one_new _ _ _) (ints_oneCell .u8 [45]) (by unfold maxLen;omega) (by omega) (by simp;omega) ?_;intro v5 w5 hown5 hgrow5 hnil5;have s5:=Nat.le_trans s4 (World.grownBy.size ((World.grownBy_alloc w4 _ _).trans hgrow5)))
  | (at_builtin;refine wpList_append_own _ rfl _ _ 45 rfl base 5 i0 (.int .u8 0) 1 1 Tryz.underlying45 hi hz0 hz1 hz2 rfl (by decide) _ _ _ rfl (hown5.alloc _) ⟨w5.heap.size,0,none⟩ 3 3 [.int .u8 (x / 100 + 48),.int .u8 (x / 10 % 10 + 48),.int .u8 (x % 10 + 48)] rfl rfl (cell_lit w5 [.int .u8 (x / 100 + 48),.int .u8 (x / 10 % 10 + 48),.int .u8 (x % 10 + 48)] _) (ints_oneCell .u8 [x / 100 + 48,x / 10 % 10 + 48,x % 10 + 48]) (by unfold maxLen;omega) (by omega) (by simp;omega) ?_;intro v6 w6 hown6 hgrow6 hnil6;have s6:=Nat.le_trans s5 (World.grownBy.size ((World.grownBy_alloc w5 _ _).trans hgrow6))))
 go_ret
 refine ⟨_,rfl,?_,(((((step_below hbase hown hgrow1).trans (step_below s1 hown1 hgrow2)).trans (row_below s2 hown2 hgrow3)).trans (step_below s3 hown3 hgrow4)).trans (step_below s4 hown4 hgrow5)).trans (step_below s5 hown5 hgrow6)⟩
 refine own_as hown6 (by omega) ?_
 simp
end Go.Proofs.YtjlaoeigfokkiaaGreatDoor.fto
namespace Go.Proofs.YtjlaoeigfokkiaaGreatDoor.fto
open Go.ChangeShapes Go.WideShapes Go.ChangeAt Go.RowKit
open mem
set_option linter.unusedVariables false
def eDig (x:Int):List Int:=if x < 10 then [48,x + 48] else if x < 100 then [x / 10 + 48,x % 10 + 48] else [x / 100 + 48,x / 10 % 10 + 48,x % 10 + 48]
def eTail (dp:Int):List Int:=if 0 ≤ dp - 1 then 43 :: eDig (dp - 1) else 45 :: eDig (-(dp - 1))
def eTxt (g:Int) (ds:List Int) (dp:Int):List Int:=(if ds = [] then [g] else g :: 46 :: ds) ++ 101 :: eTail dp
theorem efg_ok (B base m:Nat) (v:Value) (g dp:Int) (ds:List Int) (w:World) {arr:Array Value} {TB:TypeId} {fr:Nat × Nat} (hB:w.heap[B]? = some (.cells arr TB fr)) (hT:TB ≠ 5) (h0:arr[0]? = some (.int .u8 g)) (hds:∀ j u,(ds.map (Value.int .u8))[j]? = some u → arr[1 + j]? = some u) (hl:ds.length = m) (hm1:m ≤ 31) (hown:w.ownsRow base 5 1 v 0 []) (hbase:base ≤ w.heap.size) (hx1:-399 ≤ dp) (hx2:dp ≤ 401) :
  Calls Tryz.prog 132 #[v,.bool false,.slice (some ⟨B,0,none⟩) 32 32,.int .i64 dp,.int .i64 ((m:Int) + 1),.int .i64 m,.int .u8 101,.bool true] w fun e w' => ∃ r,e = .returned r ∧ w'.ownsRow base 5 1 r (eTxt g ds dp).length ((eTxt g ds dp).map (Value.int .u8)) ∧ Below base w w':=by
 rcases Nat.eq_zero_or_pos m with h | h
 ·subst h
  have hd:ds = []:=List.eq_nil_of_length_eq_zero hl
  subst hd
  have e1:(((0:Nat):Int)) + 1 = 1:=rfl
  have e2:(((0:Nat):Int)) = 0:=rfl
  rw [e1,e2]
  have c0:=cell_at hB h0
  by_cases q0:0 ≤ dp - 1
  ·by_cases q1:dp - 1 < 10
   ·(have hE:eTail dp = 43 :: [48,dp - 1 + 48]:=(by unfold eTail eDig;rw [if_pos q0,if_pos q1]);refine (efg_one_p1 B base v g dp _ w c0 hown hbase rfl (by omega) (by omega)).mono ?_;rintro e w' ⟨r,rfl,h1,b1⟩;exact ⟨r,rfl,own_as h1 (by simp [eTxt,hE]) (by simp [eTxt,hE]),b1⟩)
   ·by_cases q2:dp - 1 < 100
    ·(have hE:eTail dp = 43 :: [(dp - 1) / 10 + 48,(dp - 1) % 10 + 48]:=(by unfold eTail eDig;rw [if_pos q0,if_neg q1,if_pos q2]);refine (efg_one_p2 B base v g dp _ w c0 hown hbase rfl (by omega) (by omega)).mono ?_;rintro e w' ⟨r,rfl,h1,b1⟩;exact ⟨r,rfl,own_as h1 (by simp [eTxt,hE]) (by simp [eTxt,hE]),b1⟩)
    ·(have hE:eTail dp = 43 :: [(dp - 1) / 100 + 48,(dp - 1) / 10 % 10 + 48,(dp - 1) % 10 + 48]:=(by unfold eTail eDig;rw [if_pos q0,if_neg q1,if_neg q2]);refine (efg_one_p3 B base v g dp _ w c0 hown hbase rfl (by omega) (by omega)).mono ?_;rintro e w' ⟨r,rfl,h1,b1⟩;exact ⟨r,rfl,own_as h1 (by simp [eTxt,hE]) (by simp [eTxt,hE]),b1⟩)
  ·by_cases q1:-(dp - 1) < 10
   ·(have hE:eTail dp = 45 :: [48,-(dp - 1) + 48]:=(by unfold eTail eDig;rw [if_neg q0,if_pos q1]);refine (efg_one_n1 B base v g dp _ w c0 hown hbase rfl (by omega) (by omega)).mono ?_;rintro e w' ⟨r,rfl,h1,b1⟩;exact ⟨r,rfl,own_as h1 (by simp [eTxt,hE]) (by simp [eTxt,hE]),b1⟩)
   ·by_cases q2:-(dp - 1) < 100
    ·(have hE:eTail dp = 45 :: [(-(dp - 1)) / 10 + 48,(-(dp - 1)) % 10 + 48]:=(by unfold eTail eDig;rw [if_neg q0,if_neg q1,if_pos q2]);refine (efg_one_n2 B base v g dp _ w c0 hown hbase rfl (by omega) (by omega)).mono ?_;rintro e w' ⟨r,rfl,h1,b1⟩;exact ⟨r,rfl,own_as h1 (by simp [eTxt,hE]) (by simp [eTxt,hE]),b1⟩)
    ·(have hE:eTail dp = 45 :: [(-(dp - 1)) / 100 + 48,(-(dp - 1)) / 10 % 10 + 48,(-(dp - 1)) % 10 + 48]:=(by unfold eTail eDig;rw [if_neg q0,if_neg q1,if_neg q2]);refine (efg_one_n3 B base v g dp _ w c0 hown hbase rfl (by omega) (by omega)).mono ?_;rintro e w' ⟨r,rfl,h1,b1⟩;exact ⟨r,rfl,own_as h1 (by simp [eTxt,hE]) (by simp [eTxt,hE]),b1⟩)
 ·have hd:ds ≠ []:=fun e => by rw [e] at hl;simp at hl;omega
  by_cases q0:0 ≤ dp - 1
  ·by_cases q1:dp - 1 < 10
   ·(have hE:eTail dp = 43 :: [48,dp - 1 + 48]:=(by unfold eTail eDig;rw [if_pos q0,if_pos q1]);refine (efg_many_p1 B base m v g dp _ ds w hB hT h0 hds hl h hm1 hown hbase rfl (by omega) (by omega)).mono ?_;rintro e w' ⟨r,rfl,h1,b1⟩;exact ⟨r,rfl,own_as h1 (by simp [eTxt,hE,hd,hl]) (by simp [eTxt,hE,hd]),b1⟩)
   ·by_cases q2:dp - 1 < 100
    ·(have hE:eTail dp = 43 :: [(dp - 1) / 10 + 48,(dp - 1) % 10 + 48]:=(by unfold eTail eDig;rw [if_pos q0,if_neg q1,if_pos q2]);refine (efg_many_p2 B base m v g dp _ ds w hB hT h0 hds hl h hm1 hown hbase rfl (by omega) (by omega)).mono ?_;rintro e w' ⟨r,rfl,h1,b1⟩;exact ⟨r,rfl,own_as h1 (by simp [eTxt,hE,hd,hl]) (by simp [eTxt,hE,hd]),b1⟩)
    ·(have hE:eTail dp = 43 :: [(dp - 1) / 100 + 48,(dp - 1) / 10 % 10 + 48,(dp - 1) % 10 + 48]:=(by unfold eTail eDig;rw [if_pos q0,if_neg q1,if_neg q2]);refine (efg_many_p3 B base m v g dp _ ds w hB hT h0 hds hl h hm1 hown hbase rfl (by omega) (by omega)).mono ?_;rintro e w' ⟨r,rfl,h1,b1⟩;exact ⟨r,rfl,own_as h1 (by simp [eTxt,hE,hd,hl]) (by simp [eTxt,hE,hd]),b1⟩)
  ·by_cases q1:-(dp - 1) < 10
   ·(have hE:eTail dp = 45 :: [48,-(dp - 1) + 48]:=(by unfold eTail eDig;rw [if_neg q0,if_pos q1]);refine (efg_many_n1 B base m v g dp _ ds w hB hT h0 hds hl h hm1 hown hbase rfl (by omega) (by omega)).mono ?_;rintro e w' ⟨r,rfl,h1,b1⟩;exact ⟨r,rfl,own_as h1 (by simp [eTxt,hE,hd,hl]) (by simp [eTxt,hE,hd]),b1⟩)
   ·by_cases q2:-(dp - 1) < 100
    ·(have hE:eTail dp = 45 :: [(-(dp - 1)) / 10 + 48,(-(dp - 1)) % 10 + 48]:=(by unfold eTail eDig;rw [if_neg q0,if_neg q1,if_pos q2]);refine (efg_many_n2 B base m v g dp _ ds w hB hT h0 hds hl h hm1 hown hbase rfl (by omega) (by omega)).mono ?_;rintro e w' ⟨r,rfl,h1,b1⟩;exact ⟨r,rfl,own_as h1 (by simp [eTxt,hE,hd,hl]) (by simp [eTxt,hE,hd]),b1⟩)
    ·(have hE:eTail dp = 45 :: [(-(dp - 1)) / 100 + 48,(-(dp - 1)) / 10 % 10 + 48,(-(dp - 1)) % 10 + 48]:=(by unfold eTail eDig;rw [if_neg q0,if_neg q1,if_neg q2]);refine (efg_many_n3 B base m v g dp _ ds w hB hT h0 hds hl h hm1 hown hbase rfl (by omega) (by omega)).mono ?_;rintro e w' ⟨r,rfl,h1,b1⟩;exact ⟨r,rfl,own_as h1 (by simp [eTxt,hE,hd,hl]) (by simp [eTxt,hE,hd]),b1⟩)
end Go.Proofs.YtjlaoeigfokkiaaGreatDoor.fto
namespace Go.Proofs.YtjlaoeigfokkiaaGreatDoor.rgn
set_option linter.unusedVariables false
variable {P:Program} {md:Region.Mode} {ops:Array Oper} {Q:Exit → Act → World → Prop} {S:World → Prop}
universe u
theorem _root_.Go.Proofs.YtjlaoeigfokkiaaGreatDoor.zA {A:Type u} {xs:List A} {i:Nat} (h:i < xs.toArray.size):xs.toArray[i] = xs[i]'(by simpa using h):=List.getElem_toArray h
theorem _root_.Go.Proofs.YtjlaoeigfokkiaaGreatDoor.zB {A:Type u} (a:A) (r:List A) (h:0 < (a :: r).length):(a :: r)[0] = a:=List.getElem_cons_zero a r h
theorem _root_.Go.Proofs.YtjlaoeigfokkiaaGreatDoor.zC {A:Type u} (a:A) (r:List A) (i:Nat) (h:i + 1 < (a :: r).length):(a :: r)[i + 1] = r[i]'(by simpa using h):=List.getElem_cons_succ a r i h
theorem _root_.Go.Proofs.YtjlaoeigfokkiaaGreatDoor.zD {A:Type u} (l:List A) (i:Nat) (a:A):l.toArray.setIfInBounds i a = (l.set i a).toArray:=List.setIfInBounds_toArray l i a
theorem _root_.Go.Proofs.YtjlaoeigfokkiaaGreatDoor.zE {A:Type u} {x:A} {xs:List A} {a:A}:(x :: xs).set 0 a = a :: xs:=List.set_cons_zero
theorem _root_.Go.Proofs.YtjlaoeigfokkiaaGreatDoor.zF {A:Type u} {x:A} {xs:List A} {i:Nat} {a:A}:(x :: xs).set (i + 1) a = x :: xs.set i a:=List.set_cons_succ
theorem tk {i fuel:Nat} {listed:Array Bool} {a:Act} {w:World} {o:Oper} {v:Value} (ho:ops[i]? = some o) (hk:(Region.noSelect ops && Region.free md ops listed i && (Region.ready md ops listed).contains i) = true)
 (hQ:∀ c a w,Q (.panic c) (a.put o.dst v) w → Q (.panic c) a w) (hy:YieldsIf P ops S o v a) (hS:S w)
 (h:wpAnyH P md ops Q S fuel (listed.setIfInBounds i true) (a.put o.dst v) w):wpAnyH P md ops Q S (fuel + 1) listed a w:=by
 simp only [Bool.and_eq_true] at hk
 exact wpAnyH_take ho hk.1.1 hk.1.2 hk.2 hQ hy hS h
theorem tl {i fuel:Nat} {listed:Array Bool} {a:Act} {w:World} {o:Oper} {v:Value} (ho:ops[i]? = some o) (hk:(Region.noSelect ops && Region.free md ops listed i && (Region.ready md ops listed).contains i) = true)
 (hQ:∀ c a w,Q (.panic c) (a.put o.dst v) w → Q (.panic c) a w) (hw:Region.wanted o (yielded ops a.tmps) = true) (hy:∀ w,S w → (execOp a.eval o).run P w = .ok (.value v) w) (hS:S w)
 (h:wpAnyH P md ops Q S fuel (listed.setIfInBounds i true) (a.put o.dst v) w):wpAnyH P md ops Q S (fuel + 1) listed a w:=tk ho hk hQ (.inl ⟨hw,hy⟩) hS h
theorem take {i fuel:Nat} {listed:Array Bool} {a:Act} {w:World} (o:Oper) (v:Value) (ho:ops[i]? = some o) (hs:Region.noSelect ops = true) (hf:Region.free md ops listed i = true) (hr:(Region.ready md ops listed).contains i = true)
  (hQ:∀ c a w,Q (.panic c) (a.put o.dst v) w → Q (.panic c) a w) (hw:Region.wanted o (yielded ops a.tmps) = true) (hS:S w) (hy:∀ w,S w → (execOp a.eval o).run P w = .ok (.value v) w)
  (h:wpAnyH P md ops Q S fuel (listed.setIfInBounds i true) (a.put o.dst v) w):wpAnyH P md ops Q S (fuel + 1) listed a w:=
 wpAnyH_take ho hs hf hr hQ (.inl ⟨hw,hy⟩) hS h
theorem one {i fuel:Nat} {listed:Array Bool} {a:Act} {w:World} (o:Oper) (ho:ops[i]? = some o) (hr:Region.ready md ops listed = [i]) (hw:Region.wanted o (yielded ops a.tmps) = true)
  (h:o.wp P a w (fun a' w' => S w' ∧ wpAnyH P md ops Q S fuel (listed.setIfInBounds i true) a' w') Q):wpAnyH P md ops Q S (fuel + 1) listed a w:=by
 refine wpAnyH_all hr (by simp) ?_
 intro j hj
 obtain rfl:j = i:=by simpa using hj
 unfold wpOp
 simp only [ho,hw,if_true]
 exact .inl h
theorem two {i j fuel:Nat} {listed:Array Bool} {a:Act} {w:World} (oi oj:Oper) (hi:ops[i]? = some oi) (hj:ops[j]? = some oj) (hr:Region.ready md ops listed = [i,j]) (wi:Region.wanted oi (yielded ops a.tmps) = true) (wj:Region.wanted oj (yielded ops a.tmps) = true)
  (h1:oi.wp P a w (fun a' w' => S w' ∧ wpAnyH P md ops Q S fuel (listed.setIfInBounds i true) a' w') Q)
  (h2:oj.wp P a w (fun a' w' => S w' ∧ wpAnyH P md ops Q S fuel (listed.setIfInBounds j true) a' w') Q):wpAnyH P md ops Q S (fuel + 1) listed a w:=by
 refine wpAnyH_all hr (by simp) ?_
 intro k hk
 rcases (by simpa using hk:k = i ∨ k = j) with rfl | rfl
 ·unfold wpOp
  simp only [hi,wi,if_true]
  exact .inl h1
 ·unfold wpOp
  simp only [hj,wj,if_true]
  exact .inl h2
theorem result_row_tmp {fn:Func} {p u:Tmp} {ty:TypeId} (h:fn.results = #[.cell p ty,.tmp u]) (tmps:Array Value) (w:World) (b o:Nat) (cs:List Value) (d:TypeDesc) (hp:tmps.getD p undef = .pointer (some ⟨b,o,none⟩)) (hc:w.rangeAt b o cs)
  (hu:P.underlying ty = some d) (hd:d.isRow = true) (hi:(P.info? ty).map (·.size) = some cs.length):(results fn tmps).run P w = .ok (.tuple #[.agg cs.toArray,tmps.getD u undef]) w:=by
 have:=run_loadVar_mid (P:=P) w b o ty cs d hc hu hd hi
 have hp':tmps[p]?.getD undef = .pointer (some ⟨b,o,none⟩):=by simpa using hp
 simp [results,h,hp',asAddr,this]
end Go.Proofs.YtjlaoeigfokkiaaGreatDoor.rgn
