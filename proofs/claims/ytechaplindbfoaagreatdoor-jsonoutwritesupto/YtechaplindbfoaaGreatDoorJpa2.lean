import Derived.Test.YtechaplindbfoaaGreatDoorJpa1
import Derived.Maps.AppendAt
import Derived.Deep.DeepMust
namespace Go.Proofs.YtechaplindbfoaaGreatDoor.fto
open Go.ChangeShapes Go.WideShapes Go.ChangeAt Go.RowKit
open mem
open ints (hide unhide)
set_option linter.unusedVariables false
theorem cell_lit (w : World) (xs : List Value) (t : TypeId) : ∀ j u, xs[j]? = some u → (w.alloc (.cells xs.toArray t)).cell? ((⟨w.heap.size, 0, none⟩ : Addr).add j) = some u := by
  intro j u hj
  rw [Addr.add_lit, World.cell?_alloc_mark]
  simpa using hj
theorem keepB {w w' : World} {B base n : Nat} {arr : Array Value} {TB : TypeId} {fr : Nat × Nat} {v : Value} {xs : List Value} {o : Obj} (hB : w.heap[B]? = some (.cells arr TB fr)) (hT : TB ≠ 5) (hown : w.ownsRow base 5 1 v n xs) (hg : (w.alloc o).grownBy w' v.ownBlock) : w'.heap[B]? = some (.cells arr TB fr) := by
  have hlt : B < w.heap.size := (Array.getElem?_eq_some_iff.1 hB).1
  rw [hg.block B (by simp; omega) (fun e => Lib.ownBlock_ne hown hB hT e.symm)]
  exact (Below.heap_alloc _ _ _ hlt).trans hB
theorem step_below {w w' : World} {base n : Nat} {v : Value} {xs : List Value} {o : Obj} (hb : base ≤ w.heap.size) (hown : w.ownsRow base 5 1 v n xs) (hg : (w.alloc o).grownBy w' v.ownBlock) : Below base w w' :=
  ((Below.refl _ _).alloc hb _).grown hg (by simp; omega) (fun k hk => (hown.lt k hk).1)
end Go.Proofs.YtechaplindbfoaaGreatDoor.fto
namespace Go.Proofs.YtechaplindbfoaaGreatDoor.fto
open Go.ChangeShapes Go.WideShapes Go.ChangeAt Go.RowKit
open mem
open ints (hide unhide)
set_option linter.unusedVariables false
set_option maxHeartbeats 4000000 in
set_option maxRecDepth 100000 in
theorem efg_one_p1 (B base : Nat) (v : Value) (g dp x : Int) (w : World) (c0 : w.cell? ⟨B, 0, none⟩ = some (.int .u8 g)) (hown : w.ownsRow base 5 1 v 0 []) (hbase : base ≤ w.heap.size) (hx : dp - 1 = x) (hx1 : 0 ≤ x) (hx2 : x ≤ 9) :
    Calls Tryz.prog 174 #[v, .bool false, .slice (some ⟨B, 0, none⟩) 32 32, .int .i64 dp, .int .i64 1, .int .i64 0, .int .u8 101, .bool true] w fun e w' => ∃ r, e = .returned r ∧ w'.ownsRow base 5 1 r 5 ([g, 101, 43, 48, x + 48].map (Value.int .u8)) ∧ Below base w w' := by
  obtain ⟨i0, hi, hz0, hz1, hz2⟩ := info_parts info8
  go_enter Tryz.func174, Tryz.ntmps174
  go_wp2_with (first
    | (at_builtin; refine wpList_append_own _ rfl _ _ 34 rfl base 5 i0 (.int .u8 0) 1 1 Tryz.underlying34 hi hz0 hz1 hz2 rfl (by decide) _ _ _ rfl (hown.alloc _) ⟨w.heap.size, 0, none⟩ 1 1 [.int .u8 (g)] rfl rfl (cell_one_new _ _ _) (ints_oneCell .u8 [g]) (by unfold maxLen; omega) (by omega) (by simp; omega) ?_; intro v1 w1 hown1 hgrow1 hnil1; have s1 := Nat.le_trans hbase (World.grownBy.size ((World.grownBy_alloc w _ _).trans hgrow1)))
    | (at_builtin; refine wpList_append_own _ rfl _ _ 34 rfl base 5 i0 (.int .u8 0) 1 1 Tryz.underlying34 hi hz0 hz1 hz2 rfl (by decide) _ _ _ rfl (hown1.alloc _) ⟨w1.heap.size, 0, none⟩ 1 1 [.int .u8 (101)] rfl rfl (cell_one_new _ _ _) (ints_oneCell .u8 [101]) (by unfold maxLen; omega) (by omega) (by simp; omega) ?_; intro v2 w2 hown2 hgrow2 hnil2; have s2 := Nat.le_trans s1 (World.grownBy.size ((World.grownBy_alloc w1 _ _).trans hgrow2)))
    | (at_builtin; refine wpList_append_own _ rfl _ _ 34 rfl base 5 i0 (.int .u8 0) 1 1 Tryz.underlying34 hi hz0 hz1 hz2 rfl (by decide) _ _ _ rfl (hown2.alloc _) ⟨w2.heap.size, 0, none⟩ 1 1 [.int .u8 (43)] rfl rfl (cell_one_new _ _ _) (ints_oneCell .u8 [43]) (by unfold maxLen; omega) (by omega) (by simp; omega) ?_; intro v3 w3 hown3 hgrow3 hnil3; have s3 := Nat.le_trans s2 (World.grownBy.size ((World.grownBy_alloc w2 _ _).trans hgrow3)))
    | (at_builtin; refine wpList_append_own _ rfl _ _ 34 rfl base 5 i0 (.int .u8 0) 1 1 Tryz.underlying34 hi hz0 hz1 hz2 rfl (by decide) _ _ _ rfl (hown3.alloc _) ⟨w3.heap.size, 0, none⟩ 2 2 [.int .u8 (48), .int .u8 (x + 48)] rfl rfl (cell_lit w3 [.int .u8 (48), .int .u8 (x + 48)] _) (ints_oneCell .u8 [48, x + 48]) (by unfold maxLen; omega) (by omega) (by simp; omega) ?_; intro v4 w4 hown4 hgrow4 hnil4; have s4 := Nat.le_trans s3 (World.grownBy.size ((World.grownBy_alloc w3 _ _).trans hgrow4))))
  go_ret
  exact ⟨_, rfl, hown4, (((step_below hbase hown hgrow1).trans (step_below s1 hown1 hgrow2)).trans (step_below s2 hown2 hgrow3)).trans (step_below s3 hown3 hgrow4)⟩
end Go.Proofs.YtechaplindbfoaaGreatDoor.fto
namespace Go.Proofs.YtechaplindbfoaaGreatDoor.fto
open Go.ChangeShapes Go.WideShapes Go.ChangeAt Go.RowKit
open mem
open ints (hide unhide)
set_option linter.unusedVariables false
set_option maxHeartbeats 4000000 in
set_option maxRecDepth 100000 in
theorem efg_one_p2 (B base : Nat) (v : Value) (g dp x : Int) (w : World) (c0 : w.cell? ⟨B, 0, none⟩ = some (.int .u8 g)) (hown : w.ownsRow base 5 1 v 0 []) (hbase : base ≤ w.heap.size) (hx : dp - 1 = x) (hx1 : 10 ≤ x) (hx2 : x ≤ 99) :
    Calls Tryz.prog 174 #[v, .bool false, .slice (some ⟨B, 0, none⟩) 32 32, .int .i64 dp, .int .i64 1, .int .i64 0, .int .u8 101, .bool true] w fun e w' => ∃ r, e = .returned r ∧ w'.ownsRow base 5 1 r 5 ([g, 101, 43, x / 10 + 48, x % 10 + 48].map (Value.int .u8)) ∧ Below base w w' := by
  obtain ⟨i0, hi, hz0, hz1, hz2⟩ := info_parts info8
  go_enter Tryz.func174, Tryz.ntmps174
  go_wp2_with (first
    | (at_builtin; refine wpList_append_own _ rfl _ _ 34 rfl base 5 i0 (.int .u8 0) 1 1 Tryz.underlying34 hi hz0 hz1 hz2 rfl (by decide) _ _ _ rfl (hown.alloc _) ⟨w.heap.size, 0, none⟩ 1 1 [.int .u8 (g)] rfl rfl (cell_one_new _ _ _) (ints_oneCell .u8 [g]) (by unfold maxLen; omega) (by omega) (by simp; omega) ?_; intro v1 w1 hown1 hgrow1 hnil1; have s1 := Nat.le_trans hbase (World.grownBy.size ((World.grownBy_alloc w _ _).trans hgrow1)))
    | (at_builtin; refine wpList_append_own _ rfl _ _ 34 rfl base 5 i0 (.int .u8 0) 1 1 Tryz.underlying34 hi hz0 hz1 hz2 rfl (by decide) _ _ _ rfl (hown1.alloc _) ⟨w1.heap.size, 0, none⟩ 1 1 [.int .u8 (101)] rfl rfl (cell_one_new _ _ _) (ints_oneCell .u8 [101]) (by unfold maxLen; omega) (by omega) (by simp; omega) ?_; intro v2 w2 hown2 hgrow2 hnil2; have s2 := Nat.le_trans s1 (World.grownBy.size ((World.grownBy_alloc w1 _ _).trans hgrow2)))
    | (at_builtin; refine wpList_append_own _ rfl _ _ 34 rfl base 5 i0 (.int .u8 0) 1 1 Tryz.underlying34 hi hz0 hz1 hz2 rfl (by decide) _ _ _ rfl (hown2.alloc _) ⟨w2.heap.size, 0, none⟩ 1 1 [.int .u8 (43)] rfl rfl (cell_one_new _ _ _) (ints_oneCell .u8 [43]) (by unfold maxLen; omega) (by omega) (by simp; omega) ?_; intro v3 w3 hown3 hgrow3 hnil3; have s3 := Nat.le_trans s2 (World.grownBy.size ((World.grownBy_alloc w2 _ _).trans hgrow3)))
    | (at_builtin; refine wpList_append_own _ rfl _ _ 34 rfl base 5 i0 (.int .u8 0) 1 1 Tryz.underlying34 hi hz0 hz1 hz2 rfl (by decide) _ _ _ rfl (hown3.alloc _) ⟨w3.heap.size, 0, none⟩ 2 2 [.int .u8 (x / 10 + 48), .int .u8 (x % 10 + 48)] rfl rfl (cell_lit w3 [.int .u8 (x / 10 + 48), .int .u8 (x % 10 + 48)] _) (ints_oneCell .u8 [x / 10 + 48, x % 10 + 48]) (by unfold maxLen; omega) (by omega) (by simp; omega) ?_; intro v4 w4 hown4 hgrow4 hnil4; have s4 := Nat.le_trans s3 (World.grownBy.size ((World.grownBy_alloc w3 _ _).trans hgrow4))))
  go_ret
  exact ⟨_, rfl, hown4, (((step_below hbase hown hgrow1).trans (step_below s1 hown1 hgrow2)).trans (step_below s2 hown2 hgrow3)).trans (step_below s3 hown3 hgrow4)⟩
end Go.Proofs.YtechaplindbfoaaGreatDoor.fto
namespace Go.Proofs.YtechaplindbfoaaGreatDoor.fto
open Go.ChangeShapes Go.WideShapes Go.ChangeAt Go.RowKit
open mem
open ints (hide unhide)
set_option linter.unusedVariables false
set_option maxHeartbeats 4000000 in
set_option maxRecDepth 100000 in
theorem efg_one_p3 (B base : Nat) (v : Value) (g dp x : Int) (w : World) (c0 : w.cell? ⟨B, 0, none⟩ = some (.int .u8 g)) (hown : w.ownsRow base 5 1 v 0 []) (hbase : base ≤ w.heap.size) (hx : dp - 1 = x) (hx1 : 100 ≤ x) (hx2 : x ≤ 400) :
    Calls Tryz.prog 174 #[v, .bool false, .slice (some ⟨B, 0, none⟩) 32 32, .int .i64 dp, .int .i64 1, .int .i64 0, .int .u8 101, .bool true] w fun e w' => ∃ r, e = .returned r ∧ w'.ownsRow base 5 1 r 6 ([g, 101, 43, x / 100 + 48, x / 10 % 10 + 48, x % 10 + 48].map (Value.int .u8)) ∧ Below base w w' := by
  obtain ⟨i0, hi, hz0, hz1, hz2⟩ := info_parts info8
  go_enter Tryz.func174, Tryz.ntmps174
  go_wp2_with (first
    | (at_builtin; refine wpList_append_own _ rfl _ _ 34 rfl base 5 i0 (.int .u8 0) 1 1 Tryz.underlying34 hi hz0 hz1 hz2 rfl (by decide) _ _ _ rfl (hown.alloc _) ⟨w.heap.size, 0, none⟩ 1 1 [.int .u8 (g)] rfl rfl (cell_one_new _ _ _) (ints_oneCell .u8 [g]) (by unfold maxLen; omega) (by omega) (by simp; omega) ?_; intro v1 w1 hown1 hgrow1 hnil1; have s1 := Nat.le_trans hbase (World.grownBy.size ((World.grownBy_alloc w _ _).trans hgrow1)))
    | (at_builtin; refine wpList_append_own _ rfl _ _ 34 rfl base 5 i0 (.int .u8 0) 1 1 Tryz.underlying34 hi hz0 hz1 hz2 rfl (by decide) _ _ _ rfl (hown1.alloc _) ⟨w1.heap.size, 0, none⟩ 1 1 [.int .u8 (101)] rfl rfl (cell_one_new _ _ _) (ints_oneCell .u8 [101]) (by unfold maxLen; omega) (by omega) (by simp; omega) ?_; intro v2 w2 hown2 hgrow2 hnil2; have s2 := Nat.le_trans s1 (World.grownBy.size ((World.grownBy_alloc w1 _ _).trans hgrow2)))
    | (at_builtin; refine wpList_append_own _ rfl _ _ 34 rfl base 5 i0 (.int .u8 0) 1 1 Tryz.underlying34 hi hz0 hz1 hz2 rfl (by decide) _ _ _ rfl (hown2.alloc _) ⟨w2.heap.size, 0, none⟩ 1 1 [.int .u8 (43)] rfl rfl (cell_one_new _ _ _) (ints_oneCell .u8 [43]) (by unfold maxLen; omega) (by omega) (by simp; omega) ?_; intro v3 w3 hown3 hgrow3 hnil3; have s3 := Nat.le_trans s2 (World.grownBy.size ((World.grownBy_alloc w2 _ _).trans hgrow3)))
    | (at_builtin; refine wpList_append_own _ rfl _ _ 34 rfl base 5 i0 (.int .u8 0) 1 1 Tryz.underlying34 hi hz0 hz1 hz2 rfl (by decide) _ _ _ rfl (hown3.alloc _) ⟨w3.heap.size, 0, none⟩ 3 3 [.int .u8 (x / 100 + 48), .int .u8 (x / 10 % 10 + 48), .int .u8 (x % 10 + 48)] rfl rfl (cell_lit w3 [.int .u8 (x / 100 + 48), .int .u8 (x / 10 % 10 + 48), .int .u8 (x % 10 + 48)] _) (ints_oneCell .u8 [x / 100 + 48, x / 10 % 10 + 48, x % 10 + 48]) (by unfold maxLen; omega) (by omega) (by simp; omega) ?_; intro v4 w4 hown4 hgrow4 hnil4; have s4 := Nat.le_trans s3 (World.grownBy.size ((World.grownBy_alloc w3 _ _).trans hgrow4))))
  go_ret
  exact ⟨_, rfl, hown4, (((step_below hbase hown hgrow1).trans (step_below s1 hown1 hgrow2)).trans (step_below s2 hown2 hgrow3)).trans (step_below s3 hown3 hgrow4)⟩
end Go.Proofs.YtechaplindbfoaaGreatDoor.fto
namespace Go.Proofs.YtechaplindbfoaaGreatDoor.fto
open Go.ChangeShapes Go.WideShapes Go.ChangeAt Go.RowKit
open mem
open ints (hide unhide)
set_option linter.unusedVariables false
set_option maxHeartbeats 4000000 in
set_option maxRecDepth 100000 in
theorem efg_one_n1 (B base : Nat) (v : Value) (g dp x : Int) (w : World) (c0 : w.cell? ⟨B, 0, none⟩ = some (.int .u8 g)) (hown : w.ownsRow base 5 1 v 0 []) (hbase : base ≤ w.heap.size) (hx : -(dp - 1) = x) (hx1 : 1 ≤ x) (hx2 : x ≤ 9) :
    Calls Tryz.prog 174 #[v, .bool false, .slice (some ⟨B, 0, none⟩) 32 32, .int .i64 dp, .int .i64 1, .int .i64 0, .int .u8 101, .bool true] w fun e w' => ∃ r, e = .returned r ∧ w'.ownsRow base 5 1 r 5 ([g, 101, 45, 48, x + 48].map (Value.int .u8)) ∧ Below base w w' := by
  obtain ⟨i0, hi, hz0, hz1, hz2⟩ := info_parts info8
  go_enter Tryz.func174, Tryz.ntmps174
  go_wp2_with (first
    | (at_builtin; refine wpList_append_own _ rfl _ _ 34 rfl base 5 i0 (.int .u8 0) 1 1 Tryz.underlying34 hi hz0 hz1 hz2 rfl (by decide) _ _ _ rfl (hown.alloc _) ⟨w.heap.size, 0, none⟩ 1 1 [.int .u8 (g)] rfl rfl (cell_one_new _ _ _) (ints_oneCell .u8 [g]) (by unfold maxLen; omega) (by omega) (by simp; omega) ?_; intro v1 w1 hown1 hgrow1 hnil1; have s1 := Nat.le_trans hbase (World.grownBy.size ((World.grownBy_alloc w _ _).trans hgrow1)))
    | (at_builtin; refine wpList_append_own _ rfl _ _ 34 rfl base 5 i0 (.int .u8 0) 1 1 Tryz.underlying34 hi hz0 hz1 hz2 rfl (by decide) _ _ _ rfl (hown1.alloc _) ⟨w1.heap.size, 0, none⟩ 1 1 [.int .u8 (101)] rfl rfl (cell_one_new _ _ _) (ints_oneCell .u8 [101]) (by unfold maxLen; omega) (by omega) (by simp; omega) ?_; intro v2 w2 hown2 hgrow2 hnil2; have s2 := Nat.le_trans s1 (World.grownBy.size ((World.grownBy_alloc w1 _ _).trans hgrow2)))
    | (at_builtin; refine wpList_append_own _ rfl _ _ 34 rfl base 5 i0 (.int .u8 0) 1 1 Tryz.underlying34 hi hz0 hz1 hz2 rfl (by decide) _ _ _ rfl (hown2.alloc _) ⟨w2.heap.size, 0, none⟩ 1 1 [.int .u8 (45)] rfl rfl (cell_one_new _ _ _) (ints_oneCell .u8 [45]) (by unfold maxLen; omega) (by omega) (by simp; omega) ?_; intro v3 w3 hown3 hgrow3 hnil3; have s3 := Nat.le_trans s2 (World.grownBy.size ((World.grownBy_alloc w2 _ _).trans hgrow3)))
    | (at_builtin; refine wpList_append_own _ rfl _ _ 34 rfl base 5 i0 (.int .u8 0) 1 1 Tryz.underlying34 hi hz0 hz1 hz2 rfl (by decide) _ _ _ rfl (hown3.alloc _) ⟨w3.heap.size, 0, none⟩ 2 2 [.int .u8 (48), .int .u8 (x + 48)] rfl rfl (cell_lit w3 [.int .u8 (48), .int .u8 (x + 48)] _) (ints_oneCell .u8 [48, x + 48]) (by unfold maxLen; omega) (by omega) (by simp; omega) ?_; intro v4 w4 hown4 hgrow4 hnil4; have s4 := Nat.le_trans s3 (World.grownBy.size ((World.grownBy_alloc w3 _ _).trans hgrow4))))
  go_ret
  exact ⟨_, rfl, hown4, (((step_below hbase hown hgrow1).trans (step_below s1 hown1 hgrow2)).trans (step_below s2 hown2 hgrow3)).trans (step_below s3 hown3 hgrow4)⟩
end Go.Proofs.YtechaplindbfoaaGreatDoor.fto
namespace Go.Proofs.YtechaplindbfoaaGreatDoor.fto
open Go.ChangeShapes Go.WideShapes Go.ChangeAt Go.RowKit
open mem
open ints (hide unhide)
set_option linter.unusedVariables false
set_option maxHeartbeats 4000000 in
set_option maxRecDepth 100000 in
theorem efg_one_n2 (B base : Nat) (v : Value) (g dp x : Int) (w : World) (c0 : w.cell? ⟨B, 0, none⟩ = some (.int .u8 g)) (hown : w.ownsRow base 5 1 v 0 []) (hbase : base ≤ w.heap.size) (hx : -(dp - 1) = x) (hx1 : 10 ≤ x) (hx2 : x ≤ 99) :
    Calls Tryz.prog 174 #[v, .bool false, .slice (some ⟨B, 0, none⟩) 32 32, .int .i64 dp, .int .i64 1, .int .i64 0, .int .u8 101, .bool true] w fun e w' => ∃ r, e = .returned r ∧ w'.ownsRow base 5 1 r 5 ([g, 101, 45, x / 10 + 48, x % 10 + 48].map (Value.int .u8)) ∧ Below base w w' := by
  obtain ⟨i0, hi, hz0, hz1, hz2⟩ := info_parts info8
  go_enter Tryz.func174, Tryz.ntmps174
  go_wp2_with (first
    | (at_builtin; refine wpList_append_own _ rfl _ _ 34 rfl base 5 i0 (.int .u8 0) 1 1 Tryz.underlying34 hi hz0 hz1 hz2 rfl (by decide) _ _ _ rfl (hown.alloc _) ⟨w.heap.size, 0, none⟩ 1 1 [.int .u8 (g)] rfl rfl (cell_one_new _ _ _) (ints_oneCell .u8 [g]) (by unfold maxLen; omega) (by omega) (by simp; omega) ?_; intro v1 w1 hown1 hgrow1 hnil1; have s1 := Nat.le_trans hbase (World.grownBy.size ((World.grownBy_alloc w _ _).trans hgrow1)))
    | (at_builtin; refine wpList_append_own _ rfl _ _ 34 rfl base 5 i0 (.int .u8 0) 1 1 Tryz.underlying34 hi hz0 hz1 hz2 rfl (by decide) _ _ _ rfl (hown1.alloc _) ⟨w1.heap.size, 0, none⟩ 1 1 [.int .u8 (101)] rfl rfl (cell_one_new _ _ _) (ints_oneCell .u8 [101]) (by unfold maxLen; omega) (by omega) (by simp; omega) ?_; intro v2 w2 hown2 hgrow2 hnil2; have s2 := Nat.le_trans s1 (World.grownBy.size ((World.grownBy_alloc w1 _ _).trans hgrow2)))
    | (at_builtin; refine wpList_append_own _ rfl _ _ 34 rfl base 5 i0 (.int .u8 0) 1 1 Tryz.underlying34 hi hz0 hz1 hz2 rfl (by decide) _ _ _ rfl (hown2.alloc _) ⟨w2.heap.size, 0, none⟩ 1 1 [.int .u8 (45)] rfl rfl (cell_one_new _ _ _) (ints_oneCell .u8 [45]) (by unfold maxLen; omega) (by omega) (by simp; omega) ?_; intro v3 w3 hown3 hgrow3 hnil3; have s3 := Nat.le_trans s2 (World.grownBy.size ((World.grownBy_alloc w2 _ _).trans hgrow3)))
    | (at_builtin; refine wpList_append_own _ rfl _ _ 34 rfl base 5 i0 (.int .u8 0) 1 1 Tryz.underlying34 hi hz0 hz1 hz2 rfl (by decide) _ _ _ rfl (hown3.alloc _) ⟨w3.heap.size, 0, none⟩ 2 2 [.int .u8 (x / 10 + 48), .int .u8 (x % 10 + 48)] rfl rfl (cell_lit w3 [.int .u8 (x / 10 + 48), .int .u8 (x % 10 + 48)] _) (ints_oneCell .u8 [x / 10 + 48, x % 10 + 48]) (by unfold maxLen; omega) (by omega) (by simp; omega) ?_; intro v4 w4 hown4 hgrow4 hnil4; have s4 := Nat.le_trans s3 (World.grownBy.size ((World.grownBy_alloc w3 _ _).trans hgrow4))))
  go_ret
  exact ⟨_, rfl, hown4, (((step_below hbase hown hgrow1).trans (step_below s1 hown1 hgrow2)).trans (step_below s2 hown2 hgrow3)).trans (step_below s3 hown3 hgrow4)⟩
end Go.Proofs.YtechaplindbfoaaGreatDoor.fto
namespace Go.Proofs.YtechaplindbfoaaGreatDoor.fto
open Go.ChangeShapes Go.WideShapes Go.ChangeAt Go.RowKit
open mem
open ints (hide unhide)
set_option linter.unusedVariables false
set_option maxHeartbeats 4000000 in
set_option maxRecDepth 100000 in
theorem efg_one_n3 (B base : Nat) (v : Value) (g dp x : Int) (w : World) (c0 : w.cell? ⟨B, 0, none⟩ = some (.int .u8 g)) (hown : w.ownsRow base 5 1 v 0 []) (hbase : base ≤ w.heap.size) (hx : -(dp - 1) = x) (hx1 : 100 ≤ x) (hx2 : x ≤ 400) :
    Calls Tryz.prog 174 #[v, .bool false, .slice (some ⟨B, 0, none⟩) 32 32, .int .i64 dp, .int .i64 1, .int .i64 0, .int .u8 101, .bool true] w fun e w' => ∃ r, e = .returned r ∧ w'.ownsRow base 5 1 r 6 ([g, 101, 45, x / 100 + 48, x / 10 % 10 + 48, x % 10 + 48].map (Value.int .u8)) ∧ Below base w w' := by
  obtain ⟨i0, hi, hz0, hz1, hz2⟩ := info_parts info8
  go_enter Tryz.func174, Tryz.ntmps174
  go_wp2_with (first
    | (at_builtin; refine wpList_append_own _ rfl _ _ 34 rfl base 5 i0 (.int .u8 0) 1 1 Tryz.underlying34 hi hz0 hz1 hz2 rfl (by decide) _ _ _ rfl (hown.alloc _) ⟨w.heap.size, 0, none⟩ 1 1 [.int .u8 (g)] rfl rfl (cell_one_new _ _ _) (ints_oneCell .u8 [g]) (by unfold maxLen; omega) (by omega) (by simp; omega) ?_; intro v1 w1 hown1 hgrow1 hnil1; have s1 := Nat.le_trans hbase (World.grownBy.size ((World.grownBy_alloc w _ _).trans hgrow1)))
    | (at_builtin; refine wpList_append_own _ rfl _ _ 34 rfl base 5 i0 (.int .u8 0) 1 1 Tryz.underlying34 hi hz0 hz1 hz2 rfl (by decide) _ _ _ rfl (hown1.alloc _) ⟨w1.heap.size, 0, none⟩ 1 1 [.int .u8 (101)] rfl rfl (cell_one_new _ _ _) (ints_oneCell .u8 [101]) (by unfold maxLen; omega) (by omega) (by simp; omega) ?_; intro v2 w2 hown2 hgrow2 hnil2; have s2 := Nat.le_trans s1 (World.grownBy.size ((World.grownBy_alloc w1 _ _).trans hgrow2)))
    | (at_builtin; refine wpList_append_own _ rfl _ _ 34 rfl base 5 i0 (.int .u8 0) 1 1 Tryz.underlying34 hi hz0 hz1 hz2 rfl (by decide) _ _ _ rfl (hown2.alloc _) ⟨w2.heap.size, 0, none⟩ 1 1 [.int .u8 (45)] rfl rfl (cell_one_new _ _ _) (ints_oneCell .u8 [45]) (by unfold maxLen; omega) (by omega) (by simp; omega) ?_; intro v3 w3 hown3 hgrow3 hnil3; have s3 := Nat.le_trans s2 (World.grownBy.size ((World.grownBy_alloc w2 _ _).trans hgrow3)))
    | (at_builtin; refine wpList_append_own _ rfl _ _ 34 rfl base 5 i0 (.int .u8 0) 1 1 Tryz.underlying34 hi hz0 hz1 hz2 rfl (by decide) _ _ _ rfl (hown3.alloc _) ⟨w3.heap.size, 0, none⟩ 3 3 [.int .u8 (x / 100 + 48), .int .u8 (x / 10 % 10 + 48), .int .u8 (x % 10 + 48)] rfl rfl (cell_lit w3 [.int .u8 (x / 100 + 48), .int .u8 (x / 10 % 10 + 48), .int .u8 (x % 10 + 48)] _) (ints_oneCell .u8 [x / 100 + 48, x / 10 % 10 + 48, x % 10 + 48]) (by unfold maxLen; omega) (by omega) (by simp; omega) ?_; intro v4 w4 hown4 hgrow4 hnil4; have s4 := Nat.le_trans s3 (World.grownBy.size ((World.grownBy_alloc w3 _ _).trans hgrow4))))
  go_ret
  exact ⟨_, rfl, hown4, (((step_below hbase hown hgrow1).trans (step_below s1 hown1 hgrow2)).trans (step_below s2 hown2 hgrow3)).trans (step_below s3 hown3 hgrow4)⟩
end Go.Proofs.YtechaplindbfoaaGreatDoor.fto
namespace Go.Proofs.YtechaplindbfoaaGreatDoor.fto
open Go.ChangeShapes Go.WideShapes Go.ChangeAt Go.RowKit
open mem
open ints (hide unhide)
set_option linter.unusedVariables false
theorem cell_at {w : World} {B j : Nat} {arr : Array Value} {TB : TypeId} {fr : Nat × Nat} {u : Value} (hB : w.heap[B]? = some (.cells arr TB fr)) (h : arr[j]? = some u) : w.cell? ⟨B, j, none⟩ = some u := by
  simp [World.cell?, hB, h]
theorem row_at {w : World} {B : Nat} {arr : Array Value} {TB : TypeId} {fr : Nat × Nat} {xs : List Value} (hB : w.heap[B]? = some (.cells arr TB fr)) (h : ∀ j u, xs[j]? = some u → arr[1 + j]? = some u) : ∀ j u, xs[j]? = some u → w.cell? ((⟨B, 1, none⟩ : Addr).add j) = some u := by
  intro j u hj
  rw [Addr.add_lit]
  exact cell_at hB (h j u hj)
theorem row_below {w w' : World} {base n : Nat} {v : Value} {xs : List Value} (hb : base ≤ w.heap.size) (hown : w.ownsRow base 5 1 v n xs) (hg : w.grownBy w' v.ownBlock) : Below base w w' :=
  (Below.refl _ _).grown hg hb (fun k hk => (hown.lt k hk).1)
theorem own_as {w : World} {base n n' : Nat} {T : TypeId} {v : Value} {xs xs' : List Value} (h : w.ownsRow base T 1 v n xs) (hn : n = n') (hx : xs = xs') : w.ownsRow base T 1 v n' xs' := by
  subst hn; subst hx; exact h
end Go.Proofs.YtechaplindbfoaaGreatDoor.fto
namespace Go.Proofs.YtechaplindbfoaaGreatDoor.fto
open Go.ChangeShapes Go.WideShapes Go.ChangeAt Go.RowKit
open mem
open ints (hide unhide)
set_option linter.unusedVariables false
set_option maxHeartbeats 4000000 in
set_option maxRecDepth 100000 in
theorem efg_many_p1 (B base m : Nat) (v : Value) (g dp x : Int) (ds : List Int) (w : World) {arr : Array Value} {TB : TypeId} {fr : Nat × Nat} (hB : w.heap[B]? = some (.cells arr TB fr)) (hT : TB ≠ 5) (h0 : arr[0]? = some (.int .u8 g)) (hds : ∀ j u, (ds.map (Value.int .u8))[j]? = some u → arr[1 + j]? = some u) (hl : ds.length = m) (hm0 : 1 ≤ m) (hm1 : m ≤ 31) (hown : w.ownsRow base 5 1 v 0 []) (hbase : base ≤ w.heap.size) (hx : dp - 1 = x) (hx1 : 0 ≤ x) (hx2 : x ≤ 9) :
    Calls Tryz.prog 174 #[v, .bool false, .slice (some ⟨B, 0, none⟩) 32 32, .int .i64 dp, .int .i64 ((m : Int) + 1), .int .i64 m, .int .u8 101, .bool true] w fun e w' => ∃ r, e = .returned r ∧ w'.ownsRow base 5 1 r (m + 6) ((g :: 46 :: (ds ++ [101, 43, 48, x + 48])).map (Value.int .u8)) ∧ Below base w w' := by
  obtain ⟨i0, hi, hz0, hz1, hz2⟩ := info_parts info8
  have c0 := cell_at hB h0
  have hmi : (1 : Int) ≤ m := by omega
  have hmj : (m : Int) ≤ 31 := by omega
  have hmn : min ((m : Int) + 1) ((m : Int) + 1) = (m : Int) + 1 := by omega
  go_enter Tryz.func174, Tryz.ntmps174
  go_wp2_with (first
    | (at_builtin; refine wpList_append_own _ rfl _ _ 34 rfl base 5 i0 (.int .u8 0) 1 1 Tryz.underlying34 hi hz0 hz1 hz2 rfl (by decide) _ _ _ rfl (hown.alloc _) ⟨w.heap.size, 0, none⟩ 1 1 [.int .u8 (g)] rfl rfl (cell_one_new _ _ _) (ints_oneCell .u8 [g]) (by unfold maxLen; omega) (by omega) (by simp; omega) ?_; intro v1 w1 hown1 hgrow1 hnil1; have s1 := Nat.le_trans hbase (World.grownBy.size ((World.grownBy_alloc w _ _).trans hgrow1)); have hB1 := keepB hB hT hown hgrow1)
    | (at_builtin; refine wpList_append_own _ rfl _ _ 34 rfl base 5 i0 (.int .u8 0) 1 1 Tryz.underlying34 hi hz0 hz1 hz2 rfl (by decide) _ _ _ rfl (hown1.alloc _) ⟨w1.heap.size, 0, none⟩ 1 1 [.int .u8 (46)] rfl rfl (cell_one_new _ _ _) (ints_oneCell .u8 [46]) (by unfold maxLen; omega) (by omega) (by simp; omega) ?_; intro v2 w2 hown2 hgrow2 hnil2; have s2 := Nat.le_trans s1 (World.grownBy.size ((World.grownBy_alloc w1 _ _).trans hgrow2)); have hB2 := keepB hB1 hT hown1 hgrow2)
    | (at_builtin; refine wpList_append_own _ rfl _ _ 34 rfl base 5 i0 (.int .u8 0) 1 1 Tryz.underlying34 hi hz0 hz1 hz2 rfl (by decide) _ _ _ rfl hown2 ⟨B, 1, none⟩ m 31 (ds.map (Value.int .u8)) (by first | rfl | (simp; omega)) (by simp [hl]) (row_at hB2 hds) (ints_oneCell .u8 ds) (by unfold maxLen; omega) (by omega) (by first | exact s2 | omega) ?_; intro v3 w3 hown3 hgrow3 hnil3; have s3 := Nat.le_trans s2 (World.grownBy.size hgrow3)))
  refine wp_loop_once ?_
  go_wp2_with (first
    | (at_builtin; refine wpList_append_own _ rfl _ _ 34 rfl base 5 i0 (.int .u8 0) 1 1 Tryz.underlying34 hi hz0 hz1 hz2 rfl (by decide) _ _ _ rfl (hown3.alloc _) ⟨w3.heap.size, 0, none⟩ 1 1 [.int .u8 (101)] rfl rfl (cell_one_new _ _ _) (ints_oneCell .u8 [101]) (by unfold maxLen; omega) (by omega) (by simp; omega) ?_; intro v4 w4 hown4 hgrow4 hnil4; have s4 := Nat.le_trans s3 (World.grownBy.size ((World.grownBy_alloc w3 _ _).trans hgrow4)))
    | (at_builtin; refine wpList_append_own _ rfl _ _ 34 rfl base 5 i0 (.int .u8 0) 1 1 Tryz.underlying34 hi hz0 hz1 hz2 rfl (by decide) _ _ _ rfl (hown4.alloc _) ⟨w4.heap.size, 0, none⟩ 1 1 [.int .u8 (43)] rfl rfl (cell_one_new _ _ _) (ints_oneCell .u8 [43]) (by unfold maxLen; omega) (by omega) (by simp; omega) ?_; intro v5 w5 hown5 hgrow5 hnil5; have s5 := Nat.le_trans s4 (World.grownBy.size ((World.grownBy_alloc w4 _ _).trans hgrow5)))
    | (at_builtin; refine wpList_append_own _ rfl _ _ 34 rfl base 5 i0 (.int .u8 0) 1 1 Tryz.underlying34 hi hz0 hz1 hz2 rfl (by decide) _ _ _ rfl (hown5.alloc _) ⟨w5.heap.size, 0, none⟩ 2 2 [.int .u8 (48), .int .u8 (x + 48)] rfl rfl (cell_lit w5 [.int .u8 (48), .int .u8 (x + 48)] _) (ints_oneCell .u8 [48, x + 48]) (by unfold maxLen; omega) (by omega) (by simp; omega) ?_; intro v6 w6 hown6 hgrow6 hnil6; have s6 := Nat.le_trans s5 (World.grownBy.size ((World.grownBy_alloc w5 _ _).trans hgrow6))))
  go_ret
  refine ⟨_, rfl, ?_, (((((step_below hbase hown hgrow1).trans (step_below s1 hown1 hgrow2)).trans (row_below s2 hown2 hgrow3)).trans (step_below s3 hown3 hgrow4)).trans (step_below s4 hown4 hgrow5)).trans (step_below s5 hown5 hgrow6)⟩
  refine own_as hown6 (by omega) ?_
  simp
end Go.Proofs.YtechaplindbfoaaGreatDoor.fto
