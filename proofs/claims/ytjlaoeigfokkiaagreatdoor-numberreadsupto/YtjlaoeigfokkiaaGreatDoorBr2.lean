import Derived.Test.YtjlaoeigfokkiaaGreatDoorBr1
import Derived.Maps.AppendAt
import Derived.Deep.DeepMust
namespace Go.Proofs.YtjlaoeigfokkiaaGreatDoor.fto
open Go.ChangeShapes Go.WideShapes Go.ChangeAt Go.RowKit
open mem Go.Sort
open ints (hide unhide)
set_option linter.unusedVariables false
def dgt (u nd j:Nat):Int:=((Lib.dg u (nd - 1 - j)).toNat:Int)
theorem drewN_cell (w:World) (n:Nat) (a:Addr):(w.drewN n).cell? a = w.cell? a:=rfl
def KT (B:Nat) (w w':World):Prop:=∀ arr TB fr,w.heap[B]? = some (.cells arr TB fr) → ∃ arr',w'.heap[B]? = some (.cells arr' TB fr)
theorem base10_ok (B u nd cap:Nat) (w:World) (hc:∀ j,j < nd → w.cell? ⟨B,j,none⟩ = some (.int .u8 0) ∧ w.frozen? ⟨B,j,none⟩ = false) (hu:u < 10 ^ nd) (hu64:u < 18446744073709551616) (hnd:nd ≤ 32) :
  Calls Tryz.prog 87 #[.slice (some ⟨B,0,none⟩) nd cap,.int .u64 u] w fun e w' => e = .returned (.tuple #[]) ∧ (∀ j,j < nd → w'.cell? ⟨B,j,none⟩ = some (.int .u8 (dgt u nd j))) ∧ Below B w w' ∧ KT B w w':=by
 have hH:Holds (fun (b:UInt8) => Value.int .u8 (b.toNat:Int)) w B 0 (Array.replicate nd 0):=by
  intro j hj
  have hj':j < nd:=by simpa using hj
  rw [Nat.zero_add]
  obtain ⟨h1,h2⟩:=hc j hj'
  refine ⟨?_,h2⟩
  rw [h1,getElem!_pos _ j hj]
  simp
 have hsz:(Array.replicate nd (0:UInt8)).size = nd:=by simp
 have h:=Tryz.internal_strconv_formatBase10 B 0 cap u (Array.replicate nd 0) w hH (by rw [hsz];exact hu) hu64 (by rw [hsz];omega)
 rw [hsz] at h
 refine h.mono ?_
 rintro e w' ⟨rfl,n,v',dk,rfl,hF⟩
 have hk:dk.size = nd:=hF.size
 refine ⟨rfl,fun j hj => ?_,?_,?_⟩
 ·rw [drewN_cell]
  have:=(holds_putRow (fun (b:UInt8) => Value.int .u8 (b.toNat:Int)) w B 0 _ dk hH (by rw [hsz,hk])) j (by omega)
  rw [Nat.zero_add] at this
  rw [this.1,hF.done j (Nat.zero_le _) hj]
  rfl
 ·have hb:Below B w (putRow (fun (b:UInt8) => Value.int .u8 (b.toNat:Int)) w B 0 dk):=⟨rfl,rfl,rfl,by simp,fun k hk => by simp [putRow,mapBlock,Array.getElem?_modify,show B ≠ k by omega]⟩
  exact below_drewN hb n
 ·intro arr TB fr hB
  exact ⟨_,by show (putRow _ w B 0 dk).heap[B]? = _;simp [putRow,mapBlock,Array.getElem?_modify,hB];rfl⟩
set_option maxHeartbeats 4000000 in
set_option maxRecDepth 100000 in
theorem setDigits_ok (B u nd:Nat) (p:Int) (w:World) (hp:-100000 ≤ p ∧ p ≤ 100000) (hc:∀ j,j < nd → w.cell? ⟨B,j,none⟩ = some (.int .u8 0) ∧ w.frozen? ⟨B,j,none⟩ = false) (hu:u < 10 ^ nd) (hu64:u < 18446744073709551616) (hnd:nd ≤ 32) :
  Calls Tryz.prog 134 #[.slice (some ⟨B,0,none⟩) 32 32,.int .u64 u,.int .i64 p,.int .i64 nd] w fun e w' => ∃ k:Nat,e = .returned (.tuple #[.int .i64 ((nd:Int) + p),.int .i64 k]) ∧ k ≤ nd ∧
   (∀ j,j < nd → w'.cell? ⟨B,j,none⟩ = some (.int .u8 (dgt u nd j))) ∧ (∀ j,k ≤ j → j < nd → dgt u nd j = 48) ∧ (k = 0 ∨ dgt u nd (k - 1) ≠ 48) ∧ Below B w w' ∧ KT B w w':=by
 have F:=hide (fun W h => base10_ok B u nd 32 W h hu hu64 hnd)
 have hcl:(nd:Int) ≤ 32:=by omega
 go_enter Tryz.func134,Tryz.ntmps134
 go_wp2_with fail
 refine (unhide F _ hc).mono ?_
 rintro e w1 ⟨rfl,hd,b1,kt⟩
 clear F
 have HD:=hide hd
 have KTh:=hide kt
 clear hc hd kt
 go_wp2_with fail
 go_loopw [3] (fun v wr => ∃ k:Nat,k ≤ nd ∧ v = .int .i64 k ∧ wr = w1 ∧ Hid (∀ j,k ≤ j → j < nd → dgt u nd j = 48)) (fun v _ => (intOf v).toNat)
 case atStart => exact ⟨nd,Nat.le_refl _,rfl,rfl,hide (fun j h1 h2 => by omega)⟩
 case round =>
  obtain ⟨k,hk,rfl,rfl,hz⟩:=hrel
  by_cases h0:k = 0
  ·subst h0
   go_wp2
   go_ret2
   exact ⟨0,rfl,Nat.zero_le _,unhide HD,unhide hz,.inl rfl,b1,unhide KTh⟩
  ·obtain ⟨q,rfl⟩:∃ q,k = q + 1:=⟨k - 1,by omega⟩
   have c:=unhide HD q (by omega)
   obtain ⟨g,hg⟩:∃ g,g = dgt u nd q:=⟨_,rfl⟩
   rw [← hg] at c
   have hq0:(0:Int) < (q:Int) + 1:=by omega
   by_cases h48:g = 48
   ·subst h48
    go_wp2
    refine ⟨⟨q,by omega,rfl,trivial,hide (fun j h1 h2 => ?_)⟩,?_⟩
    ·by_cases hj:j = q
     ·subst hj;exact hg.symm
     ·exact unhide hz j (by omega) h2
    ·simp only [intOf]
     omega
   ·have e48:(g == 48) = false:=by rw [beq_eq_false_iff_ne];exact h48
    have Hg:=hide hg
    clear hg
    go_wp2
    go_ret2
    exact ⟨q + 1,rfl,hk,unhide HD,unhide hz,.inr (by rw [Nat.add_sub_cancel,← unhide Hg];exact h48),b1,unhide KTh⟩
end Go.Proofs.YtjlaoeigfokkiaaGreatDoor.fto
namespace Go.Proofs.YtjlaoeigfokkiaaGreatDoor.fto
open Go.ChangeShapes Go.WideShapes Go.ChangeAt Go.RowKit
open mem
open ints (hide unhide)
set_option linter.unusedVariables false
theorem cell_lit (w:World) (xs:List Value) (t:TypeId):∀ j u,xs[j]? = some u → (w.alloc (.cells xs.toArray t)).cell? ((⟨w.heap.size,0,none⟩:Addr).add j) = some u:=by
 intro j u hj
 rw [Addr.add_lit,World.cell?_alloc_mark]
 simpa using hj
theorem keepB {w w':World} {B base n:Nat} {arr:Array Value} {TB:TypeId} {fr:Nat × Nat} {v:Value} {xs:List Value} {o:Obj} (hB:w.heap[B]? = some (.cells arr TB fr)) (hT:TB ≠ 5) (hown:w.ownsRow base 5 1 v n xs) (hg:(w.alloc o).grownBy w' v.ownBlock):w'.heap[B]? = some (.cells arr TB fr):=by
 have hlt:B < w.heap.size:=(Array.getElem?_eq_some_iff.1 hB).1
 rw [hg.block B (by simp;omega) (fun e => Lib.ownBlock_ne hown hB hT e.symm)]
 exact (Below.heap_alloc _ _ _ hlt).trans hB
theorem step_below {w w':World} {base n:Nat} {v:Value} {xs:List Value} {o:Obj} (hb:base ≤ w.heap.size) (hown:w.ownsRow base 5 1 v n xs) (hg:(w.alloc o).grownBy w' v.ownBlock):Below base w w':=
 ((Below.refl _ _).alloc hb _).grown hg (by simp;omega) (fun k hk => (hown.lt k hk).1)
end Go.Proofs.YtjlaoeigfokkiaaGreatDoor.fto
namespace Go.Proofs.YtjlaoeigfokkiaaGreatDoor.fto
open Go.ChangeShapes Go.WideShapes Go.ChangeAt Go.RowKit
open mem
open ints (hide unhide)
set_option linter.unusedVariables false
set_option maxHeartbeats 4000000 in
set_option maxRecDepth 100000 in
theorem efg_one_p1 (B base:Nat) (v:Value) (g dp x:Int) (w:World) (c0:w.cell? ⟨B,0,none⟩ = some (.int .u8 g)) (hown:w.ownsRow base 5 1 v 0 []) (hbase:base ≤ w.heap.size) (hx:dp - 1 = x) (hx1:0 ≤ x) (hx2:x ≤ 9) :
  Calls Tryz.prog 132 #[v,.bool false,.slice (some ⟨B,0,none⟩) 32 32,.int .i64 dp,.int .i64 1,.int .i64 0,.int .u8 101,.bool true] w fun e w' => ∃ r,e = .returned r ∧ w'.ownsRow base 5 1 r 5 ([g,101,43,48,x + 48].map (Value.int .u8)) ∧ Below base w w':=by
 obtain ⟨i0,hi,hz0,hz1,hz2⟩:=info_parts info8
 go_enter Tryz.func132,Tryz.ntmps132
 go_wp2_with (first
  | (at_builtin;refine wpList_append_own _ rfl _ _ 45 rfl base 5 i0 (.int .u8 0) 1 1 Tryz.underlying45 hi hz0 hz1 hz2 rfl (by decide) _ _ _ rfl (hown.alloc _) ⟨w.heap.size,0,none⟩ 1 1 [.int .u8 (g)] rfl rfl (cell_one_new _ _ _) (ints_oneCell .u8 [g]) (by unfold maxLen;omega) (by omega) (by simp;omega) ?_;intro v1 w1 hown1 hgrow1 hnil1;have s1:=Nat.le_trans hbase (World.grownBy.size ((World.grownBy_alloc w _ _).trans hgrow1)))
  | (at_builtin;refine wpList_append_own _ rfl _ _ 45 rfl base 5 i0 (.int .u8 0) 1 1 Tryz.underlying45 hi hz0 hz1 hz2 rfl (by decide) _ _ _ rfl (hown1.alloc _) ⟨w1.heap.size,0,none⟩ 1 1 [.int .u8 (101)] rfl rfl (cell_one_new _ _ _) (ints_oneCell .u8 [101]) (by unfold maxLen;omega) (by omega) (by simp;omega) ?_;intro v2 w2 hown2 hgrow2 hnil2;have s2:=Nat.le_trans s1 (World.grownBy.size ((World.grownBy_alloc w1 _ _).trans hgrow2)))
  | (at_builtin;refine wpList_append_own _ rfl _ _ 45 rfl base 5 i0 (.int .u8 0) 1 1 Tryz.underlying45 hi hz0 hz1 hz2 rfl (by decide) _ _ _ rfl (hown2.alloc _) ⟨w2.heap.size,0,none⟩ 1 1 [.int .u8 (43)] rfl rfl (cell_one_new _ _ _) (ints_oneCell .u8 [43]) (by unfold maxLen;omega) (by omega) (by simp;omega) ?_;intro v3 w3 hown3 hgrow3 hnil3;have s3:=Nat.le_trans s2 (World.grownBy.size ((World.grownBy_alloc w2 _ _).trans hgrow3)))
  | (at_builtin;refine wpList_append_own _ rfl _ _ 45 rfl base 5 i0 (.int .u8 0) 1 1 Tryz.underlying45 hi hz0 hz1 hz2 rfl (by decide) _ _ _ rfl (hown3.alloc _) ⟨w3.heap.size,0,none⟩ 2 2 [.int .u8 (48),.int .u8 (x + 48)] rfl rfl (cell_lit w3 [.int .u8 (48),.int .u8 (x + 48)] _) (ints_oneCell .u8 [48,x + 48]) (by unfold maxLen;omega) (by omega) (by simp;omega) ?_;intro v4 w4 hown4 hgrow4 hnil4;have s4:=Nat.le_trans s3 (World.grownBy.size ((World.grownBy_alloc w3 _ _).trans hgrow4))))
 go_ret
 exact ⟨_,rfl,hown4,(((step_below hbase hown hgrow1).trans (step_below s1 hown1 hgrow2)).trans (step_below s2 hown2 hgrow3)).trans (step_below s3 hown3 hgrow4)⟩
end Go.Proofs.YtjlaoeigfokkiaaGreatDoor.fto
namespace Go.Proofs.YtjlaoeigfokkiaaGreatDoor.fto
open Go.ChangeShapes Go.WideShapes Go.ChangeAt Go.RowKit
open mem
open ints (hide unhide)
set_option linter.unusedVariables false
set_option maxHeartbeats 4000000 in
set_option maxRecDepth 100000 in
theorem efg_one_p2 (B base:Nat) (v:Value) (g dp x:Int) (w:World) (c0:w.cell? ⟨B,0,none⟩ = some (.int .u8 g)) (hown:w.ownsRow base 5 1 v 0 []) (hbase:base ≤ w.heap.size) (hx:dp - 1 = x) (hx1:10 ≤ x) (hx2:x ≤ 99) :
  Calls Tryz.prog 132 #[v,.bool false,.slice (some ⟨B,0,none⟩) 32 32,.int .i64 dp,.int .i64 1,.int .i64 0,.int .u8 101,.bool true] w fun e w' => ∃ r,e = .returned r ∧ w'.ownsRow base 5 1 r 5 ([g,101,43,x / 10 + 48,x % 10 + 48].map (Value.int .u8)) ∧ Below base w w':=by
 obtain ⟨i0,hi,hz0,hz1,hz2⟩:=info_parts info8
 go_enter Tryz.func132,Tryz.ntmps132
 go_wp2_with (first
  | (at_builtin;refine wpList_append_own _ rfl _ _ 45 rfl base 5 i0 (.int .u8 0) 1 1 Tryz.underlying45 hi hz0 hz1 hz2 rfl (by decide) _ _ _ rfl (hown.alloc _) ⟨w.heap.size,0,none⟩ 1 1 [.int .u8 (g)] rfl rfl (cell_one_new _ _ _) (ints_oneCell .u8 [g]) (by unfold maxLen;omega) (by omega) (by simp;omega) ?_;intro v1 w1 hown1 hgrow1 hnil1;have s1:=Nat.le_trans hbase (World.grownBy.size ((World.grownBy_alloc w _ _).trans hgrow1)))
  | (at_builtin;refine wpList_append_own _ rfl _ _ 45 rfl base 5 i0 (.int .u8 0) 1 1 Tryz.underlying45 hi hz0 hz1 hz2 rfl (by decide) _ _ _ rfl (hown1.alloc _) ⟨w1.heap.size,0,none⟩ 1 1 [.int .u8 (101)] rfl rfl (cell_one_new _ _ _) (ints_oneCell .u8 [101]) (by unfold maxLen;omega) (by omega) (by simp;omega) ?_;intro v2 w2 hown2 hgrow2 hnil2;have s2:=Nat.le_trans s1 (World.grownBy.size ((World.grownBy_alloc w1 _ _).trans hgrow2)))
  | (at_builtin;refine wpList_append_own _ rfl _ _ 45 rfl base 5 i0 (.int .u8 0) 1 1 Tryz.underlying45 hi hz0 hz1 hz2 rfl (by decide) _ _ _ rfl (hown2.alloc _) ⟨w2.heap.size,0,none⟩ 1 1 [.int .u8 (43)] rfl rfl (cell_one_new _ _ _) (ints_oneCell .u8 [43]) (by unfold maxLen;omega) (by omega) (by simp;omega) ?_;intro v3 w3 hown3 hgrow3 hnil3;have s3:=Nat.le_trans s2 (World.grownBy.size ((World.grownBy_alloc w2 _ _).trans hgrow3)))
  | (at_builtin;refine wpList_append_own _ rfl _ _ 45 rfl base 5 i0 (.int .u8 0) 1 1 Tryz.underlying45 hi hz0 hz1 hz2 rfl (by decide) _ _ _ rfl (hown3.alloc _) ⟨w3.heap.size,0,none⟩ 2 2 [.int .u8 (x / 10 + 48),.int .u8 (x % 10 + 48)] rfl rfl (cell_lit w3 [.int .u8 (x / 10 + 48),.int .u8 (x % 10 + 48)] _) (ints_oneCell .u8 [x / 10 + 48,x % 10 + 48]) (by unfold maxLen;omega) (by omega) (by simp;omega) ?_;intro v4 w4 hown4 hgrow4 hnil4;have s4:=Nat.le_trans s3 (World.grownBy.size ((World.grownBy_alloc w3 _ _).trans hgrow4))))
 go_ret
 exact ⟨_,rfl,hown4,(((step_below hbase hown hgrow1).trans (step_below s1 hown1 hgrow2)).trans (step_below s2 hown2 hgrow3)).trans (step_below s3 hown3 hgrow4)⟩
end Go.Proofs.YtjlaoeigfokkiaaGreatDoor.fto
namespace Go.Proofs.YtjlaoeigfokkiaaGreatDoor.fto
open Go.ChangeShapes Go.WideShapes Go.ChangeAt Go.RowKit
open mem
open ints (hide unhide)
set_option linter.unusedVariables false
set_option maxHeartbeats 4000000 in
set_option maxRecDepth 100000 in
theorem efg_one_p3 (B base:Nat) (v:Value) (g dp x:Int) (w:World) (c0:w.cell? ⟨B,0,none⟩ = some (.int .u8 g)) (hown:w.ownsRow base 5 1 v 0 []) (hbase:base ≤ w.heap.size) (hx:dp - 1 = x) (hx1:100 ≤ x) (hx2:x ≤ 400) :
  Calls Tryz.prog 132 #[v,.bool false,.slice (some ⟨B,0,none⟩) 32 32,.int .i64 dp,.int .i64 1,.int .i64 0,.int .u8 101,.bool true] w fun e w' => ∃ r,e = .returned r ∧ w'.ownsRow base 5 1 r 6 ([g,101,43,x / 100 + 48,x / 10 % 10 + 48,x % 10 + 48].map (Value.int .u8)) ∧ Below base w w':=by
 obtain ⟨i0,hi,hz0,hz1,hz2⟩:=info_parts info8
 go_enter Tryz.func132,Tryz.ntmps132
 go_wp2_with (first
  | (at_builtin;refine wpList_append_own _ rfl _ _ 45 rfl base 5 i0 (.int .u8 0) 1 1 Tryz.underlying45 hi hz0 hz1 hz2 rfl (by decide) _ _ _ rfl (hown.alloc _) ⟨w.heap.size,0,none⟩ 1 1 [.int .u8 (g)] rfl rfl (cell_one_new _ _ _) (ints_oneCell .u8 [g]) (by unfold maxLen;omega) (by omega) (by simp;omega) ?_;intro v1 w1 hown1 hgrow1 hnil1;have s1:=Nat.le_trans hbase (World.grownBy.size ((World.grownBy_alloc w _ _).trans hgrow1)))
  | (at_builtin;refine wpList_append_own _ rfl _ _ 45 rfl base 5 i0 (.int .u8 0) 1 1 Tryz.underlying45 hi hz0 hz1 hz2 rfl (by decide) _ _ _ rfl (hown1.alloc _) ⟨w1.heap.size,0,none⟩ 1 1 [.int .u8 (101)] rfl rfl (cell_one_new _ _ _) (ints_oneCell .u8 [101]) (by unfold maxLen;omega) (by omega) (by simp;omega) ?_;intro v2 w2 hown2 hgrow2 hnil2;have s2:=Nat.le_trans s1 (World.grownBy.size ((World.grownBy_alloc w1 _ _).trans hgrow2)))
  | (at_builtin;refine wpList_append_own _ rfl _ _ 45 rfl base 5 i0 (.int .u8 0) 1 1 Tryz.underlying45 hi hz0 hz1 hz2 rfl (by decide) _ _ _ rfl (hown2.alloc _) ⟨w2.heap.size,0,none⟩ 1 1 [.int .u8 (43)] rfl rfl (cell_one_new _ _ _) (ints_oneCell .u8 [43]) (by unfold maxLen;omega) (by omega) (by simp;omega) ?_;intro v3 w3 hown3 hgrow3 hnil3;have s3:=Nat.le_trans s2 (World.grownBy.size ((World.grownBy_alloc w2 _ _).trans hgrow3)))
  | (at_builtin;refine wpList_append_own _ rfl _ _ 45 rfl base 5 i0 (.int .u8 0) 1 1 Tryz.underlying45 hi hz0 hz1 hz2 rfl (by decide) _ _ _ rfl (hown3.alloc _) ⟨w3.heap.size,0,none⟩ 3 3 [.int .u8 (x / 100 + 48),.int .u8 (x / 10 % 10 + 48),.int .u8 (x % 10 + 48)] rfl rfl (cell_lit w3 [.int .u8 (x / 100 + 48),.int .u8 (x / 10 % 10 + 48),.int .u8 (x % 10 + 48)] _) (ints_oneCell .u8 [x / 100 + 48,x / 10 % 10 + 48,x % 10 + 48]) (by unfold maxLen;omega) (by omega) (by simp;omega) ?_;intro v4 w4 hown4 hgrow4 hnil4;have s4:=Nat.le_trans s3 (World.grownBy.size ((World.grownBy_alloc w3 _ _).trans hgrow4))))
 go_ret
 exact ⟨_,rfl,hown4,(((step_below hbase hown hgrow1).trans (step_below s1 hown1 hgrow2)).trans (step_below s2 hown2 hgrow3)).trans (step_below s3 hown3 hgrow4)⟩
end Go.Proofs.YtjlaoeigfokkiaaGreatDoor.fto
namespace Go.Proofs.YtjlaoeigfokkiaaGreatDoor.fto
open Go.ChangeShapes Go.WideShapes Go.ChangeAt Go.RowKit
open mem
open ints (hide unhide)
set_option linter.unusedVariables false
set_option maxHeartbeats 4000000 in
set_option maxRecDepth 100000 in
theorem efg_one_n1 (B base:Nat) (v:Value) (g dp x:Int) (w:World) (c0:w.cell? ⟨B,0,none⟩ = some (.int .u8 g)) (hown:w.ownsRow base 5 1 v 0 []) (hbase:base ≤ w.heap.size) (hx:-(dp - 1) = x) (hx1:1 ≤ x) (hx2:x ≤ 9) :
  Calls Tryz.prog 132 #[v,.bool false,.slice (some ⟨B,0,none⟩) 32 32,.int .i64 dp,.int .i64 1,.int .i64 0,.int .u8 101,.bool true] w fun e w' => ∃ r,e = .returned r ∧ w'.ownsRow base 5 1 r 5 ([g,101,45,48,x + 48].map (Value.int .u8)) ∧ Below base w w':=by
 obtain ⟨i0,hi,hz0,hz1,hz2⟩:=info_parts info8
 go_enter Tryz.func132,Tryz.ntmps132
 go_wp2_with (first
  | (at_builtin;refine wpList_append_own _ rfl _ _ 45 rfl base 5 i0 (.int .u8 0) 1 1 Tryz.underlying45 hi hz0 hz1 hz2 rfl (by decide) _ _ _ rfl (hown.alloc _) ⟨w.heap.size,0,none⟩ 1 1 [.int .u8 (g)] rfl rfl (cell_one_new _ _ _) (ints_oneCell .u8 [g]) (by unfold maxLen;omega) (by omega) (by simp;omega) ?_;intro v1 w1 hown1 hgrow1 hnil1;have s1:=Nat.le_trans hbase (World.grownBy.size ((World.grownBy_alloc w _ _).trans hgrow1)))
  | (at_builtin;refine wpList_append_own _ rfl _ _ 45 rfl base 5 i0 (.int .u8 0) 1 1 Tryz.underlying45 hi hz0 hz1 hz2 rfl (by decide) _ _ _ rfl (hown1.alloc _) ⟨w1.heap.size,0,none⟩ 1 1 [.int .u8 (101)] rfl rfl (cell_one_new _ _ _) (ints_oneCell .u8 [101]) (by unfold maxLen;omega) (by omega) (by simp;omega) ?_;intro v2 w2 hown2 hgrow2 hnil2;have s2:=Nat.le_trans s1 (World.grownBy.size ((World.grownBy_alloc w1 _ _).trans hgrow2)))
  | (at_builtin;refine wpList_append_own _ rfl _ _ 45 rfl base 5 i0 (.int .u8 0) 1 1 Tryz.underlying45 hi hz0 hz1 hz2 rfl (by decide) _ _ _ rfl (hown2.alloc _) ⟨w2.heap.size,0,none⟩ 1 1 [.int .u8 (45)] rfl rfl (cell_one_new _ _ _) (ints_oneCell .u8 [45]) (by unfold maxLen;omega) (by omega) (by simp;omega) ?_;intro v3 w3 hown3 hgrow3 hnil3;have s3:=Nat.le_trans s2 (World.grownBy.size ((World.grownBy_alloc w2 _ _).trans hgrow3)))
  | (at_builtin;refine wpList_append_own _ rfl _ _ 45 rfl base 5 i0 (.int .u8 0) 1 1 Tryz.underlying45 hi hz0 hz1 hz2 rfl (by decide) _ _ _ rfl (hown3.alloc _) ⟨w3.heap.size,0,none⟩ 2 2 [.int .u8 (48),.int .u8 (x + 48)] rfl rfl (cell_lit w3 [.int .u8 (48),.int .u8 (x + 48)] _) (ints_oneCell .u8 [48,x + 48]) (by unfold maxLen;omega) (by omega) (by simp;omega) ?_;intro v4 w4 hown4 hgrow4 hnil4;have s4:=Nat.le_trans s3 (World.grownBy.size ((World.grownBy_alloc w3 _ _).trans hgrow4))))
 go_ret
 exact ⟨_,rfl,hown4,(((step_below hbase hown hgrow1).trans (step_below s1 hown1 hgrow2)).trans (step_below s2 hown2 hgrow3)).trans (step_below s3 hown3 hgrow4)⟩
end Go.Proofs.YtjlaoeigfokkiaaGreatDoor.fto
namespace Go.Proofs.YtjlaoeigfokkiaaGreatDoor.fto
open Go.ChangeShapes Go.WideShapes Go.ChangeAt Go.RowKit
open mem
open ints (hide unhide)
set_option linter.unusedVariables false
set_option maxHeartbeats 4000000 in
set_option maxRecDepth 100000 in
theorem efg_one_n2 (B base:Nat) (v:Value) (g dp x:Int) (w:World) (c0:w.cell? ⟨B,0,none⟩ = some (.int .u8 g)) (hown:w.ownsRow base 5 1 v 0 []) (hbase:base ≤ w.heap.size) (hx:-(dp - 1) = x) (hx1:10 ≤ x) (hx2:x ≤ 99) :
  Calls Tryz.prog 132 #[v,.bool false,.slice (some ⟨B,0,none⟩) 32 32,.int .i64 dp,.int .i64 1,.int .i64 0,.int .u8 101,.bool true] w fun e w' => ∃ r,e = .returned r ∧ w'.ownsRow base 5 1 r 5 ([g,101,45,x / 10 + 48,x % 10 + 48].map (Value.int .u8)) ∧ Below base w w':=by
 obtain ⟨i0,hi,hz0,hz1,hz2⟩:=info_parts info8
 go_enter Tryz.func132,Tryz.ntmps132
 go_wp2_with (first
  | (at_builtin;refine wpList_append_own _ rfl _ _ 45 rfl base 5 i0 (.int .u8 0) 1 1 Tryz.underlying45 hi hz0 hz1 hz2 rfl (by decide) _ _ _ rfl (hown.alloc _) ⟨w.heap.size,0,none⟩ 1 1 [.int .u8 (g)] rfl rfl (cell_one_new _ _ _) (ints_oneCell .u8 [g]) (by unfold maxLen;omega) (by omega) (by simp;omega) ?_;intro v1 w1 hown1 hgrow1 hnil1;have s1:=Nat.le_trans hbase (World.grownBy.size ((World.grownBy_alloc w _ _).trans hgrow1)))
  | (at_builtin;refine wpList_append_own _ rfl _ _ 45 rfl base 5 i0 (.int .u8 0) 1 1 Tryz.underlying45 hi hz0 hz1 hz2 rfl (by decide) _ _ _ rfl (hown1.alloc _) ⟨w1.heap.size,0,none⟩ 1 1 [.int .u8 (101)] rfl rfl (cell_one_new _ _ _) (ints_oneCell .u8 [101]) (by unfold maxLen;omega) (by omega) (by simp;omega) ?_;intro v2 w2 hown2 hgrow2 hnil2;have s2:=Nat.le_trans s1 (World.grownBy.size ((World.grownBy_alloc w1 _ _).trans hgrow2)))
  | (at_builtin;refine wpList_append_own _ rfl _ _ 45 rfl base 5 i0 (.int .u8 0) 1 1 Tryz.underlying45 hi hz0 hz1 hz2 rfl (by decide) _ _ _ rfl (hown2.alloc _) ⟨w2.heap.size,0,none⟩ 1 1 [.int .u8 (45)] rfl rfl (cell_one_new _ _ _) (ints_oneCell .u8 [45]) (by unfold maxLen;omega) (by omega) (by simp;omega) ?_;intro v3 w3 hown3 hgrow3 hnil3;have s3:=Nat.le_trans s2 (World.grownBy.size ((World.grownBy_alloc w2 _ _).trans hgrow3)))
  | (at_builtin;refine wpList_append_own _ rfl _ _ 45 rfl base 5 i0 (.int .u8 0) 1 1 Tryz.underlying45 hi hz0 hz1 hz2 rfl (by decide) _ _ _ rfl (hown3.alloc _) ⟨w3.heap.size,0,none⟩ 2 2 [.int .u8 (x / 10 + 48),.int .u8 (x % 10 + 48)] rfl rfl (cell_lit w3 [.int .u8 (x / 10 + 48),.int .u8 (x % 10 + 48)] _) (ints_oneCell .u8 [x / 10 + 48,x % 10 + 48]) (by unfold maxLen;omega) (by omega) (by simp;omega) ?_;intro v4 w4 hown4 hgrow4 hnil4;have s4:=Nat.le_trans s3 (World.grownBy.size ((World.grownBy_alloc w3 _ _).trans hgrow4))))
 go_ret
 exact ⟨_,rfl,hown4,(((step_below hbase hown hgrow1).trans (step_below s1 hown1 hgrow2)).trans (step_below s2 hown2 hgrow3)).trans (step_below s3 hown3 hgrow4)⟩
end Go.Proofs.YtjlaoeigfokkiaaGreatDoor.fto
namespace Go.Proofs.YtjlaoeigfokkiaaGreatDoor.fto
open Go.ChangeShapes Go.WideShapes Go.ChangeAt Go.RowKit
open mem
open ints (hide unhide)
set_option linter.unusedVariables false
set_option maxHeartbeats 4000000 in
set_option maxRecDepth 100000 in
theorem efg_one_n3 (B base:Nat) (v:Value) (g dp x:Int) (w:World) (c0:w.cell? ⟨B,0,none⟩ = some (.int .u8 g)) (hown:w.ownsRow base 5 1 v 0 []) (hbase:base ≤ w.heap.size) (hx:-(dp - 1) = x) (hx1:100 ≤ x) (hx2:x ≤ 400) :
  Calls Tryz.prog 132 #[v,.bool false,.slice (some ⟨B,0,none⟩) 32 32,.int .i64 dp,.int .i64 1,.int .i64 0,.int .u8 101,.bool true] w fun e w' => ∃ r,e = .returned r ∧ w'.ownsRow base 5 1 r 6 ([g,101,45,x / 100 + 48,x / 10 % 10 + 48,x % 10 + 48].map (Value.int .u8)) ∧ Below base w w':=by
 obtain ⟨i0,hi,hz0,hz1,hz2⟩:=info_parts info8
 go_enter Tryz.func132,Tryz.ntmps132
 go_wp2_with (first
  | (at_builtin;refine wpList_append_own _ rfl _ _ 45 rfl base 5 i0 (.int .u8 0) 1 1 Tryz.underlying45 hi hz0 hz1 hz2 rfl (by decide) _ _ _ rfl (hown.alloc _) ⟨w.heap.size,0,none⟩ 1 1 [.int .u8 (g)] rfl rfl (cell_one_new _ _ _) (ints_oneCell .u8 [g]) (by unfold maxLen;omega) (by omega) (by simp;omega) ?_;intro v1 w1 hown1 hgrow1 hnil1;have s1:=Nat.le_trans hbase (World.grownBy.size ((World.grownBy_alloc w _ _).trans hgrow1)))
  | (at_builtin;refine wpList_append_own _ rfl _ _ 45 rfl base 5 i0 (.int .u8 0) 1 1 Tryz.underlying45 hi hz0 hz1 hz2 rfl (by decide) _ _ _ rfl (hown1.alloc _) ⟨w1.heap.size,0,none⟩ 1 1 [.int .u8 (101)] rfl rfl (cell_one_new _ _ _) (ints_oneCell .u8 [101]) (by unfold maxLen;omega) (by omega) (by simp;omega) ?_;intro v2 w2 hown2 hgrow2 hnil2;have s2:=Nat.le_trans s1 (World.grownBy.size ((World.grownBy_alloc w1 _ _).trans hgrow2)))
  | (at_builtin;refine wpList_append_own _ rfl _ _ 45 rfl base 5 i0 (.int .u8 0) 1 1 Tryz.underlying45 hi hz0 hz1 hz2 rfl (by decide) _ _ _ rfl (hown2.alloc _) ⟨w2.heap.size,0,none⟩ 1 1 [.int .u8 (45)] rfl rfl (cell_one_new _ _ _) (ints_oneCell .u8 [45]) (by unfold maxLen;omega) (by omega) (by simp;omega) ?_;intro v3 w3 hown3 hgrow3 hnil3;have s3:=Nat.le_trans s2 (World.grownBy.size ((World.grownBy_alloc w2 _ _).trans hgrow3)))
  | (at_builtin;refine wpList_append_own _ rfl _ _ 45 rfl base 5 i0 (.int .u8 0) 1 1 Tryz.underlying45 hi hz0 hz1 hz2 rfl (by decide) _ _ _ rfl (hown3.alloc _) ⟨w3.heap.size,0,none⟩ 3 3 [.int .u8 (x / 100 + 48),.int .u8 (x / 10 % 10 + 48),.int .u8 (x % 10 + 48)] rfl rfl (cell_lit w3 [.int .u8 (x / 100 + 48),.int .u8 (x / 10 % 10 + 48),.int .u8 (x % 10 + 48)] _) (ints_oneCell .u8 [x / 100 + 48,x / 10 % 10 + 48,x % 10 + 48]) (by unfold maxLen;omega) (by omega) (by simp;omega) ?_;intro v4 w4 hown4 hgrow4 hnil4;have s4:=Nat.le_trans s3 (World.grownBy.size ((World.grownBy_alloc w3 _ _).trans hgrow4))))
 go_ret
 exact ⟨_,rfl,hown4,(((step_below hbase hown hgrow1).trans (step_below s1 hown1 hgrow2)).trans (step_below s2 hown2 hgrow3)).trans (step_below s3 hown3 hgrow4)⟩
end Go.Proofs.YtjlaoeigfokkiaaGreatDoor.fto
namespace Go.Proofs.YtjlaoeigfokkiaaGreatDoor.fto
open Go.ChangeShapes Go.WideShapes Go.ChangeAt Go.RowKit
open mem
open ints (hide unhide)
set_option linter.unusedVariables false
theorem cell_at {w:World} {B j:Nat} {arr:Array Value} {TB:TypeId} {fr:Nat × Nat} {u:Value} (hB:w.heap[B]? = some (.cells arr TB fr)) (h:arr[j]? = some u):w.cell? ⟨B,j,none⟩ = some u:=by
 simp [World.cell?,hB,h]
theorem row_at {w:World} {B:Nat} {arr:Array Value} {TB:TypeId} {fr:Nat × Nat} {xs:List Value} (hB:w.heap[B]? = some (.cells arr TB fr)) (h:∀ j u,xs[j]? = some u → arr[1 + j]? = some u):∀ j u,xs[j]? = some u → w.cell? ((⟨B,1,none⟩:Addr).add j) = some u:=by
 intro j u hj
 rw [Addr.add_lit]
 exact cell_at hB (h j u hj)
theorem row_below {w w':World} {base n:Nat} {v:Value} {xs:List Value} (hb:base ≤ w.heap.size) (hown:w.ownsRow base 5 1 v n xs) (hg:w.grownBy w' v.ownBlock):Below base w w':=
 (Below.refl _ _).grown hg hb (fun k hk => (hown.lt k hk).1)
theorem own_as {w:World} {base n n':Nat} {T:TypeId} {v:Value} {xs xs':List Value} (h:w.ownsRow base T 1 v n xs) (hn:n = n') (hx:xs = xs'):w.ownsRow base T 1 v n' xs':=by
 subst hn;subst hx;exact h
end Go.Proofs.YtjlaoeigfokkiaaGreatDoor.fto
