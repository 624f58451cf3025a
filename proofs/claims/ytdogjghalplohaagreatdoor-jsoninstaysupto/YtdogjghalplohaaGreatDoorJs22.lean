import Derived.Test.YtdogjghalplohaaGreatDoorJs1
import Derived.Test.YtdogjghalplohaaGreatDoorJs5
import Derived.Test.YtdogjghalplohaaGreatDoorJs13
import Derived.Deep.RegionHeld3
import Derived.WalkKit
import Derived.ProofKit
import Derived.Below
import Derived.Deep.LoopGhost
import Derived.WalkMore
namespace Go.Proofs.YtdogjghalplohaaGreatDoor.dcm
open Go.ChangeShapes Go.WideShapes Go.ChangeAt Go.RowKit
open mem
open ints (hide unhide)
set_option linter.unusedVariables false
set_option linter.unusedSimpArgs false
structure Dcs where
 D:Nat → Nat
 nd:Nat
 dp:Int
 ng:Bool
 tr:Bool
structure DecAt (w:World) (b:Nat) (s:Dcs) (arr:Array Value) (t:TypeId):Prop where
 blk:w.heap[b]? = some (.cells arr t (0,0))
 size:arr.size = 804
 dig:∀ i,i < 800 → arr[i]? = some (.int .u8 (s.D i:Int))
 nd:arr[800]? = some (.int .i64 (s.nd:Int))
 dp:arr[801]? = some (.int .i64 s.dp)
 ng:arr[802]? = some (.bool s.ng)
 tr:arr[803]? = some (.bool s.tr)
def Dec (w:World) (b:Nat) (s:Dcs):Prop:=∃ arr t,DecAt w b s arr t
theorem Dec.lt {w:World} {b:Nat} {s:Dcs} (h:Dec w b s):b < w.heap.size:=by
 obtain ⟨arr,t,h⟩:=h
 rcases Nat.lt_or_ge b w.heap.size with g | g
 ·exact g
 ·have:=h.blk
  rw [Array.getElem?_eq_none g] at this
  cases this
theorem Dec.froz {w:World} {b:Nat} {s:Dcs} (h:Dec w b s) (o:Nat):w.frozen? ⟨b,o,none⟩ = false:=by
 obtain ⟨arr,t,h⟩:=h
 simp [World.frozen?,h.blk]
theorem DecAt.cell {w:World} {b:Nat} {s:Dcs} {arr:Array Value} {t:TypeId} (h:DecAt w b s arr t) (o:Nat):w.cell? ⟨b,o,none⟩ = arr[o]? := by
 simp [World.cell?,h.blk]
theorem Dec.dig {w:World} {b:Nat} {s:Dcs} (h:Dec w b s) (i:Nat) (hi:i < 800):w.cell? ⟨b,i,none⟩ = some (.int .u8 (s.D i:Int)):=by
 obtain ⟨arr,t,h⟩:=h
 exact (h.cell i).trans (h.dig i hi)
theorem Dec.cnd {w:World} {b:Nat} {s:Dcs} (h:Dec w b s):w.cell? ⟨b,800,none⟩ = some (.int .i64 (s.nd:Int)):=by
 obtain ⟨arr,t,h⟩:=h
 exact (h.cell _).trans h.nd
theorem Dec.cdp {w:World} {b:Nat} {s:Dcs} (h:Dec w b s):w.cell? ⟨b,801,none⟩ = some (.int .i64 s.dp):=by
 obtain ⟨arr,t,h⟩:=h
 exact (h.cell _).trans h.dp
theorem Dec.cng {w:World} {b:Nat} {s:Dcs} (h:Dec w b s):w.cell? ⟨b,802,none⟩ = some (.bool s.ng):=by
 obtain ⟨arr,t,h⟩:=h
 exact (h.cell _).trans h.ng
theorem Dec.ctr {w:World} {b:Nat} {s:Dcs} (h:Dec w b s):w.cell? ⟨b,803,none⟩ = some (.bool s.tr):=by
 obtain ⟨arr,t,h⟩:=h
 exact (h.cell _).trans h.tr
theorem Dec.below {w w':World} {b:Nat} {s:Dcs} (h:Dec w b s) (hb:Below w.heap.size w w'):Dec w' b s:=by
 have hl:=h.lt
 obtain ⟨arr,t,h⟩:=h
 exact ⟨arr,t,(hb.block b hl).trans h.blk,h.size,h.dig,h.nd,h.dp,h.ng,h.tr⟩
theorem Dec.drew {w:World} {b:Nat} {s:Dcs} (h:Dec w b s):Dec w.drew b s:=h.below ((Below.refl _ _).drew)
theorem blk_set {w:World} {b:Nat} {arr:Array Value} {t:TypeId} (h:w.heap[b]? = some (.cells arr t (0,0))) (o:Nat) (v:Value):(w.setCell ⟨b,o,none⟩ v).heap[b]? = some (.cells (arr.setIfInBounds o v) t (0,0)):=by
 simp [World.setCell,Array.getElem?_modify,h]
theorem get_set (arr:Array Value) (o i:Nat) (v:Value) (h:o < arr.size):(arr.setIfInBounds o v)[i]? = if o = i then some v else arr[i]? := by
 rw [Array.getElem?_setIfInBounds]
 split
 ·simp_all
 ·rfl
theorem Dec.setD {w:World} {b:Nat} {s:Dcs} (h:Dec w b s) (k v:Nat) (hk:k < 800):Dec (w.setCell ⟨b,k,none⟩ (.int .u8 (v:Int))) b { s with D:=fun i => if k = i then v else s.D i }:=by
 obtain ⟨arr,t,h⟩:=h
 have hs:=h.size
 refine ⟨_,t,blk_set h.blk k _,by simpa using hs,fun i hi => ?_,?_,?_,?_,?_⟩
 ·rw [get_set _ _ _ _ (by omega)]
  by_cases e:k = i
  ·simp [e]
  ·simp only [e,if_false];exact h.dig i hi
 ·rw [get_set _ _ _ _ (by omega),if_neg (by omega)];exact h.nd
 ·rw [get_set _ _ _ _ (by omega),if_neg (by omega)];exact h.dp
 ·rw [get_set _ _ _ _ (by omega),if_neg (by omega)];exact h.ng
 ·rw [get_set _ _ _ _ (by omega),if_neg (by omega)];exact h.tr
theorem Dec.setN {w:World} {b:Nat} {s:Dcs} (h:Dec w b s) (v:Nat):Dec (w.setCell ⟨b,800,none⟩ (.int .i64 (v:Int))) b { s with nd:=v }:=by
 obtain ⟨arr,t,h⟩:=h
 have hs:=h.size
 refine ⟨_,t,blk_set h.blk _ _,by simpa using hs,fun i hi => ?_,?_,?_,?_,?_⟩
 ·rw [get_set _ _ _ _ (by omega),if_neg (by omega)];exact h.dig i hi
 ·rw [get_set _ _ _ _ (by omega),if_pos rfl]
 ·rw [get_set _ _ _ _ (by omega),if_neg (by omega)];exact h.dp
 ·rw [get_set _ _ _ _ (by omega),if_neg (by omega)];exact h.ng
 ·rw [get_set _ _ _ _ (by omega),if_neg (by omega)];exact h.tr
theorem Dec.setP {w:World} {b:Nat} {s:Dcs} (h:Dec w b s) (v:Int):Dec (w.setCell ⟨b,801,none⟩ (.int .i64 v)) b { s with dp:=v }:=by
 obtain ⟨arr,t,h⟩:=h
 have hs:=h.size
 refine ⟨_,t,blk_set h.blk _ _,by simpa using hs,fun i hi => ?_,?_,?_,?_,?_⟩
 ·rw [get_set _ _ _ _ (by omega),if_neg (by omega)];exact h.dig i hi
 ·rw [get_set _ _ _ _ (by omega),if_neg (by omega)];exact h.nd
 ·rw [get_set _ _ _ _ (by omega),if_pos rfl]
 ·rw [get_set _ _ _ _ (by omega),if_neg (by omega)];exact h.ng
 ·rw [get_set _ _ _ _ (by omega),if_neg (by omega)];exact h.tr
theorem Dec.setT {w:World} {b:Nat} {s:Dcs} (h:Dec w b s) (v:Bool):Dec (w.setCell ⟨b,803,none⟩ (.bool v)) b { s with tr:=v }:=by
 obtain ⟨arr,t,h⟩:=h
 have hs:=h.size
 refine ⟨_,t,blk_set h.blk _ _,by simpa using hs,fun i hi => ?_,?_,?_,?_,?_⟩
 ·rw [get_set _ _ _ _ (by omega),if_neg (by omega)];exact h.dig i hi
 ·rw [get_set _ _ _ _ (by omega),if_neg (by omega)];exact h.nd
 ·rw [get_set _ _ _ _ (by omega),if_neg (by omega)];exact h.dp
 ·rw [get_set _ _ _ _ (by omega),if_neg (by omega)];exact h.ng
 ·rw [get_set _ _ _ _ (by omega),if_pos rfl]
structure Trm (D:Nat → Nat) (n m:Nat):Prop where
 le:m ≤ n
 noughts:∀ i,m ≤ i → i < n → D i = 48
 last:0 < m → D (m - 1) ≠ 48
theorem mixedD:Tryz.prog.follows .mixedOrders = true:=by kernel_rfl
structure TrI (w wr:World) (b:Nat) (s:Dcs) (m:Nat):Prop where
 le:m ≤ s.nd
 noughts:∀ i,m ≤ i → i < s.nd → s.D i = 48
 dec:Dec wr b { s with nd:=m }
 bel:Below b w wr
 size:wr.heap.size = w.heap.size
set_option maxRecDepth 100000 in
set_option maxHeartbeats 1000000 in
theorem trim_ok (b:Nat) (s:Dcs) (w:World) (h:Dec w b s) (hn:s.nd ≤ 800) :
  Calls Tryz.prog 234 #[.pointer (some ⟨b,0,none⟩)] w fun e w' => e = .returned (.tuple #[]) ∧ (∃ m,Trm s.D s.nd m ∧ Dec w' b { s with nd:=m,dp:=if m = 0 then 0 else s.dp }) ∧ Below b w w' ∧ w'.heap.size = w.heap.size:=by
 have HI:=hide (⟨Nat.le_refl _,fun i h1 h2 => by omega,h,Below.refl _ _,rfl⟩:TrI w w b s s.nd)
 clear h
 go_enter Tryz.func234,Tryz.ntmps234
 go_wp2_with fail
 go_loopg [] (s.nd + 1) (fun g wr => ∃ m,m < g ∧ TrI w wr b s m)
 case atStart => exact ⟨s.nd,by omega,unhide HI⟩
 case round =>
  obtain ⟨m,hg,hi⟩:=hrel
  have c0:=hi.dec.cnd
  have hl:=hi.dec.lt
  by_cases h0:0 < m
  ·have hi0:(0:Int) < (m:Int):=by omega
   have hm8:m ≤ 800:=Nat.le_trans hi.le hn
   have c1:=hi.dec.dig (m - 1) (by omega)
   obtain ⟨j,rfl⟩:∃ j,m = j + 1:=⟨m - 1,by omega⟩
   rw [Nat.add_sub_cancel] at c1
   obtain ⟨M,hM⟩:∃ M:Int,M = ((j + 1:Nat):Int):=⟨_,rfl⟩
   have ej:M - 1 = (j:Int):=by omega
   have HI2:=hide hi
   clear hi
   simp only [] at c0
   rw [← hM] at c0 hi0
   have HM:=hide hM
   clear hM
   have kz:(0:Int) ≤ (j:Int):=by omega
   have k8:(j:Int) < 800:=by omega
   have f0:=(unhide HI2).dec.froz 800
   have kw:IntKind.i64.wrap (M - 1) = (j:Int):=by rw [IntKind.wrap_i64];omega
   have kw2:IntKind.i64.wrap (j:Int) = (j:Int):=by rw [IntKind.wrap_i64];omega
   by_cases h48:s.D j = 48
   ·have e48:(s.D j:Int) = 48:=by omega
    rw [e48] at c1
    go_wp2_with fail
    go_region_held3 (fun w' => w'.cell? ⟨b,800,none⟩ = some (.int .i64 M) ∧ w'.cell? ⟨b,j,none⟩ = some (.int .u8 48)) (go_keep) (fail)
    have HI3:=hide (⟨by have:=(unhide HI2).le;omega,fun i h1 h2 => by
     rcases Nat.lt_or_ge j i with g | g
     ·exact (unhide HI2).noughts i (by omega) h2
     ·rw [show i = j by omega];exact h48,(unhide HI2).dec.drew.setN j,((unhide HI2).bel.drew).setCell (p:=⟨b,800,none⟩) (Nat.le_refl _) _,by simpa using (unhide HI2).size⟩:TrI w (wr.drew.setCell ⟨b,800,none⟩ (.int .i64 (j:Int))) b s j)
    clear HI2 h48 e48
    go_wp2
    go_roundg (gk - 1)
    case rel => exact ⟨j,by omega,unhide HI3⟩
    case measure => omega
   ·have e48:¬ (s.D j:Int) = 48:=by omega
    obtain ⟨C,hC⟩:∃ C:Int,C = (s.D j:Int):=⟨_,rfl⟩
    rw [← hC] at c1 e48
    have HC:=hide hC
    clear hC h48
    go_wp2_with fail
    go_region_held3 (fun w' => w'.cell? ⟨b,800,none⟩ = some (.int .i64 M) ∧ w'.cell? ⟨b,j,none⟩ = some (.int .u8 C)) (go_keep) (fail)
    go_wp2
    go_end0
    exact ⟨rfl,⟨j + 1,⟨(unhide HI2).le,(unhide HI2).noughts,fun _ h => e48 (by rw [unhide HC];rw [Nat.add_sub_cancel] at h;omega)⟩,by rw [if_neg (by omega)];exact (unhide HI2).dec.drew⟩,(unhide HI2).bel.drew,(unhide HI2).size⟩
  ·obtain rfl:m = 0:=by omega
   have HI2:=hide hi
   have f1:=hi.dec.froz 801
   have c2:=hi.dec.cdp
   simp only [] at c0 c2
   obtain ⟨M,hM⟩:∃ M:Int,M = ((0:Nat):Int):=⟨_,rfl⟩
   rw [← hM] at c0
   have hn0:¬ (0:Int) < M:=by omega
   have HM:=hide hM
   clear hi hM
   go_wp2_with fail
   refine wp_region_noPanic ?_
   refine wp_region_held (S:=fun w' => w'.cell? ⟨b,800,none⟩ = some (.int .i64 M)) mixedD ?_
   have hS0:wr.drew.cell? ⟨b,800,none⟩ = some (.int .i64 M):=c0
   refine rgn.tl (i:=0) (v:=?v1) rfl (by kernel_rfl) (fun _ _ _ h => h) (by rfl) ?hy1 hS0 ?_
   case hy1 => (intro w' hw';have q0:=hw';go_simp;try with_reducible rfl)
   simp only [zA,zB,zC,Act.put,zD,zE,zF]
   refine rgn.tl (i:=1) (v:=?v2) rfl (by kernel_rfl) (fun _ _ _ h => h) (by rfl) ?hy2 hS0 ?_
   case hy2 => (intro w' hw';have q0:=hw';go_simp;try with_reducible rfl)
   simp only [zA,zB,zC,Act.put,zD,zE,zF]
   refine rgn.tl (i:=2) (v:=?v3) rfl (by kernel_rfl) (fun _ _ _ h => h) (by rfl) ?hy3 hS0 ?_
   case hy3 => (intro w' hw';have q0:=hw';go_simp;try with_reducible rfl)
   simp only [zA,zB,zC,Act.put,zD,zE,zF]
   refine rgn.tl (i:=3) (v:=?v4) rfl (by kernel_rfl) (fun _ _ _ h => h) (by rfl) ?hy4 hS0 ?_
   case hy4 => (intro w' hw';have q0:=hw';go_simp;try with_reducible rfl)
   simp only [zA,zB,zC,Act.put,zD,zE,zF]
   refine rgn.tl (i:=4) (v:=?v5) rfl (by kernel_rfl) (fun _ _ _ h => h) (by rfl) ?hy5 hS0 ?_
   case hy5 => (intro w' hw';have hd:decide (0 < M) = false:=decide_eq_false (by omega);go_simp;try with_reducible rfl)
   simp only [zA,zB,zC,Act.put,zD,zE,zF]
   refine rgn.tl (i:=5) (v:=?v6) rfl (by kernel_rfl) (fun _ _ _ h => h) (by rfl) ?hy6 hS0 ?_
   case hy6 => (intro w' hw';have hd:decide (0 < M) = false:=decide_eq_false (by omega);go_simp;try with_reducible rfl)
   simp only [zA,zB,zC,Act.put,zD,zE,zF]
   refine rgn.tk (i:=6) (v:=undef) rfl (by kernel_rfl) (fun _ _ _ h => h) (Or.inr ⟨by rfl,rfl⟩) hS0 ?_
   simp only [zA,zB,zC,Act.put,zD,zE,zF]
   refine rgn.tk (i:=7) (v:=undef) rfl (by kernel_rfl) (fun _ _ _ h => h) (Or.inr ⟨by rfl,rfl⟩) hS0 ?_
   simp only [zA,zB,zC,Act.put,zD,zE,zF]
   refine rgn.tk (i:=8) (v:=undef) rfl (by kernel_rfl) (fun _ _ _ h => h) (Or.inr ⟨by rfl,rfl⟩) hS0 ?_
   simp only [zA,zB,zC,Act.put,zD,zE,zF]
   refine rgn.tk (i:=9) (v:=undef) rfl (by kernel_rfl) (fun _ _ _ h => h) (Or.inr ⟨by rfl,rfl⟩) hS0 ?_
   simp only [zA,zB,zC,Act.put,zD,zE,zF]
   refine rgn.tk (i:=10) (v:=undef) rfl (by kernel_rfl) (fun _ _ _ h => h) (Or.inr ⟨by rfl,rfl⟩) hS0 ?_
   simp only [zA,zB,zC,Act.put,zD,zE,zF]
   refine rgn.tk (i:=11) (v:=undef) rfl (by kernel_rfl) (fun _ _ _ h => h) (Or.inr ⟨by rfl,rfl⟩) hS0 ?_
   simp only [zA,zB,zC,Act.put,zD,zE,zF]
   refine rgn.tk (i:=12) (v:=undef) rfl (by kernel_rfl) (fun _ _ _ h => h) (Or.inr ⟨by rfl,rfl⟩) hS0 ?_
   simp only [zA,zB,zC,Act.put,zD,zE,zF]
   refine rgn.tk (i:=13) (v:=undef) rfl (by kernel_rfl) (fun _ _ _ h => h) (Or.inr ⟨by rfl,rfl⟩) hS0 ?_
   simp only [zA,zB,zC,Act.put,zD,zE,zF]
   refine rgn.tk (i:=14) (v:=undef) rfl (by kernel_rfl) (fun _ _ _ h => h) (Or.inr ⟨by rfl,rfl⟩) hS0 ?_
   simp only [zA,zB,zC,Act.put,zD,zE,zF]
   refine rgn.tk (i:=15) (v:=undef) rfl (by kernel_rfl) (fun _ _ _ h => h) (Or.inr ⟨by rfl,rfl⟩) hS0 ?_
   simp only [zA,zB,zC,Act.put,zD,zE,zF]
   refine rgn.tk (i:=16) (v:=undef) rfl (by kernel_rfl) (fun _ _ _ h => h) (Or.inr ⟨by rfl,rfl⟩) hS0 ?_
   simp only [zA,zB,zC,Act.put,zD,zE,zF]
   refine rgn.tl (i:=17) (v:=?v7) rfl (by kernel_rfl) (fun _ _ _ h => h) (by rfl) ?hy7 hS0 ?_
   case hy7 => (intro w' hw';go_simp;try with_reducible rfl)
   simp only [zA,zB,zC,Act.put,zD,zE,zF]
   refine wpAnyH_done (by kernel_rfl) ?_ _;refine NoPanic.normal ?_
   have hM:=unhide HM
   go_wp2
   go_end0
   exact ⟨rfl,⟨0,⟨Nat.zero_le _,(unhide HI2).noughts,fun h => absurd h (by omega)⟩,by rw [if_pos rfl];exact (unhide HI2).dec.drew.setP 0⟩,((unhide HI2).bel.drew).setCell (p:=⟨b,801,none⟩) (Nat.le_refl _) _,by simpa using (unhide HI2).size⟩
end Go.Proofs.YtdogjghalplohaaGreatDoor.dcm
namespace Go.Proofs.YtdogjghalplohaaGreatDoor.dcm
open Go.ChangeShapes Go.WideShapes Go.ChangeAt Go.RowKit
open mem
open ints (hide unhide)
set_option linter.unusedVariables false
def rup (s:Dcs) (k:Int):Bool:=
 if k < 0 ∨ (s.nd:Int) ≤ k then false
 else if s.D k.toNat = 53 ∧ k.toNat + 1 = s.nd then (if s.tr = true then true else decide (0 < k.toNat ∧ (s.D (k.toNat - 1) - 48) % 2 ≠ 0))
 else decide (53 ≤ s.D k.toNat)
set_option maxRecDepth 100000 in
theorem rup_ok (b:Nat) (s:Dcs) (k:Int) (w:World) (h:Dec w b s) (hn:s.nd ≤ 800) (hk:k ≤ 9223372036854775806) (hD:∀ i,i < s.nd → 48 ≤ s.D i ∧ s.D i ≤ 57) :
  Calls Tryz.prog 226 #[.pointer (some ⟨b,0,none⟩),.int .i64 k] w fun e w' => e = .returned (.bool (rup s k)) ∧ w = w':=by
 have c0:=h.cnd
 have c3:=h.ctr
 have HH:=hide h
 have hl:=h.lt
 have HD:=hide hD
 clear h hD
 by_cases k0:k < 0
 ·have hr:rup s k = false:=by unfold rup;rw [if_pos (Or.inl k0)]
  rw [hr]
  clear hr
  go_enter Tryz.func226,Tryz.ntmps226
  go_wp2
  go_ret
  exact ⟨rfl,rfl⟩
 by_cases k1:(s.nd:Int) ≤ k
 ·have hr:rup s k = false:=by unfold rup;rw [if_pos (Or.inr k1)]
  rw [hr]
  clear hr
  obtain ⟨M,hM⟩:∃ M:Int,M = (s.nd:Int):=⟨_,rfl⟩
  rw [← hM] at c0 k1
  clear hM
  go_enter Tryz.func226,Tryz.ntmps226
  go_wp2
  go_ret
  exact ⟨rfl,rfl⟩
 obtain ⟨j,rfl⟩:∃ j:Nat,k = (j:Int):=⟨k.toNat,by omega⟩
 have c1:=(unhide HH).dig j (by omega)
 have hdj:=(unhide HD) j (by omega)
 have e1:rup s (j:Int) = (if s.D j = 53 ∧ j + 1 = s.nd then (if s.tr = true then true else decide (0 < j ∧ (s.D (j - 1) - 48) % 2 ≠ 0)) else decide (53 ≤ s.D j)):=by
  unfold rup
  rw [if_neg (by omega)]
  rfl
 have kz:(0:Int) ≤ (j:Int):=by omega
 have k8:(j:Int) < 800:=by omega
 have kw:IntKind.i64.wrap (j:Int) = (j:Int):=by rw [IntKind.wrap_i64];omega
 have kw1:IntKind.i64.wrap ((j:Int) + 1) = (j:Int) + 1:=by rw [IntKind.wrap_i64];omega
 obtain ⟨M,hM⟩:∃ M:Int,M = (s.nd:Int):=⟨_,rfl⟩
 rw [← hM] at c0 k1
 rw [e1]
 by_cases h53:s.D j = 53
 ·have e53:(s.D j:Int) = 53:=by omega
  rw [e53] at c1
  by_cases hend:j + 1 = s.nd
  ·have ee:(j:Int) + 1 = M:=by omega
   rw [if_pos ⟨h53,hend⟩]
   cases ht:s.tr
   ·rw [ht] at c3
    rw [if_neg (by decide)]
    by_cases j0:0 < j
    ·have j0i:(0:Int) < (j:Int):=by omega
     obtain ⟨i,hi⟩:∃ i,j = i + 1:=⟨j - 1,by omega⟩
     have c4:=(unhide HH).dig i (by omega)
     have hdi:=(unhide HD) i (by omega)
     obtain ⟨v,hv⟩:∃ v:Nat,s.D i = v + 48:=⟨s.D i - 48,by omega⟩
     have kw2:IntKind.i64.wrap ((j:Int) - 1) = (i:Int):=by rw [IntKind.wrap_i64];omega
     have kw3:IntKind.i64.wrap (i:Int) = (i:Int):=by rw [IntKind.wrap_i64];omega
     have i0:(0:Int) ≤ (i:Int):=by omega
     have i8:(i:Int) < 800:=by omega
     obtain ⟨C,hC⟩:∃ C:Int,C = (s.D i:Int):=⟨_,rfl⟩
     rw [← hC] at c4
     have kv:IntKind.u8.wrap (C - 48) = (v:Int):=by rw [IntKind.wrap_u8];omega
     have kr:(v:Int).tmod 2 = ((v % 2:Nat):Int):=by rw [Int.tmod_eq_emod_of_nonneg (by omega)];omega
     have hres:decide (0 < j ∧ (s.D (j - 1) - 48) % 2 ≠ 0) = decide (v % 2 ≠ 0):=by
      rw [show j - 1 = i by omega,hv,Nat.add_sub_cancel]
      simp [j0]
     rw [hres]
     clear hres hC hv hdi hM h53 e53 hend e1 HD hi j0 ht hdj
     by_cases hv2:v % 2 = 0
     ·have hvi:((v % 2:Nat):Int) = 0:=by omega
      rw [hvi] at kr
      rw [show decide (v % 2 ≠ 0) = false by simp [hv2]]
      clear hv2 hvi
      go_enter Tryz.func226,Tryz.ntmps226
      go_wp2
      go_ret
      exact ⟨rfl,rfl⟩
     ·have hvi:((v % 2:Nat):Int) = 1:=by omega
      rw [hvi] at kr
      rw [show decide (v % 2 ≠ 0) = true by simp [hv2]]
      clear hv2 hvi
      go_enter Tryz.func226,Tryz.ntmps226
      go_wp2
      go_ret
      exact ⟨rfl,rfl⟩
    ·have j0i:¬ (0:Int) < (j:Int):=by omega
     rw [show decide (0 < j ∧ (s.D (j - 1) - 48) % 2 ≠ 0) = false by simp [j0]]
     clear hM h53 e53 hend e1 HD ht hdj
     go_enter Tryz.func226,Tryz.ntmps226
     go_wp2
     go_ret
     exact ⟨rfl,rfl⟩
   ·rw [ht] at c3
    rw [if_pos rfl]
    clear hM h53 e53 hend e1 HD ht hdj
    go_enter Tryz.func226,Tryz.ntmps226
    go_wp2
    go_ret
    exact ⟨rfl,rfl⟩
  ·have ee:¬ (j:Int) + 1 = M:=by omega
   rw [if_neg (fun g => hend g.2),show decide (53 ≤ s.D j) = true by simp [h53]]
   clear hM h53 e53 hend e1 HD hdj
   go_enter Tryz.func226,Tryz.ntmps226
   go_wp2
   go_ret
   exact ⟨rfl,rfl⟩
 ·rw [if_neg (fun g => h53 g.1)]
  obtain ⟨C,hC⟩:∃ C:Int,C = (s.D j:Int):=⟨_,rfl⟩
  have h53i:¬ C = 53:=by omega
  rw [← hC] at c1
  by_cases hge:53 ≤ s.D j
  ·have hgi:(53:Int) ≤ C:=by omega
   rw [show decide (53 ≤ s.D j) = true by simp [hge]]
   clear hM h53 e1 HD hdj hC hge
   go_enter Tryz.func226,Tryz.ntmps226
   go_wp2
   go_ret
   exact ⟨rfl,rfl⟩
  ·have hgi:¬ (53:Int) ≤ C:=by omega
   rw [show decide (53 ≤ s.D j) = false by simp [hge]]
   clear hM h53 e1 HD hdj hC hge
   go_enter Tryz.func226,Tryz.ntmps226
   go_wp2
   go_ret
   exact ⟨rfl,rfl⟩
end Go.Proofs.YtdogjghalplohaaGreatDoor.dcm
namespace Go.Proofs.YtdogjghalplohaaGreatDoor.dcm
open Go.ChangeShapes Go.WideShapes Go.ChangeAt Go.RowKit
open mem
open ints (hide unhide)
set_option linter.unusedVariables false
def dgN (s:Dcs) (i:Nat):Nat:=if i < s.nd then s.D i - 48 else 0
def dvN (s:Dcs):Nat → Nat
 | 0 => 0
 | k + 1 => dvN s k * 10 + dgN s k
def DgOk (s:Dcs):Prop:=∀ i,i < s.nd → 48 ≤ s.D i ∧ s.D i ≤ 57
theorem dgN_le {s:Dcs} (h:DgOk s) (i:Nat):dgN s i ≤ 9:=by
 unfold dgN
 split
 ·have:=h i (by assumption);omega
 ·omega
theorem dvN_lt {s:Dcs} (h:DgOk s) (k:Nat):dvN s k < 10 ^ k:=by
 induction k with
 | zero => show 0 < 1;decide
 | succ k ih => have:=dgN_le h k;show dvN s k * 10 + dgN s k < _;rw [Nat.pow_succ];omega
theorem dvN_18 {s:Dcs} (h:DgOk s) {k:Nat} (hk:k ≤ 18):dvN s k < 1000000000000000000:=
 Nat.lt_of_lt_of_le (dvN_lt h k) (Nat.le_trans (Nat.pow_le_pow_right (n:=10) (by decide) hk) (by decide))
set_option maxRecDepth 100000 in
set_option maxHeartbeats 1000000 in
theorem rint_ok (b:Nat) (s:Dcs) (w:World) (h:Dec w b s) (hn:s.nd ≤ 800) (hp:s.dp ≤ 18) (hp0:-9223372036854775808 ≤ s.dp) (hD:DgOk s) :
  Calls Tryz.prog 209 #[.pointer (some ⟨b,0,none⟩)] w fun e w' => e = .returned (.int .u64 ((dvN s s.dp.toNat + (rup s s.dp).toNat:Nat):Int)) ∧ Below w.heap.size w w':=by
 have RU:=hide (rup_ok b s s.dp w h hn (by omega) hD)
 have V18:=hide (fun k hk => dvN_18 hD (k:=k) hk)
 have c0:=h.cnd
 have c1:=h.cdp
 have HH:=hide h
 have hl:=h.lt
 have HD:=hide hD
 obtain ⟨P,hP⟩:∃ P,P = s.dp:=⟨_,rfl⟩
 obtain ⟨M,hM⟩:∃ M:Int,M = (s.nd:Int):=⟨_,rfl⟩
 obtain ⟨R,hR⟩:∃ R,R = rup s s.dp:=⟨_,rfl⟩
 rw [← hR] at RU ⊢
 rw [← hP] at RU c1 hp hp0 ⊢
 rw [← hM] at c0
 have HM:=hide hM
 clear h hD hP hM hR
 go_enter Tryz.func209,Tryz.ntmps209
 go_wp2
 go_loopw [3,4] (fun i n wr => ∃ k:Nat,(k:Int) ≤ max P 0 ∧ i = .int .i64 k ∧ n = .int .u64 (dvN s k:Int) ∧ wr = w) (fun i n _ => 30 - (intOf i).toNat)
 case atStart => exact ⟨0,by omega,rfl,rfl,rfl⟩
 case round =>
  obtain ⟨k,hk,rfl,rfl,hwr⟩:=hrel
  subst wr
  have kz:(0:Int) ≤ (k:Int):=by omega
  have v18:=unhide V18 k (by omega)
  obtain ⟨N,hN⟩:∃ N,N = dvN s k:=⟨_,rfl⟩
  rw [← hN] at v18
  by_cases k1:(k:Int) < P
  ·by_cases k2:(k:Int) < M
   ·have hs:=unhide HM
    have hkn:k < s.nd:=by omega
    have k8:(k:Int) < 800:=by omega
    have c2:=(unhide HH).dig k (by omega)
    have hd:=(unhide HD) k hkn
    obtain ⟨v,hv⟩:∃ v:Nat,s.D k = v + 48:=⟨s.D k - 48,by omega⟩
    have hv9:v ≤ 9:=by omega
    obtain ⟨C,hC⟩:∃ C:Int,C = (s.D k:Int):=⟨_,rfl⟩
    rw [← hC] at c2
    have kv:IntKind.u8.wrap (C - 48) = (v:Int):=by rw [IntKind.wrap_u8];omega
    have kv2:IntKind.u64.wrap (v:Int) = (v:Int):=by rw [IntKind.wrap_u64];omega
    have kv3:IntKind.u64.wrap ((N:Int) * 10) = (N:Int) * 10:=by rw [IntKind.wrap_u64];omega
    have kv4:IntKind.u64.wrap ((N:Int) * 10 + (v:Int)) = (N:Int) * 10 + (v:Int):=by rw [IntKind.wrap_u64];omega
    have kw:IntKind.i64.wrap (k:Int) = (k:Int):=by rw [IntKind.wrap_i64];omega
    have hnext:=hide (show (dvN s (k + 1):Int) = (N:Int) * 10 + (v:Int) by
     show ((dvN s k * 10 + dgN s k:Nat):Int) = _
     unfold dgN
     rw [if_pos hkn,hv,← hN]
     omega)
    clear hv hd hC hs
    rw [← hN]
    go_wp2
    go_roundw
    case rel => exact ⟨k + 1,by omega,by go_num,by rw [unhide hnext,hN],trivial⟩
    case measure => simp [intOf];omega
   ·have hks:=hide (show (k:Int) < P → M ≤ (k:Int) from fun g => by omega)
    have HK:=hide hk
    clear hk v18 hN N 
    go_wp2
    go_loopw [3,4] (fun i n wr => ∃ k:Nat,((k:Int) ≤ max P 0 ∧ ((k:Int) < P → M ≤ (k:Int))) ∧ i = .int .i64 k ∧ n = .int .u64 (dvN s k:Int) ∧ wr = w) (fun i n _ => 30 - (intOf i).toNat)
    case atStart => exact ⟨k,⟨unhide HK,unhide hks⟩,rfl,rfl,rfl⟩
    case round =>
     clear hks HK kz
     obtain ⟨j,⟨hj,hj2⟩,rfl,rfl,hwr⟩:=hrel
     subst wr
     have jz:(0:Int) ≤ (j:Int):=by omega
     have v18:=unhide V18 j (by omega)
     by_cases j1:(j:Int) < P
     ·have hs:=unhide HM
      have jn:¬ j < s.nd:=by have:=hj2 j1;omega
      have kv3:IntKind.u64.wrap ((dvN s j:Int) * 10) = (dvN s j:Int) * 10:=by rw [IntKind.wrap_u64];omega
      have hnext:=hide (show (dvN s (j + 1):Int) = (dvN s j:Int) * 10 by
       show ((dvN s j * 10 + dgN s j:Nat):Int) = _
       unfold dgN
       rw [if_neg jn]
       omega)
      have HJ:=hide (hj2 j1)
      have HJ1:=hide j1
      clear hj2 hs jn
      go_wp2
      go_roundw
      case rel => exact ⟨j + 1,⟨by have:=unhide HJ1;omega,fun _ => by have:=unhide HJ;omega⟩,by go_num,by rw [unhide hnext],trivial⟩
      case measure => simp [intOf];omega
     ·have hej:j = P.toNat:=by omega
      have HV:=hide (show dvN s P.toNat = dvN s j by rw [hej])
      clear hj2 hej
      go_wp2_with fail
      refine (unhide RU).mono ?_
      rintro e w1 ⟨rfl,hw⟩
      subst w1
      cases R
      ·go_wp2
       go_ret
       refine ⟨?_,Below.refl _ _⟩
       rw [unhide HV]
       rfl
      ·have kv5:IntKind.u64.wrap ((dvN s j:Int) + 1) = (dvN s j:Int) + 1:=by rw [IntKind.wrap_u64];omega
       go_wp2
       go_ret
       refine ⟨?_,Below.refl _ _⟩
       rw [unhide HV]
       rfl
  ·have hks:=hide (show (k:Int) < P → M ≤ (k:Int) from fun g => by omega)
   have HK:=hide hk
   clear hk v18 hN N 
   go_wp2
   go_loopw [3,4] (fun i n wr => ∃ k:Nat,((k:Int) ≤ max P 0 ∧ ((k:Int) < P → M ≤ (k:Int))) ∧ i = .int .i64 k ∧ n = .int .u64 (dvN s k:Int) ∧ wr = w) (fun i n _ => 30 - (intOf i).toNat)
   case atStart => exact ⟨k,⟨unhide HK,unhide hks⟩,rfl,rfl,rfl⟩
   case round =>
    clear hks HK kz
    obtain ⟨j,⟨hj,hj2⟩,rfl,rfl,hwr⟩:=hrel
    subst wr
    have jz:(0:Int) ≤ (j:Int):=by omega
    have v18:=unhide V18 j (by omega)
    by_cases j1:(j:Int) < P
    ·have hs:=unhide HM
     have jn:¬ j < s.nd:=by have:=hj2 j1;omega
     have kv3:IntKind.u64.wrap ((dvN s j:Int) * 10) = (dvN s j:Int) * 10:=by rw [IntKind.wrap_u64];omega
     have hnext:=hide (show (dvN s (j + 1):Int) = (dvN s j:Int) * 10 by
      show ((dvN s j * 10 + dgN s j:Nat):Int) = _
      unfold dgN
      rw [if_neg jn]
      omega)
     have HJ:=hide (hj2 j1)
     have HJ1:=hide j1
     clear hj2 hs jn
     go_wp2
     go_roundw
     case rel => exact ⟨j + 1,⟨by have:=unhide HJ1;omega,fun _ => by have:=unhide HJ;omega⟩,by go_num,by rw [unhide hnext],trivial⟩
     case measure => simp [intOf];omega
    ·have hej:j = P.toNat:=by omega
     have HV:=hide (show dvN s P.toNat = dvN s j by rw [hej])
     clear hj2 hej
     go_wp2_with fail
     refine (unhide RU).mono ?_
     rintro e w1 ⟨rfl,hw⟩
     subst w1
     cases R
     ·go_wp2
      go_ret
      refine ⟨?_,Below.refl _ _⟩
      rw [unhide HV]
      rfl
     ·have kv5:IntKind.u64.wrap ((dvN s j:Int) + 1) = (dvN s j:Int) + 1:=by rw [IntKind.wrap_u64];omega
      go_wp2
      go_ret
      refine ⟨?_,Below.refl _ _⟩
      rw [unhide HV]
      rfl
end Go.Proofs.YtdogjghalplohaaGreatDoor.dcm
namespace Go.Proofs.YtdogjghalplohaaGreatDoor.dcm
open Go.ChangeShapes Go.WideShapes Go.ChangeAt Go.RowKit
open mem
open ints (hide unhide)
set_option linter.unusedVariables false
theorem and_low (n k:Nat) (hn:n < 18446744073709551616) (hk:k ≤ 60):bits .and .u64 (n:Int) ((2 ^ k - 1:Nat):Int) = ((n % 2 ^ k:Nat):Int):=by
 have hB:2 ^ k ≤ 2 ^ 60:=Nat.pow_le_pow_right (by decide) hk
 have e60:(2:Nat) ^ 60 = 1152921504606846976:=rfl
 have h1:0 < 2 ^ k:=Nat.pow_pos (by decide)
 have h:=u64_and_nat n (2 ^ k - 1) hn (by omega)
 rw [Nat.and_two_pow_sub_one_eq_mod] at h
 exact h
theorem rs_step {x W n B d:Nat} (hB:0 < B) (h:x = W * 10 * B + n):x * 10 + d = (W * 10 + n / B) * 10 * B + (n % B * 10 + d):=by
 have e:=Nat.div_add_mod n B
 generalize n / B = q at *
 generalize n % B = r at *
 subst h
 rw [← e]
 simp only [Nat.add_mul]
 have e1:B * q * 10 = q * 10 * B:=by rw [Nat.mul_comm B q,Nat.mul_right_comm]
 have e2:W * 10 * B * 10 = W * 10 * 10 * B:=Nat.mul_right_comm _ _ _
 omega
theorem rs_rest {n B d:Nat} (hB:0 < B) (hd:d ≤ 9):n % B * 10 + d < 10 * B:=by
 have:=Nat.mod_lt n hB
 omega
theorem rs_dig {n B:Nat} (hB:0 < B) (h:n < 10 * B):n / B ≤ 9:=by
 have:n / B < 10:=Nat.div_lt_of_lt_mul (by rw [Nat.mul_comm];exact h)
 omega
theorem rs_two {n k t:Nat} (h:2 ^ t ∣ n) (ht:t ≤ k):2 ^ (t + 1) ∣ n % 2 ^ k * 10:=by
 have h1:2 ^ t ∣ n % 2 ^ k:=(Nat.dvd_mod_iff (Nat.pow_dvd_pow 2 ht)).2 h
 rw [Nat.pow_succ]
 exact Nat.mul_dvd_mul h1 (by decide)
theorem rs_end {n k:Nat} (h:2 ^ k ∣ n):n % 2 ^ k * 10 = 0:=by rw [Nat.mod_eq_zero_of_dvd h]
end Go.Proofs.YtdogjghalplohaaGreatDoor.dcm
namespace Go.Proofs.YtdogjghalplohaaGreatDoor.dcm
open Go.ChangeShapes Go.WideShapes Go.ChangeAt Go.RowKit
open mem
open ints (hide unhide)
set_option linter.unusedVariables false
def plt (s:Dcs) (c:ByteArray):Nat → Nat → Bool
 | 0,_ => false
 | f + 1,i => if h:i < c.size then (if s.nd ≤ i then true else if s.D i = c[i].toNat then plt s c f (i + 1) else decide (s.D i < c[i].toNat)) else false
theorem plt_end (s:Dcs) (c:ByteArray) (f i:Nat) (h:¬ i < c.size):plt s c f i = false:=by
 cases f with
 | zero => rfl
 | succ f => simp [plt,h]
set_option maxRecDepth 100000 in
set_option maxHeartbeats 1000000 in
theorem plt_ok (b cap:Nat) (s:Dcs) (c:ByteArray) (w:World) (h:Dec w b s) (hn:s.nd ≤ 800) (hc:c.size ≤ 1000) :
  Calls Tryz.prog 237 #[.slice (some ⟨b,0,none⟩) s.nd cap,.string c] w fun e w' => e = .returned (.bool (plt s c c.size 0)) ∧ Below w.heap.size w w':=by
 obtain ⟨R,hR⟩:∃ R,R = plt s c c.size 0:=⟨_,rfl⟩
 rw [← hR]
 have HR:=hide (show plt s c (c.size - 0) 0 = R from hR.symm)
 have HH:=hide h
 have hl:=h.lt
 have ci:(c.size:Int) ≤ 1000:=by omega
 have ni:(s.nd:Int) ≤ 800:=by omega
 clear h hR
 obtain ⟨n,hnd⟩:∃ n,n = s.nd:=⟨_,rfl⟩
 rw [← hnd] at hn ni ⊢
 have HN:=hide hnd
 clear hnd
 go_enter Tryz.func237,Tryz.ntmps237
 go_wp2
 go_loopw [5] (fun i wr => ∃ k:Nat,k ≤ c.size ∧ i = .int .i64 k ∧ Hid (plt s c (c.size - k) k = R) ∧ Dec wr b s ∧ Below w.heap.size w wr) (fun i _ => c.size - (intOf i).toNat)
 case atStart => exact ⟨0,Nat.zero_le _,rfl,HR,unhide HH,Below.refl _ _⟩
 case round =>
  clear HR HH hl
  obtain ⟨k,hk,rfl,hr,hd,hbel⟩:=hrel
  have hl:=hd.lt
  have HD:=hide hd
  have HB:=hide hbel
  clear hd hbel
  by_cases hlt:k < c.size
  ·have hki:(k:Int) < (c.size:Int):=by omega
   have hr2:=unhide hr
   rw [show c.size - k = (c.size - (k + 1)) + 1 by omega] at hr2
   unfold plt at hr2
   rw [dif_pos hlt,← unhide HN] at hr2
   clear hr
   by_cases hnk:n ≤ k
   ·have hni:(n:Int) ≤ (k:Int):=by omega
    rw [if_pos hnk] at hr2
    subst hr2
    go_wp2
    go_ret
    exact ⟨rfl,unhide HB⟩
   ·have hni:(k:Int) < (n:Int):=by omega
    have kz:(0:Int) ≤ (k:Int):=by omega
    rw [if_neg hnk] at hr2
    have c1:=(unhide HD).dig k (by omega)
    obtain ⟨C,hC⟩:∃ C:Int,C = (s.D k:Int):=⟨_,rfl⟩
    rw [← hC] at c1
    have kw:IntKind.i64.wrap (k:Int) = (k:Int):=by rw [IntKind.wrap_i64];omega
    by_cases he:s.D k = c[k].toNat
    ·have hb:(C != (c[k].toNat:Int)) = false:=by rw [hC,he];simp
     rw [if_pos he] at hr2
     have Hr:=hide hr2
     clear hr2 he hC hnk
     go_wp2_with fail
     go_region_held3 (fun w' => w'.cell? ⟨b,k,none⟩ = some (.int .u8 C)) (go_keep) (fail)
     go_wp2
     go_roundw
     case rel => exact ⟨k + 1,by omega,by go_num,Hr,(unhide HD).drew,(unhide HB).drew⟩
     case measure => simp [intOf];omega
    ·have hb:(C != (c[k].toNat:Int)) = true:=by rw [hC];simp;omega
     rw [if_neg he] at hr2
     have hdec:=hide (show decide (C < (c[k].toNat:Int)) = R by rw [← hr2,hC];simp)
     clear hr2 he hC hnk
     go_wp2_with fail
     go_region_held3 (fun w' => w'.cell? ⟨b,k,none⟩ = some (.int .u8 C)) (go_keep) (fail)
     go_wp2_with fail
     go_region_held3 (fun w' => w'.cell? ⟨b,k,none⟩ = some (.int .u8 C)) (go_keep) (fail)
     go_wp2
     go_ret
     refine ⟨?_,(unhide HB).drew.drew⟩
     rw [← unhide hdec]
     rfl
  ·have hki:¬ (k:Int) < (c.size:Int):=by omega
   have hr2:=unhide hr
   rw [plt_end s c _ k hlt] at hr2
   subst hr2
   clear hr
   go_wp2
   go_ret
   exact ⟨rfl,unhide HB⟩
end Go.Proofs.YtdogjghalplohaaGreatDoor.dcm
namespace Go.Proofs.YtdogjghalplohaaGreatDoor.dcm
set_option linter.unusedVariables false
def Gr (X Y L c e:Nat):Prop:=∀ m,m * Y ≤ X * 2 ^ e ↔ m * 10 ^ c ≤ L * 2 ^ e
theorem two_split {a b:Nat} (h:a ≤ b):(2:Nat) ^ b = 2 ^ (b - a) * 2 ^ a:=by rw [← Nat.pow_add];congr 1;omega
theorem ten_split {a b:Nat} (h:a ≤ b):(10:Nat) ^ b = 10 ^ (b - a) * 10 ^ a:=by rw [← Nat.pow_add];congr 1;omega
theorem two_ten {e c:Nat} (h:e ≤ c):(10:Nat) ^ c = 5 ^ e * 10 ^ (c - e) * 2 ^ e:=by
 rw [ten_split h,show (10:Nat) = 5 * 2 by rfl,Nat.mul_pow 5 2 e,Nat.mul_comm (_ ^ (c - e)),Nat.mul_right_comm]
theorem le_mul_iff {a b k:Nat} (hk:0 < k):a * k ≤ b * k ↔ a ≤ b:=⟨fun h => Nat.le_of_mul_le_mul_right h hk,fun h => Nat.mul_le_mul_right k h⟩
theorem Gr.mono {X Y L c e e':Nat} (h:Gr X Y L c e) (he:e' ≤ e):Gr X Y L c e':=fun m => by
 have hk:0 < 2 ^ (e - e'):=Nat.two_pow_pos _
 have g:=h (m * 2 ^ (e - e'))
 rw [two_split he] at g
 have e1:m * 2 ^ (e - e') * Y = m * Y * 2 ^ (e - e'):=Nat.mul_right_comm _ _ _
 have e2:X * (2 ^ (e - e') * 2 ^ e') = X * 2 ^ e' * 2 ^ (e - e'):=by rw [Nat.mul_comm (2 ^ (e - e')),Nat.mul_assoc]
 have e3:m * 2 ^ (e - e') * 10 ^ c = m * 10 ^ c * 2 ^ (e - e'):=Nat.mul_right_comm _ _ _
 have e4:L * (2 ^ (e - e') * 2 ^ e') = L * 2 ^ e' * 2 ^ (e - e'):=by rw [Nat.mul_comm (2 ^ (e - e')),Nat.mul_assoc]
 rw [e1,e2,e3,e4,le_mul_iff hk,le_mul_iff hk] at g
 exact g
theorem floor_pt {m c e N B:Nat} (hB:0 < B) (he:e ≤ c):m * 10 ^ c ≤ N / B * 2 ^ e ↔ m * 10 ^ c * B ≤ N * 2 ^ e:=by
 rw [two_ten he]
 generalize 5 ^ e * 10 ^ (c - e) = q
 have hk:0 < 2 ^ e:=Nat.two_pow_pos _
 have e1:m * (q * 2 ^ e) = m * q * 2 ^ e:=(Nat.mul_assoc _ _ _).symm
 rw [e1,le_mul_iff hk,Nat.mul_right_comm (m * q),le_mul_iff hk,Nat.le_div_iff_mul_le hB]
theorem Gr.left {X Y L c e k d:Nat} (h:Gr X Y L c (e + k)) (hd:d ≤ c) (he:e ≤ c - d):Gr (X * 2 ^ k) Y (L * 2 ^ k / 10 ^ d) (c - d) e:=fun m => by
 have hB:0 < 10 ^ d:=Nat.pow_pos (by decide)
 rw [floor_pt hB he]
 have g:=h m
 rw [Nat.pow_add,ten_split hd] at g
 have e1:X * 2 ^ k * 2 ^ e = X * (2 ^ e * 2 ^ k):=by rw [Nat.mul_comm (2 ^ e),Nat.mul_assoc]
 have e2:L * 2 ^ k * 2 ^ e = L * (2 ^ e * 2 ^ k):=by rw [Nat.mul_comm (2 ^ e),Nat.mul_assoc]
 rw [e1,e2,Nat.mul_assoc]
 exact g
theorem Gr.right {X Y L c e e':Nat} (k j:Nat) (h:Gr X Y L c e) (h1:e' ≤ e + k) (h2:e' ≤ c + j):Gr X (Y * 2 ^ k) (L * 10 ^ j / 2 ^ k) (c + j) e':=fun m => by
 have hB:0 < 2 ^ k:=Nat.two_pow_pos _
 have hj:0 < 10 ^ j:=Nat.pow_pos (by decide)
 rw [floor_pt hB h2,Nat.pow_add]
 have e0:m * (10 ^ c * 10 ^ j) * 2 ^ k = m * 2 ^ k * 10 ^ c * 10 ^ j:=by
  rw [← Nat.mul_assoc,Nat.mul_right_comm,Nat.mul_right_comm m (10 ^ c)]
 have e9:L * 10 ^ j * 2 ^ e' = L * 2 ^ e' * 10 ^ j:=Nat.mul_right_comm _ _ _
 rw [e0,e9,le_mul_iff hj]
 rcases Nat.lt_or_ge e' k with g | g
 ·have q:=(h.mono (Nat.zero_le e)) (m * 2 ^ (k - e'))
  rw [Nat.pow_zero,Nat.mul_one,Nat.mul_one] at q
  have hk:0 < 2 ^ e':=Nat.two_pow_pos _
  rw [two_split (Nat.le_of_lt g)]
  have a1:m * (Y * (2 ^ (k - e') * 2 ^ e')) = m * 2 ^ (k - e') * Y * 2 ^ e':=by
   rw [← Nat.mul_assoc,← Nat.mul_assoc,Nat.mul_right_comm m Y]
  have a2:m * (2 ^ (k - e') * 2 ^ e') * 10 ^ c = m * 2 ^ (k - e') * 10 ^ c * 2 ^ e':=by
   rw [← Nat.mul_assoc,Nat.mul_right_comm _ (2 ^ e')]
  rw [a1,a2,le_mul_iff hk,le_mul_iff hk]
  exact q
 ·have q:=(h.mono (e':=e' - k) (by omega)) m
  rw [two_split g]
  have a1:m * (Y * 2 ^ k) = m * Y * 2 ^ k:=(Nat.mul_assoc _ _ _).symm
  have a2:X * (2 ^ (e' - k) * 2 ^ k) = X * 2 ^ (e' - k) * 2 ^ k:=(Nat.mul_assoc _ _ _).symm
  have a3:m * 2 ^ k * 10 ^ c = m * 10 ^ c * 2 ^ k:=Nat.mul_right_comm _ _ _
  have a4:L * (2 ^ (e' - k) * 2 ^ k) = L * 2 ^ (e' - k) * 2 ^ k:=(Nat.mul_assoc _ _ _).symm
  rw [a1,a2,a3,a4,le_mul_iff hB,le_mul_iff hB]
  exact q
theorem Gr.start {X Y c e:Nat} (hY:0 < Y) (he:e ≤ c):Gr X Y (X * 10 ^ c / Y) c e:=fun m => by
 have hj:0 < 10 ^ c:=Nat.pow_pos (by decide)
 rw [floor_pt hY he,Nat.mul_right_comm X,Nat.mul_right_comm m,le_mul_iff hj]
structure Ex (X Y L c:Nat) (tr:Bool):Prop where
 same:tr = false → L * Y = X * 10 ^ c
 less:tr = true → L * Y < X * 10 ^ c
theorem Ex.le {X Y L c:Nat} {tr:Bool} (h:Ex X Y L c tr):L * Y ≤ X * 10 ^ c:=by
 cases tr
 ·exact Nat.le_of_eq (h.same rfl)
 ·exact Nat.le_of_lt (h.less rfl)
theorem Ex.start {X Y c:Nat} (hY:0 < Y):Ex X Y (X * 10 ^ c / Y) c (decide (X * 10 ^ c % Y ≠ 0)):=by
 have e:=Nat.div_add_mod (X * 10 ^ c) Y
 rw [Nat.mul_comm Y] at e
 constructor
 ·intro h
  have:X * 10 ^ c % Y = 0:=by simpa using h
  omega
 ·intro h
  have:X * 10 ^ c % Y ≠ 0:=by simpa using h
  omega
theorem Ex.cut {N B:Nat} {tr:Bool} (hB:0 < B) (X' Y' c':Nat)
  (h1:tr = false → N * Y' = X' * 10 ^ c' * B) (h2:tr = true → N * Y' < X' * 10 ^ c' * B) (hY':0 < Y'):Ex X' Y' (N / B) c' (tr || decide (N % B ≠ 0)):=by
 have e:=Nat.div_add_mod N B
 have hle:N * Y' ≤ X' * 10 ^ c' * B:=by
  cases tr
  ·exact Nat.le_of_eq (h1 rfl)
  ·exact Nat.le_of_lt (h2 rfl)
 generalize N / B = q at *
 generalize N % B = r at *
 have eN:N * Y' = q * Y' * B + r * Y':=by rw [← e,Nat.add_mul,Nat.mul_comm B q,Nat.mul_right_comm]
 constructor
 ·intro h
  cases tr
  ·have hr:r = 0:=by simpa using h
   have:=h1 rfl
   rw [eN,hr,Nat.zero_mul,Nat.add_zero] at this
   exact Nat.eq_of_mul_eq_mul_right hB this
  ·simp at h
 ·intro h
  by_cases hr:r = 0
  ·have:tr = true:=by cases tr <;> simp_all
   have:=h2 this
   rw [eN,hr,Nat.zero_mul,Nat.add_zero] at this
   exact Nat.lt_of_mul_lt_mul_right this
  ·have:0 < r * Y':=Nat.mul_pos (by omega) hY'
   exact Nat.lt_of_mul_lt_mul_right (a:=B) (by omega)
theorem Ex.left {X Y L c k d:Nat} {tr:Bool} (h:Ex X Y L c tr) (hY:0 < Y) (hd:d ≤ c):Ex (X * 2 ^ k) Y (L * 2 ^ k / 10 ^ d) (c - d) (tr || decide (L * 2 ^ k % 10 ^ d ≠ 0)):=by
 have hk:0 < 2 ^ k:=Nat.two_pow_pos _
 have e1:L * 2 ^ k * Y = L * Y * 2 ^ k:=Nat.mul_right_comm _ _ _
 have e2:X * 2 ^ k * 10 ^ (c - d) * 10 ^ d = X * 10 ^ c * 2 ^ k:=by rw [ten_split hd,Nat.mul_assoc,Nat.mul_right_comm]
 refine Ex.cut (Nat.pow_pos (by decide)) _ _ _ (fun g => ?_) (fun g => ?_) hY
 ·rw [e1,e2,h.same g]
 ·rw [e1,e2];exact Nat.mul_lt_mul_of_pos_right (h.less g) hk
theorem Ex.right {X Y L c:Nat} {tr:Bool} (k j:Nat) (h:Ex X Y L c tr) (hY:0 < Y):Ex X (Y * 2 ^ k) (L * 10 ^ j / 2 ^ k) (c + j) (tr || decide (L * 10 ^ j % 2 ^ k ≠ 0)):=by
 have hk:0 < 2 ^ k:=Nat.two_pow_pos _
 have hj:0 < 10 ^ j:=Nat.pow_pos (by decide)
 have e1:L * 10 ^ j * (Y * 2 ^ k) = L * Y * (10 ^ j * 2 ^ k):=by rw [Nat.mul_mul_mul_comm]
 have e2:X * 10 ^ (c + j) * 2 ^ k = X * 10 ^ c * (10 ^ j * 2 ^ k):=by rw [Nat.pow_add];simp only [Nat.mul_assoc]
 refine Ex.cut hk _ _ _ (fun g => ?_) (fun g => ?_) (Nat.mul_pos hY hk)
 ·rw [e1,e2,h.same g]
 ·rw [e1,e2];exact Nat.mul_lt_mul_of_pos_right (h.less g) (Nat.mul_pos hj hk)
def rn (X Y:Nat):Nat:=X / Y + (decide (Y < 2 * (X % Y)) || (decide (Y = 2 * (X % Y)) && decide (X / Y % 2 = 1))).toNat
def rnD (L B:Nat) (tr:Bool):Nat:=L / B + (decide (B < 2 * (L % B)) || (decide (B = 2 * (L % B)) && (tr || decide (L / B % 2 = 1)))).toNat
theorem half_pt {X Y:Nat} (hY:0 < Y):(2 * X / Y = 2 * (X / Y) ∧ 2 * (X % Y) < Y) ∨ (2 * X / Y = 2 * (X / Y) + 1 ∧ Y ≤ 2 * (X % Y)):=by
 have e:=Nat.div_add_mod X Y
 have hl:=Nat.mod_lt X hY
 generalize X / Y = q at *
 generalize X % Y = r at *
 subst e
 have e2:2 * (Y * q + r) = 2 * r + Y * (2 * q):=by rw [Nat.mul_add,Nat.mul_left_comm];omega
 rw [e2,Nat.add_mul_div_left _ _ hY]
 rcases Nat.lt_or_ge (2 * r) Y with g | g
 ·left;rw [Nat.div_eq_of_lt g];omega
 ·right
  have:2 * r / Y = 1:=by
   rw [Nat.div_eq_iff hY];omega
  omega
theorem rn_same {X Y L c:Nat} {tr:Bool} (hY:0 < Y) (hg:Gr X Y L c 1) (hx:Ex X Y L c tr):rnD L (10 ^ c) tr = rn X Y:=by
 have hB:0 < 10 ^ c:=Nat.pow_pos (by decide)
 have ef:2 * X / Y = 2 * L / 10 ^ c:=by
  have key:∀ m,m ≤ 2 * X / Y ↔ m ≤ 2 * L / 10 ^ c:=fun m => by
   rw [Nat.le_div_iff_mul_le hY,Nat.le_div_iff_mul_le hB]
   have:=hg m
   rw [Nat.pow_one,Nat.mul_comm X,Nat.mul_comm L] at this
   exact this
  exact Nat.le_antisymm ((key _).1 (Nat.le_refl _)) ((key _).2 (Nat.le_refl _))
 have hX:=half_pt (X:=X) hY
 have hL:=half_pt (X:=L) hB
 have eX:=Nat.div_add_mod X Y
 have eL:=Nat.div_add_mod L (10 ^ c)
 have hq:X / Y = L / 10 ^ c:=by omega
 have hs:=hx.same
 have hl:=hx.less
 have hle:=hx.le
 clear hx hg
 unfold rn rnD
 rw [hq] at eX hX ⊢
 generalize L / 10 ^ c = q at *
 generalize L % 10 ^ c = r at *
 generalize X % Y = s at *
 generalize 10 ^ c = B at *
 have eLY:L * Y = B * q * Y + r * Y:=by rw [← eL,Nat.add_mul]
 have eXB:X * B = B * q * Y + s * B:=by rw [← eX,Nat.add_mul,Nat.mul_comm Y q,Nat.mul_right_comm q Y B,Nat.mul_comm q B]
 rw [eLY,eXB] at hs hl hle
 by_cases h1:2 * r < B
 ·have h2:2 * s < Y:=by omega
  have a1:¬ B < 2 * r:=by omega
  have a2:¬ B = 2 * r:=by omega
  have a3:¬ Y < 2 * s:=by omega
  have a4:¬ Y = 2 * s:=by omega
  simp [a1,a2,a3,a4]
 ·have h2:Y ≤ 2 * s:=by omega
  by_cases h3:B = 2 * r
  ·subst h3
   cases tr
   ·have:=hs rfl
    have e5:r * Y = s * (2 * r):=by omega
    have hr:0 < r:=by omega
    have:Y = 2 * s:=by
     have:r * Y = r * (2 * s):=by rw [e5,Nat.mul_left_comm,← Nat.mul_assoc];exact Nat.mul_comm _ _
     exact Nat.eq_of_mul_eq_mul_left hr this
    simp [this]
   ·have:=hl rfl
    have e5:r * Y < s * (2 * r):=by omega
    have:Y < 2 * s:=by
     have:r * Y < r * (2 * s):=by
      have:s * (2 * r) = r * (2 * s):=by rw [Nat.mul_left_comm,Nat.mul_left_comm r,Nat.mul_comm s r]
      omega
     exact Nat.lt_of_mul_lt_mul_left this
    simp [this]
  ·have h4:B < 2 * r:=by omega
   have:Y < 2 * s:=by
    rcases Nat.lt_or_ge Y (2 * s) with g | g
    ·exact g
    ·exfalso
     have e6:Y = 2 * s:=by omega
     subst e6
     have hs0:0 < s:=by omega
     have e7:r * (2 * s) ≤ s * B:=by omega
     have e8:r * (2 * s) = s * (2 * r):=by rw [Nat.mul_left_comm,Nat.mul_left_comm s,Nat.mul_comm s r]
     rw [e8] at e7
     have:=Nat.le_of_mul_le_mul_left e7 hs0
     omega
   simp [h4,this]
end Go.Proofs.YtdogjghalplohaaGreatDoor.dcm
