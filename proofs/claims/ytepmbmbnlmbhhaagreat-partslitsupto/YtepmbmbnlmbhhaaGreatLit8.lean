import Derived.Test.YtepmbmbnlmbhhaaGreatLit7
import Derived.Deep.RegionHeld3
import Derived.Deep.RegionWith
set_option linter.unusedVariables false
set_option linter.unusedSimpArgs false
namespace Go.Proofs.YtepmbmbnlmbhhaaGreat.cu
open Go.ChangeShapes Go.WideShapes Go.ChangeAt Go.RowKit
open ints (Hi uh)
open dt (Dt Kp RowAt)
theorem str_beq (a b:ByteArray):(a.toList == b.toList) = decide (a = b):=by
 rw [ByteArray.toList_eq,ByteArray.toList_eq]
 by_cases h:a = b
 ·subst h;simp
 ·rw [decide_eq_false h,beq_eq_false_iff_ne]
  intro e
  apply h
  have:a.data = b.data:=Array.toList_inj.1 e
  cases a;cases b;simp at this;simp [this]
theorem isPunct_ok (B p:Nat) (c:Cu) (q:ByteArray) (w:World) (h:CurAt w B p c):Calls Tryz.prog 33 #[ptr B,.string q] w fun e w' => e = .returned (.bool (c.isP q)) ∧ Below w.heap.size w w':=by
 have hd:=Hi (fun W (bb:Below w.heap.size w W) => dead_ok B p c W (h.below bb))
 have ht:=Hi (fun W (bb:Below w.heap.size w W) => token_ok B p c W (h.below bb))
 have hB:=Hi h.lt
 have hP:=Hi (show c.isP q = decide (c.kd = 0 ∧ c.tok.k = 2 ∧ c.tok.tx = q) from rfl)
 obtain ⟨R,hR⟩:∃ R,R = c.isP q:=⟨_,rfl⟩
 rw [← hR] at hP ⊢
 obtain ⟨kd,hk⟩:∃ kd,kd = c.kd:=⟨_,rfl⟩
 obtain ⟨t,hk3⟩:∃ t,t = c.tok:=⟨_,rfl⟩
 rw [← hk] at hd
 rw [← hk3] at ht
 rw [← hk3,← hk] at hP
 clear h hk hk3 hR
 unfold ptr at hd ht ⊢
 unfold Tk.cells at ht
 go_enter Tryz.func33,Tryz.ntmps33
 go_wp2_with fail
 refine ((uh hd) w (Below.refl _ _)).mono ?_
 rintro e w1 ⟨rfl,rfl⟩
 by_cases hk:kd = 0
 ·subst hk
  go_wp2_with fail
  refine ((uh ht) _ (Below.refl _ _)).mono ?_
  rintro e w2 ⟨rfl,b2⟩
  by_cases h2:t.k = 2
  ·have e2:(t.k == 2) = true:=by simpa using h2
   have hP2:=Hi (show R = decide (t.tx = q) from by rw [uh hP];simp [h2])
   clear h2
   go_wp2_with fail
   go_ret
   exact ⟨by rw [uh hP2,← str_beq];rfl,b2.alloc b2.size _⟩
  ·have e2:(t.k == 2) = false:=by simpa using h2
   have hP2:=Hi (show R = false from by rw [uh hP];simp [h2])
   go_wp2_with fail
   go_ret
   exact ⟨by rw [uh hP2];rfl,b2.alloc b2.size _⟩
 ·have ek:(kd != 0) = true:=by simpa using hk
  have hP2:=Hi (show R = false from by rw [uh hP];simp [hk])
  clear hk
  go_wp2_with fail
  go_ret
  exact ⟨by rw [uh hP2];rfl,Below.refl _ _⟩
set_option maxRecDepth 4000 in
theorem isName_ok (B p:Nat) (c:Cu) (w:World) (h:CurAt w B p c):Calls Tryz.prog 81 #[ptr B] w fun e w' => e = .returned (.bool c.isN) ∧ Below w.heap.size w w':=by
 have hd:=Hi (fun W (bb:Below w.heap.size w W) => dead_ok B p c W (h.below bb))
 have ht:=Hi (fun W (bb:Below w.heap.size w W) => token_ok B p c W (h.below bb))
 have hP:=Hi (show c.isN = decide (c.kd = 0 ∧ c.tok.k = 3) from rfl)
 have hf:=fld_kind c.tok
 obtain ⟨R,hR⟩:∃ R,R = c.isN:=⟨_,rfl⟩
 rw [← hR] at hP ⊢
 obtain ⟨kd,hk⟩:∃ kd,kd = c.kd:=⟨_,rfl⟩
 obtain ⟨t,hk3⟩:∃ t,t = c.tok:=⟨_,rfl⟩
 rw [← hk] at hd
 rw [← hk3] at ht hf
 rw [← hk3,← hk] at hP
 clear h hk hk3 hR
 unfold ptr at hd ht ⊢
 unfold Tk.cells at ht
 go_enter Tryz.func81,Tryz.ntmps81
 go_wp2_with fail
 refine ((uh hd) w (Below.refl _ _)).mono ?_
 rintro e w1 ⟨rfl,rfl⟩
 by_cases hk:kd = 0
 ·subst hk
  go_wp2_with fail
  refine ((uh ht) _ (Below.refl _ _)).mono ?_
  rintro e w2 ⟨rfl,b2⟩
  by_cases h3:t.k = 3
  ·have e3:(t.k == 3) = true:=by simpa using h3
   have hP2:=Hi (show R = true from by rw [uh hP];simp [h3])
   clear h3
   go_wp2_with fail
   go_ret
   exact ⟨by rw [uh hP2];rfl,b2⟩
  ·have e3:(t.k == 3) = false:=by simpa using h3
   have hP2:=Hi (show R = false from by rw [uh hP];simp [h3])
   clear h3
   go_wp2_with fail
   go_ret
   exact ⟨by rw [uh hP2];rfl,b2⟩
 ·have ek:(kd != 0) = true:=by simpa using hk
  have hP2:=Hi (show R = false from by rw [uh hP];simp [hk])
  clear hk
  go_wp2_with fail
  go_ret
  exact ⟨by rw [uh hP2];rfl,Below.refl _ _⟩
theorem CurAt.ix {w:World} {B p:Nat} {c:Cu} (h:CurAt w B p c) (i:Nat) (hok:(⟨c.ts,i,c.op,c.mo,c.kd⟩:Cu).Ok):CurAt (w.setCell ⟨B,1,none⟩ (.int .i64 i)) B p ⟨c.ts,i,c.op,c.mo,c.kd⟩:=by
 obtain ⟨cap,h1,h2,h3,h4⟩:=h.box
 exact ⟨hok,h.len,cap,(dt.heap_setCell_at h1 1 _).trans rfl,h2,by simpa using h3,fun j t ht m u hu => ((Kp.refl B w).set 1 (.int .i64 i)).cell h3 h2 |>.trans (h4 j t ht m u hu)⟩
theorem CurAt.opn {w:World} {B p:Nat} {c:Cu} (h:CurAt w B p c) (i:Nat) (hok:(⟨c.ts,c.ix,i,c.mo,c.kd⟩:Cu).Ok):CurAt (w.setCell ⟨B,2,none⟩ (.int .i64 i)) B p ⟨c.ts,c.ix,i,c.mo,c.kd⟩:=by
 obtain ⟨cap,h1,h2,h3,h4⟩:=h.box
 exact ⟨hok,h.len,cap,(dt.heap_setCell_at h1 2 _).trans rfl,h2,by simpa using h3,fun j t ht m u hu => ((Kp.refl B w).set 2 (.int .i64 i)).cell h3 h2 |>.trans (h4 j t ht m u hu)⟩
theorem CurAt.kind {w:World} {B p:Nat} {c:Cu} (h:CurAt w B p c) (k:Int):CurAt (w.setCell ⟨B,4,none⟩ (.int .i64 k)) B p ⟨c.ts,c.ix,c.op,c.mo,k⟩:=by
 obtain ⟨cap,h1,h2,h3,h4⟩:=h.box
 exact ⟨⟨h.ok.lt,h.ok.more,h.ok.op,h.ok.mo⟩,h.len,cap,(dt.heap_setCell_at h1 4 _).trans rfl,h2,by simpa using h3,fun j t ht m u hu => ((Kp.refl B w).set 4 (.int .i64 k)).cell h3 h2 |>.trans (h4 j t ht m u hu)⟩
theorem refuse_ok (B p:Nat) (c:Cu) (k:Int) (w:World) (h:CurAt w B p c):Calls Tryz.prog 86 #[ptr B,.int .i64 k] w fun e w' => e = .returned (.tuple #[]) ∧ CurAt w' B p (c.stop k) ∧ Kp B w w':=by
 have hd:=Hi (dead_ok B p c w h)
 have hK:=Hi h.kind
 have hB:=h.lt
 obtain ⟨cap,h1,h2,h3,h4⟩:=h.box
 have d4:w.cell? ⟨B,4,none⟩ = some (.int .i64 c.kd):=(dt.cell_cells h1 4).trans rfl
 have f4:w.frozen? ⟨B,4,none⟩ = false:=dt.frozen_cells h1 4
 have hs:=Hi (show c.stop k = if c.kd = 0 then ⟨c.ts,c.ix,c.op,c.mo,k⟩ else c from rfl)
 have HH:=Hi h
 clear h h1 h4
 unfold ptr at hd ⊢
 go_enter Tryz.func86,Tryz.ntmps86
 go_wp2_with fail
 refine (uh hd).mono ?_
 rintro e w1 ⟨rfl,rfl⟩
 by_cases hk:c.kd = 0
 ·have ek:(c.kd != 0) = false:=by simpa using hk
  have hs2:=Hi (show c.stop k = ⟨c.ts,c.ix,c.op,c.mo,k⟩ from by rw [uh hs,if_pos hk])
  clear hk hs
  go_wp2_with fail
  go_end0
  rw [uh hs2]
  exact ⟨rfl,(uh hK) k,(Kp.refl _ _).set 4 _⟩
 ·have ek:(c.kd != 0) = true:=by simpa using hk
  have hs2:=Hi (show c.stop k = c from by rw [uh hs,if_neg hk])
  clear hk hs
  go_wp2_with fail
  go_end0
  rw [uh hs2]
  exact ⟨rfl,uh HH,Kp.refl _ _⟩
theorem refuse0_ok (B p:Nat) (c:Cu) (w:World) (h:CurAt w B p c):Calls Tryz.prog 51 #[ptr B] w fun e w' => e = .returned (.tuple #[]) ∧ CurAt w' B p (c.stop 70) ∧ Kp B w w':=by
 have hr:=Hi (refuse_ok B p c 70 w h)
 clear h
 unfold ptr at hr ⊢
 go_enter Tryz.func51,Tryz.ntmps51
 go_wp2_with fail
 refine (uh hr).mono ?_
 rintro e w1 ⟨rfl,hc,hk⟩
 clear hr
 go_wp2_with fail
 go_end0
 exact ⟨rfl,hc,hk⟩
theorem holds_ok (B p:Nat) (c:Cu) (so:Bool) (w:World) (h:CurAt w B p c):Calls Tryz.prog 67 #[ptr B,.bool so] w fun e w' => e = .returned (.bool so) ∧ CurAt w' B p (if so then c else c.stop 70) ∧ Kp B w w':=by
 have hr:=Hi (refuse0_ok B p c w h)
 have HH:=Hi h
 clear h
 unfold ptr at hr ⊢
 cases so
 ·go_enter Tryz.func67,Tryz.ntmps67
  go_wp2_with fail
  refine (uh hr).mono ?_
  rintro e w1 ⟨rfl,hc,hk⟩
  clear hr
  go_wp2_with fail
  go_ret
  exact ⟨rfl,hc,hk⟩
 ·go_enter Tryz.func67,Tryz.ntmps67
  go_wp2_with fail
  go_ret
  exact ⟨rfl,uh HH,Kp.refl _ _⟩
set_option maxHeartbeats 1000000 in
theorem take_ok (B p:Nat) (c:Cu) (w:World) (h:CurAt w B p c) (hm:c.ix + 1 < c.ts.length):Calls Tryz.prog 87 #[ptr B] w fun e w' => e = .returned (.agg c.tok.cells.toArray) ∧ CurAt w' B p c.take ∧ Kp B w w':=by
 have hT:=Hi (fun W (bb:Below w.heap.size w W) => (h.below bb).ix (c.ix + 1) ⟨hm,h.ok.more,h.ok.op,h.ok.mo⟩)
 have hlt:=h.lt
 have hix:=h.ok.lt
 have hlen:=h.len
 obtain ⟨cap,h1,h2,h3,h4⟩:=h.box
 have hr:=h4 c.ix c.tok (c.get hix)
 have d0:w.cell? ⟨B,0,none⟩ = some (.slice (some ⟨p,0,none⟩) c.ts.length cap):=(dt.cell_cells h1 0).trans rfl
 have d1:w.cell? ⟨B,1,none⟩ = some (.int .i64 c.ix):=(dt.cell_cells h1 1).trans rfl
 have f1:w.frozen? ⟨B,1,none⟩ = false:=dt.frozen_cells h1 1
 have hct:Hid (c.take = ⟨c.ts,c.ix + 1,c.op,c.mo,c.kd⟩):=Hi rfl
 obtain ⟨C,hC⟩:∃ C,C = c.take:=⟨_,rfl⟩
 rw [← hC] at hct ⊢
 rw [← uh hct] at hT
 obtain ⟨ix,hk⟩:∃ ix,ix = c.ix:=⟨_,rfl⟩
 obtain ⟨n,hk2⟩:∃ n,n = c.ts.length:=⟨_,rfl⟩
 obtain ⟨t,hk3⟩:∃ t,t = c.tok:=⟨_,rfl⟩
 rw [← hk,← hk2] at hix hm
 rw [← hk2] at d0 hlen
 rw [← hk] at d1 hr hT
 rw [← hk3] at hr ⊢
 clear h h1 h4 hk hk2 hk3 hC hct
 have bA:∀ o,Below w.heap.size w (w.alloc o):=fun o => ba
 have bA2:∀ o o',Below w.heap.size w ((w.alloc o).alloc o'):=fun o o' => (bA o).alloc (bA o).size _
 have D0:∀ o,(w.alloc o).cell? ⟨B,0,none⟩ = some (.slice (some ⟨p,0,none⟩) n cap):=fun o => ((bA o).cell (p:=⟨B,0,none⟩) hlt).trans d0
 have D1:∀ o,(w.alloc o).cell? ⟨B,1,none⟩ = some (.int .i64 ix):=fun o => ((bA o).cell (p:=⟨B,1,none⟩) hlt).trans d1
 have hR:=Hi (fun o => hr.below (bA o))
 have HA:=Hi bA
 clear d0 d1 hr bA
 have ii:(ix:Int) < (n:Int):=by omega
 have E:∀ (j:Nat) (u:Value) o,t.cells[j]? = some u → (w.alloc o).cell? ⟨p,ix * 7 + j,none⟩ = some u:=fun j u o hu => (uh hR) o j u hu
 have e0:∀ o,(w.alloc o).cell? ⟨p,ix * 7,none⟩ = some (.int .i64 t.k):=fun o => E 0 _ o rfl
 have e1:∀ o,(w.alloc o).cell? ⟨p,ix * 7 + 1,none⟩ = some (.int .i64 t.ln):=fun o => E 1 _ o rfl
 have e2:∀ o,(w.alloc o).cell? ⟨p,ix * 7 + 2,none⟩ = some (.int .i64 t.co):=fun o => E 2 _ o rfl
 have e3:∀ o,(w.alloc o).cell? ⟨p,ix * 7 + 3,none⟩ = some (.int .i64 t.fr):=fun o => E 3 _ o rfl
 have e4:∀ o,(w.alloc o).cell? ⟨p,ix * 7 + 4,none⟩ = some (.int .i64 t.to):=fun o => E 4 _ o rfl
 have e5:∀ o,(w.alloc o).cell? ⟨p,ix * 7 + 5,none⟩ = some (.string t.tx):=fun o => E 5 _ o rfl
 have e6:∀ o,(w.alloc o).cell? ⟨p,ix * 7 + 6,none⟩ = some (.string t.va):=fun o => E 6 _ o rfl
 clear E hR
 unfold ptr
 go_enter Tryz.func87,Tryz.ntmps87
 go_wp2_with fail
 go_region
 go_wp2_with fail
 have hC1:=(uh hT) w (Below.refl _ _)
 have hix1:(((ix + 1:Nat):Int)) = (ix:Int) + 1:=by omega
 rw [hix1] at hC1
 have hK1:=(Kp.refl B w).set 1 (.int .i64 ((ix:Int) + 1))
 obtain ⟨X,hX⟩:∃ X,X = w.setCell ⟨B,1,none⟩ (.int .i64 ((ix:Int) + 1)):=⟨_,rfl⟩
 have hXs:X.heap.size = w.heap.size:=by rw [hX];simp
 rw [← hX] at hC1 hK1 ⊢
 clear hX
 have bX:∀ o o',Below X.heap.size X ((X.alloc o).alloc o').drew:=fun o o' => Go.below_drewN ((((Below.refl _ _).alloc (Nat.le_refl _) o)).alloc (by simp) o') 1
 have hQ:∀ o o',((X.alloc o).alloc o').drew.heap[w.heap.size]? = some o:=fun o o' => by
  rw [← hXs]
  have e1:=heap_alloc_new X o
  have e2:=Below.heap_alloc (X.alloc o) o' X.heap.size (by simp)
  exact e2.trans e1
 refine bodyPost_ret (rgn.result_row rfl _ _ w.heap.size 0 t.cells _ rfl (dt.range_cells (hQ _ _) 0 t.cells (fun j u hu => by rw [Nat.zero_add];simpa [Tk.cells] using hu)) Tryz.underlying77 rfl lx.infoTk) rfl ?_
 exact ⟨rfl,hC1.below (bX _ _),hK1.trans (Kp.of (bX _ _))⟩
theorem takeIf_ok (B p:Nat) (c:Cu) (so:Bool) (w:World) (h:CurAt w B p c) (hm:so = true → c.ix + 1 < c.ts.length):Calls Tryz.prog 83 #[ptr B,.bool so] w fun e w' => e = .returned (.bool so) ∧ CurAt w' B p (if so then c.take else c) ∧ Kp B w w':=by
 have HH:=Hi h
 cases so
 ·clear h
  unfold ptr
  go_enter Tryz.func83,Tryz.ntmps83
  go_wp2_with fail
  go_ret
  exact ⟨rfl,uh HH,Kp.refl _ _⟩
 ·have hr:=Hi (take_ok B p c w h (hm rfl))
  clear h
  unfold ptr at hr ⊢
  go_enter Tryz.func83,Tryz.ntmps83
  go_wp2_with fail
  refine (uh hr).mono ?_
  rintro e w1 ⟨rfl,hc,hk⟩
  clear hr
  go_wp2_with fail
  go_ret
  exact ⟨rfl,hc,hk⟩
theorem punct_ok (B p:Nat) (c:Cu) (q:ByteArray) (w:World) (h:CurAt w B p c):Calls Tryz.prog 37 #[ptr B,.string q] w fun e w' => e = .returned (.bool (c.isP q)) ∧ CurAt w' B p (c.punct q) ∧ Kp B w w':=by
 have hi:=Hi (isPunct_ok B p c q w h)
 have ht:=Hi (fun W (bb:Below w.heap.size w W) => takeIf_ok B p c (c.isP q) W (h.below bb) (isP_more h.ok))
 have hs:=Hi (show c.punct q = if c.isP q then c.take else c from rfl)
 obtain ⟨R,hR⟩:∃ R,R = c.isP q:=⟨_,rfl⟩
 rw [← hR] at hi ht hs ⊢
 clear h hR
 unfold ptr at hi ht ⊢
 go_enter Tryz.func37,Tryz.ntmps37
 go_wp2_with fail
 refine (uh hi).mono ?_
 rintro e w1 ⟨rfl,b1⟩
 go_wp2_with fail
 refine ((uh ht) w1 b1).mono ?_
 rintro e w2 ⟨rfl,hc,hk⟩
 clear hi ht
 go_wp2_with fail
 go_ret
 exact ⟨rfl,by rw [uh hs];exact hc,(Kp.of b1).trans hk⟩
theorem want_ok (B p:Nat) (c:Cu) (q:ByteArray) (w:World) (h:CurAt w B p c):Calls Tryz.prog 41 #[ptr B,.string q] w fun e w' => e = .returned (.bool (c.isP q)) ∧ CurAt w' B p (c.want q) ∧ Kp B w w':=by
 have hi:=Hi (isPunct_ok B p c q w h)
 have hh:=Hi (fun W (bb:Below w.heap.size w W) => holds_ok B p c (c.isP q) W (h.below bb))
 have ht:=Hi (fun W (hc:CurAt W B p (if c.isP q then c else c.stop 70)) => takeIf_ok B p (if c.isP q then c else c.stop 70) (c.isP q) W hc (fun e => by rw [e];exact isP_more h.ok e))
 have hs:=Hi (show c.want q = (if c.isP q then (if c.isP q then c else c.stop 70).take else (if c.isP q then c else c.stop 70)) from by unfold Cu.want;split <;> rfl)
 obtain ⟨R,hR⟩:∃ R,R = c.isP q:=⟨_,rfl⟩
 rw [← hR] at hi ht hs hh ⊢
 obtain ⟨C,hC⟩:∃ C,C = if R then c else c.stop 70:=⟨_,rfl⟩
 rw [← hC] at ht hh hs
 clear h hR hC
 unfold ptr at hi ht hh ⊢
 go_enter Tryz.func41,Tryz.ntmps41
 go_wp2_with fail
 refine (uh hi).mono ?_
 rintro e w1 ⟨rfl,b1⟩
 go_wp2_with fail
 refine ((uh hh) w1 b1).mono ?_
 rintro e w2 ⟨rfl,hc,hk⟩
 go_wp2_with fail
 refine ((uh ht) w2 hc).mono ?_
 rintro e w3 ⟨rfl,hc3,hk3⟩
 clear hi ht hh
 go_wp2_with fail
 go_ret
 exact ⟨rfl,by rw [uh hs];exact hc3,((Kp.of b1).trans hk).trans hk3⟩
theorem infoNm:(Tryz.prog.info? 84).map (·.size) = some 3:=by kernel_rfl
theorem index_nil (s:ByteArray) (w:World):Calls Tryz.prog 105 #[.slice none 0 0,.string s] w fun e w' => e = .returned (.int .i64 (-1)) ∧ w' = w:=by
 go_enter Tryz.func105,Tryz.ntmps105
 go_wp2_with fail
 refine wp_loop_rounds 1 ?_
 rw [rounds_succ]
 go_wp2_with fail
 go_ret
 exact ⟨rfl,rfl⟩
theorem contains_nil (s:ByteArray) (w:World):Calls Tryz.prog 82 #[.slice none 0 0,.string s] w fun e w' => e = .returned (.bool false) ∧ w' = w:=by
 have hi:=Hi (index_nil s w)
 go_enter Tryz.func82,Tryz.ntmps82
 go_wp2_with fail
 refine (uh hi).mono ?_
 rintro e w1 ⟨rfl,rfl⟩
 clear hi
 go_wp2_with fail
 go_ret
 exact ⟨rfl,rfl⟩
set_option maxRecDepth 4000 in
theorem name_ok (B p:Nat) (c:Cu) (so:Bool) (w:World) (h:CurAt w B p c) (hm:so = true → c.ix + 1 < c.ts.length):Calls Tryz.prog 84 #[ptr B,.bool so] w fun e w' =>
  e = .returned (.tuple #[.agg (if so then [Value.string c.tok.tx,.int .i64 c.tok.ln,.int .i64 c.tok.co] else [.string em,.int .i64 0,.int .i64 0]).toArray,.bool so]) ∧ CurAt w' B p (if so then c.take else c.stop 70) ∧ Kp B w w':=by
 have hh:=Hi (fun W (bb:Below w.heap.size w W) => holds_ok B p c so W (h.below bb))
 have hlt:=h.lt
 have hplt:=h.plt
 have bA:=Hi (fun o => show Below w.heap.size w (w.alloc o) from ba)
 have hZ:=Hi (fun o W (hk:Kp B (w.alloc o) W) => show W.heap[w.heap.size]? = some o from (hk.block w.heap.size (by simp) (by omega)).trans (heap_alloc_new w o))
 have hne:B ≠ w.heap.size:=by omega
 have hnp:p ≠ w.heap.size:=by omega
 cases so
 ·clear h
  unfold ptr at hh ⊢
  go_enter Tryz.func84,Tryz.ntmps84
  go_wp2_with fail
  refine ((uh hh) _ ((uh bA) _)).mono ?_
  rintro e w1 ⟨rfl,hc,hk⟩
  have hth:w1.there w.heap.size 0 3:=dt.there_cells ((uh hZ) _ w1 hk) (by decide)
  have HK:=Hi ((Kp.of ((uh bA) _)).trans hk)
  have HC:=Hi hc
  clear hh hk hc hZ bA
  go_wp2_with (first
   | refine wpList_store_mid (by rfl) 84 _ _ (by rfl) w.heap.size 0 #[.string ⟨#[]⟩,.int .i64 0,.int .i64 0] (by rfl) (by rfl) hth infoNm (dt.one_cells (cs:=[.string ⟨#[]⟩,.int .i64 0,.int .i64 0]) (by rfl)) ?_)
  refine bodyPost_ret (rgn.result_row_tmp rfl _ _ w.heap.size 0 [.string ⟨#[]⟩,.int .i64 0,.int .i64 0] _ rfl (World.rangeAt_setCells_same _ _ _ _ hth) Tryz.underlying84 rfl infoNm) rfl ?_
  exact ⟨rfl,(uh HC).out hne hnp _ _,(uh HK).out (Nat.le_refl _) _ _⟩
 ·have hr:=Hi (fun W (hc:CurAt W B p c) => take_ok B p c W hc (hm rfl))
  clear h
  have hf1:=fld_text c.tok
  have hf2:=fld_pos c.tok
  obtain ⟨t,ht⟩:∃ t,t = c.tok:=⟨_,rfl⟩
  rw [← ht] at hr hf1 hf2 ⊢
  clear ht
  unfold Tk.cells at hr
  unfold ptr at hh hr ⊢
  go_enter Tryz.func84,Tryz.ntmps84
  go_wp2_with fail
  refine ((uh hh) _ ((uh bA) _)).mono ?_
  rintro e w1 ⟨rfl,hc,hk⟩
  have hc':CurAt w1 B p c:=hc
  go_wp2_with fail
  refine ((uh hr) _ hc').mono ?_
  rintro e w2 ⟨rfl,hc2,hk2⟩
  have hk3:=hk.trans hk2
  have hth:w2.there w.heap.size 0 3:=dt.there_cells ((uh hZ) _ w2 hk3) (by decide)
  have hz2:w.heap.size < w2.heap.size:=by have:=hk3.size;simp at this;omega
  have HK:=Hi ((Kp.of ((uh bA) _)).trans hk3)
  have HC:=Hi hc2
  clear hh hk hc hZ bA hk2 hk3 hc2 hc' hr
  have hthA:∀ o,(w2.alloc o).there w.heap.size 0 3:=fun o j hj => by
   obtain ⟨q1,q2⟩:=hth j hj
   exact ⟨by rw [((Below.refl _ _).alloc (Nat.le_refl _) o).cell (p:=⟨w.heap.size,0 + j,none⟩) hz2];exact q1,by
    have e:=Below.heap_alloc w2 o w.heap.size hz2
    rw [World.frozen?_of_block (w:=w2) (a:=⟨w.heap.size,0 + j,none⟩) e];exact q2⟩
  have HT:=Hi hthA
  clear hth hthA
  go_wp2_with (first
   | refine wpList_store_mid (by rfl) 84 _ _ (by rfl) w.heap.size 0 #[.string t.tx,.int .i64 t.ln,.int .i64 t.co] (by rfl) (by rfl) ((uh HT) _) infoNm (dt.one_cells (cs:=[.string t.tx,.int .i64 t.ln,.int .i64 t.co]) (by rfl)) ?_)
  refine bodyPost_ret (rgn.result_row_tmp rfl _ _ w.heap.size 0 [.string t.tx,.int .i64 t.ln,.int .i64 t.co] _ rfl (World.rangeAt_setCells_same _ _ _ _ ((uh HT) _)) Tryz.underlying84 rfl infoNm) rfl ?_
  exact ⟨rfl,((uh HC).below (ba)).out hne hnp _ _,((uh HK).trans (Kp.of (ba))).out (Nat.le_refl _) _ _⟩
theorem nmT_3 (c:Cu):c.nmT.length = 3 ∧ c.nmT.all (·.oneCell') = true:=by unfold Cu.nmT;split <;> exact ⟨rfl,rfl⟩
set_option maxHeartbeats 1000000 in
set_option maxRecDepth 4000 in
theorem nameAny_ok (B p:Nat) (c:Cu) (w:World) (h:CurAt w B p c):Calls Tryz.prog 45 #[ptr B,.slice none 0 0] w fun e w' =>
  e = .returned (.tuple #[.agg c.nmT.toArray,.bool c.isN]) ∧ CurAt w' B p c.name ∧ Kp B w w':=by
 have hi:=Hi (fun W (bb:Below w.heap.size w W) => isName_ok B p c W (h.below bb))
 have ht:=Hi (fun W (bb:Below w.heap.size w W) => token_ok B p c W (h.below bb))
 have hn:=Hi (fun W (bb:Below w.heap.size w W) => name_ok B p c c.isN W (h.below bb) (isN_more h.ok))
 have hs:=Hi (show c.name = if c.isN then c.take else c.stop 70 from rfl)
 have hs2:=Hi (show c.nmT = if c.isN then [.string c.tok.tx,.int .i64 c.tok.ln,.int .i64 c.tok.co] else [.string em,.int .i64 0,.int .i64 0] from rfl)
 have hV3:=Hi (nmT_3 c).1
 have hV1:=Hi (nmT_3 c).2
 have hf1:=fld_text c.tok
 have hlt:=h.lt
 have hplt:=h.plt
 have hne:B ≠ w.heap.size:=by omega
 have hnp:p ≠ w.heap.size:=by omega
 obtain ⟨V,hV⟩:∃ V,V = c.nmT:=⟨_,rfl⟩
 obtain ⟨C,hC⟩:∃ C,C = c.name:=⟨_,rfl⟩
 rw [← hV] at hs2 hV3 hV1 ⊢
 rw [← hC] at hs ⊢
 rw [← uh hs,← uh hs2] at hn
 obtain ⟨R,hR⟩:∃ R,R = c.isN:=⟨_,rfl⟩
 rw [← hR] at hi hn ⊢
 obtain ⟨t,hk3⟩:∃ t,t = c.tok:=⟨_,rfl⟩
 rw [← hk3] at ht hf1
 clear h hR hV hC hs hs2 hk3
 unfold Tk.cells at ht
 unfold ptr at hi hn ht ⊢
 go_enter Tryz.func45,Tryz.ntmps45
 go_wp2_with fail
 have bA0:Below w.heap.size w (w.alloc (.cells #[Value.string { data:=#[] },.int .i64 0,.int .i64 0] 84)):=ba
 have hZ:=(fun W (hk:Kp B (w.alloc (.cells #[Value.string { data:=#[] },.int .i64 0,.int .i64 0] 84)) W) => show W.heap[w.heap.size]? = some (.cells #[Value.string { data:=#[] },.int .i64 0,.int .i64 0] 84 (0,0)) from (hk.block w.heap.size (by simp) (by omega)).trans (heap_alloc_new w _))
 obtain ⟨wA,hwA⟩:∃ wA,wA = w.alloc (.cells #[Value.string { data:=#[] },.int .i64 0,.int .i64 0] 84):=⟨_,rfl⟩
 rw [← hwA] at bA0 hZ ⊢
 clear hwA
 refine ((uh hi) wA bA0).mono ?_
 rintro e w1 ⟨rfl,b1⟩
 cases R
 ·go_wp2_with fail
  refine ((uh hn) w1 (bA0.trans (b1.mono bA0.size))).mono ?_
  rintro e wN ⟨rfl,hcN,hkN⟩
  have bE:=b1
  have hk3:=(Kp.of bE).trans hkN
  have hth:wN.there w.heap.size 0 3:=dt.there_cells (hZ wN hk3) (by decide)
  have HK:=Hi ((Kp.of bA0).trans hk3)
  have HC:=Hi hcN
  have HT:=Hi (show wN.there w.heap.size 0 V.toArray.size from by rw [show V.toArray.size = 3 from by simpa using uh hV3];exact hth)
  have HI:=Hi (show (Tryz.prog.info? 84).map (·.size) = some V.toArray.size from by rw [show V.toArray.size = 3 from by simpa using uh hV3];exact infoNm)
  clear hk3 hkN hcN hth bE hZ bA0
  go_wp2_with (first
   | refine wpList_store_mid (by rfl) 84 _ _ (by rfl) w.heap.size 0 V.toArray (by rfl) (by rfl) (uh HT) (uh HI) (dt.one_cells (uh hV1)) ?_)
  refine bodyPost_ret (rgn.result_row_tmp rfl _ _ w.heap.size 0 V _ rfl (World.rangeAt_setCells_same _ _ _ _ (by have:=uh HT;simpa using this)) Tryz.underlying84 rfl (by have:=uh HI;simpa using this)) rfl ?_
  exact ⟨rfl,(uh HC).out hne hnp _ _,(uh HK).out (Nat.le_refl _) _ _⟩
 ·go_wp2_with fail
  refine ((uh ht) w1 (bA0.trans (b1.mono bA0.size))).mono ?_
  rintro e w2 ⟨rfl,b2⟩
  have bE:=b1.trans (b2.mono b1.size)
  go_wp2_with fail
  refine (contains_nil t.tx w2).mono ?_
  rintro e w3 ⟨rfl,rfl⟩
  go_wp2_with fail
  refine ((uh hn) _ (bA0.trans (bE.mono bA0.size))).mono ?_
  rintro e wN ⟨rfl,hcN,hkN⟩
  have hk3:=(Kp.of bE).trans hkN
  have hth:wN.there w.heap.size 0 3:=dt.there_cells (hZ wN hk3) (by decide)
  have HK:=Hi ((Kp.of bA0).trans hk3)
  have HC:=Hi hcN
  have HT:=Hi (show wN.there w.heap.size 0 V.toArray.size from by rw [show V.toArray.size = 3 from by simpa using uh hV3];exact hth)
  have HI:=Hi (show (Tryz.prog.info? 84).map (·.size) = some V.toArray.size from by rw [show V.toArray.size = 3 from by simpa using uh hV3];exact infoNm)
  clear hk3 hkN hcN hth bE hZ bA0
  go_wp2_with (first
   | refine wpList_store_mid (by rfl) 84 _ _ (by rfl) w.heap.size 0 V.toArray (by rfl) (by rfl) (uh HT) (uh HI) (dt.one_cells (uh hV1)) ?_)
  refine bodyPost_ret (rgn.result_row_tmp rfl _ _ w.heap.size 0 V _ rfl (World.rangeAt_setCells_same _ _ _ _ (by have:=uh HT;simpa using this)) Tryz.underlying84 rfl (by have:=uh HI;simpa using this)) rfl ?_
  exact ⟨rfl,(uh HC).out hne hnp _ _,(uh HK).out (Nat.le_refl _) _ _⟩
theorem CurAt.c2 {w:World} {B p:Nat} {c:Cu} (h:CurAt w B p c):w.cell? ⟨B,2,none⟩ = some (.int .i64 c.op) ∧ w.cell? ⟨B,3,none⟩ = some (.int .i64 c.mo) ∧ w.frozen? ⟨B,2,none⟩ = false ∧ w.cell? ⟨B,4,none⟩ = some (.int .i64 c.kd):=by
 obtain ⟨cap,h1,h2,h3,h4⟩:=h.box
 exact ⟨(dt.cell_cells h1 2).trans rfl,(dt.cell_cells h1 3).trans rfl,dt.frozen_cells h1 2,(dt.cell_cells h1 4).trans rfl⟩
set_option maxHeartbeats 1000000 in
theorem open_ok (B p:Nat) (c:Cu) (q:ByteArray) (w:World) (h:CurAt w B p c):Calls Tryz.prog 47 #[ptr B,.string q] w fun e w' => e = .returned (.bool (c.opB q)) ∧ CurAt w' B p (c.opn q) ∧ Kp B w w':=by
 have hi:=Hi (isPunct_ok B p c q w h)
 have hh:=Hi (fun W (bb:Below w.heap.size w W) => holds_ok B p c (c.isP q) W (h.below bb))
 have hok:=Hi h.ok
 have hop:=h.ok.op
 have hmo:=h.ok.mo
 cases hP:c.isP q
 ·have hs:=Hi (show c.opB q = false ∧ c.opn q = c.stop 70 from ⟨by simp [Cu.opB,hP],by simp [Cu.opn,hP]⟩)
  rw [hP] at hi hh
  rw [(uh hs).1]
  clear h hP
  unfold ptr at hi hh ⊢
  go_enter Tryz.func47,Tryz.ntmps47
  go_wp2_with fail
  refine (uh hi).mono ?_
  rintro e w1 ⟨rfl,b1⟩
  go_wp2_with fail
  refine ((uh hh) w1 b1).mono ?_
  rintro e w2 ⟨rfl,hc,hk⟩
  clear hi hh
  go_wp2_with fail
  go_ret
  exact ⟨rfl,by rw [(uh hs).2];exact hc,(Kp.of b1).trans hk⟩
 ·rw [hP] at hi hh
  by_cases hd:c.op < c.mo
  ·have hs:=Hi (show c.opB q = true ∧ c.opn q = ⟨c.ts,c.ix + 1,c.op + 1,c.mo,c.kd⟩ from ⟨by simp [Cu.opB,hP,hd],by simp [Cu.opn,hP,hd]⟩)
   have hm:=isP_more h.ok hP
   have hO:=Hi (fun W (hc:CurAt W B p c) => hc.opn (c.op + 1) ⟨h.ok.lt,h.ok.more,by show c.op + 1 ≤ c.mo;omega,h.ok.mo⟩)
   have ht:=Hi (fun W (hc:CurAt W B p ⟨c.ts,c.ix,c.op + 1,c.mo,c.kd⟩) => takeIf_ok B p ⟨c.ts,c.ix,c.op + 1,c.mo,c.kd⟩ true W hc (fun _ => hm))
   rw [(uh hs).1]
   have hge:¬ ((c.mo:Int) ≤ (c.op:Int)):=by omega
   clear h hP hm
   unfold ptr at hi hh ht ⊢
   go_enter Tryz.func47,Tryz.ntmps47
   go_wp2_with fail
   refine (uh hi).mono ?_
   rintro e w1 ⟨rfl,b1⟩
   go_wp2_with fail
   refine ((uh hh) w1 b1).mono ?_
   rintro e w2 ⟨rfl,hc,hk⟩
   have hc':CurAt w2 B p c:=hc
   obtain ⟨d2,d3,f2,-⟩:=hc'.c2
   have HC:=Hi hc'
   have HK:=Hi ((Kp.of b1).trans hk)
   clear hi hh hc hc' hk b1
   go_wp2_with fail
   go_region
   go_wp2_with fail
   have HC2:=(uh hO) _ ((uh HC).below (Go.below_drewN (Below.refl _ _) 1))
   have hop1:(((c.op + 1:Nat):Int)) = (c.op:Int) + 1:=by omega
   rw [hop1] at HC2
   refine ((uh ht) _ HC2).mono ?_
   rintro e w3 ⟨rfl,hc3,hk3⟩
   have HK3:=Hi (((uh HK).trans (Kp.of (Go.below_drewN (Below.refl _ _) 1))).trans (((Kp.refl B _).set 2 (.int .i64 ((c.op:Int) + 1))).trans hk3))
   have HC3:=Hi hc3
   clear ht HC2 hk3 hc3 HC HK d2 d3 f2 hop1
   go_wp2_with fail
   go_ret
   exact ⟨rfl,by rw [(uh hs).2];exact uh HC3,uh HK3⟩
  ·have hs:=Hi (show c.opB q = false ∧ c.opn q = c.stop 71 from ⟨by simp [Cu.opB,hP,hd],by simp [Cu.opn,hP,hd]⟩)
   have ht:=Hi (fun W (hc:CurAt W B p c) => refuse_ok B p c 71 W hc)
   rw [(uh hs).1]
   have hge:((c.mo:Int) ≤ (c.op:Int)):=by omega
   clear h hP
   unfold ptr at hi hh ht ⊢
   go_enter Tryz.func47,Tryz.ntmps47
   go_wp2_with fail
   refine (uh hi).mono ?_
   rintro e w1 ⟨rfl,b1⟩
   go_wp2_with fail
   refine ((uh hh) w1 b1).mono ?_
   rintro e w2 ⟨rfl,hc,hk⟩
   have hc':CurAt w2 B p c:=hc
   obtain ⟨d2,d3,f2,-⟩:=hc'.c2
   have HC:=Hi hc'
   have HK:=Hi ((Kp.of b1).trans hk)
   clear hi hh hc hc' hk b1
   go_wp2_with fail
   go_region
   go_wp2_with fail
   refine ((uh ht) _ ((uh HC).below (Go.below_drewN (Below.refl _ _) 1))).mono ?_
   rintro e w3 ⟨rfl,hc3,hk3⟩
   have HK3:=Hi (((uh HK).trans (Kp.of (Go.below_drewN (Below.refl _ _) 1))).trans hk3)
   have HC3:=Hi hc3
   clear ht hk3 hc3 HC HK d2 d3 f2
   go_wp2_with fail
   go_ret
   exact ⟨rfl,by rw [(uh hs).2];exact uh HC3,uh HK3⟩
set_option maxHeartbeats 1000000 in
theorem close_ok (B p:Nat) (c:Cu) (q:ByteArray) (w:World) (h:CurAt w B p c):Calls Tryz.prog 49 #[ptr B,.string q] w fun e w' => e = .returned (.bool (c.isP q)) ∧ CurAt w' B p (c.cls q) ∧ Kp B w w':=by
 have hi:=Hi (want_ok B p c q w h)
 have hop:=h.ok.op
 have hmo:=h.ok.mo
 cases hP:c.isP q
 ·have hs:=Hi (show c.cls q = c.want q from by simp [Cu.cls,Cu.want,hP])
  rw [hP] at hi
  clear h hP
  unfold ptr at hi ⊢
  go_enter Tryz.func49,Tryz.ntmps49
  go_wp2_with fail
  refine (uh hi).mono ?_
  rintro e w1 ⟨rfl,hc,hk⟩
  clear hi
  go_wp2_with fail
  go_ret
  exact ⟨rfl,by rw [uh hs];exact hc,hk⟩
 ·have hm:=isP_more h.ok hP
  have hs:=Hi (show c.cls q = ⟨c.ts,c.ix + 1,c.op - 1,c.mo,c.kd⟩ ∧ c.want q = ⟨c.ts,c.ix + 1,c.op,c.mo,c.kd⟩ from ⟨by simp [Cu.cls,hP],by simp [Cu.want,hP,Cu.take]⟩)
  have hO:=Hi (fun W (hc:CurAt W B p ⟨c.ts,c.ix + 1,c.op,c.mo,c.kd⟩) => hc.opn (c.op - 1) ⟨hm,h.ok.more,by show c.op - 1 ≤ c.mo;omega,h.ok.mo⟩)
  rw [hP,(uh hs).2] at hi
  rw [(uh hs).1]
  obtain ⟨O,hO'⟩:∃ O,O = c.op:=⟨_,rfl⟩
  rw [← hO'] at hi hO hop
  clear h hP hm
  unfold ptr at hi ⊢
  go_enter Tryz.func49,Tryz.ntmps49
  go_wp2_with fail
  refine (uh hi).mono ?_
  rintro e w1 ⟨rfl,hc,hk⟩
  obtain ⟨d2,-,f2,-⟩:=hc.c2
  have d2':w1.cell? ⟨B,2,none⟩ = some (.int .i64 (O:Int)):=d2
  have HC:=Hi hc
  have HK:=Hi hk
  have HO:=Hi hO'
  clear hi hc hk d2 hO'
  go_wp2_with fail
  go_ret
  have e:max 0 ((O:Int) - 1) = ((O - 1:Nat):Int):=by omega
  rw [e,← uh HO]
  exact ⟨rfl,(uh hO) _ (uh HC),(uh HK).set 2 _⟩
set_option maxRecDepth 4000 in
theorem end_ok (B p:Nat) (c:Cu) (w:World) (h:CurAt w B p c):Calls Tryz.prog 18 #[ptr B] w fun e w' => e = .returned (.bool c.finB) ∧ CurAt w' B p c.fin ∧ Kp B w w':=by
 have hd:=Hi (fun W (bb:Below w.heap.size w W) => dead_ok B p c W (h.below bb))
 have ht:=Hi (fun W (bb:Below w.heap.size w W) => token_ok B p c W (h.below bb))
 have hh:=Hi (fun W (bb:Below w.heap.size w W) => holds_ok B p c c.finB W (h.below bb))
 have hs:=Hi (show c.fin = if c.finB then c else c.stop 70 from rfl)
 have hP:=Hi (show c.finB = decide (c.kd = 0 ∧ c.tok.k = 0) from rfl)
 have hf:=fld_kind c.tok
 obtain ⟨C,hC⟩:∃ C,C = c.fin:=⟨_,rfl⟩
 rw [← hC] at hs ⊢
 rw [← uh hs] at hh
 obtain ⟨R,hR⟩:∃ R,R = c.finB:=⟨_,rfl⟩
 rw [← hR] at hP hh ⊢
 obtain ⟨kd,hk⟩:∃ kd,kd = c.kd:=⟨_,rfl⟩
 obtain ⟨t,hk3⟩:∃ t,t = c.tok:=⟨_,rfl⟩
 rw [← hk] at hd
 rw [← hk3] at ht hf
 rw [← hk3,← hk] at hP
 clear h hk hk3 hR hs hC
 unfold ptr at hd ht hh ⊢
 unfold Tk.cells at ht
 go_enter Tryz.func18,Tryz.ntmps18
 go_wp2_with fail
 refine ((uh hd) w (Below.refl _ _)).mono ?_
 rintro e w1 ⟨rfl,rfl⟩
 by_cases hk:kd = 0
 ·subst hk
  go_wp2_with fail
  refine ((uh ht) _ (Below.refl _ _)).mono ?_
  rintro e w2 ⟨rfl,b2⟩
  by_cases h3:t.k = 0
  ·have e3:(t.k == 0) = true:=by simpa using h3
   obtain rfl:R = true:=by rw [uh hP];simp [h3]
   clear h3
   go_wp2_with fail
   refine ((uh hh) _ b2).mono ?_
   rintro e w3 ⟨rfl,hc3,hk3⟩
   clear hd ht hh
   go_wp2_with fail
   go_ret
   exact ⟨rfl,hc3,(Kp.of b2).trans hk3⟩
  ·have e3:(t.k == 0) = false:=by simpa using h3
   obtain rfl:R = false:=by rw [uh hP];simp [h3]
   clear h3
   go_wp2_with fail
   refine ((uh hh) _ b2).mono ?_
   rintro e w3 ⟨rfl,hc3,hk3⟩
   clear hd ht hh
   go_wp2_with fail
   go_ret
   exact ⟨rfl,hc3,(Kp.of b2).trans hk3⟩
 ·have ek:(kd != 0) = true:=by simpa using hk
  obtain rfl:R = false:=by rw [uh hP];simp [hk]
  clear hk
  go_wp2_with fail
  refine ((uh hh) _ (Below.refl _ _)).mono ?_
  rintro e w3 ⟨rfl,hc3,hk3⟩
  clear hd ht hh
  go_wp2_with fail
  go_ret
  exact ⟨rfl,hc3,hk3⟩
theorem mixed:Tryz.prog.follows .mixedOrders = true:=by kernel_rfl
theorem buildP (x y:Int) (w:World):(Instr.buildSlice 35 1 #[(0,.agg #[.int .i64 x,.int .i64 y])]).run Tryz.prog w = .ok (.slice (some ⟨w.heap.size,0,none⟩) 1 1) (w.alloc (.cells #[.int .i64 x,.int .i64 y] 31)):=by go_simp
def FltAt (lo:Nat) (w:World) (c:Cu) (fs:List Value):Prop:=
 if c.kd = 0 then fs = [.int .i64 0,.slice none 0 0,.slice none 0 0] else ∃ b,lo ≤ b ∧ b < w.heap.size ∧ fs = [.int .i64 c.kd,.slice (some ⟨b,0,none⟩) 1 1,.slice none 0 0] ∧ w.cell? ⟨b,0,none⟩ = some (.int .i64 c.tok.ln) ∧ w.cell? ⟨b,1,none⟩ = some (.int .i64 c.tok.co)
theorem infoFl:(Tryz.prog.info? 38).map (·.size) = some 3:=by kernel_rfl
set_option maxRecDepth 4000 in
set_option maxHeartbeats 1000000 in
theorem told_ok (B p:Nat) (c:Cu) (w:World) (h:CurAt w B p c):Calls Tryz.prog 19 #[ptr B] w fun e w' => ∃ fs,e = .returned (.agg fs.toArray) ∧ FltAt w.heap.size w' c fs ∧ Below w.heap.size w w':=by
 have hb:=Hi (fun W (bb:Below w.heap.size w W) => blank_ok B p c W (h.below bb))
 have ht:=Hi (fun W (bb:Below w.heap.size w W) => token_ok B p c W (h.below bb))
 have hlt:=h.lt
 have h4:=h.c2.2.2.2
 have bA:=Hi (fun o => show Below w.heap.size w (w.alloc o) from ba)
 have D4:∀ o,(w.alloc o).cell? ⟨B,4,none⟩ = some (.int .i64 c.kd):=fun o => (((uh bA) o).cell (p:=⟨B,4,none⟩) hlt).trans h4
 have hf:=fld_pos c.tok
 obtain ⟨kd,hk⟩:∃ kd,kd = c.kd:=⟨_,rfl⟩
 obtain ⟨t,hk3⟩:∃ t,t = c.tok:=⟨_,rfl⟩
 rw [← hk] at D4
 rw [← hk3] at ht hf
 have HK:=Hi hk.symm
 have HT:=Hi hk3.symm
 clear h hk hk3 h4
 unfold ptr at hb ht ⊢
 unfold Tk.cells at ht
 by_cases hz:kd = 0
 ·subst hz
  go_enter Tryz.func19,Tryz.ntmps19
  go_wp2_with fail
  refine ((uh hb) _ ((uh bA) _)).mono ?_
  rintro e w1 ⟨rfl,rfl⟩
  clear ht
  go_wp2_with fail
  refine bodyPost_ret (rgn.result_row rfl _ _ w.heap.size 0 [.int .i64 0,.slice none 0 0,.slice none 0 0] _ rfl (dt.range_cells (heap_alloc_new w _) 0 _ (fun j u hu => by rw [Nat.zero_add];simpa using hu)) Tryz.underlying38 rfl infoFl) rfl ?_
  exact ⟨_,rfl,by unfold FltAt;rw [if_pos (uh HK)],(uh bA) _⟩
 ·have ez:(kd == 0) = false:=by simpa using hz
  have HZ:=Hi hz
  clear hz
  go_enter Tryz.func19,Tryz.ntmps19
  go_wp2_with fail
  refine ((uh hb) _ ((uh bA) _)).mono ?_
  rintro e w1 ⟨rfl,rfl⟩
  go_wp2_with fail
  have hR0:=Hi (heap_alloc_new w (.cells #[Value.int .i64 0,.slice none 0 0,.slice none 0 0] 38))
  have bW0:=(uh bA) (.cells #[Value.int .i64 0,.slice none 0 0,.slice none 0 0] 38)
  have c4:=D4 (.cells #[Value.int .i64 0,.slice none 0 0,.slice none 0 0] 38)
  have hz0:w.heap.size < (w.alloc (.cells #[Value.int .i64 0,.slice none 0 0,.slice none 0 0] 38)).heap.size:=by simp
  obtain ⟨W0,hW0⟩:∃ W0,W0 = w.alloc (.cells #[Value.int .i64 0,.slice none 0 0,.slice none 0 0] 38):=⟨_,rfl⟩
  rw [← hW0] at hR0 bW0 c4 hz0 ⊢
  clear hW0 bA hb D4
  have hS0:Below w.heap.size W0 { W0 with drawn:=W0.drawn + 1 }:=(Below.refl _ _).drew
  have bD:=bW0.trans hS0
  refine wp_region_noPanic ?_
  refine wp_region_held (S:=fun w' => Below w.heap.size W0 w') mixed ?_
  refine rgn.tl (i:=0) (v:=?v1) rfl (by kernel_rfl) (fun _ _ _ h => h) (by rfl) ?hy1 hS0 ?_
  case hy1 => (intro w' hw';have c4':=(hw'.cell (p:=⟨B,4,none⟩) hlt).trans c4;go_simp;try with_reducible rfl)
  simp only [zA,zB,zC,Act.put,zD,zE,zF]
  refine rgn.tl (i:=1) (v:=?v2) rfl (by kernel_rfl) (fun _ _ _ h => h) (by rfl) ?hy2 hS0 ?_
  case hy2 => (intro w' hw';have c4':=(hw'.cell (p:=⟨B,4,none⟩) hlt).trans c4;go_simp;try with_reducible rfl)
  simp only [zA,zB,zC,Act.put,zD,zE,zF]
  refine rgn.tl (i:=2) (v:=?v3) rfl (by kernel_rfl) (fun _ _ _ h => h) (by rfl) ?hy3 hS0 ?_
  case hy3 => (intro w' hw';have c4':=(hw'.cell (p:=⟨B,4,none⟩) hlt).trans c4;go_simp;try with_reducible rfl)
  simp only [zA,zB,zC,Act.put,zD,zE,zF]
  refine rgn.tl (i:=3) (v:=?v4) rfl (by kernel_rfl) (fun _ _ _ h => h) (by rfl) ?hy4 hS0 ?_
  case hy4 => (intro w' hw';have c4':=(hw'.cell (p:=⟨B,4,none⟩) hlt).trans c4;go_simp;try with_reducible rfl)
  simp only [zA,zB,zC,Act.put,zD,zE,zF]
  refine rgn.tl (i:=4) (v:=?v5) rfl (by kernel_rfl) (fun _ _ _ h => h) (by rfl) ?hy5 hS0 ?_
  case hy5 => (intro w' hw';have c4':=(hw'.cell (p:=⟨B,4,none⟩) hlt).trans c4;go_simp;try with_reducible rfl)
  simp only [zA,zB,zC,Act.put,zD,zE,zF]
  refine rgn.one (i:=5) _ rfl (by kernel_rfl) (by rfl) ?_
  simp only [zA,zB,zC,Act.put,zD,zE,zF]
  go_wp2_with fail
  refine ((uh ht) _ bD).mono ?_
  rintro e w2 ⟨rfl,b2⟩
  have b02:Below W0.heap.size W0 w2:=(Below.refl W0.heap.size W0).drew.trans b2
  have hS2:Below w.heap.size W0 w2:=b02.mono (Nat.le_of_lt hz0)
  refine ⟨hS2,?_⟩
  clear hS0 b2 bD
  have hS0:=hS2
  try simp only [zA,zB,zC,Act.put,zD,zE,zF]
  refine rgn.take (i:=6) _ (.agg #[.int .i64 t.ln,.int .i64 t.co]) rfl (by kernel_rfl) (by kernel_rfl) (by kernel_rfl) (fun _ _ _ h => h) (by rfl) hS0 (fun w' hw' => by go_simp) ?_
  simp only [zA,zB,zC,Act.put,zD,zE,zF]
  refine rgn.one (i:=7) _ rfl (by kernel_rfl) (by rfl) ?_
  simp only [zA,zB,zC,Act.put,zD,zE,zF]
  refine dt.wpO_buildOne 35 _ (by rfl) (.agg #[.int .i64 t.ln,.int .i64 t.co]) _ (by rfl) (buildP t.ln t.co w2) ?_
  have hS3:Below w.heap.size W0 (w2.alloc (.cells #[.int .i64 t.ln,.int .i64 t.co] 31)):=hS2.alloc (Nat.le_trans (Nat.le_of_lt hz0) b02.size) _
  refine ⟨hS3,?_⟩
  clear hS0
  have hS0:=hS3
  try simp only [zA,zB,zC,Act.put,zD,zE,zF]
  refine rgn.take (i:=8) _ (.agg #[.int .i64 kd,.slice (some ⟨w2.heap.size,0,none⟩) 1 1,.slice none 0 0]) rfl (by kernel_rfl) (by kernel_rfl) (by kernel_rfl) (fun _ _ _ h => h) (by rfl) hS0 (fun w' hw' => by go_simp) ?_
  simp only [zA,zB,zC,Act.put,zD,zE,zF]
  have hR2:=(Below.heap_alloc w2 (.cells #[.int .i64 t.ln,.int .i64 t.co] 31) w.heap.size (Nat.lt_of_lt_of_le hz0 b02.size)).trans ((b02.block w.heap.size hz0).trans (uh hR0))
  have hth:=dt.there_cells hR2 (o:=0) (n:=3) (by decide)
  refine rgn.one (i:=9) _ rfl (by kernel_rfl) (by rfl) ?_
  simp only [zA,zB,zC,Act.put,zD,zE,zF]
  refine wp_store_mid 38 _ _ (by rfl) w.heap.size 0 #[.int .i64 kd,.slice (some ⟨w2.heap.size,0,none⟩) 1 1,.slice none 0 0] (by rfl) (by rfl) hth infoFl (dt.one_cells (cs:=[.int .i64 kd,.slice (some ⟨w2.heap.size,0,none⟩) 1 1,.slice none 0 0]) (by rfl)) ?_
  refine ⟨dt.below_setCells _ _ _ _ hS3 (Nat.le_refl _),?_⟩
  try simp only [zA,zB,zC,Act.put,zD,zE,zF]
  refine wpAnyH_done (by kernel_rfl) ?_ _;refine NoPanic.normal ?_
  have hb2:w2.heap.size ≠ w.heap.size:=by have:=b02.size;omega
  have hn:=heap_alloc_new w2 (.cells #[.int .i64 t.ln,.int .i64 t.co] 31)
  have hX:=(dt.heap_setCells w.heap.size w2.heap.size hb2 [.int .i64 kd,.slice (some ⟨w2.heap.size,0,none⟩) 1 1,.slice none 0 0] 0 _).trans hn
  have hrg:=World.rangeAt_setCells_same (w2.alloc (.cells #[.int .i64 t.ln,.int .i64 t.co] 31)) w.heap.size 0 [.int .i64 kd,.slice (some ⟨w2.heap.size,0,none⟩) 1 1,.slice none 0 0] hth
  have hbX:Below w.heap.size W0 ((w2.alloc (.cells #[.int .i64 t.ln,.int .i64 t.co] 31)).setCells w.heap.size 0 [.int .i64 kd,.slice (some ⟨w2.heap.size,0,none⟩) 1 1,.slice none 0 0]):=dt.below_setCells _ _ _ _ hS3 (Nat.le_refl _)
  have hXs:w2.heap.size < ((w2.alloc (.cells #[.int .i64 t.ln,.int .i64 t.co] 31)).setCells w.heap.size 0 [.int .i64 kd,.slice (some ⟨w2.heap.size,0,none⟩) 1 1,.slice none 0 0]).heap.size:=by rw [dt.size_setCells];simp
  obtain ⟨X,eX⟩:∃ X,X = (w2.alloc (.cells #[.int .i64 t.ln,.int .i64 t.co] 31)).setCells w.heap.size 0 [.int .i64 kd,.slice (some ⟨w2.heap.size,0,none⟩) 1 1,.slice none 0 0]:=⟨_,rfl⟩
  rw [← eX] at hX hrg hbX hXs ⊢
  clear eX hn hR2 hth hS3 hS2 hS0
  go_wp2
  refine bodyPost_ret (rgn.result_row rfl _ _ w.heap.size 0 [.int .i64 kd,.slice (some ⟨w2.heap.size,0,none⟩) 1 1,.slice none 0 0] _ rfl hrg Tryz.underlying38 rfl infoFl) rfl ?_
  refine ⟨_,rfl,?_,bW0.trans hbX⟩
  unfold FltAt
  rw [uh HK,uh HT,if_neg (uh HZ)]
  exact ⟨w2.heap.size,by have:=b02.size;omega,hXs,rfl,(dt.cell_cells hX 0).trans rfl,(dt.cell_cells hX 1).trans rfl⟩
end Go.Proofs.YtepmbmbnlmbhhaaGreat.cu
namespace Go.Proofs.YtepmbmbnlmbhhaaGreat.cr
open Go.ChangeShapes Go.WideShapes Go.ChangeAt Go.RowKit
open ints (Hi uh)
open dt (Dt Kp RowAt)
open cu
structure RurAt (w:World) (B p:Nat) (c:Cu):Prop where
 ok:c.Ok
 len:c.ts.length ≤ 1099511627777
 box:∃ cap,w.heap[B]? = some (.cells #[.slice (some ⟨p,0,none⟩) c.ts.length cap,.int .i64 c.ix,.int .i64 c.op,.int .i64 c.mo,.int .i64 c.kd] 74 (0,0)) ∧ p ≠ B ∧ p < w.heap.size ∧ ∀ i t,c.ts[i]? = some t → RowAt w p (i * 7) t.cells
theorem RurAt.lt {w:World} {B p:Nat} {c:Cu} (h:RurAt w B p c):B < w.heap.size:=by
 obtain ⟨cap,h1,_⟩:=h.box
 exact (Array.getElem?_eq_some_iff.1 h1).1
theorem RurAt.below {w w':World} {B p:Nat} {c:Cu} (h:RurAt w B p c) (hb:Below w.heap.size w w'):RurAt w' B p c:=by
 have hlt:=h.lt
 obtain ⟨cap,h1,h2,h3,h4⟩:=h.box
 exact ⟨h.ok,h.len,cap,(hb.block B hlt).trans h1,h2,Nat.lt_of_lt_of_le h3 hb.size,fun i t ht => (h4 i t ht).below hb⟩
theorem RurAt.plt {w:World} {B p:Nat} {c:Cu} (h:RurAt w B p c):p < w.heap.size:=by
 obtain ⟨cap,h1,h2,h3,h4⟩:=h.box
 exact h3
theorem RurAt.out {w:World} {B p:Nat} {c:Cu} (h:RurAt w B p c) {b:Nat} (hb:B ≠ b) (hp:p ≠ b) (o:Nat) (vs:List Value):RurAt (w.setCells b o vs) B p c:=by
 obtain ⟨cap,h1,h2,h3,h4⟩:=h.box
 exact ⟨h.ok,h.len,cap,(dt.heap_setCells b B hb vs o w).trans h1,h2,by rw [dt.size_setCells];exact h3,fun i t ht j u hu => (dt.cell_blk (dt.heap_setCells b p hp vs o w) _).trans (h4 i t ht j u hu)⟩
theorem RurAt.ix {w:World} {B p:Nat} {c:Cu} (h:RurAt w B p c) (i:Nat) (hok:(⟨c.ts,i,c.op,c.mo,c.kd⟩:Cu).Ok):RurAt (w.setCell ⟨B,1,none⟩ (.int .i64 i)) B p ⟨c.ts,i,c.op,c.mo,c.kd⟩:=by
 obtain ⟨cap,h1,h2,h3,h4⟩:=h.box
 exact ⟨hok,h.len,cap,(dt.heap_setCell_at h1 1 _).trans rfl,h2,by simpa using h3,fun j t ht m u hu => ((Kp.refl B w).set 1 (.int .i64 i)).cell h3 h2 |>.trans (h4 j t ht m u hu)⟩
theorem RurAt.opn {w:World} {B p:Nat} {c:Cu} (h:RurAt w B p c) (i:Nat) (hok:(⟨c.ts,c.ix,i,c.mo,c.kd⟩:Cu).Ok):RurAt (w.setCell ⟨B,2,none⟩ (.int .i64 i)) B p ⟨c.ts,c.ix,i,c.mo,c.kd⟩:=by
 obtain ⟨cap,h1,h2,h3,h4⟩:=h.box
 exact ⟨hok,h.len,cap,(dt.heap_setCell_at h1 2 _).trans rfl,h2,by simpa using h3,fun j t ht m u hu => ((Kp.refl B w).set 2 (.int .i64 i)).cell h3 h2 |>.trans (h4 j t ht m u hu)⟩
theorem RurAt.kind {w:World} {B p:Nat} {c:Cu} (h:RurAt w B p c) (k:Int):RurAt (w.setCell ⟨B,4,none⟩ (.int .i64 k)) B p ⟨c.ts,c.ix,c.op,c.mo,k⟩:=by
 obtain ⟨cap,h1,h2,h3,h4⟩:=h.box
 exact ⟨⟨h.ok.lt,h.ok.more,h.ok.op,h.ok.mo⟩,h.len,cap,(dt.heap_setCell_at h1 4 _).trans rfl,h2,by simpa using h3,fun j t ht m u hu => ((Kp.refl B w).set 4 (.int .i64 k)).cell h3 h2 |>.trans (h4 j t ht m u hu)⟩
theorem RurAt.c2 {w:World} {B p:Nat} {c:Cu} (h:RurAt w B p c):w.cell? ⟨B,2,none⟩ = some (.int .i64 c.op) ∧ w.cell? ⟨B,3,none⟩ = some (.int .i64 c.mo) ∧ w.frozen? ⟨B,2,none⟩ = false ∧ w.cell? ⟨B,4,none⟩ = some (.int .i64 c.kd):=by
 obtain ⟨cap,h1,h2,h3,h4⟩:=h.box
 exact ⟨(dt.cell_cells h1 2).trans rfl,(dt.cell_cells h1 3).trans rfl,dt.frozen_cells h1 2,(dt.cell_cells h1 4).trans rfl⟩
theorem RurAt.c01 {w:World} {B p:Nat} {c:Cu} (h:RurAt w B p c):∃ cap,w.cell? ⟨B,0,none⟩ = some (.slice (some ⟨p,0,none⟩) c.ts.length cap) ∧ w.cell? ⟨B,1,none⟩ = some (.int .i64 c.ix) ∧ w.frozen? ⟨B,1,none⟩ = false ∧ w.frozen? ⟨B,4,none⟩ = false:=by
 obtain ⟨cap,h1,h2,h3,h4⟩:=h.box
 exact ⟨cap,(dt.cell_cells h1 0).trans rfl,(dt.cell_cells h1 1).trans rfl,dt.frozen_cells h1 1,dt.frozen_cells h1 4⟩
theorem RurAt.tk {w:World} {B p:Nat} {c:Cu} (h:RurAt w B p c):RowAt w p (c.ix * 7) c.tok.cells:=by
 obtain ⟨cap,h1,h2,h3,h4⟩:=h.box
 exact h4 c.ix c.tok (c.get h.ok.lt)
def isK (c:Cu) (K:Int) (q:ByteArray):Bool:=decide (c.kd = 0 ∧ c.tok.k = K ∧ c.tok.tx = q)
set_option maxHeartbeats 2000000 in
set_option maxRecDepth 4000 in
theorem is_ok (B p:Nat) (c:Cu) (K:Int) (q:ByteArray) (w:World) (h:RurAt w B p c):Calls Tryz.prog 80 #[ptr B,.int .i64 K,.string q] w fun e w' => e = .returned (.bool (isK c K q)) ∧ Below w.heap.size w w':=by
 have hlt:=h.lt
 have hplt:=h.plt
 have hix:=h.ok.lt
 have hlen:=h.len
 have hr:=h.tk
 obtain ⟨cap,d0,d1,-,-⟩:=h.c01
 obtain ⟨-,-,-,d4⟩:=h.c2
 have hP:=Hi (show isK c K q = decide (c.kd = 0 ∧ c.tok.k = K ∧ c.tok.tx = q) from rfl)
 obtain ⟨R,hR⟩:∃ R,R = isK c K q:=⟨_,rfl⟩
 rw [← hR] at hP ⊢
 obtain ⟨ix,hk⟩:∃ ix,ix = c.ix:=⟨_,rfl⟩
 obtain ⟨n,hk2⟩:∃ n,n = c.ts.length:=⟨_,rfl⟩
 obtain ⟨t,hk3⟩:∃ t,t = c.tok:=⟨_,rfl⟩
 obtain ⟨kd,hk4⟩:∃ kd,kd = c.kd:=⟨_,rfl⟩
 rw [← hk,← hk2] at hix
 rw [← hk2] at d0 hlen
 rw [← hk] at d1 hr
 rw [← hk3] at hr hP
 rw [← hk4] at hP d4
 clear h hk hk2 hk3 hk4 hR
 have bA:∀ o,Below w.heap.size w (w.alloc o):=fun o => ba
 have D4:∀ o,(w.alloc o).cell? ⟨B,4,none⟩ = some (.int .i64 kd):=fun o => ((bA o).cell (p:=⟨B,4,none⟩) hlt).trans d4
 have ii:(ix:Int) < (n:Int):=by omega
 have E:∀ (j:Nat) (u:Value),t.cells[j]? = some u → w.cell? ⟨p,ix * 7 + j,none⟩ = some u:=fun j u hu => hr j u hu
 have e0:w.cell? ⟨p,ix * 7,none⟩ = some (.int .i64 t.k):=E 0 _ rfl
 have e1:w.cell? ⟨p,ix * 7 + 1,none⟩ = some (.int .i64 t.ln):=E 1 _ rfl
 have e2:w.cell? ⟨p,ix * 7 + 2,none⟩ = some (.int .i64 t.co):=E 2 _ rfl
 have e3:w.cell? ⟨p,ix * 7 + 3,none⟩ = some (.int .i64 t.fr):=E 3 _ rfl
 have e4:w.cell? ⟨p,ix * 7 + 4,none⟩ = some (.int .i64 t.to):=E 4 _ rfl
 have e5:w.cell? ⟨p,ix * 7 + 5,none⟩ = some (.string t.tx):=E 5 _ rfl
 have e6:w.cell? ⟨p,ix * 7 + 6,none⟩ = some (.string t.va):=E 6 _ rfl
 have HA:=Hi bA
 clear E hr bA d4
 unfold ptr
 go_enter Tryz.func80,Tryz.ntmps80
 go_wp2_with fail
 go_region
 have HB:=Hi (fun o => Go.below_drewN ((uh HA) o) 1)
 by_cases h0:kd = 0
 ·subst h0
  by_cases h1:t.k = K
  ·have b1:(t.k == K) = true:=by simpa using h1
   have hP2:=Hi (show R = decide (t.tx = q) from by rw [uh hP];simp [h1])
   clear h1
   go_wp2_with fail
   go_ret
   exact ⟨by rw [uh hP2,← str_beq];rfl,(uh HB) _⟩
  ·have b1:(t.k == K) = false:=by simpa using h1
   have hP2:=Hi (show R = false from by rw [uh hP];simp [h1])
   clear h1
   go_wp2_with fail
   go_ret
   exact ⟨by rw [uh hP2];first | rfl | simp,(uh HB) _⟩
 ·have b0:(kd == 0) = false:=by simpa using h0
  have hP2:=Hi (show R = false from by rw [uh hP];simp [h0])
  clear h0
  go_wp2_with fail
  go_ret
  exact ⟨by rw [uh hP2];first | rfl | simp,(uh HB) _⟩
theorem isPunct_ok (B p:Nat) (c:Cu) (q:ByteArray) (w:World) (h:RurAt w B p c):Calls Tryz.prog 34 #[ptr B,.string q] w fun e w' => e = .returned (.bool (c.isP q)) ∧ Below w.heap.size w w':=by
 have hi:=Hi (is_ok B p c 2 q w h)
 rw [show isK c 2 q = c.isP q from rfl] at hi
 unfold ptr at hi ⊢
 go_enter Tryz.func34,Tryz.ntmps34
 go_wp2_with fail
 refine (uh hi).mono ?_
 rintro e w1 ⟨rfl,b1⟩
 go_wp2_with fail
 go_ret
 exact ⟨rfl,b1⟩
theorem cell0 {w:World} {B p:Nat} {c:Cu} (h:RurAt w B p c) (o:Nat) (ho:o ≠ 0) (v:Value):(w.setCell ⟨B,o,none⟩ v).cell? ⟨B,0,none⟩ = w.cell? ⟨B,0,none⟩:=by
 obtain ⟨cap,h1,_⟩:=h.box
 rw [dt.cell_cells (dt.heap_setCell_at h1 o v) 0,dt.cell_cells h1 0]
 simp [ho]
theorem stop0_ok (B p:Nat) (c:Cu) (k:Int) (w:World) (h:RurAt w B p c):Calls Tryz.prog 71 #[ptr B,.int .i64 k] w fun e w' => e = .returned (.tuple #[]) ∧ RurAt w' B p (c.stop k) ∧ Kp B w w' ∧ w'.cell? ⟨B,0,none⟩ = w.cell? ⟨B,0,none⟩:=by
 have hK:=Hi h.kind
 obtain ⟨-,-,-,d4⟩:=h.c2
 obtain ⟨cap,-,-,-,f4⟩:=h.c01
 have hs:=Hi (show c.stop k = if c.kd = 0 then ⟨c.ts,c.ix,c.op,c.mo,k⟩ else c from rfl)
 have HH:=Hi h
 clear h
 unfold ptr
 by_cases hk:c.kd = 0
 ·have ek:(c.kd == 0) = true:=by simpa using hk
  have hs2:=Hi (show c.stop k = ⟨c.ts,c.ix,c.op,c.mo,k⟩ from by rw [uh hs,if_pos hk])
  clear hk hs
  go_enter Tryz.func71,Tryz.ntmps71
  go_wp2_with fail
  go_end0
  rw [uh hs2]
  exact ⟨rfl,(uh hK) k,(Kp.refl _ _).set 4 _,cell0 (uh HH) 4 (by decide) _⟩
 ·have ek:(c.kd == 0) = false:=by simpa using hk
  have hs2:=Hi (show c.stop k = c from by rw [uh hs,if_neg hk])
  clear hk hs
  go_enter Tryz.func71,Tryz.ntmps71
  go_wp2_with fail
  go_end0
  rw [uh hs2]
  exact ⟨rfl,uh HH,Kp.refl _ _,rfl⟩
theorem stop_ok (B p:Nat) (c:Cu) (k:Int) (w:World) (h:RurAt w B p c):Calls Tryz.prog 71 #[ptr B,.int .i64 k] w fun e w' => e = .returned (.tuple #[]) ∧ RurAt w' B p (c.stop k) ∧ Kp B w w':=
 (stop0_ok B p c k w h).mono fun e w' ⟨h1,h2,h3,_⟩ => ⟨h1,h2,h3⟩
theorem RurAt.tak {w:World} {B p:Nat} {c:Cu} (h:RurAt w B p c) (hm:c.ix + 1 < c.ts.length):RurAt (w.setCell ⟨B,1,none⟩ (.int .i64 ((c.ix:Int) + 1))) B p c.take:=by
 have:=h.ix (c.ix + 1) ⟨hm,h.ok.more,h.ok.op,h.ok.mo⟩
 rw [show (((c.ix + 1:Nat):Int)) = (c.ix:Int) + 1 by omega] at this
 exact this
theorem punct_ok (B p:Nat) (c:Cu) (q:ByteArray) (w:World) (h:RurAt w B p c):Calls Tryz.prog 38 #[ptr B,.string q] w fun e w' => e = .returned (.bool (c.isP q)) ∧ RurAt w' B p (c.punct q) ∧ Kp B w w':=by
 have hi:=Hi (isPunct_ok B p c q w h)
 have HH:=Hi h
 have hlt:=h.lt
 cases hP:c.isP q with
 | false =>
  have hs:=Hi (show c.punct q = c from by simp [Cu.punct,hP])
  rw [hP] at hi
  clear h hP
  unfold ptr at hi ⊢
  go_enter Tryz.func38,Tryz.ntmps38
  go_wp2_with fail
  refine (uh hi).mono ?_
  rintro e w1 ⟨rfl,b1⟩
  go_wp2_with fail
  go_ret
  exact ⟨rfl,by rw [uh hs];exact (uh HH).below b1,Kp.of b1⟩
 | true =>
  have hs:=Hi (show c.punct q = c.take from by simp [Cu.punct,hP])
  have hm:=isP_more h.ok hP
  have hlen:=h.len
  rw [hP] at hi
  clear hP h
  unfold ptr at hi ⊢
  go_enter Tryz.func38,Tryz.ntmps38
  go_wp2_with fail
  refine (uh hi).mono ?_
  rintro e w1 ⟨rfl,b1⟩
  have h1:=(uh HH).below b1
  obtain ⟨cap,-,d1,f1,-⟩:=h1.c01
  have HT:=Hi (h1.tak hm)
  have hn:(c.ix:Int) + 1 < 9223372036854775807:=by omega
  clear hi h1
  obtain ⟨ix,hix⟩:∃ ix,ix = c.ix:=⟨_,rfl⟩
  rw [← hix] at d1 HT hn
  clear hix
  go_wp2_with fail
  go_ret
  exact ⟨rfl,by rw [uh hs];exact uh HT,(Kp.of b1).trans ((Kp.refl _ _).set 1 _)⟩
theorem want_ok (B p:Nat) (c:Cu) (q:ByteArray) (w:World) (h:RurAt w B p c):Calls Tryz.prog 42 #[ptr B,.string q] w fun e w' => e = .returned (.bool (c.isP q)) ∧ RurAt w' B p (c.want q) ∧ Kp B w w':=by
 have hi:=Hi (punct_ok B p c q w h)
 have hS:=Hi (fun W (hc:RurAt W B p c) => stop_ok B p c 70 W hc)
 cases hP:c.isP q with
 | false =>
  have hs:=Hi (show c.want q = c.stop 70 from by simp [Cu.want,hP])
  rw [hP,show c.punct q = c from by simp [Cu.punct,hP]] at hi
  clear h hP
  unfold ptr at hi hS ⊢
  go_enter Tryz.func42,Tryz.ntmps42
  go_wp2_with fail
  refine (uh hi).mono ?_
  rintro e w1 ⟨rfl,hc,hk⟩
  go_wp2_with fail
  refine (uh hS _ hc).mono ?_
  rintro e w2 ⟨rfl,hc2,hk2⟩
  go_wp2_with fail
  go_ret
  exact ⟨rfl,by rw [uh hs];exact hc2,hk.trans hk2⟩
 | true =>
  have hs:=Hi (show c.want q = c.punct q from by simp [Cu.want,Cu.punct,hP])
  rw [hP] at hi
  clear h hP
  unfold ptr at hi ⊢
  go_enter Tryz.func42,Tryz.ntmps42
  go_wp2_with fail
  refine (uh hi).mono ?_
  rintro e w1 ⟨rfl,hc,hk⟩
  go_wp2_with fail
  go_ret
  exact ⟨rfl,by rw [uh hs];exact hc,hk⟩
theorem isWord_nil (B:Nat) (w:World):Calls Tryz.prog 36 #[ptr B,.slice none 0 0] w fun e w' => e = .returned (.bool false) ∧ w' = w:=by
 unfold ptr
 go_enter Tryz.func36,Tryz.ntmps36
 go_wp2_with fail
 refine wp_loop_rounds 1 ?_
 rw [rounds_succ]
 go_wp2_with fail
 go_ret
 exact ⟨rfl,rfl⟩
set_option maxHeartbeats 2000000 in
set_option maxRecDepth 4000 in
theorem named_ok (B p:Nat) (c:Cu) (so:Bool) (w:World) (h:RurAt w B p c) (hm:so = true → c.ix + 1 < c.ts.length):Calls Tryz.prog 85 #[ptr B,.bool so] w fun e w' =>
  e = .returned (.tuple #[.agg (if so then [Value.string c.tok.tx,.int .i64 c.tok.ln,.int .i64 c.tok.co] else [.string em,.int .i64 0,.int .i64 0]).toArray,.bool so]) ∧ RurAt w' B p (if so then c.take else c.stop 70) ∧ Kp B w w' ∧ w'.cell? ⟨B,0,none⟩ = w.cell? ⟨B,0,none⟩:=by
 have hlt:=h.lt
 have hplt:=h.plt
 have hne:B ≠ w.heap.size:=by omega
 have hnp:p ≠ w.heap.size:=by omega
 have bA:=Hi (fun o => show Below w.heap.size w (w.alloc o) from ba)
 have hZ:=Hi (fun o W (hk:Kp B (w.alloc o) W) => show W.heap[w.heap.size]? = some o from (hk.block w.heap.size (by simp) (by omega)).trans (heap_alloc_new w o))
 cases so with
 | false =>
  have hS:=Hi (fun W (bb:Below w.heap.size w W) => stop0_ok B p c 70 W (h.below bb))
  clear h
  unfold ptr at hS ⊢
  go_enter Tryz.func85,Tryz.ntmps85
  go_wp2_with fail
  refine ((uh hS) _ ((uh bA) _)).mono ?_
  rintro e w1 ⟨rfl,hc,hk,hz⟩
  have HZ0:=Hi (hz.trans (((uh bA) _).cell (p:=⟨B,0,none⟩) hlt))
  clear hz
  have hth:w1.there w.heap.size 0 3:=dt.there_cells ((uh hZ) _ w1 hk) (by decide)
  have HK:=Hi ((Kp.of ((uh bA) _)).trans hk)
  have HC:=Hi hc
  clear hS hk hc hZ bA
  go_wp2_with (first
   | refine wpList_store_mid (by rfl) 84 _ _ (by rfl) w.heap.size 0 #[.string ⟨#[]⟩,.int .i64 0,.int .i64 0] (by rfl) (by rfl) hth infoNm (dt.one_cells (cs:=[.string ⟨#[]⟩,.int .i64 0,.int .i64 0]) (by rfl)) ?_)
  refine bodyPost_ret (rgn.result_row_tmp rfl _ _ w.heap.size 0 [.string ⟨#[]⟩,.int .i64 0,.int .i64 0] _ rfl (World.rangeAt_setCells_same _ _ _ _ hth) Tryz.underlying84 rfl infoNm) rfl ?_
  exact ⟨rfl,(uh HC).out hne hnp _ _,(uh HK).out (Nat.le_refl _) _ _,(dt.cell_blk (dt.heap_setCells w.heap.size B hne _ 0 _) 0).trans (uh HZ0)⟩
 | true =>
  have hm1:=hm rfl
  have HH:=Hi h
  have hTK:=Hi (fun W (bb:Below w.heap.size w W) => (h.below bb).tak hm1)
  have hr:=Hi (fun W (bb:Below w.heap.size w W) => (h.below bb).tk)
  have hc0:=Hi (fun W (bb:Below w.heap.size w W) => (h.below bb).c01)
  have hix:=h.ok.lt
  have hlen:=h.len
  obtain ⟨cap,d0,d1,f1,-⟩:=h.c01
  obtain ⟨ix,hk⟩:∃ ix,ix = c.ix:=⟨_,rfl⟩
  obtain ⟨n,hk2⟩:∃ n,n = c.ts.length:=⟨_,rfl⟩
  obtain ⟨t,hk3⟩:∃ t,t = c.tok:=⟨_,rfl⟩
  rw [← hk,← hk2] at hix hm1
  rw [← hk2] at d0 hlen
  rw [← hk] at d1 hr hTK
  rw [← hk3] at hr ⊢
  clear h hk hk2 hk3 hc0
  have ii:(ix:Int) < (n:Int):=by omega
  have D0:∀ o,(w.alloc o).cell? ⟨B,0,none⟩ = some (.slice (some ⟨p,0,none⟩) n cap):=fun o => (((uh bA) o).cell (p:=⟨B,0,none⟩) hlt).trans d0
  have D1:∀ o,(w.alloc o).cell? ⟨B,1,none⟩ = some (.int .i64 ix):=fun o => (((uh bA) o).cell (p:=⟨B,1,none⟩) hlt).trans d1
  have D1':∀ o o',((w.alloc o).alloc o').cell? ⟨B,1,none⟩ = some (.int .i64 ix):=fun o o' => ((((uh bA) o).alloc ((uh bA) o).size o').cell (p:=⟨B,1,none⟩) hlt).trans d1
  have F1':∀ o o',((w.alloc o).alloc o').frozen? ⟨B,1,none⟩ = false:=fun o o' => by
   have e:=(((uh bA) o).alloc ((uh bA) o).size o').block B hlt
   rw [World.frozen?_of_block (w:=w) (a:=⟨B,1,none⟩) e];exact f1
  have E:∀ (j:Nat) (u:Value) o,t.cells[j]? = some u → (w.alloc o).cell? ⟨p,ix * 7 + j,none⟩ = some u:=fun j u o hu => (uh hr) _ ((uh bA) o) j u hu
  have e0:∀ o,(w.alloc o).cell? ⟨p,ix * 7,none⟩ = some (.int .i64 t.k):=fun o => E 0 _ o rfl
  have e1:∀ o,(w.alloc o).cell? ⟨p,ix * 7 + 1,none⟩ = some (.int .i64 t.ln):=fun o => E 1 _ o rfl
  have e2:∀ o,(w.alloc o).cell? ⟨p,ix * 7 + 2,none⟩ = some (.int .i64 t.co):=fun o => E 2 _ o rfl
  have e3:∀ o,(w.alloc o).cell? ⟨p,ix * 7 + 3,none⟩ = some (.int .i64 t.fr):=fun o => E 3 _ o rfl
  have e4:∀ o,(w.alloc o).cell? ⟨p,ix * 7 + 4,none⟩ = some (.int .i64 t.to):=fun o => E 4 _ o rfl
  have e5:∀ o,(w.alloc o).cell? ⟨p,ix * 7 + 5,none⟩ = some (.string t.tx):=fun o => E 5 _ o rfl
  have e6:∀ o,(w.alloc o).cell? ⟨p,ix * 7 + 6,none⟩ = some (.string t.va):=fun o => E 6 _ o rfl
  clear E d0 d1 f1 hr
  unfold ptr
  go_enter Tryz.func85,Tryz.ntmps85
  go_wp2_with fail
  go_region
  go_wp2_with fail
  have hC1:=(uh hTK) w (Below.refl _ _)
  have hK1:=(Kp.refl B w).set 1 (.int .i64 ((ix:Int) + 1))
  obtain ⟨X,hX⟩:∃ X,X = w.setCell ⟨B,1,none⟩ (.int .i64 ((ix:Int) + 1)):=⟨_,rfl⟩
  have hXs:X.heap.size = w.heap.size:=by rw [hX];simp
  have hX0:X.cell? ⟨B,0,none⟩ = w.cell? ⟨B,0,none⟩:=by rw [hX];exact cell0 (uh HH) 1 (by decide) _
  rw [← hX] at hC1 hK1 ⊢
  clear hX
  have bX:∀ o o',Below X.heap.size X ((X.alloc o).alloc o').drew:=fun o o' => Go.below_drewN ((((Below.refl _ _).alloc (Nat.le_refl _) o)).alloc (by simp) o') 1
  have hQ:∀ o o',((X.alloc o).alloc o').drew.heap[w.heap.size]? = some o:=fun o o' => by
   rw [← hXs]
   have e1:=heap_alloc_new X o
   have e2:=Below.heap_alloc (X.alloc o) o' X.heap.size (by simp)
   exact e2.trans e1
  refine bodyPost_ret (rgn.result_row_tmp rfl _ _ w.heap.size 0 [.string t.tx,.int .i64 t.ln,.int .i64 t.co] _ rfl (dt.range_cells (hQ _ _) 0 [.string t.tx,.int .i64 t.ln,.int .i64 t.co] (fun j u hu => by rw [Nat.zero_add];simpa using hu)) Tryz.underlying84 rfl infoNm) rfl ?_
  exact ⟨rfl,hC1.below (bX _ _),hK1.trans (Kp.of (bX _ _)),((bX _ _).cell (p:=⟨B,0,none⟩) (by rw [hXs];exact hlt)).trans hX0⟩
end Go.Proofs.YtepmbmbnlmbhhaaGreat.cr
namespace Go.Proofs.YtepmbmbnlmbhhaaGreat.cu
open Go.ChangeShapes Go.WideShapes Go.ChangeAt Go.RowKit
open ints (Hi uh)
open dt (Dt Kp RowAt)
theorem infoTr:(Tryz.prog.info? 44).map (·.size) = some 2:=by kernel_rfl
def trC (r:Option (ByteArray × ByteArray)):List Value:=[.string (r.map (·.1) |>.getD em),.string (r.map (·.2) |>.getD em)]
def TypAt (T:Cu → Option (ByteArray × ByteArray) × Cu) (f:Nat) (c:Cu):Prop:=∀ (B p:Nat) (w:World),CurAt w B p c → Calls Tryz.prog f #[ptr B] w fun e w' => e = .returned (.tuple #[.agg (trC (T c).1).toArray,.bool (T c).1.isSome]) ∧ CurAt w' B p (T c).2 ∧ Kp B w w'
theorem nmT_form (c:Cu):c.nmT = [.string (if c.isN then c.tok.tx else em),.int .i64 (if c.isN then c.tok.ln else 0),.int .i64 (if c.isN then c.tok.co else 0)]:=by
 unfold Cu.nmT
 split <;> simp [*]
theorem unm_no {f:Nat} {c:Cu} (hP:c.isP bLb = false):trC (unm (typF f) c).1 = [.string (if c.isN then c.tok.tx else em),.string em] ∧ (unm (typF f) c).1.isSome = c.isN ∧ (unm (typF f) c).2 = c.name:=by
 unfold unm
 rw [if_neg (by rw [hP];simp)]
 cases h:c.isN <;> simp [trC]
set_option maxRecDepth 4000 in
set_option maxHeartbeats 1000000 in
theorem unm_ok (f:Nat) (c:Cu) (hc:c.Ok) (hlen:c.ts.length ≤ 1099511627777) (ih:∀ c':Cu,c'.Ok → c'.ts = c.ts → c'.ix = c.ix + 1 → TypAt (typF f) 25 c'):TypAt (unm (typF f)) 72 c:=by
 intro B p w h
 have hi:=Hi (fun W (bb:Below w.heap.size w W) => isPunct_ok B p c bLb W (h.below bb))
 have hlt:=h.lt
 have hplt:=h.plt
 have hne:B ≠ w.heap.size:=by omega
 have hnp:p ≠ w.heap.size:=by omega
 have bA:=Hi (fun o => show Below w.heap.size w (w.alloc o) from ba)
 have hZ:=Hi (fun o W (hk:Kp B (w.alloc o) W) => show W.heap[w.heap.size]? = some o from (hk.block w.heap.size (by simp) (by omega)).trans (heap_alloc_new w o))
 cases hP:c.isP bLb
 ·have hn:=Hi (fun W (bb:Below w.heap.size w W) => nameAny_ok B p c W (h.below bb))
  clear h
  unfold ptr at hi hn ⊢
  rw [hP] at hi
  obtain ⟨s1,s2,s3⟩:=unm_no (f:=f) hP
  rw [nmT_form] at hn
  rw [s1,s2,s3]
  clear s1 s2 s3 ih hP
  obtain ⟨A,hA⟩:∃ A,A = if c.isN then c.tok.tx else em:=⟨_,rfl⟩
  obtain ⟨X,hX⟩:∃ X,X = if c.isN then c.tok.ln else 0:=⟨_,rfl⟩
  obtain ⟨Y,hY⟩:∃ Y,Y = if c.isN then c.tok.co else 0:=⟨_,rfl⟩
  rw [← hA,← hX,← hY] at hn
  rw [← hA]
  clear hA hX hY
  obtain ⟨R,hR⟩:∃ R,R = c.isN:=⟨_,rfl⟩
  rw [← hR] at hn ⊢
  clear hR
  go_enter Tryz.func72,Tryz.ntmps72
  go_wp2_with fail
  refine ((uh hi) _ ((uh bA) _)).mono ?_
  rintro e w1 ⟨rfl,b1⟩
  go_wp2_with fail
  refine ((uh hn) _ (((uh bA) _).trans (b1.mono ((uh bA) _).size))).mono ?_
  rintro e w2 ⟨rfl,hc2,hk2⟩
  have hk3:=(Kp.of b1).trans hk2
  have hR2:=(uh hZ) _ w2 hk3
  have hz2:w.heap.size < w2.heap.size:=by have:=hk3.size;simp at this;omega
  have HK:=Hi ((Kp.of ((uh bA) _)).trans hk3)
  have HC:=Hi hc2
  have HT:=Hi (fun o => dt.there_cells ((Below.heap_alloc w2 o w.heap.size hz2).trans hR2) (o:=0) (n:=2) (by decide))
  clear hk3 hR2 hk2 hc2 hn hi hZ bA
  go_wp2_with (first
   | refine wpList_store_mid (by rfl) 44 _ _ (by rfl) w.heap.size 0 #[.string A,.string ⟨#[]⟩] (by rfl) (by rfl) ((uh HT) _) infoTr (dt.one_cells (cs:=[.string A,.string ⟨#[]⟩]) (by rfl)) ?_)
  refine bodyPost_ret (rgn.result_row_tmp rfl _ _ w.heap.size 0 [.string A,.string ⟨#[]⟩] _ rfl (World.rangeAt_setCells_same _ _ _ _ ((uh HT) _)) Tryz.underlying44 rfl infoTr) rfl ?_
  exact ⟨rfl,((uh HC).below (ba)).out hne hnp _ _,((uh HK).trans (Kp.of (ba))).out (Nat.le_refl _) _ _⟩
 ·have ho:=Hi (fun W (bb:Below w.heap.size w W) => open_ok B p c bLb W (h.below bb))
  rw [hP] at hi
  have hok:=opn_stp hc bLb
  cases hO:c.opB bLb
  ·rw [hO] at ho
   have hs:=Hi (show (unm (typF f) c) = (none,c.opn bLb) from by unfold unm;rw [if_pos hP,if_neg (by rw [hO];simp)])
   rw [uh hs]
   clear h hP hO ih hok
   unfold ptr at hi ho ⊢
   go_enter Tryz.func72,Tryz.ntmps72
   go_wp2_with fail
   refine ((uh hi) _ ((uh bA) _)).mono ?_
   rintro e w1 ⟨rfl,b1⟩
   go_wp2_with fail
   refine ((uh ho) _ (((uh bA) _).trans (b1.mono ((uh bA) _).size))).mono ?_
   rintro e w2 ⟨rfl,hc2,hk2⟩
   have hk3:=(Kp.of b1).trans hk2
   have hR2:=(uh hZ) _ w2 hk3
   have HK:=Hi ((Kp.of ((uh bA) _)).trans hk3)
   have HC:=Hi hc2
   have HT:=Hi (dt.there_cells hR2 (o:=0) (n:=2) (by decide))
   clear hk3 hR2 hk2 hc2 ho hi hZ bA
   go_wp2_with (first
    | refine wpList_store_mid (by rfl) 44 _ _ (by rfl) w.heap.size 0 #[.string ⟨#[]⟩,.string ⟨#[]⟩] (by rfl) (by rfl) (uh HT) infoTr (dt.one_cells (cs:=[.string ⟨#[]⟩,.string ⟨#[]⟩]) (by rfl)) ?_)
   refine bodyPost_ret (rgn.result_row_tmp rfl _ _ w.heap.size 0 [.string ⟨#[]⟩,.string ⟨#[]⟩] _ rfl (World.rangeAt_setCells_same _ _ _ _ (uh HT)) Tryz.underlying44 rfl infoTr) rfl ?_
   exact ⟨rfl,(uh HC).out hne hnp _ _,(uh HK).out (Nat.le_refl _) _ _⟩
  ·rw [hO] at ho
   have hT:=Hi (ih (c.opn bLb) hok.ok hok.ts (opn_ix hO) B p)
   have htg:=typF_goes f (c.opn bLb) hok.ok
   have hcl:=Hi (fun W (hc:CurAt W B p (typF f (c.opn bLb)).2) => close_ok B p (typF f (c.opn bLb)).2 bRb W hc)
   obtain ⟨U,hU⟩:∃ U,U = typF f (c.opn bLb):=⟨_,rfl⟩
   have hs0:=Hi (show U.1 = none → unm (typF f) c = (none,U.2) from fun e => by unfold unm;rw [if_pos hP,if_pos (by rw [hO]),← hU,e])
   have hs1:=Hi (show ∀ it,U.1 = some it → unm (typF f) c = if U.2.isP bRb then (some (it.1,it.2 ++ bRb),U.2.cls bRb) else (none,U.2.cls bRb) from fun it e => by unfold unm;rw [if_pos hP,if_pos (by rw [hO]),← hU,e])
   rw [← hU] at hT htg hcl
   clear h hP hO ih hU
   obtain ⟨r,C⟩:=U
   have hixC:=htg.1.ok.lt
   rw [htg.1.ts,hok.ts] at hixC
   unfold ptr at hi ho hT hcl ⊢
   go_enter Tryz.func72,Tryz.ntmps72
   go_wp2_with fail
   refine ((uh hi) _ ((uh bA) _)).mono ?_
   rintro e w1 ⟨rfl,b1⟩
   go_wp2_with fail
   refine ((uh ho) _ (((uh bA) _).trans (b1.mono ((uh bA) _).size))).mono ?_
   rintro e w2 ⟨rfl,hc2,hk2⟩
   have hk3:=(Kp.of b1).trans hk2
   go_wp2_with fail
   refine ((uh hT) _ hc2).mono ?_
   rintro e w4 ⟨rfl,hc4,hk4⟩
   have hk5:=hk3.trans hk4
   have hR4:=(uh hZ) _ w4 hk5
   have hz4:w.heap.size < w4.heap.size:=by have:=hk5.size;simp at this;omega
   have HK:=Hi ((Kp.of ((uh bA) _)).trans hk5)
   have HC:=Hi hc4
   have HR:=Hi hR4
   clear hk3 hk2 hc2 hk4 hk5 hc4 hR4 ho hi hT hZ bA b1
   have HT:=Hi (fun o => dt.there_cells ((Below.heap_alloc w4 o w.heap.size hz4).trans (uh HR)) (o:=0) (n:=2) (by decide))
   cases r with
   | none =>
    have hs2:=Hi ((uh hs0) rfl)
    unfold trC
    clear hs0 hs1 hcl
    go_wp2_with (first
     | refine wpList_store_mid (by rfl) 44 _ _ (by rfl) w.heap.size 0 #[.string ⟨#[]⟩,.string ⟨#[]⟩] (by rfl) (by rfl) ((uh HT) _) infoTr (dt.one_cells (cs:=[.string ⟨#[]⟩,.string ⟨#[]⟩]) (by rfl)) ?_)
    refine bodyPost_ret (rgn.result_row_tmp rfl _ _ w.heap.size 0 [.string ⟨#[]⟩,.string ⟨#[]⟩] _ rfl (World.rangeAt_setCells_same _ _ _ _ ((uh HT) _)) Tryz.underlying44 rfl infoTr) rfl ?_
    rw [uh hs2]
    exact ⟨rfl,((uh HC).below (ba)).out hne hnp _ _,((uh HK).trans (Kp.of (ba))).out (Nat.le_refl _) _ _⟩
   | some it =>
    have hitz:it.2.size ≤ 1099511627777:=by have:=htg.2 it rfl;omega
    have hs2:=Hi ((uh hs1) it rfl)
    clear hs0 hs1 htg
    obtain ⟨nm,wp⟩:=it
    cases hQ:C.isP bRb
    ·rw [hQ] at hcl hs2
     unfold trC
     go_wp2_with fail
     refine ((uh hcl) _ ((uh HC).below (ba))).mono ?_
     rintro e w5 ⟨rfl,hc5,hk5⟩
     have hR5:=(hk5.block w.heap.size (by simp;omega) (by omega)).trans ((Below.heap_alloc w4 _ w.heap.size hz4).trans (uh HR))
     have HT5:=Hi (dt.there_cells hR5 (o:=0) (n:=2) (by decide))
     have HC5:=Hi hc5
     have HK5:=Hi ((uh HK).trans ((Kp.of (ba)).trans hk5))
     clear hcl hk5 hc5 hR5 HC HK HT HR
     go_wp2_with (first
      | refine wpList_store_mid (by rfl) 44 _ _ (by rfl) w.heap.size 0 #[.string ⟨#[]⟩,.string ⟨#[]⟩] (by rfl) (by rfl) (uh HT5) infoTr (dt.one_cells (cs:=[.string ⟨#[]⟩,.string ⟨#[]⟩]) (by rfl)) ?_)
     refine bodyPost_ret (rgn.result_row_tmp rfl _ _ w.heap.size 0 [.string ⟨#[]⟩,.string ⟨#[]⟩] _ rfl (World.rangeAt_setCells_same _ _ _ _ (uh HT5)) Tryz.underlying44 rfl infoTr) rfl ?_
     rw [uh hs2]
     exact ⟨rfl,(uh HC5).out hne hnp _ _,(uh HK5).out (Nat.le_refl _) _ _⟩
    ·rw [hQ] at hcl hs2
     unfold trC
     go_wp2_with fail
     refine ((uh hcl) _ ((uh HC).below (ba))).mono ?_
     rintro e w5 ⟨rfl,hc5,hk5⟩
     have hR5:=(hk5.block w.heap.size (by simp;omega) (by omega)).trans ((Below.heap_alloc w4 _ w.heap.size hz4).trans (uh HR))
     have hI5:=(hk5.block w4.heap.size (by simp) (by omega)).trans (heap_alloc_new w4 _)
     have i0:w5.cell? ⟨w4.heap.size,0,none⟩ = some (.string nm):=(dt.cell_cells hI5 0).trans rfl
     have i1:w5.cell? ⟨w4.heap.size,1,none⟩ = some (.string wp):=(dt.cell_cells hI5 1).trans rfl
     have HT5:=Hi (dt.there_cells hR5 (o:=0) (n:=2) (by decide))
     have HC5:=Hi hc5
     have HK5:=Hi ((uh HK).trans ((Kp.of (ba)).trans hk5))
     clear hcl hk5 hc5 hR5 hI5 HC HK HT HR
     go_wp2_with (first
      | refine wpList_store_mid (by rfl) 44 _ _ (by rfl) w.heap.size 0 #[.string nm,.string (wp ++ bRb)] (by rfl) (by rfl) (uh HT5) infoTr (dt.one_cells (cs:=[.string nm,.string (wp ++ bRb)]) (by rfl)) ?_)
     refine bodyPost_ret (rgn.result_row_tmp rfl _ _ w.heap.size 0 [.string nm,.string (wp ++ bRb)] _ rfl (World.rangeAt_setCells_same _ _ _ _ (uh HT5)) Tryz.underlying44 rfl infoTr) rfl ?_
     rw [uh hs2]
     exact ⟨rfl,(uh HC5).out hne hnp _ _,(uh HK5).out (Nat.le_refl _) _ _⟩
theorem unm_goes (f:Nat) (c:Cu) (h:c.Ok):Stp c (unm (typF f) c).2 ∧ ∀ r,(unm (typF f) c).1 = some r → r.2.size < (unm (typF f) c).2.ix - c.ix + 1:=by
 unfold unm
 split
 ·have ho:=opn_stp h bLb
  split
  ·rename_i hb
   have hi:=opn_ix hb
   have h2:=typF_goes f _ ho.ok
   cases hq:(typF f (c.opn bLb)).1 with
   | none => exact ⟨ho.trans h2.1,fun r hr => by cases hr⟩
   | some it =>
    have h3:=cls_stp h2.1.ok bRb
    have h4:=h2.2 it hq
    have h5:=h2.1.ix
    have h6:=h3.ix
    dsimp only
    split
    ·refine ⟨(ho.trans h2.1).trans h3,fun r hr => ?_⟩
     obtain rfl:=Option.some.inj hr
     show (it.2 ++ bRb).size < _
     rw [size_app]
     show it.2.size + 1 < ((typF f (c.opn bLb)).2.cls bRb).ix - c.ix + 1
     omega
    ·exact ⟨(ho.trans h2.1).trans h3,fun r hr => by cases hr⟩
  ·exact ⟨ho,fun r hr => by cases hr⟩
 ·have hn:=name_stp h
  split
  ·exact ⟨hn,fun r hr => by obtain rfl:=Option.some.inj hr;show (0:Nat) < _;omega⟩
  ·exact ⟨hn,fun r hr => by cases hr⟩
set_option maxRecDepth 4000 in
set_option maxHeartbeats 1000000 in
theorem typ_ok (f:Nat) (c:Cu) (hc:c.Ok) (hlen:c.ts.length ≤ 1099511627777) (hu:TypAt (unm (typF f)) 72 c):TypAt (typ (unm (typF f))) 25 c:=by
 intro B p w h
 have hlt:=h.lt
 have hplt:=h.plt
 have hne:B ≠ w.heap.size:=by omega
 have hnp:p ≠ w.heap.size:=by omega
 have bA:=Hi (fun o => show Below w.heap.size w (w.alloc o) from ba)
 have hZ:=Hi (fun o W (hk:Kp B (w.alloc o) W) => show W.heap[w.heap.size]? = some o from (hk.block w.heap.size (by simp) (by omega)).trans (heap_alloc_new w o))
 have hU:=Hi (fun W (bb:Below w.heap.size w W) => hu B p W (h.below bb))
 have hug:=unm_goes f c hc
 have hpu:=Hi (fun W (hc:CurAt W B p (unm (typF f) c).2) => punct_ok B p (unm (typF f) c).2 bBang W hc)
 obtain ⟨U,eU⟩:∃ U,U = unm (typF f) c:=⟨_,rfl⟩
 have hs0:=Hi (show U.1 = none → typ (unm (typF f)) c = (none,U.2) from fun e => by unfold typ;rw [← eU,e])
 have hs1:=Hi (show ∀ r,U.1 = some r → typ (unm (typF f)) c = if U.2.isP bBang then (some (r.1,r.2 ++ bBang),U.2.punct bBang) else (some r,U.2.punct bBang) from fun r e => by unfold typ;rw [← eU,e])
 rw [← eU] at hU hpu hug
 clear h eU hu
 obtain ⟨r,C⟩:=U
 have hixC:=hug.1.ok.lt
 rw [hug.1.ts] at hixC
 unfold ptr at hU hpu ⊢
 go_enter Tryz.func25,Tryz.ntmps25
 go_wp2_with fail
 refine ((uh hU) _ ((uh bA) _)).mono ?_
 rintro e w4 ⟨rfl,hc4,hk4⟩
 have hR4:=(uh hZ) _ w4 hk4
 have hz4:w.heap.size < w4.heap.size:=by have:=hk4.size;simp at this;omega
 have HK:=Hi ((Kp.of ((uh bA) _)).trans hk4)
 have HC:=Hi hc4
 have HR:=Hi hR4
 clear hk4 hc4 hR4 hU hZ bA
 have HT:=Hi (fun o => dt.there_cells ((Below.heap_alloc w4 o w.heap.size hz4).trans (uh HR)) (o:=0) (n:=2) (by decide))
 cases r with
 | none =>
  have hs2:=Hi ((uh hs0) rfl)
  unfold trC
  clear hs0 hs1 hpu
  go_wp2_with (first
   | refine wpList_store_mid (by rfl) 44 _ _ (by rfl) w.heap.size 0 #[.string em,.string em] (by rfl) (by rfl) ((uh HT) _) infoTr (dt.one_cells (cs:=[.string em,.string em]) (by rfl)) ?_)
  refine bodyPost_ret (rgn.result_row_tmp rfl _ _ w.heap.size 0 [.string em,.string em] _ rfl (World.rangeAt_setCells_same _ _ _ _ ((uh HT) _)) Tryz.underlying44 rfl infoTr) rfl ?_
  rw [uh hs2]
  exact ⟨rfl,((uh HC).below (ba)).out hne hnp _ _,((uh HK).trans (Kp.of (ba))).out (Nat.le_refl _) _ _⟩
 | some it =>
  have hitz:it.2.size ≤ 1099511627777:=by have:=hug.2 it rfl;omega
  have hs2:=Hi ((uh hs1) it rfl)
  clear hs0 hs1 hug
  obtain ⟨nm,wp⟩:=it
  cases hQ:C.isP bBang
  ·rw [hQ] at hpu hs2
   unfold trC
   go_wp2_with fail
   refine ((uh hpu) _ ((uh HC).below (ba))).mono ?_
   rintro e w5 ⟨rfl,hc5,hk5⟩
   have hR5:=(hk5.block w.heap.size (by simp;omega) (by omega)).trans ((Below.heap_alloc w4 _ w.heap.size hz4).trans (uh HR))
   have hI5:=(hk5.block w4.heap.size (by simp) (by omega)).trans (heap_alloc_new w4 _)
   have i0:w5.cell? ⟨w4.heap.size,0,none⟩ = some (.string nm):=(dt.cell_cells hI5 0).trans rfl
   have i1:w5.cell? ⟨w4.heap.size,1,none⟩ = some (.string wp):=(dt.cell_cells hI5 1).trans rfl
   have HT5:=Hi (dt.there_cells hR5 (o:=0) (n:=2) (by decide))
   have HC5:=Hi hc5
   have HK5:=Hi ((uh HK).trans ((Kp.of (ba)).trans hk5))
   clear hpu hk5 hc5 hR5 hI5 HC HK HT HR
   go_wp2_with (first
    | refine wpList_store_mid (by rfl) 44 _ _ (by rfl) w.heap.size 0 #[.string nm,.string wp] (by rfl) (by rfl) (uh HT5) infoTr (dt.one_cells (cs:=[.string nm,.string wp]) (by rfl)) ?_)
   refine bodyPost_ret (rgn.result_row_tmp rfl _ _ w.heap.size 0 [.string nm,.string wp] _ rfl (World.rangeAt_setCells_same _ _ _ _ (uh HT5)) Tryz.underlying44 rfl infoTr) rfl ?_
   rw [uh hs2]
   exact ⟨rfl,(uh HC5).out hne hnp _ _,(uh HK5).out (Nat.le_refl _) _ _⟩
  ·rw [hQ] at hpu hs2
   unfold trC
   go_wp2_with fail
   refine ((uh hpu) _ ((uh HC).below (ba))).mono ?_
   rintro e w5 ⟨rfl,hc5,hk5⟩
   have hR5:=(hk5.block w.heap.size (by simp;omega) (by omega)).trans ((Below.heap_alloc w4 _ w.heap.size hz4).trans (uh HR))
   have hI5:=(hk5.block w4.heap.size (by simp) (by omega)).trans (heap_alloc_new w4 _)
   have i0:w5.cell? ⟨w4.heap.size,0,none⟩ = some (.string nm):=(dt.cell_cells hI5 0).trans rfl
   have i1:w5.cell? ⟨w4.heap.size,1,none⟩ = some (.string wp):=(dt.cell_cells hI5 1).trans rfl
   have f1:w5.frozen? ⟨w4.heap.size,1,none⟩ = false:=dt.frozen_cells hI5 1
   have hnw:w.heap.size ≠ w4.heap.size:=by omega
   have hX:Hid (∀ v,(w5.setCell ⟨w4.heap.size,1,none⟩ v).there w.heap.size 0 2):=Hi (fun v => dt.there_cells ((Below.heap_setCell w5 ⟨w4.heap.size,1,none⟩ v w.heap.size hnw).trans hR5) (o:=0) (n:=2) (by decide))
   have j0:∀ v,(w5.setCell ⟨w4.heap.size,1,none⟩ v).cell? ⟨w4.heap.size,0,none⟩ = some (.string nm):=fun v => (dt.cell_cells (dt.heap_setCell_at hI5 1 v) 0).trans rfl
   have HC5:=Hi hc5
   have HK5:=Hi ((uh HK).trans ((Kp.of (ba)).trans hk5))
   clear hpu hk5 hc5 hR5 hI5 HC HK HT HR
   go_wp2_with (first
    | refine wpList_store_mid (by rfl) 44 _ _ (by rfl) w.heap.size 0 #[.string nm,.string (wp ++ bBang)] (by rfl) (by rfl) ((uh hX) _) infoTr (dt.one_cells (cs:=[.string nm,.string (wp ++ bBang)]) (by rfl)) ?_)
   refine bodyPost_ret (rgn.result_row_tmp rfl _ _ w.heap.size 0 [.string nm,.string (wp ++ bBang)] _ rfl (World.rangeAt_setCells_same _ _ _ _ ((uh hX) _)) Tryz.underlying44 rfl infoTr) rfl ?_
   rw [uh hs2]
   exact ⟨rfl,((uh HC5).out (b:=w4.heap.size) (by omega) (by omega) 1 [.string (wp ++ bBang)]).out hne hnp _ _,((uh HK5).out (b:=w4.heap.size) (by omega) 1 [.string (wp ++ bBang)]).out (Nat.le_refl _) _ _⟩
theorem typF_ok:∀ (f:Nat) (c:Cu),c.Ok → c.ts.length ≤ 1099511627777 → c.ts.length ≤ f + c.ix → TypAt (typF f) 25 c
 | 0,c,hc,hl,hf => by have:=hc.lt;omega
 | f + 1,c,hc,hl,hf => typ_ok f c hc hl (unm_ok f c hc hl (fun c' h1 h2 h3 => typF_ok f c' h1 (by rw [h2];exact hl) (by rw [h2,h3];omega)))
open mem (Row)
def mostS (d:Int):Nat:=(max 0 (min d 200)).toNat
def newS (l:List Int) (d:Int):Cu:=⟨lx.tks l 0,0,0,mostS d,0⟩
theorem tks_more (l:List Int):∀ (f i:Nat),i ≤ l.length → l.length < f + i → ∀ j t,(lx.tksF l f i)[j]? = some t → t.k = 0 ∨ t.k = 1 ∨ j + 1 < (lx.tksF l f i).length
 | 0,i,hi,hf,j,t,h => by simp [lx.tksF] at h
 | f + 1,i,hi,hf,j,t,h => by
  by_cases he:(lx.tkAt l i).k = 0 ∨ (lx.tkAt l i).k = 1
  ·rw [lx.tksF,if_pos he] at h
   cases j with
   | zero => simp at h;subst h;rcases he with e | e;exact .inl e;exact .inr (.inl e)
   | succ j => simp at h
  ·rw [lx.tksF,if_neg he] at h ⊢
   have h2:=lx.tk_le l i hi
   have h3:i < (lx.tkAt l i).to:=by
    rcases h2.2.2 with e | e | e
    ·exact absurd (.inl e) he
    ·exact absurd (.inr e) he
    ·exact e
   cases j with
   | zero =>
    right;right
    cases f with
    | zero => omega
    | succ f =>
     rw [lx.tksF]
     split <;> simp
   | succ j =>
    have:=tks_more l f (lx.tkAt l i).to h2.2.1 (by omega) j t (by simpa using h)
    simpa using this
theorem tksF_len (l:List Int):∀ (f i:Nat),i ≤ l.length → (lx.tksF l f i).length ≤ l.length + 1 - i
 | 0,i,hi => by simp [lx.tksF]
 | f + 1,i,hi => by
  by_cases he:(lx.tkAt l i).k = 0 ∨ (lx.tkAt l i).k = 1
  ·rw [lx.tksF,if_pos he];simp;omega
  ·rw [lx.tksF,if_neg he]
   have h2:=lx.tk_le l i hi
   have h3:i < (lx.tkAt l i).to:=by
    rcases h2.2.2 with e | e | e
    ·exact absurd (.inl e) he
    ·exact absurd (.inr e) he
    ·exact e
   have:=tksF_len l f (lx.tkAt l i).to h2.2.1
   simp
   omega
theorem tks_pos (l:List Int) (i:Nat):0 < (lx.tks l i).length:=by
 unfold lx.tks
 rw [lx.tksF]
 split <;> simp
theorem newS_ok (l:List Int) (d:Int):(newS l d).Ok:=
 ⟨tks_pos l 0,tks_more l (l.length + 1) 0 (Nat.zero_le _) (by omega),Nat.zero_le _,by unfold newS mostS;simp only;omega⟩
theorem new_ok (a:Option Addr) (n c:Nat) (l:List Int) (d:Int) (w:World) (h:Row .u8 w a n c l) (hn:n ≤ 1099511627776) (hp:lx.Plain l) (hd:(Lit.int .i64 d).wf = true) :
  Calls Tryz.prog 12 #[.slice a n c,.int .i64 d] w fun e w' => ∃ B p,e = .returned (ptr B) ∧ w.heap.size ≤ B ∧ w.heap.size ≤ p ∧ CurAt w' B p (newS l d) ∧ Below w.heap.size w w':=by
 have hT:=Hi (fun W (bb:Below w.heap.size w W) => lx.tokens_ok a n c l W (h.below bb) hn hp)
 have hok:=Hi (newS_ok l d)
 have hlen:=tksF_len l (l.length + 1) 0 (Nat.zero_le _)
 rw [h.len] at hlen
 go_enter Tryz.func12,Tryz.ntmps12
 go_wp2_with fail
 refine ((uh hT) w (Below.refl _ _)).mono ?_
 rintro e w1 ⟨p,cap,rfl,hp1,hp2,hrows,b1⟩
 have HR:=Hi hrows
 clear hT hrows
 go_wp2_with fail
 go_ret
 have hmo:(max 0 (min d 200)) = ((mostS d:Nat):Int):=by unfold mostS;omega
 rw [hmo]
 have bX:∀ o,Below w1.heap.size w1 (w1.alloc o):=fun o => ba
 refine ⟨w1.heap.size,p,rfl,b1.size,hp1,⟨uh hok,?_,cap,heap_alloc_new w1 _,by omega,?_,fun i t ht => ((uh HR) i t ht).below (bX _)⟩,b1.alloc b1.size _⟩
 ·show (lx.tks l 0).length ≤ _
  unfold lx.tks
  rw [h.len]
  omega
 ·simp;omega
theorem result_rows2 {P:Program} {fn:Func} {p q:Tmp} {ty tz:TypeId} (h:fn.results = #[.cell p ty,.cell q tz]) (tmps:Array Value) (w:World) (b o:Nat) (cs:List Value) (d:TypeDesc) (hp:tmps.getD p undef = .pointer (some ⟨b,o,none⟩)) (hc:w.rangeAt b o cs)
  (hu:P.underlying ty = some d) (hd:d.isRow = true) (hi:(P.info? ty).map (·.size) = some cs.length) (b2 o2:Nat) (ds:List Value) (d2:TypeDesc) (hp2:tmps.getD q undef = .pointer (some ⟨b2,o2,none⟩)) (hc2:w.rangeAt b2 o2 ds)
  (hu2:P.underlying tz = some d2) (hd2:d2.isRow = true) (hi2:(P.info? tz).map (·.size) = some ds.length):(results fn tmps).run P w = .ok (.tuple #[.agg cs.toArray,.agg ds.toArray]) w:=by
 have h1:=run_loadVar_mid (P:=P) w b o ty cs d hc hu hd hi
 have h2:=run_loadVar_mid (P:=P) w b2 o2 tz ds d2 hc2 hu2 hd2 hi2
 have hp':tmps[p]?.getD undef = .pointer (some ⟨b,o,none⟩):=by simpa using hp
 have hp2':tmps[q]?.getD undef = .pointer (some ⟨b2,o2,none⟩):=by simpa using hp2
 simp [results,h,hp',hp2',asAddr,h1,h2]
theorem res2 {w3:World} {b1 b2:Nat} (hne:b1 ≠ b2) (cs ds:List Value) (h1:w3.there b1 0 cs.length) (h2:w3.there b2 0 ds.length):(w3.setCells b1 0 cs).there b2 0 ds.length ∧ ((w3.setCells b1 0 cs).setCells b2 0 ds).rangeAt b1 0 cs ∧ ((w3.setCells b1 0 cs).setCells b2 0 ds).rangeAt b2 0 ds:=by
 have h3:(w3.setCells b1 0 cs).there b2 0 ds.length:=World.there_setCells h2 _ _ _
 refine ⟨h3,fun j u hu => ?_,World.rangeAt_setCells_same _ _ _ _ h3⟩
 rw [dt.cell_blk (dt.heap_setCells b2 b1 hne ds 0 _)]
 exact World.rangeAt_setCells_same w3 b1 0 cs h1 j u hu
theorem FltAt.out {lo:Nat} {w:World} {c:Cu} {fs:List Value} (h:FltAt lo w c fs) {b:Nat} (hb:b < lo) (o:Nat) (vs:List Value):FltAt lo (w.setCells b o vs) c fs:=by
 unfold FltAt at h ⊢
 split at h
 ·rw [if_pos ‹_›];exact h
 ·rw [if_neg ‹_›]
  obtain ⟨d,h1,h2,h3,h4,h5⟩:=h
  exact ⟨d,h1,by rw [dt.size_setCells];exact h2,h3,(dt.cell_blk (dt.heap_setCells b d (by omega) vs o w) _).trans h4,(dt.cell_blk (dt.heap_setCells b d (by omega) vs o w) _).trans h5⟩
theorem FltAt.mono {lo lo':Nat} {w:World} {c:Cu} {fs:List Value} (h:FltAt lo w c fs) (hb:lo' ≤ lo):FltAt lo' w c fs:=by
 unfold FltAt at h ⊢
 split at h
 ·rw [if_pos ‹_›];exact h
 ·rw [if_neg ‹_›]
  obtain ⟨d,h1,h2,h3,h4,h5⟩:=h
  exact ⟨d,by omega,h2,h3,h4,h5⟩
theorem FltAt.three {lo:Nat} {w:World} {c:Cu} {fs:List Value} (h:FltAt lo w c fs):fs.length = 3 ∧ fs.all (·.oneCell') = true:=by
 unfold FltAt at h
 split at h
 ·rw [h];exact ⟨rfl,rfl⟩
 ·obtain ⟨d,h1,h2,h3,h4,h5⟩:=h
  rw [h3];exact ⟨rfl,rfl⟩
def readT (l:List Int) (d:Int):Option (ByteArray × ByteArray) × Cu:=
 if (typF (lx.tks l 0).length (newS l d)).1.isSome then (if (typF (lx.tks l 0).length (newS l d)).2.finB then (typF (lx.tks l 0).length (newS l d)).1 else none,(typF (lx.tks l 0).length (newS l d)).2.fin) else (none,(typF (lx.tks l 0).length (newS l d)).2)
set_option maxRecDepth 4000 in
set_option maxHeartbeats 2000000 in
theorem readType_ok (a:Option Addr) (n c:Nat) (l:List Int) (d:Int) (w:World) (h:Row .u8 w a n c l) (hn:n ≤ 1099511627776) (hp:lx.Plain l) (hd:(Lit.int .i64 d).wf = true) :
  Calls Tryz.prog 10 #[.slice a n c,.int .i64 d] w fun e w' => ∃ fs,e = .returned (.tuple #[.agg (trC (readT l d).1).toArray,.agg fs.toArray]) ∧ FltAt w.heap.size w' (readT l d).2 fs ∧ Below w.heap.size w w':=by
 have hN:=Hi (fun W (bb:Below w.heap.size w W) => new_ok a n c l d W (h.below bb) hn hp hd)
 have hok:=newS_ok l d
 have hlen:(newS l d).ts.length ≤ 1099511627777:=by
  have:=tksF_len l (l.length + 1) 0 (Nat.zero_le _)
  show (lx.tksF l (l.length + 1) 0).length ≤ _
  rw [h.len] at this ⊢
  omega
 have hT:=Hi (typF_ok (lx.tks l 0).length (newS l d) hok hlen (Nat.le_add_right _ _))
 have hg:=Hi (typF_goes (lx.tks l 0).length (newS l d) hok).1
 unfold readT
 obtain ⟨U,hU⟩:∃ U,U = typF (lx.tks l 0).length (newS l d):=⟨_,rfl⟩
 unfold TypAt at hT
 rw [← hU] at hT hg ⊢
 obtain ⟨c0,hc0⟩:∃ c0,c0 = newS l d:=⟨_,rfl⟩
 rw [← hc0] at hN hT hg
 clear h hU hok hlen hc0
 obtain ⟨r,C⟩:=U
 go_enter Tryz.func10,Tryz.ntmps10
 go_wp2_with fail
 have bW0:Below w.heap.size w ((w.alloc (.cells #[Value.string { data:=#[] },.string { data:=#[] }] 44)).alloc (.cells #[Value.int .i64 0,.slice none 0 0,.slice none 0 0] 38)):=(ba).alloc (by simp) _
 have hR1:((w.alloc (.cells #[Value.string { data:=#[] },.string { data:=#[] }] 44)).alloc (.cells #[Value.int .i64 0,.slice none 0 0,.slice none 0 0] 38)).heap[w.heap.size]? = some (.cells #[Value.string { data:=#[] },.string { data:=#[] }] 44 (0,0)):=(Below.heap_alloc _ _ w.heap.size (by simp)).trans (heap_alloc_new w _)
 have hR2:((w.alloc (.cells #[Value.string { data:=#[] },.string { data:=#[] }] 44)).alloc (.cells #[Value.int .i64 0,.slice none 0 0,.slice none 0 0] 38)).heap[w.heap.size + 1]? = some (.cells #[Value.int .i64 0,.slice none 0 0,.slice none 0 0] 38 (0,0)):=by
  have:=heap_alloc_new (w.alloc (.cells #[Value.string { data:=#[] },.string { data:=#[] }] 44)) (.cells #[Value.int .i64 0,.slice none 0 0,.slice none 0 0] 38)
  simpa using this
 have hz0:w.heap.size + 1 < ((w.alloc (.cells #[Value.string { data:=#[] },.string { data:=#[] }] 44)).alloc (.cells #[Value.int .i64 0,.slice none 0 0,.slice none 0 0] 38)).heap.size:=by simp
 obtain ⟨W0,hW0⟩:∃ W0,W0 = (w.alloc (.cells #[Value.string { data:=#[] },.string { data:=#[] }] 44)).alloc (.cells #[Value.int .i64 0,.slice none 0 0,.slice none 0 0] 38):=⟨_,rfl⟩
 rw [← hW0] at bW0 hR1 hR2 hz0 ⊢
 clear hW0
 refine ((uh hN) W0 bW0).mono ?_
 rintro e w1 ⟨B,p,rfl,hB,hp0,hc1,b1⟩
 have hTB:=Hi ((uh hT) B p)
 have hend:=Hi (fun W (hc:CurAt W B p C) => end_ok B p C W hc)
 have htold:=Hi (fun W (D:Cu) (hc:CurAt W B p D) => told_ok B p D W hc)
 clear hN hT
 unfold ptr at hTB hend htold ⊢
 go_wp2_with fail
 refine ((uh hTB) w1 hc1).mono ?_
 rintro e w2 ⟨rfl,hc2,hk2⟩
 have hB1:=hc1.lt
 have b02:Below W0.heap.size W0 w2:=b1.trans (hk2.below hB b1.size)
 have HC2:=Hi hc2
 clear hTB hc1 hc2 hk2 b1
 have bA2:=Hi (fun o => show Below w2.heap.size w2 (w2.alloc o) from ba)
 cases r with
 | none =>
  unfold trC
  go_wp2_with fail
  have bT:=b02.alloc b02.size (.cells #[Value.string em,.string em] 44)
  refine ((uh htold) _ C ((uh HC2).below ((uh bA2) _))).mono ?_
  rintro e w5 ⟨fs,rfl,hflt,b5⟩
  have b05:Below W0.heap.size W0 w5:=bT.trans (b5.mono bT.size)
  have hne12:w.heap.size ≠ w.heap.size + 1:=by omega
  have HT1:=Hi (show w5.there w.heap.size 0 2 from dt.there_cells ((b05.block w.heap.size (by omega)).trans hR1) (by decide))
  have HT2:=Hi (show w5.there (w.heap.size + 1) 0 fs.length from by rw [hflt.three.1];exact dt.there_cells ((b05.block (w.heap.size + 1) hz0).trans hR2) (by decide))
  have HX:=Hi (res2 hne12 [.string ⟨#[]⟩,.string ⟨#[]⟩] fs (uh HT1) (uh HT2))
  have HI:=Hi (show (Tryz.prog.info? 38).map (·.size) = some fs.length from by rw [hflt.three.1];exact infoFl)
  have HO:=Hi (dt.one_cells hflt.three.2)
  have HF:=Hi hflt
  have hbw:=Hi (bW0.trans (b05.mono bW0.size))
  have hlo:=Hi (show w.heap.size + 1 < _ ∧ w.heap.size < _ from And.intro (Nat.lt_of_lt_of_le hz0 bT.size) (Nat.lt_of_lt_of_le (Nat.lt_of_succ_lt hz0) bT.size))
  clear b05 b5 htold hflt
  go_wp2_with (first
   | refine wpList_store_mid (by rfl) 44 _ _ (by rfl) w.heap.size 0 #[.string ⟨#[]⟩,.string ⟨#[]⟩] (by rfl) (by rfl) (uh HT1) infoTr (dt.one_cells (cs:=[.string ⟨#[]⟩,.string ⟨#[]⟩]) (by rfl)) ?_
   | refine wpList_store_mid (by rfl) 38 _ _ (by rfl) (w.heap.size + 1) 0 fs.toArray (by rfl) (by rfl) (by have:=(uh HX).1;simpa using this) (by have:=uh HI;simpa using this) (uh HO) ?_)
  refine bodyPost_ret (result_rows2 rfl _ _ w.heap.size 0 [.string ⟨#[]⟩,.string ⟨#[]⟩] _ rfl (uh HX).2.1 Tryz.underlying44 rfl infoTr (w.heap.size + 1) 0 fs _ rfl (uh HX).2.2 Tryz.underlying38 rfl (uh HI)) rfl ?_
  refine ⟨_,rfl,?_,dt.below_setCells _ _ _ _ (dt.below_setCells _ _ _ _ (uh hbw) (Nat.le_refl _)) (Nat.le_add_right _ 1)⟩
  exact (((uh HF).out (uh hlo).2 _ _).out (uh hlo).1 _ _).mono (Nat.le_of_lt (uh hlo).2)
 | some it =>
  obtain ⟨nm,wp⟩:=it
  cases hF:C.finB
  ·rw [hF] at hend
   unfold trC
   go_wp2_with fail
   refine ((uh hend) _ ((uh HC2).below ((uh bA2) _))).mono ?_
   rintro e w3 ⟨rfl,hc3,hk3⟩
   have bT:Below W0.heap.size W0 w3:=(b02.alloc b02.size _).trans (hk3.below hB (Nat.le_trans b02.size ((uh bA2) _).size))
   go_wp2_with fail
   refine ((uh htold) _ C.fin hc3).mono ?_
   rintro e w5 ⟨fs,rfl,hflt,b5⟩
   have b05:Below W0.heap.size W0 w5:=bT.trans (b5.mono bT.size)
   have hne12:w.heap.size ≠ w.heap.size + 1:=by omega
   have HT1:=Hi (show w5.there w.heap.size 0 2 from dt.there_cells ((b05.block w.heap.size (by omega)).trans hR1) (by decide))
   have HT2:=Hi (show w5.there (w.heap.size + 1) 0 fs.length from by rw [hflt.three.1];exact dt.there_cells ((b05.block (w.heap.size + 1) hz0).trans hR2) (by decide))
   have HX:=Hi (res2 hne12 [.string ⟨#[]⟩,.string ⟨#[]⟩] fs (uh HT1) (uh HT2))
   have HI:=Hi (show (Tryz.prog.info? 38).map (·.size) = some fs.length from by rw [hflt.three.1];exact infoFl)
   have HO:=Hi (dt.one_cells hflt.three.2)
   have HF:=Hi hflt
   have hbw:=Hi (bW0.trans (b05.mono bW0.size))
   have hlo:=Hi (show w.heap.size + 1 < _ ∧ w.heap.size < _ from And.intro (Nat.lt_of_lt_of_le hz0 bT.size) (Nat.lt_of_lt_of_le (Nat.lt_of_succ_lt hz0) bT.size))
   clear b05 b5 htold hflt
   go_wp2_with (first
    | refine wpList_store_mid (by rfl) 44 _ _ (by rfl) w.heap.size 0 #[.string ⟨#[]⟩,.string ⟨#[]⟩] (by rfl) (by rfl) (uh HT1) infoTr (dt.one_cells (cs:=[.string ⟨#[]⟩,.string ⟨#[]⟩]) (by rfl)) ?_
    | refine wpList_store_mid (by rfl) 38 _ _ (by rfl) (w.heap.size + 1) 0 fs.toArray (by rfl) (by rfl) (by have:=(uh HX).1;simpa using this) (by have:=uh HI;simpa using this) (uh HO) ?_)
   refine bodyPost_ret (result_rows2 rfl _ _ w.heap.size 0 [.string ⟨#[]⟩,.string ⟨#[]⟩] _ rfl (uh HX).2.1 Tryz.underlying44 rfl infoTr (w.heap.size + 1) 0 fs _ rfl (uh HX).2.2 Tryz.underlying38 rfl (uh HI)) rfl ?_
   refine ⟨_,rfl,?_,dt.below_setCells _ _ _ _ (dt.below_setCells _ _ _ _ (uh hbw) (Nat.le_refl _)) (Nat.le_add_right _ 1)⟩
   exact (((uh HF).out (uh hlo).2 _ _).out (uh hlo).1 _ _).mono (Nat.le_of_lt (uh hlo).2)
  ·rw [hF] at hend
   unfold trC
   go_wp2_with fail
   refine ((uh hend) _ ((uh HC2).below ((uh bA2) _))).mono ?_
   rintro e w3 ⟨rfl,hc3,hk3⟩
   have hI3:=(hk3.block w2.heap.size (by simp) (by have:=(uh HC2).lt;omega)).trans (heap_alloc_new w2 _)
   have b03:Below W0.heap.size W0 w3:=(b02.alloc b02.size _).trans (hk3.below hB (Nat.le_trans b02.size ((uh bA2) _).size))
   have i0:w3.cell? ⟨w2.heap.size,0,none⟩ = some (.string nm):=(dt.cell_cells hI3 0).trans rfl
   have i1:w3.cell? ⟨w2.heap.size,1,none⟩ = some (.string wp):=(dt.cell_cells hI3 1).trans rfl
   have hne12:w.heap.size ≠ w.heap.size + 1:=by omega
   have HT1:=Hi (show w3.there w.heap.size 0 2 from dt.there_cells ((b03.block w.heap.size (by omega)).trans hR1) (by decide))
   have HT2:=Hi (show w3.there (w.heap.size + 1) 0 3 from dt.there_cells ((b03.block (w.heap.size + 1) hz0).trans hR2) (by decide))
   have HX:=Hi (res2 hne12 [.string nm,.string wp] [.int .i64 0,.slice none 0 0,.slice none 0 0] (uh HT1) (uh HT2))
   have hfin:=Hi (show C.fin = C ∧ C.kd = 0 from ⟨by unfold Cu.fin;rw [hF];rfl,(of_decide_eq_true hF).1⟩)
   have hbw:=Hi (bW0.trans (b03.mono bW0.size))
   clear hI3 b03 hk3 hc3 hend htold b02 bA2
   go_wp2_with (first
    | refine wpList_store_mid (by rfl) 44 _ _ (by rfl) w.heap.size 0 #[.string nm,.string wp] (by rfl) (by rfl) (uh HT1) infoTr (dt.one_cells (cs:=[.string nm,.string wp]) (by rfl)) ?_
    | refine wpList_store_mid (by rfl) 38 _ _ (by rfl) (w.heap.size + 1) 0 #[.int .i64 0,.slice none 0 0,.slice none 0 0] (by rfl) (by rfl) (uh HX).1 infoFl (dt.one_cells (cs:=[.int .i64 0,.slice none 0 0,.slice none 0 0]) (by rfl)) ?_)
   refine bodyPost_ret (result_rows2 rfl _ _ w.heap.size 0 [.string nm,.string wp] _ rfl (uh HX).2.1 Tryz.underlying44 rfl infoTr (w.heap.size + 1) 0 [.int .i64 0,.slice none 0 0,.slice none 0 0] _ rfl (uh HX).2.2 Tryz.underlying38 rfl infoFl) rfl ?_
   refine ⟨_,rfl,?_,dt.below_setCells _ _ _ _ (dt.below_setCells _ _ _ _ (uh hbw) (Nat.le_refl _)) (Nat.le_add_right _ 1)⟩
   unfold FltAt
   show (if C.fin.kd = 0 then _ else _)
   rw [(uh hfin).1,if_pos (uh hfin).2]
end Go.Proofs.YtepmbmbnlmbhhaaGreat.cu
