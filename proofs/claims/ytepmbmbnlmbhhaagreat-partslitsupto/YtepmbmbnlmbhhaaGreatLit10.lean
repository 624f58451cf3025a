import Derived.Test.YtepmbmbnlmbhhaaGreatLit9
set_option linter.unusedVariables false
set_option linter.unusedSimpArgs false
namespace Go.Proofs.YtepmbmbnlmbhhaaGreat.cu
open Go.ChangeShapes Go.WideShapes Go.ChangeAt Go.RowKit
open ints (Hi uh)
open dt (Dt Kp RowAt Ow Grow)
theorem two_alloc (w:World) (o o':Obj):Below w.heap.size w ((w.alloc o).alloc o'):=((Below.refl _ _).alloc (Nat.le_refl _) o).alloc (by simp) o'
theorem two_at (w:World) (cs ds:Array Value) (t u:TypeId):((w.alloc (.cells cs t)).alloc (.cells ds u)).heap[w.heap.size]? = some (.cells cs t (0,0)) ∧ ((w.alloc (.cells cs t)).alloc (.cells ds u)).heap[w.heap.size + 1]? = some (.cells ds u (0,0)):=by
 refine ⟨(Below.heap_alloc _ _ w.heap.size (by simp)).trans (heap_alloc_new w _),?_⟩
 have:=heap_alloc_new (w.alloc (.cells cs t)) (.cells ds u)
 simpa using this
theorem steps_nil (w:World):Calls Tryz.prog 24 #[.slice none 0 0,.slice none 0 0] w fun e w' => e = .returned (.bool true) ∧ w' = w:=by
 go_enter Tryz.func24,Tryz.ntmps24
 go_wp2_with fail
 refine wp_loop_rounds 1 ?_
 rw [rounds_succ]
 go_wp2_with fail
 go_ret
 exact ⟨rfl,rfl⟩
theorem pos_nil (w:World):Calls Tryz.prog 23 #[.slice none 0 0,.slice none 0 0] w fun e w' => e = .returned (.int .i64 0) ∧ w' = w:=by
 go_enter Tryz.func23,Tryz.ntmps23
 go_wp2_with fail
 refine wp_loop_rounds 1 ?_
 rw [rounds_succ]
 go_wp2_with fail
 go_ret
 exact ⟨rfl,rfl⟩
end Go.Proofs.YtepmbmbnlmbhhaaGreat.cu
namespace Go.Proofs.YtepmbmbnlmbhhaaGreat.rgn
variable {P:Program}
theorem call_wp {o:Oper} {a:Act} {w:World} {K:Act → World → Prop} {Q:Exit → Act → World → Prop} (f:FuncId) (fn:Func) (args:Array Operand) (tys:Array TypeId) (ho:o.op = .call { callee:=.value (.func f),args:=args,argTypes:=tys })
  (hf : P.funcs[f]? = some fn) (hname : (fn.name == "runtime.NumGoroutine") = false) (hb : fn.body.isNone = false) (vs : Array Value) (hv : args.map a.eval = vs)
  (hc:Calls P f vs w fun e w' => ∃ v,e = .returned v ∧ K (a.put o.dst v) w'):o.wp P a w K Q:=by
 have h1 : fn.name ≠ "runtime.NumGoroutine" := by simpa using hname
 have hrun:(execOp a.eval o).run P w = .ok (.enter f vs) w:=by
  unfold execOp
  simp only [ho]
  obtain ⟨c,hc'⟩:∃ c,fn.body = some c:=by cases h:fn.body <;> simp_all
  simp [resolve,hv,Deferred.ofValue,invoke,callFunc,hf,h1,hc',Act.eval]
 unfold Oper.wp
 rw [hrun,Oper.upon_enter]
 refine hc.mono ?_
 rintro e w' ⟨v,rfl,hk⟩
 exact hk
end Go.Proofs.YtepmbmbnlmbhhaaGreat.rgn
namespace Go.Proofs.YtepmbmbnlmbhhaaGreat.cr
open Go.ChangeShapes Go.WideShapes Go.ChangeAt Go.RowKit
open ints (Hi uh)
open dt (Dt Kp RowAt)
open cu
variable {P:Program} {md:Region.Mode} {ops:Array Oper} {Q:Exit → Act → World → Prop} {S:World → Prop}
theorem _root_.Go.Proofs.YtepmbmbnlmbhhaaGreat.rgn.oneV {i fuel:Nat} {listed:Array Bool} {a:Act} {w:World} {v:Value} (o:Oper) (ho:ops[i]? = some o) (hr:Region.ready md ops listed = [i]) (hw:Region.wanted o (yielded ops a.tmps) = true)
  (hy:(execOp a.eval o).run P w = .ok (.value v) w) (hS:S w) (h:wpAnyH P md ops Q S fuel (listed.setIfInBounds i true) (a.put o.dst v) w):wpAnyH P md ops Q S (fuel + 1) listed a w:=by
 refine rgn.one o ho hr hw ?_
 unfold Oper.wp
 rw [hy]
 exact ⟨hS,h⟩
set_option maxHeartbeats 4000000 in
set_option maxRecDepth 4000 in
theorem nameNil_ok (B p:Nat) (c:Cu) (w:World) (h:RurAt w B p c):Calls Tryz.prog 46 #[ptr B,.slice none 0 0] w fun e w' =>
  e = .returned (.tuple #[.agg c.nmT.toArray,.bool c.isN]) ∧ RurAt w' B p c.name ∧ Kp B w w':=by
 have hn:=Hi (fun W (hc:RurAt W B p c) => named_ok B p c c.isN W hc (isN_more h.ok))
 have hs:=Hi (show c.name = if c.isN then c.take else c.stop 70 from rfl)
 have hs2:=Hi (show c.nmT = if c.isN then [.string c.tok.tx,.int .i64 c.tok.ln,.int .i64 c.tok.co] else [.string em,.int .i64 0,.int .i64 0] from rfl)
 have hV3:=Hi (nmT_3 c).1
 have hV1:=Hi (nmT_3 c).2
 have hlt:=h.lt
 have hplt:=h.plt
 have hix:=h.ok.lt
 have hlen:=h.len
 have hne:B ≠ w.heap.size:=by omega
 have hnp:p ≠ w.heap.size:=by omega
 have HH:=Hi h
 obtain ⟨V,hV⟩:∃ V,V = c.nmT:=⟨_,rfl⟩
 obtain ⟨C,hC⟩:∃ C,C = c.name:=⟨_,rfl⟩
 rw [← hV] at hs2 hV3 hV1 ⊢
 rw [← hC] at hs ⊢
 rw [← uh hs,← uh hs2] at hn
 have hP:=Hi (show c.isN = decide (c.kd = 0 ∧ c.tok.k = 3) from rfl)
 obtain ⟨R,hR⟩:∃ R,R = c.isN:=⟨_,rfl⟩
 rw [← hR] at hn hP hs2 ⊢
 have hr:=h.tk
 obtain ⟨cap,d0,d1,-,-⟩:=h.c01
 obtain ⟨-,-,-,d4⟩:=h.c2
 obtain ⟨ix,hk⟩:∃ ix,ix = c.ix:=⟨_,rfl⟩
 obtain ⟨n,hk2⟩:∃ n,n = c.ts.length:=⟨_,rfl⟩
 obtain ⟨t,hk3⟩:∃ t,t = c.tok:=⟨_,rfl⟩
 obtain ⟨kd,hk4⟩:∃ kd,kd = c.kd:=⟨_,rfl⟩
 rw [← hk,← hk2] at hix
 rw [← hk2] at d0 hlen
 rw [← hk] at d1 hr
 rw [← hk3] at hr hP hs2
 rw [← hk4] at hP d4
 have e0:w.cell? ⟨p,ix * 7,none⟩ = some (.int .i64 t.k):=hr 0 _ rfl
 have hpB:=h.box.choose_spec.2.1
 have hVT:=Hi (show (R = true → V = [.string t.tx,.int .i64 t.ln,.int .i64 t.co]) ∧ (R = false → V = [.string em,.int .i64 0,.int .i64 0]) from ⟨fun e => by rw [uh hs2,e];rfl,fun e => by rw [uh hs2,e];rfl⟩)
 clear h hR hV hC hs hs2 hk hk2 hk3 hk4 hr
 have ii:(ix:Int) < (n:Int):=by omega
 have hR0:=Hi (show kd ≠ 0 → R = false from fun e => by rw [uh hP];simp [e])
 have hR1:=Hi (show t.k ≠ 3 → R = false from fun e => by rw [uh hP];simp [e])
 have hR2:=Hi (show kd = 0 → t.k = 3 → R = true from fun e e2 => by rw [uh hP];simp [e,e2])
 by_cases h0:kd = 0
 ·by_cases h1:t.k = 3
  ·obtain rfl:=(uh hR2) h0 h1
   have HV:=Hi (show V = [Value.string t.tx,.int .i64 t.ln,.int .i64 t.co] from (uh hVT).1 rfl)
   have b1:(t.k == 3) = true:=by simpa using h1
   subst h0
   clear h1 hR0 hR1 hR2 hVT
   obtain rfl:=uh HV
   unfold ptr at hn ⊢
   have hW:=Hi (isWord_nil B)
   unfold ptr at hW
   go_enter Tryz.func46,Tryz.ntmps46
   go_wp2_with fail
   have bA0:Below w.heap.size w (w.alloc (.cells #[Value.string { data:=#[] },.int .i64 0,.int .i64 0] 84)):=ba
   have hZ:=(fun W (hk:Kp B (w.alloc (.cells #[Value.string { data:=#[] },.int .i64 0,.int .i64 0] 84)) W) => show W.heap[w.heap.size]? = some (.cells #[Value.string { data:=#[] },.int .i64 0,.int .i64 0] 84 (0,0)) from (hk.block w.heap.size (by simp) (by omega)).trans (heap_alloc_new w _))
   obtain ⟨wA,hwA⟩:∃ wA,wA = w.alloc (.cells #[Value.string { data:=#[] },.int .i64 0,.int .i64 0] 84):=⟨_,rfl⟩
   rw [← hwA] at bA0 hZ ⊢
   clear hwA
   refine ((uh hW) wA).mono ?_
   rintro e w1 ⟨rfl,rfl⟩
   have D0:=(bA0.cell (p:=⟨B,0,none⟩) hlt).trans d0
   have D1:=(bA0.cell (p:=⟨B,1,none⟩) hlt).trans d1
   have D4:=(bA0.cell (p:=⟨B,4,none⟩) hlt).trans d4
   have E0:=(bA0.cell (p:=⟨p,ix * 7,none⟩) hplt).trans e0
   clear d0 d1 d4 e0 hW
   clear hV3 hV1 hP
   go_wp2_with fail
   have bd:Below w1.heap.size w1 { w1 with drawn:=w1.drawn + 1 }:=(Below.refl _ _).drew
   have bD:Below w.heap.size w { w1 with drawn:=w1.drawn + 1 }:=bA0.trans (bd.mono bA0.size)
   have hkD:Kp B w1 { w1 with drawn:=w1.drawn + 1 }:=Kp.of bd
   have hS0:({ w1 with drawn:=w1.drawn + 1 }:World).cell? ⟨B,0,none⟩ = some (.slice (some ⟨p,0,none⟩) n cap) ∧ ({ w1 with drawn:=w1.drawn + 1 }:World).cell? ⟨p,ix * 7,none⟩ = some (.int .i64 t.k):=⟨(bd.cell (p:=⟨B,0,none⟩) (Nat.lt_of_lt_of_le hlt bA0.size)).trans D0,(bd.cell (p:=⟨p,ix * 7,none⟩) (Nat.lt_of_lt_of_le hplt bA0.size)).trans E0⟩
   have G1:=(bd.cell (p:=⟨B,1,none⟩) (Nat.lt_of_lt_of_le hlt bA0.size)).trans D1
   have G4:=(bd.cell (p:=⟨B,4,none⟩) (Nat.lt_of_lt_of_le hlt bA0.size)).trans D4
   refine wp_region_noPanic ?_
   refine wp_region_held (S:=fun w' => w'.cell? ⟨B,0,none⟩ = some (.slice (some ⟨p,0,none⟩) n cap) ∧ w'.cell? ⟨p,ix * 7,none⟩ = some (.int .i64 t.k)) mixed ?_
   refine rgn.tl (i:=0) (v:=?v1) rfl (by kernel_rfl) (fun _ _ _ h => h) (by rfl) ?hy1 hS0 ?_
   case hy1 => (intro w' hw';go_simp;try with_reducible rfl)
   simp only [zA,zB,zC,Act.put,zD,zE,zF]
   refine rgn.tl (i:=1) (v:=?v2) rfl (by kernel_rfl) (fun _ _ _ h => h) (by rfl) ?hy2 hS0 ?_
   case hy2 => (intro w' hw';go_simp;try with_reducible rfl)
   simp only [zA,zB,zC,Act.put,zD,zE,zF]
   refine rgn.tl (i:=2) (v:=?v3) rfl (by kernel_rfl) (fun _ _ _ h => h) (by rfl) ?hy3 hS0 ?_
   case hy3 => (intro w' hw';go_simp;try with_reducible rfl)
   simp only [zA,zB,zC,Act.put,zD,zE,zF]
   refine rgn.tl (i:=3) (v:=?v4) rfl (by kernel_rfl) (fun _ _ _ h => h) (by rfl) ?hy4 hS0 ?_
   case hy4 => (intro w' hw';go_simp;try with_reducible rfl)
   simp only [zA,zB,zC,Act.put,zD,zE,zF]
   refine rgn.oneV (i:=4) (v:=?v5) _ rfl (by kernel_rfl) (by rfl) ?hy5 hS0 ?_
   case hy5 => (skip;go_simp;try with_reducible rfl)
   simp only [zA,zB,zC,Act.put,zD,zE,zF]
   refine rgn.tl (i:=5) (v:=?v6) rfl (by kernel_rfl) (fun _ _ _ h => h) (by rfl) ?hy6 hS0 ?_
   case hy6 => (intro w' hw';go_simp;try with_reducible rfl)
   simp only [zA,zB,zC,Act.put,zD,zE,zF]
   refine rgn.tl (i:=6) (v:=?v7) rfl (by kernel_rfl) (fun _ _ _ h => h) (by rfl) ?hy7 hS0 ?_
   case hy7 => (intro w' hw';go_simp;try with_reducible rfl)
   simp only [zA,zB,zC,Act.put,zD,zE,zF]
   refine rgn.tl (i:=7) (v:=?v8) rfl (by kernel_rfl) (fun _ _ _ h => h) (by rfl) ?hy8 hS0 ?_
   case hy8 => (intro w' hw';go_simp;try with_reducible rfl)
   simp only [zA,zB,zC,Act.put,zD,zE,zF]
   refine rgn.tl (i:=8) (v:=?v9) rfl (by kernel_rfl) (fun _ _ _ h => h) (by rfl) ?hy9 hS0 ?_
   case hy9 => (intro w' hw';go_simp;try with_reducible rfl)
   simp only [zA,zB,zC,Act.put,zD,zE,zF]
   refine rgn.tl (i:=9) (v:=?v10) rfl (by kernel_rfl) (fun _ _ _ h => h) (by rfl) ?hy10 hS0 ?_
   case hy10 => (intro w' hw';go_simp;try with_reducible rfl)
   simp only [zA,zB,zC,Act.put,zD,zE,zF]
   refine rgn.tl (i:=10) (v:=?v11) rfl (by kernel_rfl) (fun _ _ _ h => h) (by rfl) ?hy11 hS0 ?_
   case hy11 => (intro w' hw';have q0:=hw'.1;go_simp;try with_reducible rfl)
   simp only [zA,zB,zC,Act.put,zD,zE,zF]
   refine rgn.tl (i:=11) (v:=?v12) rfl (by kernel_rfl) (fun _ _ _ h => h) (by rfl) ?hy12 hS0 ?_
   case hy12 => (intro w' hw';go_simp;try with_reducible rfl)
   simp only [zA,zB,zC,Act.put,zD,zE,zF]
   refine rgn.tl (i:=12) (v:=?v13) rfl (by kernel_rfl) (fun _ _ _ h => h) (by rfl) ?hy13 hS0 ?_
   case hy13 => (intro w' hw';go_simp;try with_reducible rfl)
   simp only [zA,zB,zC,Act.put,zD,zE,zF]
   refine rgn.tl (i:=13) (v:=?v14) rfl (by kernel_rfl) (fun _ _ _ h => h) (by rfl) ?hy14 hS0 ?_
   case hy14 => (intro w' hw';go_simp;try with_reducible rfl)
   simp only [zA,zB,zC,Act.put,zD,zE,zF]
   refine rgn.oneV (i:=14) (v:=?v15) _ rfl (by kernel_rfl) (by rfl) ?hy15 hS0 ?_
   case hy15 => (skip;go_simp;try with_reducible rfl)
   simp only [zA,zB,zC,Act.put,zD,zE,zF]
   refine rgn.tl (i:=15) (v:=?v16) rfl (by kernel_rfl) (fun _ _ _ h => h) (by rfl) ?hy16 hS0 ?_
   case hy16 => (intro w' hw';go_simp;try with_reducible rfl)
   simp only [zA,zB,zC,Act.put,zD,zE,zF]
   refine rgn.tl (i:=16) (v:=?v17) rfl (by kernel_rfl) (fun _ _ _ h => h) (by rfl) ?hy17 hS0 ?_
   case hy17 => (intro w' hw';go_simp;try with_reducible rfl)
   simp only [zA,zB,zC,Act.put,zD,zE,zF]
   refine rgn.tl (i:=17) (v:=?v18) rfl (by kernel_rfl) (fun _ _ _ h => h) (by rfl) ?hy18 hS0 ?_
   case hy18 => (intro w' hw';have q0:=hw'.2;go_simp;try with_reducible rfl)
   simp only [zA,zB,zC,Act.put,zD,zE,zF]
   refine rgn.tl (i:=18) (v:=?v19) rfl (by kernel_rfl) (fun _ _ _ h => h) (by rfl) ?hy19 hS0 ?_
   case hy19 => (intro w' hw';go_simp;try with_reducible rfl)
   simp only [zA,zB,zC,Act.put,zD,zE,zF]
   refine rgn.tl (i:=19) (v:=?v20) rfl (by kernel_rfl) (fun _ _ _ h => h) (by rfl) ?hy20 hS0 ?_
   case hy20 => (intro w' hw';go_simp;try with_reducible rfl)
   simp only [zA,zB,zC,Act.put,zD,zE,zF]
   refine rgn.tl (i:=20) (v:=?v21) rfl (by kernel_rfl) (fun _ _ _ h => h) (by rfl) ?hy21 hS0 ?_
   case hy21 => (intro w' hw';go_simp;try with_reducible rfl)
   simp only [zA,zB,zC,Act.put,zD,zE,zF]
   refine rgn.tl (i:=21) (v:=?v22) rfl (by kernel_rfl) (fun _ _ _ h => h) (by rfl) ?hy22 hS0 ?_
   case hy22 => (intro w' hw';go_simp;try with_reducible rfl)
   simp only [zA,zB,zC,Act.put,zD,zE,zF]
   refine rgn.tl (i:=22) (v:=?v23) rfl (by kernel_rfl) (fun _ _ _ h => h) (by rfl) ?hy23 hS0 ?_
   case hy23 => (intro w' hw';go_simp;try with_reducible rfl)
   simp only [zA,zB,zC,Act.put,zD,zE,zF]
   refine rgn.tl (i:=23) (v:=?v24) rfl (by kernel_rfl) (fun _ _ _ h => h) (by rfl) ?hy24 hS0 ?_
   case hy24 => (intro w' hw';go_simp;try with_reducible rfl)
   simp only [zA,zB,zC,Act.put,zD,zE,zF]
   refine rgn.one (i:=24) _ rfl (by kernel_rfl) (by rfl) ?_
   simp only [zA,zB,zC,Act.put,zD,zE,zF]
   refine rgn.call_wp _ _ _ _ rfl Tryz.func85 (by kernel_rfl) (by kernel_rfl) #[.pointer (some ⟨B,0,none⟩),.bool true] (by first | kernel_rfl | (simp only [List.map_toArray,List.map_cons,List.map_nil];rfl)) ?_
   refine ((uh hn) _ ((uh HH).below bD)).mono ?_
   rintro e wN ⟨rfl,hcN,hkN,hz0⟩
   have hk3:=hkD.trans hkN
   have hbk:=hZ wN hk3
   have hth:wN.there w.heap.size 0 3:=dt.there_cells hbk (by decide)
   have HK:=(Kp.of bA0).trans hk3
   have hSN:wN.cell? ⟨B,0,none⟩ = some (.slice (some ⟨p,0,none⟩) n cap) ∧ wN.cell? ⟨p,ix * 7,none⟩ = some (.int .i64 t.k):=⟨hz0.trans hS0.1,(hkN.cell (Nat.lt_of_lt_of_le hplt (Nat.le_trans bA0.size bd.size)) hpB).trans hS0.2⟩
   refine ⟨_,rfl,hSN,?_⟩
   clear hS0 G1 G4
   have hS0:=hSN
   simp only [zA,zB,zC,Act.put,zD,zE,zF]
   refine rgn.tl (i:=25) (v:=?v25) rfl (by kernel_rfl) (fun _ _ _ h => h) (by rfl) ?hy25 hS0 ?_
   case hy25 => (intro w' hw';go_simp;try with_reducible rfl)
   simp only [zA,zB,zC,Act.put,zD,zE,zF]
   refine rgn.tl (i:=26) (v:=?v26) rfl (by kernel_rfl) (fun _ _ _ h => h) (by rfl) ?hy26 hS0 ?_
   case hy26 => (intro w' hw';go_simp;try with_reducible rfl)
   simp only [zA,zB,zC,Act.put,zD,zE,zF]
   refine rgn.one (i:=27) _ rfl (by kernel_rfl) (by rfl) ?_
   simp only [zA,zB,zC,Act.put,zD,zE,zF]
   refine wp_store_mid 84 _ _ (by rfl) w.heap.size 0 ([Value.string t.tx,.int .i64 t.ln,.int .i64 t.co]).toArray (by rfl) (by rfl) hth infoNm (dt.one_cells (cs:=[Value.string t.tx,.int .i64 t.ln,.int .i64 t.co]) (by rfl)) ?_
   have hS3:(wN.setCells w.heap.size 0 [Value.string t.tx,.int .i64 t.ln,.int .i64 t.co]).cell? ⟨B,0,none⟩ = some (.slice (some ⟨p,0,none⟩) n cap) ∧ (wN.setCells w.heap.size 0 [Value.string t.tx,.int .i64 t.ln,.int .i64 t.co]).cell? ⟨p,ix * 7,none⟩ = some (.int .i64 t.k):=⟨(dt.cell_blk (dt.heap_setCells w.heap.size B hne _ 0 _) _).trans hS0.1,(dt.cell_blk (dt.heap_setCells w.heap.size p hnp _ 0 _) _).trans hS0.2⟩
   refine ⟨hS3,?_⟩
   clear hS0
   have hS0:=hS3
   try simp only [zA,zB,zC,Act.put,zD,zE,zF]
   refine rgn.tl (i:=28) (v:=?v27) rfl (by kernel_rfl) (fun _ _ _ h => h) (by rfl) ?hy27 hS0 ?_
   case hy27 => (intro w' hw';go_simp;try with_reducible rfl)
   simp only [zA,zB,zC,Act.put,zD,zE,zF]
   refine wpAnyH_done (by kernel_rfl) ?_ _;refine NoPanic.normal ?_
   go_wp2_with fail
   refine bodyPost_ret (rgn.result_row_tmp rfl _ _ w.heap.size 0 [Value.string t.tx,.int .i64 t.ln,.int .i64 t.co] _ rfl (World.rangeAt_setCells_same _ _ _ _ hth) Tryz.underlying84 rfl infoNm) rfl ?_
   exact ⟨rfl,hcN.out hne hnp 0 [Value.string t.tx,.int .i64 t.ln,.int .i64 t.co],HK.out (Nat.le_refl _) 0 [Value.string t.tx,.int .i64 t.ln,.int .i64 t.co]⟩
  ·obtain rfl:=(uh hR1) h1
   have HV:=Hi (show V = [Value.string em,.int .i64 0,.int .i64 0] from (uh hVT).2 rfl)
   have b1:(t.k == 3) = false:=by simpa using h1
   subst h0
   clear h1 hR0 hR1 hR2 hVT
   obtain rfl:=uh HV
   unfold ptr at hn ⊢
   have hW:=Hi (isWord_nil B)
   unfold ptr at hW
   go_enter Tryz.func46,Tryz.ntmps46
   go_wp2_with fail
   have bA0:Below w.heap.size w (w.alloc (.cells #[Value.string { data:=#[] },.int .i64 0,.int .i64 0] 84)):=ba
   have hZ:=(fun W (hk:Kp B (w.alloc (.cells #[Value.string { data:=#[] },.int .i64 0,.int .i64 0] 84)) W) => show W.heap[w.heap.size]? = some (.cells #[Value.string { data:=#[] },.int .i64 0,.int .i64 0] 84 (0,0)) from (hk.block w.heap.size (by simp) (by omega)).trans (heap_alloc_new w _))
   obtain ⟨wA,hwA⟩:∃ wA,wA = w.alloc (.cells #[Value.string { data:=#[] },.int .i64 0,.int .i64 0] 84):=⟨_,rfl⟩
   rw [← hwA] at bA0 hZ ⊢
   clear hwA
   refine ((uh hW) wA).mono ?_
   rintro e w1 ⟨rfl,rfl⟩
   have D0:=(bA0.cell (p:=⟨B,0,none⟩) hlt).trans d0
   have D1:=(bA0.cell (p:=⟨B,1,none⟩) hlt).trans d1
   have D4:=(bA0.cell (p:=⟨B,4,none⟩) hlt).trans d4
   have E0:=(bA0.cell (p:=⟨p,ix * 7,none⟩) hplt).trans e0
   clear d0 d1 d4 e0 hW
   clear hV3 hV1 hP
   go_wp2_with fail
   have bd:Below w1.heap.size w1 { w1 with drawn:=w1.drawn + 1 }:=(Below.refl _ _).drew
   have bD:Below w.heap.size w { w1 with drawn:=w1.drawn + 1 }:=bA0.trans (bd.mono bA0.size)
   have hkD:Kp B w1 { w1 with drawn:=w1.drawn + 1 }:=Kp.of bd
   have hS0:({ w1 with drawn:=w1.drawn + 1 }:World).cell? ⟨B,0,none⟩ = some (.slice (some ⟨p,0,none⟩) n cap) ∧ ({ w1 with drawn:=w1.drawn + 1 }:World).cell? ⟨p,ix * 7,none⟩ = some (.int .i64 t.k):=⟨(bd.cell (p:=⟨B,0,none⟩) (Nat.lt_of_lt_of_le hlt bA0.size)).trans D0,(bd.cell (p:=⟨p,ix * 7,none⟩) (Nat.lt_of_lt_of_le hplt bA0.size)).trans E0⟩
   have G1:=(bd.cell (p:=⟨B,1,none⟩) (Nat.lt_of_lt_of_le hlt bA0.size)).trans D1
   have G4:=(bd.cell (p:=⟨B,4,none⟩) (Nat.lt_of_lt_of_le hlt bA0.size)).trans D4
   refine wp_region_noPanic ?_
   refine wp_region_held (S:=fun w' => w'.cell? ⟨B,0,none⟩ = some (.slice (some ⟨p,0,none⟩) n cap) ∧ w'.cell? ⟨p,ix * 7,none⟩ = some (.int .i64 t.k)) mixed ?_
   refine rgn.tl (i:=0) (v:=?v28) rfl (by kernel_rfl) (fun _ _ _ h => h) (by rfl) ?hy28 hS0 ?_
   case hy28 => (intro w' hw';go_simp;try with_reducible rfl)
   simp only [zA,zB,zC,Act.put,zD,zE,zF]
   refine rgn.tl (i:=1) (v:=?v29) rfl (by kernel_rfl) (fun _ _ _ h => h) (by rfl) ?hy29 hS0 ?_
   case hy29 => (intro w' hw';go_simp;try with_reducible rfl)
   simp only [zA,zB,zC,Act.put,zD,zE,zF]
   refine rgn.tl (i:=2) (v:=?v30) rfl (by kernel_rfl) (fun _ _ _ h => h) (by rfl) ?hy30 hS0 ?_
   case hy30 => (intro w' hw';go_simp;try with_reducible rfl)
   simp only [zA,zB,zC,Act.put,zD,zE,zF]
   refine rgn.tl (i:=3) (v:=?v31) rfl (by kernel_rfl) (fun _ _ _ h => h) (by rfl) ?hy31 hS0 ?_
   case hy31 => (intro w' hw';go_simp;try with_reducible rfl)
   simp only [zA,zB,zC,Act.put,zD,zE,zF]
   refine rgn.oneV (i:=4) (v:=?v32) _ rfl (by kernel_rfl) (by rfl) ?hy32 hS0 ?_
   case hy32 => (skip;go_simp;try with_reducible rfl)
   simp only [zA,zB,zC,Act.put,zD,zE,zF]
   refine rgn.tl (i:=5) (v:=?v33) rfl (by kernel_rfl) (fun _ _ _ h => h) (by rfl) ?hy33 hS0 ?_
   case hy33 => (intro w' hw';go_simp;try with_reducible rfl)
   simp only [zA,zB,zC,Act.put,zD,zE,zF]
   refine rgn.tl (i:=6) (v:=?v34) rfl (by kernel_rfl) (fun _ _ _ h => h) (by rfl) ?hy34 hS0 ?_
   case hy34 => (intro w' hw';go_simp;try with_reducible rfl)
   simp only [zA,zB,zC,Act.put,zD,zE,zF]
   refine rgn.tl (i:=7) (v:=?v35) rfl (by kernel_rfl) (fun _ _ _ h => h) (by rfl) ?hy35 hS0 ?_
   case hy35 => (intro w' hw';go_simp;try with_reducible rfl)
   simp only [zA,zB,zC,Act.put,zD,zE,zF]
   refine rgn.tl (i:=8) (v:=?v36) rfl (by kernel_rfl) (fun _ _ _ h => h) (by rfl) ?hy36 hS0 ?_
   case hy36 => (intro w' hw';go_simp;try with_reducible rfl)
   simp only [zA,zB,zC,Act.put,zD,zE,zF]
   refine rgn.tl (i:=9) (v:=?v37) rfl (by kernel_rfl) (fun _ _ _ h => h) (by rfl) ?hy37 hS0 ?_
   case hy37 => (intro w' hw';go_simp;try with_reducible rfl)
   simp only [zA,zB,zC,Act.put,zD,zE,zF]
   refine rgn.tl (i:=10) (v:=?v38) rfl (by kernel_rfl) (fun _ _ _ h => h) (by rfl) ?hy38 hS0 ?_
   case hy38 => (intro w' hw';have q0:=hw'.1;go_simp;try with_reducible rfl)
   simp only [zA,zB,zC,Act.put,zD,zE,zF]
   refine rgn.tl (i:=11) (v:=?v39) rfl (by kernel_rfl) (fun _ _ _ h => h) (by rfl) ?hy39 hS0 ?_
   case hy39 => (intro w' hw';go_simp;try with_reducible rfl)
   simp only [zA,zB,zC,Act.put,zD,zE,zF]
   refine rgn.tl (i:=12) (v:=?v40) rfl (by kernel_rfl) (fun _ _ _ h => h) (by rfl) ?hy40 hS0 ?_
   case hy40 => (intro w' hw';go_simp;try with_reducible rfl)
   simp only [zA,zB,zC,Act.put,zD,zE,zF]
   refine rgn.tl (i:=13) (v:=?v41) rfl (by kernel_rfl) (fun _ _ _ h => h) (by rfl) ?hy41 hS0 ?_
   case hy41 => (intro w' hw';go_simp;try with_reducible rfl)
   simp only [zA,zB,zC,Act.put,zD,zE,zF]
   refine rgn.oneV (i:=14) (v:=?v42) _ rfl (by kernel_rfl) (by rfl) ?hy42 hS0 ?_
   case hy42 => (skip;go_simp;try with_reducible rfl)
   simp only [zA,zB,zC,Act.put,zD,zE,zF]
   refine rgn.tl (i:=15) (v:=?v43) rfl (by kernel_rfl) (fun _ _ _ h => h) (by rfl) ?hy43 hS0 ?_
   case hy43 => (intro w' hw';go_simp;try with_reducible rfl)
   simp only [zA,zB,zC,Act.put,zD,zE,zF]
   refine rgn.tl (i:=16) (v:=?v44) rfl (by kernel_rfl) (fun _ _ _ h => h) (by rfl) ?hy44 hS0 ?_
   case hy44 => (intro w' hw';go_simp;try with_reducible rfl)
   simp only [zA,zB,zC,Act.put,zD,zE,zF]
   refine rgn.tl (i:=17) (v:=?v45) rfl (by kernel_rfl) (fun _ _ _ h => h) (by rfl) ?hy45 hS0 ?_
   case hy45 => (intro w' hw';have q0:=hw'.2;go_simp;try with_reducible rfl)
   simp only [zA,zB,zC,Act.put,zD,zE,zF]
   refine rgn.tl (i:=18) (v:=?v46) rfl (by kernel_rfl) (fun _ _ _ h => h) (by rfl) ?hy46 hS0 ?_
   case hy46 => (intro w' hw';go_simp;try with_reducible rfl)
   simp only [zA,zB,zC,Act.put,zD,zE,zF]
   refine rgn.tl (i:=19) (v:=?v47) rfl (by kernel_rfl) (fun _ _ _ h => h) (by rfl) ?hy47 hS0 ?_
   case hy47 => (intro w' hw';go_simp;try with_reducible rfl)
   simp only [zA,zB,zC,Act.put,zD,zE,zF]
   refine rgn.tl (i:=20) (v:=?v48) rfl (by kernel_rfl) (fun _ _ _ h => h) (by rfl) ?hy48 hS0 ?_
   case hy48 => (intro w' hw';go_simp;try with_reducible rfl)
   simp only [zA,zB,zC,Act.put,zD,zE,zF]
   refine rgn.tk (i:=21) (v:=undef) rfl (by kernel_rfl) (fun _ _ _ h => h) (Or.inr ⟨by rfl,rfl⟩) hS0 ?_
   simp only [zA,zB,zC,Act.put,zD,zE,zF]
   refine rgn.tk (i:=22) (v:=undef) rfl (by kernel_rfl) (fun _ _ _ h => h) (Or.inr ⟨by rfl,rfl⟩) hS0 ?_
   simp only [zA,zB,zC,Act.put,zD,zE,zF]
   refine rgn.tl (i:=23) (v:=?v49) rfl (by kernel_rfl) (fun _ _ _ h => h) (by rfl) ?hy49 hS0 ?_
   case hy49 => (intro w' hw';go_simp;try with_reducible rfl)
   simp only [zA,zB,zC,Act.put,zD,zE,zF]
   refine rgn.one (i:=24) _ rfl (by kernel_rfl) (by rfl) ?_
   simp only [zA,zB,zC,Act.put,zD,zE,zF]
   refine rgn.call_wp _ _ _ _ rfl Tryz.func85 (by kernel_rfl) (by kernel_rfl) #[.pointer (some ⟨B,0,none⟩),.bool false] (by first | kernel_rfl | (simp only [List.map_toArray,List.map_cons,List.map_nil];rfl)) ?_
   refine ((uh hn) _ ((uh HH).below bD)).mono ?_
   rintro e wN ⟨rfl,hcN,hkN,hz0⟩
   have hk3:=hkD.trans hkN
   have hbk:=hZ wN hk3
   have hth:wN.there w.heap.size 0 3:=dt.there_cells hbk (by decide)
   have HK:=(Kp.of bA0).trans hk3
   have hSN:wN.cell? ⟨B,0,none⟩ = some (.slice (some ⟨p,0,none⟩) n cap) ∧ wN.cell? ⟨p,ix * 7,none⟩ = some (.int .i64 t.k):=⟨hz0.trans hS0.1,(hkN.cell (Nat.lt_of_lt_of_le hplt (Nat.le_trans bA0.size bd.size)) hpB).trans hS0.2⟩
   refine ⟨_,rfl,hSN,?_⟩
   clear hS0 G1 G4
   have hS0:=hSN
   simp only [zA,zB,zC,Act.put,zD,zE,zF]
   refine rgn.tl (i:=25) (v:=?v50) rfl (by kernel_rfl) (fun _ _ _ h => h) (by rfl) ?hy50 hS0 ?_
   case hy50 => (intro w' hw';go_simp;try with_reducible rfl)
   simp only [zA,zB,zC,Act.put,zD,zE,zF]
   refine rgn.tl (i:=26) (v:=?v51) rfl (by kernel_rfl) (fun _ _ _ h => h) (by rfl) ?hy51 hS0 ?_
   case hy51 => (intro w' hw';go_simp;try with_reducible rfl)
   simp only [zA,zB,zC,Act.put,zD,zE,zF]
   refine rgn.one (i:=27) _ rfl (by kernel_rfl) (by rfl) ?_
   simp only [zA,zB,zC,Act.put,zD,zE,zF]
   refine wp_store_mid 84 _ _ (by rfl) w.heap.size 0 ([Value.string em,.int .i64 0,.int .i64 0]).toArray (by rfl) (by rfl) hth infoNm (dt.one_cells (cs:=[Value.string em,.int .i64 0,.int .i64 0]) (by rfl)) ?_
   have hS3:(wN.setCells w.heap.size 0 [Value.string em,.int .i64 0,.int .i64 0]).cell? ⟨B,0,none⟩ = some (.slice (some ⟨p,0,none⟩) n cap) ∧ (wN.setCells w.heap.size 0 [Value.string em,.int .i64 0,.int .i64 0]).cell? ⟨p,ix * 7,none⟩ = some (.int .i64 t.k):=⟨(dt.cell_blk (dt.heap_setCells w.heap.size B hne _ 0 _) _).trans hS0.1,(dt.cell_blk (dt.heap_setCells w.heap.size p hnp _ 0 _) _).trans hS0.2⟩
   refine ⟨hS3,?_⟩
   clear hS0
   have hS0:=hS3
   try simp only [zA,zB,zC,Act.put,zD,zE,zF]
   refine rgn.tl (i:=28) (v:=?v52) rfl (by kernel_rfl) (fun _ _ _ h => h) (by rfl) ?hy52 hS0 ?_
   case hy52 => (intro w' hw';go_simp;try with_reducible rfl)
   simp only [zA,zB,zC,Act.put,zD,zE,zF]
   refine wpAnyH_done (by kernel_rfl) ?_ _;refine NoPanic.normal ?_
   go_wp2_with fail
   refine bodyPost_ret (rgn.result_row_tmp rfl _ _ w.heap.size 0 [Value.string em,.int .i64 0,.int .i64 0] _ rfl (World.rangeAt_setCells_same _ _ _ _ hth) Tryz.underlying84 rfl infoNm) rfl ?_
   exact ⟨rfl,hcN.out hne hnp 0 [Value.string em,.int .i64 0,.int .i64 0],HK.out (Nat.le_refl _) 0 [Value.string em,.int .i64 0,.int .i64 0]⟩
 ·obtain rfl:=(uh hR0) h0
  have HV:=Hi (show V = [Value.string em,.int .i64 0,.int .i64 0] from (uh hVT).2 rfl)
  have b0:(kd == 0) = false:=by simpa using h0
  clear h0 hR0 hR1 hR2 hVT
  obtain rfl:=uh HV
  unfold ptr at hn ⊢
  have hW:=Hi (isWord_nil B)
  unfold ptr at hW
  go_enter Tryz.func46,Tryz.ntmps46
  go_wp2_with fail
  have bA0:Below w.heap.size w (w.alloc (.cells #[Value.string { data:=#[] },.int .i64 0,.int .i64 0] 84)):=ba
  have hZ:=(fun W (hk:Kp B (w.alloc (.cells #[Value.string { data:=#[] },.int .i64 0,.int .i64 0] 84)) W) => show W.heap[w.heap.size]? = some (.cells #[Value.string { data:=#[] },.int .i64 0,.int .i64 0] 84 (0,0)) from (hk.block w.heap.size (by simp) (by omega)).trans (heap_alloc_new w _))
  obtain ⟨wA,hwA⟩:∃ wA,wA = w.alloc (.cells #[Value.string { data:=#[] },.int .i64 0,.int .i64 0] 84):=⟨_,rfl⟩
  rw [← hwA] at bA0 hZ ⊢
  clear hwA
  refine ((uh hW) wA).mono ?_
  rintro e w1 ⟨rfl,rfl⟩
  have D0:=(bA0.cell (p:=⟨B,0,none⟩) hlt).trans d0
  have D1:=(bA0.cell (p:=⟨B,1,none⟩) hlt).trans d1
  have D4:=(bA0.cell (p:=⟨B,4,none⟩) hlt).trans d4
  have E0:=(bA0.cell (p:=⟨p,ix * 7,none⟩) hplt).trans e0
  clear d0 d1 d4 e0 hW
  clear hV3 hV1 hP
  go_wp2_with fail
  have bd:Below w1.heap.size w1 { w1 with drawn:=w1.drawn + 1 }:=(Below.refl _ _).drew
  have bD:Below w.heap.size w { w1 with drawn:=w1.drawn + 1 }:=bA0.trans (bd.mono bA0.size)
  have hkD:Kp B w1 { w1 with drawn:=w1.drawn + 1 }:=Kp.of bd
  have hS0:({ w1 with drawn:=w1.drawn + 1 }:World).cell? ⟨B,0,none⟩ = some (.slice (some ⟨p,0,none⟩) n cap) ∧ ({ w1 with drawn:=w1.drawn + 1 }:World).cell? ⟨p,ix * 7,none⟩ = some (.int .i64 t.k):=⟨(bd.cell (p:=⟨B,0,none⟩) (Nat.lt_of_lt_of_le hlt bA0.size)).trans D0,(bd.cell (p:=⟨p,ix * 7,none⟩) (Nat.lt_of_lt_of_le hplt bA0.size)).trans E0⟩
  have G1:=(bd.cell (p:=⟨B,1,none⟩) (Nat.lt_of_lt_of_le hlt bA0.size)).trans D1
  have G4:=(bd.cell (p:=⟨B,4,none⟩) (Nat.lt_of_lt_of_le hlt bA0.size)).trans D4
  refine wp_region_noPanic ?_
  refine wp_region_held (S:=fun w' => w'.cell? ⟨B,0,none⟩ = some (.slice (some ⟨p,0,none⟩) n cap) ∧ w'.cell? ⟨p,ix * 7,none⟩ = some (.int .i64 t.k)) mixed ?_
  refine rgn.tl (i:=0) (v:=?v53) rfl (by kernel_rfl) (fun _ _ _ h => h) (by rfl) ?hy53 hS0 ?_
  case hy53 => (intro w' hw';go_simp;try with_reducible rfl)
  simp only [zA,zB,zC,Act.put,zD,zE,zF]
  refine rgn.tl (i:=1) (v:=?v54) rfl (by kernel_rfl) (fun _ _ _ h => h) (by rfl) ?hy54 hS0 ?_
  case hy54 => (intro w' hw';go_simp;try with_reducible rfl)
  simp only [zA,zB,zC,Act.put,zD,zE,zF]
  refine rgn.tl (i:=2) (v:=?v55) rfl (by kernel_rfl) (fun _ _ _ h => h) (by rfl) ?hy55 hS0 ?_
  case hy55 => (intro w' hw';go_simp;try with_reducible rfl)
  simp only [zA,zB,zC,Act.put,zD,zE,zF]
  refine rgn.tl (i:=3) (v:=?v56) rfl (by kernel_rfl) (fun _ _ _ h => h) (by rfl) ?hy56 hS0 ?_
  case hy56 => (intro w' hw';go_simp;try with_reducible rfl)
  simp only [zA,zB,zC,Act.put,zD,zE,zF]
  refine rgn.oneV (i:=4) (v:=?v57) _ rfl (by kernel_rfl) (by rfl) ?hy57 hS0 ?_
  case hy57 => (skip;go_simp;try with_reducible rfl)
  simp only [zA,zB,zC,Act.put,zD,zE,zF]
  refine rgn.tl (i:=5) (v:=?v58) rfl (by kernel_rfl) (fun _ _ _ h => h) (by rfl) ?hy58 hS0 ?_
  case hy58 => (intro w' hw';go_simp;try with_reducible rfl)
  simp only [zA,zB,zC,Act.put,zD,zE,zF]
  refine rgn.tl (i:=6) (v:=?v59) rfl (by kernel_rfl) (fun _ _ _ h => h) (by rfl) ?hy59 hS0 ?_
  case hy59 => (intro w' hw';go_simp;try with_reducible rfl)
  simp only [zA,zB,zC,Act.put,zD,zE,zF]
  refine rgn.tk (i:=7) (v:=undef) rfl (by kernel_rfl) (fun _ _ _ h => h) (Or.inr ⟨by rfl,rfl⟩) hS0 ?_
  simp only [zA,zB,zC,Act.put,zD,zE,zF]
  refine rgn.tk (i:=8) (v:=undef) rfl (by kernel_rfl) (fun _ _ _ h => h) (Or.inr ⟨by rfl,rfl⟩) hS0 ?_
  simp only [zA,zB,zC,Act.put,zD,zE,zF]
  refine rgn.tk (i:=9) (v:=undef) rfl (by kernel_rfl) (fun _ _ _ h => h) (Or.inr ⟨by rfl,rfl⟩) hS0 ?_
  simp only [zA,zB,zC,Act.put,zD,zE,zF]
  refine rgn.tk (i:=10) (v:=undef) rfl (by kernel_rfl) (fun _ _ _ h => h) (Or.inr ⟨by rfl,rfl⟩) hS0 ?_
  simp only [zA,zB,zC,Act.put,zD,zE,zF]
  refine rgn.tk (i:=11) (v:=undef) rfl (by kernel_rfl) (fun _ _ _ h => h) (Or.inr ⟨by rfl,rfl⟩) hS0 ?_
  simp only [zA,zB,zC,Act.put,zD,zE,zF]
  refine rgn.tk (i:=12) (v:=undef) rfl (by kernel_rfl) (fun _ _ _ h => h) (Or.inr ⟨by rfl,rfl⟩) hS0 ?_
  simp only [zA,zB,zC,Act.put,zD,zE,zF]
  refine rgn.tk (i:=13) (v:=undef) rfl (by kernel_rfl) (fun _ _ _ h => h) (Or.inr ⟨by rfl,rfl⟩) hS0 ?_
  simp only [zA,zB,zC,Act.put,zD,zE,zF]
  refine rgn.tk (i:=14) (v:=undef) rfl (by kernel_rfl) (fun _ _ _ h => h) (Or.inr ⟨by rfl,rfl⟩) hS0 ?_
  simp only [zA,zB,zC,Act.put,zD,zE,zF]
  refine rgn.tk (i:=15) (v:=undef) rfl (by kernel_rfl) (fun _ _ _ h => h) (Or.inr ⟨by rfl,rfl⟩) hS0 ?_
  simp only [zA,zB,zC,Act.put,zD,zE,zF]
  refine rgn.tk (i:=16) (v:=undef) rfl (by kernel_rfl) (fun _ _ _ h => h) (Or.inr ⟨by rfl,rfl⟩) hS0 ?_
  simp only [zA,zB,zC,Act.put,zD,zE,zF]
  refine rgn.tk (i:=17) (v:=undef) rfl (by kernel_rfl) (fun _ _ _ h => h) (Or.inr ⟨by rfl,rfl⟩) hS0 ?_
  simp only [zA,zB,zC,Act.put,zD,zE,zF]
  refine rgn.tk (i:=18) (v:=undef) rfl (by kernel_rfl) (fun _ _ _ h => h) (Or.inr ⟨by rfl,rfl⟩) hS0 ?_
  simp only [zA,zB,zC,Act.put,zD,zE,zF]
  refine rgn.tl (i:=19) (v:=?v60) rfl (by kernel_rfl) (fun _ _ _ h => h) (by rfl) ?hy60 hS0 ?_
  case hy60 => (intro w' hw';go_simp;try with_reducible rfl)
  simp only [zA,zB,zC,Act.put,zD,zE,zF]
  refine rgn.tl (i:=20) (v:=?v61) rfl (by kernel_rfl) (fun _ _ _ h => h) (by rfl) ?hy61 hS0 ?_
  case hy61 => (intro w' hw';go_simp;try with_reducible rfl)
  simp only [zA,zB,zC,Act.put,zD,zE,zF]
  refine rgn.tk (i:=21) (v:=undef) rfl (by kernel_rfl) (fun _ _ _ h => h) (Or.inr ⟨by rfl,rfl⟩) hS0 ?_
  simp only [zA,zB,zC,Act.put,zD,zE,zF]
  refine rgn.tk (i:=22) (v:=undef) rfl (by kernel_rfl) (fun _ _ _ h => h) (Or.inr ⟨by rfl,rfl⟩) hS0 ?_
  simp only [zA,zB,zC,Act.put,zD,zE,zF]
  refine rgn.tl (i:=23) (v:=?v62) rfl (by kernel_rfl) (fun _ _ _ h => h) (by rfl) ?hy62 hS0 ?_
  case hy62 => (intro w' hw';go_simp;try with_reducible rfl)
  simp only [zA,zB,zC,Act.put,zD,zE,zF]
  refine rgn.one (i:=24) _ rfl (by kernel_rfl) (by rfl) ?_
  simp only [zA,zB,zC,Act.put,zD,zE,zF]
  refine rgn.call_wp _ _ _ _ rfl Tryz.func85 (by kernel_rfl) (by kernel_rfl) #[.pointer (some ⟨B,0,none⟩),.bool false] (by first | kernel_rfl | (simp only [List.map_toArray,List.map_cons,List.map_nil];rfl)) ?_
  refine ((uh hn) _ ((uh HH).below bD)).mono ?_
  rintro e wN ⟨rfl,hcN,hkN,hz0⟩
  have hk3:=hkD.trans hkN
  have hbk:=hZ wN hk3
  have hth:wN.there w.heap.size 0 3:=dt.there_cells hbk (by decide)
  have HK:=(Kp.of bA0).trans hk3
  have hSN:wN.cell? ⟨B,0,none⟩ = some (.slice (some ⟨p,0,none⟩) n cap) ∧ wN.cell? ⟨p,ix * 7,none⟩ = some (.int .i64 t.k):=⟨hz0.trans hS0.1,(hkN.cell (Nat.lt_of_lt_of_le hplt (Nat.le_trans bA0.size bd.size)) hpB).trans hS0.2⟩
  refine ⟨_,rfl,hSN,?_⟩
  clear hS0 G1 G4
  have hS0:=hSN
  simp only [zA,zB,zC,Act.put,zD,zE,zF]
  refine rgn.tl (i:=25) (v:=?v63) rfl (by kernel_rfl) (fun _ _ _ h => h) (by rfl) ?hy63 hS0 ?_
  case hy63 => (intro w' hw';go_simp;try with_reducible rfl)
  simp only [zA,zB,zC,Act.put,zD,zE,zF]
  refine rgn.tl (i:=26) (v:=?v64) rfl (by kernel_rfl) (fun _ _ _ h => h) (by rfl) ?hy64 hS0 ?_
  case hy64 => (intro w' hw';go_simp;try with_reducible rfl)
  simp only [zA,zB,zC,Act.put,zD,zE,zF]
  refine rgn.one (i:=27) _ rfl (by kernel_rfl) (by rfl) ?_
  simp only [zA,zB,zC,Act.put,zD,zE,zF]
  refine wp_store_mid 84 _ _ (by rfl) w.heap.size 0 ([Value.string em,.int .i64 0,.int .i64 0]).toArray (by rfl) (by rfl) hth infoNm (dt.one_cells (cs:=[Value.string em,.int .i64 0,.int .i64 0]) (by rfl)) ?_
  have hS3:(wN.setCells w.heap.size 0 [Value.string em,.int .i64 0,.int .i64 0]).cell? ⟨B,0,none⟩ = some (.slice (some ⟨p,0,none⟩) n cap) ∧ (wN.setCells w.heap.size 0 [Value.string em,.int .i64 0,.int .i64 0]).cell? ⟨p,ix * 7,none⟩ = some (.int .i64 t.k):=⟨(dt.cell_blk (dt.heap_setCells w.heap.size B hne _ 0 _) _).trans hS0.1,(dt.cell_blk (dt.heap_setCells w.heap.size p hnp _ 0 _) _).trans hS0.2⟩
  refine ⟨hS3,?_⟩
  clear hS0
  have hS0:=hS3
  try simp only [zA,zB,zC,Act.put,zD,zE,zF]
  refine rgn.tl (i:=28) (v:=?v65) rfl (by kernel_rfl) (fun _ _ _ h => h) (by rfl) ?hy65 hS0 ?_
  case hy65 => (intro w' hw';go_simp;try with_reducible rfl)
  simp only [zA,zB,zC,Act.put,zD,zE,zF]
  refine wpAnyH_done (by kernel_rfl) ?_ _;refine NoPanic.normal ?_
  go_wp2_with fail
  refine bodyPost_ret (rgn.result_row_tmp rfl _ _ w.heap.size 0 [Value.string em,.int .i64 0,.int .i64 0] _ rfl (World.rangeAt_setCells_same _ _ _ _ hth) Tryz.underlying84 rfl infoNm) rfl ?_
  exact ⟨rfl,hcN.out hne hnp 0 [Value.string em,.int .i64 0,.int .i64 0],HK.out (Nat.le_refl _) 0 [Value.string em,.int .i64 0,.int .i64 0]⟩
set_option maxHeartbeats 2000000 in
set_option maxRecDepth 4000 in
theorem open_ok (B p:Nat) (c:Cu) (q:ByteArray) (w:World) (h:RurAt w B p c):Calls Tryz.prog 48 #[ptr B,.string q] w fun e w' => e = .returned (.bool (c.opB q)) ∧ RurAt w' B p (c.opn q) ∧ Kp B w w':=by
 have hi:=Hi (isPunct_ok B p c q w h)
 have hop:=h.ok.op
 have hmo:=h.ok.mo
 have hlen:=h.len
 have HH:=Hi h
 cases hP:c.isP q with
 | false =>
  have hs:=Hi (show c.opB q = false ∧ c.opn q = c.stop 70 from ⟨by simp [Cu.opB,hP],by simp [Cu.opn,hP]⟩)
  have hS:=Hi (fun W (bb:Below w.heap.size w W) => stop_ok B p c 70 W (h.below bb))
  rw [hP] at hi
  rw [(uh hs).1]
  clear h hP
  unfold ptr at hi hS ⊢
  go_enter Tryz.func48,Tryz.ntmps48
  go_wp2_with fail
  refine (uh hi).mono ?_
  rintro e w1 ⟨rfl,b1⟩
  go_wp2_with fail
  refine ((uh hS) w1 b1).mono ?_
  rintro e w2 ⟨rfl,hc,hk⟩
  go_wp2_with fail
  go_ret
  exact ⟨rfl,by rw [(uh hs).2];exact hc,(Kp.of b1).trans hk⟩
 | true =>
  rw [hP] at hi
  by_cases hd:c.op < c.mo
  ·have hs:=Hi (show c.opB q = true ∧ c.opn q = ⟨c.ts,c.ix + 1,c.op + 1,c.mo,c.kd⟩ from ⟨by simp [Cu.opB,hP,hd],by simp [Cu.opn,hP,hd]⟩)
   have hm:=isP_more h.ok hP
   have hO:=Hi (fun W (hc:RurAt W B p c.take) => hc.opn (c.op + 1) ⟨hm,h.ok.more,by show c.op + 1 ≤ c.mo;omega,h.ok.mo⟩)
   rw [(uh hs).1]
   have hge:((c.op:Int) == (c.mo:Int)) = false:=by simp;omega
   have hge2:¬ (c.op:Int) = (c.mo:Int):=by omega
   clear h hP
   unfold ptr at hi ⊢
   go_enter Tryz.func48,Tryz.ntmps48
   go_wp2_with fail
   refine (uh hi).mono ?_
   rintro e w1 ⟨rfl,b1⟩
   have h1:=(uh HH).below b1
   obtain ⟨d2,d3,f2,-⟩:=h1.c2
   obtain ⟨cap,-,d1,f1,-⟩:=h1.c01
   have hC1:=Hi (h1.tak hm)
   have hC2:=Hi ((uh hO) _ (h1.tak hm))
   have hop1:(((c.op + 1:Nat):Int)) = (c.op:Int) + 1:=by omega
   rw [hop1] at hC2
   have hi1:(c.ix:Int) + 1 < 9223372036854775807:=by omega
   have hi2:(c.op:Int) + 1 < 9223372036854775807:=by omega
   obtain ⟨O,hOe⟩:∃ O,O = c.op:=⟨_,rfl⟩
   obtain ⟨M,hMe⟩:∃ O,O = c.mo:=⟨_,rfl⟩
   obtain ⟨I,hIe⟩:∃ O,O = c.ix:=⟨_,rfl⟩
   have HE:=Hi (And.intro hOe (And.intro hMe hIe))
   rw [← hOe] at d2 hge hge2 hi2 hC2
   rw [← hMe] at d3 hge hge2
   rw [← hIe] at d1 hi1 hC1 hC2
   have d2':(w1.setCell ⟨B,1,none⟩ (.int .i64 ((I:Int) + 1))).cell? ⟨B,2,none⟩ = some (.int .i64 (O:Int)):=by
    have:=(uh hC1).c2.1
    rw [show (c.take).op = O from hOe.symm] at this
    exact this
   have f2':(w1.setCell ⟨B,1,none⟩ (.int .i64 ((I:Int) + 1))).frozen? ⟨B,2,none⟩ = false:=(uh hC1).c2.2.2.1
   clear hi hop1 h1 hOe hMe hIe hm hlen hop hmo hd
   go_wp2_with fail
   go_region
   go_wp2_with fail
   go_ret
   rw [(uh hs).2]
   refine ⟨rfl,?_,?_⟩
   ·have:=(uh hC2)
    rw [(uh HE).1] at *
    exact this.below (Go.below_drewN (Below.refl _ _) 1)
   ·exact (Kp.of b1).trans ((((Kp.refl _ _).set 1 _).set 2 _).trans (Kp.of (Go.below_drewN (Below.refl _ _) 1)))
  ·have hs:=Hi (show c.opB q = false ∧ c.opn q = c.stop 71 from ⟨by simp [Cu.opB,hP,hd],by simp [Cu.opn,hP,hd]⟩)
   have ht:=Hi (fun W (hc:RurAt W B p c) => stop_ok B p c 71 W hc)
   rw [(uh hs).1]
   have hge:((c.op:Int) == (c.mo:Int)) = true:=by simp;omega
   have hge2:(c.op:Int) = (c.mo:Int):=by omega
   clear h hP
   unfold ptr at hi ht ⊢
   go_enter Tryz.func48,Tryz.ntmps48
   go_wp2_with fail
   refine (uh hi).mono ?_
   rintro e w1 ⟨rfl,b1⟩
   have h1:=(uh HH).below b1
   obtain ⟨d2,d3,f2,-⟩:=h1.c2
   have HC:=Hi h1
   rw [hge2] at d2
   clear hi h1 hge hge2 hop hmo hlen hd
   go_wp2_with fail
   go_region
   go_wp2_with fail
   refine ((uh ht) _ ((uh HC).below (Go.below_drewN (Below.refl _ _) 1))).mono ?_
   rintro e w3 ⟨rfl,hc3,hk3⟩
   go_wp2_with fail
   go_ret
   exact ⟨rfl,by rw [(uh hs).2];exact hc3,((Kp.of b1).trans (Kp.of (Go.below_drewN (Below.refl _ _) 1))).trans hk3⟩
set_option maxHeartbeats 2000000 in
theorem close_ok (B p:Nat) (c:Cu) (q:ByteArray) (w:World) (h:RurAt w B p c):Calls Tryz.prog 50 #[ptr B,.string q] w fun e w' => e = .returned (.bool (c.isP q)) ∧ RurAt w' B p (c.cls q) ∧ Kp B w w':=by
 have hi:=Hi (want_ok B p c q w h)
 have hop:=h.ok.op
 have hmo:=h.ok.mo
 cases hP:c.isP q with
 | false =>
  have hs:=Hi (show c.cls q = c.want q from by simp [Cu.cls,Cu.want,hP])
  rw [hP] at hi
  clear h hP
  unfold ptr at hi ⊢
  go_enter Tryz.func50,Tryz.ntmps50
  go_wp2_with fail
  refine (uh hi).mono ?_
  rintro e w1 ⟨rfl,hc,hk⟩
  clear hi
  go_wp2_with fail
  go_ret
  exact ⟨rfl,by rw [uh hs];exact hc,hk⟩
 | true =>
  have hm:=isP_more h.ok hP
  have hs:=Hi (show c.cls q = ⟨c.ts,c.ix + 1,c.op - 1,c.mo,c.kd⟩ ∧ c.want q = ⟨c.ts,c.ix + 1,c.op,c.mo,c.kd⟩ from ⟨by simp [Cu.cls,hP],by simp [Cu.want,hP,Cu.take]⟩)
  have hO:=Hi (fun W (hc:RurAt W B p ⟨c.ts,c.ix + 1,c.op,c.mo,c.kd⟩) => hc.opn (c.op - 1) ⟨hm,h.ok.more,by show c.op - 1 ≤ c.mo;omega,h.ok.mo⟩)
  rw [hP,(uh hs).2] at hi
  rw [(uh hs).1]
  by_cases h0:c.op = 0
  ·clear h hP hm
   unfold ptr at hi ⊢
   go_enter Tryz.func50,Tryz.ntmps50
   go_wp2_with fail
   refine (uh hi).mono ?_
   rintro e w1 ⟨rfl,hc,hk⟩
   have d2:w1.cell? ⟨B,2,none⟩ = some (.int .i64 0):=by have:=hc.c2.1;rw [show (⟨c.ts,c.ix + 1,c.op,c.mo,c.kd⟩:Cu).op = 0 from h0] at this;exact this
   have HC:=Hi hc
   have H0:=Hi h0
   clear hi hc h0 hop hmo hO
   go_wp2_with fail
   go_ret
   have hc2:=uh HC
   rw [uh H0] at hc2 ⊢
   exact ⟨rfl,hc2,hk⟩
  ·have hgt:(0:Int) < (c.op:Int):=by omega
   obtain ⟨O,hO'⟩:∃ O,O = c.op:=⟨_,rfl⟩
   rw [← hO'] at hi hO hgt hop
   clear h hP hm h0
   unfold ptr at hi ⊢
   go_enter Tryz.func50,Tryz.ntmps50
   go_wp2_with fail
   refine (uh hi).mono ?_
   rintro e w1 ⟨rfl,hc,hk⟩
   obtain ⟨d2,-,f2,-⟩:=hc.c2
   have d2':w1.cell? ⟨B,2,none⟩ = some (.int .i64 (O:Int)):=d2
   have HC:=Hi hc
   have HK:=Hi hk
   have HO:=Hi hO'
   clear hi hc hk d2 hO'
   go_wp2_with fail
   go_ret
   have e:((O:Int) - 1) = ((O - 1:Nat):Int):=by omega
   rw [e,← uh HO]
   exact ⟨rfl,(uh hO) _ (uh HC),(uh HK).set 2 _⟩
set_option maxHeartbeats 2000000 in
set_option maxRecDepth 4000 in
theorem end_ok (B p:Nat) (c:Cu) (w:World) (h:RurAt w B p c):Calls Tryz.prog 21 #[ptr B] w fun e w' => e = .returned (.bool c.finB) ∧ RurAt w' B p c.fin ∧ Kp B w w':=by
 have hS:=Hi (fun W (hc:RurAt W B p c) => stop_ok B p c 70 W hc)
 have hs:=Hi (show c.fin = if c.finB then c else c.stop 70 from rfl)
 have hP:=Hi (show c.finB = decide (c.kd = 0 ∧ c.tok.k = 0) from rfl)
 have hix:=h.ok.lt
 have hlen:=h.len
 have hr:=h.tk
 have HH:=Hi h
 obtain ⟨cap,d0,d1,-,-⟩:=h.c01
 obtain ⟨-,-,-,d4⟩:=h.c2
 obtain ⟨C,hC⟩:∃ C,C = c.fin:=⟨_,rfl⟩
 rw [← hC] at hs ⊢
 obtain ⟨R,hR⟩:∃ R,R = c.finB:=⟨_,rfl⟩
 rw [← hR] at hP hs ⊢
 obtain ⟨ix,hk⟩:∃ ix,ix = c.ix:=⟨_,rfl⟩
 obtain ⟨n,hk2⟩:∃ n,n = c.ts.length:=⟨_,rfl⟩
 obtain ⟨t,hk3⟩:∃ t,t = c.tok:=⟨_,rfl⟩
 obtain ⟨kd,hk4⟩:∃ kd,kd = c.kd:=⟨_,rfl⟩
 rw [← hk,← hk2] at hix
 rw [← hk2] at d0 hlen
 rw [← hk] at d1 hr
 rw [← hk3] at hr hP
 rw [← hk4] at hP d4
 have e0:w.cell? ⟨p,ix * 7,none⟩ = some (.int .i64 t.k):=hr 0 _ rfl
 clear h hC hR hk hk2 hk3 hk4 hr
 have ii:(ix:Int) < (n:Int):=by omega
 unfold ptr at hS ⊢
 by_cases h0:kd = 0
 ·subst h0
  by_cases h1:t.k = 0
  ·have b1:(t.k == 0) = true:=by simpa using h1
   obtain rfl:R = true:=by rw [uh hP];simp [h1]
   rw [h1] at e0
   clear h1 hP b1
   go_enter Tryz.func21,Tryz.ntmps21
   go_wp2_with fail
   go_region
   go_wp2_with fail
   go_ret
   exact ⟨rfl,by rw [uh hs];exact (uh HH).below (Go.below_drewN (Below.refl _ _) 1),Kp.of (Go.below_drewN (Below.refl _ _) 1)⟩
  ·have b1:(t.k == 0) = false:=by simpa using h1
   obtain rfl:R = false:=by rw [uh hP];simp [h1]
   clear h1 hP
   go_enter Tryz.func21,Tryz.ntmps21
   go_wp2_with fail
   go_region
   go_wp2_with fail
   refine ((uh hS) _ ((uh HH).below (Go.below_drewN (Below.refl _ _) 1))).mono ?_
   rintro e w3 ⟨rfl,hc3,hk3⟩
   go_wp2_with fail
   go_ret
   exact ⟨rfl,by rw [uh hs];exact hc3,(Kp.of (Go.below_drewN (Below.refl _ _) 1)).trans hk3⟩
 ·have b0:(kd == 0) = false:=by simpa using h0
  obtain rfl:R = false:=by rw [uh hP];simp [h0]
  clear h0 hP
  go_enter Tryz.func21,Tryz.ntmps21
  go_wp2_with fail
  go_region
  go_wp2_with fail
  refine ((uh hS) _ ((uh HH).below (Go.below_drewN (Below.refl _ _) 1))).mono ?_
  rintro e w3 ⟨rfl,hc3,hk3⟩
  go_wp2_with fail
  go_ret
  exact ⟨rfl,by rw [uh hs];exact hc3,(Kp.of (Go.below_drewN (Below.refl _ _) 1)).trans hk3⟩
open dt (Dt Kp RowAt Ow)
def oneK (ct:Bool) (c:Cu):Int × ByteArray × Bool × Int × Int:=
 if c.kd ≠ 0 then (0,em,false,0,0)
 else if c.tok.k = 4 then (2,c.tok.tx,false,c.tok.ln,c.tok.co)
 else if c.tok.k = 5 then (3,c.tok.tx,false,c.tok.ln,c.tok.co)
 else if c.tok.k = 6 ∨ c.tok.k = 7 then (4,c.tok.va,decide (c.tok.k = 7),c.tok.ln,c.tok.co)
 else if c.tok.k = 3 then (if c.tok.tx = bTrue ∨ c.tok.tx = bFalse then (5,c.tok.tx,false,c.tok.ln,c.tok.co) else if c.tok.tx = bNull then (6,em,false,c.tok.ln,c.tok.co) else (7,c.tok.tx,false,c.tok.ln,c.tok.co))
 else if c.isP bDol ∧ ct = false then (1,(if c.take.isN then c.take.tok.tx else em),false,c.tok.ln,c.tok.co)
 else if c.isP bLb then (8,em,false,c.tok.ln,c.tok.co)
 else if c.isP bLc then (9,em,false,c.tok.ln,c.tok.co)
 else (0,em,false,0,0)
def oneC (ct:Bool) (c:Cu):Cu:=
 if c.kd ≠ 0 then c
 else if c.tok.k = 4 ∨ c.tok.k = 5 ∨ c.tok.k = 6 ∨ c.tok.k = 7 ∨ c.tok.k = 3 then c.take
 else if c.isP bDol ∧ ct = false then c.take.name
 else if c.isP bLb then c.opn bLb
 else if c.isP bLc then c.opn bLc
 else c.stop 70
def oneV (ct:Bool) (c:Cu):List Value:=leafC (oneK ct c).1 (oneK ct c).2.1 (oneK ct c).2.2.1 (oneK ct c).2.2.2.1 (oneK ct c).2.2.2.2
def zero7:Array Value:=#[.int .i64 0,.string ⟨#[]⟩,.bool false,.slice none 0 0,.slice none 0 0,.int .i64 0,.int .i64 0]
theorem leaf_fin {w:World} {B p:Nat} {c:Cu} (h:RurAt w B p c) (hm:c.ix + 1 < c.ts.length) (cs:List Value) (hl:cs.length = 7) (o' o'':Obj) :
  (((((w.alloc (.cells zero7 33)).alloc o').alloc o'').setCell ⟨B,1,none⟩ (.int .i64 ((c.ix:Int) + 1))).setCells w.heap.size 0 cs).drew.rangeAt w.heap.size 0 cs ∧
  RurAt (((((w.alloc (.cells zero7 33)).alloc o').alloc o'').setCell ⟨B,1,none⟩ (.int .i64 ((c.ix:Int) + 1))).setCells w.heap.size 0 cs).drew B p c.take ∧
  Kp B w (((((w.alloc (.cells zero7 33)).alloc o').alloc o'').setCell ⟨B,1,none⟩ (.int .i64 ((c.ix:Int) + 1))).setCells w.heap.size 0 cs).drew:=by
 have hlt:=h.lt
 have hplt:=h.plt
 have b1:Below w.heap.size w (((w.alloc (.cells zero7 33)).alloc o').alloc o''):=((ba).alloc (by simp) _).alloc (by simp;omega) _
 have h0:(((w.alloc (.cells zero7 33)).alloc o').alloc o'').heap[w.heap.size]? = some (.cells zero7 33 (0,0)):=by
  have e1:=heap_alloc_new w (.cells zero7 33)
  have e2:=Below.heap_alloc (w.alloc (.cells zero7 33)) o' w.heap.size (by simp)
  have e3:=Below.heap_alloc ((w.alloc (.cells zero7 33)).alloc o') o'' w.heap.size (by simp;omega)
  exact e3.trans (e2.trans e1)
 have hs:w.heap.size < (((w.alloc (.cells zero7 33)).alloc o').alloc o'').heap.size:=by simp;omega
 generalize ((w.alloc (.cells zero7 33)).alloc o').alloc o'' = Y at *
 have hT:=(h.below b1).tak hm
 have hK:=(Kp.of (B:=B) b1).set 1 (.int .i64 ((c.ix:Int) + 1))
 have hb:=(((Kp.refl B Y).set 1 (.int .i64 ((c.ix:Int) + 1))).block w.heap.size hs (by omega)).trans h0
 generalize Y.setCell ⟨B,1,none⟩ (.int .i64 ((c.ix:Int) + 1)) = Z at *
 have hth:Z.there w.heap.size 0 cs.length:=by rw [hl];exact dt.there_cells hb (by decide)
 have bd:Below (Z.setCells w.heap.size 0 cs).heap.size (Z.setCells w.heap.size 0 cs) (Z.setCells w.heap.size 0 cs).drew:=Go.below_drewN (Below.refl _ _) 1
 exact ⟨World.rangeAt_setCells_same _ _ _ _ hth,(hT.out (by omega) (by omega) 0 cs).below bd,(hK.out (Nat.le_refl _) 0 cs).trans (Kp.of bd)⟩
set_option maxHeartbeats 4000000 in
set_option maxRecDepth 20000 in
theorem one_int (B p:Nat) (c:Cu) (ct:Bool) (w:World) (h:RurAt w B p c) (hkd:c.kd = 0) (hK:c.tok.k = 4)  : Calls Tryz.prog 70 #[ptr B,.bool ct] w fun e w' => e = .returned (.agg (leafC 2 c.tok.tx false c.tok.ln c.tok.co).toArray) ∧ RurAt w' B p (c.take) ∧ Kp B w w':=by
 have hlt:=h.lt
 have hplt:=h.plt
 have hix:=h.ok.lt
 have hlen:=h.len
 have hr:=h.tk
 have HH:=Hi h
 obtain ⟨cap,d0,d1,f1,-⟩:=h.c01
 obtain ⟨-,-,-,d4⟩:=h.c2
 have hm:=more_of h.ok (by rw [hK];decide) (by rw [hK];decide)
 have HF:=Hi (fun o o1 => leaf_fin h hm (leafC 2 c.tok.tx false c.tok.ln c.tok.co) rfl o o1)
 unfold zero7 at HF
 obtain ⟨ix,hk⟩:∃ ix,ix = c.ix:=⟨_,rfl⟩
 obtain ⟨n,hk2⟩:∃ n,n = c.ts.length:=⟨_,rfl⟩
 obtain ⟨t,hk3⟩:∃ t,t = c.tok:=⟨_,rfl⟩
 obtain ⟨kd,hk4⟩:∃ kd,kd = c.kd:=⟨_,rfl⟩
 rw [← hk,← hk2] at hix
 rw [← hk2] at d0 hlen
 rw [← hk] at d1 hr HF
 rw [← hk3] at hr hK HF  ⊢
 rw [← hk4] at d4 hkd
 clear h hk hk2 hk3 hk4
 have ii:(ix:Int) < (n:Int):=by omega
 have hn1:(ix:Int) + 1 < 9223372036854775807:=by omega
 have bA:=Hi (fun o => show Below w.heap.size w (w.alloc o) from ba)
 have bA3:=Hi (fun o o' o'' => show Below w.heap.size w ((((w.alloc o).alloc o').alloc o'').drew) from Go.below_drewN ((((uh bA) o).alloc ((uh bA) o).size o').alloc (((uh bA) o).alloc ((uh bA) o).size o').size o'') 1)
 have D0:∀ o,(w.alloc o).cell? ⟨B,0,none⟩ = some (.slice (some ⟨p,0,none⟩) n cap):=fun o => (((uh bA) o).cell (p:=⟨B,0,none⟩) hlt).trans d0
 have D1:∀ o,(w.alloc o).cell? ⟨B,1,none⟩ = some (.int .i64 ix):=fun o => (((uh bA) o).cell (p:=⟨B,1,none⟩) hlt).trans d1
 have bB:=Hi (fun o o' => show Below w.heap.size w ((w.alloc o).alloc o') from ((uh bA) o).alloc ((uh bA) o).size o')
 have bC:=Hi (fun o o' o'' => show Below w.heap.size w (((w.alloc o).alloc o').alloc o'') from ((uh bB) o o').alloc ((uh bB) o o').size o'')
 have D4':∀ o o' o'',(((w.alloc o).alloc o').alloc o'').cell? ⟨B,4,none⟩ = some (.int .i64 kd):=fun o o' o'' => (((uh bC) o o' o'').cell (p:=⟨B,4,none⟩) hlt).trans d4
 have D1':∀ o o' o'',(((w.alloc o).alloc o').alloc o'').cell? ⟨B,1,none⟩ = some (.int .i64 ix):=fun o o' o'' => (((uh bC) o o' o'').cell (p:=⟨B,1,none⟩) hlt).trans d1
 have F1':∀ o o' o'',(((w.alloc o).alloc o').alloc o'').frozen? ⟨B,1,none⟩ = false:=fun o o' o'' => by
  have e:=((uh bC) o o' o'').block B hlt
  rw [World.frozen?_of_block (w:=w) (a:=⟨B,1,none⟩) e];exact f1
 have E:∀ (j:Nat) (u:Value) o,t.cells[j]? = some u → (w.alloc o).cell? ⟨p,ix * 7 + j,none⟩ = some u:=fun j u o hu => (hr.below ((uh bA) o)) j u hu
 have e0:∀ o,(w.alloc o).cell? ⟨p,ix * 7,none⟩ = some (.int .i64 t.k):=fun o => E 0 _ o rfl
 have e1:∀ o,(w.alloc o).cell? ⟨p,ix * 7 + 1,none⟩ = some (.int .i64 t.ln):=fun o => E 1 _ o rfl
 have e2:∀ o,(w.alloc o).cell? ⟨p,ix * 7 + 2,none⟩ = some (.int .i64 t.co):=fun o => E 2 _ o rfl
 have e3:∀ o,(w.alloc o).cell? ⟨p,ix * 7 + 3,none⟩ = some (.int .i64 t.fr):=fun o => E 3 _ o rfl
 have e4:∀ o,(w.alloc o).cell? ⟨p,ix * 7 + 4,none⟩ = some (.int .i64 t.to):=fun o => E 4 _ o rfl
 have e5:∀ o,(w.alloc o).cell? ⟨p,ix * 7 + 5,none⟩ = some (.string t.tx):=fun o => E 5 _ o rfl
 have e6:∀ o,(w.alloc o).cell? ⟨p,ix * 7 + 6,none⟩ = some (.string t.va):=fun o => E 6 _ o rfl
 clear E hr d0 d1 d4 f1 bB bC
 subst hkd
 rw [hK] at e0
 unfold ptr
 go_enter Tryz.func70,Tryz.ntmps70
 go_wp2_with fail
 go_region
 go_wp2_with fail
 refine bodyPost_ret (rgn.result_row rfl _ _ w.heap.size 0 (leafC 2 t.tx false t.ln t.co) _ rfl ((uh HF) _ _).1 Tryz.underlying33 rfl infoLt) rfl ?_
 exact ⟨rfl,((uh HF) _ _).2.1,((uh HF) _ _).2.2⟩
set_option maxHeartbeats 4000000 in
set_option maxRecDepth 20000 in
theorem one_flt (B p:Nat) (c:Cu) (ct:Bool) (w:World) (h:RurAt w B p c) (hkd:c.kd = 0) (hK:c.tok.k = 5)  : Calls Tryz.prog 70 #[ptr B,.bool ct] w fun e w' => e = .returned (.agg (leafC 3 c.tok.tx false c.tok.ln c.tok.co).toArray) ∧ RurAt w' B p (c.take) ∧ Kp B w w':=by
 have hlt:=h.lt
 have hplt:=h.plt
 have hix:=h.ok.lt
 have hlen:=h.len
 have hr:=h.tk
 have HH:=Hi h
 obtain ⟨cap,d0,d1,f1,-⟩:=h.c01
 obtain ⟨-,-,-,d4⟩:=h.c2
 have hm:=more_of h.ok (by rw [hK];decide) (by rw [hK];decide)
 have HF:=Hi (fun o o1 => leaf_fin h hm (leafC 3 c.tok.tx false c.tok.ln c.tok.co) rfl o o1)
 unfold zero7 at HF
 obtain ⟨ix,hk⟩:∃ ix,ix = c.ix:=⟨_,rfl⟩
 obtain ⟨n,hk2⟩:∃ n,n = c.ts.length:=⟨_,rfl⟩
 obtain ⟨t,hk3⟩:∃ t,t = c.tok:=⟨_,rfl⟩
 obtain ⟨kd,hk4⟩:∃ kd,kd = c.kd:=⟨_,rfl⟩
 rw [← hk,← hk2] at hix
 rw [← hk2] at d0 hlen
 rw [← hk] at d1 hr HF
 rw [← hk3] at hr hK HF  ⊢
 rw [← hk4] at d4 hkd
 clear h hk hk2 hk3 hk4
 have ii:(ix:Int) < (n:Int):=by omega
 have hn1:(ix:Int) + 1 < 9223372036854775807:=by omega
 have bA:=Hi (fun o => show Below w.heap.size w (w.alloc o) from ba)
 have bA3:=Hi (fun o o' o'' => show Below w.heap.size w ((((w.alloc o).alloc o').alloc o'').drew) from Go.below_drewN ((((uh bA) o).alloc ((uh bA) o).size o').alloc (((uh bA) o).alloc ((uh bA) o).size o').size o'') 1)
 have D0:∀ o,(w.alloc o).cell? ⟨B,0,none⟩ = some (.slice (some ⟨p,0,none⟩) n cap):=fun o => (((uh bA) o).cell (p:=⟨B,0,none⟩) hlt).trans d0
 have D1:∀ o,(w.alloc o).cell? ⟨B,1,none⟩ = some (.int .i64 ix):=fun o => (((uh bA) o).cell (p:=⟨B,1,none⟩) hlt).trans d1
 have bB:=Hi (fun o o' => show Below w.heap.size w ((w.alloc o).alloc o') from ((uh bA) o).alloc ((uh bA) o).size o')
 have bC:=Hi (fun o o' o'' => show Below w.heap.size w (((w.alloc o).alloc o').alloc o'') from ((uh bB) o o').alloc ((uh bB) o o').size o'')
 have D4':∀ o o' o'',(((w.alloc o).alloc o').alloc o'').cell? ⟨B,4,none⟩ = some (.int .i64 kd):=fun o o' o'' => (((uh bC) o o' o'').cell (p:=⟨B,4,none⟩) hlt).trans d4
 have D1':∀ o o' o'',(((w.alloc o).alloc o').alloc o'').cell? ⟨B,1,none⟩ = some (.int .i64 ix):=fun o o' o'' => (((uh bC) o o' o'').cell (p:=⟨B,1,none⟩) hlt).trans d1
 have F1':∀ o o' o'',(((w.alloc o).alloc o').alloc o'').frozen? ⟨B,1,none⟩ = false:=fun o o' o'' => by
  have e:=((uh bC) o o' o'').block B hlt
  rw [World.frozen?_of_block (w:=w) (a:=⟨B,1,none⟩) e];exact f1
 have E:∀ (j:Nat) (u:Value) o,t.cells[j]? = some u → (w.alloc o).cell? ⟨p,ix * 7 + j,none⟩ = some u:=fun j u o hu => (hr.below ((uh bA) o)) j u hu
 have e0:∀ o,(w.alloc o).cell? ⟨p,ix * 7,none⟩ = some (.int .i64 t.k):=fun o => E 0 _ o rfl
 have e1:∀ o,(w.alloc o).cell? ⟨p,ix * 7 + 1,none⟩ = some (.int .i64 t.ln):=fun o => E 1 _ o rfl
 have e2:∀ o,(w.alloc o).cell? ⟨p,ix * 7 + 2,none⟩ = some (.int .i64 t.co):=fun o => E 2 _ o rfl
 have e3:∀ o,(w.alloc o).cell? ⟨p,ix * 7 + 3,none⟩ = some (.int .i64 t.fr):=fun o => E 3 _ o rfl
 have e4:∀ o,(w.alloc o).cell? ⟨p,ix * 7 + 4,none⟩ = some (.int .i64 t.to):=fun o => E 4 _ o rfl
 have e5:∀ o,(w.alloc o).cell? ⟨p,ix * 7 + 5,none⟩ = some (.string t.tx):=fun o => E 5 _ o rfl
 have e6:∀ o,(w.alloc o).cell? ⟨p,ix * 7 + 6,none⟩ = some (.string t.va):=fun o => E 6 _ o rfl
 clear E hr d0 d1 d4 f1 bB bC
 subst hkd
 rw [hK] at e0
 unfold ptr
 go_enter Tryz.func70,Tryz.ntmps70
 go_wp2_with fail
 go_region
 go_wp2_with fail
 refine bodyPost_ret (rgn.result_row rfl _ _ w.heap.size 0 (leafC 3 t.tx false t.ln t.co) _ rfl ((uh HF) _ _).1 Tryz.underlying33 rfl infoLt) rfl ?_
 exact ⟨rfl,((uh HF) _ _).2.1,((uh HF) _ _).2.2⟩
set_option maxHeartbeats 4000000 in
set_option maxRecDepth 20000 in
theorem one_str (B p:Nat) (c:Cu) (ct:Bool) (w:World) (h:RurAt w B p c) (hkd:c.kd = 0) (hK:c.tok.k = 6)  : Calls Tryz.prog 70 #[ptr B,.bool ct] w fun e w' => e = .returned (.agg (leafC 4 c.tok.va false c.tok.ln c.tok.co).toArray) ∧ RurAt w' B p (c.take) ∧ Kp B w w':=by
 have hlt:=h.lt
 have hplt:=h.plt
 have hix:=h.ok.lt
 have hlen:=h.len
 have hr:=h.tk
 have HH:=Hi h
 obtain ⟨cap,d0,d1,f1,-⟩:=h.c01
 obtain ⟨-,-,-,d4⟩:=h.c2
 have hm:=more_of h.ok (by rw [hK];decide) (by rw [hK];decide)
 have HF:=Hi (fun o o1 => leaf_fin h hm (leafC 4 c.tok.va false c.tok.ln c.tok.co) rfl o o1)
 unfold zero7 at HF
 obtain ⟨ix,hk⟩:∃ ix,ix = c.ix:=⟨_,rfl⟩
 obtain ⟨n,hk2⟩:∃ n,n = c.ts.length:=⟨_,rfl⟩
 obtain ⟨t,hk3⟩:∃ t,t = c.tok:=⟨_,rfl⟩
 obtain ⟨kd,hk4⟩:∃ kd,kd = c.kd:=⟨_,rfl⟩
 rw [← hk,← hk2] at hix
 rw [← hk2] at d0 hlen
 rw [← hk] at d1 hr HF
 rw [← hk3] at hr hK HF  ⊢
 rw [← hk4] at d4 hkd
 clear h hk hk2 hk3 hk4
 have ii:(ix:Int) < (n:Int):=by omega
 have hn1:(ix:Int) + 1 < 9223372036854775807:=by omega
 have bA:=Hi (fun o => show Below w.heap.size w (w.alloc o) from ba)
 have bA3:=Hi (fun o o' o'' => show Below w.heap.size w ((((w.alloc o).alloc o').alloc o'').drew) from Go.below_drewN ((((uh bA) o).alloc ((uh bA) o).size o').alloc (((uh bA) o).alloc ((uh bA) o).size o').size o'') 1)
 have D0:∀ o,(w.alloc o).cell? ⟨B,0,none⟩ = some (.slice (some ⟨p,0,none⟩) n cap):=fun o => (((uh bA) o).cell (p:=⟨B,0,none⟩) hlt).trans d0
 have D1:∀ o,(w.alloc o).cell? ⟨B,1,none⟩ = some (.int .i64 ix):=fun o => (((uh bA) o).cell (p:=⟨B,1,none⟩) hlt).trans d1
 have bB:=Hi (fun o o' => show Below w.heap.size w ((w.alloc o).alloc o') from ((uh bA) o).alloc ((uh bA) o).size o')
 have bC:=Hi (fun o o' o'' => show Below w.heap.size w (((w.alloc o).alloc o').alloc o'') from ((uh bB) o o').alloc ((uh bB) o o').size o'')
 have D4':∀ o o' o'',(((w.alloc o).alloc o').alloc o'').cell? ⟨B,4,none⟩ = some (.int .i64 kd):=fun o o' o'' => (((uh bC) o o' o'').cell (p:=⟨B,4,none⟩) hlt).trans d4
 have D1':∀ o o' o'',(((w.alloc o).alloc o').alloc o'').cell? ⟨B,1,none⟩ = some (.int .i64 ix):=fun o o' o'' => (((uh bC) o o' o'').cell (p:=⟨B,1,none⟩) hlt).trans d1
 have F1':∀ o o' o'',(((w.alloc o).alloc o').alloc o'').frozen? ⟨B,1,none⟩ = false:=fun o o' o'' => by
  have e:=((uh bC) o o' o'').block B hlt
  rw [World.frozen?_of_block (w:=w) (a:=⟨B,1,none⟩) e];exact f1
 have E:∀ (j:Nat) (u:Value) o,t.cells[j]? = some u → (w.alloc o).cell? ⟨p,ix * 7 + j,none⟩ = some u:=fun j u o hu => (hr.below ((uh bA) o)) j u hu
 have e0:∀ o,(w.alloc o).cell? ⟨p,ix * 7,none⟩ = some (.int .i64 t.k):=fun o => E 0 _ o rfl
 have e1:∀ o,(w.alloc o).cell? ⟨p,ix * 7 + 1,none⟩ = some (.int .i64 t.ln):=fun o => E 1 _ o rfl
 have e2:∀ o,(w.alloc o).cell? ⟨p,ix * 7 + 2,none⟩ = some (.int .i64 t.co):=fun o => E 2 _ o rfl
 have e3:∀ o,(w.alloc o).cell? ⟨p,ix * 7 + 3,none⟩ = some (.int .i64 t.fr):=fun o => E 3 _ o rfl
 have e4:∀ o,(w.alloc o).cell? ⟨p,ix * 7 + 4,none⟩ = some (.int .i64 t.to):=fun o => E 4 _ o rfl
 have e5:∀ o,(w.alloc o).cell? ⟨p,ix * 7 + 5,none⟩ = some (.string t.tx):=fun o => E 5 _ o rfl
 have e6:∀ o,(w.alloc o).cell? ⟨p,ix * 7 + 6,none⟩ = some (.string t.va):=fun o => E 6 _ o rfl
 clear E hr d0 d1 d4 f1 bB bC
 subst hkd
 rw [hK] at e0
 unfold ptr
 go_enter Tryz.func70,Tryz.ntmps70
 go_wp2_with fail
 go_region
 go_wp2_with fail
 refine bodyPost_ret (rgn.result_row rfl _ _ w.heap.size 0 (leafC 4 t.va false t.ln t.co) _ rfl ((uh HF) _ _).1 Tryz.underlying33 rfl infoLt) rfl ?_
 exact ⟨rfl,((uh HF) _ _).2.1,((uh HF) _ _).2.2⟩
set_option maxHeartbeats 4000000 in
set_option maxRecDepth 20000 in
theorem one_blk (B p:Nat) (c:Cu) (ct:Bool) (w:World) (h:RurAt w B p c) (hkd:c.kd = 0) (hK:c.tok.k = 7)  : Calls Tryz.prog 70 #[ptr B,.bool ct] w fun e w' => e = .returned (.agg (leafC 4 c.tok.va true c.tok.ln c.tok.co).toArray) ∧ RurAt w' B p (c.take) ∧ Kp B w w':=by
 have hlt:=h.lt
 have hplt:=h.plt
 have hix:=h.ok.lt
 have hlen:=h.len
 have hr:=h.tk
 have HH:=Hi h
 obtain ⟨cap,d0,d1,f1,-⟩:=h.c01
 obtain ⟨-,-,-,d4⟩:=h.c2
 have hm:=more_of h.ok (by rw [hK];decide) (by rw [hK];decide)
 have HF:=Hi (fun o o1 => leaf_fin h hm (leafC 4 c.tok.va true c.tok.ln c.tok.co) rfl o o1)
 unfold zero7 at HF
 obtain ⟨ix,hk⟩:∃ ix,ix = c.ix:=⟨_,rfl⟩
 obtain ⟨n,hk2⟩:∃ n,n = c.ts.length:=⟨_,rfl⟩
 obtain ⟨t,hk3⟩:∃ t,t = c.tok:=⟨_,rfl⟩
 obtain ⟨kd,hk4⟩:∃ kd,kd = c.kd:=⟨_,rfl⟩
 rw [← hk,← hk2] at hix
 rw [← hk2] at d0 hlen
 rw [← hk] at d1 hr HF
 rw [← hk3] at hr hK HF  ⊢
 rw [← hk4] at d4 hkd
 clear h hk hk2 hk3 hk4
 have ii:(ix:Int) < (n:Int):=by omega
 have hn1:(ix:Int) + 1 < 9223372036854775807:=by omega
 have bA:=Hi (fun o => show Below w.heap.size w (w.alloc o) from ba)
 have bA3:=Hi (fun o o' o'' => show Below w.heap.size w ((((w.alloc o).alloc o').alloc o'').drew) from Go.below_drewN ((((uh bA) o).alloc ((uh bA) o).size o').alloc (((uh bA) o).alloc ((uh bA) o).size o').size o'') 1)
 have D0:∀ o,(w.alloc o).cell? ⟨B,0,none⟩ = some (.slice (some ⟨p,0,none⟩) n cap):=fun o => (((uh bA) o).cell (p:=⟨B,0,none⟩) hlt).trans d0
 have D1:∀ o,(w.alloc o).cell? ⟨B,1,none⟩ = some (.int .i64 ix):=fun o => (((uh bA) o).cell (p:=⟨B,1,none⟩) hlt).trans d1
 have bB:=Hi (fun o o' => show Below w.heap.size w ((w.alloc o).alloc o') from ((uh bA) o).alloc ((uh bA) o).size o')
 have bC:=Hi (fun o o' o'' => show Below w.heap.size w (((w.alloc o).alloc o').alloc o'') from ((uh bB) o o').alloc ((uh bB) o o').size o'')
 have D4':∀ o o' o'',(((w.alloc o).alloc o').alloc o'').cell? ⟨B,4,none⟩ = some (.int .i64 kd):=fun o o' o'' => (((uh bC) o o' o'').cell (p:=⟨B,4,none⟩) hlt).trans d4
 have D1':∀ o o' o'',(((w.alloc o).alloc o').alloc o'').cell? ⟨B,1,none⟩ = some (.int .i64 ix):=fun o o' o'' => (((uh bC) o o' o'').cell (p:=⟨B,1,none⟩) hlt).trans d1
 have F1':∀ o o' o'',(((w.alloc o).alloc o').alloc o'').frozen? ⟨B,1,none⟩ = false:=fun o o' o'' => by
  have e:=((uh bC) o o' o'').block B hlt
  rw [World.frozen?_of_block (w:=w) (a:=⟨B,1,none⟩) e];exact f1
 have E:∀ (j:Nat) (u:Value) o,t.cells[j]? = some u → (w.alloc o).cell? ⟨p,ix * 7 + j,none⟩ = some u:=fun j u o hu => (hr.below ((uh bA) o)) j u hu
 have e0:∀ o,(w.alloc o).cell? ⟨p,ix * 7,none⟩ = some (.int .i64 t.k):=fun o => E 0 _ o rfl
 have e1:∀ o,(w.alloc o).cell? ⟨p,ix * 7 + 1,none⟩ = some (.int .i64 t.ln):=fun o => E 1 _ o rfl
 have e2:∀ o,(w.alloc o).cell? ⟨p,ix * 7 + 2,none⟩ = some (.int .i64 t.co):=fun o => E 2 _ o rfl
 have e3:∀ o,(w.alloc o).cell? ⟨p,ix * 7 + 3,none⟩ = some (.int .i64 t.fr):=fun o => E 3 _ o rfl
 have e4:∀ o,(w.alloc o).cell? ⟨p,ix * 7 + 4,none⟩ = some (.int .i64 t.to):=fun o => E 4 _ o rfl
 have e5:∀ o,(w.alloc o).cell? ⟨p,ix * 7 + 5,none⟩ = some (.string t.tx):=fun o => E 5 _ o rfl
 have e6:∀ o,(w.alloc o).cell? ⟨p,ix * 7 + 6,none⟩ = some (.string t.va):=fun o => E 6 _ o rfl
 clear E hr d0 d1 d4 f1 bB bC
 subst hkd
 rw [hK] at e0
 unfold ptr
 go_enter Tryz.func70,Tryz.ntmps70
 go_wp2_with fail
 go_region
 go_wp2_with fail
 refine bodyPost_ret (rgn.result_row rfl _ _ w.heap.size 0 (leafC 4 t.va true t.ln t.co) _ rfl ((uh HF) _ _).1 Tryz.underlying33 rfl infoLt) rfl ?_
 exact ⟨rfl,((uh HF) _ _).2.1,((uh HF) _ _).2.2⟩
set_option maxHeartbeats 4000000 in
set_option maxRecDepth 20000 in
theorem one_true (B p:Nat) (c:Cu) (ct:Bool) (w:World) (h:RurAt w B p c) (hkd:c.kd = 0) (hK:c.tok.k = 3) (hstrue:c.tok.tx = bTrue):Calls Tryz.prog 70 #[ptr B,.bool ct] w fun e w' => e = .returned (.agg (leafC 5 c.tok.tx false c.tok.ln c.tok.co).toArray) ∧ RurAt w' B p (c.take) ∧ Kp B w w':=by
 have hlt:=h.lt
 have hplt:=h.plt
 have hix:=h.ok.lt
 have hlen:=h.len
 have hr:=h.tk
 have HH:=Hi h
 obtain ⟨cap,d0,d1,f1,-⟩:=h.c01
 obtain ⟨-,-,-,d4⟩:=h.c2
 have hm:=more_of h.ok (by rw [hK];decide) (by rw [hK];decide)
 have HF:=Hi (fun o o1 => leaf_fin h hm (leafC 5 c.tok.tx false c.tok.ln c.tok.co) rfl o o1)
 unfold zero7 at HF
 obtain ⟨ix,hk⟩:∃ ix,ix = c.ix:=⟨_,rfl⟩
 obtain ⟨n,hk2⟩:∃ n,n = c.ts.length:=⟨_,rfl⟩
 obtain ⟨t,hk3⟩:∃ t,t = c.tok:=⟨_,rfl⟩
 obtain ⟨kd,hk4⟩:∃ kd,kd = c.kd:=⟨_,rfl⟩
 rw [← hk,← hk2] at hix
 rw [← hk2] at d0 hlen
 rw [← hk] at d1 hr HF
 rw [← hk3] at hr hK HF hstrue ⊢
 rw [← hk4] at d4 hkd
 clear h hk hk2 hk3 hk4
 have ii:(ix:Int) < (n:Int):=by omega
 have hn1:(ix:Int) + 1 < 9223372036854775807:=by omega
 have bA:=Hi (fun o => show Below w.heap.size w (w.alloc o) from ba)
 have bA3:=Hi (fun o o' o'' => show Below w.heap.size w ((((w.alloc o).alloc o').alloc o'').drew) from Go.below_drewN ((((uh bA) o).alloc ((uh bA) o).size o').alloc (((uh bA) o).alloc ((uh bA) o).size o').size o'') 1)
 have D0:∀ o,(w.alloc o).cell? ⟨B,0,none⟩ = some (.slice (some ⟨p,0,none⟩) n cap):=fun o => (((uh bA) o).cell (p:=⟨B,0,none⟩) hlt).trans d0
 have D1:∀ o,(w.alloc o).cell? ⟨B,1,none⟩ = some (.int .i64 ix):=fun o => (((uh bA) o).cell (p:=⟨B,1,none⟩) hlt).trans d1
 have bB:=Hi (fun o o' => show Below w.heap.size w ((w.alloc o).alloc o') from ((uh bA) o).alloc ((uh bA) o).size o')
 have bC:=Hi (fun o o' o'' => show Below w.heap.size w (((w.alloc o).alloc o').alloc o'') from ((uh bB) o o').alloc ((uh bB) o o').size o'')
 have D4':∀ o o' o'',(((w.alloc o).alloc o').alloc o'').cell? ⟨B,4,none⟩ = some (.int .i64 kd):=fun o o' o'' => (((uh bC) o o' o'').cell (p:=⟨B,4,none⟩) hlt).trans d4
 have D1':∀ o o' o'',(((w.alloc o).alloc o').alloc o'').cell? ⟨B,1,none⟩ = some (.int .i64 ix):=fun o o' o'' => (((uh bC) o o' o'').cell (p:=⟨B,1,none⟩) hlt).trans d1
 have F1':∀ o o' o'',(((w.alloc o).alloc o').alloc o'').frozen? ⟨B,1,none⟩ = false:=fun o o' o'' => by
  have e:=((uh bC) o o' o'').block B hlt
  rw [World.frozen?_of_block (w:=w) (a:=⟨B,1,none⟩) e];exact f1
 have E:∀ (j:Nat) (u:Value) o,t.cells[j]? = some u → (w.alloc o).cell? ⟨p,ix * 7 + j,none⟩ = some u:=fun j u o hu => (hr.below ((uh bA) o)) j u hu
 have e0:∀ o,(w.alloc o).cell? ⟨p,ix * 7,none⟩ = some (.int .i64 t.k):=fun o => E 0 _ o rfl
 have e1:∀ o,(w.alloc o).cell? ⟨p,ix * 7 + 1,none⟩ = some (.int .i64 t.ln):=fun o => E 1 _ o rfl
 have e2:∀ o,(w.alloc o).cell? ⟨p,ix * 7 + 2,none⟩ = some (.int .i64 t.co):=fun o => E 2 _ o rfl
 have e3:∀ o,(w.alloc o).cell? ⟨p,ix * 7 + 3,none⟩ = some (.int .i64 t.fr):=fun o => E 3 _ o rfl
 have e4:∀ o,(w.alloc o).cell? ⟨p,ix * 7 + 4,none⟩ = some (.int .i64 t.to):=fun o => E 4 _ o rfl
 have e5:∀ o,(w.alloc o).cell? ⟨p,ix * 7 + 5,none⟩ = some (.string t.tx):=fun o => E 5 _ o rfl
 have e6:∀ o,(w.alloc o).cell? ⟨p,ix * 7 + 6,none⟩ = some (.string t.va):=fun o => E 6 _ o rfl
 clear E hr d0 d1 d4 f1 bB bC
 subst hkd
 rw [hK] at e0
 have strue:(t.tx.toList == [116,114,117,101]) = true:=by rw [str_lit (by rw [ByteArray.toList_eq])];exact decide_eq_true hstrue
 clear hstrue
 unfold ptr
 go_enter Tryz.func70,Tryz.ntmps70
 go_wp2_with fail
 go_region
 go_wp2_with fail
 refine bodyPost_ret (rgn.result_row rfl _ _ w.heap.size 0 (leafC 5 t.tx false t.ln t.co) _ rfl ((uh HF) _ _).1 Tryz.underlying33 rfl infoLt) rfl ?_
 exact ⟨rfl,((uh HF) _ _).2.1,((uh HF) _ _).2.2⟩
set_option maxHeartbeats 4000000 in
set_option maxRecDepth 20000 in
theorem one_false (B p:Nat) (c:Cu) (ct:Bool) (w:World) (h:RurAt w B p c) (hkd:c.kd = 0) (hK:c.tok.k = 3) (hstrue:¬ c.tok.tx = bTrue) (hsfalse:c.tok.tx = bFalse):Calls Tryz.prog 70 #[ptr B,.bool ct] w fun e w' => e = .returned (.agg (leafC 5 c.tok.tx false c.tok.ln c.tok.co).toArray) ∧ RurAt w' B p (c.take) ∧ Kp B w w':=by
 have hlt:=h.lt
 have hplt:=h.plt
 have hix:=h.ok.lt
 have hlen:=h.len
 have hr:=h.tk
 have HH:=Hi h
 obtain ⟨cap,d0,d1,f1,-⟩:=h.c01
 obtain ⟨-,-,-,d4⟩:=h.c2
 have hm:=more_of h.ok (by rw [hK];decide) (by rw [hK];decide)
 have HF:=Hi (fun o o1 => leaf_fin h hm (leafC 5 c.tok.tx false c.tok.ln c.tok.co) rfl o o1)
 unfold zero7 at HF
 obtain ⟨ix,hk⟩:∃ ix,ix = c.ix:=⟨_,rfl⟩
 obtain ⟨n,hk2⟩:∃ n,n = c.ts.length:=⟨_,rfl⟩
 obtain ⟨t,hk3⟩:∃ t,t = c.tok:=⟨_,rfl⟩
 obtain ⟨kd,hk4⟩:∃ kd,kd = c.kd:=⟨_,rfl⟩
 rw [← hk,← hk2] at hix
 rw [← hk2] at d0 hlen
 rw [← hk] at d1 hr HF
 rw [← hk3] at hr hK HF hstrue hsfalse ⊢
 rw [← hk4] at d4 hkd
 clear h hk hk2 hk3 hk4
 have ii:(ix:Int) < (n:Int):=by omega
 have hn1:(ix:Int) + 1 < 9223372036854775807:=by omega
 have bA:=Hi (fun o => show Below w.heap.size w (w.alloc o) from ba)
 have bA3:=Hi (fun o o' o'' => show Below w.heap.size w ((((w.alloc o).alloc o').alloc o'').drew) from Go.below_drewN ((((uh bA) o).alloc ((uh bA) o).size o').alloc (((uh bA) o).alloc ((uh bA) o).size o').size o'') 1)
 have D0:∀ o,(w.alloc o).cell? ⟨B,0,none⟩ = some (.slice (some ⟨p,0,none⟩) n cap):=fun o => (((uh bA) o).cell (p:=⟨B,0,none⟩) hlt).trans d0
 have D1:∀ o,(w.alloc o).cell? ⟨B,1,none⟩ = some (.int .i64 ix):=fun o => (((uh bA) o).cell (p:=⟨B,1,none⟩) hlt).trans d1
 have bB:=Hi (fun o o' => show Below w.heap.size w ((w.alloc o).alloc o') from ((uh bA) o).alloc ((uh bA) o).size o')
 have bC:=Hi (fun o o' o'' => show Below w.heap.size w (((w.alloc o).alloc o').alloc o'') from ((uh bB) o o').alloc ((uh bB) o o').size o'')
 have D4':∀ o o' o'',(((w.alloc o).alloc o').alloc o'').cell? ⟨B,4,none⟩ = some (.int .i64 kd):=fun o o' o'' => (((uh bC) o o' o'').cell (p:=⟨B,4,none⟩) hlt).trans d4
 have D1':∀ o o' o'',(((w.alloc o).alloc o').alloc o'').cell? ⟨B,1,none⟩ = some (.int .i64 ix):=fun o o' o'' => (((uh bC) o o' o'').cell (p:=⟨B,1,none⟩) hlt).trans d1
 have F1':∀ o o' o'',(((w.alloc o).alloc o').alloc o'').frozen? ⟨B,1,none⟩ = false:=fun o o' o'' => by
  have e:=((uh bC) o o' o'').block B hlt
  rw [World.frozen?_of_block (w:=w) (a:=⟨B,1,none⟩) e];exact f1
 have E:∀ (j:Nat) (u:Value) o,t.cells[j]? = some u → (w.alloc o).cell? ⟨p,ix * 7 + j,none⟩ = some u:=fun j u o hu => (hr.below ((uh bA) o)) j u hu
 have e0:∀ o,(w.alloc o).cell? ⟨p,ix * 7,none⟩ = some (.int .i64 t.k):=fun o => E 0 _ o rfl
 have e1:∀ o,(w.alloc o).cell? ⟨p,ix * 7 + 1,none⟩ = some (.int .i64 t.ln):=fun o => E 1 _ o rfl
 have e2:∀ o,(w.alloc o).cell? ⟨p,ix * 7 + 2,none⟩ = some (.int .i64 t.co):=fun o => E 2 _ o rfl
 have e3:∀ o,(w.alloc o).cell? ⟨p,ix * 7 + 3,none⟩ = some (.int .i64 t.fr):=fun o => E 3 _ o rfl
 have e4:∀ o,(w.alloc o).cell? ⟨p,ix * 7 + 4,none⟩ = some (.int .i64 t.to):=fun o => E 4 _ o rfl
 have e5:∀ o,(w.alloc o).cell? ⟨p,ix * 7 + 5,none⟩ = some (.string t.tx):=fun o => E 5 _ o rfl
 have e6:∀ o,(w.alloc o).cell? ⟨p,ix * 7 + 6,none⟩ = some (.string t.va):=fun o => E 6 _ o rfl
 clear E hr d0 d1 d4 f1 bB bC
 subst hkd
 rw [hK] at e0
 have strue:(t.tx.toList == [116,114,117,101]) = false:=by rw [str_lit (by rw [ByteArray.toList_eq])];exact decide_eq_false hstrue
 clear hstrue
 have sfalse:(t.tx.toList == [102,97,108,115,101]) = true:=by rw [str_lit (by rw [ByteArray.toList_eq])];exact decide_eq_true hsfalse
 clear hsfalse
 unfold ptr
 go_enter Tryz.func70,Tryz.ntmps70
 go_wp2_with fail
 go_region
 go_wp2_with fail
 refine bodyPost_ret (rgn.result_row rfl _ _ w.heap.size 0 (leafC 5 t.tx false t.ln t.co) _ rfl ((uh HF) _ _).1 Tryz.underlying33 rfl infoLt) rfl ?_
 exact ⟨rfl,((uh HF) _ _).2.1,((uh HF) _ _).2.2⟩
set_option maxHeartbeats 4000000 in
set_option maxRecDepth 20000 in
theorem one_null (B p:Nat) (c:Cu) (ct:Bool) (w:World) (h:RurAt w B p c) (hkd:c.kd = 0) (hK:c.tok.k = 3) (hstrue:¬ c.tok.tx = bTrue) (hsfalse:¬ c.tok.tx = bFalse) (hsnull:c.tok.tx = bNull):Calls Tryz.prog 70 #[ptr B,.bool ct] w fun e w' => e = .returned (.agg (leafC 6 em false c.tok.ln c.tok.co).toArray) ∧ RurAt w' B p (c.take) ∧ Kp B w w':=by
 have hlt:=h.lt
 have hplt:=h.plt
 have hix:=h.ok.lt
 have hlen:=h.len
 have hr:=h.tk
 have HH:=Hi h
 obtain ⟨cap,d0,d1,f1,-⟩:=h.c01
 obtain ⟨-,-,-,d4⟩:=h.c2
 have hm:=more_of h.ok (by rw [hK];decide) (by rw [hK];decide)
 have HF:=Hi (fun o o1 => leaf_fin h hm (leafC 6 em false c.tok.ln c.tok.co) rfl o o1)
 unfold zero7 at HF
 obtain ⟨ix,hk⟩:∃ ix,ix = c.ix:=⟨_,rfl⟩
 obtain ⟨n,hk2⟩:∃ n,n = c.ts.length:=⟨_,rfl⟩
 obtain ⟨t,hk3⟩:∃ t,t = c.tok:=⟨_,rfl⟩
 obtain ⟨kd,hk4⟩:∃ kd,kd = c.kd:=⟨_,rfl⟩
 rw [← hk,← hk2] at hix
 rw [← hk2] at d0 hlen
 rw [← hk] at d1 hr HF
 rw [← hk3] at hr hK HF hstrue hsfalse hsnull ⊢
 rw [← hk4] at d4 hkd
 clear h hk hk2 hk3 hk4
 have ii:(ix:Int) < (n:Int):=by omega
 have hn1:(ix:Int) + 1 < 9223372036854775807:=by omega
 have bA:=Hi (fun o => show Below w.heap.size w (w.alloc o) from ba)
 have bA3:=Hi (fun o o' o'' => show Below w.heap.size w ((((w.alloc o).alloc o').alloc o'').drew) from Go.below_drewN ((((uh bA) o).alloc ((uh bA) o).size o').alloc (((uh bA) o).alloc ((uh bA) o).size o').size o'') 1)
 have D0:∀ o,(w.alloc o).cell? ⟨B,0,none⟩ = some (.slice (some ⟨p,0,none⟩) n cap):=fun o => (((uh bA) o).cell (p:=⟨B,0,none⟩) hlt).trans d0
 have D1:∀ o,(w.alloc o).cell? ⟨B,1,none⟩ = some (.int .i64 ix):=fun o => (((uh bA) o).cell (p:=⟨B,1,none⟩) hlt).trans d1
 have bB:=Hi (fun o o' => show Below w.heap.size w ((w.alloc o).alloc o') from ((uh bA) o).alloc ((uh bA) o).size o')
 have bC:=Hi (fun o o' o'' => show Below w.heap.size w (((w.alloc o).alloc o').alloc o'') from ((uh bB) o o').alloc ((uh bB) o o').size o'')
 have D4':∀ o o' o'',(((w.alloc o).alloc o').alloc o'').cell? ⟨B,4,none⟩ = some (.int .i64 kd):=fun o o' o'' => (((uh bC) o o' o'').cell (p:=⟨B,4,none⟩) hlt).trans d4
 have D1':∀ o o' o'',(((w.alloc o).alloc o').alloc o'').cell? ⟨B,1,none⟩ = some (.int .i64 ix):=fun o o' o'' => (((uh bC) o o' o'').cell (p:=⟨B,1,none⟩) hlt).trans d1
 have F1':∀ o o' o'',(((w.alloc o).alloc o').alloc o'').frozen? ⟨B,1,none⟩ = false:=fun o o' o'' => by
  have e:=((uh bC) o o' o'').block B hlt
  rw [World.frozen?_of_block (w:=w) (a:=⟨B,1,none⟩) e];exact f1
 have E:∀ (j:Nat) (u:Value) o,t.cells[j]? = some u → (w.alloc o).cell? ⟨p,ix * 7 + j,none⟩ = some u:=fun j u o hu => (hr.below ((uh bA) o)) j u hu
 have e0:∀ o,(w.alloc o).cell? ⟨p,ix * 7,none⟩ = some (.int .i64 t.k):=fun o => E 0 _ o rfl
 have e1:∀ o,(w.alloc o).cell? ⟨p,ix * 7 + 1,none⟩ = some (.int .i64 t.ln):=fun o => E 1 _ o rfl
 have e2:∀ o,(w.alloc o).cell? ⟨p,ix * 7 + 2,none⟩ = some (.int .i64 t.co):=fun o => E 2 _ o rfl
 have e3:∀ o,(w.alloc o).cell? ⟨p,ix * 7 + 3,none⟩ = some (.int .i64 t.fr):=fun o => E 3 _ o rfl
 have e4:∀ o,(w.alloc o).cell? ⟨p,ix * 7 + 4,none⟩ = some (.int .i64 t.to):=fun o => E 4 _ o rfl
 have e5:∀ o,(w.alloc o).cell? ⟨p,ix * 7 + 5,none⟩ = some (.string t.tx):=fun o => E 5 _ o rfl
 have e6:∀ o,(w.alloc o).cell? ⟨p,ix * 7 + 6,none⟩ = some (.string t.va):=fun o => E 6 _ o rfl
 clear E hr d0 d1 d4 f1 bB bC
 subst hkd
 rw [hK] at e0
 have strue:(t.tx.toList == [116,114,117,101]) = false:=by rw [str_lit (by rw [ByteArray.toList_eq])];exact decide_eq_false hstrue
 clear hstrue
 have sfalse:(t.tx.toList == [102,97,108,115,101]) = false:=by rw [str_lit (by rw [ByteArray.toList_eq])];exact decide_eq_false hsfalse
 clear hsfalse
 have snull:(t.tx.toList == [110,117,108,108]) = true:=by rw [str_lit (by rw [ByteArray.toList_eq])];exact decide_eq_true hsnull
 clear hsnull
 unfold ptr
 go_enter Tryz.func70,Tryz.ntmps70
 go_wp2_with fail
 go_region
 go_wp2_with fail
 refine bodyPost_ret (rgn.result_row rfl _ _ w.heap.size 0 (leafC 6 em false t.ln t.co) _ rfl ((uh HF) _ _).1 Tryz.underlying33 rfl infoLt) rfl ?_
 exact ⟨rfl,((uh HF) _ _).2.1,((uh HF) _ _).2.2⟩
set_option maxHeartbeats 4000000 in
set_option maxRecDepth 20000 in
theorem one_enum (B p:Nat) (c:Cu) (ct:Bool) (w:World) (h:RurAt w B p c) (hkd:c.kd = 0) (hK:c.tok.k = 3) (hstrue:¬ c.tok.tx = bTrue) (hsfalse:¬ c.tok.tx = bFalse) (hsnull:¬ c.tok.tx = bNull):Calls Tryz.prog 70 #[ptr B,.bool ct] w fun e w' => e = .returned (.agg (leafC 7 c.tok.tx false c.tok.ln c.tok.co).toArray) ∧ RurAt w' B p (c.take) ∧ Kp B w w':=by
 have hlt:=h.lt
 have hplt:=h.plt
 have hix:=h.ok.lt
 have hlen:=h.len
 have hr:=h.tk
 have HH:=Hi h
 obtain ⟨cap,d0,d1,f1,-⟩:=h.c01
 obtain ⟨-,-,-,d4⟩:=h.c2
 have hm:=more_of h.ok (by rw [hK];decide) (by rw [hK];decide)
 have HF:=Hi (fun o o1 => leaf_fin h hm (leafC 7 c.tok.tx false c.tok.ln c.tok.co) rfl o o1)
 unfold zero7 at HF
 obtain ⟨ix,hk⟩:∃ ix,ix = c.ix:=⟨_,rfl⟩
 obtain ⟨n,hk2⟩:∃ n,n = c.ts.length:=⟨_,rfl⟩
 obtain ⟨t,hk3⟩:∃ t,t = c.tok:=⟨_,rfl⟩
 obtain ⟨kd,hk4⟩:∃ kd,kd = c.kd:=⟨_,rfl⟩
 rw [← hk,← hk2] at hix
 rw [← hk2] at d0 hlen
 rw [← hk] at d1 hr HF
 rw [← hk3] at hr hK HF hstrue hsfalse hsnull ⊢
 rw [← hk4] at d4 hkd
 clear h hk hk2 hk3 hk4
 have ii:(ix:Int) < (n:Int):=by omega
 have hn1:(ix:Int) + 1 < 9223372036854775807:=by omega
 have bA:=Hi (fun o => show Below w.heap.size w (w.alloc o) from ba)
 have bA3:=Hi (fun o o' o'' => show Below w.heap.size w ((((w.alloc o).alloc o').alloc o'').drew) from Go.below_drewN ((((uh bA) o).alloc ((uh bA) o).size o').alloc (((uh bA) o).alloc ((uh bA) o).size o').size o'') 1)
 have D0:∀ o,(w.alloc o).cell? ⟨B,0,none⟩ = some (.slice (some ⟨p,0,none⟩) n cap):=fun o => (((uh bA) o).cell (p:=⟨B,0,none⟩) hlt).trans d0
 have D1:∀ o,(w.alloc o).cell? ⟨B,1,none⟩ = some (.int .i64 ix):=fun o => (((uh bA) o).cell (p:=⟨B,1,none⟩) hlt).trans d1
 have bB:=Hi (fun o o' => show Below w.heap.size w ((w.alloc o).alloc o') from ((uh bA) o).alloc ((uh bA) o).size o')
 have bC:=Hi (fun o o' o'' => show Below w.heap.size w (((w.alloc o).alloc o').alloc o'') from ((uh bB) o o').alloc ((uh bB) o o').size o'')
 have D4':∀ o o' o'',(((w.alloc o).alloc o').alloc o'').cell? ⟨B,4,none⟩ = some (.int .i64 kd):=fun o o' o'' => (((uh bC) o o' o'').cell (p:=⟨B,4,none⟩) hlt).trans d4
 have D1':∀ o o' o'',(((w.alloc o).alloc o').alloc o'').cell? ⟨B,1,none⟩ = some (.int .i64 ix):=fun o o' o'' => (((uh bC) o o' o'').cell (p:=⟨B,1,none⟩) hlt).trans d1
 have F1':∀ o o' o'',(((w.alloc o).alloc o').alloc o'').frozen? ⟨B,1,none⟩ = false:=fun o o' o'' => by
  have e:=((uh bC) o o' o'').block B hlt
  rw [World.frozen?_of_block (w:=w) (a:=⟨B,1,none⟩) e];exact f1
 have E:∀ (j:Nat) (u:Value) o,t.cells[j]? = some u → (w.alloc o).cell? ⟨p,ix * 7 + j,none⟩ = some u:=fun j u o hu => (hr.below ((uh bA) o)) j u hu
 have e0:∀ o,(w.alloc o).cell? ⟨p,ix * 7,none⟩ = some (.int .i64 t.k):=fun o => E 0 _ o rfl
 have e1:∀ o,(w.alloc o).cell? ⟨p,ix * 7 + 1,none⟩ = some (.int .i64 t.ln):=fun o => E 1 _ o rfl
 have e2:∀ o,(w.alloc o).cell? ⟨p,ix * 7 + 2,none⟩ = some (.int .i64 t.co):=fun o => E 2 _ o rfl
 have e3:∀ o,(w.alloc o).cell? ⟨p,ix * 7 + 3,none⟩ = some (.int .i64 t.fr):=fun o => E 3 _ o rfl
 have e4:∀ o,(w.alloc o).cell? ⟨p,ix * 7 + 4,none⟩ = some (.int .i64 t.to):=fun o => E 4 _ o rfl
 have e5:∀ o,(w.alloc o).cell? ⟨p,ix * 7 + 5,none⟩ = some (.string t.tx):=fun o => E 5 _ o rfl
 have e6:∀ o,(w.alloc o).cell? ⟨p,ix * 7 + 6,none⟩ = some (.string t.va):=fun o => E 6 _ o rfl
 clear E hr d0 d1 d4 f1 bB bC
 subst hkd
 rw [hK] at e0
 have strue:(t.tx.toList == [116,114,117,101]) = false:=by rw [str_lit (by rw [ByteArray.toList_eq])];exact decide_eq_false hstrue
 clear hstrue
 have sfalse:(t.tx.toList == [102,97,108,115,101]) = false:=by rw [str_lit (by rw [ByteArray.toList_eq])];exact decide_eq_false hsfalse
 clear hsfalse
 have snull:(t.tx.toList == [110,117,108,108]) = false:=by rw [str_lit (by rw [ByteArray.toList_eq])];exact decide_eq_false hsnull
 clear hsnull
 unfold ptr
 go_enter Tryz.func70,Tryz.ntmps70
 go_wp2_with fail
 go_region
 go_wp2_with fail
 refine bodyPost_ret (rgn.result_row rfl _ _ w.heap.size 0 (leafC 7 t.tx false t.ln t.co) _ rfl ((uh HF) _ _).1 Tryz.underlying33 rfl infoLt) rfl ?_
 exact ⟨rfl,((uh HF) _ _).2.1,((uh HF) _ _).2.2⟩
set_option maxHeartbeats 4000000 in
set_option maxRecDepth 20000 in
theorem one_dead (B p:Nat) (c:Cu) (ct:Bool) (w:World) (h:RurAt w B p c) (hkd:c.kd ≠ 0):Calls Tryz.prog 70 #[ptr B,.bool ct] w fun e w' => e = .returned (.agg (leafC 0 em false 0 0).toArray) ∧ RurAt w' B p (c) ∧ Kp B w w':=by
 have hlt:=h.lt
 have hplt:=h.plt
 have hix:=h.ok.lt
 have hlen:=h.len
 have hr:=h.tk
 have HH:=Hi h
 obtain ⟨cap,d0,d1,f1,-⟩:=h.c01
 obtain ⟨-,-,-,d4⟩:=h.c2
 obtain ⟨ix,hk⟩:∃ ix,ix = c.ix:=⟨_,rfl⟩
 obtain ⟨n,hk2⟩:∃ n,n = c.ts.length:=⟨_,rfl⟩
 obtain ⟨t,hk3⟩:∃ t,t = c.tok:=⟨_,rfl⟩
 obtain ⟨kd,hk4⟩:∃ kd,kd = c.kd:=⟨_,rfl⟩
 rw [← hk,← hk2] at hix
 rw [← hk2] at d0 hlen
 rw [← hk] at d1 hr
 rw [← hk3] at hr
 rw [← hk4] at d4 hkd
 clear h hk hk2 hk3 hk4
 have ii:(ix:Int) < (n:Int):=by omega
 have hn1:(ix:Int) + 1 < 9223372036854775807:=by omega
 have bA:=Hi (fun o => show Below w.heap.size w (w.alloc o) from ba)
 have bA3:=Hi (fun o o' o'' => show Below w.heap.size w ((((w.alloc o).alloc o').alloc o'').drew) from Go.below_drewN ((((uh bA) o).alloc ((uh bA) o).size o').alloc (((uh bA) o).alloc ((uh bA) o).size o').size o'') 1)
 have D0:∀ o,(w.alloc o).cell? ⟨B,0,none⟩ = some (.slice (some ⟨p,0,none⟩) n cap):=fun o => (((uh bA) o).cell (p:=⟨B,0,none⟩) hlt).trans d0
 have D1:∀ o,(w.alloc o).cell? ⟨B,1,none⟩ = some (.int .i64 ix):=fun o => (((uh bA) o).cell (p:=⟨B,1,none⟩) hlt).trans d1
 have bB:=Hi (fun o o' => show Below w.heap.size w ((w.alloc o).alloc o') from ((uh bA) o).alloc ((uh bA) o).size o')
 have bC:=Hi (fun o o' o'' => show Below w.heap.size w (((w.alloc o).alloc o').alloc o'') from ((uh bB) o o').alloc ((uh bB) o o').size o'')
 have D4':∀ o o' o'',(((w.alloc o).alloc o').alloc o'').cell? ⟨B,4,none⟩ = some (.int .i64 kd):=fun o o' o'' => (((uh bC) o o' o'').cell (p:=⟨B,4,none⟩) hlt).trans d4
 have D1':∀ o o' o'',(((w.alloc o).alloc o').alloc o'').cell? ⟨B,1,none⟩ = some (.int .i64 ix):=fun o o' o'' => (((uh bC) o o' o'').cell (p:=⟨B,1,none⟩) hlt).trans d1
 have F1':∀ o o' o'',(((w.alloc o).alloc o').alloc o'').frozen? ⟨B,1,none⟩ = false:=fun o o' o'' => by
  have e:=((uh bC) o o' o'').block B hlt
  rw [World.frozen?_of_block (w:=w) (a:=⟨B,1,none⟩) e];exact f1
 have E:∀ (j:Nat) (u:Value) o,t.cells[j]? = some u → (w.alloc o).cell? ⟨p,ix * 7 + j,none⟩ = some u:=fun j u o hu => (hr.below ((uh bA) o)) j u hu
 have e0:∀ o,(w.alloc o).cell? ⟨p,ix * 7,none⟩ = some (.int .i64 t.k):=fun o => E 0 _ o rfl
 have e1:∀ o,(w.alloc o).cell? ⟨p,ix * 7 + 1,none⟩ = some (.int .i64 t.ln):=fun o => E 1 _ o rfl
 have e2:∀ o,(w.alloc o).cell? ⟨p,ix * 7 + 2,none⟩ = some (.int .i64 t.co):=fun o => E 2 _ o rfl
 have e3:∀ o,(w.alloc o).cell? ⟨p,ix * 7 + 3,none⟩ = some (.int .i64 t.fr):=fun o => E 3 _ o rfl
 have e4:∀ o,(w.alloc o).cell? ⟨p,ix * 7 + 4,none⟩ = some (.int .i64 t.to):=fun o => E 4 _ o rfl
 have e5:∀ o,(w.alloc o).cell? ⟨p,ix * 7 + 5,none⟩ = some (.string t.tx):=fun o => E 5 _ o rfl
 have e6:∀ o,(w.alloc o).cell? ⟨p,ix * 7 + 6,none⟩ = some (.string t.va):=fun o => E 6 _ o rfl
 clear E hr d0 d1 d4 f1 bB bC
 have b0:(kd != 0) = true:=by simpa using hkd
 clear hkd
 unfold ptr
 go_enter Tryz.func70,Tryz.ntmps70
 go_wp2_with fail
 go_region
 go_wp2_with fail
 have hQ:∀ o o' o'',(((w.alloc o).alloc o').alloc o'').drew.heap[w.heap.size]? = some o:=fun o o' o'' => by
  have e1:=heap_alloc_new w o
  have e2:=Below.heap_alloc (w.alloc o) o' w.heap.size (by simp)
  have e3:=Below.heap_alloc ((w.alloc o).alloc o') o'' w.heap.size (by simp;omega)
  exact e3.trans (e2.trans e1)
 refine bodyPost_ret (rgn.result_row rfl _ _ w.heap.size 0 (leafC 0 em false 0 0) _ rfl (dt.range_cells (hQ _ _ _) 0 (leafC 0 em false 0 0) (fun j u hu => by rw [Nat.zero_add];simpa [leafC,em] using hu)) Tryz.underlying33 rfl infoLt) rfl ?_
 exact ⟨rfl,(uh HH).below ((uh bA3) _ _ _),Kp.of ((uh bA3) _ _ _)⟩
theorem there_set {w:World} {b o N n:Nat} {v:Value} (hne:b ≠ N) (h:w.there N 0 n):(w.setCell ⟨b,o,none⟩ v).there N 0 n:=fun j hj => by
 have e:(w.setCell ⟨b,o,none⟩ v).heap[N]? = w.heap[N]? := dt.heap_setCells b N (fun e => hne e.symm) [v] o w
 obtain ⟨q1,q2⟩:=h j hj
 exact ⟨by rw [World.cell?_of_block (w:=w) (a:=⟨N,0 + j,none⟩) e];exact q1,by rw [World.frozen?_of_block (w:=w) (a:=⟨N,0 + j,none⟩) e];exact q2⟩
theorem RurAt.set1 {w:World} {B p:Nat} {c:Cu} (h:RurAt w B p c) {b:Nat} (hb:B ≠ b) (hp:p ≠ b) (o:Nat) (v:Value):RurAt (w.setCell ⟨b,o,none⟩ v) B p c:=h.out hb hp o [v]
theorem Kp_set1 {B:Nat} {w w1:World} (h:Kp B w w1) {b:Nat} (hb:w.heap.size ≤ b) (o:Nat) (v:Value):Kp B w (w1.setCell ⟨b,o,none⟩ v):=h.out hb o [v]
set_option maxHeartbeats 4000000 in
set_option maxRecDepth 20000 in
theorem one_none1 (B p:Nat) (c:Cu) (ct:Bool) (w:World) (h:RurAt w B p c) (hkd:c.kd = 0) (hK:c.tok.k ≠ 4 ∧ c.tok.k ≠ 5 ∧ c.tok.k ≠ 6 ∧ c.tok.k ≠ 7 ∧ c.tok.k ≠ 3 ∧ c.tok.k ≠ 2):Calls Tryz.prog 70 #[ptr B,.bool ct] w fun e w' => e = .returned (.agg (leafC 0 em false 0 0).toArray) ∧ RurAt w' B p (c.stop 70) ∧ Kp B w w':=by
 have hlt:=h.lt
 have hplt:=h.plt
 have hix:=h.ok.lt
 have hlen:=h.len
 have hr:=h.tk
 have HH:=Hi h
 obtain ⟨cap,d0,d1,f1,-⟩:=h.c01
 obtain ⟨-,-,-,d4⟩:=h.c2
 have hCL:=Hi (fun W (hc:RurAt W B p c) => stop_ok B p c 70 W hc)
 obtain ⟨ix,hk⟩:∃ ix,ix = c.ix:=⟨_,rfl⟩
 obtain ⟨n,hk2⟩:∃ n,n = c.ts.length:=⟨_,rfl⟩
 obtain ⟨t,hk3⟩:∃ t,t = c.tok:=⟨_,rfl⟩
 obtain ⟨kd,hk4⟩:∃ kd,kd = c.kd:=⟨_,rfl⟩
 rw [← hk,← hk2] at hix
 rw [← hk2] at d0 hlen
 rw [← hk] at d1 hr
 rw [← hk3] at hr hK
 rw [← hk4] at d4 hkd
 clear h hk hk2 hk3 hk4
 have ii:(ix:Int) < (n:Int):=by omega
 have hn1:(ix:Int) + 1 < 9223372036854775807:=by omega
 have bA:=Hi (fun o => show Below w.heap.size w (w.alloc o) from ba)
 have bA3:=Hi (fun o o' o'' => show Below w.heap.size w ((((w.alloc o).alloc o').alloc o'').drew) from Go.below_drewN ((((uh bA) o).alloc ((uh bA) o).size o').alloc (((uh bA) o).alloc ((uh bA) o).size o').size o'') 1)
 have D0:∀ o,(w.alloc o).cell? ⟨B,0,none⟩ = some (.slice (some ⟨p,0,none⟩) n cap):=fun o => (((uh bA) o).cell (p:=⟨B,0,none⟩) hlt).trans d0
 have D1:∀ o,(w.alloc o).cell? ⟨B,1,none⟩ = some (.int .i64 ix):=fun o => (((uh bA) o).cell (p:=⟨B,1,none⟩) hlt).trans d1
 have bB:=Hi (fun o o' => show Below w.heap.size w ((w.alloc o).alloc o') from ((uh bA) o).alloc ((uh bA) o).size o')
 have bC:=Hi (fun o o' o'' => show Below w.heap.size w (((w.alloc o).alloc o').alloc o'') from ((uh bB) o o').alloc ((uh bB) o o').size o'')
 have D4':∀ o o' o'',(((w.alloc o).alloc o').alloc o'').cell? ⟨B,4,none⟩ = some (.int .i64 kd):=fun o o' o'' => (((uh bC) o o' o'').cell (p:=⟨B,4,none⟩) hlt).trans d4
 have D1':∀ o o' o'',(((w.alloc o).alloc o').alloc o'').cell? ⟨B,1,none⟩ = some (.int .i64 ix):=fun o o' o'' => (((uh bC) o o' o'').cell (p:=⟨B,1,none⟩) hlt).trans d1
 have F1':∀ o o' o'',(((w.alloc o).alloc o').alloc o'').frozen? ⟨B,1,none⟩ = false:=fun o o' o'' => by
  have e:=((uh bC) o o' o'').block B hlt
  rw [World.frozen?_of_block (w:=w) (a:=⟨B,1,none⟩) e];exact f1
 have E:∀ (j:Nat) (u:Value) o,t.cells[j]? = some u → (w.alloc o).cell? ⟨p,ix * 7 + j,none⟩ = some u:=fun j u o hu => (hr.below ((uh bA) o)) j u hu
 have e0:∀ o,(w.alloc o).cell? ⟨p,ix * 7,none⟩ = some (.int .i64 t.k):=fun o => E 0 _ o rfl
 have e1:∀ o,(w.alloc o).cell? ⟨p,ix * 7 + 1,none⟩ = some (.int .i64 t.ln):=fun o => E 1 _ o rfl
 have e2:∀ o,(w.alloc o).cell? ⟨p,ix * 7 + 2,none⟩ = some (.int .i64 t.co):=fun o => E 2 _ o rfl
 have e3:∀ o,(w.alloc o).cell? ⟨p,ix * 7 + 3,none⟩ = some (.int .i64 t.fr):=fun o => E 3 _ o rfl
 have e4:∀ o,(w.alloc o).cell? ⟨p,ix * 7 + 4,none⟩ = some (.int .i64 t.to):=fun o => E 4 _ o rfl
 have e5:∀ o,(w.alloc o).cell? ⟨p,ix * 7 + 5,none⟩ = some (.string t.tx):=fun o => E 5 _ o rfl
 have e6:∀ o,(w.alloc o).cell? ⟨p,ix * 7 + 6,none⟩ = some (.string t.va):=fun o => E 6 _ o rfl
 clear E hr d0 d1 d4 f1 bB bC
 subst hkd
 have n4:(t.k == 4) = false:=by simpa using hK.1
 have n5:(t.k == 5) = false:=by simpa using hK.2.1
 have n6:(t.k == 6) = false:=by simpa using hK.2.2.1
 have n7:(t.k == 7) = false:=by simpa using hK.2.2.2.1
 have n3:(t.k == 3) = false:=by simpa using hK.2.2.2.2.1
 have n2:(t.k == 2) = false:=by simpa using hK.2.2.2.2.2
 clear hK
 have hKW:=Hi (fun o o' o'' => Kp.of (B:=B) ((uh bA3) o o' o''))
 have hRW:=Hi (fun o o' o'' => (uh HH).below ((uh bA3) o o' o''))
 have hZ:=Hi (fun o o' o'' W (hk:Kp B ((((w.alloc o).alloc o').alloc o'').drew) W) => show W.heap[w.heap.size]? = some o ∧ W.heap[w.heap.size + 1]? = some o' ∧ W.heap[w.heap.size + 1 + 1]? = some o'' ∧ w.heap.size + 1 + 1 < W.heap.size from by
  have e1:=heap_alloc_new w o
  have e2:=Below.heap_alloc (w.alloc o) o' w.heap.size (by simp)
  have e3:=Below.heap_alloc ((w.alloc o).alloc o') o'' w.heap.size (by simp;omega)
  have g1:=heap_alloc_new (w.alloc o) o'
  have g2:=Below.heap_alloc ((w.alloc o).alloc o') o'' (w.heap.size + 1) (by simp)
  have k1:(((w.alloc o).alloc o').alloc o'').heap[w.heap.size + 1 + 1]? = some o'':=by simpa using heap_alloc_new ((w.alloc o).alloc o') o''
  have hs:((((w.alloc o).alloc o').alloc o'').drew).heap.size = w.heap.size + 3:=by simp [World.drew]
  have hsz:=hk.size
  rw [hs] at hsz
  refine ⟨(hk.block w.heap.size (by rw [hs];omega) (by omega)).trans (e3.trans (e2.trans e1)),(hk.block (w.heap.size + 1) (by rw [hs];omega) (by omega)).trans (g2.trans (by simpa using g1)),(hk.block (w.heap.size + 1 + 1) (by rw [hs];omega) (by omega)).trans k1,by omega⟩)
 unfold ptr at hCL ⊢
 go_enter Tryz.func70,Tryz.ntmps70
 go_wp2_with fail
 go_region
 go_wp2_with fail
 refine ((uh hCL) _ ((uh hRW) _ _ _)).mono ?_
 rintro e w1 ⟨rfl,hc,hk⟩
 obtain ⟨z0,z1,z2,z3⟩:=(uh hZ) _ _ _ w1 hk
 have HK:=Hi (((uh hKW) _ _ _).trans hk)
 have HC:=Hi hc
 have hth:w1.there w.heap.size 0 7:=dt.there_cells z0 (by decide)
 have HT:=Hi hth
 skip
 clear hk hc hZ hKW hRW z0 z1 z2 hCL
 go_wp2_with (first
  | refine wpList_store_mid (by rfl) 33 _ _ (by rfl) w.heap.size 0 (leafC 0 em false 0 0).toArray (by rfl) (by rfl) (uh HT) infoLt (dt.one_cells (cs:=leafC 0 em false 0 0) (by rfl)) ?_)
 refine bodyPost_ret (rgn.result_row rfl _ _ w.heap.size 0 (leafC 0 em false 0 0) _ rfl (World.rangeAt_setCells_same _ _ _ _ (uh HT)) Tryz.underlying33 rfl infoLt) rfl ?_
 exact ⟨rfl,(uh HC).out (by omega) (by omega) 0 _,(uh HK).out (Nat.le_refl _) 0 _⟩
set_option maxHeartbeats 4000000 in
set_option maxRecDepth 20000 in
theorem one_none2 (B p:Nat) (c:Cu) (ct:Bool) (w:World) (h:RurAt w B p c) (hkd:c.kd = 0) (hK:c.tok.k = 2) (hsdol:¬ c.tok.tx = bDol) (hslb:¬ c.tok.tx = bLb) (hslc:¬ c.tok.tx = bLc):Calls Tryz.prog 70 #[ptr B,.bool ct] w fun e w' => e = .returned (.agg (leafC 0 em false 0 0).toArray) ∧ RurAt w' B p (c.stop 70) ∧ Kp B w w':=by
 have hlt:=h.lt
 have hplt:=h.plt
 have hix:=h.ok.lt
 have hlen:=h.len
 have hr:=h.tk
 have HH:=Hi h
 obtain ⟨cap,d0,d1,f1,-⟩:=h.c01
 obtain ⟨-,-,-,d4⟩:=h.c2
 have hCL:=Hi (fun W (hc:RurAt W B p c) => stop_ok B p c 70 W hc)
 obtain ⟨ix,hk⟩:∃ ix,ix = c.ix:=⟨_,rfl⟩
 obtain ⟨n,hk2⟩:∃ n,n = c.ts.length:=⟨_,rfl⟩
 obtain ⟨t,hk3⟩:∃ t,t = c.tok:=⟨_,rfl⟩
 obtain ⟨kd,hk4⟩:∃ kd,kd = c.kd:=⟨_,rfl⟩
 rw [← hk,← hk2] at hix
 rw [← hk2] at d0 hlen
 rw [← hk] at d1 hr
 rw [← hk3] at hr hK hsdol hslb hslc
 rw [← hk4] at d4 hkd
 clear h hk hk2 hk3 hk4
 have ii:(ix:Int) < (n:Int):=by omega
 have hn1:(ix:Int) + 1 < 9223372036854775807:=by omega
 have bA:=Hi (fun o => show Below w.heap.size w (w.alloc o) from ba)
 have bA3:=Hi (fun o o' o'' => show Below w.heap.size w ((((w.alloc o).alloc o').alloc o'').drew) from Go.below_drewN ((((uh bA) o).alloc ((uh bA) o).size o').alloc (((uh bA) o).alloc ((uh bA) o).size o').size o'') 1)
 have D0:∀ o,(w.alloc o).cell? ⟨B,0,none⟩ = some (.slice (some ⟨p,0,none⟩) n cap):=fun o => (((uh bA) o).cell (p:=⟨B,0,none⟩) hlt).trans d0
 have D1:∀ o,(w.alloc o).cell? ⟨B,1,none⟩ = some (.int .i64 ix):=fun o => (((uh bA) o).cell (p:=⟨B,1,none⟩) hlt).trans d1
 have bB:=Hi (fun o o' => show Below w.heap.size w ((w.alloc o).alloc o') from ((uh bA) o).alloc ((uh bA) o).size o')
 have bC:=Hi (fun o o' o'' => show Below w.heap.size w (((w.alloc o).alloc o').alloc o'') from ((uh bB) o o').alloc ((uh bB) o o').size o'')
 have D4':∀ o o' o'',(((w.alloc o).alloc o').alloc o'').cell? ⟨B,4,none⟩ = some (.int .i64 kd):=fun o o' o'' => (((uh bC) o o' o'').cell (p:=⟨B,4,none⟩) hlt).trans d4
 have D1':∀ o o' o'',(((w.alloc o).alloc o').alloc o'').cell? ⟨B,1,none⟩ = some (.int .i64 ix):=fun o o' o'' => (((uh bC) o o' o'').cell (p:=⟨B,1,none⟩) hlt).trans d1
 have F1':∀ o o' o'',(((w.alloc o).alloc o').alloc o'').frozen? ⟨B,1,none⟩ = false:=fun o o' o'' => by
  have e:=((uh bC) o o' o'').block B hlt
  rw [World.frozen?_of_block (w:=w) (a:=⟨B,1,none⟩) e];exact f1
 have E:∀ (j:Nat) (u:Value) o,t.cells[j]? = some u → (w.alloc o).cell? ⟨p,ix * 7 + j,none⟩ = some u:=fun j u o hu => (hr.below ((uh bA) o)) j u hu
 have e0:∀ o,(w.alloc o).cell? ⟨p,ix * 7,none⟩ = some (.int .i64 t.k):=fun o => E 0 _ o rfl
 have e1:∀ o,(w.alloc o).cell? ⟨p,ix * 7 + 1,none⟩ = some (.int .i64 t.ln):=fun o => E 1 _ o rfl
 have e2:∀ o,(w.alloc o).cell? ⟨p,ix * 7 + 2,none⟩ = some (.int .i64 t.co):=fun o => E 2 _ o rfl
 have e3:∀ o,(w.alloc o).cell? ⟨p,ix * 7 + 3,none⟩ = some (.int .i64 t.fr):=fun o => E 3 _ o rfl
 have e4:∀ o,(w.alloc o).cell? ⟨p,ix * 7 + 4,none⟩ = some (.int .i64 t.to):=fun o => E 4 _ o rfl
 have e5:∀ o,(w.alloc o).cell? ⟨p,ix * 7 + 5,none⟩ = some (.string t.tx):=fun o => E 5 _ o rfl
 have e6:∀ o,(w.alloc o).cell? ⟨p,ix * 7 + 6,none⟩ = some (.string t.va):=fun o => E 6 _ o rfl
 clear E hr d0 d1 d4 f1 bB bC
 subst hkd
 rw [hK] at e0
 have sdol:(t.tx.toList == [36]) = false:=by rw [str_lit (by rw [ByteArray.toList_eq])];exact decide_eq_false hsdol
 clear hsdol
 have slb:(t.tx.toList == [91]) = false:=by rw [str_lit (by rw [ByteArray.toList_eq])];exact decide_eq_false hslb
 clear hslb
 have slc:(t.tx.toList == [123]) = false:=by rw [str_lit (by rw [ByteArray.toList_eq])];exact decide_eq_false hslc
 clear hslc
 have hKW:=Hi (fun o o' o'' => Kp.of (B:=B) ((uh bA3) o o' o''))
 have hRW:=Hi (fun o o' o'' => (uh HH).below ((uh bA3) o o' o''))
 have hZ:=Hi (fun o o' o'' W (hk:Kp B ((((w.alloc o).alloc o').alloc o'').drew) W) => show W.heap[w.heap.size]? = some o ∧ W.heap[w.heap.size + 1]? = some o' ∧ W.heap[w.heap.size + 1 + 1]? = some o'' ∧ w.heap.size + 1 + 1 < W.heap.size from by
  have e1:=heap_alloc_new w o
  have e2:=Below.heap_alloc (w.alloc o) o' w.heap.size (by simp)
  have e3:=Below.heap_alloc ((w.alloc o).alloc o') o'' w.heap.size (by simp;omega)
  have g1:=heap_alloc_new (w.alloc o) o'
  have g2:=Below.heap_alloc ((w.alloc o).alloc o') o'' (w.heap.size + 1) (by simp)
  have k1:(((w.alloc o).alloc o').alloc o'').heap[w.heap.size + 1 + 1]? = some o'':=by simpa using heap_alloc_new ((w.alloc o).alloc o') o''
  have hs:((((w.alloc o).alloc o').alloc o'').drew).heap.size = w.heap.size + 3:=by simp [World.drew]
  have hsz:=hk.size
  rw [hs] at hsz
  refine ⟨(hk.block w.heap.size (by rw [hs];omega) (by omega)).trans (e3.trans (e2.trans e1)),(hk.block (w.heap.size + 1) (by rw [hs];omega) (by omega)).trans (g2.trans (by simpa using g1)),(hk.block (w.heap.size + 1 + 1) (by rw [hs];omega) (by omega)).trans k1,by omega⟩)
 unfold ptr at hCL ⊢
 go_enter Tryz.func70,Tryz.ntmps70
 go_wp2_with fail
 go_region
 go_wp2_with fail
 refine ((uh hCL) _ ((uh hRW) _ _ _)).mono ?_
 rintro e w1 ⟨rfl,hc,hk⟩
 obtain ⟨z0,z1,z2,z3⟩:=(uh hZ) _ _ _ w1 hk
 have HK:=Hi (((uh hKW) _ _ _).trans hk)
 have HC:=Hi hc
 have hth:w1.there w.heap.size 0 7:=dt.there_cells z0 (by decide)
 have HT:=Hi hth
 skip
 clear hk hc hZ hKW hRW z0 z1 z2 hCL
 go_wp2_with (first
  | refine wpList_store_mid (by rfl) 33 _ _ (by rfl) w.heap.size 0 (leafC 0 em false 0 0).toArray (by rfl) (by rfl) (uh HT) infoLt (dt.one_cells (cs:=leafC 0 em false 0 0) (by rfl)) ?_)
 refine bodyPost_ret (rgn.result_row rfl _ _ w.heap.size 0 (leafC 0 em false 0 0) _ rfl (World.rangeAt_setCells_same _ _ _ _ (uh HT)) Tryz.underlying33 rfl infoLt) rfl ?_
 exact ⟨rfl,(uh HC).out (by omega) (by omega) 0 _,(uh HK).out (Nat.le_refl _) 0 _⟩
set_option maxHeartbeats 4000000 in
set_option maxRecDepth 20000 in
theorem one_none3 (B p:Nat) (c:Cu) (ct:Bool) (w:World) (h:RurAt w B p c) (hkd:c.kd = 0) (hK:c.tok.k = 2) (hsdol:c.tok.tx = bDol) (hct:ct = true):Calls Tryz.prog 70 #[ptr B,.bool ct] w fun e w' => e = .returned (.agg (leafC 0 em false 0 0).toArray) ∧ RurAt w' B p (c.stop 70) ∧ Kp B w w':=by
 have hlt:=h.lt
 have hplt:=h.plt
 have hix:=h.ok.lt
 have hlen:=h.len
 have hr:=h.tk
 have HH:=Hi h
 obtain ⟨cap,d0,d1,f1,-⟩:=h.c01
 obtain ⟨-,-,-,d4⟩:=h.c2
 have hCL:=Hi (fun W (hc:RurAt W B p c) => stop_ok B p c 70 W hc)
 obtain ⟨ix,hk⟩:∃ ix,ix = c.ix:=⟨_,rfl⟩
 obtain ⟨n,hk2⟩:∃ n,n = c.ts.length:=⟨_,rfl⟩
 obtain ⟨t,hk3⟩:∃ t,t = c.tok:=⟨_,rfl⟩
 obtain ⟨kd,hk4⟩:∃ kd,kd = c.kd:=⟨_,rfl⟩
 rw [← hk,← hk2] at hix
 rw [← hk2] at d0 hlen
 rw [← hk] at d1 hr
 rw [← hk3] at hr hK hsdol
 rw [← hk4] at d4 hkd
 clear h hk hk2 hk3 hk4
 have ii:(ix:Int) < (n:Int):=by omega
 have hn1:(ix:Int) + 1 < 9223372036854775807:=by omega
 have bA:=Hi (fun o => show Below w.heap.size w (w.alloc o) from ba)
 have bA3:=Hi (fun o o' o'' => show Below w.heap.size w ((((w.alloc o).alloc o').alloc o'').drew) from Go.below_drewN ((((uh bA) o).alloc ((uh bA) o).size o').alloc (((uh bA) o).alloc ((uh bA) o).size o').size o'') 1)
 have D0:∀ o,(w.alloc o).cell? ⟨B,0,none⟩ = some (.slice (some ⟨p,0,none⟩) n cap):=fun o => (((uh bA) o).cell (p:=⟨B,0,none⟩) hlt).trans d0
 have D1:∀ o,(w.alloc o).cell? ⟨B,1,none⟩ = some (.int .i64 ix):=fun o => (((uh bA) o).cell (p:=⟨B,1,none⟩) hlt).trans d1
 have bB:=Hi (fun o o' => show Below w.heap.size w ((w.alloc o).alloc o') from ((uh bA) o).alloc ((uh bA) o).size o')
 have bC:=Hi (fun o o' o'' => show Below w.heap.size w (((w.alloc o).alloc o').alloc o'') from ((uh bB) o o').alloc ((uh bB) o o').size o'')
 have D4':∀ o o' o'',(((w.alloc o).alloc o').alloc o'').cell? ⟨B,4,none⟩ = some (.int .i64 kd):=fun o o' o'' => (((uh bC) o o' o'').cell (p:=⟨B,4,none⟩) hlt).trans d4
 have D1':∀ o o' o'',(((w.alloc o).alloc o').alloc o'').cell? ⟨B,1,none⟩ = some (.int .i64 ix):=fun o o' o'' => (((uh bC) o o' o'').cell (p:=⟨B,1,none⟩) hlt).trans d1
 have F1':∀ o o' o'',(((w.alloc o).alloc o').alloc o'').frozen? ⟨B,1,none⟩ = false:=fun o o' o'' => by
  have e:=((uh bC) o o' o'').block B hlt
  rw [World.frozen?_of_block (w:=w) (a:=⟨B,1,none⟩) e];exact f1
 have E:∀ (j:Nat) (u:Value) o,t.cells[j]? = some u → (w.alloc o).cell? ⟨p,ix * 7 + j,none⟩ = some u:=fun j u o hu => (hr.below ((uh bA) o)) j u hu
 have e0:∀ o,(w.alloc o).cell? ⟨p,ix * 7,none⟩ = some (.int .i64 t.k):=fun o => E 0 _ o rfl
 have e1:∀ o,(w.alloc o).cell? ⟨p,ix * 7 + 1,none⟩ = some (.int .i64 t.ln):=fun o => E 1 _ o rfl
 have e2:∀ o,(w.alloc o).cell? ⟨p,ix * 7 + 2,none⟩ = some (.int .i64 t.co):=fun o => E 2 _ o rfl
 have e3:∀ o,(w.alloc o).cell? ⟨p,ix * 7 + 3,none⟩ = some (.int .i64 t.fr):=fun o => E 3 _ o rfl
 have e4:∀ o,(w.alloc o).cell? ⟨p,ix * 7 + 4,none⟩ = some (.int .i64 t.to):=fun o => E 4 _ o rfl
 have e5:∀ o,(w.alloc o).cell? ⟨p,ix * 7 + 5,none⟩ = some (.string t.tx):=fun o => E 5 _ o rfl
 have e6:∀ o,(w.alloc o).cell? ⟨p,ix * 7 + 6,none⟩ = some (.string t.va):=fun o => E 6 _ o rfl
 clear E hr d0 d1 d4 f1 bB bC
 subst hkd
 subst hct
 rw [hK] at e0
 rw [hsdol] at e5
 clear hsdol
 unfold bDol at e5
 have hKW:=Hi (fun o o' o'' => Kp.of (B:=B) ((uh bA3) o o' o''))
 have hRW:=Hi (fun o o' o'' => (uh HH).below ((uh bA3) o o' o''))
 have hZ:=Hi (fun o o' o'' W (hk:Kp B ((((w.alloc o).alloc o').alloc o'').drew) W) => show W.heap[w.heap.size]? = some o ∧ W.heap[w.heap.size + 1]? = some o' ∧ W.heap[w.heap.size + 1 + 1]? = some o'' ∧ w.heap.size + 1 + 1 < W.heap.size from by
  have e1:=heap_alloc_new w o
  have e2:=Below.heap_alloc (w.alloc o) o' w.heap.size (by simp)
  have e3:=Below.heap_alloc ((w.alloc o).alloc o') o'' w.heap.size (by simp;omega)
  have g1:=heap_alloc_new (w.alloc o) o'
  have g2:=Below.heap_alloc ((w.alloc o).alloc o') o'' (w.heap.size + 1) (by simp)
  have k1:(((w.alloc o).alloc o').alloc o'').heap[w.heap.size + 1 + 1]? = some o'':=by simpa using heap_alloc_new ((w.alloc o).alloc o') o''
  have hs:((((w.alloc o).alloc o').alloc o'').drew).heap.size = w.heap.size + 3:=by simp [World.drew]
  have hsz:=hk.size
  rw [hs] at hsz
  refine ⟨(hk.block w.heap.size (by rw [hs];omega) (by omega)).trans (e3.trans (e2.trans e1)),(hk.block (w.heap.size + 1) (by rw [hs];omega) (by omega)).trans (g2.trans (by simpa using g1)),(hk.block (w.heap.size + 1 + 1) (by rw [hs];omega) (by omega)).trans k1,by omega⟩)
 unfold ptr at hCL ⊢
 go_enter Tryz.func70,Tryz.ntmps70
 go_wp2_with fail
 go_region
 go_wp2_with fail
 refine ((uh hCL) _ ((uh hRW) _ _ _)).mono ?_
 rintro e w1 ⟨rfl,hc,hk⟩
 obtain ⟨z0,z1,z2,z3⟩:=(uh hZ) _ _ _ w1 hk
 have HK:=Hi (((uh hKW) _ _ _).trans hk)
 have HC:=Hi hc
 have hth:w1.there w.heap.size 0 7:=dt.there_cells z0 (by decide)
 have HT:=Hi hth
 skip
 clear hk hc hZ hKW hRW z0 z1 z2 hCL
 go_wp2_with (first
  | refine wpList_store_mid (by rfl) 33 _ _ (by rfl) w.heap.size 0 (leafC 0 em false 0 0).toArray (by rfl) (by rfl) (uh HT) infoLt (dt.one_cells (cs:=leafC 0 em false 0 0) (by rfl)) ?_)
 refine bodyPost_ret (rgn.result_row rfl _ _ w.heap.size 0 (leafC 0 em false 0 0) _ rfl (World.rangeAt_setCells_same _ _ _ _ (uh HT)) Tryz.underlying33 rfl infoLt) rfl ?_
 exact ⟨rfl,(uh HC).out (by omega) (by omega) 0 _,(uh HK).out (Nat.le_refl _) 0 _⟩
set_option maxHeartbeats 4000000 in
set_option maxRecDepth 20000 in
theorem one_list (B p:Nat) (c:Cu) (ct:Bool) (w:World) (h:RurAt w B p c) (hkd:c.kd = 0) (hK:c.tok.k = 2) (hslb:c.tok.tx = bLb):Calls Tryz.prog 70 #[ptr B,.bool ct] w fun e w' => e = .returned (.agg (leafC 8 em false c.tok.ln c.tok.co).toArray) ∧ RurAt w' B p (c.opn bLb) ∧ Kp B w w':=by
 have hlt:=h.lt
 have hplt:=h.plt
 have hix:=h.ok.lt
 have hlen:=h.len
 have hr:=h.tk
 have HH:=Hi h
 obtain ⟨cap,d0,d1,f1,-⟩:=h.c01
 obtain ⟨-,-,-,d4⟩:=h.c2
 have hCL:=Hi (fun W (hc:RurAt W B p c) => open_ok B p c bLb W hc)
 obtain ⟨ix,hk⟩:∃ ix,ix = c.ix:=⟨_,rfl⟩
 obtain ⟨n,hk2⟩:∃ n,n = c.ts.length:=⟨_,rfl⟩
 obtain ⟨t,hk3⟩:∃ t,t = c.tok:=⟨_,rfl⟩
 obtain ⟨kd,hk4⟩:∃ kd,kd = c.kd:=⟨_,rfl⟩
 rw [← hk,← hk2] at hix
 rw [← hk2] at d0 hlen
 rw [← hk] at d1 hr
 rw [← hk3] at hr hK hslb ⊢
 rw [← hk4] at d4 hkd
 clear h hk hk2 hk3 hk4
 have ii:(ix:Int) < (n:Int):=by omega
 have hn1:(ix:Int) + 1 < 9223372036854775807:=by omega
 have bA:=Hi (fun o => show Below w.heap.size w (w.alloc o) from ba)
 have bA3:=Hi (fun o o' o'' => show Below w.heap.size w ((((w.alloc o).alloc o').alloc o'').drew) from Go.below_drewN ((((uh bA) o).alloc ((uh bA) o).size o').alloc (((uh bA) o).alloc ((uh bA) o).size o').size o'') 1)
 have D0:∀ o,(w.alloc o).cell? ⟨B,0,none⟩ = some (.slice (some ⟨p,0,none⟩) n cap):=fun o => (((uh bA) o).cell (p:=⟨B,0,none⟩) hlt).trans d0
 have D1:∀ o,(w.alloc o).cell? ⟨B,1,none⟩ = some (.int .i64 ix):=fun o => (((uh bA) o).cell (p:=⟨B,1,none⟩) hlt).trans d1
 have bB:=Hi (fun o o' => show Below w.heap.size w ((w.alloc o).alloc o') from ((uh bA) o).alloc ((uh bA) o).size o')
 have bC:=Hi (fun o o' o'' => show Below w.heap.size w (((w.alloc o).alloc o').alloc o'') from ((uh bB) o o').alloc ((uh bB) o o').size o'')
 have D4':∀ o o' o'',(((w.alloc o).alloc o').alloc o'').cell? ⟨B,4,none⟩ = some (.int .i64 kd):=fun o o' o'' => (((uh bC) o o' o'').cell (p:=⟨B,4,none⟩) hlt).trans d4
 have D1':∀ o o' o'',(((w.alloc o).alloc o').alloc o'').cell? ⟨B,1,none⟩ = some (.int .i64 ix):=fun o o' o'' => (((uh bC) o o' o'').cell (p:=⟨B,1,none⟩) hlt).trans d1
 have F1':∀ o o' o'',(((w.alloc o).alloc o').alloc o'').frozen? ⟨B,1,none⟩ = false:=fun o o' o'' => by
  have e:=((uh bC) o o' o'').block B hlt
  rw [World.frozen?_of_block (w:=w) (a:=⟨B,1,none⟩) e];exact f1
 have E:∀ (j:Nat) (u:Value) o,t.cells[j]? = some u → (w.alloc o).cell? ⟨p,ix * 7 + j,none⟩ = some u:=fun j u o hu => (hr.below ((uh bA) o)) j u hu
 have e0:∀ o,(w.alloc o).cell? ⟨p,ix * 7,none⟩ = some (.int .i64 t.k):=fun o => E 0 _ o rfl
 have e1:∀ o,(w.alloc o).cell? ⟨p,ix * 7 + 1,none⟩ = some (.int .i64 t.ln):=fun o => E 1 _ o rfl
 have e2:∀ o,(w.alloc o).cell? ⟨p,ix * 7 + 2,none⟩ = some (.int .i64 t.co):=fun o => E 2 _ o rfl
 have e3:∀ o,(w.alloc o).cell? ⟨p,ix * 7 + 3,none⟩ = some (.int .i64 t.fr):=fun o => E 3 _ o rfl
 have e4:∀ o,(w.alloc o).cell? ⟨p,ix * 7 + 4,none⟩ = some (.int .i64 t.to):=fun o => E 4 _ o rfl
 have e5:∀ o,(w.alloc o).cell? ⟨p,ix * 7 + 5,none⟩ = some (.string t.tx):=fun o => E 5 _ o rfl
 have e6:∀ o,(w.alloc o).cell? ⟨p,ix * 7 + 6,none⟩ = some (.string t.va):=fun o => E 6 _ o rfl
 clear E hr d0 d1 d4 f1 bB bC
 subst hkd
 rw [hK] at e0
 rw [hslb] at e5
 clear hslb
 unfold bLb at e5
 have hKW:=Hi (fun o o' o'' => Kp.of (B:=B) ((uh bA3) o o' o''))
 have hRW:=Hi (fun o o' o'' => (uh HH).below ((uh bA3) o o' o''))
 have hZ:=Hi (fun o o' o'' W (hk:Kp B ((((w.alloc o).alloc o').alloc o'').drew) W) => show W.heap[w.heap.size]? = some o ∧ W.heap[w.heap.size + 1]? = some o' ∧ W.heap[w.heap.size + 1 + 1]? = some o'' ∧ w.heap.size + 1 + 1 < W.heap.size from by
  have e1:=heap_alloc_new w o
  have e2:=Below.heap_alloc (w.alloc o) o' w.heap.size (by simp)
  have e3:=Below.heap_alloc ((w.alloc o).alloc o') o'' w.heap.size (by simp;omega)
  have g1:=heap_alloc_new (w.alloc o) o'
  have g2:=Below.heap_alloc ((w.alloc o).alloc o') o'' (w.heap.size + 1) (by simp)
  have k1:(((w.alloc o).alloc o').alloc o'').heap[w.heap.size + 1 + 1]? = some o'':=by simpa using heap_alloc_new ((w.alloc o).alloc o') o''
  have hs:((((w.alloc o).alloc o').alloc o'').drew).heap.size = w.heap.size + 3:=by simp [World.drew]
  have hsz:=hk.size
  rw [hs] at hsz
  refine ⟨(hk.block w.heap.size (by rw [hs];omega) (by omega)).trans (e3.trans (e2.trans e1)),(hk.block (w.heap.size + 1) (by rw [hs];omega) (by omega)).trans (g2.trans (by simpa using g1)),(hk.block (w.heap.size + 1 + 1) (by rw [hs];omega) (by omega)).trans k1,by omega⟩)
 unfold ptr bLb at hCL ⊢
 go_enter Tryz.func70,Tryz.ntmps70
 go_wp2_with fail
 go_region
 go_wp2_with fail
 refine ((uh hCL) _ ((uh hRW) _ _ _)).mono ?_
 rintro e w1 ⟨rfl,hc,hk⟩
 obtain ⟨z0,z1,z2,z3⟩:=(uh hZ) _ _ _ w1 hk
 have HK:=Hi (((uh hKW) _ _ _).trans hk)
 have HC:=Hi hc
 have hth:w1.there w.heap.size 0 7:=dt.there_cells z0 (by decide)
 have HT:=Hi hth
 have y5:=(dt.cell_cells z1 5).trans rfl;have x0:=(dt.cell_cells z2 0).trans rfl;have x1:=(dt.cell_cells z2 1).trans rfl;have x2:=(dt.cell_cells z2 2).trans rfl;have x3:=(dt.cell_cells z2 3).trans rfl;have x4:=(dt.cell_cells z2 4).trans rfl;have x5:=(dt.cell_cells z2 5).trans rfl;have x6:=(dt.cell_cells z2 6).trans rfl;have g0:=dt.frozen_cells z2 0;have g1:=dt.frozen_cells z2 1
 clear hk hc hZ hKW hRW z0 z1 z2 hCL
 go_wp2_with (first
  | refine wpList_store_mid (by rfl) 33 _ _ (by rfl) w.heap.size 0 (leafC 8 em false t.ln t.co).toArray (by rfl) (by rfl) (by repeat first | exact uh HT | refine there_set (by omega) ?_) infoLt (dt.one_cells (cs:=leafC 8 em false t.ln t.co) (by rfl)) ?_)
 refine bodyPost_ret (rgn.result_row rfl _ _ w.heap.size 0 (leafC 8 em false t.ln t.co) _ rfl (World.rangeAt_setCells_same _ _ _ _ (by repeat first | exact uh HT | refine there_set (by omega) ?_)) Tryz.underlying33 rfl infoLt) rfl ?_
 exact ⟨rfl,RurAt.out (by repeat first | exact uh HC | refine RurAt.set1 ?_ (by omega) (by omega) _ _) (by omega) (by omega) 0 _,Kp.out (by repeat first | exact uh HK | refine Kp_set1 ?_ (by omega) _ _) (Nat.le_refl _) 0 _⟩
set_option maxHeartbeats 4000000 in
set_option maxRecDepth 20000 in
theorem one_obj (B p:Nat) (c:Cu) (ct:Bool) (w:World) (h:RurAt w B p c) (hkd:c.kd = 0) (hK:c.tok.k = 2) (hslc:c.tok.tx = bLc):Calls Tryz.prog 70 #[ptr B,.bool ct] w fun e w' => e = .returned (.agg (leafC 9 em false c.tok.ln c.tok.co).toArray) ∧ RurAt w' B p (c.opn bLc) ∧ Kp B w w':=by
 have hlt:=h.lt
 have hplt:=h.plt
 have hix:=h.ok.lt
 have hlen:=h.len
 have hr:=h.tk
 have HH:=Hi h
 obtain ⟨cap,d0,d1,f1,-⟩:=h.c01
 obtain ⟨-,-,-,d4⟩:=h.c2
 have hCL:=Hi (fun W (hc:RurAt W B p c) => open_ok B p c bLc W hc)
 obtain ⟨ix,hk⟩:∃ ix,ix = c.ix:=⟨_,rfl⟩
 obtain ⟨n,hk2⟩:∃ n,n = c.ts.length:=⟨_,rfl⟩
 obtain ⟨t,hk3⟩:∃ t,t = c.tok:=⟨_,rfl⟩
 obtain ⟨kd,hk4⟩:∃ kd,kd = c.kd:=⟨_,rfl⟩
 rw [← hk,← hk2] at hix
 rw [← hk2] at d0 hlen
 rw [← hk] at d1 hr
 rw [← hk3] at hr hK hslc ⊢
 rw [← hk4] at d4 hkd
 clear h hk hk2 hk3 hk4
 have ii:(ix:Int) < (n:Int):=by omega
 have hn1:(ix:Int) + 1 < 9223372036854775807:=by omega
 have bA:=Hi (fun o => show Below w.heap.size w (w.alloc o) from ba)
 have bA3:=Hi (fun o o' o'' => show Below w.heap.size w ((((w.alloc o).alloc o').alloc o'').drew) from Go.below_drewN ((((uh bA) o).alloc ((uh bA) o).size o').alloc (((uh bA) o).alloc ((uh bA) o).size o').size o'') 1)
 have D0:∀ o,(w.alloc o).cell? ⟨B,0,none⟩ = some (.slice (some ⟨p,0,none⟩) n cap):=fun o => (((uh bA) o).cell (p:=⟨B,0,none⟩) hlt).trans d0
 have D1:∀ o,(w.alloc o).cell? ⟨B,1,none⟩ = some (.int .i64 ix):=fun o => (((uh bA) o).cell (p:=⟨B,1,none⟩) hlt).trans d1
 have bB:=Hi (fun o o' => show Below w.heap.size w ((w.alloc o).alloc o') from ((uh bA) o).alloc ((uh bA) o).size o')
 have bC:=Hi (fun o o' o'' => show Below w.heap.size w (((w.alloc o).alloc o').alloc o'') from ((uh bB) o o').alloc ((uh bB) o o').size o'')
 have D4':∀ o o' o'',(((w.alloc o).alloc o').alloc o'').cell? ⟨B,4,none⟩ = some (.int .i64 kd):=fun o o' o'' => (((uh bC) o o' o'').cell (p:=⟨B,4,none⟩) hlt).trans d4
 have D1':∀ o o' o'',(((w.alloc o).alloc o').alloc o'').cell? ⟨B,1,none⟩ = some (.int .i64 ix):=fun o o' o'' => (((uh bC) o o' o'').cell (p:=⟨B,1,none⟩) hlt).trans d1
 have F1':∀ o o' o'',(((w.alloc o).alloc o').alloc o'').frozen? ⟨B,1,none⟩ = false:=fun o o' o'' => by
  have e:=((uh bC) o o' o'').block B hlt
  rw [World.frozen?_of_block (w:=w) (a:=⟨B,1,none⟩) e];exact f1
 have E:∀ (j:Nat) (u:Value) o,t.cells[j]? = some u → (w.alloc o).cell? ⟨p,ix * 7 + j,none⟩ = some u:=fun j u o hu => (hr.below ((uh bA) o)) j u hu
 have e0:∀ o,(w.alloc o).cell? ⟨p,ix * 7,none⟩ = some (.int .i64 t.k):=fun o => E 0 _ o rfl
 have e1:∀ o,(w.alloc o).cell? ⟨p,ix * 7 + 1,none⟩ = some (.int .i64 t.ln):=fun o => E 1 _ o rfl
 have e2:∀ o,(w.alloc o).cell? ⟨p,ix * 7 + 2,none⟩ = some (.int .i64 t.co):=fun o => E 2 _ o rfl
 have e3:∀ o,(w.alloc o).cell? ⟨p,ix * 7 + 3,none⟩ = some (.int .i64 t.fr):=fun o => E 3 _ o rfl
 have e4:∀ o,(w.alloc o).cell? ⟨p,ix * 7 + 4,none⟩ = some (.int .i64 t.to):=fun o => E 4 _ o rfl
 have e5:∀ o,(w.alloc o).cell? ⟨p,ix * 7 + 5,none⟩ = some (.string t.tx):=fun o => E 5 _ o rfl
 have e6:∀ o,(w.alloc o).cell? ⟨p,ix * 7 + 6,none⟩ = some (.string t.va):=fun o => E 6 _ o rfl
 clear E hr d0 d1 d4 f1 bB bC
 subst hkd
 rw [hK] at e0
 rw [hslc] at e5
 clear hslc
 unfold bLc at e5
 have hKW:=Hi (fun o o' o'' => Kp.of (B:=B) ((uh bA3) o o' o''))
 have hRW:=Hi (fun o o' o'' => (uh HH).below ((uh bA3) o o' o''))
 have hZ:=Hi (fun o o' o'' W (hk:Kp B ((((w.alloc o).alloc o').alloc o'').drew) W) => show W.heap[w.heap.size]? = some o ∧ W.heap[w.heap.size + 1]? = some o' ∧ W.heap[w.heap.size + 1 + 1]? = some o'' ∧ w.heap.size + 1 + 1 < W.heap.size from by
  have e1:=heap_alloc_new w o
  have e2:=Below.heap_alloc (w.alloc o) o' w.heap.size (by simp)
  have e3:=Below.heap_alloc ((w.alloc o).alloc o') o'' w.heap.size (by simp;omega)
  have g1:=heap_alloc_new (w.alloc o) o'
  have g2:=Below.heap_alloc ((w.alloc o).alloc o') o'' (w.heap.size + 1) (by simp)
  have k1:(((w.alloc o).alloc o').alloc o'').heap[w.heap.size + 1 + 1]? = some o'':=by simpa using heap_alloc_new ((w.alloc o).alloc o') o''
  have hs:((((w.alloc o).alloc o').alloc o'').drew).heap.size = w.heap.size + 3:=by simp [World.drew]
  have hsz:=hk.size
  rw [hs] at hsz
  refine ⟨(hk.block w.heap.size (by rw [hs];omega) (by omega)).trans (e3.trans (e2.trans e1)),(hk.block (w.heap.size + 1) (by rw [hs];omega) (by omega)).trans (g2.trans (by simpa using g1)),(hk.block (w.heap.size + 1 + 1) (by rw [hs];omega) (by omega)).trans k1,by omega⟩)
 unfold ptr bLc at hCL ⊢
 go_enter Tryz.func70,Tryz.ntmps70
 go_wp2_with fail
 go_region
 go_wp2_with fail
 refine ((uh hCL) _ ((uh hRW) _ _ _)).mono ?_
 rintro e w1 ⟨rfl,hc,hk⟩
 obtain ⟨z0,z1,z2,z3⟩:=(uh hZ) _ _ _ w1 hk
 have HK:=Hi (((uh hKW) _ _ _).trans hk)
 have HC:=Hi hc
 have hth:w1.there w.heap.size 0 7:=dt.there_cells z0 (by decide)
 have HT:=Hi hth
 have y5:=(dt.cell_cells z1 5).trans rfl;have x0:=(dt.cell_cells z2 0).trans rfl;have x1:=(dt.cell_cells z2 1).trans rfl;have x2:=(dt.cell_cells z2 2).trans rfl;have x3:=(dt.cell_cells z2 3).trans rfl;have x4:=(dt.cell_cells z2 4).trans rfl;have x5:=(dt.cell_cells z2 5).trans rfl;have x6:=(dt.cell_cells z2 6).trans rfl;have g0:=dt.frozen_cells z2 0;have g1:=dt.frozen_cells z2 1
 clear hk hc hZ hKW hRW z0 z1 z2 hCL
 go_wp2_with (first
  | refine wpList_store_mid (by rfl) 33 _ _ (by rfl) w.heap.size 0 (leafC 9 em false t.ln t.co).toArray (by rfl) (by rfl) (by repeat first | exact uh HT | refine there_set (by omega) ?_) infoLt (dt.one_cells (cs:=leafC 9 em false t.ln t.co) (by rfl)) ?_)
 refine bodyPost_ret (rgn.result_row rfl _ _ w.heap.size 0 (leafC 9 em false t.ln t.co) _ rfl (World.rangeAt_setCells_same _ _ _ _ (by repeat first | exact uh HT | refine there_set (by omega) ?_)) Tryz.underlying33 rfl infoLt) rfl ?_
 exact ⟨rfl,RurAt.out (by repeat first | exact uh HC | refine RurAt.set1 ?_ (by omega) (by omega) _ _) (by omega) (by omega) 0 _,Kp.out (by repeat first | exact uh HK | refine Kp_set1 ?_ (by omega) _ _) (Nat.le_refl _) 0 _⟩
set_option maxHeartbeats 4000000 in
set_option maxRecDepth 20000 in
theorem one_var (B p:Nat) (c:Cu) (ct:Bool) (w:World) (h:RurAt w B p c) (hkd:c.kd = 0) (hK:c.tok.k = 2) (hsdol:c.tok.tx = bDol) (hct:ct = false):Calls Tryz.prog 70 #[ptr B,.bool ct] w fun e w' => e = .returned (.agg (leafC 1 (if c.take.isN then c.take.tok.tx else em) false c.tok.ln c.tok.co).toArray) ∧ RurAt w' B p (c.take.name) ∧ Kp B w w':=by
 have hlt:=h.lt
 have hplt:=h.plt
 have hix:=h.ok.lt
 have hlen:=h.len
 have hr:=h.tk
 have HH:=Hi h
 obtain ⟨cap,d0,d1,f1,-⟩:=h.c01
 obtain ⟨-,-,-,d4⟩:=h.c2
 have hm:=more_of h.ok (by rw [hK];decide) (by rw [hK];decide)
 have HTKf:=Hi (fun W (hc:RurAt W B p c) => hc.tak hm)
 have hCL:=Hi (fun W (hc:RurAt W B p c.take) => nameNil_ok B p c.take W hc)
 rw [nmT_form] at hCL
 obtain ⟨A,hA⟩:∃ A,A = if c.take.isN then c.take.tok.tx else em:=⟨_,rfl⟩
 obtain ⟨XX,hX⟩:∃ X,X = if c.take.isN then c.take.tok.ln else 0:=⟨_,rfl⟩
 obtain ⟨YY,hY⟩:∃ Y,Y = if c.take.isN then c.take.tok.co else 0:=⟨_,rfl⟩
 rw [← hA,← hX,← hY] at hCL
 rw [← hA]
 clear hA hX hY
 have bC0:=Hi (fun o o' o'' => show Below w.heap.size w (((w.alloc o).alloc o').alloc o'') from (((Below.refl _ _).alloc (Nat.le_refl _) o).alloc (by simp) o').alloc (by simp;omega) o'')
 obtain ⟨ix,hk⟩:∃ ix,ix = c.ix:=⟨_,rfl⟩
 obtain ⟨n,hk2⟩:∃ n,n = c.ts.length:=⟨_,rfl⟩
 obtain ⟨t,hk3⟩:∃ t,t = c.tok:=⟨_,rfl⟩
 obtain ⟨kd,hk4⟩:∃ kd,kd = c.kd:=⟨_,rfl⟩
 rw [← hk,← hk2] at hix
 rw [← hk2] at d0 hlen
 rw [← hk] at d1 hr HTKf
 rw [← hk3] at hr hK hsdol ⊢
 rw [← hk4] at d4 hkd
 clear h hk hk2 hk3 hk4
 have ii:(ix:Int) < (n:Int):=by omega
 have hn1:(ix:Int) + 1 < 9223372036854775807:=by omega
 have bA:=Hi (fun o => show Below w.heap.size w (w.alloc o) from ba)
 have bA3:=Hi (fun o o' o'' => show Below w.heap.size w ((((w.alloc o).alloc o').alloc o'').drew) from Go.below_drewN ((((uh bA) o).alloc ((uh bA) o).size o').alloc (((uh bA) o).alloc ((uh bA) o).size o').size o'') 1)
 have D0:∀ o,(w.alloc o).cell? ⟨B,0,none⟩ = some (.slice (some ⟨p,0,none⟩) n cap):=fun o => (((uh bA) o).cell (p:=⟨B,0,none⟩) hlt).trans d0
 have D1:∀ o,(w.alloc o).cell? ⟨B,1,none⟩ = some (.int .i64 ix):=fun o => (((uh bA) o).cell (p:=⟨B,1,none⟩) hlt).trans d1
 have bB:=Hi (fun o o' => show Below w.heap.size w ((w.alloc o).alloc o') from ((uh bA) o).alloc ((uh bA) o).size o')
 have bC:=Hi (fun o o' o'' => show Below w.heap.size w (((w.alloc o).alloc o').alloc o'') from ((uh bB) o o').alloc ((uh bB) o o').size o'')
 have D4':∀ o o' o'',(((w.alloc o).alloc o').alloc o'').cell? ⟨B,4,none⟩ = some (.int .i64 kd):=fun o o' o'' => (((uh bC) o o' o'').cell (p:=⟨B,4,none⟩) hlt).trans d4
 have D1':∀ o o' o'',(((w.alloc o).alloc o').alloc o'').cell? ⟨B,1,none⟩ = some (.int .i64 ix):=fun o o' o'' => (((uh bC) o o' o'').cell (p:=⟨B,1,none⟩) hlt).trans d1
 have F1':∀ o o' o'',(((w.alloc o).alloc o').alloc o'').frozen? ⟨B,1,none⟩ = false:=fun o o' o'' => by
  have e:=((uh bC) o o' o'').block B hlt
  rw [World.frozen?_of_block (w:=w) (a:=⟨B,1,none⟩) e];exact f1
 have E:∀ (j:Nat) (u:Value) o,t.cells[j]? = some u → (w.alloc o).cell? ⟨p,ix * 7 + j,none⟩ = some u:=fun j u o hu => (hr.below ((uh bA) o)) j u hu
 have e0:∀ o,(w.alloc o).cell? ⟨p,ix * 7,none⟩ = some (.int .i64 t.k):=fun o => E 0 _ o rfl
 have e1:∀ o,(w.alloc o).cell? ⟨p,ix * 7 + 1,none⟩ = some (.int .i64 t.ln):=fun o => E 1 _ o rfl
 have e2:∀ o,(w.alloc o).cell? ⟨p,ix * 7 + 2,none⟩ = some (.int .i64 t.co):=fun o => E 2 _ o rfl
 have e3:∀ o,(w.alloc o).cell? ⟨p,ix * 7 + 3,none⟩ = some (.int .i64 t.fr):=fun o => E 3 _ o rfl
 have e4:∀ o,(w.alloc o).cell? ⟨p,ix * 7 + 4,none⟩ = some (.int .i64 t.to):=fun o => E 4 _ o rfl
 have e5:∀ o,(w.alloc o).cell? ⟨p,ix * 7 + 5,none⟩ = some (.string t.tx):=fun o => E 5 _ o rfl
 have e6:∀ o,(w.alloc o).cell? ⟨p,ix * 7 + 6,none⟩ = some (.string t.va):=fun o => E 6 _ o rfl
 clear E hr d0 d1 d4 f1 bB bC
 subst hkd
 subst hct
 rw [hK] at e0
 rw [hsdol] at e5
 clear hsdol
 unfold bDol at e5
 have hKW:=Hi (fun o o' o'' => Kp.of (B:=B) ((uh bA3) o o' o''))
 have hRW:=Hi (fun o o' o'' => (uh HH).below ((uh bA3) o o' o''))
 have hZ:=Hi (fun o o' o'' W (hk:Kp B ((((w.alloc o).alloc o').alloc o'').drew) W) => show W.heap[w.heap.size]? = some o ∧ W.heap[w.heap.size + 1]? = some o' ∧ W.heap[w.heap.size + 1 + 1]? = some o'' ∧ w.heap.size + 1 + 1 < W.heap.size from by
  have e1:=heap_alloc_new w o
  have e2:=Below.heap_alloc (w.alloc o) o' w.heap.size (by simp)
  have e3:=Below.heap_alloc ((w.alloc o).alloc o') o'' w.heap.size (by simp;omega)
  have g1:=heap_alloc_new (w.alloc o) o'
  have g2:=Below.heap_alloc ((w.alloc o).alloc o') o'' (w.heap.size + 1) (by simp)
  have k1:(((w.alloc o).alloc o').alloc o'').heap[w.heap.size + 1 + 1]? = some o'':=by simpa using heap_alloc_new ((w.alloc o).alloc o') o''
  have hs:((((w.alloc o).alloc o').alloc o'').drew).heap.size = w.heap.size + 3:=by simp [World.drew]
  have hsz:=hk.size
  rw [hs] at hsz
  refine ⟨(hk.block w.heap.size (by rw [hs];omega) (by omega)).trans (e3.trans (e2.trans e1)),(hk.block (w.heap.size + 1) (by rw [hs];omega) (by omega)).trans (g2.trans (by simpa using g1)),(hk.block (w.heap.size + 1 + 1) (by rw [hs];omega) (by omega)).trans k1,by omega⟩)
 have hA:=Hi (fun o o' o'' => ((uh HTKf) _ ((uh HH).below ((uh bC0) o o' o''))).below (Go.below_drewN (Below.refl _ _) 1))
 have hKT:=Hi (fun o o' o'' => show Kp B ((((w.alloc o).alloc o').alloc o'').drew) ((((((w.alloc o).alloc o').alloc o'').setCell ⟨B,1,none⟩ (.int .i64 ((ix:Int) + 1)))).drew) from (Kp.refl B _).set 1 _)
 unfold ptr at hCL ⊢
 go_enter Tryz.func70,Tryz.ntmps70
 go_wp2_with fail
 go_region
 go_wp2_with fail
 refine ((uh hCL) _ ((uh hA) _ _ _)).mono ?_
 rintro e w1 ⟨rfl,hc,hk⟩
 obtain ⟨z0,z1,z2,z3⟩:=(uh hZ) _ _ _ w1 (((uh hKT) _ _ _).trans hk)
 have HK:=Hi (((uh hKW) _ _ _).trans (((uh hKT) _ _ _).trans hk))
 have HC:=Hi hc
 have hz1:w.heap.size + 1 < w1.heap.size:=by omega
 have HT:=Hi (fun o => dt.there_cells ((Below.heap_alloc w1 o w.heap.size (by omega)).trans z0) (o:=0) (n:=7) (by decide))
 have y1:∀ o,(w1.alloc o).cell? ⟨w.heap.size + 1,1,none⟩ = some (.int .i64 t.ln):=fun o => (dt.cell_cells ((Below.heap_alloc w1 o (w.heap.size + 1) hz1).trans z1) 1).trans rfl
 have y2:∀ o,(w1.alloc o).cell? ⟨w.heap.size + 1,2,none⟩ = some (.int .i64 t.co):=fun o => (dt.cell_cells ((Below.heap_alloc w1 o (w.heap.size + 1) hz1).trans z1) 2).trans rfl
 clear hk hc hZ hKW hRW z0 z1 z2 hCL hA hKT
 go_wp2_with (first
  | refine wpList_store_mid (by rfl) 33 _ _ (by rfl) w.heap.size 0 (leafC 1 A false t.ln t.co).toArray (by rfl) (by rfl) ((uh HT) _) infoLt (dt.one_cells (cs:=leafC 1 A false t.ln t.co) (by rfl)) ?_)
 refine bodyPost_ret (rgn.result_row rfl _ _ w.heap.size 0 (leafC 1 A false t.ln t.co) _ rfl (World.rangeAt_setCells_same _ _ _ _ ((uh HT) _)) Tryz.underlying33 rfl infoLt) rfl ?_
 exact ⟨rfl,((uh HC).below (ba)).out (by omega) (by omega) 0 _,((uh HK).trans (Kp.of (ba))).out (Nat.le_refl _) 0 _⟩
end Go.Proofs.YtepmbmbnlmbhhaaGreat.cr
