import Derived.Test.YtepmbmbnlmbhhaaGreatPla10
import Derived.Laws.OwnMore
set_option linter.unusedVariables false
set_option linter.unusedSimpArgs false
set_option maxHeartbeats 16000000
set_option maxRecDepth 8000
open Go.Proofs.Tryz
namespace Go.Proofs.YtepmbmbnlmbhhaaGreat
open Go.ChangeShapes Go.WideShapes Go.ChangeAt Go.RowKit
namespace rgn
variable {P:Program}
theorem zat{o:Oper}{a:Act}{w:World}{K:Act→World→Prop}{Q:Exit→Act→World→Prop}(f:FuncId)(fn:Func)(args:Array Operand)(tys:Array TypeId)(ho:o.op = .call { callee:=.value (.func f),args:=args,argTypes:=tys })
  (hf : P.funcs[f]? = some fn) (hname : (fn.name == "runtime.NumGoroutine") = false) (hb : fn.body.isNone = false) (vs : Array Value) (hv : args.map a.eval = vs)
  (hc:Calls P f vs w fun e w'=>∃ v,e = .returned v∧K (a.put o.dst v) w'):o.wp P a w K Q:=by
 have h1 : fn.name ≠ "runtime.NumGoroutine" := by simpa using hname
 have hrun:(execOp a.eval o).run P w = .ok (.enter f vs) w:=by
  unfold execOp;simp only[ho];obtain⟨c,hc'⟩:∃ c,fn.body=some c:=by cases h:fn.body <;> simp_all
  simp[resolve,hv,Deferred.ofValue,invoke,callFunc,hf,h1,hc',Act.eval]
 unfold Oper.wp;rw[hrun,Oper.upon_enter];refine hc.mono ?_
 rintro e w' ⟨v,rfl,hk⟩;exact hk
end rgn
namespace cr
open ints (Hi uh)
open dt (Dt Kp RowAt)
open cu
variable {P:Program} {md:Region.Mode} {ops:Array Oper} {Q:Exit→Act→World→Prop} {S:World→Prop}
theorem _root_.Go.Proofs.YtepmbmbnlmbhhaaGreat.rgn.oneV{i fuel:Nat}{listed:Array Bool}{a:Act}{w:World}{v:Value}(o:Oper)(ho:ops[i]? = some o)(hr:Region.ready md ops listed=[i])(hw:Region.wanted o (yielded ops a.tmps)=true)
  (hy:(execOp a.eval o).run P w = .ok (.value v) w) (hS:S w) (h:wpAnyH P md ops Q S fuel (listed.setIfInBounds i true) (a.put o.dst v) w):wpAnyH P md ops Q S (fuel+1) listed a w:=by
 refine rgn.one o ho hr hw ?_
 unfold Oper.wp;rw[hy];exact⟨hS,h⟩
theorem za6(B p:Nat)(c:Cu)(w:World)(h:RurAt w B p c):Calls prog 46 #[ptr B,.slice none 0 0] w fun e w' =>
  e = .returned (.tuple #[.agg c.nmT.toArray,.bool c.isN])∧RurAt w' B p c.name∧Kp B w w':=by
 have hn:=Hi (fun W (hc:RurAt W B p c)=>zd6 B p c c.isN W hc (zbu h.ok))
 have hs:=Hi (show c.name=if c.isN then c.take else c.stop 70 from rfl)
 have hs2:=Hi (show c.nmT=if c.isN then [.string c.tok.tx,.int .i64 c.tok.ln,.int .i64 c.tok.co] else [.string em,.int .i64 0,.int .i64 0] from rfl)
 have hV3:=Hi (zjq c).1;have hV1:=Hi (zjq c).2;have hlt:=h.lt;have hplt:=h.plt;have hix:=h.ok.lt;have hlen:=h.len;have hne:B≠w.heap.size:=by omega
 have hnp:p≠w.heap.size:=by omega
 have HH:=Hi h;obtain⟨V,hV⟩:∃ V,V=c.nmT:=⟨_,rfl⟩;obtain⟨C,hC⟩:∃ C,C=c.name:=⟨_,rfl⟩;rw[←hV] at hs2 hV3 hV1 ⊢;rw[←hC] at hs ⊢;rw[←uh hs,←uh hs2] at hn;have hP:=Hi (show c.isN=decide (c.kd=0∧c.tok.k=3) from rfl)
 obtain⟨R,hR⟩:∃ R,R=c.isN:=⟨_,rfl⟩;rw[←hR] at hn hP hs2 ⊢;have hr:=h.tk;obtain⟨cap,d0,d1,-,-⟩:=h.c01;obtain⟨-,-,-,d4⟩:=h.c2;obtain⟨ix,hk⟩:∃ ix,ix=c.ix:=⟨_,rfl⟩;obtain⟨n,hk2⟩:∃ n,n=c.ts.length:=⟨_,rfl⟩;obtain⟨t,hk3⟩:∃ t,t=c.tok:=⟨_,rfl⟩;obtain⟨kd,hk4⟩:∃ kd,kd=c.kd:=⟨_,rfl⟩;rw[←hk,←hk2] at hix;rw[←hk2] at d0 hlen;rw[←hk] at d1 hr
 rw[←hk3] at hr hP hs2;rw[←hk4] at hP d4;have e0:w.cell? ⟨p,ix * 7,none⟩=some (.int .i64 t.k):=hr 0 _ rfl;have hpB:=h.box.choose_spec.2.1;have hVT:=Hi (show (R=true→V=[.string t.tx,.int .i64 t.ln,.int .i64 t.co])∧(R=false→V=[.string em,.int .i64 0,.int .i64 0]) from ⟨fun e=>by rw[uh hs2,e];rfl,fun e=>by rw[uh hs2,e];rfl⟩)
 clear h hR hV hC hs hs2 hk hk2 hk3 hk4 hr;have ii:(ix:Int)<(n:Int):=by omega
 have hR0:=Hi (show kd≠0→R=false from fun e=>by rw[uh hP];simp[e])
 have hR1:=Hi (show t.k≠3→R=false from fun e=>by rw[uh hP];simp[e])
 have hR2:=Hi (show kd=0→t.k=3→R=true from fun e e2=>by rw[uh hP];simp[e,e2])
 by_cases h0:kd=0
 ·by_cases h1:t.k=3
  ·obtain rfl:=(uh hR2) h0 h1
   have HV:=Hi (show V=[Value.string t.tx,.int .i64 t.ln,.int .i64 t.co] from (uh hVT).1 rfl)
   have b1:(t.k==3)=true:=by simpa using h1
   subst h0;clear h1 hR0 hR1 hR2 hVT;obtain rfl:=uh HV;unfold ptr at hn ⊢;have hW:=Hi (zcw B);unfold ptr at hW
   go_enter func46,ntmps46
   go_wp2_with fail
   have bA0:Below w.heap.size w (w.alloc (.cells #[Value.string { data:=#[] },.int .i64 0,.int .i64 0] 84)):=ba;have hZ:=(fun W (hk:Kp B (w.alloc (.cells #[Value.string { data:=#[] },.int .i64 0,.int .i64 0] 84)) W)=>show W.heap[w.heap.size]? = some (.cells #[Value.string { data:=#[] },.int .i64 0,.int .i64 0] 84 (0,0)) from (hk.block w.heap.size (by simp) (by omega)).trans (heap_alloc_new w _))
   obtain⟨wA,hwA⟩:∃ wA,wA=w.alloc (.cells #[Value.string { data:=#[] },.int .i64 0,.int .i64 0] 84):=⟨_,rfl⟩;rw[←hwA] at bA0 hZ ⊢;clear hwA;refine ((uh hW) wA).mono ?_
   rintro e w1 ⟨rfl,rfl⟩;have D0:=(bA0.cell (p:=⟨B,0,none⟩) hlt).trans d0;have D1:=(bA0.cell (p:=⟨B,1,none⟩) hlt).trans d1;have D4:=(bA0.cell (p:=⟨B,4,none⟩) hlt).trans d4;have E0:=(bA0.cell (p:=⟨p,ix * 7,none⟩) hplt).trans e0;clear d0 d1 d4 e0 hW;clear hV3 hV1 hP
   go_wp2_with fail
   have bd:Below w1.heap.size w1 { w1 with drawn:=w1.drawn+1 }:=(Below.refl _ _).drew
   have bD:Below w.heap.size w { w1 with drawn:=w1.drawn+1 }:=bA0.trans (bd.mono bA0.size)
   have hkD:Kp B w1 { w1 with drawn:=w1.drawn+1 }:=Kp.of bd
   have hS0:({ w1 with drawn:=w1.drawn+1 }:World).cell? ⟨B,0,none⟩=some (.slice (some ⟨p,0,none⟩) n cap)∧({ w1 with drawn:=w1.drawn+1 }:World).cell? ⟨p,ix * 7,none⟩=some (.int .i64 t.k):=⟨(bd.cell (p:=⟨B,0,none⟩) (Nat.lt_of_lt_of_le hlt bA0.size)).trans D0,(bd.cell (p:=⟨p,ix * 7,none⟩) (Nat.lt_of_lt_of_le hplt bA0.size)).trans E0⟩
   have G1:=(bd.cell (p:=⟨B,1,none⟩) (Nat.lt_of_lt_of_le hlt bA0.size)).trans D1;have G4:=(bd.cell (p:=⟨B,4,none⟩) (Nat.lt_of_lt_of_le hlt bA0.size)).trans D4;refine wp_region_noPanic ?_
   refine wp_region_held (S:=fun w'=>w'.cell? ⟨B,0,none⟩=some (.slice (some ⟨p,0,none⟩) n cap)∧w'.cell? ⟨p,ix * 7,none⟩=some (.int .i64 t.k)) mixed ?_
   refine rgn.u 0 (v:=?v1) ?h1 hS0 ?_
   case h1=>(intro w' hw';go_simp;try with_reducible rfl)
   simp only[zA,zB,zC,Act.put,zD,zE,zF];refine rgn.u 1 (v:=?v2) ?h2 hS0 ?_
   case h2=>(intro w' hw';go_simp;try with_reducible rfl)
   simp only[zA,zB,zC,Act.put,zD,zE,zF];refine rgn.u 2 (v:=?v3) ?h3 hS0 ?_
   case h3=>(intro w' hw';go_simp;try with_reducible rfl)
   simp only[zA,zB,zC,Act.put,zD,zE,zF];refine rgn.u 3 (v:=?v4) ?h4 hS0 ?_
   case h4=>(intro w' hw';go_simp;try with_reducible rfl)
   simp only[zA,zB,zC,Act.put,zD,zE,zF];refine rgn.oneV (i:=4) (v:=?v5) _ rfl (by kernel_rfl) (by rfl) ?hy5 hS0 ?_
   case hy5=>(skip;go_simp;try with_reducible rfl)
   simp only[zA,zB,zC,Act.put,zD,zE,zF];refine rgn.u 5 (v:=?v6) ?h6 hS0 ?_
   case h6=>(intro w' hw';go_simp;try with_reducible rfl)
   simp only[zA,zB,zC,Act.put,zD,zE,zF];refine rgn.u 6 (v:=?v7) ?h7 hS0 ?_
   case h7=>(intro w' hw';go_simp;try with_reducible rfl)
   simp only[zA,zB,zC,Act.put,zD,zE,zF];refine rgn.u 7 (v:=?v8) ?h8 hS0 ?_
   case h8=>(intro w' hw';go_simp;try with_reducible rfl)
   simp only[zA,zB,zC,Act.put,zD,zE,zF];refine rgn.u 8 (v:=?v9) ?h9 hS0 ?_
   case h9=>(intro w' hw';go_simp;try with_reducible rfl)
   simp only[zA,zB,zC,Act.put,zD,zE,zF];refine rgn.u 9 (v:=?v10) ?h10 hS0 ?_
   case h10=>(intro w' hw';go_simp;try with_reducible rfl)
   simp only[zA,zB,zC,Act.put,zD,zE,zF];refine rgn.u 10 (v:=?v11) ?h11 hS0 ?_
   case h11=>(intro w' hw';have q0:=hw'.1;go_simp;try with_reducible rfl)
   simp only[zA,zB,zC,Act.put,zD,zE,zF];refine rgn.u 11 (v:=?v12) ?h12 hS0 ?_
   case h12=>(intro w' hw';go_simp;try with_reducible rfl)
   simp only[zA,zB,zC,Act.put,zD,zE,zF];refine rgn.u 12 (v:=?v13) ?h13 hS0 ?_
   case h13=>(intro w' hw';go_simp;try with_reducible rfl)
   simp only[zA,zB,zC,Act.put,zD,zE,zF];refine rgn.u 13 (v:=?v14) ?h14 hS0 ?_
   case h14=>(intro w' hw';go_simp;try with_reducible rfl)
   simp only[zA,zB,zC,Act.put,zD,zE,zF];refine rgn.oneV (i:=14) (v:=?v15) _ rfl (by kernel_rfl) (by rfl) ?hy15 hS0 ?_
   case hy15=>(skip;go_simp;try with_reducible rfl)
   simp only[zA,zB,zC,Act.put,zD,zE,zF];refine rgn.u 15 (v:=?v16) ?h16 hS0 ?_
   case h16=>(intro w' hw';go_simp;try with_reducible rfl)
   simp only[zA,zB,zC,Act.put,zD,zE,zF];refine rgn.u 16 (v:=?v17) ?h17 hS0 ?_
   case h17=>(intro w' hw';go_simp;try with_reducible rfl)
   simp only[zA,zB,zC,Act.put,zD,zE,zF];refine rgn.u 17 (v:=?v18) ?h18 hS0 ?_
   case h18=>(intro w' hw';have q0:=hw'.2;go_simp;try with_reducible rfl)
   simp only[zA,zB,zC,Act.put,zD,zE,zF];refine rgn.u 18 (v:=?v19) ?h19 hS0 ?_
   case h19=>(intro w' hw';go_simp;try with_reducible rfl)
   simp only[zA,zB,zC,Act.put,zD,zE,zF];refine rgn.u 19 (v:=?v20) ?h20 hS0 ?_
   case h20=>(intro w' hw';go_simp;try with_reducible rfl)
   simp only[zA,zB,zC,Act.put,zD,zE,zF];refine rgn.u 20 (v:=?v21) ?h21 hS0 ?_
   case h21=>(intro w' hw';go_simp;try with_reducible rfl)
   simp only[zA,zB,zC,Act.put,zD,zE,zF];refine rgn.u 21 (v:=?v22) ?h22 hS0 ?_
   case h22=>(intro w' hw';go_simp;try with_reducible rfl)
   simp only[zA,zB,zC,Act.put,zD,zE,zF];refine rgn.u 22 (v:=?v23) ?h23 hS0 ?_
   case h23=>(intro w' hw';go_simp;try with_reducible rfl)
   simp only[zA,zB,zC,Act.put,zD,zE,zF];refine rgn.u 23 (v:=?v24) ?h24 hS0 ?_
   case h24=>(intro w' hw';go_simp;try with_reducible rfl)
   simp only[zA,zB,zC,Act.put,zD,zE,zF];refine rgn.one (i:=24) _ rfl (by kernel_rfl) (by rfl) ?_
   simp only[zA,zB,zC,Act.put,zD,zE,zF];refine rgn.zat _ _ _ _ rfl func85 (by kernel_rfl) (by kernel_rfl) #[.pointer (some ⟨B,0,none⟩),.bool true] (by first | kernel_rfl | (simp only[List.map_toArray,List.map_cons,List.map_nil];rfl)) ?_
   refine ((uh hn) _ ((uh HH).below bD)).mono ?_
   rintro e wN ⟨rfl,hcN,hkN,hz0⟩;have hk3:=hkD.trans hkN;have hbk:=hZ wN hk3;have hth:wN.there w.heap.size 0 3:=dt.zac hbk (by decide)
   have HK:=(Kp.of bA0).trans hk3;have hSN:wN.cell? ⟨B,0,none⟩=some (.slice (some ⟨p,0,none⟩) n cap)∧wN.cell? ⟨p,ix * 7,none⟩=some (.int .i64 t.k):=⟨hz0.trans hS0.1,(hkN.cell (Nat.lt_of_lt_of_le hplt (Nat.le_trans bA0.size bd.size)) hpB).trans hS0.2⟩;refine⟨_,rfl,hSN,?_⟩
   clear hS0 G1 G4;have hS0:=hSN;simp only[zA,zB,zC,Act.put,zD,zE,zF];refine rgn.u 25 (v:=?v25) ?h25 hS0 ?_
   case h25=>(intro w' hw';go_simp;try with_reducible rfl)
   simp only[zA,zB,zC,Act.put,zD,zE,zF];refine rgn.u 26 (v:=?v26) ?h26 hS0 ?_
   case h26=>(intro w' hw';go_simp;try with_reducible rfl)
   simp only[zA,zB,zC,Act.put,zD,zE,zF];refine rgn.one (i:=27) _ rfl (by kernel_rfl) (by rfl) ?_
   simp only[zA,zB,zC,Act.put,zD,zE,zF];refine wp_store_mid 84 _ _ (by rfl) w.heap.size 0 ([Value.string t.tx,.int .i64 t.ln,.int .i64 t.co]).toArray (by rfl) (by rfl) hth infoNm (dt.zab (cs:=[Value.string t.tx,.int .i64 t.ln,.int .i64 t.co]) (by rfl)) ?_
   have hS3:(wN.setCells w.heap.size 0 [Value.string t.tx,.int .i64 t.ln,.int .i64 t.co]).cell? ⟨B,0,none⟩=some (.slice (some ⟨p,0,none⟩) n cap)∧(wN.setCells w.heap.size 0 [Value.string t.tx,.int .i64 t.ln,.int .i64 t.co]).cell? ⟨p,ix * 7,none⟩=some (.int .i64 t.k):=⟨(dt.zaf (dt.zae w.heap.size B hne _ 0 _) _).trans hS0.1,(dt.zaf (dt.zae w.heap.size p hnp _ 0 _) _).trans hS0.2⟩
   refine⟨hS3,?_⟩
   clear hS0;have hS0:=hS3
   try simp only[zA,zB,zC,Act.put,zD,zE,zF]
   refine rgn.u 28 (v:=?v27) ?h27 hS0 ?_
   case h27=>(intro w' hw';go_simp;try with_reducible rfl)
   simp only[zA,zB,zC,Act.put,zD,zE,zF];refine wpAnyH_done (by kernel_rfl) ?_ _;refine NoPanic.normal ?_
   go_wp2_with fail
   refine bodyPost_ret (rgn.zaa rfl _ _ w.heap.size 0 [Value.string t.tx,.int .i64 t.ln,.int .i64 t.co] _ rfl (World.rangeAt_setCells_same _ _ _ _ hth) underlying84 rfl infoNm) rfl ?_
   exact⟨rfl,hcN.out hne hnp 0 [Value.string t.tx,.int .i64 t.ln,.int .i64 t.co],HK.out (lr _) 0 [Value.string t.tx,.int .i64 t.ln,.int .i64 t.co]⟩
  ·obtain rfl:=(uh hR1) h1
   have HV:=Hi (show V=[Value.string em,.int .i64 0,.int .i64 0] from (uh hVT).2 rfl)
   have b1:(t.k==3)=false:=by simpa using h1
   subst h0;clear h1 hR0 hR1 hR2 hVT;obtain rfl:=uh HV;unfold ptr at hn ⊢;have hW:=Hi (zcw B);unfold ptr at hW
   go_enter func46,ntmps46
   go_wp2_with fail
   have bA0:Below w.heap.size w (w.alloc (.cells #[Value.string { data:=#[] },.int .i64 0,.int .i64 0] 84)):=ba;have hZ:=(fun W (hk:Kp B (w.alloc (.cells #[Value.string { data:=#[] },.int .i64 0,.int .i64 0] 84)) W)=>show W.heap[w.heap.size]? = some (.cells #[Value.string { data:=#[] },.int .i64 0,.int .i64 0] 84 (0,0)) from (hk.block w.heap.size (by simp) (by omega)).trans (heap_alloc_new w _))
   obtain⟨wA,hwA⟩:∃ wA,wA=w.alloc (.cells #[Value.string { data:=#[] },.int .i64 0,.int .i64 0] 84):=⟨_,rfl⟩;rw[←hwA] at bA0 hZ ⊢;clear hwA;refine ((uh hW) wA).mono ?_
   rintro e w1 ⟨rfl,rfl⟩;have D0:=(bA0.cell (p:=⟨B,0,none⟩) hlt).trans d0;have D1:=(bA0.cell (p:=⟨B,1,none⟩) hlt).trans d1;have D4:=(bA0.cell (p:=⟨B,4,none⟩) hlt).trans d4;have E0:=(bA0.cell (p:=⟨p,ix * 7,none⟩) hplt).trans e0;clear d0 d1 d4 e0 hW;clear hV3 hV1 hP
   go_wp2_with fail
   have bd:Below w1.heap.size w1 { w1 with drawn:=w1.drawn+1 }:=(Below.refl _ _).drew
   have bD:Below w.heap.size w { w1 with drawn:=w1.drawn+1 }:=bA0.trans (bd.mono bA0.size)
   have hkD:Kp B w1 { w1 with drawn:=w1.drawn+1 }:=Kp.of bd
   have hS0:({ w1 with drawn:=w1.drawn+1 }:World).cell? ⟨B,0,none⟩=some (.slice (some ⟨p,0,none⟩) n cap)∧({ w1 with drawn:=w1.drawn+1 }:World).cell? ⟨p,ix * 7,none⟩=some (.int .i64 t.k):=⟨(bd.cell (p:=⟨B,0,none⟩) (Nat.lt_of_lt_of_le hlt bA0.size)).trans D0,(bd.cell (p:=⟨p,ix * 7,none⟩) (Nat.lt_of_lt_of_le hplt bA0.size)).trans E0⟩
   have G1:=(bd.cell (p:=⟨B,1,none⟩) (Nat.lt_of_lt_of_le hlt bA0.size)).trans D1;have G4:=(bd.cell (p:=⟨B,4,none⟩) (Nat.lt_of_lt_of_le hlt bA0.size)).trans D4;refine wp_region_noPanic ?_
   refine wp_region_held (S:=fun w'=>w'.cell? ⟨B,0,none⟩=some (.slice (some ⟨p,0,none⟩) n cap)∧w'.cell? ⟨p,ix * 7,none⟩=some (.int .i64 t.k)) mixed ?_
   refine rgn.u 0 (v:=?v28) ?h28 hS0 ?_
   case h28=>(intro w' hw';go_simp;try with_reducible rfl)
   simp only[zA,zB,zC,Act.put,zD,zE,zF];refine rgn.u 1 (v:=?v29) ?h29 hS0 ?_
   case h29=>(intro w' hw';go_simp;try with_reducible rfl)
   simp only[zA,zB,zC,Act.put,zD,zE,zF];refine rgn.u 2 (v:=?v30) ?h30 hS0 ?_
   case h30=>(intro w' hw';go_simp;try with_reducible rfl)
   simp only[zA,zB,zC,Act.put,zD,zE,zF];refine rgn.u 3 (v:=?v31) ?h31 hS0 ?_
   case h31=>(intro w' hw';go_simp;try with_reducible rfl)
   simp only[zA,zB,zC,Act.put,zD,zE,zF];refine rgn.oneV (i:=4) (v:=?v32) _ rfl (by kernel_rfl) (by rfl) ?hy32 hS0 ?_
   case hy32=>(skip;go_simp;try with_reducible rfl)
   simp only[zA,zB,zC,Act.put,zD,zE,zF];refine rgn.u 5 (v:=?v33) ?h33 hS0 ?_
   case h33=>(intro w' hw';go_simp;try with_reducible rfl)
   simp only[zA,zB,zC,Act.put,zD,zE,zF];refine rgn.u 6 (v:=?v34) ?h34 hS0 ?_
   case h34=>(intro w' hw';go_simp;try with_reducible rfl)
   simp only[zA,zB,zC,Act.put,zD,zE,zF];refine rgn.u 7 (v:=?v35) ?h35 hS0 ?_
   case h35=>(intro w' hw';go_simp;try with_reducible rfl)
   simp only[zA,zB,zC,Act.put,zD,zE,zF];refine rgn.u 8 (v:=?v36) ?h36 hS0 ?_
   case h36=>(intro w' hw';go_simp;try with_reducible rfl)
   simp only[zA,zB,zC,Act.put,zD,zE,zF];refine rgn.u 9 (v:=?v37) ?h37 hS0 ?_
   case h37=>(intro w' hw';go_simp;try with_reducible rfl)
   simp only[zA,zB,zC,Act.put,zD,zE,zF];refine rgn.u 10 (v:=?v38) ?h38 hS0 ?_
   case h38=>(intro w' hw';have q0:=hw'.1;go_simp;try with_reducible rfl)
   simp only[zA,zB,zC,Act.put,zD,zE,zF];refine rgn.u 11 (v:=?v39) ?h39 hS0 ?_
   case h39=>(intro w' hw';go_simp;try with_reducible rfl)
   simp only[zA,zB,zC,Act.put,zD,zE,zF];refine rgn.u 12 (v:=?v40) ?h40 hS0 ?_
   case h40=>(intro w' hw';go_simp;try with_reducible rfl)
   simp only[zA,zB,zC,Act.put,zD,zE,zF];refine rgn.u 13 (v:=?v41) ?h41 hS0 ?_
   case h41=>(intro w' hw';go_simp;try with_reducible rfl)
   simp only[zA,zB,zC,Act.put,zD,zE,zF];refine rgn.oneV (i:=14) (v:=?v42) _ rfl (by kernel_rfl) (by rfl) ?hy42 hS0 ?_
   case hy42=>(skip;go_simp;try with_reducible rfl)
   simp only[zA,zB,zC,Act.put,zD,zE,zF];refine rgn.u 15 (v:=?v43) ?h43 hS0 ?_
   case h43=>(intro w' hw';go_simp;try with_reducible rfl)
   simp only[zA,zB,zC,Act.put,zD,zE,zF];refine rgn.u 16 (v:=?v44) ?h44 hS0 ?_
   case h44=>(intro w' hw';go_simp;try with_reducible rfl)
   simp only[zA,zB,zC,Act.put,zD,zE,zF];refine rgn.u 17 (v:=?v45) ?h45 hS0 ?_
   case h45=>(intro w' hw';have q0:=hw'.2;go_simp;try with_reducible rfl)
   simp only[zA,zB,zC,Act.put,zD,zE,zF];refine rgn.u 18 (v:=?v46) ?h46 hS0 ?_
   case h46=>(intro w' hw';go_simp;try with_reducible rfl)
   simp only[zA,zB,zC,Act.put,zD,zE,zF];refine rgn.u 19 (v:=?v47) ?h47 hS0 ?_
   case h47=>(intro w' hw';go_simp;try with_reducible rfl)
   simp only[zA,zB,zC,Act.put,zD,zE,zF];refine rgn.u 20 (v:=?v48) ?h48 hS0 ?_
   case h48=>(intro w' hw';go_simp;try with_reducible rfl)
   simp only[zA,zB,zC,Act.put,zD,zE,zF];refine rgn.tk (i:=21) (v:=undef) rfl (by kernel_rfl) (fun _ _ _ h=>h) (Or.inr ⟨by rfl,rfl⟩) hS0 ?_
   simp only[zA,zB,zC,Act.put,zD,zE,zF];refine rgn.tk (i:=22) (v:=undef) rfl (by kernel_rfl) (fun _ _ _ h=>h) (Or.inr ⟨by rfl,rfl⟩) hS0 ?_
   simp only[zA,zB,zC,Act.put,zD,zE,zF];refine rgn.u 23 (v:=?v49) ?h49 hS0 ?_
   case h49=>(intro w' hw';go_simp;try with_reducible rfl)
   simp only[zA,zB,zC,Act.put,zD,zE,zF];refine rgn.one (i:=24) _ rfl (by kernel_rfl) (by rfl) ?_
   simp only[zA,zB,zC,Act.put,zD,zE,zF];refine rgn.zat _ _ _ _ rfl func85 (by kernel_rfl) (by kernel_rfl) #[.pointer (some ⟨B,0,none⟩),.bool false] (by first | kernel_rfl | (simp only[List.map_toArray,List.map_cons,List.map_nil];rfl)) ?_
   refine ((uh hn) _ ((uh HH).below bD)).mono ?_
   rintro e wN ⟨rfl,hcN,hkN,hz0⟩;have hk3:=hkD.trans hkN;have hbk:=hZ wN hk3;have hth:wN.there w.heap.size 0 3:=dt.zac hbk (by decide)
   have HK:=(Kp.of bA0).trans hk3;have hSN:wN.cell? ⟨B,0,none⟩=some (.slice (some ⟨p,0,none⟩) n cap)∧wN.cell? ⟨p,ix * 7,none⟩=some (.int .i64 t.k):=⟨hz0.trans hS0.1,(hkN.cell (Nat.lt_of_lt_of_le hplt (Nat.le_trans bA0.size bd.size)) hpB).trans hS0.2⟩;refine⟨_,rfl,hSN,?_⟩
   clear hS0 G1 G4;have hS0:=hSN;simp only[zA,zB,zC,Act.put,zD,zE,zF];refine rgn.u 25 (v:=?v50) ?h50 hS0 ?_
   case h50=>(intro w' hw';go_simp;try with_reducible rfl)
   simp only[zA,zB,zC,Act.put,zD,zE,zF];refine rgn.u 26 (v:=?v51) ?h51 hS0 ?_
   case h51=>(intro w' hw';go_simp;try with_reducible rfl)
   simp only[zA,zB,zC,Act.put,zD,zE,zF];refine rgn.one (i:=27) _ rfl (by kernel_rfl) (by rfl) ?_
   simp only[zA,zB,zC,Act.put,zD,zE,zF];refine wp_store_mid 84 _ _ (by rfl) w.heap.size 0 ([Value.string em,.int .i64 0,.int .i64 0]).toArray (by rfl) (by rfl) hth infoNm (dt.zab (cs:=[Value.string em,.int .i64 0,.int .i64 0]) (by rfl)) ?_
   have hS3:(wN.setCells w.heap.size 0 [Value.string em,.int .i64 0,.int .i64 0]).cell? ⟨B,0,none⟩=some (.slice (some ⟨p,0,none⟩) n cap)∧(wN.setCells w.heap.size 0 [Value.string em,.int .i64 0,.int .i64 0]).cell? ⟨p,ix * 7,none⟩=some (.int .i64 t.k):=⟨(dt.zaf (dt.zae w.heap.size B hne _ 0 _) _).trans hS0.1,(dt.zaf (dt.zae w.heap.size p hnp _ 0 _) _).trans hS0.2⟩;refine⟨hS3,?_⟩
   clear hS0;have hS0:=hS3
   try simp only[zA,zB,zC,Act.put,zD,zE,zF]
   refine rgn.u 28 (v:=?v52) ?h52 hS0 ?_
   case h52=>(intro w' hw';go_simp;try with_reducible rfl)
   simp only[zA,zB,zC,Act.put,zD,zE,zF];refine wpAnyH_done (by kernel_rfl) ?_ _;refine NoPanic.normal ?_
   go_wp2_with fail
   refine bodyPost_ret (rgn.zaa rfl _ _ w.heap.size 0 [Value.string em,.int .i64 0,.int .i64 0] _ rfl (World.rangeAt_setCells_same _ _ _ _ hth) underlying84 rfl infoNm) rfl ?_
   exact⟨rfl,hcN.out hne hnp 0 [Value.string em,.int .i64 0,.int .i64 0],HK.out (lr _) 0 [Value.string em,.int .i64 0,.int .i64 0]⟩
 ·obtain rfl:=(uh hR0) h0
  have HV:=Hi (show V=[Value.string em,.int .i64 0,.int .i64 0] from (uh hVT).2 rfl)
  have b0:(kd==0)=false:=by simpa using h0
  clear h0 hR0 hR1 hR2 hVT;obtain rfl:=uh HV;unfold ptr at hn ⊢;have hW:=Hi (zcw B);unfold ptr at hW
  go_enter func46,ntmps46
  go_wp2_with fail
  have bA0:Below w.heap.size w (w.alloc (.cells #[Value.string { data:=#[] },.int .i64 0,.int .i64 0] 84)):=ba;have hZ:=(fun W (hk:Kp B (w.alloc (.cells #[Value.string { data:=#[] },.int .i64 0,.int .i64 0] 84)) W)=>show W.heap[w.heap.size]? = some (.cells #[Value.string { data:=#[] },.int .i64 0,.int .i64 0] 84 (0,0)) from (hk.block w.heap.size (by simp) (by omega)).trans (heap_alloc_new w _))
  obtain⟨wA,hwA⟩:∃ wA,wA=w.alloc (.cells #[Value.string { data:=#[] },.int .i64 0,.int .i64 0] 84):=⟨_,rfl⟩;rw[←hwA] at bA0 hZ ⊢;clear hwA;refine ((uh hW) wA).mono ?_
  rintro e w1 ⟨rfl,rfl⟩;have D0:=(bA0.cell (p:=⟨B,0,none⟩) hlt).trans d0;have D1:=(bA0.cell (p:=⟨B,1,none⟩) hlt).trans d1;have D4:=(bA0.cell (p:=⟨B,4,none⟩) hlt).trans d4;have E0:=(bA0.cell (p:=⟨p,ix * 7,none⟩) hplt).trans e0;clear d0 d1 d4 e0 hW;clear hV3 hV1 hP
  go_wp2_with fail
  have bd:Below w1.heap.size w1 { w1 with drawn:=w1.drawn+1 }:=(Below.refl _ _).drew
  have bD:Below w.heap.size w { w1 with drawn:=w1.drawn+1 }:=bA0.trans (bd.mono bA0.size)
  have hkD:Kp B w1 { w1 with drawn:=w1.drawn+1 }:=Kp.of bd
  have hS0:({ w1 with drawn:=w1.drawn+1 }:World).cell? ⟨B,0,none⟩=some (.slice (some ⟨p,0,none⟩) n cap)∧({ w1 with drawn:=w1.drawn+1 }:World).cell? ⟨p,ix * 7,none⟩=some (.int .i64 t.k):=⟨(bd.cell (p:=⟨B,0,none⟩) (Nat.lt_of_lt_of_le hlt bA0.size)).trans D0,(bd.cell (p:=⟨p,ix * 7,none⟩) (Nat.lt_of_lt_of_le hplt bA0.size)).trans E0⟩
  have G1:=(bd.cell (p:=⟨B,1,none⟩) (Nat.lt_of_lt_of_le hlt bA0.size)).trans D1;have G4:=(bd.cell (p:=⟨B,4,none⟩) (Nat.lt_of_lt_of_le hlt bA0.size)).trans D4;refine wp_region_noPanic ?_
  refine wp_region_held (S:=fun w'=>w'.cell? ⟨B,0,none⟩=some (.slice (some ⟨p,0,none⟩) n cap)∧w'.cell? ⟨p,ix * 7,none⟩=some (.int .i64 t.k)) mixed ?_
  refine rgn.u 0 (v:=?v53) ?h53 hS0 ?_
  case h53=>(intro w' hw';go_simp;try with_reducible rfl)
  simp only[zA,zB,zC,Act.put,zD,zE,zF];refine rgn.u 1 (v:=?v54) ?h54 hS0 ?_
  case h54=>(intro w' hw';go_simp;try with_reducible rfl)
  simp only[zA,zB,zC,Act.put,zD,zE,zF];refine rgn.u 2 (v:=?v55) ?h55 hS0 ?_
  case h55=>(intro w' hw';go_simp;try with_reducible rfl)
  simp only[zA,zB,zC,Act.put,zD,zE,zF];refine rgn.u 3 (v:=?v56) ?h56 hS0 ?_
  case h56=>(intro w' hw';go_simp;try with_reducible rfl)
  simp only[zA,zB,zC,Act.put,zD,zE,zF];refine rgn.oneV (i:=4) (v:=?v57) _ rfl (by kernel_rfl) (by rfl) ?hy57 hS0 ?_
  case hy57=>(skip;go_simp;try with_reducible rfl)
  simp only[zA,zB,zC,Act.put,zD,zE,zF];refine rgn.u 5 (v:=?v58) ?h58 hS0 ?_
  case h58=>(intro w' hw';go_simp;try with_reducible rfl)
  simp only[zA,zB,zC,Act.put,zD,zE,zF];refine rgn.u 6 (v:=?v59) ?h59 hS0 ?_
  case h59=>(intro w' hw';go_simp;try with_reducible rfl)
  simp only[zA,zB,zC,Act.put,zD,zE,zF];refine rgn.tk (i:=7) (v:=undef) rfl (by kernel_rfl) (fun _ _ _ h=>h) (Or.inr ⟨by rfl,rfl⟩) hS0 ?_
  simp only[zA,zB,zC,Act.put,zD,zE,zF];refine rgn.tk (i:=8) (v:=undef) rfl (by kernel_rfl) (fun _ _ _ h=>h) (Or.inr ⟨by rfl,rfl⟩) hS0 ?_
  simp only[zA,zB,zC,Act.put,zD,zE,zF];refine rgn.tk (i:=9) (v:=undef) rfl (by kernel_rfl) (fun _ _ _ h=>h) (Or.inr ⟨by rfl,rfl⟩) hS0 ?_
  simp only[zA,zB,zC,Act.put,zD,zE,zF];refine rgn.tk (i:=10) (v:=undef) rfl (by kernel_rfl) (fun _ _ _ h=>h) (Or.inr ⟨by rfl,rfl⟩) hS0 ?_
  simp only[zA,zB,zC,Act.put,zD,zE,zF];refine rgn.tk (i:=11) (v:=undef) rfl (by kernel_rfl) (fun _ _ _ h=>h) (Or.inr ⟨by rfl,rfl⟩) hS0 ?_
  simp only[zA,zB,zC,Act.put,zD,zE,zF];refine rgn.tk (i:=12) (v:=undef) rfl (by kernel_rfl) (fun _ _ _ h=>h) (Or.inr ⟨by rfl,rfl⟩) hS0 ?_
  simp only[zA,zB,zC,Act.put,zD,zE,zF];refine rgn.tk (i:=13) (v:=undef) rfl (by kernel_rfl) (fun _ _ _ h=>h) (Or.inr ⟨by rfl,rfl⟩) hS0 ?_
  simp only[zA,zB,zC,Act.put,zD,zE,zF];refine rgn.tk (i:=14) (v:=undef) rfl (by kernel_rfl) (fun _ _ _ h=>h) (Or.inr ⟨by rfl,rfl⟩) hS0 ?_
  simp only[zA,zB,zC,Act.put,zD,zE,zF];refine rgn.tk (i:=15) (v:=undef) rfl (by kernel_rfl) (fun _ _ _ h=>h) (Or.inr ⟨by rfl,rfl⟩) hS0 ?_
  simp only[zA,zB,zC,Act.put,zD,zE,zF];refine rgn.tk (i:=16) (v:=undef) rfl (by kernel_rfl) (fun _ _ _ h=>h) (Or.inr ⟨by rfl,rfl⟩) hS0 ?_
  simp only[zA,zB,zC,Act.put,zD,zE,zF];refine rgn.tk (i:=17) (v:=undef) rfl (by kernel_rfl) (fun _ _ _ h=>h) (Or.inr ⟨by rfl,rfl⟩) hS0 ?_
  simp only[zA,zB,zC,Act.put,zD,zE,zF];refine rgn.tk (i:=18) (v:=undef) rfl (by kernel_rfl) (fun _ _ _ h=>h) (Or.inr ⟨by rfl,rfl⟩) hS0 ?_
  simp only[zA,zB,zC,Act.put,zD,zE,zF];refine rgn.u 19 (v:=?v60) ?h60 hS0 ?_
  case h60=>(intro w' hw';go_simp;try with_reducible rfl)
  simp only[zA,zB,zC,Act.put,zD,zE,zF];refine rgn.u 20 (v:=?v61) ?h61 hS0 ?_
  case h61=>(intro w' hw';go_simp;try with_reducible rfl)
  simp only[zA,zB,zC,Act.put,zD,zE,zF];refine rgn.tk (i:=21) (v:=undef) rfl (by kernel_rfl) (fun _ _ _ h=>h) (Or.inr ⟨by rfl,rfl⟩) hS0 ?_
  simp only[zA,zB,zC,Act.put,zD,zE,zF];refine rgn.tk (i:=22) (v:=undef) rfl (by kernel_rfl) (fun _ _ _ h=>h) (Or.inr ⟨by rfl,rfl⟩) hS0 ?_
  simp only[zA,zB,zC,Act.put,zD,zE,zF];refine rgn.u 23 (v:=?v62) ?h62 hS0 ?_
  case h62=>(intro w' hw';go_simp;try with_reducible rfl)
  simp only[zA,zB,zC,Act.put,zD,zE,zF];refine rgn.one (i:=24) _ rfl (by kernel_rfl) (by rfl) ?_
  simp only[zA,zB,zC,Act.put,zD,zE,zF];refine rgn.zat _ _ _ _ rfl func85 (by kernel_rfl) (by kernel_rfl) #[.pointer (some ⟨B,0,none⟩),.bool false] (by first | kernel_rfl | (simp only[List.map_toArray,List.map_cons,List.map_nil];rfl)) ?_
  refine ((uh hn) _ ((uh HH).below bD)).mono ?_
  rintro e wN ⟨rfl,hcN,hkN,hz0⟩;have hk3:=hkD.trans hkN;have hbk:=hZ wN hk3;have hth:wN.there w.heap.size 0 3:=dt.zac hbk (by decide)
  have HK:=(Kp.of bA0).trans hk3;have hSN:wN.cell? ⟨B,0,none⟩=some (.slice (some ⟨p,0,none⟩) n cap)∧wN.cell? ⟨p,ix * 7,none⟩=some (.int .i64 t.k):=⟨hz0.trans hS0.1,(hkN.cell (Nat.lt_of_lt_of_le hplt (Nat.le_trans bA0.size bd.size)) hpB).trans hS0.2⟩;refine⟨_,rfl,hSN,?_⟩
  clear hS0 G1 G4;have hS0:=hSN;simp only[zA,zB,zC,Act.put,zD,zE,zF];refine rgn.u 25 (v:=?v63) ?h63 hS0 ?_
  case h63=>(intro w' hw';go_simp;try with_reducible rfl)
  simp only[zA,zB,zC,Act.put,zD,zE,zF];refine rgn.u 26 (v:=?v64) ?h64 hS0 ?_
  case h64=>(intro w' hw';go_simp;try with_reducible rfl)
  simp only[zA,zB,zC,Act.put,zD,zE,zF];refine rgn.one (i:=27) _ rfl (by kernel_rfl) (by rfl) ?_
  simp only[zA,zB,zC,Act.put,zD,zE,zF];refine wp_store_mid 84 _ _ (by rfl) w.heap.size 0 ([Value.string em,.int .i64 0,.int .i64 0]).toArray (by rfl) (by rfl) hth infoNm (dt.zab (cs:=[Value.string em,.int .i64 0,.int .i64 0]) (by rfl)) ?_
  have hS3:(wN.setCells w.heap.size 0 [Value.string em,.int .i64 0,.int .i64 0]).cell? ⟨B,0,none⟩=some (.slice (some ⟨p,0,none⟩) n cap)∧(wN.setCells w.heap.size 0 [Value.string em,.int .i64 0,.int .i64 0]).cell? ⟨p,ix * 7,none⟩=some (.int .i64 t.k):=⟨(dt.zaf (dt.zae w.heap.size B hne _ 0 _) _).trans hS0.1,(dt.zaf (dt.zae w.heap.size p hnp _ 0 _) _).trans hS0.2⟩;refine⟨hS3,?_⟩
  clear hS0;have hS0:=hS3
  try simp only[zA,zB,zC,Act.put,zD,zE,zF]
  refine rgn.u 28 (v:=?v65) ?h65 hS0 ?_
  case h65=>(intro w' hw';go_simp;try with_reducible rfl)
  simp only[zA,zB,zC,Act.put,zD,zE,zF];refine wpAnyH_done (by kernel_rfl) ?_ _;refine NoPanic.normal ?_
  go_wp2_with fail
  refine bodyPost_ret (rgn.zaa rfl _ _ w.heap.size 0 [Value.string em,.int .i64 0,.int .i64 0] _ rfl (World.rangeAt_setCells_same _ _ _ _ hth) underlying84 rfl infoNm) rfl ?_
  exact⟨rfl,hcN.out hne hnp 0 [Value.string em,.int .i64 0,.int .i64 0],HK.out (lr _) 0 [Value.string em,.int .i64 0,.int .i64 0]⟩
theorem zbb(B p:Nat)(c:Cu)(q:ByteArray)(w:World)(h:RurAt w B p c):Calls prog 48 #[ptr B,.string q] w fun e w'=>e = .returned (.bool (c.opB q))∧RurAt w' B p (c.opn q)∧Kp B w w':=by
 have hi:=Hi (zam B p c q w h);have hop:=h.ok.op;have hmo:=h.ok.mo;have hlen:=h.len;have HH:=Hi h
 cases hP:c.isP q with
 | false =>
  have hs:=Hi (show c.opB q=false∧c.opn q=c.stop 70 from ⟨by simp[Cu.opB,hP],by simp[Cu.opn,hP]⟩)
  have hS:=Hi (fun W (bb:Below w.heap.size w W)=>zbQ B p c 70 W (h.below bb))
  rw[hP] at hi;rw[(uh hs).1];clear h hP;unfold ptr at hi hS ⊢
  go_enter func48,ntmps48
  go_wp2_with fail
  refine (uh hi).mono ?_
  rintro e w1 ⟨rfl,b1⟩
  go_wp2_with fail
  refine ((uh hS) w1 b1).mono ?_
  rintro e w2 ⟨rfl,hc,hk⟩
  go_wp2_with fail
  go_ret
  exact⟨rfl,by rw[(uh hs).2];exact hc,(Kp.of b1).trans hk⟩
 | true =>
  rw[hP] at hi
  by_cases hd:c.op<c.mo
  ·have hs:=Hi (show c.opB q=true∧c.opn q=⟨c.ts,c.ix+1,c.op+1,c.mo,c.kd⟩ from ⟨by simp[Cu.opB,hP,hd],by simp[Cu.opn,hP,hd]⟩)
   have hm:=zaF h.ok hP;have hO:=Hi (fun W (hc:RurAt W B p c.take)=>hc.opn (c.op+1) ⟨hm,h.ok.more,by show c.op+1≤c.mo;omega,h.ok.mo⟩)
   rw[(uh hs).1];have hge:((c.op:Int)==(c.mo:Int))=false:=by simp;omega
   have hge2:¬(c.op:Int)=(c.mo:Int):=by omega
   clear h hP;unfold ptr at hi ⊢
   go_enter func48,ntmps48
   go_wp2_with fail
   refine (uh hi).mono ?_
   rintro e w1 ⟨rfl,b1⟩;have h1:=(uh HH).below b1;obtain⟨d2,d3,f2,-⟩:=h1.c2;obtain⟨cap,-,d1,f1,-⟩:=h1.c01;have hC1:=Hi (h1.tak hm);have hC2:=Hi ((uh hO) _ (h1.tak hm));have hop1:(((c.op+1:Nat):Int))=(c.op:Int)+1:=by omega
   rw[hop1] at hC2;have hi1:(c.ix:Int)+1<9223372036854775807:=by omega
   have hi2:(c.op:Int)+1<9223372036854775807:=by omega
   obtain⟨O,hOe⟩:∃ O,O=c.op:=⟨_,rfl⟩;obtain⟨M,hMe⟩:∃ O,O=c.mo:=⟨_,rfl⟩;obtain⟨I,hIe⟩:∃ O,O=c.ix:=⟨_,rfl⟩;have HE:=Hi (an hOe (an hMe hIe));rw[←hOe] at d2 hge hge2 hi2 hC2;rw[←hMe] at d3 hge hge2;rw[←hIe] at d1 hi1 hC1 hC2
   have d2':(w1.setCell ⟨B,1,none⟩ (.int .i64 ((I:Int)+1))).cell? ⟨B,2,none⟩=some (.int .i64 (O:Int)):=by
    have:=(uh hC1).c2.1;rw[show (c.take).op=O from hOe.symm] at this
    exact this
   have f2':(w1.setCell ⟨B,1,none⟩ (.int .i64 ((I:Int)+1))).frozen? ⟨B,2,none⟩=false:=(uh hC1).c2.2.2.1;clear hi hop1 h1 hOe hMe hIe hm hlen hop hmo hd
   go_wp2_with fail
   go_region
   go_wp2_with fail
   go_ret
   rw[(uh hs).2];refine⟨rfl,?_,?_⟩
   ·have:=(uh hC2)
    rw[(uh HE).1] at *;exact this.below (Go.below_drewN (Below.refl _ _) 1)
   ·exact (Kp.of b1).trans ((((Kp.refl _ _).set 1 _).set 2 _).trans (Kp.of (Go.below_drewN (Below.refl _ _) 1)))
  ·have hs:=Hi (show c.opB q=false∧c.opn q=c.stop 71 from ⟨by simp[Cu.opB,hP,hd],by simp[Cu.opn,hP,hd]⟩)
   have ht:=Hi (fun W (hc:RurAt W B p c)=>zbQ B p c 71 W hc)
   rw[(uh hs).1];have hge:((c.op:Int)==(c.mo:Int))=true:=by simp;omega
   have hge2:(c.op:Int)=(c.mo:Int):=by omega
   clear h hP;unfold ptr at hi ht ⊢
   go_enter func48,ntmps48
   go_wp2_with fail
   refine (uh hi).mono ?_
   rintro e w1 ⟨rfl,b1⟩;have h1:=(uh HH).below b1;obtain⟨d2,d3,f2,-⟩:=h1.c2;have HC:=Hi h1;rw[hge2] at d2;clear hi h1 hge hge2 hop hmo hlen hd
   go_wp2_with fail
   go_region
   go_wp2_with fail
   refine ((uh ht) _ ((uh HC).below (Go.below_drewN (Below.refl _ _) 1))).mono ?_
   rintro e w3 ⟨rfl,hc3,hk3⟩
   go_wp2_with fail
   go_ret
   exact⟨rfl,by rw[(uh hs).2];exact hc3,((Kp.of b1).trans (Kp.of (Go.below_drewN (Below.refl _ _) 1))).trans hk3⟩
theorem zaL(B p:Nat)(c:Cu)(q:ByteArray)(w:World)(h:RurAt w B p c):Calls prog 50 #[ptr B,.string q] w fun e w'=>e = .returned (.bool (c.isP q))∧RurAt w' B p (c.cls q)∧Kp B w w':=by
 have hi:=Hi (zbB B p c q w h);have hop:=h.ok.op;have hmo:=h.ok.mo
 cases hP:c.isP q with
 | false =>
  have hs:=Hi (show c.cls q=c.want q from by simp[Cu.cls,Cu.want,hP])
  rw[hP] at hi;clear h hP;unfold ptr at hi ⊢
  go_enter func50,ntmps50
  go_wp2_with fail
  refine (uh hi).mono ?_
  rintro e w1 ⟨rfl,hc,hk⟩;clear hi
  go_wp2_with fail
  go_ret
  exact⟨rfl,by rw[uh hs];exact hc,hk⟩
 | true =>
  have hm:=zaF h.ok hP;have hs:=Hi (show c.cls q=⟨c.ts,c.ix+1,c.op-1,c.mo,c.kd⟩∧c.want q=⟨c.ts,c.ix+1,c.op,c.mo,c.kd⟩ from ⟨by simp[Cu.cls,hP],by simp[Cu.want,hP,Cu.take]⟩)
  have hO:=Hi (fun W (hc:RurAt W B p ⟨c.ts,c.ix+1,c.op,c.mo,c.kd⟩)=>hc.opn (c.op-1) ⟨hm,h.ok.more,by show c.op-1≤c.mo;omega,h.ok.mo⟩)
  rw[hP,(uh hs).2] at hi;rw[(uh hs).1]
  by_cases h0:c.op=0
  ·clear h hP hm
   unfold ptr at hi ⊢
   go_enter func50,ntmps50
   go_wp2_with fail
   refine (uh hi).mono ?_
   rintro e w1 ⟨rfl,hc,hk⟩;have d2:w1.cell? ⟨B,2,none⟩=some (.int .i64 0):=by have:=hc.c2.1;rw[show (⟨c.ts,c.ix+1,c.op,c.mo,c.kd⟩:Cu).op=0 from h0] at this;exact this
   have HC:=Hi hc;have H0:=Hi h0;clear hi hc h0 hop hmo hO
   go_wp2_with fail
   go_ret
   have hc2:=uh HC;rw[uh H0] at hc2 ⊢;exact⟨rfl,hc2,hk⟩
  ·have hgt:(0:Int)<(c.op:Int):=by omega
   obtain⟨O,hO'⟩:∃ O,O=c.op:=⟨_,rfl⟩;rw[←hO'] at hi hO hgt hop;clear h hP hm h0;unfold ptr at hi ⊢
   go_enter func50,ntmps50
   go_wp2_with fail
   refine (uh hi).mono ?_
   rintro e w1 ⟨rfl,hc,hk⟩;obtain⟨d2,-,f2,-⟩:=hc.c2;have d2':w1.cell? ⟨B,2,none⟩=some (.int .i64 (O:Int)):=d2;have HC:=Hi hc;have HK:=Hi hk;have HO:=Hi hO';clear hi hc hk d2 hO'
   go_wp2_with fail
   go_ret
   have e:((O:Int)-1)=((O-1:Nat):Int):=by omega
   rw[e,←uh HO];exact⟨rfl,(uh hO) _ (uh HC),(uh HK).set 2 _⟩
theorem zeu(B p:Nat)(c:Cu)(w:World)(h:RurAt w B p c):Calls prog 21 #[ptr B] w fun e w'=>e = .returned (.bool c.finB)∧RurAt w' B p c.fin∧Kp B w w':=by
 have hS:=Hi (fun W (hc:RurAt W B p c)=>zbQ B p c 70 W hc)
 have hs:=Hi (show c.fin=if c.finB then c else c.stop 70 from rfl)
 have hP:=Hi (show c.finB=decide (c.kd=0∧c.tok.k=0) from rfl)
 have hix:=h.ok.lt;have hlen:=h.len;have hr:=h.tk;have HH:=Hi h;obtain⟨cap,d0,d1,-,-⟩:=h.c01;obtain⟨-,-,-,d4⟩:=h.c2;obtain⟨C,hC⟩:∃ C,C=c.fin:=⟨_,rfl⟩;rw[←hC] at hs ⊢;obtain⟨R,hR⟩:∃ R,R=c.finB:=⟨_,rfl⟩;rw[←hR] at hP hs ⊢;obtain⟨ix,hk⟩:∃ ix,ix=c.ix:=⟨_,rfl⟩;obtain⟨n,hk2⟩:∃ n,n=c.ts.length:=⟨_,rfl⟩;obtain⟨t,hk3⟩:∃ t,t=c.tok:=⟨_,rfl⟩
 obtain⟨kd,hk4⟩:∃ kd,kd=c.kd:=⟨_,rfl⟩;rw[←hk,←hk2] at hix;rw[←hk2] at d0 hlen;rw[←hk] at d1 hr;rw[←hk3] at hr hP;rw[←hk4] at hP d4;have e0:w.cell? ⟨p,ix * 7,none⟩=some (.int .i64 t.k):=hr 0 _ rfl;clear h hC hR hk hk2 hk3 hk4 hr;have ii:(ix:Int)<(n:Int):=by omega
 unfold ptr at hS ⊢
 by_cases h0:kd=0
 ·subst h0
  by_cases h1:t.k=0
  ·have b1:(t.k==0)=true:=by simpa using h1
   obtain rfl:R=true:=by rw[uh hP];simp[h1]
   rw[h1] at e0;clear h1 hP b1
   go_enter func21,ntmps21
   go_wp2_with fail
   go_region
   go_wp2_with fail
   go_ret
   exact⟨rfl,by rw[uh hs];exact (uh HH).below (Go.below_drewN (Below.refl _ _) 1),Kp.of (Go.below_drewN (Below.refl _ _) 1)⟩
  ·have b1:(t.k==0)=false:=by simpa using h1
   obtain rfl:R=false:=by rw[uh hP];simp[h1]
   clear h1 hP
   go_enter func21,ntmps21
   go_wp2_with fail
   go_region
   go_wp2_with fail
   refine ((uh hS) _ ((uh HH).below (Go.below_drewN (Below.refl _ _) 1))).mono ?_
   rintro e w3 ⟨rfl,hc3,hk3⟩
   go_wp2_with fail
   go_ret
   exact⟨rfl,by rw[uh hs];exact hc3,(Kp.of (Go.below_drewN (Below.refl _ _) 1)).trans hk3⟩
 ·have b0:(kd==0)=false:=by simpa using h0
  obtain rfl:R=false:=by rw[uh hP];simp[h0]
  clear h0 hP
  go_enter func21,ntmps21
  go_wp2_with fail
  go_region
  go_wp2_with fail
  refine ((uh hS) _ ((uh HH).below (Go.below_drewN (Below.refl _ _) 1))).mono ?_
  rintro e w3 ⟨rfl,hc3,hk3⟩
  go_wp2_with fail
  go_ret
  exact⟨rfl,by rw[uh hs];exact hc3,(Kp.of (Go.below_drewN (Below.refl _ _) 1)).trans hk3⟩
open dt (Dt Kp RowAt Ow)
def oneK(ct:Bool)(c:Cu):Int × ByteArray × Bool × Int × Int:=
 if c.kd≠0 then (0,em,false,0,0)
 else if c.tok.k=4 then (2,c.tok.tx,false,c.tok.ln,c.tok.co)
 else if c.tok.k=5 then (3,c.tok.tx,false,c.tok.ln,c.tok.co)
 else if c.tok.k=6∨c.tok.k=7 then (4,c.tok.va,decide (c.tok.k=7),c.tok.ln,c.tok.co)
 else if c.tok.k=3 then (if c.tok.tx=bTrue∨c.tok.tx=bFalse then (5,c.tok.tx,false,c.tok.ln,c.tok.co) else if c.tok.tx=bNull then (6,em,false,c.tok.ln,c.tok.co) else (7,c.tok.tx,false,c.tok.ln,c.tok.co))
 else if c.isP bDol∧ct=false then (1,(if c.take.isN then c.take.tok.tx else em),false,c.tok.ln,c.tok.co)
 else if c.isP bLb then (8,em,false,c.tok.ln,c.tok.co)
 else if c.isP bLc then (9,em,false,c.tok.ln,c.tok.co)
 else (0,em,false,0,0)
def oneC(ct:Bool)(c:Cu):Cu:=
 if c.kd≠0 then c
 else if c.tok.k=4∨c.tok.k=5∨c.tok.k=6∨c.tok.k=7∨c.tok.k=3 then c.take
 else if c.isP bDol∧ct=false then c.take.name
 else if c.isP bLb then c.opn bLb
 else if c.isP bLc then c.opn bLc
 else c.stop 70
def oneV(ct:Bool)(c:Cu):List Value:=leafC (oneK ct c).1 (oneK ct c).2.1 (oneK ct c).2.2.1 (oneK ct c).2.2.2.1 (oneK ct c).2.2.2.2
def zero7:Array Value:=#[.int .i64 0,.string ⟨#[]⟩,.bool false,.slice none 0 0,.slice none 0 0,.int .i64 0,.int .i64 0]
theorem zbd{w:World}{B p:Nat}{c:Cu}(h:RurAt w B p c)(hm:c.ix+1<c.ts.length)(cs:List Value)(hl:cs.length=7)(o' o'':Obj) :
  (((((w.alloc (.cells zero7 33)).alloc o').alloc o'').setCell ⟨B,1,none⟩ (.int .i64 ((c.ix:Int)+1))).setCells w.heap.size 0 cs).drew.rangeAt w.heap.size 0 cs ∧
  RurAt (((((w.alloc (.cells zero7 33)).alloc o').alloc o'').setCell ⟨B,1,none⟩ (.int .i64 ((c.ix:Int)+1))).setCells w.heap.size 0 cs).drew B p c.take ∧
  Kp B w (((((w.alloc (.cells zero7 33)).alloc o').alloc o'').setCell ⟨B,1,none⟩ (.int .i64 ((c.ix:Int)+1))).setCells w.heap.size 0 cs).drew:=by
 have hlt:=h.lt;have hplt:=h.plt;have b1:Below w.heap.size w (((w.alloc (.cells zero7 33)).alloc o').alloc o''):=((ba).alloc (by simp) _).alloc (by simp;omega) _
 have h0:(((w.alloc (.cells zero7 33)).alloc o').alloc o'').heap[w.heap.size]? = some (.cells zero7 33 (0,0)):=by
  have e1:=heap_alloc_new w (.cells zero7 33);have e2:=Below.heap_alloc (w.alloc (.cells zero7 33)) o' w.heap.size (by simp)
  have e3:=Below.heap_alloc ((w.alloc (.cells zero7 33)).alloc o') o'' w.heap.size (by simp;omega)
  exact e3.trans (e2.trans e1)
 have hs:w.heap.size<(((w.alloc (.cells zero7 33)).alloc o').alloc o'').heap.size:=by simp;omega
 generalize ((w.alloc (.cells zero7 33)).alloc o').alloc o''=Y at *
 have hT:=(h.below b1).tak hm;have hK:=(Kp.of (B:=B) b1).set 1 (.int .i64 ((c.ix:Int)+1));have hb:=(((Kp.refl B Y).set 1 (.int .i64 ((c.ix:Int)+1))).block w.heap.size hs (by omega)).trans h0
 generalize Y.setCell ⟨B,1,none⟩ (.int .i64 ((c.ix:Int)+1))=Z at *
 have hth:Z.there w.heap.size 0 cs.length:=by rw[hl];exact dt.zac hb (by decide)
 have bd:Below (Z.setCells w.heap.size 0 cs).heap.size (Z.setCells w.heap.size 0 cs) (Z.setCells w.heap.size 0 cs).drew:=Go.below_drewN (Below.refl _ _) 1;exact⟨World.rangeAt_setCells_same _ _ _ _ hth,(hT.out (by omega) (by omega) 0 cs).below bd,(hK.out (lr _) 0 cs).trans (Kp.of bd)⟩
set_option maxRecDepth 20000 in
theorem zlw(B p:Nat)(c:Cu)(ct:Bool)(w:World)(h:RurAt w B p c)(hkd:c.kd=0)(hK:c.tok.k=4)  : Calls prog 70 #[ptr B,.bool ct] w fun e w'=>e = .returned (.agg (leafC 2 c.tok.tx false c.tok.ln c.tok.co).toArray)∧RurAt w' B p (c.take)∧Kp B w w':=by
 have hlt:=h.lt;have hplt:=h.plt;have hix:=h.ok.lt;have hlen:=h.len;have hr:=h.tk;have HH:=Hi h;obtain⟨cap,d0,d1,f1,-⟩:=h.c01;obtain⟨-,-,-,d4⟩:=h.c2;have hm:=zaJ h.ok (by rw[hK];decide) (by rw[hK];decide)
 have HF:=Hi (fun o o1=>zbd h hm (leafC 2 c.tok.tx false c.tok.ln c.tok.co) rfl o o1)
 unfold zero7 at HF;obtain⟨ix,hk⟩:∃ ix,ix=c.ix:=⟨_,rfl⟩;obtain⟨n,hk2⟩:∃ n,n=c.ts.length:=⟨_,rfl⟩;obtain⟨t,hk3⟩:∃ t,t=c.tok:=⟨_,rfl⟩;obtain⟨kd,hk4⟩:∃ kd,kd=c.kd:=⟨_,rfl⟩;rw[←hk,←hk2] at hix;rw[←hk2] at d0 hlen;rw[←hk] at d1 hr HF;rw[←hk3] at hr hK HF  ⊢;rw[←hk4] at d4 hkd;clear h hk hk2 hk3 hk4;have ii:(ix:Int)<(n:Int):=by omega
 have hn1:(ix:Int)+1<9223372036854775807:=by omega
 have bA:=qA w;have bA3:=qD w;have D0:=qc hlt d0;have D1:=qc hlt d1;have bB:=qB w;have bC:=qC w;have D4':=qd hlt d4;have D1':=qd hlt d1;have F1':=qf hlt f1;have E:=qg hr;obtain⟨e0,e1,e2,e3,e4,e5,e6⟩:=qe E;clear E hr d0 d1 d4 f1 bB bC;subst hkd;rw[hK] at e0;unfold ptr
 go_enter func70,ntmps70
 go_wp2_with fail
 go_region
 go_wp2_with fail
 refine bodyPost_ret (rgn.zai rfl _ _ w.heap.size 0 (leafC 2 t.tx false t.ln t.co) _ rfl ((uh HF) _ _).1 underlying33 rfl infoLt) rfl ?_
 exact⟨rfl,((uh HF) _ _).2.1,((uh HF) _ _).2.2⟩
set_option maxRecDepth 20000 in
theorem zlv(B p:Nat)(c:Cu)(ct:Bool)(w:World)(h:RurAt w B p c)(hkd:c.kd=0)(hK:c.tok.k=5)  : Calls prog 70 #[ptr B,.bool ct] w fun e w'=>e = .returned (.agg (leafC 3 c.tok.tx false c.tok.ln c.tok.co).toArray)∧RurAt w' B p (c.take)∧Kp B w w':=by
 have hlt:=h.lt;have hplt:=h.plt;have hix:=h.ok.lt;have hlen:=h.len;have hr:=h.tk;have HH:=Hi h;obtain⟨cap,d0,d1,f1,-⟩:=h.c01;obtain⟨-,-,-,d4⟩:=h.c2;have hm:=zaJ h.ok (by rw[hK];decide) (by rw[hK];decide)
 have HF:=Hi (fun o o1=>zbd h hm (leafC 3 c.tok.tx false c.tok.ln c.tok.co) rfl o o1)
 unfold zero7 at HF;obtain⟨ix,hk⟩:∃ ix,ix=c.ix:=⟨_,rfl⟩;obtain⟨n,hk2⟩:∃ n,n=c.ts.length:=⟨_,rfl⟩;obtain⟨t,hk3⟩:∃ t,t=c.tok:=⟨_,rfl⟩;obtain⟨kd,hk4⟩:∃ kd,kd=c.kd:=⟨_,rfl⟩;rw[←hk,←hk2] at hix;rw[←hk2] at d0 hlen;rw[←hk] at d1 hr HF;rw[←hk3] at hr hK HF  ⊢;rw[←hk4] at d4 hkd;clear h hk hk2 hk3 hk4;have ii:(ix:Int)<(n:Int):=by omega
 have hn1:(ix:Int)+1<9223372036854775807:=by omega
 have bA:=qA w;have bA3:=qD w;have D0:=qc hlt d0;have D1:=qc hlt d1;have bB:=qB w;have bC:=qC w;have D4':=qd hlt d4;have D1':=qd hlt d1;have F1':=qf hlt f1;have E:=qg hr;obtain⟨e0,e1,e2,e3,e4,e5,e6⟩:=qe E;clear E hr d0 d1 d4 f1 bB bC;subst hkd;rw[hK] at e0;unfold ptr
 go_enter func70,ntmps70
 go_wp2_with fail
 go_region
 go_wp2_with fail
 refine bodyPost_ret (rgn.zai rfl _ _ w.heap.size 0 (leafC 3 t.tx false t.ln t.co) _ rfl ((uh HF) _ _).1 underlying33 rfl infoLt) rfl ?_
 exact⟨rfl,((uh HF) _ _).2.1,((uh HF) _ _).2.2⟩
set_option maxRecDepth 20000 in
theorem zly(B p:Nat)(c:Cu)(ct:Bool)(w:World)(h:RurAt w B p c)(hkd:c.kd=0)(hK:c.tok.k=6)  : Calls prog 70 #[ptr B,.bool ct] w fun e w'=>e = .returned (.agg (leafC 4 c.tok.va false c.tok.ln c.tok.co).toArray)∧RurAt w' B p (c.take)∧Kp B w w':=by
 have hlt:=h.lt;have hplt:=h.plt;have hix:=h.ok.lt;have hlen:=h.len;have hr:=h.tk;have HH:=Hi h;obtain⟨cap,d0,d1,f1,-⟩:=h.c01;obtain⟨-,-,-,d4⟩:=h.c2;have hm:=zaJ h.ok (by rw[hK];decide) (by rw[hK];decide)
 have HF:=Hi (fun o o1=>zbd h hm (leafC 4 c.tok.va false c.tok.ln c.tok.co) rfl o o1)
 unfold zero7 at HF;obtain⟨ix,hk⟩:∃ ix,ix=c.ix:=⟨_,rfl⟩;obtain⟨n,hk2⟩:∃ n,n=c.ts.length:=⟨_,rfl⟩;obtain⟨t,hk3⟩:∃ t,t=c.tok:=⟨_,rfl⟩;obtain⟨kd,hk4⟩:∃ kd,kd=c.kd:=⟨_,rfl⟩;rw[←hk,←hk2] at hix;rw[←hk2] at d0 hlen;rw[←hk] at d1 hr HF;rw[←hk3] at hr hK HF  ⊢;rw[←hk4] at d4 hkd;clear h hk hk2 hk3 hk4;have ii:(ix:Int)<(n:Int):=by omega
 have hn1:(ix:Int)+1<9223372036854775807:=by omega
 have bA:=qA w;have bA3:=qD w;have D0:=qc hlt d0;have D1:=qc hlt d1;have bB:=qB w;have bC:=qC w;have D4':=qd hlt d4;have D1':=qd hlt d1;have F1':=qf hlt f1;have E:=qg hr;obtain⟨e0,e1,e2,e3,e4,e5,e6⟩:=qe E;clear E hr d0 d1 d4 f1 bB bC;subst hkd;rw[hK] at e0;unfold ptr
 go_enter func70,ntmps70
 go_wp2_with fail
 go_region
 go_wp2_with fail
 refine bodyPost_ret (rgn.zai rfl _ _ w.heap.size 0 (leafC 4 t.va false t.ln t.co) _ rfl ((uh HF) _ _).1 underlying33 rfl infoLt) rfl ?_
 exact⟨rfl,((uh HF) _ _).2.1,((uh HF) _ _).2.2⟩
set_option maxRecDepth 20000 in
theorem zlt(B p:Nat)(c:Cu)(ct:Bool)(w:World)(h:RurAt w B p c)(hkd:c.kd=0)(hK:c.tok.k=7)  : Calls prog 70 #[ptr B,.bool ct] w fun e w'=>e = .returned (.agg (leafC 4 c.tok.va true c.tok.ln c.tok.co).toArray)∧RurAt w' B p (c.take)∧Kp B w w':=by
 have hlt:=h.lt;have hplt:=h.plt;have hix:=h.ok.lt;have hlen:=h.len;have hr:=h.tk;have HH:=Hi h;obtain⟨cap,d0,d1,f1,-⟩:=h.c01;obtain⟨-,-,-,d4⟩:=h.c2;have hm:=zaJ h.ok (by rw[hK];decide) (by rw[hK];decide)
 have HF:=Hi (fun o o1=>zbd h hm (leafC 4 c.tok.va true c.tok.ln c.tok.co) rfl o o1)
 unfold zero7 at HF;obtain⟨ix,hk⟩:∃ ix,ix=c.ix:=⟨_,rfl⟩;obtain⟨n,hk2⟩:∃ n,n=c.ts.length:=⟨_,rfl⟩;obtain⟨t,hk3⟩:∃ t,t=c.tok:=⟨_,rfl⟩;obtain⟨kd,hk4⟩:∃ kd,kd=c.kd:=⟨_,rfl⟩;rw[←hk,←hk2] at hix;rw[←hk2] at d0 hlen;rw[←hk] at d1 hr HF;rw[←hk3] at hr hK HF  ⊢;rw[←hk4] at d4 hkd;clear h hk hk2 hk3 hk4;have ii:(ix:Int)<(n:Int):=by omega
 have hn1:(ix:Int)+1<9223372036854775807:=by omega
 have bA:=qA w;have bA3:=qD w;have D0:=qc hlt d0;have D1:=qc hlt d1;have bB:=qB w;have bC:=qC w;have D4':=qd hlt d4;have D1':=qd hlt d1;have F1':=qf hlt f1;have E:=qg hr;obtain⟨e0,e1,e2,e3,e4,e5,e6⟩:=qe E;clear E hr d0 d1 d4 f1 bB bC;subst hkd;rw[hK] at e0;unfold ptr
 go_enter func70,ntmps70
 go_wp2_with fail
 go_region
 go_wp2_with fail
 refine bodyPost_ret (rgn.zai rfl _ _ w.heap.size 0 (leafC 4 t.va true t.ln t.co) _ rfl ((uh HF) _ _).1 underlying33 rfl infoLt) rfl ?_
 exact⟨rfl,((uh HF) _ _).2.1,((uh HF) _ _).2.2⟩
set_option maxRecDepth 20000 in
theorem zjy(B p:Nat)(c:Cu)(ct:Bool)(w:World)(h:RurAt w B p c)(hkd:c.kd=0)(hK:c.tok.k=3)(hstrue:c.tok.tx=bTrue):Calls prog 70 #[ptr B,.bool ct] w fun e w'=>e = .returned (.agg (leafC 5 c.tok.tx false c.tok.ln c.tok.co).toArray)∧RurAt w' B p (c.take)∧Kp B w w':=by
 have hlt:=h.lt;have hplt:=h.plt;have hix:=h.ok.lt;have hlen:=h.len;have hr:=h.tk;have HH:=Hi h;obtain⟨cap,d0,d1,f1,-⟩:=h.c01;obtain⟨-,-,-,d4⟩:=h.c2;have hm:=zaJ h.ok (by rw[hK];decide) (by rw[hK];decide)
 have HF:=Hi (fun o o1=>zbd h hm (leafC 5 c.tok.tx false c.tok.ln c.tok.co) rfl o o1)
 unfold zero7 at HF;obtain⟨ix,hk⟩:∃ ix,ix=c.ix:=⟨_,rfl⟩;obtain⟨n,hk2⟩:∃ n,n=c.ts.length:=⟨_,rfl⟩;obtain⟨t,hk3⟩:∃ t,t=c.tok:=⟨_,rfl⟩;obtain⟨kd,hk4⟩:∃ kd,kd=c.kd:=⟨_,rfl⟩;rw[←hk,←hk2] at hix;rw[←hk2] at d0 hlen;rw[←hk] at d1 hr HF;rw[←hk3] at hr hK HF hstrue ⊢;rw[←hk4] at d4 hkd;clear h hk hk2 hk3 hk4;have ii:(ix:Int)<(n:Int):=by omega
 have hn1:(ix:Int)+1<9223372036854775807:=by omega
 have bA:=qA w;have bA3:=qD w;have D0:=qc hlt d0;have D1:=qc hlt d1;have bB:=qB w;have bC:=qC w;have D4':=qd hlt d4;have D1':=qd hlt d1;have F1':=qf hlt f1;have E:=qg hr;obtain⟨e0,e1,e2,e3,e4,e5,e6⟩:=qe E;clear E hr d0 d1 d4 f1 bB bC;subst hkd;rw[hK] at e0;have strue:(t.tx.toList==[116,114,117,101])=true:=by rw[zaD (by rw[ByteArray.toList_eq])];exact decide_eq_true hstrue
 clear hstrue;unfold ptr
 go_enter func70,ntmps70
 go_wp2_with fail
 go_region
 go_wp2_with fail
 refine bodyPost_ret (rgn.zai rfl _ _ w.heap.size 0 (leafC 5 t.tx false t.ln t.co) _ rfl ((uh HF) _ _).1 underlying33 rfl infoLt) rfl ?_
 exact⟨rfl,((uh HF) _ _).2.1,((uh HF) _ _).2.2⟩
set_option maxRecDepth 20000 in
theorem zhQ(B p:Nat)(c:Cu)(ct:Bool)(w:World)(h:RurAt w B p c)(hkd:c.kd=0)(hK:c.tok.k=3)(hstrue:¬c.tok.tx=bTrue)(hsfalse:c.tok.tx=bFalse):Calls prog 70 #[ptr B,.bool ct] w fun e w'=>e = .returned (.agg (leafC 5 c.tok.tx false c.tok.ln c.tok.co).toArray)∧RurAt w' B p (c.take)∧Kp B w w':=by
 have hlt:=h.lt;have hplt:=h.plt;have hix:=h.ok.lt;have hlen:=h.len;have hr:=h.tk;have HH:=Hi h;obtain⟨cap,d0,d1,f1,-⟩:=h.c01;obtain⟨-,-,-,d4⟩:=h.c2;have hm:=zaJ h.ok (by rw[hK];decide) (by rw[hK];decide)
 have HF:=Hi (fun o o1=>zbd h hm (leafC 5 c.tok.tx false c.tok.ln c.tok.co) rfl o o1)
 unfold zero7 at HF;obtain⟨ix,hk⟩:∃ ix,ix=c.ix:=⟨_,rfl⟩;obtain⟨n,hk2⟩:∃ n,n=c.ts.length:=⟨_,rfl⟩;obtain⟨t,hk3⟩:∃ t,t=c.tok:=⟨_,rfl⟩;obtain⟨kd,hk4⟩:∃ kd,kd=c.kd:=⟨_,rfl⟩;rw[←hk,←hk2] at hix;rw[←hk2] at d0 hlen;rw[←hk] at d1 hr HF;rw[←hk3] at hr hK HF hstrue hsfalse ⊢;rw[←hk4] at d4 hkd;clear h hk hk2 hk3 hk4;have ii:(ix:Int)<(n:Int):=by omega
 have hn1:(ix:Int)+1<9223372036854775807:=by omega
 have bA:=qA w;have bA3:=qD w;have D0:=qc hlt d0;have D1:=qc hlt d1;have bB:=qB w;have bC:=qC w;have D4':=qd hlt d4;have D1':=qd hlt d1;have F1':=qf hlt f1;have E:=qg hr;obtain⟨e0,e1,e2,e3,e4,e5,e6⟩:=qe E;clear E hr d0 d1 d4 f1 bB bC;subst hkd;rw[hK] at e0;have strue:(t.tx.toList==[116,114,117,101])=false:=by rw[zaD (by rw[ByteArray.toList_eq])];exact decide_eq_false hstrue
 clear hstrue;have sfalse:(t.tx.toList==[102,97,108,115,101])=true:=by rw[zaD (by rw[ByteArray.toList_eq])];exact decide_eq_true hsfalse
 clear hsfalse;unfold ptr
 go_enter func70,ntmps70
 go_wp2_with fail
 go_region
 go_wp2_with fail
 refine bodyPost_ret (rgn.zai rfl _ _ w.heap.size 0 (leafC 5 t.tx false t.ln t.co) _ rfl ((uh HF) _ _).1 underlying33 rfl infoLt) rfl ?_
 exact⟨rfl,((uh HF) _ _).2.1,((uh HF) _ _).2.2⟩
set_option maxRecDepth 20000 in
theorem zjx(B p:Nat)(c:Cu)(ct:Bool)(w:World)(h:RurAt w B p c)(hkd:c.kd=0)(hK:c.tok.k=3)(hstrue:¬c.tok.tx=bTrue)(hsfalse:¬c.tok.tx=bFalse)(hsnull:c.tok.tx=bNull):Calls prog 70 #[ptr B,.bool ct] w fun e w'=>e = .returned (.agg (leafC 6 em false c.tok.ln c.tok.co).toArray)∧RurAt w' B p (c.take)∧Kp B w w':=by
 have hlt:=h.lt;have hplt:=h.plt;have hix:=h.ok.lt;have hlen:=h.len;have hr:=h.tk;have HH:=Hi h;obtain⟨cap,d0,d1,f1,-⟩:=h.c01;obtain⟨-,-,-,d4⟩:=h.c2;have hm:=zaJ h.ok (by rw[hK];decide) (by rw[hK];decide)
 have HF:=Hi (fun o o1=>zbd h hm (leafC 6 em false c.tok.ln c.tok.co) rfl o o1)
 unfold zero7 at HF;obtain⟨ix,hk⟩:∃ ix,ix=c.ix:=⟨_,rfl⟩;obtain⟨n,hk2⟩:∃ n,n=c.ts.length:=⟨_,rfl⟩;obtain⟨t,hk3⟩:∃ t,t=c.tok:=⟨_,rfl⟩;obtain⟨kd,hk4⟩:∃ kd,kd=c.kd:=⟨_,rfl⟩;rw[←hk,←hk2] at hix;rw[←hk2] at d0 hlen;rw[←hk] at d1 hr HF;rw[←hk3] at hr hK HF hstrue hsfalse hsnull ⊢;rw[←hk4] at d4 hkd;clear h hk hk2 hk3 hk4;have ii:(ix:Int)<(n:Int):=by omega
 have hn1:(ix:Int)+1<9223372036854775807:=by omega
 have bA:=qA w;have bA3:=qD w;have D0:=qc hlt d0;have D1:=qc hlt d1;have bB:=qB w;have bC:=qC w;have D4':=qd hlt d4;have D1':=qd hlt d1;have F1':=qf hlt f1;have E:=qg hr;obtain⟨e0,e1,e2,e3,e4,e5,e6⟩:=qe E;clear E hr d0 d1 d4 f1 bB bC;subst hkd;rw[hK] at e0;have strue:(t.tx.toList==[116,114,117,101])=false:=by rw[zaD (by rw[ByteArray.toList_eq])];exact decide_eq_false hstrue
 clear hstrue;have sfalse:(t.tx.toList==[102,97,108,115,101])=false:=by rw[zaD (by rw[ByteArray.toList_eq])];exact decide_eq_false hsfalse
 clear hsfalse;have snull:(t.tx.toList==[110,117,108,108])=true:=by rw[zaD (by rw[ByteArray.toList_eq])];exact decide_eq_true hsnull
 clear hsnull;unfold ptr
 go_enter func70,ntmps70
 go_wp2_with fail
 go_region
 go_wp2_with fail
 refine bodyPost_ret (rgn.zai rfl _ _ w.heap.size 0 (leafC 6 em false t.ln t.co) _ rfl ((uh HF) _ _).1 underlying33 rfl infoLt) rfl ?_
 exact⟨rfl,((uh HF) _ _).2.1,((uh HF) _ _).2.2⟩
set_option maxRecDepth 20000 in
theorem zjv(B p:Nat)(c:Cu)(ct:Bool)(w:World)(h:RurAt w B p c)(hkd:c.kd=0)(hK:c.tok.k=3)(hstrue:¬c.tok.tx=bTrue)(hsfalse:¬c.tok.tx=bFalse)(hsnull:¬c.tok.tx=bNull):Calls prog 70 #[ptr B,.bool ct] w fun e w'=>e = .returned (.agg (leafC 7 c.tok.tx false c.tok.ln c.tok.co).toArray)∧RurAt w' B p (c.take)∧Kp B w w':=by
 have hlt:=h.lt;have hplt:=h.plt;have hix:=h.ok.lt;have hlen:=h.len;have hr:=h.tk;have HH:=Hi h;obtain⟨cap,d0,d1,f1,-⟩:=h.c01;obtain⟨-,-,-,d4⟩:=h.c2;have hm:=zaJ h.ok (by rw[hK];decide) (by rw[hK];decide)
 have HF:=Hi (fun o o1=>zbd h hm (leafC 7 c.tok.tx false c.tok.ln c.tok.co) rfl o o1)
 unfold zero7 at HF;obtain⟨ix,hk⟩:∃ ix,ix=c.ix:=⟨_,rfl⟩;obtain⟨n,hk2⟩:∃ n,n=c.ts.length:=⟨_,rfl⟩;obtain⟨t,hk3⟩:∃ t,t=c.tok:=⟨_,rfl⟩;obtain⟨kd,hk4⟩:∃ kd,kd=c.kd:=⟨_,rfl⟩;rw[←hk,←hk2] at hix;rw[←hk2] at d0 hlen;rw[←hk] at d1 hr HF;rw[←hk3] at hr hK HF hstrue hsfalse hsnull ⊢;rw[←hk4] at d4 hkd;clear h hk hk2 hk3 hk4;have ii:(ix:Int)<(n:Int):=by omega
 have hn1:(ix:Int)+1<9223372036854775807:=by omega
 have bA:=qA w;have bA3:=qD w;have D0:=qc hlt d0;have D1:=qc hlt d1;have bB:=qB w;have bC:=qC w;have D4':=qd hlt d4;have D1':=qd hlt d1;have F1':=qf hlt f1;have E:=qg hr;obtain⟨e0,e1,e2,e3,e4,e5,e6⟩:=qe E;clear E hr d0 d1 d4 f1 bB bC;subst hkd;rw[hK] at e0;have strue:(t.tx.toList==[116,114,117,101])=false:=by rw[zaD (by rw[ByteArray.toList_eq])];exact decide_eq_false hstrue
 clear hstrue;have sfalse:(t.tx.toList==[102,97,108,115,101])=false:=by rw[zaD (by rw[ByteArray.toList_eq])];exact decide_eq_false hsfalse
 clear hsfalse;have snull:(t.tx.toList==[110,117,108,108])=false:=by rw[zaD (by rw[ByteArray.toList_eq])];exact decide_eq_false hsnull
 clear hsnull;unfold ptr
 go_enter func70,ntmps70
 go_wp2_with fail
 go_region
 go_wp2_with fail
 refine bodyPost_ret (rgn.zai rfl _ _ w.heap.size 0 (leafC 7 t.tx false t.ln t.co) _ rfl ((uh HF) _ _).1 underlying33 rfl infoLt) rfl ?_
 exact⟨rfl,((uh HF) _ _).2.1,((uh HF) _ _).2.2⟩
set_option maxRecDepth 20000 in
theorem zju(B p:Nat)(c:Cu)(ct:Bool)(w:World)(h:RurAt w B p c)(hkd:c.kd≠0):Calls prog 70 #[ptr B,.bool ct] w fun e w'=>e = .returned (.agg (leafC 0 em false 0 0).toArray)∧RurAt w' B p (c)∧Kp B w w':=by
 have hlt:=h.lt;have hplt:=h.plt;have hix:=h.ok.lt;have hlen:=h.len;have hr:=h.tk;have HH:=Hi h;obtain⟨cap,d0,d1,f1,-⟩:=h.c01;obtain⟨-,-,-,d4⟩:=h.c2;obtain⟨ix,hk⟩:∃ ix,ix=c.ix:=⟨_,rfl⟩;obtain⟨n,hk2⟩:∃ n,n=c.ts.length:=⟨_,rfl⟩;obtain⟨t,hk3⟩:∃ t,t=c.tok:=⟨_,rfl⟩;obtain⟨kd,hk4⟩:∃ kd,kd=c.kd:=⟨_,rfl⟩;rw[←hk,←hk2] at hix;rw[←hk2] at d0 hlen
 rw[←hk] at d1 hr;rw[←hk3] at hr;rw[←hk4] at d4 hkd;clear h hk hk2 hk3 hk4;have ii:(ix:Int)<(n:Int):=by omega
 have hn1:(ix:Int)+1<9223372036854775807:=by omega
 have bA:=qA w;have bA3:=qD w;have D0:=qc hlt d0;have D1:=qc hlt d1;have bB:=qB w;have bC:=qC w;have D4':=qd hlt d4;have D1':=qd hlt d1;have F1':=qf hlt f1;have E:=qg hr;obtain⟨e0,e1,e2,e3,e4,e5,e6⟩:=qe E;clear E hr d0 d1 d4 f1 bB bC;have b0:(kd != 0)=true:=by simpa using hkd
 clear hkd;unfold ptr
 go_enter func70,ntmps70
 go_wp2_with fail
 go_region
 go_wp2_with fail
 have hQ:∀ o o' o'',(((w.alloc o).alloc o').alloc o'').drew.heap[w.heap.size]? = some o:=fun o o' o''=>by
  have e1:=heap_alloc_new w o;have e2:=Below.heap_alloc (w.alloc o) o' w.heap.size (by simp)
  have e3:=Below.heap_alloc ((w.alloc o).alloc o') o'' w.heap.size (by simp;omega)
  exact e3.trans (e2.trans e1)
 refine bodyPost_ret (rgn.zai rfl _ _ w.heap.size 0 (leafC 0 em false 0 0) _ rfl (dt.zap (hQ _ _ _) 0 (leafC 0 em false 0 0) (fun j u hu=>by rw[Nat.zero_add];simpa[leafC,em] using hu)) underlying33 rfl infoLt) rfl ?_
 exact⟨rfl,(uh HH).below ((uh bA3) _ _ _),Kp.of ((uh bA3) _ _ _)⟩
theorem zch{w:World}{b o N n:Nat}{v:Value}(hne:b≠N)(h:w.there N 0 n):(w.setCell ⟨b,o,none⟩ v).there N 0 n:=fun j hj=>by
 have e:(w.setCell ⟨b,o,none⟩ v).heap[N]? = w.heap[N]? := dt.zae b N (fun e=>hne e.symm) [v] o w
 obtain⟨q1,q2⟩:=h j hj;exact⟨by rw[World.cell?_of_block (w:=w) (a:=⟨N,0+j,none⟩) e];exact q1,by rw[World.frozen?_of_block (w:=w) (a:=⟨N,0+j,none⟩) e];exact q2⟩
theorem RurAt.set1{w:World}{B p:Nat}{c:Cu}(h:RurAt w B p c){b:Nat}(hb:B≠b)(hp:p≠b)(o:Nat)(v:Value):RurAt (w.setCell ⟨b,o,none⟩ v) B p c:=h.out hb hp o [v]
theorem zgW{B:Nat}{w w1:World}(h:Kp B w w1){b:Nat}(hb:w.heap.size≤b)(o:Nat)(v:Value):Kp B w (w1.setCell ⟨b,o,none⟩ v):=h.out hb o [v]
set_option maxRecDepth 20000 in
theorem zhR(B p:Nat)(c:Cu)(ct:Bool)(w:World)(h:RurAt w B p c)(hkd:c.kd=0)(hK:c.tok.k≠4∧c.tok.k≠5∧c.tok.k≠6∧c.tok.k≠7∧c.tok.k≠3∧c.tok.k≠2):Calls prog 70 #[ptr B,.bool ct] w fun e w'=>e = .returned (.agg (leafC 0 em false 0 0).toArray)∧RurAt w' B p (c.stop 70)∧Kp B w w':=by
 have hlt:=h.lt;have hplt:=h.plt;have hix:=h.ok.lt;have hlen:=h.len;have hr:=h.tk;have HH:=Hi h;obtain⟨cap,d0,d1,f1,-⟩:=h.c01;obtain⟨-,-,-,d4⟩:=h.c2;have hCL:=Hi (fun W (hc:RurAt W B p c)=>zbQ B p c 70 W hc)
 obtain⟨ix,hk⟩:∃ ix,ix=c.ix:=⟨_,rfl⟩;obtain⟨n,hk2⟩:∃ n,n=c.ts.length:=⟨_,rfl⟩;obtain⟨t,hk3⟩:∃ t,t=c.tok:=⟨_,rfl⟩;obtain⟨kd,hk4⟩:∃ kd,kd=c.kd:=⟨_,rfl⟩;rw[←hk,←hk2] at hix;rw[←hk2] at d0 hlen;rw[←hk] at d1 hr;rw[←hk3] at hr hK;rw[←hk4] at d4 hkd;clear h hk hk2 hk3 hk4;have ii:(ix:Int)<(n:Int):=by omega
 have hn1:(ix:Int)+1<9223372036854775807:=by omega
 have bA:=qA w;have bA3:=qD w;have D0:=qc hlt d0;have D1:=qc hlt d1;have bB:=qB w;have bC:=qC w;have D4':=qd hlt d4;have D1':=qd hlt d1;have F1':=qf hlt f1;have E:=qg hr;obtain⟨e0,e1,e2,e3,e4,e5,e6⟩:=qe E;clear E hr d0 d1 d4 f1 bB bC;subst hkd;have n4:(t.k==4)=false:=by simpa using hK.1
 have n5:(t.k==5)=false:=by simpa using hK.2.1
 have n6:(t.k==6)=false:=by simpa using hK.2.2.1
 have n7:(t.k==7)=false:=by simpa using hK.2.2.2.1
 have n3:(t.k==3)=false:=by simpa using hK.2.2.2.2.1
 have n2:(t.k==2)=false:=by simpa using hK.2.2.2.2.2
 clear hK;have hKW:=Hi (fun o o' o''=>Kp.of (B:=B) ((uh bA3) o o' o''))
 have hRW:=Hi (fun o o' o''=>(uh HH).below ((uh bA3) o o' o''))
 have hZ:=Hi (fun o o' o'' W (hk:Kp B ((((w.alloc o).alloc o').alloc o'').drew) W)=>show W.heap[w.heap.size]? = some o∧W.heap[w.heap.size+1]? = some o'∧W.heap[w.heap.size+1+1]? = some o''∧w.heap.size+1+1<W.heap.size from by
  have e1:=heap_alloc_new w o;have e2:=Below.heap_alloc (w.alloc o) o' w.heap.size (by simp)
  have e3:=Below.heap_alloc ((w.alloc o).alloc o') o'' w.heap.size (by simp;omega)
  have g1:=heap_alloc_new (w.alloc o) o';have g2:=Below.heap_alloc ((w.alloc o).alloc o') o'' (w.heap.size+1) (by simp)
  have k1:(((w.alloc o).alloc o').alloc o'').heap[w.heap.size+1+1]? = some o'':=by simpa using heap_alloc_new ((w.alloc o).alloc o') o''
  have hs:((((w.alloc o).alloc o').alloc o'').drew).heap.size=w.heap.size+3:=by simp[World.drew]
  have hsz:=hk.size;rw[hs] at hsz
  refine⟨(hk.block w.heap.size (by rw[hs];omega) (by omega)).trans (e3.trans (e2.trans e1)),(hk.block (w.heap.size+1) (by rw[hs];omega) (by omega)).trans (g2.trans (by simpa using g1)),(hk.block (w.heap.size+1+1) (by rw[hs];omega) (by omega)).trans k1,by omega⟩)
 unfold ptr at hCL ⊢
 go_enter func70,ntmps70
 go_wp2_with fail
 go_region
 go_wp2_with fail
 refine ((uh hCL) _ ((uh hRW) _ _ _)).mono ?_
 rintro e w1 ⟨rfl,hc,hk⟩;obtain⟨z0,z1,z2,z3⟩:=(uh hZ) _ _ _ w1 hk;have HK:=Hi (((uh hKW) _ _ _).trans hk);have HC:=Hi hc;have hth:w1.there w.heap.size 0 7:=dt.zac z0 (by decide)
 have HT:=Hi hth
 skip
 clear hk hc hZ hKW hRW z0 z1 z2 hCL
 go_wp2_with (first
  | refine wpList_store_mid (by rfl) 33 _ _ (by rfl) w.heap.size 0 (leafC 0 em false 0 0).toArray (by rfl) (by rfl) (uh HT) infoLt (dt.zab (cs:=leafC 0 em false 0 0) (by rfl)) ?_)
 refine bodyPost_ret (rgn.zai rfl _ _ w.heap.size 0 (leafC 0 em false 0 0) _ rfl (World.rangeAt_setCells_same _ _ _ _ (uh HT)) underlying33 rfl infoLt) rfl ?_
 exact⟨rfl,(uh HC).out (by omega) (by omega) 0 _,(uh HK).out (lr _) 0 _⟩
set_option maxRecDepth 20000 in
theorem zhS(B p:Nat)(c:Cu)(ct:Bool)(w:World)(h:RurAt w B p c)(hkd:c.kd=0)(hK:c.tok.k=2)(hsdol:¬c.tok.tx=bDol)(hslb:¬c.tok.tx=bLb)(hslc:¬c.tok.tx=bLc):Calls prog 70 #[ptr B,.bool ct] w fun e w'=>e = .returned (.agg (leafC 0 em false 0 0).toArray)∧RurAt w' B p (c.stop 70)∧Kp B w w':=by
 have hlt:=h.lt;have hplt:=h.plt;have hix:=h.ok.lt;have hlen:=h.len;have hr:=h.tk;have HH:=Hi h;obtain⟨cap,d0,d1,f1,-⟩:=h.c01;obtain⟨-,-,-,d4⟩:=h.c2;have hCL:=Hi (fun W (hc:RurAt W B p c)=>zbQ B p c 70 W hc)
 obtain⟨ix,hk⟩:∃ ix,ix=c.ix:=⟨_,rfl⟩;obtain⟨n,hk2⟩:∃ n,n=c.ts.length:=⟨_,rfl⟩;obtain⟨t,hk3⟩:∃ t,t=c.tok:=⟨_,rfl⟩;obtain⟨kd,hk4⟩:∃ kd,kd=c.kd:=⟨_,rfl⟩;rw[←hk,←hk2] at hix;rw[←hk2] at d0 hlen;rw[←hk] at d1 hr;rw[←hk3] at hr hK hsdol hslb hslc;rw[←hk4] at d4 hkd;clear h hk hk2 hk3 hk4;have ii:(ix:Int)<(n:Int):=by omega
 have hn1:(ix:Int)+1<9223372036854775807:=by omega
 have bA:=qA w;have bA3:=qD w;have D0:=qc hlt d0;have D1:=qc hlt d1;have bB:=qB w;have bC:=qC w;have D4':=qd hlt d4;have D1':=qd hlt d1;have F1':=qf hlt f1;have E:=qg hr;obtain⟨e0,e1,e2,e3,e4,e5,e6⟩:=qe E;clear E hr d0 d1 d4 f1 bB bC;subst hkd;rw[hK] at e0;have sdol:(t.tx.toList==[36])=false:=by rw[zaD (by rw[ByteArray.toList_eq])];exact decide_eq_false hsdol
 clear hsdol;have slb:(t.tx.toList==[91])=false:=by rw[zaD (by rw[ByteArray.toList_eq])];exact decide_eq_false hslb
 clear hslb;have slc:(t.tx.toList==[123])=false:=by rw[zaD (by rw[ByteArray.toList_eq])];exact decide_eq_false hslc
 clear hslc;have hKW:=Hi (fun o o' o''=>Kp.of (B:=B) ((uh bA3) o o' o''))
 have hRW:=Hi (fun o o' o''=>(uh HH).below ((uh bA3) o o' o''))
 have hZ:=Hi (fun o o' o'' W (hk:Kp B ((((w.alloc o).alloc o').alloc o'').drew) W)=>show W.heap[w.heap.size]? = some o∧W.heap[w.heap.size+1]? = some o'∧W.heap[w.heap.size+1+1]? = some o''∧w.heap.size+1+1<W.heap.size from by
  have e1:=heap_alloc_new w o;have e2:=Below.heap_alloc (w.alloc o) o' w.heap.size (by simp)
  have e3:=Below.heap_alloc ((w.alloc o).alloc o') o'' w.heap.size (by simp;omega)
  have g1:=heap_alloc_new (w.alloc o) o';have g2:=Below.heap_alloc ((w.alloc o).alloc o') o'' (w.heap.size+1) (by simp)
  have k1:(((w.alloc o).alloc o').alloc o'').heap[w.heap.size+1+1]? = some o'':=by simpa using heap_alloc_new ((w.alloc o).alloc o') o''
  have hs:((((w.alloc o).alloc o').alloc o'').drew).heap.size=w.heap.size+3:=by simp[World.drew]
  have hsz:=hk.size;rw[hs] at hsz
  refine⟨(hk.block w.heap.size (by rw[hs];omega) (by omega)).trans (e3.trans (e2.trans e1)),(hk.block (w.heap.size+1) (by rw[hs];omega) (by omega)).trans (g2.trans (by simpa using g1)),(hk.block (w.heap.size+1+1) (by rw[hs];omega) (by omega)).trans k1,by omega⟩)
 unfold ptr at hCL ⊢
 go_enter func70,ntmps70
 go_wp2_with fail
 go_region
 go_wp2_with fail
 refine ((uh hCL) _ ((uh hRW) _ _ _)).mono ?_
 rintro e w1 ⟨rfl,hc,hk⟩;obtain⟨z0,z1,z2,z3⟩:=(uh hZ) _ _ _ w1 hk;have HK:=Hi (((uh hKW) _ _ _).trans hk);have HC:=Hi hc;have hth:w1.there w.heap.size 0 7:=dt.zac z0 (by decide)
 have HT:=Hi hth
 skip
 clear hk hc hZ hKW hRW z0 z1 z2 hCL
 go_wp2_with (first
  | refine wpList_store_mid (by rfl) 33 _ _ (by rfl) w.heap.size 0 (leafC 0 em false 0 0).toArray (by rfl) (by rfl) (uh HT) infoLt (dt.zab (cs:=leafC 0 em false 0 0) (by rfl)) ?_)
 refine bodyPost_ret (rgn.zai rfl _ _ w.heap.size 0 (leafC 0 em false 0 0) _ rfl (World.rangeAt_setCells_same _ _ _ _ (uh HT)) underlying33 rfl infoLt) rfl ?_
 exact⟨rfl,(uh HC).out (by omega) (by omega) 0 _,(uh HK).out (lr _) 0 _⟩
set_option maxRecDepth 20000 in
theorem zhT(B p:Nat)(c:Cu)(ct:Bool)(w:World)(h:RurAt w B p c)(hkd:c.kd=0)(hK:c.tok.k=2)(hsdol:c.tok.tx=bDol)(hct:ct=true):Calls prog 70 #[ptr B,.bool ct] w fun e w'=>e = .returned (.agg (leafC 0 em false 0 0).toArray)∧RurAt w' B p (c.stop 70)∧Kp B w w':=by
 have hlt:=h.lt;have hplt:=h.plt;have hix:=h.ok.lt;have hlen:=h.len;have hr:=h.tk;have HH:=Hi h;obtain⟨cap,d0,d1,f1,-⟩:=h.c01;obtain⟨-,-,-,d4⟩:=h.c2;have hCL:=Hi (fun W (hc:RurAt W B p c)=>zbQ B p c 70 W hc)
 obtain⟨ix,hk⟩:∃ ix,ix=c.ix:=⟨_,rfl⟩;obtain⟨n,hk2⟩:∃ n,n=c.ts.length:=⟨_,rfl⟩;obtain⟨t,hk3⟩:∃ t,t=c.tok:=⟨_,rfl⟩;obtain⟨kd,hk4⟩:∃ kd,kd=c.kd:=⟨_,rfl⟩;rw[←hk,←hk2] at hix;rw[←hk2] at d0 hlen;rw[←hk] at d1 hr;rw[←hk3] at hr hK hsdol;rw[←hk4] at d4 hkd;clear h hk hk2 hk3 hk4;have ii:(ix:Int)<(n:Int):=by omega
 have hn1:(ix:Int)+1<9223372036854775807:=by omega
 have bA:=qA w;have bA3:=qD w;have D0:=qc hlt d0;have D1:=qc hlt d1;have bB:=qB w;have bC:=qC w;have D4':=qd hlt d4;have D1':=qd hlt d1;have F1':=qf hlt f1;have E:=qg hr;obtain⟨e0,e1,e2,e3,e4,e5,e6⟩:=qe E;clear E hr d0 d1 d4 f1 bB bC;subst hkd;subst hct;rw[hK] at e0;rw[hsdol] at e5;clear hsdol;unfold bDol at e5;have hKW:=Hi (fun o o' o''=>Kp.of (B:=B) ((uh bA3) o o' o''))
 have hRW:=Hi (fun o o' o''=>(uh HH).below ((uh bA3) o o' o''))
 have hZ:=Hi (fun o o' o'' W (hk:Kp B ((((w.alloc o).alloc o').alloc o'').drew) W)=>show W.heap[w.heap.size]? = some o∧W.heap[w.heap.size+1]? = some o'∧W.heap[w.heap.size+1+1]? = some o''∧w.heap.size+1+1<W.heap.size from by
  have e1:=heap_alloc_new w o;have e2:=Below.heap_alloc (w.alloc o) o' w.heap.size (by simp)
  have e3:=Below.heap_alloc ((w.alloc o).alloc o') o'' w.heap.size (by simp;omega)
  have g1:=heap_alloc_new (w.alloc o) o';have g2:=Below.heap_alloc ((w.alloc o).alloc o') o'' (w.heap.size+1) (by simp)
  have k1:(((w.alloc o).alloc o').alloc o'').heap[w.heap.size+1+1]? = some o'':=by simpa using heap_alloc_new ((w.alloc o).alloc o') o''
  have hs:((((w.alloc o).alloc o').alloc o'').drew).heap.size=w.heap.size+3:=by simp[World.drew]
  have hsz:=hk.size;rw[hs] at hsz
  refine⟨(hk.block w.heap.size (by rw[hs];omega) (by omega)).trans (e3.trans (e2.trans e1)),(hk.block (w.heap.size+1) (by rw[hs];omega) (by omega)).trans (g2.trans (by simpa using g1)),(hk.block (w.heap.size+1+1) (by rw[hs];omega) (by omega)).trans k1,by omega⟩)
 unfold ptr at hCL ⊢
 go_enter func70,ntmps70
 go_wp2_with fail
 go_region
 go_wp2_with fail
 refine ((uh hCL) _ ((uh hRW) _ _ _)).mono ?_
 rintro e w1 ⟨rfl,hc,hk⟩;obtain⟨z0,z1,z2,z3⟩:=(uh hZ) _ _ _ w1 hk;have HK:=Hi (((uh hKW) _ _ _).trans hk);have HC:=Hi hc;have hth:w1.there w.heap.size 0 7:=dt.zac z0 (by decide)
 have HT:=Hi hth
 skip
 clear hk hc hZ hKW hRW z0 z1 z2 hCL
 go_wp2_with (first
  | refine wpList_store_mid (by rfl) 33 _ _ (by rfl) w.heap.size 0 (leafC 0 em false 0 0).toArray (by rfl) (by rfl) (uh HT) infoLt (dt.zab (cs:=leafC 0 em false 0 0) (by rfl)) ?_)
 refine bodyPost_ret (rgn.zai rfl _ _ w.heap.size 0 (leafC 0 em false 0 0) _ rfl (World.rangeAt_setCells_same _ _ _ _ (uh HT)) underlying33 rfl infoLt) rfl ?_
 exact⟨rfl,(uh HC).out (by omega) (by omega) 0 _,(uh HK).out (lr _) 0 _⟩
set_option maxRecDepth 20000 in
theorem zjw(B p:Nat)(c:Cu)(ct:Bool)(w:World)(h:RurAt w B p c)(hkd:c.kd=0)(hK:c.tok.k=2)(hslb:c.tok.tx=bLb):Calls prog 70 #[ptr B,.bool ct] w fun e w'=>e = .returned (.agg (leafC 8 em false c.tok.ln c.tok.co).toArray)∧RurAt w' B p (c.opn bLb)∧Kp B w w':=by
 have hlt:=h.lt;have hplt:=h.plt;have hix:=h.ok.lt;have hlen:=h.len;have hr:=h.tk;have HH:=Hi h;obtain⟨cap,d0,d1,f1,-⟩:=h.c01;obtain⟨-,-,-,d4⟩:=h.c2;have hCL:=Hi (fun W (hc:RurAt W B p c)=>zbb B p c bLb W hc)
 obtain⟨ix,hk⟩:∃ ix,ix=c.ix:=⟨_,rfl⟩;obtain⟨n,hk2⟩:∃ n,n=c.ts.length:=⟨_,rfl⟩;obtain⟨t,hk3⟩:∃ t,t=c.tok:=⟨_,rfl⟩;obtain⟨kd,hk4⟩:∃ kd,kd=c.kd:=⟨_,rfl⟩;rw[←hk,←hk2] at hix;rw[←hk2] at d0 hlen;rw[←hk] at d1 hr;rw[←hk3] at hr hK hslb ⊢;rw[←hk4] at d4 hkd;clear h hk hk2 hk3 hk4;have ii:(ix:Int)<(n:Int):=by omega
 have hn1:(ix:Int)+1<9223372036854775807:=by omega
 have bA:=qA w;have bA3:=qD w;have D0:=qc hlt d0;have D1:=qc hlt d1;have bB:=qB w;have bC:=qC w;have D4':=qd hlt d4;have D1':=qd hlt d1;have F1':=qf hlt f1;have E:=qg hr;obtain⟨e0,e1,e2,e3,e4,e5,e6⟩:=qe E;clear E hr d0 d1 d4 f1 bB bC;subst hkd;rw[hK] at e0;rw[hslb] at e5;clear hslb;unfold bLb at e5;have hKW:=Hi (fun o o' o''=>Kp.of (B:=B) ((uh bA3) o o' o''))
 have hRW:=Hi (fun o o' o''=>(uh HH).below ((uh bA3) o o' o''))
 have hZ:=Hi (fun o o' o'' W (hk:Kp B ((((w.alloc o).alloc o').alloc o'').drew) W)=>show W.heap[w.heap.size]? = some o∧W.heap[w.heap.size+1]? = some o'∧W.heap[w.heap.size+1+1]? = some o''∧w.heap.size+1+1<W.heap.size from by
  have e1:=heap_alloc_new w o;have e2:=Below.heap_alloc (w.alloc o) o' w.heap.size (by simp)
  have e3:=Below.heap_alloc ((w.alloc o).alloc o') o'' w.heap.size (by simp;omega)
  have g1:=heap_alloc_new (w.alloc o) o';have g2:=Below.heap_alloc ((w.alloc o).alloc o') o'' (w.heap.size+1) (by simp)
  have k1:(((w.alloc o).alloc o').alloc o'').heap[w.heap.size+1+1]? = some o'':=by simpa using heap_alloc_new ((w.alloc o).alloc o') o''
  have hs:((((w.alloc o).alloc o').alloc o'').drew).heap.size=w.heap.size+3:=by simp[World.drew]
  have hsz:=hk.size;rw[hs] at hsz
  refine⟨(hk.block w.heap.size (by rw[hs];omega) (by omega)).trans (e3.trans (e2.trans e1)),(hk.block (w.heap.size+1) (by rw[hs];omega) (by omega)).trans (g2.trans (by simpa using g1)),(hk.block (w.heap.size+1+1) (by rw[hs];omega) (by omega)).trans k1,by omega⟩)
 unfold ptr bLb at hCL ⊢
 go_enter func70,ntmps70
 go_wp2_with fail
 go_region
 go_wp2_with fail
 refine ((uh hCL) _ ((uh hRW) _ _ _)).mono ?_
 rintro e w1 ⟨rfl,hc,hk⟩;obtain⟨z0,z1,z2,z3⟩:=(uh hZ) _ _ _ w1 hk;have HK:=Hi (((uh hKW) _ _ _).trans hk);have HC:=Hi hc;have hth:w1.there w.heap.size 0 7:=dt.zac z0 (by decide)
 have HT:=Hi hth;have y5:=(zG z1 5).trans rfl;have x0:=(zG z2 0).trans rfl;have x1:=(zG z2 1).trans rfl;have x2:=(zG z2 2).trans rfl;have x3:=(zG z2 3).trans rfl;have x4:=(zG z2 4).trans rfl;have x5:=(zG z2 5).trans rfl;have x6:=(zG z2 6).trans rfl;have g0:=dt.zak z2 0;have g1:=dt.zak z2 1;clear hk hc hZ hKW hRW z0 z1 z2 hCL
 go_wp2_with (first
  | refine wpList_store_mid (by rfl) 33 _ _ (by rfl) w.heap.size 0 (leafC 8 em false t.ln t.co).toArray (by rfl) (by rfl) (by repeat first | exact uh HT | refine zch (by omega) ?_) infoLt (dt.zab (cs:=leafC 8 em false t.ln t.co) (by rfl)) ?_)
 refine bodyPost_ret (rgn.zai rfl _ _ w.heap.size 0 (leafC 8 em false t.ln t.co) _ rfl (World.rangeAt_setCells_same _ _ _ _ (by repeat first | exact uh HT | refine zch (by omega) ?_)) underlying33 rfl infoLt) rfl ?_
 exact⟨rfl,RurAt.out (by repeat first | exact uh HC | refine RurAt.set1 ?_ (by omega) (by omega) _ _) (by omega) (by omega) 0 _,Kp.out (by repeat first | exact uh HK | refine zgW ?_ (by omega) _ _) (lr _) 0 _⟩
set_option maxRecDepth 20000 in
theorem zlx(B p:Nat)(c:Cu)(ct:Bool)(w:World)(h:RurAt w B p c)(hkd:c.kd=0)(hK:c.tok.k=2)(hslc:c.tok.tx=bLc):Calls prog 70 #[ptr B,.bool ct] w fun e w'=>e = .returned (.agg (leafC 9 em false c.tok.ln c.tok.co).toArray)∧RurAt w' B p (c.opn bLc)∧Kp B w w':=by
 have hlt:=h.lt;have hplt:=h.plt;have hix:=h.ok.lt;have hlen:=h.len;have hr:=h.tk;have HH:=Hi h;obtain⟨cap,d0,d1,f1,-⟩:=h.c01;obtain⟨-,-,-,d4⟩:=h.c2;have hCL:=Hi (fun W (hc:RurAt W B p c)=>zbb B p c bLc W hc)
 obtain⟨ix,hk⟩:∃ ix,ix=c.ix:=⟨_,rfl⟩;obtain⟨n,hk2⟩:∃ n,n=c.ts.length:=⟨_,rfl⟩;obtain⟨t,hk3⟩:∃ t,t=c.tok:=⟨_,rfl⟩;obtain⟨kd,hk4⟩:∃ kd,kd=c.kd:=⟨_,rfl⟩;rw[←hk,←hk2] at hix;rw[←hk2] at d0 hlen;rw[←hk] at d1 hr;rw[←hk3] at hr hK hslc ⊢;rw[←hk4] at d4 hkd;clear h hk hk2 hk3 hk4;have ii:(ix:Int)<(n:Int):=by omega
 have hn1:(ix:Int)+1<9223372036854775807:=by omega
 have bA:=qA w;have bA3:=qD w;have D0:=qc hlt d0;have D1:=qc hlt d1;have bB:=qB w;have bC:=qC w;have D4':=qd hlt d4;have D1':=qd hlt d1;have F1':=qf hlt f1;have E:=qg hr;obtain⟨e0,e1,e2,e3,e4,e5,e6⟩:=qe E;clear E hr d0 d1 d4 f1 bB bC;subst hkd;rw[hK] at e0;rw[hslc] at e5;clear hslc;unfold bLc at e5;have hKW:=Hi (fun o o' o''=>Kp.of (B:=B) ((uh bA3) o o' o''))
 have hRW:=Hi (fun o o' o''=>(uh HH).below ((uh bA3) o o' o''))
 have hZ:=Hi (fun o o' o'' W (hk:Kp B ((((w.alloc o).alloc o').alloc o'').drew) W)=>show W.heap[w.heap.size]? = some o∧W.heap[w.heap.size+1]? = some o'∧W.heap[w.heap.size+1+1]? = some o''∧w.heap.size+1+1<W.heap.size from by
  have e1:=heap_alloc_new w o;have e2:=Below.heap_alloc (w.alloc o) o' w.heap.size (by simp)
  have e3:=Below.heap_alloc ((w.alloc o).alloc o') o'' w.heap.size (by simp;omega)
  have g1:=heap_alloc_new (w.alloc o) o';have g2:=Below.heap_alloc ((w.alloc o).alloc o') o'' (w.heap.size+1) (by simp)
  have k1:(((w.alloc o).alloc o').alloc o'').heap[w.heap.size+1+1]? = some o'':=by simpa using heap_alloc_new ((w.alloc o).alloc o') o''
  have hs:((((w.alloc o).alloc o').alloc o'').drew).heap.size=w.heap.size+3:=by simp[World.drew]
  have hsz:=hk.size;rw[hs] at hsz
  refine⟨(hk.block w.heap.size (by rw[hs];omega) (by omega)).trans (e3.trans (e2.trans e1)),(hk.block (w.heap.size+1) (by rw[hs];omega) (by omega)).trans (g2.trans (by simpa using g1)),(hk.block (w.heap.size+1+1) (by rw[hs];omega) (by omega)).trans k1,by omega⟩)
 unfold ptr bLc at hCL ⊢
 go_enter func70,ntmps70
 go_wp2_with fail
 go_region
 go_wp2_with fail
 refine ((uh hCL) _ ((uh hRW) _ _ _)).mono ?_
 rintro e w1 ⟨rfl,hc,hk⟩;obtain⟨z0,z1,z2,z3⟩:=(uh hZ) _ _ _ w1 hk;have HK:=Hi (((uh hKW) _ _ _).trans hk);have HC:=Hi hc;have hth:w1.there w.heap.size 0 7:=dt.zac z0 (by decide)
 have HT:=Hi hth;have y5:=(zG z1 5).trans rfl;have x0:=(zG z2 0).trans rfl;have x1:=(zG z2 1).trans rfl;have x2:=(zG z2 2).trans rfl;have x3:=(zG z2 3).trans rfl;have x4:=(zG z2 4).trans rfl;have x5:=(zG z2 5).trans rfl;have x6:=(zG z2 6).trans rfl;have g0:=dt.zak z2 0;have g1:=dt.zak z2 1;clear hk hc hZ hKW hRW z0 z1 z2 hCL
 go_wp2_with (first
  | refine wpList_store_mid (by rfl) 33 _ _ (by rfl) w.heap.size 0 (leafC 9 em false t.ln t.co).toArray (by rfl) (by rfl) (by repeat first | exact uh HT | refine zch (by omega) ?_) infoLt (dt.zab (cs:=leafC 9 em false t.ln t.co) (by rfl)) ?_)
 refine bodyPost_ret (rgn.zai rfl _ _ w.heap.size 0 (leafC 9 em false t.ln t.co) _ rfl (World.rangeAt_setCells_same _ _ _ _ (by repeat first | exact uh HT | refine zch (by omega) ?_)) underlying33 rfl infoLt) rfl ?_
 exact⟨rfl,RurAt.out (by repeat first | exact uh HC | refine RurAt.set1 ?_ (by omega) (by omega) _ _) (by omega) (by omega) 0 _,Kp.out (by repeat first | exact uh HK | refine zgW ?_ (by omega) _ _) (lr _) 0 _⟩
set_option maxRecDepth 20000 in
theorem zlz(B p:Nat)(c:Cu)(ct:Bool)(w:World)(h:RurAt w B p c)(hkd:c.kd=0)(hK:c.tok.k=2)(hsdol:c.tok.tx=bDol)(hct:ct=false):Calls prog 70 #[ptr B,.bool ct] w fun e w'=>e = .returned (.agg (leafC 1 (if c.take.isN then c.take.tok.tx else em) false c.tok.ln c.tok.co).toArray)∧RurAt w' B p (c.take.name)∧Kp B w w':=by
 have hlt:=h.lt;have hplt:=h.plt;have hix:=h.ok.lt;have hlen:=h.len;have hr:=h.tk;have HH:=Hi h;obtain⟨cap,d0,d1,f1,-⟩:=h.c01;obtain⟨-,-,-,d4⟩:=h.c2;have hm:=zaJ h.ok (by rw[hK];decide) (by rw[hK];decide)
 have HTKf:=Hi (fun W (hc:RurAt W B p c)=>hc.tak hm)
 have hCL:=Hi (fun W (hc:RurAt W B p c.take)=>za6 B p c.take W hc)
 rw[zaW] at hCL;obtain⟨A,hA⟩:∃ A,A=if c.take.isN then c.take.tok.tx else em:=⟨_,rfl⟩
 obtain⟨XX,hX⟩:∃ X,X=if c.take.isN then c.take.tok.ln else 0:=⟨_,rfl⟩
 obtain⟨YY,hY⟩:∃ Y,Y=if c.take.isN then c.take.tok.co else 0:=⟨_,rfl⟩
 rw[←hA,←hX,←hY] at hCL;rw[←hA];clear hA hX hY;have bC0:=Hi (fun o o' o''=>show Below w.heap.size w (((w.alloc o).alloc o').alloc o'') from (((Below.refl _ _).alloc (lr _) o).alloc (by simp) o').alloc (by simp;omega) o'')
 obtain⟨ix,hk⟩:∃ ix,ix=c.ix:=⟨_,rfl⟩;obtain⟨n,hk2⟩:∃ n,n=c.ts.length:=⟨_,rfl⟩;obtain⟨t,hk3⟩:∃ t,t=c.tok:=⟨_,rfl⟩;obtain⟨kd,hk4⟩:∃ kd,kd=c.kd:=⟨_,rfl⟩;rw[←hk,←hk2] at hix;rw[←hk2] at d0 hlen;rw[←hk] at d1 hr HTKf;rw[←hk3] at hr hK hsdol ⊢;rw[←hk4] at d4 hkd;clear h hk hk2 hk3 hk4;have ii:(ix:Int)<(n:Int):=by omega
 have hn1:(ix:Int)+1<9223372036854775807:=by omega
 have bA:=qA w;have bA3:=qD w;have D0:=qc hlt d0;have D1:=qc hlt d1;have bB:=qB w;have bC:=qC w;have D4':=qd hlt d4;have D1':=qd hlt d1;have F1':=qf hlt f1;have E:=qg hr;obtain⟨e0,e1,e2,e3,e4,e5,e6⟩:=qe E;clear E hr d0 d1 d4 f1 bB bC;subst hkd;subst hct;rw[hK] at e0;rw[hsdol] at e5;clear hsdol;unfold bDol at e5;have hKW:=Hi (fun o o' o''=>Kp.of (B:=B) ((uh bA3) o o' o''))
 have hRW:=Hi (fun o o' o''=>(uh HH).below ((uh bA3) o o' o''))
 have hZ:=Hi (fun o o' o'' W (hk:Kp B ((((w.alloc o).alloc o').alloc o'').drew) W)=>show W.heap[w.heap.size]? = some o∧W.heap[w.heap.size+1]? = some o'∧W.heap[w.heap.size+1+1]? = some o''∧w.heap.size+1+1<W.heap.size from by
  have e1:=heap_alloc_new w o;have e2:=Below.heap_alloc (w.alloc o) o' w.heap.size (by simp)
  have e3:=Below.heap_alloc ((w.alloc o).alloc o') o'' w.heap.size (by simp;omega)
  have g1:=heap_alloc_new (w.alloc o) o';have g2:=Below.heap_alloc ((w.alloc o).alloc o') o'' (w.heap.size+1) (by simp)
  have k1:(((w.alloc o).alloc o').alloc o'').heap[w.heap.size+1+1]? = some o'':=by simpa using heap_alloc_new ((w.alloc o).alloc o') o''
  have hs:((((w.alloc o).alloc o').alloc o'').drew).heap.size=w.heap.size+3:=by simp[World.drew]
  have hsz:=hk.size;rw[hs] at hsz
  refine⟨(hk.block w.heap.size (by rw[hs];omega) (by omega)).trans (e3.trans (e2.trans e1)),(hk.block (w.heap.size+1) (by rw[hs];omega) (by omega)).trans (g2.trans (by simpa using g1)),(hk.block (w.heap.size+1+1) (by rw[hs];omega) (by omega)).trans k1,by omega⟩)
 have hA:=Hi (fun o o' o''=>((uh HTKf) _ ((uh HH).below ((uh bC0) o o' o''))).below (Go.below_drewN (Below.refl _ _) 1))
 have hKT:=Hi (fun o o' o''=>show Kp B ((((w.alloc o).alloc o').alloc o'').drew) ((((((w.alloc o).alloc o').alloc o'').setCell ⟨B,1,none⟩ (.int .i64 ((ix:Int)+1)))).drew) from (Kp.refl B _).set 1 _)
 unfold ptr at hCL ⊢
 go_enter func70,ntmps70
 go_wp2_with fail
 go_region
 go_wp2_with fail
 refine ((uh hCL) _ ((uh hA) _ _ _)).mono ?_
 rintro e w1 ⟨rfl,hc,hk⟩;obtain⟨z0,z1,z2,z3⟩:=(uh hZ) _ _ _ w1 (((uh hKT) _ _ _).trans hk);have HK:=Hi (((uh hKW) _ _ _).trans (((uh hKT) _ _ _).trans hk));have HC:=Hi hc;have hz1:w.heap.size+1<w1.heap.size:=by omega
 have HT:=Hi (fun o=>dt.zac ((Below.heap_alloc w1 o w.heap.size (by omega)).trans z0) (o:=0) (n:=7) (by decide))
 have y1:∀ o,(w1.alloc o).cell? ⟨w.heap.size+1,1,none⟩=some (.int .i64 t.ln):=fun o=>(zG ((Below.heap_alloc w1 o (w.heap.size+1) hz1).trans z1) 1).trans rfl
 have y2:∀ o,(w1.alloc o).cell? ⟨w.heap.size+1,2,none⟩=some (.int .i64 t.co):=fun o=>(zG ((Below.heap_alloc w1 o (w.heap.size+1) hz1).trans z1) 2).trans rfl
 clear hk hc hZ hKW hRW z0 z1 z2 hCL hA hKT
 go_wp2_with (first
  | refine wpList_store_mid (by rfl) 33 _ _ (by rfl) w.heap.size 0 (leafC 1 A false t.ln t.co).toArray (by rfl) (by rfl) ((uh HT) _) infoLt (dt.zab (cs:=leafC 1 A false t.ln t.co) (by rfl)) ?_)
 refine bodyPost_ret (rgn.zai rfl _ _ w.heap.size 0 (leafC 1 A false t.ln t.co) _ rfl (World.rangeAt_setCells_same _ _ _ _ ((uh HT) _)) underlying33 rfl infoLt) rfl ?_
 exact⟨rfl,((uh HC).below (ba)).out (by omega) (by omega) 0 _,((uh HK).trans (Kp.of (ba))).out (lr _) 0 _⟩
theorem zhq{c:Cu}{q:ByteArray}(h0:c.kd=0)(h2:c.tok.k=2)(hq:c.tok.tx=q):c.isP q=true:=decide_eq_true ⟨h0,h2,hq⟩
theorem zbK{c:Cu}{q:ByteArray}(h:¬(c.tok.k=2∧c.tok.tx=q)):c.isP q=false:=decide_eq_false (fun e=>h e.2)
theorem zaP(B p:Nat)(c:Cu)(ct:Bool)(w:World)(K:Int × ByteArray × Bool × Int × Int)(C:Cu)(hK:oneK ct c=K)(hC:oneC ct c=C)(h:Calls prog 70 #[ptr B,.bool ct] w fun e w'=>e = .returned (.agg (leafC K.1 K.2.1 K.2.2.1 K.2.2.2.1 K.2.2.2.2).toArray)∧RurAt w' B p C∧Kp B w w'):Calls prog 70 #[ptr B,.bool ct] w fun e w'=>e = .returned (.agg (oneV ct c).toArray)∧RurAt w' B p (oneC ct c)∧Kp B w w':=by
 unfold oneV;rw[hK,hC];exact h
theorem zhU(B p:Nat)(c:Cu)(ct:Bool)(w:World)(h:RurAt w B p c):Calls prog 70 #[ptr B,.bool ct] w fun e w'=>e = .returned (.agg (oneV ct c).toArray)∧RurAt w' B p (oneC ct c)∧Kp B w w':=by
 by_cases hkd:c.kd=0
 ·by_cases k4:c.tok.k=4
  ·exact zaP B p c ct w (2,c.tok.tx,false,c.tok.ln,c.tok.co) c.take (by simp[oneK,hkd,k4]) (by simp[oneC,hkd,k4]) (zlw B p c ct w h hkd k4)
  by_cases k5:c.tok.k=5
  ·exact zaP B p c ct w (3,c.tok.tx,false,c.tok.ln,c.tok.co) c.take (by simp[oneK,hkd,k5]) (by simp[oneC,hkd,k5]) (zlv B p c ct w h hkd k5)
  by_cases k6:c.tok.k=6
  ·exact zaP B p c ct w (4,c.tok.va,false,c.tok.ln,c.tok.co) c.take (by simp[oneK,hkd,k6]) (by simp[oneC,hkd,k6]) (zly B p c ct w h hkd k6)
  by_cases k7:c.tok.k=7
  ·exact zaP B p c ct w (4,c.tok.va,true,c.tok.ln,c.tok.co) c.take (by simp[oneK,hkd,k7]) (by simp[oneC,hkd,k7]) (zlt B p c ct w h hkd k7)
  by_cases k3:c.tok.k=3
  ·by_cases h1:c.tok.tx=bTrue
   ·exact zaP B p c ct w (5,c.tok.tx,false,c.tok.ln,c.tok.co) c.take (by simp[oneK,hkd,k3,h1]) (by simp[oneC,hkd,k3]) (zjy B p c ct w h hkd k3 h1)
   by_cases h2:c.tok.tx=bFalse
   ·exact zaP B p c ct w (5,c.tok.tx,false,c.tok.ln,c.tok.co) c.take (by simp[oneK,hkd,k3,h2]) (by simp[oneC,hkd,k3]) (zhQ B p c ct w h hkd k3 h1 h2)
   by_cases h3:c.tok.tx=bNull
   ·exact zaP B p c ct w (6,em,false,c.tok.ln,c.tok.co) c.take (by unfold oneK;rw[if_neg (fun e=>e hkd),if_neg k4,if_neg k5,if_neg (by rintro (e | e);exact k6 e;exact k7 e),if_pos k3,if_neg (by rintro (e | e);exact h1 e;exact h2 e),if_pos h3]) (by simp[oneC,hkd,k3]) (zjx B p c ct w h hkd k3 h1 h2 h3)
   ·exact zaP B p c ct w (7,c.tok.tx,false,c.tok.ln,c.tok.co) c.take (by unfold oneK;rw[if_neg (fun e=>e hkd),if_neg k4,if_neg k5,if_neg (by rintro (e | e);exact k6 e;exact k7 e),if_pos k3,if_neg (by rintro (e | e);exact h1 e;exact h2 e),if_neg h3]) (by simp[oneC,hkd,k3]) (zjv B p c ct w h hkd k3 h1 h2 h3)
  have HK:oneK ct c=if c.isP bDol∧ct=false then (1,(if c.take.isN then c.take.tok.tx else em),false,c.tok.ln,c.tok.co) else if c.isP bLb then (8,em,false,c.tok.ln,c.tok.co) else if c.isP bLc then (9,em,false,c.tok.ln,c.tok.co) else (0,em,false,0,0):=by
   unfold oneK;rw[if_neg (fun e=>e hkd),if_neg k4,if_neg k5,if_neg (by rintro (e | e);exact k6 e;exact k7 e),if_neg k3]
  have HC:oneC ct c=if c.isP bDol∧ct=false then c.take.name else if c.isP bLb then c.opn bLb else if c.isP bLc then c.opn bLc else c.stop 70:=by
   unfold oneC;rw[if_neg (fun e=>e hkd),if_neg (by rintro (e | e | e | e | e);exact k4 e;exact k5 e;exact k6 e;exact k7 e;exact k3 e)]
  by_cases k2:c.tok.k=2
  ·by_cases hd:c.tok.tx=bDol
   ·have e1:=zhq hkd k2 hd
    have e2:c.isP bLb=false:=zbK (fun e=>by have:=e.2;rw[hd] at this;exact absurd this (by decide))
    have e3:c.isP bLc=false:=zbK (fun e=>by have:=e.2;rw[hd] at this;exact absurd this (by decide))
    cases ct with
    | false=>exact zaP B p c false w (1,(if c.take.isN then c.take.tok.tx else em),false,c.tok.ln,c.tok.co) c.take.name (by rw[HK,if_pos ⟨e1,rfl⟩]) (by rw[HC,if_pos ⟨e1,rfl⟩]) (zlz B p c false w h hkd k2 hd rfl)
    | true=>exact zaP B p c true w (0,em,false,0,0) (c.stop 70) (by rw[HK,if_neg (fun e=>by cases e.2),e2,e3];rfl) (by rw[HC,if_neg (fun e=>by cases e.2),e2,e3];rfl) (zhT B p c true w h hkd k2 hd rfl)
   ·have e1:c.isP bDol=false:=zbK (fun e=>hd e.2)
    rw[e1,if_neg (fun e=>by cases e.1)] at HK HC
    by_cases hl:c.tok.tx=bLb
    ·have e2:=zhq hkd k2 hl
     exact zaP B p c ct w (8,em,false,c.tok.ln,c.tok.co) (c.opn bLb) (by rw[HK,if_pos e2]) (by rw[HC,if_pos e2]) (zjw B p c ct w h hkd k2 hl)
    ·have e2:c.isP bLb=false:=zbK (fun e=>hl e.2)
     rw[e2,if_neg (by decide)] at HK HC
     by_cases ho:c.tok.tx=bLc
     ·have e3:=zhq hkd k2 ho
      exact zaP B p c ct w (9,em,false,c.tok.ln,c.tok.co) (c.opn bLc) (by rw[HK,if_pos e3]) (by rw[HC,if_pos e3]) (zlx B p c ct w h hkd k2 ho)
     ·have e3:c.isP bLc=false:=zbK (fun e=>ho e.2)
      rw[e3,if_neg (by decide)] at HK HC
      exact zaP B p c ct w (0,em,false,0,0) (c.stop 70) HK HC (zhS B p c ct w h hkd k2 hd hl ho)
  ·have e1:c.isP bDol=false:=zbK (fun e=>k2 e.1)
   have e2:c.isP bLb=false:=zbK (fun e=>k2 e.1)
   have e3:c.isP bLc=false:=zbK (fun e=>k2 e.1)
   rw[e1,e2,e3,if_neg (fun e=>by cases e.1)] at HK HC
   exact zaP B p c ct w (0,em,false,0,0) (c.stop 70) HK HC (zhR B p c ct w h hkd ⟨k4,k5,k6,k7,k3,k2⟩)
 ·exact zaP B p c ct w (0,em,false,0,0) c (by unfold oneK;rw[if_pos hkd]) (by unfold oneC;rw[if_pos hkd]) (zju B p c ct w h hkd)
structure Fr where
 ob:Bool
 f:Nat
 g:Nat
 ds:List Dt
 pn:Option (ByteArray × Int × Int)
 ln:Int
 co:Int
def Fr.E(ct:Bool)(F:Fr):Cu→Option Dt × Cu:=if F.ob then argS (litF ct F.f) else litF ct F.f
def Fr.right(F:Fr):ByteArray:=if F.ob then bRc else bRb
def Fr.lit(F:Fr)(l:List Dt):Dt:=if F.ob then litD 9 em false .nil (Dt.of l) F.ln F.co else litD 8 em false (Dt.of l) .nil F.ln F.co
def Fr.fin(F:Fr)(x:Option (List Dt) × Cu):Option Dt × Cu:=match x.1 with
 | none=>(none,x.2)
 | some l=>(some (F.lit l),x.2)
def Fr.put(F:Fr)(d:Dt):Dt:=match F.pn with
 | some (nm,l,c)=>fldD nm d l c
 | none=>d
def ret(ct:Bool):List Fr→Option Dt × Cu→Option Dt × Cu
 | [],x=>x
 | F::S,x=>ret ct S (match x.1 with | none=>(none,x.2) | some d=>F.fin (brkF (F.E ct) F.right 0 F.g (F.ds++[F.put d]) x.2))
theorem zf4(ct:Bool):∀ (S:List Fr) (c:Cu),ret ct S (none,c)=(none,c)
 | [],c=>rfl
 | F::S,c=>zf4 ct S c
def Fr.loop(ct:Bool)(F:Fr)(c:Cu):Option Dt × Cu:=F.fin (brkF (F.E ct) F.right 0 F.g F.ds c)
def Fr.next(F:Fr)(d:Dt):Fr:={ F with ds:=F.ds++[F.put d],pn:=none }
theorem zjK(ct:Bool)(F:Fr)(S:List Fr)(d:Dt)(c:Cu):ret ct (F::S) (some d,c)=ret ct S ((F.next d).loop ct c):=rfl
theorem zgv(ct:Bool)(F:Fr)(c:Cu)(g:Nat)(hg:F.g=g+1)(hp:c.isP F.right=true):F.loop ct c=(some (F.lit F.ds),c.cls F.right):=by
 unfold Fr.loop;rw[hg,brkF,if_neg (by rw[hp];rintro (e | e);exact absurd e (Nat.not_lt_zero _);cases e)]
 rfl
theorem zhB(ct:Bool)(F:Fr)(S:List Fr)(c:Cu)(g:Nat)(hg:F.g=g+1)(ho:F.ob=false)(hp:c.isP F.right=false):ret ct S (F.loop ct c)=ret ct ({ F with g:=g,pn:=none }::S) (litF ct F.f c):=by
 unfold Fr.loop;rw[hg,brkF,if_pos (.inr hp)]
 show ret ct S _=ret ct S _
 have hE:F.E ct=litF ct F.f:=by unfold Fr.E;rw[ho];rfl
 rw[hE]
 cases h:(litF ct F.f c).1 with
 | none=>rfl
 | some d =>
  have hE2:Fr.E ct { F with g:=g,pn:=none }=litF ct F.f:=by unfold Fr.E;simp only[ho];rfl
  simp only[hE2];rfl
theorem zjj(ct:Bool)(F:Fr)(S:List Fr)(c:Cu)(g:Nat)(hg:F.g=g+1)(ho:F.ob=true)(hp:c.isP F.right=false):ret ct S (F.loop ct c)=ret ct ({ F with g:=g,pn:=some (c.tok.tx,c.tok.ln,c.tok.co) }::S) (litF ct F.f (c.name.want bCol)):=by
 unfold Fr.loop;rw[hg,brkF,if_pos (.inr hp)]
 show ret ct S _=ret ct S _
 have hE:F.E ct=argS (litF ct F.f):=by unfold Fr.E;rw[ho];rfl
 rw[hE];unfold argS
 cases h:(litF ct F.f (c.name.want bCol)).1 with
 | none=>rfl
 | some d =>
  have hE2:Fr.E ct { F with g:=g,pn:=some (c.tok.tx,c.tok.ln,c.tok.co) }=argS (litF ct F.f):=by unfold Fr.E;simp only[ho];rfl
  simp only[hE2];rfl
theorem zji(ct:Bool)(f:Nat)(c:Cu)(hkd:c.kd=0)(ob:Bool)(hp:c.isP (if ob then bLc else bLb)=true)(hop:c.opB (if ob then bLc else bLb)=true) :
  litF ct (f+1) c=Fr.loop ct ⟨ob,f,c.ts.length,[],none,c.tok.ln,c.tok.co⟩ (c.opn (if ob then bLc else bLb)):=by
 have h2:=ze7 hp;have hne:∀ k:Int,k≠2 → ¬c.tok.k=k:=fun k hk e=>hk (by rw[←e];exact h2.2.1)
 show litS (litF ct f) ct c=_
 unfold litS;rw[if_neg (fun e=>e hkd),if_neg (hne 4 (by decide)),if_neg (hne 5 (by decide)),if_neg (by rintro (e | e);exact hne 6 (by decide) e;exact hne 7 (by decide) e),if_neg (hne 3 (by decide))]
 have hd:c.isP bDol=false:=zbK (fun e=>by have:=e.2;rw[h2.2.2] at this;revert this;cases ob <;> decide)
 rw[if_neg (fun e=>by rw[hd] at e;cases e.1)]
 cases ob with
 | false =>
  simp only[Bool.false_eq_true,if_false] at hp hop ⊢;rw[if_pos hp];unfold listS brk;rw[if_pos hop];unfold Fr.loop Fr.fin Fr.E Fr.right Fr.lit;simp only[Bool.false_eq_true,if_false]
  cases (brkF (litF ct f) bRb 0 c.ts.length [] (c.opn bLb)).1 <;> rfl
 | true =>
  simp only[if_true] at hp hop ⊢;have hl:c.isP bLb=false:=zbK (fun e=>by have:=e.2;rw[(ze7 hp).2.2] at this;revert this;decide)
  rw[hl,if_neg (by decide),if_pos hp]
  unfold objS brk;rw[if_pos hop];unfold Fr.loop Fr.fin Fr.E Fr.right Fr.lit;simp only[if_true]
  cases (brkF (argS (litF ct f)) bRc 0 c.ts.length [] (c.opn bLc)).1 <;> rfl
open dt (Dt Kp RowAt Ow OwL OwIn Grow)
theorem zb1{base:Nat}{e:TypeId}{size g n cap:Nat}:∀ (vs old A C:List Value) (w:World),old.length=vs.length→w.ownsRow base e size (.slice (some ⟨g,0,none⟩) n cap) n (A++(old++C))→(w.setCells g A.length vs).ownsRow base e size (.slice (some ⟨g,0,none⟩) n cap) n (A++(vs++C))
 | [],old,A,C,w,hl,h=>by
  have:old=[]:=List.eq_nil_of_length_eq_zero hl;subst this;exact h
 | v::vs,[],A,C,w,hl,h=>by simp at hl
 | v::vs,o::old,A,C,w,hl,h=>by
  have h1:=(h.stored A.length v).1;have e1:(A++(o::old++C)).set A.length v=(A++[v])++(old++C):=by simp
  rw[e1] at h1;have h2:=zb1 vs old (A++[v]) C _ (by simpa using hl) h1
  have e2:(A++[v]).length=A.length+1:=by simp
  rw[e2] at h2
  simpa[World.setCells] using h2
def obl(v:Value):List Nat:=v.ownBlock.toList
theorem zax{v:Value}{b:Nat}:b∈obl v ↔ v.ownBlock=some b:=by
 unfold obl
 cases v.ownBlock with
 | none=>simp
 | some x=>simp[eq_comm]
theorem Grow.keepF{t:TypeId}{size:Nat}{w w':World}{B:Nat}{l:List Dt}{sl:Value}{G:List Nat}(h:Grow t size w B l sl G)(hs:w.heap.size≤w'.heap.size)(hb:∀ b∈obl sl++G,w'.heap[b]? = w.heap[b]?):Grow t size w' B l sl G:=by
 obtain⟨xss,hr,hl,hx⟩:=h.row;have hG:∀ b∈G,w'.heap[b]? = w.heap[b]? := fun b hm=>hb b (List.mem_append_right _ hm)
 exact⟨h.nodup,fun b hm=>⟨(h.rng b hm).1,Nat.lt_of_lt_of_le (h.rng b hm).2 hs⟩,h.own,xss,dt.zaA hr (fun b h1 h2 h3=>hb b (List.mem_append_left _ (zax.2 h3))),OwL.agree (fun w w' e cs F=>Ow.agree e cs F) (fun b hm j=>dt.zaf (hG b hm) j) hl,hx⟩
theorem Grow.rngF{t:TypeId}{size:Nat}{w:World}{B:Nat}{l:List Dt}{sl:Value}{G:List Nat}(h:Grow t size w B l sl G):(∀ b∈obl sl++G,B≤b∧b<w.heap.size)∧(obl sl++G).Nodup:=by
 obtain⟨xss,hr,hl,hx⟩:=h.row;refine⟨fun b hb=>?_,?_⟩
 ·rcases List.mem_append.1 hb with hb | hb
  ·exact hr.lt b (zax.1 hb)
  ·exact h.rng b hb
 ·rw[List.nodup_append]
  refine⟨by unfold obl;cases sl.ownBlock <;> simp,h.nodup,fun x hx y hy e=>?_⟩
  subst e;exact h.own x hy (zax.1 hx)
theorem Grow.shutF{t:TypeId}{size:Nat}{w:World}{B:Nat}{l:List Dt}{sl:Value}{G:List Nat}(h:Grow t size w B l sl G):∃ (a:Option Addr) (n c:Nat),sl = .slice a n c∧n≤c∧c≤maxLen∧(a=none→c=0)∧n=l.length ∧
  ((a=none∧Dt.of l = .nil∧n=0∧obl sl++G=[])∨∃ p G',a=some ⟨p,0,none⟩∧obl sl++G=p::G'∧OwIn w (Dt.of l) size p 0 n G'):=by
 obtain⟨xss,hr,hol,hx⟩:=h.row;have hr2:=hr;obtain⟨h1,h2⟩:=hr
 rcases h2 with ⟨rfl,h3⟩ | ⟨g,cap,cur,rfl,hg,hh,hnc,hcm,r⟩
 ·have hl0:l=[]:=List.eq_nil_of_length_eq_zero h3
  subst hl0
  have hG:G=[]:=by
   cases xss with
   | nil=>exact hol.2
   | cons a b=>exact absurd hol.1 (by simp)
  subst hG;exact⟨none,0,0,rfl,lr _,Nat.zero_le _,fun _=>rfl,rfl,.inl ⟨rfl,rfl,rfl,rfl⟩⟩
 ·refine⟨_,_,_,rfl,hnc,hcm,(fun e=>by cases e),rfl,.inr ⟨g,G,rfl,rfl,?_⟩⟩
  refine OwL.shut l xss G 0 hol hx (fun i u hu=>?_)
  have hi:i<l.length * size:=by
   have:=(List.getElem?_eq_some_iff.1 hu).1
   rw[h1] at this;exact this
  rw[Nat.zero_add];rw[World.ownsRow.cellAt hr2 i (by first | exact hi | omega)]
  exact hu
def Fr.els(F:Fr):List Dt:=F.ds++(match F.pn with | some (nm,l,c)=>[fldD nm zeroD l c] | none=>[])
def Fr.T(F:Fr):TypeId:=if F.ob then 59 else 33
def Fr.sz(F:Fr):Nat:=if F.ob then 10 else 7
def Fr.cells(F:Fr)(sl:Value):List Value:=if F.ob then [.int .i64 9,.string em,.bool false,.slice none 0 0,sl,.int .i64 F.ln,.int .i64 F.co] else [.int .i64 8,.string em,.bool false,sl,.slice none 0 0,.int .i64 F.ln,.int .i64 F.co]
theorem Fr.cells_7(F:Fr)(sl:Value):(F.cells sl).length=7:=by unfold Fr.cells;split <;> rfl
structure FrAt (w:World) (base:Nat) (F:Fr) (cs:List Value) (G:List Nat):Prop where
 ex:∃ sl G',cs=F.cells sl∧Grow F.T F.sz w base F.els sl G'∧G=obl sl++G'
theorem FrAt.keep{w w':World}{base:Nat}{F:Fr}{cs:List Value}{G:List Nat}(h:FrAt w base F cs G)(hs:w.heap.size≤w'.heap.size)(hb:∀ b∈G,w'.heap[b]? = w.heap[b]?):FrAt w' base F cs G:=by
 obtain⟨sl,G',h1,h2,rfl⟩:=h.ex;exact⟨sl,G',h1,Grow.keepF h2 hs hb,rfl⟩
theorem FrAt.rng{w:World}{base:Nat}{F:Fr}{cs:List Value}{G:List Nat}(h:FrAt w base F cs G):(∀ b∈G,base≤b∧b<w.heap.size)∧G.Nodup∧cs.length=7:=by
 obtain⟨sl,G',rfl,h2,rfl⟩:=h.ex;exact⟨(Grow.rngF h2).1,(Grow.rngF h2).2,F.cells_7 sl⟩
theorem FrAt.done{w:World}{base:Nat}{F:Fr}{cs:List Value}{G:List Nat}(h:FrAt w base F cs G)(hp:F.pn=none):Ow w (F.lit F.ds) cs G∧LShape cs:=by
 obtain⟨sl,G',rfl,h2,rfl⟩:=h.ex;have he:F.els=F.ds:=by unfold Fr.els;rw[hp];simp
 rw[he] at h2;obtain⟨a,n,c,rfl,h3,h4,h5,h6,h7⟩:=Grow.shutF h2;unfold Fr.cells Fr.lit;unfold Fr.sz at h7
 cases ho:F.ob with
 | false =>
  rw[ho] at h7;simp only[Bool.false_eq_true,if_false] at h7 ⊢;refine⟨?_,⟨_,_,_,_,_,_,_,_,_,_,_,rfl⟩⟩
  unfold litD;unfold Ow;refine⟨_,rfl,rfl,?_⟩
  unfold Ow;refine⟨_,rfl,rfl,?_⟩
  unfold Ow;refine⟨_,rfl,rfl,?_⟩
  unfold Ow;refine⟨a,n,c,_,_,[],rfl,h3,h4,h5,h7,?_,by simp⟩
  unfold Ow;refine⟨none,0,0,_,[],[],rfl,lr _,Nat.zero_le _,fun _=>rfl,.inl ⟨rfl,rfl,rfl,rfl⟩,zdD _ _ _,rfl⟩
 | true =>
  rw[ho] at h7;simp only[if_true] at h7 ⊢;refine⟨?_,⟨_,_,_,_,_,_,_,_,_,_,_,rfl⟩⟩
  unfold litD;unfold Ow;refine⟨_,rfl,rfl,?_⟩
  unfold Ow;refine⟨_,rfl,rfl,?_⟩
  unfold Ow;refine⟨_,rfl,rfl,?_⟩
  unfold Ow;refine⟨none,0,0,_,[],_,rfl,lr _,Nat.zero_le _,fun _=>rfl,.inl ⟨rfl,rfl,rfl,rfl⟩,?_,rfl⟩
  unfold Ow;exact⟨a,n,c,_,_,[],rfl,h3,h4,h5,h7,zdD _ _ _,by simp⟩
def Stk(w:World)(base:Nat):List Fr→List (List Value)→List Nat→Prop
 | [],rows,G=>rows=[]∧G=[]
 | F::S,rows,G=>∃ cs rs G1 G2,rows=cs::rs∧G=G1++G2∧FrAt w base F cs G1∧Stk w base S rs G2
theorem Stk.keep{w w':World}{base:Nat}(hs:w.heap.size≤w'.heap.size):∀ {S:List Fr} {rows:List (List Value)} {G:List Nat},Stk w base S rows G→(∀ b∈G,w'.heap[b]? = w.heap[b]?)→Stk w' base S rows G
 | [],rows,G,h,_=>h
 | F::S,rows,G,h,hb=>by
  obtain⟨cs,rs,G1,G2,rfl,rfl,h1,h2⟩:=h;exact⟨cs,rs,G1,G2,rfl,rfl,h1.keep hs (fun b hm=>hb b (List.mem_append_left _ hm)),Stk.keep hs h2 (fun b hm=>hb b (List.mem_append_right _ hm))⟩
theorem Stk.len{w:World}{base:Nat}:∀ {S:List Fr} {rows:List (List Value)} {G:List Nat},Stk w base S rows G→rows.length=S.length∧(∀ r∈rows,r.length=7)∧∀ b∈G,base≤b∧b<w.heap.size
 | [],rows,G,h=>by obtain⟨rfl,rfl⟩:=h;simp
 | F::S,rows,G,h=>by
  obtain⟨cs,rs,G1,G2,rfl,rfl,h1,h2⟩:=h;have h3:=Stk.len h2;have h4:=h1.rng;refine⟨by simp[h3.1],fun r hr=>?_,fun b hb=>?_⟩
  ·rcases List.mem_cons.1 hr with rfl | hr
   ·exact h4.2.2
   ·exact h3.2.1 r hr
  ·rcases List.mem_append.1 hb with hb | hb
   ·exact h4.1 b hb
   ·exact h3.2.2 b hb
structure Mch (w:World) (base:Nat) (stk:Value) (S:List Fr) (rows:List (List Value)) (G:List Nat):Prop where
 st:Stk w base S rows G
 row:w.ownsRow base 33 7 stk S.length rows.reverse.flatten
 nodup:G.Nodup
 out:∀ b∈G,stk.ownBlock≠some b
theorem Mch.nil(w:World)(base:Nat):Mch w base (.slice none 0 0) [] [] []:=⟨⟨rfl,rfl⟩,World.ownsRow_nil _ _ _ _,List.nodup_nil,by simp⟩
theorem Mch.keep{w w':World}{base:Nat}{stk:Value}{S:List Fr}{rows:List (List Value)}{G:List Nat}(h:Mch w base stk S rows G)(hs:w.heap.size≤w'.heap.size)(hb:∀ b,b<w.heap.size→base≤b→w'.heap[b]? = w.heap[b]?):Mch w' base stk S rows G:=
 ⟨h.st.keep hs (fun b hm=>hb b (h.st.len.2.2 b hm).2 (h.st.len.2.2 b hm).1),dt.zaA h.row (fun b h1 h2 _=>hb b h1 h2),h.nodup,h.out⟩
theorem Mch.kp{w w':World}{base B:Nat}{stk:Value}{S:List Fr}{rows:List (List Value)}{G:List Nat}(h:Mch w base stk S rows G)(hk:Kp B w w')(hB:B<base):Mch w' base stk S rows G:=h.keep hk.size (fun b h1 h2=>hk.block b h1 (by omega))
theorem Mch.push{w w':World}{base:Nat}{stk stk':Value}{S:List Fr}{rows:List (List Value)}{G:List Nat}(h:Mch w base stk S rows G)(F:Fr)(hF:F.els=[])(hrow:w'.ownsRow base 33 7 stk' (S.length+1) (rows.reverse.flatten++F.cells (.slice none 0 0)))
  (hs:w.heap.size≤w'.heap.size) (hold:∀ b,b<w.heap.size→stk.ownBlock≠some b→w'.heap[b]? = w.heap[b]?) (hat:∀ b,stk'.ownBlock=some b→stk.ownBlock=some b∨w.heap.size≤b):Mch w' base stk' (F::S) (F.cells (.slice none 0 0)::rows) G:=by
 have hl:=h.st.len;refine⟨⟨_,_,[],G,rfl,rfl,⟨.slice none 0 0,[],rfl,by rw[hF];exact Grow.nil,rfl⟩,h.st.keep hs (fun b hm=>hold b (hl.2.2 b hm).2 (h.out b hm))⟩,by simpa using hrow,h.nodup,fun b hm e=>?_⟩
 rcases hat b e with e1 | e1
 ·exact h.out b hm e1
 ·have:=(hl.2.2 b hm).2;omega
theorem Mch.top{w:World}{base:Nat}{stk:Value}{F:Fr}{S:List Fr}{rows:List (List Value)}{G:List Nat}(h:Mch w base stk (F::S) rows G):∃ g cap cs rs G1 G2,stk = .slice (some ⟨g,0,none⟩) (S.length+1) cap∧S.length+1≤cap∧base≤g∧g<w.heap.size∧rows=cs::rs∧G=G1++G2∧FrAt w base F cs G1∧Stk w base S rs G2∧RowAt w g (S.length * 7) cs∧w.there g (S.length * 7) 7∧rs.reverse.flatten.length=S.length * 7:=by
 obtain⟨cs,rs,G1,G2,rfl,rfl,h1,h2⟩:=h.st;have hr:=h.row;have hc7:=h1.rng.2.2
 have hrs:rs.reverse.flatten.length=S.length * 7:=by
  have:=h2.len;rw[←this.1]
  have:∀ l:List (List Value),(∀ r∈l,r.length=7)→l.flatten.length=l.length * 7:=fun l hl=>by
   induction l with
   | nil=>rfl
   | cons a l ih=>rw[List.flatten_cons,List.length_append,ih (fun r hr=>hl r (by simp[hr])),hl a (by simp),List.length_cons];omega
  rw[this _ (fun r hr=>h2.len.2.1 r (by simpa using hr))]
  simp
 rw[List.reverse_cons,List.flatten_append] at hr;obtain⟨hl,h3⟩:=hr
 rcases h3 with ⟨_,h0⟩ | ⟨g,cap,cur,e,hg,hh,hnc,hcm,hcs,hx⟩
 ·simp at h0
 have hr2:w.ownsRow base 33 7 (.slice (some ⟨g,0,none⟩) (S.length+1) cap) (S.length+1) (rs.reverse.flatten++[cs].flatten):=⟨hl,.inr ⟨g,cap,cur,rfl,hg,hh,hnc,hcm,hcs,hx⟩⟩;have hgl:g<w.heap.size:=by rcases Nat.lt_or_ge g w.heap.size with h | h;exact h;rw[Array.getElem?_eq_none h] at hh;cases hh
 have hRow:RowAt w g (S.length * 7) cs:=fun i u hu=>by
  have hi:=(List.getElem?_eq_some_iff.1 hu).1
  rw[World.ownsRow.cellAt hr2 (S.length * 7+i) (by omega),List.getElem?_append_right (by omega),hrs,show S.length * 7+i-S.length * 7=i by omega]
  simpa using hu
 refine⟨g,cap,cs,rs,G1,G2,e,hnc,hg,hgl,rfl,rfl,h1,h2,hRow,fun j hj=>?_,hrs⟩
 have hi:j<cs.length:=by omega
 have:=hRow j _ (List.getElem?_eq_getElem hi)
 exact⟨by rw[this];rfl,World.ownsRow.frozenAt hr2 _⟩
end cr
namespace cu
open dt (Dt)
theorem zby(c:Cu)(k:Int)(hk:k≠0):(c.stop k).kd≠0:=by
 unfold Cu.stop
 split
 ·exact hk
 ·assumption
theorem zdp(c:Cu)(k:Int)(h:c.kd≠0):c.stop k=c:=if_neg h
def Faults{A:Type}(E:Cu→Option A × Cu)(b:Nat):Prop:=∀ c,c.Ok→c.ts.length≤b+c.ix→(E c).1=none→(E c).2.kd≠0
theorem zc2{E:Cu→Option Dt × Cu}(hG:Goes E)(b:Nat)(hE:Faults E b)(right:ByteArray)(least:Nat):∀ (g:Nat) (l:List Dt) (c:Cu),c.Ok→c.ts.length≤b+c.ix→c.ts.length≤g+c.ix→(brkF E right least g l c).1=none→(brkF E right least g l c).2.kd≠0
 | 0,l,c,h,hb,hg,hn=>by have:=h.lt;omega
 | g+1,l,c,h,hb,hg,hn=>by
  simp only[brkF] at hn ⊢
  split
  ·rename_i hc
   rw[if_pos hc] at hn
   cases hq:(E c).1 with
   | none=>exact hE c h hb hq
   | some d =>
    rw[hq] at hn;have h1:=hG c h;have h2:=h1.2 (by rw[hq];rfl)
    exact zc2 hG b hE right least g _ _ h1.1.ok (by rw[h1.1.ts];omega) (by rw[h1.1.ts];omega) hn
  ·rename_i hc
   rw[if_neg hc] at hn
   cases hn
theorem zkA{c:Cu}{p:ByteArray}(h:c.opB p=false):(c.opn p).kd≠0:=by
 unfold Cu.opB at h;unfold Cu.opn
 split
 ·rename_i hp
  rw[hp] at h;simp only[Bool.true_and,decide_eq_false_iff_not] at h;rw[if_neg h];exact zby _ _ (by decide)
 ·exact zby _ _ (by decide)
theorem zcp{E:Cu→Option Dt × Cu}(hG:Goes E)(b:Nat)(hE:Faults E b)(left right:ByteArray)(least:Nat)(c:Cu)(h:c.Ok)(hb:c.ts.length≤b+1+c.ix)(hn:(brk E left right least c).1=none):(brk E left right least c).2.kd≠0:=by
 unfold brk at hn ⊢;have ho:=za2 h left
 split
 ·rename_i hB
  rw[if_pos hB] at hn;have hx:=zbL hB;exact zc2 hG b hE right least c.ts.length [] _ ho.ok (by rw[ho.ts,hx];omega) (by rw[ho.ts];omega) hn
 ·rename_i hB
  exact zkA (by simpa using hB)
theorem zc0{L:Cu→Option Dt × Cu}(b:Nat)(hL:Faults L b):Faults (argS L) b:=by
 intro c h hb hn;have h1:=zan h;have h2:=zaV h1.ok bCol;have h3:=h1.trans h2;unfold argS at hn ⊢
 cases hq:(L (c.name.want bCol)).1 with
 | none=>exact hL _ h3.ok (by rw[h3.ts];have:=h3.ix;omega) hq
 | some v=>rw[hq] at hn;cases hn
theorem zlk{c:Cu}(h:c.isN=false):c.name.kd≠0:=by
 unfold Cu.name;rw[h];exact zby _ _ (by decide)
theorem zbZ(ct:Bool):∀ f,Faults (litF ct f) f
 | 0=>fun c h hb=>by have:=h.lt;omega
 | f+1=>by
  intro c h hb hn;have ih:=zbZ ct f
  change (litS (litF ct f) ct c).1=none at hn
  show (litS (litF ct f) ct c).2.kd≠0
  unfold litS at hn ⊢
  split
  ·assumption
  rename_i h0
  rw[if_neg h0] at hn
  split
  ·rename_i h1;rw[if_pos h1] at hn;cases hn
  rename_i h1;rw[if_neg h1] at hn
  split
  ·rename_i h2;rw[if_pos h2] at hn;cases hn
  rename_i h2;rw[if_neg h2] at hn
  split
  ·rename_i h3;rw[if_pos h3] at hn;cases hn
  rename_i h3;rw[if_neg h3] at hn
  split
  ·rename_i h4;rw[if_pos h4] at hn;cases hn
  rename_i h4;rw[if_neg h4] at hn
  split
  ·rename_i h5
   rw[if_pos h5] at hn;unfold varS at hn ⊢
   split
   ·rename_i h6;rw[if_pos h6] at hn;cases hn
   ·rename_i h6
    exact zlk (by simpa using h6)
  rename_i h5;rw[if_neg h5] at hn
  split
  ·rename_i h6
   rw[if_pos h6] at hn;unfold listS at hn ⊢
   cases hq:(brk (litF ct f) bLb bRb 0 c).1 with
   | none=>exact zcp (zas ct f) f ih bLb bRb 0 c h (by omega) hq
   | some l=>rw[hq] at hn;cases hn
  rename_i h6;rw[if_neg h6] at hn
  split
  ·rename_i h7
   rw[if_pos h7] at hn;unfold objS at hn ⊢
   cases hq:(brk (argS (litF ct f)) bLc bRc 0 c).1 with
   | none=>exact zcp (zbi (zas ct f)) f (zc0 f ih) bLc bRc 0 c h (by omega) hq
   | some l=>rw[hq] at hn;cases hn
  ·exact zby _ _ (by decide)
mutual
def fvD:Dt→Option (Int × Int)
 | .val (.int .i64 k) (.val _ (.val _ (.lst _ its (.lst _ fls (.val (.int .i64 ln) (.val (.int .i64 co) _))))))=>if k=1 then some (ln,co) else (fvL its).or (fvG fls)
 | _=>none
def fvL:Dt→Option (Int × Int)
 | .row e r=>(fvD e).or (fvL r)
 | _=>none
def fvG:Dt→Option (Int × Int)
 | .row (.val _ v) r=>(fvD v).or (fvG r)
 | _=>none
end
def IsLit:Nat→Dt→Prop
 | 0,_=>False
 | f+1,d=>∃ k tx bl its fls ln co,d=litD k tx bl (Dt.of its) (Dt.of fls) ln co∧(∀ x∈its,IsLit f x)∧(∀ y∈fls,∃ nm v ln co,y=fldD nm v ln co∧IsLit f v)
theorem zfx{E:Cu→Option Dt × Cu}{p:Dt→Prop}(hE:∀ c d,(E c).1=some d→p d)(right:ByteArray)(least:Nat):∀ (g:Nat) (l:List Dt) (c:Cu) (l':List Dt),(∀ d∈l,p d)→(brkF E right least g l c).1=some l'→∀ d∈l',p d
 | 0,l,c,l',_,h=>by simp[brkF] at h
 | g+1,l,c,l',hl,h=>by
  simp only[brkF] at h
  split at h
  ·cases hq:(E c).1 with
   | none=>rw[hq] at h;cases h
   | some d =>
    rw[hq] at h
    exact zfx hE right least g (l++[d]) _ l' (fun x hx=>by
     rcases List.mem_append.1 hx with hx | hx
     ·exact hl x hx
     ·simp at hx;subst hx;exact hE c x hq) h
  ·simp at h;subst h;exact hl
theorem ze1{E:Cu→Option Dt × Cu}{p:Dt→Prop}(hE:∀ c d,(E c).1=some d→p d)(left right:ByteArray)(least:Nat)(c:Cu)(l':List Dt)(h:(brk E left right least c).1=some l'):∀ d∈l',p d:=by
 unfold brk at h
 split at h
 ·exact zfx hE right least _ _ _ l' (fun d hd=>by cases hd) h
 ·cases h
theorem zbv(f:Nat)(k:Int)(tx:ByteArray)(bl:Bool)(ln co:Int):IsLit (f+1) (litD k tx bl .nil .nil ln co):=⟨k,tx,bl,[],[],ln,co,rfl,(fun x hx=>by cases hx),(fun x hx=>by cases hx)⟩
theorem zcU(ct:Bool):∀ (f:Nat) (c:Cu) (d:Dt),(litF ct f c).1=some d→IsLit f d
 | 0,c,d,h=>by cases h
 | f+1,c,d,h=>by
  change (litS (litF ct f) ct c).1=some d at h
  unfold litS at h
  split at h
  ·cases h
  split at h
  ·simp at h;subst h;exact zbv ..
  split at h
  ·simp at h;subst h;exact zbv ..
  split at h
  ·simp at h;subst h;exact zbv ..
  split at h
  ·simp at h;subst h
   unfold wordD
   split
   ·exact zbv ..
   ·split <;> exact zbv ..
  split at h
  ·unfold varS at h
   split at h
   ·simp at h;subst h;exact zbv ..
   ·cases h
  split at h
  ·unfold listS at h
   cases hq:(brk (litF ct f) bLb bRb 0 c).1 with
   | none=>rw[hq] at h;cases h
   | some l =>
    rw[hq] at h;simp at h;subst h;exact⟨_,_,_,l,[],_,_,rfl,ze1 (fun c d hd=>zcU ct f c d hd) bLb bRb 0 c l hq,(fun x hx=>by cases hx)⟩
  split at h
  ·unfold objS at h
   cases hq:(brk (argS (litF ct f)) bLc bRc 0 c).1 with
   | none=>rw[hq] at h;cases h
   | some l =>
    rw[hq] at h;simp at h;subst h;refine⟨_,_,_,[],l,_,_,rfl,(fun x hx=>by cases hx),ze1 (p:=fun y=>∃ nm v ln co,y=fldD nm v ln co∧IsLit f v) (fun c d hd=>?_) bLc bRc 0 c l hq⟩
    unfold argS at hd
    cases hq2:(litF ct f (c.name.want bCol)).1 with
    | none=>rw[hq2] at hd;cases hd
    | some v =>
     rw[hq2] at hd;simp at hd;subst hd;exact⟨_,v,_,_,rfl,zcU ct f _ v hq2⟩
  ·cases h
open ints (Hi uh)
open dt (Dt Kp RowAt)
open mem (Row)
def newG(z:List Int)(d:Int):Cu:=⟨lx.toks z,0,0,mostS d,0⟩
theorem zeX(l:List Int)(cl:Bool):∀ (f i:Nat),i≤l.length→l.length<f+i→∀ j t,(lx.tksGF l cl f i)[j]? = some t→t.k=0∨t.k=1∨j+1<(lx.tksGF l cl f i).length
 | 0,i,hi,hf,j,t,h=>by simp[lx.tksGF] at h
 | f+1,i,hi,hf,j,t,h=>by
  by_cases he:(lx.tkG l cl i).k=0∨(lx.tkG l cl i).k=1
  ·rw[lx.tksGF,if_pos he] at h
   cases j with
   | zero=>simp at h;subst h;rcases he with e | e;exact .inl e;exact .inr (.inl e)
   | succ j=>simp at h
  ·rw[lx.tksGF,if_neg he] at h ⊢
   have h2:=lx.zdI l cl i hi
   have h3:i<(lx.tkG l cl i).to:=by
    rcases h2.2.2 with e | e | e
    ·exact absurd (.inl e) he
    ·exact absurd (.inr e) he
    ·exact e
   cases j with
   | zero =>
    right;right
    cases f with
    | zero=>omega
    | succ f =>
     rw[lx.tksGF]
     split <;> simp
   | succ j =>
    have:=zeX l cl f (lx.tkG l cl i).to h2.2.1 (by omega) j t (by simpa using h)
    simpa using this
theorem zeW(l:List Int)(cl:Bool):∀ (f i:Nat),i≤l.length→(lx.tksGF l cl f i).length≤l.length+1-i
 | 0,i,hi=>by simp[lx.tksGF]
 | f+1,i,hi=>by
  by_cases he:(lx.tkG l cl i).k=0∨(lx.tkG l cl i).k=1
  ·rw[lx.tksGF,if_pos he];simp;omega
  ·rw[lx.tksGF,if_neg he]
   have h2:=lx.zdI l cl i hi
   have h3:i<(lx.tkG l cl i).to:=by
    rcases h2.2.2 with e | e | e
    ·exact absurd (.inl e) he
    ·exact absurd (.inr e) he
    ·exact e
   have:=zeW l cl f (lx.tkG l cl i).to h2.2.1;simp;omega
theorem zj1(l:List Int)(cl:Bool)(i:Nat):0<(lx.tksG l cl i).length:=by
 unfold lx.tksG;rw[lx.tksGF]
 split <;> simp
theorem zfV(z:List Int)(d:Int):(newG z d).Ok:=
 ⟨zj1 _ _ 0,zeX (lx.chs z) (lx.cln z) ((lx.chs z).length+1) 0 (Nat.zero_le _) (by omega),Nat.zero_le _,by unfold newG mostS;simp only;omega⟩
theorem zgg(z:List Int)(hz:mem.Byt z):(lx.toks z).length≤z.length+1:=by
 have h1:=zeW (lx.chs z) (lx.cln z) ((lx.chs z).length+1) 0 (Nat.zero_le _);have h2:=Nat.le_trans (mem.zcR z hz) (mem.zc3 z hz)
 show (lx.tksGF (lx.chs z) (lx.cln z) ((lx.chs z).length+1) 0).length≤_
 have h3:(lx.chs z).length≤z.length:=h2;omega
theorem zll(a:Option Addr)(n c:Nat)(l:List Int)(d:Int)(w:World)(h:Row .u8 w a n c l)(hn:n≤1099511627776)(hz:mem.Byt l)(hd:(Lit.int .i64 d).wf=true) :
  Calls prog 12 #[.slice a n c,.int .i64 d] w fun e w'=>∃ B p,e = .returned (ptr B)∧w.heap.size≤B∧w.heap.size≤p∧CurAt w' B p (newG l d)∧Below w.heap.size w w':=by
 have hT:=Hi (fun W (bb:Below w.heap.size w W)=>lx.zgV a n c l W (h.below bb) hn hz)
 have hok:=Hi (zfV l d);have hlen:=zgg l hz;rw[h.len] at hlen
 go_enter func12,ntmps12
 go_wp2_with fail
 refine ((uh hT) w (Below.refl _ _)).mono ?_
 rintro e w1 ⟨p,cap,rfl,hp1,hp2,hrows,b1⟩;have HR:=Hi hrows;clear hT hrows
 go_wp2_with fail
 go_ret
 have hmo:(max 0 (min d 200))=((mostS d:Nat):Int):=by unfold mostS;omega
 rw[hmo];have bX:∀ o,Below w1.heap.size w1 (w1.alloc o):=fun o=>ba
 refine⟨w1.heap.size,p,rfl,b1.size,hp1,⟨uh hok,?_,cap,heap_alloc_new w1 _,by omega,?_,fun i t ht=>((uh HR) i t ht).below (bX _)⟩,b1.alloc b1.size _⟩
 ·show (lx.toks l).length≤_
  omega
 ·simp;omega
end cu
end Go.Proofs.YtepmbmbnlmbhhaaGreat
