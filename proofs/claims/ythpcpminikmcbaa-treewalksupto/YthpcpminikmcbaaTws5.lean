import Derived.Test.YthpcpminikmcbaaTwg11
import Derived.Test.YthpcpminikmcbaaTwg12
import Derived.Test.YthpcpminikmcbaaTws1
import Derived.Test.YthpcpminikmcbaaTws4
namespace Go.Proofs.Ythpcpminikmcbaa.og
open Go.ChangeShapes Go.WideShapes Go.ChangeAt Go.RowKit Go.Shelf
open vl hiding cB cFl cS cF cI cK cIt
open stp (St Pth St3)
open wk
attribute [local go_sem] Oper.semAt_some
set_option linter.unusedVariables false
set_option linter.unusedSimpArgs false
/-- a piece of a function's code -/
def nav : Code → List Nat → Code
  | c, [] => c
  | .seq a _, 0 :: r => nav a r
  | .seq _ b, 1 :: r => nav b r
  | .cond _ a _, 0 :: r => nav a r
  | .cond _ _ b, 1 :: r => nav b r
  | .block _ a, 0 :: r => nav a r
  | .loop a, 0 :: r => nav a r
  | .rangeFunc _ _ a _, 0 :: r => nav a r
  | .rangeFunc _ _ _ b, 1 :: r => nav b r
  | c, _ => c
noncomputable def twLaw : Code := Try.f4.body.getD .skip
theorem no_defer {ops : Array Oper} (h : (ops.toList.all fun o => match o.op with | .defer _ => false | _ => true) = true) (i : Nat) (o : Oper) (c : Call) (hi : ops[i]? = some o) : o.op ≠ .defer c := by
  intro e
  have hm : o ∈ ops.toList := by rw [Array.mem_toList_iff]; exact Array.mem_of_getElem? hi
  have := List.all_eq_true.1 h o hm
  rw [e] at this
  cases this
theorem callW {P : Program} {o : Oper} {a : Act} {w : World} {K : Act → World → Prop} {Q : Exit → Act → World → Prop} (f : FuncId) (fn : Func) (args : Array Operand) (tys : Array TypeId) (ho : o.op = .call { callee := .value (.func f), args := args, argTypes := tys })
    (hf : P.funcs[f]? = some fn) (hname : (fn.name == "runtime.NumGoroutine") = false) (hb : fn.body.isNone = false) (vs : Array Value) (hv : args.map a.eval = vs)
    (hc : Calls P f vs w fun e w' => ∃ v, e = .returned v ∧ K (a.put o.dst v) w') : o.wp P a w K Q := by
  have h1 : fn.name ≠ "runtime.NumGoroutine" := by simpa using hname
  have hrun : (execOp a.eval o).run P w = .ok (.enter f vs) w := by
    unfold execOp
    simp only [ho]
    obtain ⟨c, hc'⟩ : ∃ c, fn.body = some c := by cases h : fn.body <;> simp_all
    simp [resolve, hv, Deferred.ofValue, invoke, callFunc, hf, h1, hc', Act.eval]
  unfold Oper.wp
  rw [hrun, Oper.upon_enter]
  refine hc.mono ?_
  rintro e w' ⟨v, rfl, hk⟩
  exact hk
set_option maxRecDepth 100000 in
set_option maxHeartbeats 1000000 in
theorem chk1 {l n k N c m xc mp cp g pbk nbk Bq : Nat} {xa ap : Option Addr} {xkd xm ukd um : Int} {xb ub : Bool} {xf uf : Nat} {xtx xty utx uty : ByteArray} {xai xaf uai uaf : Option Addr} {xni xci xnf xcf uni uci unf ucf : Nat} {X : World} {t0 t1 t2 t3 t4 t6 t10 t11 t12 t13 t14 t15 t16 t17 t18 t19 t20 t21 t22 t23 t24 t25 t26 t27 t28 t29 t30 t31 t32 t33 t34 t35 t36 t37 t38 t39 t40 t41 t42 t43 t44 t45 t46 t47 t48 t49 t50 t51 t52 t53 t54 t55 t56 t57 t58 t59 t60 t61 t62 t63 t64 t65 t66 t67 t68 t69 t70 t71 t72 t73 t74 t75 t76 t77 t78 t79 t80 t81 t82 t83 t84 t85 t86 t87 t88 t89 t90 t91 t92 t93 t94 t95 t96 t97 t98 t99 t100 t101 t102 t103 t104 t105 t106 t107 t108 t109 t110 t111 t112 t113 t114 t115 t116 t117 t118 t119 t120 t121 t122 t123 t124 t125 t126 t127 t128 t129 t130 t131 t132 t133 t134 t135 t136 : Value}
    (h7 : Boxed X nbk 3 (.int .i64 (k : Nat))) (h5 : Boxed X pbk 38 (.slice (some ⟨g, 0, none⟩) N c)) (hk : k < N) (hN : N ≤ 1048576) (hg : g < X.heap.size) (hc : X.cell? ⟨g, k * 9, none⟩ = some (.slice ap mp cp)) (hr : X.rangeAt g (k * 9 + 1) [Value.int IntKind.i64 ukd, Value.bool ub, Value.int IntKind.i64 um, Value.float FloatKind.f64 uf, Value.string utx, Value.string uty, Value.slice uai uni uci, Value.slice uaf unf ucf]) (hB : Bq < X.heap.size) (hq : X.rangeAt Bq 0 [Value.int IntKind.i64 xkd, Value.bool xb, Value.int IntKind.i64 xm, Value.float FloatKind.f64 xf, Value.string xtx, Value.string xty, Value.slice xai xni xci, Value.slice xaf xnf xcf])
    (SS : vl.Hid (∀ W, Below X.heap.size X W → Calls Try.prog 11 #[.slice xa m xc, .slice ap mp cp] W fun e w' => e = .returned (.bool true) ∧ Below W.heap.size W w'))
    (WH : vl.Hid (∀ W, Below X.heap.size X W → Calls Try.prog 15 #[.agg #[Value.int IntKind.i64 xkd, Value.bool xb, Value.int IntKind.i64 xm, Value.float FloatKind.f64 xf, Value.string xtx, Value.string xty, Value.slice xai xni xci, Value.slice xaf xnf xcf], .agg #[Value.int IntKind.i64 ukd, Value.bool ub, Value.int IntKind.i64 um, Value.float FloatKind.f64 uf, Value.string utx, Value.string uty, Value.slice uai uni uci, Value.slice uaf unf ucf]] W fun e w' => e = .returned (.bool true) ∧ Below W.heap.size W w')) :
    (nav twLaw [1, 1, 1, 1, 1, 1, 0, 1, 0, 1, 0, 0, 0]).wpIn (Fence.wide.inRound l) n Try.prog (cut fun a' X' => Below X.heap.size X X' ∧ a' = { tmps := #[t0, t1, t2, t3, t4, .pointer (some ⟨pbk, 0, none⟩), t6, .pointer (some ⟨nbk, 0, none⟩), .slice xa m xc, .pointer (some ⟨Bq, 0, none⟩), t10, t11, t12, t13, t14, t15, t16, t17, t18, t19, t20, t21, t22, t23, t24, t25, .int .i64 (k : Nat), .slice (some ⟨g, 0, none⟩) N c, .int .i64 (N : Nat), .bool false, .bool false, .slice xa m xc, .slice (some ⟨g, 0, none⟩) N c, .int .i64 (k : Nat), .pointer (some ⟨g, k * 9, none⟩), .pointer (some ⟨g, k * 9, none⟩), .slice ap mp cp, .bool true, .bool false, .bool false, .bool false, .agg #[Value.int IntKind.i64 xkd, Value.bool xb, Value.int IntKind.i64 xm, Value.float FloatKind.f64 xf, Value.string xtx, Value.string xty, Value.slice xai xni xci, Value.slice xaf xnf xcf], .slice (some ⟨g, 0, none⟩) N c, .int .i64 (k : Nat), .pointer (some ⟨g, k * 9, none⟩), .pointer (some ⟨g, k * 9 + 1, none⟩), .agg #[Value.int IntKind.i64 ukd, Value.bool ub, Value.int IntKind.i64 um, Value.float FloatKind.f64 uf, Value.string utx, Value.string uty, Value.slice uai uni uci, Value.slice uaf unf ucf], .bool true, .bool false, .bool false, t50, t51, t52, t53, t54, t55, t56, t57, t58, t59, t60, t61, t62, t63, t64, t65, t66, t67, t68, t69, t70, t71, t72, t73, t74, t75, t76, t77, t78, t79, t80, t81, t82, t83, t84, t85, t86, t87, t88, t89, t90, t91, t92, t93, t94, t95, t96, t97, t98, t99, t100, t101, t102, t103, t104, t105, t106, t107, t108, t109, t110, t111, t112, t113, t114, t115, t116, t117, t118, t119, t120, t121, t122, t123, t124, t125, t126, t127, t128, t129, t130, t131, t132, t133, t134, t135, t136], defers := [] }) { tmps := #[t0, t1, t2, t3, t4, .pointer (some ⟨pbk, 0, none⟩), t6, .pointer (some ⟨nbk, 0, none⟩), .slice xa m xc, .pointer (some ⟨Bq, 0, none⟩), t10, t11, t12, t13, t14, t15, t16, t17, t18, t19, t20, t21, t22, t23, t24, t25, t26, t27, t28, t29, t30, t31, t32, t33, t34, t35, t36, t37, t38, t39, t40, t41, t42, t43, t44, t45, t46, t47, t48, t49, t50, t51, t52, t53, t54, t55, t56, t57, t58, t59, t60, t61, t62, t63, t64, t65, t66, t67, t68, t69, t70, t71, t72, t73, t74, t75, t76, t77, t78, t79, t80, t81, t82, t83, t84, t85, t86, t87, t88, t89, t90, t91, t92, t93, t94, t95, t96, t97, t98, t99, t100, t101, t102, t103, t104, t105, t106, t107, t108, t109, t110, t111, t112, t113, t114, t115, t116, t117, t118, t119, t120, t121, t122, t123, t124, t125, t126, t127, t128, t129, t130, t131, t132, t133, t134, t135, t136], defers := [] } X := by
  simp only [twLaw, nav, Try.f4, Option.getD_some]
  refine region_round (S := fun W => Below X.heap.size X W) mixed (no_defer (by kernel_rfl)) ?_
  have hS0 : Below X.heap.size X { X with drawn := X.drawn + 1 } := (Below.refl _ _).drew
  have C7 : ∀ W, Below X.heap.size X W → W.cell? ⟨nbk, 0, none⟩ = some (.int .i64 (k : Nat)) := fun W hW => Boxed.cell ((hW.block _ h7.lt).trans h7 : Boxed W nbk 3 _)
  have C5 : ∀ W, Below X.heap.size X W → W.cell? ⟨pbk, 0, none⟩ = some (.slice (some ⟨g, 0, none⟩) N c) := fun W hW => Boxed.cell ((hW.block _ h5.lt).trans h5 : Boxed W pbk 38 _)
  have CG : ∀ W, Below X.heap.size X W → W.cell? ⟨g, k * 9, none⟩ = some (.slice ap mp cp) := fun W hW => (hW.cell (p := ⟨g, k * 9, none⟩) hg).trans hc
  have RG : ∀ W, Below X.heap.size X W → W.rangeAt g (k * 9 + 1) [Value.int IntKind.i64 ukd, Value.bool ub, Value.int IntKind.i64 um, Value.float FloatKind.f64 uf, Value.string utx, Value.string uty, Value.slice uai uni uci, Value.slice uaf unf ucf] := fun W hW j u hu => (hW.cell (p := ⟨g, k * 9 + 1 + j, none⟩) hg).trans (hr j u hu)
  have RB : ∀ W, Below X.heap.size X W → W.rangeAt Bq 0 [Value.int IntKind.i64 xkd, Value.bool xb, Value.int IntKind.i64 xm, Value.float FloatKind.f64 xf, Value.string xtx, Value.string xty, Value.slice xai xni xci, Value.slice xaf xnf xcf] := fun W hW j u hu => (hW.cell (p := ⟨Bq, 0 + j, none⟩) hB).trans (hq j u hu)
  have C7 := hide C7
  have C5 := hide C5
  have CG := hide CG
  have RG := hide RG
  have RB := hide RB
  clear h7 h5 hc hr hq hB
  have ki : ¬ ((N : Int) ≤ (k : Int)) := by omega
  have kj : (k : Int) < (N : Int) := by omega
  refine wpAnyH_take (i := 0) (v := ?v1) rfl (by kernel_rfl) (by kernel_rfl) (by kernel_rfl) (fun _ _ _ h => h) (Or.inl ⟨by rfl, ?hy1⟩) hS0 ?_
  case hy1 => (intro w' hw'; have q := unhide C7 w' hw'; go_simp; try with_reducible rfl)
  simp only [List.getElem_toArray, List.getElem_cons_zero, List.getElem_cons_succ, Act.put, List.setIfInBounds_toArray, List.set_cons_zero, List.set_cons_succ]
  refine wpAnyH_take (i := 1) (v := ?v2) rfl (by kernel_rfl) (by kernel_rfl) (by kernel_rfl) (fun _ _ _ h => h) (Or.inl ⟨by rfl, ?hy2⟩) hS0 ?_
  case hy2 => (intro w' hw'; have q := unhide C5 w' hw'; go_simp; try with_reducible rfl)
  simp only [List.getElem_toArray, List.getElem_cons_zero, List.getElem_cons_succ, Act.put, List.setIfInBounds_toArray, List.set_cons_zero, List.set_cons_succ]
  refine wpAnyH_take (i := 2) (v := ?v3) rfl (by kernel_rfl) (by kernel_rfl) (by kernel_rfl) (fun _ _ _ h => h) (Or.inl ⟨by rfl, ?hy3⟩) hS0 ?_
  case hy3 => (intro w' hw'; skip; go_simp; try with_reducible rfl)
  simp only [List.getElem_toArray, List.getElem_cons_zero, List.getElem_cons_succ, Act.put, List.setIfInBounds_toArray, List.set_cons_zero, List.set_cons_succ]
  refine wpAnyH_take (i := 3) (v := ?v4) rfl (by kernel_rfl) (by kernel_rfl) (by kernel_rfl) (fun _ _ _ h => h) (Or.inl ⟨by rfl, ?hy4⟩) hS0 ?_
  case hy4 => (intro w' hw'; skip; go_simp; try with_reducible rfl)
  simp only [List.getElem_toArray, List.getElem_cons_zero, List.getElem_cons_succ, Act.put, List.setIfInBounds_toArray, List.set_cons_zero, List.set_cons_succ]
  refine wpAnyH_take (i := 4) (v := ?v5) rfl (by kernel_rfl) (by kernel_rfl) (by kernel_rfl) (fun _ _ _ h => h) (Or.inl ⟨by rfl, ?hy5⟩) hS0 ?_
  case hy5 => (intro w' hw'; skip; go_simp; try with_reducible rfl)
  simp only [List.getElem_toArray, List.getElem_cons_zero, List.getElem_cons_succ, Act.put, List.setIfInBounds_toArray, List.set_cons_zero, List.set_cons_succ]
  refine wpAnyH_take (i := 5) (v := ?v6) rfl (by kernel_rfl) (by kernel_rfl) (by kernel_rfl) (fun _ _ _ h => h) (Or.inl ⟨by rfl, ?hy6⟩) hS0 ?_
  case hy6 => (intro w' hw'; skip; go_simp; try with_reducible rfl)
  simp only [List.getElem_toArray, List.getElem_cons_zero, List.getElem_cons_succ, Act.put, List.setIfInBounds_toArray, List.set_cons_zero, List.set_cons_succ]
  refine wpAnyH_take (i := 6) (v := ?v7) rfl (by kernel_rfl) (by kernel_rfl) (by kernel_rfl) (fun _ _ _ h => h) (Or.inl ⟨by rfl, ?hy7⟩) hS0 ?_
  case hy7 => (intro w' hw'; have q := unhide C5 w' hw'; go_simp; try with_reducible rfl)
  simp only [List.getElem_toArray, List.getElem_cons_zero, List.getElem_cons_succ, Act.put, List.setIfInBounds_toArray, List.set_cons_zero, List.set_cons_succ]
  refine wpAnyH_take (i := 7) (v := ?v8) rfl (by kernel_rfl) (by kernel_rfl) (by kernel_rfl) (fun _ _ _ h => h) (Or.inl ⟨by rfl, ?hy8⟩) hS0 ?_
  case hy8 => (intro w' hw'; have q := unhide C7 w' hw'; go_simp; try with_reducible rfl)
  simp only [List.getElem_toArray, List.getElem_cons_zero, List.getElem_cons_succ, Act.put, List.setIfInBounds_toArray, List.set_cons_zero, List.set_cons_succ]
  refine wpAnyH_take (i := 8) (v := ?v9) rfl (by kernel_rfl) (by kernel_rfl) (by kernel_rfl) (fun _ _ _ h => h) (Or.inl ⟨by rfl, ?hy9⟩) hS0 ?_
  case hy9 => (intro w' hw'; skip; go_simp; try with_reducible rfl)
  simp only [List.getElem_toArray, List.getElem_cons_zero, List.getElem_cons_succ, Act.put, List.setIfInBounds_toArray, List.set_cons_zero, List.set_cons_succ]
  refine wpAnyH_take (i := 9) (v := ?v10) rfl (by kernel_rfl) (by kernel_rfl) (by kernel_rfl) (fun _ _ _ h => h) (Or.inl ⟨by rfl, ?hy10⟩) hS0 ?_
  case hy10 => (intro w' hw'; skip; go_simp; try with_reducible rfl)
  simp only [List.getElem_toArray, List.getElem_cons_zero, List.getElem_cons_succ, Act.put, List.setIfInBounds_toArray, List.set_cons_zero, List.set_cons_succ]
  refine wpAnyH_take (i := 10) (v := ?v11) rfl (by kernel_rfl) (by kernel_rfl) (by kernel_rfl) (fun _ _ _ h => h) (Or.inl ⟨by rfl, ?hy11⟩) hS0 ?_
  case hy11 => (intro w' hw'; have q := unhide CG w' hw'; go_simp; try with_reducible rfl)
  simp only [List.getElem_toArray, List.getElem_cons_zero, List.getElem_cons_succ, Act.put, List.setIfInBounds_toArray, List.set_cons_zero, List.set_cons_succ]
  refine rgn.one (i := 11) _ rfl (by kernel_rfl) (by rfl) ?_
  simp only [List.getElem_toArray, List.getElem_cons_zero, List.getElem_cons_succ, Act.put, List.setIfInBounds_toArray, List.set_cons_zero, List.set_cons_succ]
  refine callW _ _ _ _ rfl Try.func11 (by kernel_rfl) (by kernel_rfl) #[.slice xa m xc, .slice ap mp cp] (by first | kernel_rfl | (simp only [List.map_toArray, List.map_cons, List.map_nil]; rfl)) ?_
  refine (unhide SS _ hS0).mono ?_
  rintro e W1 ⟨rfl, c1⟩
  have hS1 := hS0.trans (c1.mono hS0.size)
  clear c1
  refine ⟨_, rfl, hS1, ?_⟩
  clear hS0
  have hS0 := hS1
  clear hS1
  try simp only [List.getElem_toArray, List.getElem_cons_zero, List.getElem_cons_succ, Act.put, List.setIfInBounds_toArray, List.set_cons_zero, List.set_cons_succ]
  refine wpAnyH_take (i := 12) (v := ?v12) rfl (by kernel_rfl) (by kernel_rfl) (by kernel_rfl) (fun _ _ _ h => h) (Or.inl ⟨by rfl, ?hy12⟩) hS0 ?_
  case hy12 => (intro w' hw'; skip; go_simp; try with_reducible rfl)
  simp only [List.getElem_toArray, List.getElem_cons_zero, List.getElem_cons_succ, Act.put, List.setIfInBounds_toArray, List.set_cons_zero, List.set_cons_succ]
  refine wpAnyH_take (i := 13) (v := ?v13) rfl (by kernel_rfl) (by kernel_rfl) (by kernel_rfl) (fun _ _ _ h => h) (Or.inl ⟨by rfl, ?hy13⟩) hS0 ?_
  case hy13 => (intro w' hw'; skip; go_simp; try with_reducible rfl)
  simp only [List.getElem_toArray, List.getElem_cons_zero, List.getElem_cons_succ, Act.put, List.setIfInBounds_toArray, List.set_cons_zero, List.set_cons_succ]
  refine wpAnyH_take (i := 14) (v := ?v14) rfl (by kernel_rfl) (by kernel_rfl) (by kernel_rfl) (fun _ _ _ h => h) (Or.inl ⟨by rfl, ?hy14⟩) hS0 ?_
  case hy14 => (intro w' hw'; skip; go_simp; try with_reducible rfl)
  simp only [List.getElem_toArray, List.getElem_cons_zero, List.getElem_cons_succ, Act.put, List.setIfInBounds_toArray, List.set_cons_zero, List.set_cons_succ]
  refine wpAnyH_take (i := 15) (v := ?v15) rfl (by kernel_rfl) (by kernel_rfl) (by kernel_rfl) (fun _ _ _ h => h) (Or.inl ⟨by rfl, ?hy15⟩) hS0 ?_
  case hy15 => (intro w' hw'; obtain ⟨z0, z1, z2, z3, z4, z5, z6, z7⟩ := Row8.eight (unhide RB w' hw'); simp only [Nat.zero_add] at z1 z2 z3 z4 z5 z6 z7; go_simp; try with_reducible rfl)
  simp only [List.getElem_toArray, List.getElem_cons_zero, List.getElem_cons_succ, Act.put, List.setIfInBounds_toArray, List.set_cons_zero, List.set_cons_succ]
  refine wpAnyH_take (i := 16) (v := ?v16) rfl (by kernel_rfl) (by kernel_rfl) (by kernel_rfl) (fun _ _ _ h => h) (Or.inl ⟨by rfl, ?hy16⟩) hS0 ?_
  case hy16 => (intro w' hw'; have q := unhide C5 w' hw'; go_simp; try with_reducible rfl)
  simp only [List.getElem_toArray, List.getElem_cons_zero, List.getElem_cons_succ, Act.put, List.setIfInBounds_toArray, List.set_cons_zero, List.set_cons_succ]
  refine wpAnyH_take (i := 17) (v := ?v17) rfl (by kernel_rfl) (by kernel_rfl) (by kernel_rfl) (fun _ _ _ h => h) (Or.inl ⟨by rfl, ?hy17⟩) hS0 ?_
  case hy17 => (intro w' hw'; have q := unhide C7 w' hw'; go_simp; try with_reducible rfl)
  simp only [List.getElem_toArray, List.getElem_cons_zero, List.getElem_cons_succ, Act.put, List.setIfInBounds_toArray, List.set_cons_zero, List.set_cons_succ]
  refine wpAnyH_take (i := 18) (v := ?v18) rfl (by kernel_rfl) (by kernel_rfl) (by kernel_rfl) (fun _ _ _ h => h) (Or.inl ⟨by rfl, ?hy18⟩) hS0 ?_
  case hy18 => (intro w' hw'; skip; go_simp; try with_reducible rfl)
  simp only [List.getElem_toArray, List.getElem_cons_zero, List.getElem_cons_succ, Act.put, List.setIfInBounds_toArray, List.set_cons_zero, List.set_cons_succ]
  refine wpAnyH_take (i := 19) (v := ?v19) rfl (by kernel_rfl) (by kernel_rfl) (by kernel_rfl) (fun _ _ _ h => h) (Or.inl ⟨by rfl, ?hy19⟩) hS0 ?_
  case hy19 => (intro w' hw'; skip; go_simp; try with_reducible rfl)
  simp only [List.getElem_toArray, List.getElem_cons_zero, List.getElem_cons_succ, Act.put, List.setIfInBounds_toArray, List.set_cons_zero, List.set_cons_succ]
  refine wpAnyH_take (i := 20) (v := ?v20) rfl (by kernel_rfl) (by kernel_rfl) (by kernel_rfl) (fun _ _ _ h => h) (Or.inl ⟨by rfl, ?hy20⟩) hS0 ?_
  case hy20 => (intro w' hw'; obtain ⟨z0, z1, z2, z3, z4, z5, z6, z7⟩ := Row8.eight (unhide RG w' hw'); go_simp; try with_reducible rfl)
  simp only [List.getElem_toArray, List.getElem_cons_zero, List.getElem_cons_succ, Act.put, List.setIfInBounds_toArray, List.set_cons_zero, List.set_cons_succ]
  refine rgn.one (i := 21) _ rfl (by kernel_rfl) (by rfl) ?_
  simp only [List.getElem_toArray, List.getElem_cons_zero, List.getElem_cons_succ, Act.put, List.setIfInBounds_toArray, List.set_cons_zero, List.set_cons_succ]
  refine callW _ _ _ _ rfl Try.func15 (by kernel_rfl) (by kernel_rfl) #[.agg #[Value.int IntKind.i64 xkd, Value.bool xb, Value.int IntKind.i64 xm, Value.float FloatKind.f64 xf, Value.string xtx, Value.string xty, Value.slice xai xni xci, Value.slice xaf xnf xcf], .agg #[Value.int IntKind.i64 ukd, Value.bool ub, Value.int IntKind.i64 um, Value.float FloatKind.f64 uf, Value.string utx, Value.string uty, Value.slice uai uni uci, Value.slice uaf unf ucf]] (by first | kernel_rfl | (simp only [List.map_toArray, List.map_cons, List.map_nil]; rfl)) ?_
  refine (unhide WH _ hS0).mono ?_
  rintro e W2 ⟨rfl, c2⟩
  have hS1 := hS0.trans (c2.mono hS0.size)
  clear c2
  refine ⟨_, rfl, hS1, ?_⟩
  clear hS0
  have hS0 := hS1
  clear hS1
  try simp only [List.getElem_toArray, List.getElem_cons_zero, List.getElem_cons_succ, Act.put, List.setIfInBounds_toArray, List.set_cons_zero, List.set_cons_succ]
  refine wpAnyH_take (i := 22) (v := ?v21) rfl (by kernel_rfl) (by kernel_rfl) (by kernel_rfl) (fun _ _ _ h => h) (Or.inl ⟨by rfl, ?hy21⟩) hS0 ?_
  case hy21 => (intro w' hw'; skip; go_simp; try with_reducible rfl)
  simp only [List.getElem_toArray, List.getElem_cons_zero, List.getElem_cons_succ, Act.put, List.setIfInBounds_toArray, List.set_cons_zero, List.set_cons_succ]
  refine wpAnyH_take (i := 23) (v := ?v22) rfl (by kernel_rfl) (by kernel_rfl) (by kernel_rfl) (fun _ _ _ h => h) (Or.inl ⟨by rfl, ?hy22⟩) hS0 ?_
  case hy22 => (intro w' hw'; skip; go_simp; try with_reducible rfl)
  simp only [List.getElem_toArray, List.getElem_cons_zero, List.getElem_cons_succ, Act.put, List.setIfInBounds_toArray, List.set_cons_zero, List.set_cons_succ]
  refine wpAnyH_done (by kernel_rfl) ?_ _
  exact ⟨hS0, rfl⟩
set_option maxRecDepth 100000 in
set_option maxHeartbeats 1000000 in
theorem chk2 {l n k N c m xc mp cp g pbk nbk Bq : Nat} {xa ap : Option Addr} {xkd xm ukd um : Int} {xb ub : Bool} {xf uf : Nat} {xtx xty utx uty : ByteArray} {xai xaf uai uaf : Option Addr} {xni xci xnf xcf uni uci unf ucf : Nat} {X : World} {t0 t1 t2 t3 t4 t6 t8 t9 t10 t13 t14 t15 t16 t17 t18 t19 t20 t21 t22 t23 t24 t25 t26 t27 t28 t29 t30 t31 t32 t33 t34 t35 t36 t37 t38 t39 t40 t41 t42 t43 t44 t45 t46 t47 t48 t49 t50 t51 t52 t53 t54 t55 t56 t57 t58 t59 t60 t61 t62 t63 t64 t65 t66 t67 t68 t69 t70 t71 t72 t73 t74 t75 t76 t77 t78 t79 t80 t81 t82 t83 t84 t85 t86 t87 t88 t89 t90 t91 t92 t93 t94 t95 t96 t97 t98 t99 t100 t101 t102 t103 t104 t105 t106 t107 t108 t109 t110 t111 t112 t113 t114 t115 t116 t117 t118 t119 t120 t121 t122 t123 t124 t125 t126 t127 t128 t129 t130 t131 t132 t133 t134 t135 t136 : Value}
    (h7 : Boxed X nbk 3 (.int .i64 (k : Nat))) (h5 : Boxed X pbk 38 (.slice (some ⟨g, 0, none⟩) N c)) (hk : k < N) (hN : N ≤ 1048576) (hg : g < X.heap.size) (hc : X.cell? ⟨g, k * 9, none⟩ = some (.slice ap mp cp)) (hr : X.rangeAt g (k * 9 + 1) [Value.int IntKind.i64 ukd, Value.bool ub, Value.int IntKind.i64 um, Value.float FloatKind.f64 uf, Value.string utx, Value.string uty, Value.slice uai uni uci, Value.slice uaf unf ucf]) (hB : Bq < X.heap.size) (hq : X.rangeAt Bq 0 [Value.int IntKind.i64 xkd, Value.bool xb, Value.int IntKind.i64 xm, Value.float FloatKind.f64 xf, Value.string xtx, Value.string xty, Value.slice xai xni xci, Value.slice xaf xnf xcf])
    (SS : vl.Hid (∀ W, Below X.heap.size X W → Calls Try.prog 11 #[.slice xa m xc, .slice ap mp cp] W fun e w' => e = .returned (.bool true) ∧ Below W.heap.size W w'))
    (WH : vl.Hid (∀ W, Below X.heap.size X W → Calls Try.prog 15 #[.agg #[Value.int IntKind.i64 xkd, Value.bool xb, Value.int IntKind.i64 xm, Value.float FloatKind.f64 xf, Value.string xtx, Value.string xty, Value.slice xai xni xci, Value.slice xaf xnf xcf], .agg #[Value.int IntKind.i64 ukd, Value.bool ub, Value.int IntKind.i64 um, Value.float FloatKind.f64 uf, Value.string utx, Value.string uty, Value.slice uai uni uci, Value.slice uaf unf ucf]] W fun e w' => e = .returned (.bool true) ∧ Below W.heap.size W w')) :
    (nav twLaw [1, 1, 1, 1, 1, 1, 1, 1, 1, 0, 1, 0, 1, 0, 0, 0]).wpIn (Fence.wide.inRound l) n Try.prog (cut fun a' X' => Below X.heap.size X X' ∧ a' = { tmps := #[t0, t1, t2, t3, t4, .pointer (some ⟨pbk, 0, none⟩), t6, .pointer (some ⟨nbk, 0, none⟩), t8, t9, t10, .slice xa m xc, .pointer (some ⟨Bq, 0, none⟩), t13, t14, t15, t16, t17, t18, t19, t20, t21, t22, t23, t24, t25, t26, t27, t28, t29, t30, t31, t32, t33, t34, t35, t36, t37, t38, t39, t40, t41, t42, t43, t44, t45, t46, t47, t48, t49, t50, t51, t52, t53, t54, t55, t56, t57, t58, t59, t60, t61, t62, t63, t64, t65, t66, t67, t68, t69, t70, t71, t72, t73, t74, t75, t76, t77, t78, t79, t80, .int .i64 (k : Nat), .slice (some ⟨g, 0, none⟩) N c, .int .i64 (N : Nat), .bool false, .bool false, .slice xa m xc, .slice (some ⟨g, 0, none⟩) N c, .int .i64 (k : Nat), .pointer (some ⟨g, k * 9, none⟩), .pointer (some ⟨g, k * 9, none⟩), .slice ap mp cp, .bool true, .bool false, .bool false, .bool false, .agg #[Value.int IntKind.i64 xkd, Value.bool xb, Value.int IntKind.i64 xm, Value.float FloatKind.f64 xf, Value.string xtx, Value.string xty, Value.slice xai xni xci, Value.slice xaf xnf xcf], .slice (some ⟨g, 0, none⟩) N c, .int .i64 (k : Nat), .pointer (some ⟨g, k * 9, none⟩), .pointer (some ⟨g, k * 9 + 1, none⟩), .agg #[Value.int IntKind.i64 ukd, Value.bool ub, Value.int IntKind.i64 um, Value.float FloatKind.f64 uf, Value.string utx, Value.string uty, Value.slice uai uni uci, Value.slice uaf unf ucf], .bool true, .bool false, .bool false, t105, t106, t107, t108, t109, t110, t111, t112, t113, t114, t115, t116, t117, t118, t119, t120, t121, t122, t123, t124, t125, t126, t127, t128, t129, t130, t131, t132, t133, t134, t135, t136], defers := [] }) { tmps := #[t0, t1, t2, t3, t4, .pointer (some ⟨pbk, 0, none⟩), t6, .pointer (some ⟨nbk, 0, none⟩), t8, t9, t10, .slice xa m xc, .pointer (some ⟨Bq, 0, none⟩), t13, t14, t15, t16, t17, t18, t19, t20, t21, t22, t23, t24, t25, t26, t27, t28, t29, t30, t31, t32, t33, t34, t35, t36, t37, t38, t39, t40, t41, t42, t43, t44, t45, t46, t47, t48, t49, t50, t51, t52, t53, t54, t55, t56, t57, t58, t59, t60, t61, t62, t63, t64, t65, t66, t67, t68, t69, t70, t71, t72, t73, t74, t75, t76, t77, t78, t79, t80, t81, t82, t83, t84, t85, t86, t87, t88, t89, t90, t91, t92, t93, t94, t95, t96, t97, t98, t99, t100, t101, t102, t103, t104, t105, t106, t107, t108, t109, t110, t111, t112, t113, t114, t115, t116, t117, t118, t119, t120, t121, t122, t123, t124, t125, t126, t127, t128, t129, t130, t131, t132, t133, t134, t135, t136], defers := [] } X := by
  simp only [twLaw, nav, Try.f4, Option.getD_some]
  refine region_round (S := fun W => Below X.heap.size X W) mixed (no_defer (by kernel_rfl)) ?_
  have hS0 : Below X.heap.size X { X with drawn := X.drawn + 1 } := (Below.refl _ _).drew
  have C7 : ∀ W, Below X.heap.size X W → W.cell? ⟨nbk, 0, none⟩ = some (.int .i64 (k : Nat)) := fun W hW => Boxed.cell ((hW.block _ h7.lt).trans h7 : Boxed W nbk 3 _)
  have C5 : ∀ W, Below X.heap.size X W → W.cell? ⟨pbk, 0, none⟩ = some (.slice (some ⟨g, 0, none⟩) N c) := fun W hW => Boxed.cell ((hW.block _ h5.lt).trans h5 : Boxed W pbk 38 _)
  have CG : ∀ W, Below X.heap.size X W → W.cell? ⟨g, k * 9, none⟩ = some (.slice ap mp cp) := fun W hW => (hW.cell (p := ⟨g, k * 9, none⟩) hg).trans hc
  have RG : ∀ W, Below X.heap.size X W → W.rangeAt g (k * 9 + 1) [Value.int IntKind.i64 ukd, Value.bool ub, Value.int IntKind.i64 um, Value.float FloatKind.f64 uf, Value.string utx, Value.string uty, Value.slice uai uni uci, Value.slice uaf unf ucf] := fun W hW j u hu => (hW.cell (p := ⟨g, k * 9 + 1 + j, none⟩) hg).trans (hr j u hu)
  have RB : ∀ W, Below X.heap.size X W → W.rangeAt Bq 0 [Value.int IntKind.i64 xkd, Value.bool xb, Value.int IntKind.i64 xm, Value.float FloatKind.f64 xf, Value.string xtx, Value.string xty, Value.slice xai xni xci, Value.slice xaf xnf xcf] := fun W hW j u hu => (hW.cell (p := ⟨Bq, 0 + j, none⟩) hB).trans (hq j u hu)
  have C7 := hide C7
  have C5 := hide C5
  have CG := hide CG
  have RG := hide RG
  have RB := hide RB
  clear h7 h5 hc hr hq hB
  have ki : ¬ ((N : Int) ≤ (k : Int)) := by omega
  have kj : (k : Int) < (N : Int) := by omega
  refine wpAnyH_take (i := 0) (v := ?v23) rfl (by kernel_rfl) (by kernel_rfl) (by kernel_rfl) (fun _ _ _ h => h) (Or.inl ⟨by rfl, ?hy23⟩) hS0 ?_
  case hy23 => (intro w' hw'; have q := unhide C7 w' hw'; go_simp; try with_reducible rfl)
  simp only [List.getElem_toArray, List.getElem_cons_zero, List.getElem_cons_succ, Act.put, List.setIfInBounds_toArray, List.set_cons_zero, List.set_cons_succ]
  refine wpAnyH_take (i := 1) (v := ?v24) rfl (by kernel_rfl) (by kernel_rfl) (by kernel_rfl) (fun _ _ _ h => h) (Or.inl ⟨by rfl, ?hy24⟩) hS0 ?_
  case hy24 => (intro w' hw'; have q := unhide C5 w' hw'; go_simp; try with_reducible rfl)
  simp only [List.getElem_toArray, List.getElem_cons_zero, List.getElem_cons_succ, Act.put, List.setIfInBounds_toArray, List.set_cons_zero, List.set_cons_succ]
  refine wpAnyH_take (i := 2) (v := ?v25) rfl (by kernel_rfl) (by kernel_rfl) (by kernel_rfl) (fun _ _ _ h => h) (Or.inl ⟨by rfl, ?hy25⟩) hS0 ?_
  case hy25 => (intro w' hw'; skip; go_simp; try with_reducible rfl)
  simp only [List.getElem_toArray, List.getElem_cons_zero, List.getElem_cons_succ, Act.put, List.setIfInBounds_toArray, List.set_cons_zero, List.set_cons_succ]
  refine wpAnyH_take (i := 3) (v := ?v26) rfl (by kernel_rfl) (by kernel_rfl) (by kernel_rfl) (fun _ _ _ h => h) (Or.inl ⟨by rfl, ?hy26⟩) hS0 ?_
  case hy26 => (intro w' hw'; skip; go_simp; try with_reducible rfl)
  simp only [List.getElem_toArray, List.getElem_cons_zero, List.getElem_cons_succ, Act.put, List.setIfInBounds_toArray, List.set_cons_zero, List.set_cons_succ]
  refine wpAnyH_take (i := 4) (v := ?v27) rfl (by kernel_rfl) (by kernel_rfl) (by kernel_rfl) (fun _ _ _ h => h) (Or.inl ⟨by rfl, ?hy27⟩) hS0 ?_
  case hy27 => (intro w' hw'; skip; go_simp; try with_reducible rfl)
  simp only [List.getElem_toArray, List.getElem_cons_zero, List.getElem_cons_succ, Act.put, List.setIfInBounds_toArray, List.set_cons_zero, List.set_cons_succ]
  refine wpAnyH_take (i := 5) (v := ?v28) rfl (by kernel_rfl) (by kernel_rfl) (by kernel_rfl) (fun _ _ _ h => h) (Or.inl ⟨by rfl, ?hy28⟩) hS0 ?_
  case hy28 => (intro w' hw'; skip; go_simp; try with_reducible rfl)
  simp only [List.getElem_toArray, List.getElem_cons_zero, List.getElem_cons_succ, Act.put, List.setIfInBounds_toArray, List.set_cons_zero, List.set_cons_succ]
  refine wpAnyH_take (i := 6) (v := ?v29) rfl (by kernel_rfl) (by kernel_rfl) (by kernel_rfl) (fun _ _ _ h => h) (Or.inl ⟨by rfl, ?hy29⟩) hS0 ?_
  case hy29 => (intro w' hw'; have q := unhide C5 w' hw'; go_simp; try with_reducible rfl)
  simp only [List.getElem_toArray, List.getElem_cons_zero, List.getElem_cons_succ, Act.put, List.setIfInBounds_toArray, List.set_cons_zero, List.set_cons_succ]
  refine wpAnyH_take (i := 7) (v := ?v30) rfl (by kernel_rfl) (by kernel_rfl) (by kernel_rfl) (fun _ _ _ h => h) (Or.inl ⟨by rfl, ?hy30⟩) hS0 ?_
  case hy30 => (intro w' hw'; have q := unhide C7 w' hw'; go_simp; try with_reducible rfl)
  simp only [List.getElem_toArray, List.getElem_cons_zero, List.getElem_cons_succ, Act.put, List.setIfInBounds_toArray, List.set_cons_zero, List.set_cons_succ]
  refine wpAnyH_take (i := 8) (v := ?v31) rfl (by kernel_rfl) (by kernel_rfl) (by kernel_rfl) (fun _ _ _ h => h) (Or.inl ⟨by rfl, ?hy31⟩) hS0 ?_
  case hy31 => (intro w' hw'; skip; go_simp; try with_reducible rfl)
  simp only [List.getElem_toArray, List.getElem_cons_zero, List.getElem_cons_succ, Act.put, List.setIfInBounds_toArray, List.set_cons_zero, List.set_cons_succ]
  refine wpAnyH_take (i := 9) (v := ?v32) rfl (by kernel_rfl) (by kernel_rfl) (by kernel_rfl) (fun _ _ _ h => h) (Or.inl ⟨by rfl, ?hy32⟩) hS0 ?_
  case hy32 => (intro w' hw'; skip; go_simp; try with_reducible rfl)
  simp only [List.getElem_toArray, List.getElem_cons_zero, List.getElem_cons_succ, Act.put, List.setIfInBounds_toArray, List.set_cons_zero, List.set_cons_succ]
  refine wpAnyH_take (i := 10) (v := ?v33) rfl (by kernel_rfl) (by kernel_rfl) (by kernel_rfl) (fun _ _ _ h => h) (Or.inl ⟨by rfl, ?hy33⟩) hS0 ?_
  case hy33 => (intro w' hw'; have q := unhide CG w' hw'; go_simp; try with_reducible rfl)
  simp only [List.getElem_toArray, List.getElem_cons_zero, List.getElem_cons_succ, Act.put, List.setIfInBounds_toArray, List.set_cons_zero, List.set_cons_succ]
  refine rgn.one (i := 11) _ rfl (by kernel_rfl) (by rfl) ?_
  simp only [List.getElem_toArray, List.getElem_cons_zero, List.getElem_cons_succ, Act.put, List.setIfInBounds_toArray, List.set_cons_zero, List.set_cons_succ]
  refine callW _ _ _ _ rfl Try.func11 (by kernel_rfl) (by kernel_rfl) #[.slice xa m xc, .slice ap mp cp] (by first | kernel_rfl | (simp only [List.map_toArray, List.map_cons, List.map_nil]; rfl)) ?_
  refine (unhide SS _ hS0).mono ?_
  rintro e W1 ⟨rfl, c1⟩
  have hS1 := hS0.trans (c1.mono hS0.size)
  clear c1
  refine ⟨_, rfl, hS1, ?_⟩
  clear hS0
  have hS0 := hS1
  clear hS1
  try simp only [List.getElem_toArray, List.getElem_cons_zero, List.getElem_cons_succ, Act.put, List.setIfInBounds_toArray, List.set_cons_zero, List.set_cons_succ]
  refine wpAnyH_take (i := 12) (v := ?v34) rfl (by kernel_rfl) (by kernel_rfl) (by kernel_rfl) (fun _ _ _ h => h) (Or.inl ⟨by rfl, ?hy34⟩) hS0 ?_
  case hy34 => (intro w' hw'; skip; go_simp; try with_reducible rfl)
  simp only [List.getElem_toArray, List.getElem_cons_zero, List.getElem_cons_succ, Act.put, List.setIfInBounds_toArray, List.set_cons_zero, List.set_cons_succ]
  refine wpAnyH_take (i := 13) (v := ?v35) rfl (by kernel_rfl) (by kernel_rfl) (by kernel_rfl) (fun _ _ _ h => h) (Or.inl ⟨by rfl, ?hy35⟩) hS0 ?_
  case hy35 => (intro w' hw'; skip; go_simp; try with_reducible rfl)
  simp only [List.getElem_toArray, List.getElem_cons_zero, List.getElem_cons_succ, Act.put, List.setIfInBounds_toArray, List.set_cons_zero, List.set_cons_succ]
  refine wpAnyH_take (i := 14) (v := ?v36) rfl (by kernel_rfl) (by kernel_rfl) (by kernel_rfl) (fun _ _ _ h => h) (Or.inl ⟨by rfl, ?hy36⟩) hS0 ?_
  case hy36 => (intro w' hw'; skip; go_simp; try with_reducible rfl)
  simp only [List.getElem_toArray, List.getElem_cons_zero, List.getElem_cons_succ, Act.put, List.setIfInBounds_toArray, List.set_cons_zero, List.set_cons_succ]
  refine wpAnyH_take (i := 15) (v := ?v37) rfl (by kernel_rfl) (by kernel_rfl) (by kernel_rfl) (fun _ _ _ h => h) (Or.inl ⟨by rfl, ?hy37⟩) hS0 ?_
  case hy37 => (intro w' hw'; obtain ⟨z0, z1, z2, z3, z4, z5, z6, z7⟩ := Row8.eight (unhide RB w' hw'); simp only [Nat.zero_add] at z1 z2 z3 z4 z5 z6 z7; go_simp; try with_reducible rfl)
  simp only [List.getElem_toArray, List.getElem_cons_zero, List.getElem_cons_succ, Act.put, List.setIfInBounds_toArray, List.set_cons_zero, List.set_cons_succ]
  refine wpAnyH_take (i := 16) (v := ?v38) rfl (by kernel_rfl) (by kernel_rfl) (by kernel_rfl) (fun _ _ _ h => h) (Or.inl ⟨by rfl, ?hy38⟩) hS0 ?_
  case hy38 => (intro w' hw'; have q := unhide C5 w' hw'; go_simp; try with_reducible rfl)
  simp only [List.getElem_toArray, List.getElem_cons_zero, List.getElem_cons_succ, Act.put, List.setIfInBounds_toArray, List.set_cons_zero, List.set_cons_succ]
  refine wpAnyH_take (i := 17) (v := ?v39) rfl (by kernel_rfl) (by kernel_rfl) (by kernel_rfl) (fun _ _ _ h => h) (Or.inl ⟨by rfl, ?hy39⟩) hS0 ?_
  case hy39 => (intro w' hw'; have q := unhide C7 w' hw'; go_simp; try with_reducible rfl)
  simp only [List.getElem_toArray, List.getElem_cons_zero, List.getElem_cons_succ, Act.put, List.setIfInBounds_toArray, List.set_cons_zero, List.set_cons_succ]
  refine wpAnyH_take (i := 18) (v := ?v40) rfl (by kernel_rfl) (by kernel_rfl) (by kernel_rfl) (fun _ _ _ h => h) (Or.inl ⟨by rfl, ?hy40⟩) hS0 ?_
  case hy40 => (intro w' hw'; skip; go_simp; try with_reducible rfl)
  simp only [List.getElem_toArray, List.getElem_cons_zero, List.getElem_cons_succ, Act.put, List.setIfInBounds_toArray, List.set_cons_zero, List.set_cons_succ]
  refine wpAnyH_take (i := 19) (v := ?v41) rfl (by kernel_rfl) (by kernel_rfl) (by kernel_rfl) (fun _ _ _ h => h) (Or.inl ⟨by rfl, ?hy41⟩) hS0 ?_
  case hy41 => (intro w' hw'; skip; go_simp; try with_reducible rfl)
  simp only [List.getElem_toArray, List.getElem_cons_zero, List.getElem_cons_succ, Act.put, List.setIfInBounds_toArray, List.set_cons_zero, List.set_cons_succ]
  refine wpAnyH_take (i := 20) (v := ?v42) rfl (by kernel_rfl) (by kernel_rfl) (by kernel_rfl) (fun _ _ _ h => h) (Or.inl ⟨by rfl, ?hy42⟩) hS0 ?_
  case hy42 => (intro w' hw'; obtain ⟨z0, z1, z2, z3, z4, z5, z6, z7⟩ := Row8.eight (unhide RG w' hw'); go_simp; try with_reducible rfl)
  simp only [List.getElem_toArray, List.getElem_cons_zero, List.getElem_cons_succ, Act.put, List.setIfInBounds_toArray, List.set_cons_zero, List.set_cons_succ]
  refine rgn.one (i := 21) _ rfl (by kernel_rfl) (by rfl) ?_
  simp only [List.getElem_toArray, List.getElem_cons_zero, List.getElem_cons_succ, Act.put, List.setIfInBounds_toArray, List.set_cons_zero, List.set_cons_succ]
  refine callW _ _ _ _ rfl Try.func15 (by kernel_rfl) (by kernel_rfl) #[.agg #[Value.int IntKind.i64 xkd, Value.bool xb, Value.int IntKind.i64 xm, Value.float FloatKind.f64 xf, Value.string xtx, Value.string xty, Value.slice xai xni xci, Value.slice xaf xnf xcf], .agg #[Value.int IntKind.i64 ukd, Value.bool ub, Value.int IntKind.i64 um, Value.float FloatKind.f64 uf, Value.string utx, Value.string uty, Value.slice uai uni uci, Value.slice uaf unf ucf]] (by first | kernel_rfl | (simp only [List.map_toArray, List.map_cons, List.map_nil]; rfl)) ?_
  refine (unhide WH _ hS0).mono ?_
  rintro e W2 ⟨rfl, c2⟩
  have hS1 := hS0.trans (c2.mono hS0.size)
  clear c2
  refine ⟨_, rfl, hS1, ?_⟩
  clear hS0
  have hS0 := hS1
  clear hS1
  try simp only [List.getElem_toArray, List.getElem_cons_zero, List.getElem_cons_succ, Act.put, List.setIfInBounds_toArray, List.set_cons_zero, List.set_cons_succ]
  refine wpAnyH_take (i := 22) (v := ?v43) rfl (by kernel_rfl) (by kernel_rfl) (by kernel_rfl) (fun _ _ _ h => h) (Or.inl ⟨by rfl, ?hy43⟩) hS0 ?_
  case hy43 => (intro w' hw'; skip; go_simp; try with_reducible rfl)
  simp only [List.getElem_toArray, List.getElem_cons_zero, List.getElem_cons_succ, Act.put, List.setIfInBounds_toArray, List.set_cons_zero, List.set_cons_succ]
  refine wpAnyH_take (i := 23) (v := ?v44) rfl (by kernel_rfl) (by kernel_rfl) (by kernel_rfl) (fun _ _ _ h => h) (Or.inl ⟨by rfl, ?hy44⟩) hS0 ?_
  case hy44 => (intro w' hw'; skip; go_simp; try with_reducible rfl)
  simp only [List.getElem_toArray, List.getElem_cons_zero, List.getElem_cons_succ, Act.put, List.setIfInBounds_toArray, List.set_cons_zero, List.set_cons_succ]
  refine wpAnyH_done (by kernel_rfl) ?_ _
  exact ⟨hS0, rfl⟩
end Go.Proofs.Ythpcpminikmcbaa.og
