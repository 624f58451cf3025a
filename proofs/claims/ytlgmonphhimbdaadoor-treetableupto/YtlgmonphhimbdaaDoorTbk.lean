import Derived.Test.YtlgmonphhimbdaaDoorTbj
namespace Go.Proofs.YtlgmonphhimbdaaDoor.tab
open Go.ChangeShapes Go.WideShapes Go.ChangeAt Go.RowKit Go.Maps Go.Shelf
open wk
attribute [local go_sem] Oper.semAt_some
set_option linter.unusedVariables false
set_option linter.unusedSimpArgs false
theorem mixed : Tryd.prog.follows .mixedOrders = true := by kernel_rfl
theorem no_defer {ops : Array Oper} (h : (ops.toList.all fun o => match o.op with | .defer _ => false | _ => true) = true) (i : Nat) (o : Oper) (c : Call) (hi : ops[i]? = some o) : o.op ≠ .defer c := by
  intro e
  have hm : o ∈ ops.toList := by rw [Array.mem_toList_iff]; exact Array.mem_of_getElem? hi
  have := List.all_eq_true.1 h o hm
  rw [e] at this
  cases this
theorem callW {P : Program} {o : Oper} {a : Act} {w : World} {K : Act → World → Prop} {Q : Exit → Act → World → Prop} (f : FuncId) (fn : Func) (args : Array Operand) (tys : Array TypeId) (ho : o.op = .call { callee := .value (.func f), args := args, argTypes := tys })
    (hf : P.funcs[f]? = some fn) (hname : (fn.name == "runtime.NumGoroutine") = false) (hb : fn.body.isNone = false) (vs : Array Value) (hv : args.map a.eval = vs)
    (hc : Calls P f vs w fun e w' => ∃ v, e = .returned v ∧ K (a.put o.dst v) w') : o.wp P a w K Q := by
  have h1 : fn.name ≠ "runtime.NumGoroutine" := by simpa using hname
  have hrun : (execOp a.eval o).run P w = .ok (.enter f vs) w := by
    unfold execOp
    simp only [ho]
    obtain ⟨c, hc'⟩ : ∃ c, fn.body = some c := by cases h : fn.body <;> simp_all
    simp [resolve, hv, Deferred.ofValue, invoke, callFunc, hf, h1, hc', Act.eval]
  unfold Oper.wp
  rw [hrun, Oper.upon_enter]
  refine hc.mono ?_
  rintro e w' ⟨v, rfl, hk⟩
  exact hk
theorem WlI.out {w U W : World} {B : Nat} {F G : Nat → Prop} {b : Nat} {M : Option Nat} {nx0 : Nat} {ps0 : List Pr} {a : Option Addr} {q c ob lb pb nb fb : Nat} {kd K V : Int} {X : Nat → Prop} {rs : List Rw} {nx k : Nat} {ps : List Pr} {vf : Value} (E : WlE w U B F G b M nx0 ps0 a q c kd K V ob lb pb nb fb) (hI : WlI U B F G b M nx0 ps0 nb fb k W X rs nx ps vf) {j : Nat} (h1 : w.heap.size ≤ j) (h2 : j < U.heap.size + 4) : ¬ X j := fun hx => by
  rcases hI.xf j hx with h | h
  · have := (E.lo j h).2; omega
  · omega
/-- what Put has left in a round -/
def WpR (B : Nat) (X : Nat → Prop) (b : Nat) (M : Option Nat) (rs : List Rw) (nx : Nat) (s : ByteArray) (V : Int) (W W' : World) : Prop :=
  ∃ X' M', Tb W' B X' b M' (putR rs nx s V) (nxR rs nx s) ∧ (∀ j, X j → X' j) ∧ (∀ j, X' j → X j ∨ W.heap.size ≤ j) ∧ Kx X W W' ∧ (∀ m, M = some m → M' = some m)
set_option maxRecDepth 100000 in
set_option maxHeartbeats 1000000 in
theorem wl_put {w U W : World} {B : Nat} {F G : Nat → Prop} {b : Nat} {M : Option Nat} {nx0 : Nat} {ps0 : List Pr} {a : Option Addr} {q c l n ob lb pb nb fb : Nat} {kd K V : Int} {X : Nat → Prop} {rs : List Rw} {nx k : Nat} {ps : List Pr} {vf : Value} {kj : Int} {fr : Bool} {t0 t1 t2 t6 t7 t10 t11 t12 t13 t14 t15 t16 t17 t18 t19 t20 t21 t22 t23 t24 t25 t26 t27 t28 t29 t30 t31 t32 t33 t34 t35 t36 t37 t38 t39 t40 t41 t42 t43 t44 t45 t46 t47 t48 t49 t50 t51 t52 t53 t54 t55 t56 t57 t58 t59 t60 t61 t62 t63 t64 t65 t66 t67 t68 t69 t70 t71 t72 t73 t74 t75 t76 t77 t78 t79 t80 t81 t82 t83 t84 t85 t86 t87 t88 t89 t90 t91 t92 t93 t94 t95 t96 t97 t98 t99 t100 t101 : Value} (E : WlE w U B F G b M nx0 ps0 a q c kd K V ob lb pb nb fb) (hI : WlI U B F G b M nx0 ps0 nb fb k W X rs nx ps vf) (hfr : Hid ((!(gtR rs (nm kj)).isSome) = fr)) (hkj : Hid (IntKind.i64.wrap (K + (k : Nat)) = kj)) (hin : InR kj) (hkq : k < q) :
    (nav wlLaw [1, 1, 1, 1, 1, 0, 1, 0, 1, 0, 1, 0]).wpIn (Fence.wide.inRound l) n Tryd.prog (cut fun a' W' => WpR B X b M rs nx (nm kj) V W W' ∧ a' = { tmps := #[t0, t1, t2, .pointer (some ⟨ob, 0, none⟩), .pointer (some ⟨lb, 0, none⟩), .pointer (some ⟨pb, 0, none⟩), t6, t7, .pointer (some ⟨nb, 0, none⟩), .pointer (some ⟨fb, 0, none⟩), t10, t11, t12, .bool fr, t14, t15, t16, t17, t18, t19, t20, t21, t22, t23, t24, t25, t26, t27, t28, t29, t30, t31, t32, t33, t34, t35, t36, t37, t38, t39, t40, t41, t42, t43, t44, t45, t46, t47, t48, t49, t50, t51, .pointer (some ⟨b, 0, none⟩), .pointer (some ⟨pb, 1, none⟩), .int .i64 K, .int .i64 (k : Nat), .int .i64 kj, .string (nm kj), .pointer (some ⟨pb, 2, none⟩), .int .i64 V, .bool fr, t61, t62, t63, t64, t65, t66, t67, t68, t69, t70, t71, t72, t73, t74, t75, t76, t77, t78, t79, t80, t81, t82, t83, t84, t85, t86, t87, t88, t89, t90, t91, t92, t93, t94, t95, t96, t97, t98, t99, t100, t101], defers := [] }) { tmps := #[t0, t1, t2, .pointer (some ⟨ob, 0, none⟩), .pointer (some ⟨lb, 0, none⟩), .pointer (some ⟨pb, 0, none⟩), t6, t7, .pointer (some ⟨nb, 0, none⟩), .pointer (some ⟨fb, 0, none⟩), t10, t11, t12, t13, t14, t15, t16, t17, t18, t19, t20, t21, t22, t23, t24, t25, t26, t27, t28, t29, t30, t31, t32, t33, t34, t35, t36, t37, t38, t39, t40, t41, t42, t43, t44, t45, t46, t47, t48, t49, t50, t51, t52, t53, t54, t55, t56, t57, t58, t59, t60, t61, t62, t63, t64, t65, t66, t67, t68, t69, t70, t71, t72, t73, t74, t75, t76, t77, t78, t79, t80, t81, t82, t83, t84, t85, t86, t87, t88, t89, t90, t91, t92, t93, t94, t95, t96, t97, t98, t99, t100, t101], defers := [] } W := by
  have bwW : Below B w W := hI.bel E.bw E.hB E.wn E.wf (fun j hj => (E.lo j hj).1)
  have lU := E.o.lt
  have pU := E.pl
  have nU := E.nu
  have sU := hI.kp.size
  have xo : ¬ X ob := hI.out E E.wo (by omega)
  have xp : ¬ X pb := hI.out E E.wp (by omega)
  have xn : ¬ X nb := hI.out E E.wn (by omega)
  have o0 := (hI.kp.box E.o (fun h => by have := (E.lo _ h).2; have := E.wo; omega) E.on).cell
  have pb0 : W.heap[pb]? = U.heap[pb]? := hI.kp.blk pb pU (fun h => by have := (E.lo _ h).2; have := E.wp; omega) E.pn.1 E.pn.2
  have p1 : W.cell? ⟨pb, 1, none⟩ = some (.int .i64 K) := (World.cell?_of_block (a := ⟨pb, 1, none⟩) pb0).trans (E.p 1 _ rfl)
  have p2 : W.cell? ⟨pb, 2, none⟩ = some (.int .i64 V) := (World.cell?_of_block (a := ⟨pb, 2, none⟩) pb0).trans (E.p 2 _ rfl)
  have n0 := hI.n.cell
  have C3 := hide (fun W' (hW : Kx X W W') => (hW.cell (p := ⟨ob, 0, none⟩) (by show ob < W.heap.size; omega) xo).trans o0)
  have C4 := hide (fun W' (hW : Kx X W W') => (hW.cell (p := ⟨pb, 1, none⟩) (by show pb < W.heap.size; omega) xp).trans p1)
  have C5 := hide (fun W' (hW : Kx X W W') => (hW.cell (p := ⟨pb, 2, none⟩) (by show pb < W.heap.size; omega) xp).trans p2)
  have C8 := hide (fun W' (hW : Kx X W W') => (hW.cell (p := ⟨nb, 0, none⟩) (by show nb < W.heap.size; omega) xn).trans n0)
  have HT := hide hI.tb
  have lR : rs.length ≤ 1048576 := by have := hI.rel.len; have := hI.len; have := E.qe; have := E.qb; omega
  have lX : nx ≤ 1152921504606846976 := by have := hI.nxb; have := E.xb; have := E.qb; omega
  have loX : ∀ j, X j → B ≤ j := fun j hj => (hI.tb.lo j hj).1
  have hBW : B ≤ W.heap.size := Nat.le_trans E.hB (Nat.le_trans E.bw.size sU)
  have TB := hide (fun W' (hW : Kx X W W') => E.tw W' (bwW.trans (hW.below hBW loX)))
  clear hI E o0 pb0 p1 p2 n0 bwW sU lU pU nU
  simp only [wlLaw, nav, Tryd.f19, Option.getD_some]
  refine region_round (S := fun W' => Kx X W W') mixed (no_defer (by kernel_rfl)) ?_
  have hS0 : Kx X W { W with drawn := W.drawn + 1 } := ⟨rfl, rfl, rfl, Nat.le_refl _, fun _ _ _ => rfl⟩
  refine wpAnyH_take (i := 0) (v := ?v1) rfl (by kernel_rfl) (by kernel_rfl) (by kernel_rfl) (fun _ _ _ h => h) (Or.inl ⟨by rfl, ?hy1⟩) hS0 ?_
  case hy1 => (intro w' hw'; have q := unhide C3 w' hw'; go_simp; try with_reducible rfl)
  simp only [List.getElem_toArray, List.getElem_cons_zero, List.getElem_cons_succ, Act.put, List.setIfInBounds_toArray, List.set_cons_zero, List.set_cons_succ]
  refine wpAnyH_take (i := 1) (v := ?v2) rfl (by kernel_rfl) (by kernel_rfl) (by kernel_rfl) (fun _ _ _ h => h) (Or.inl ⟨by rfl, ?hy2⟩) hS0 ?_
  case hy2 => (intro w' hw'; skip; go_simp; try with_reducible rfl)
  simp only [List.getElem_toArray, List.getElem_cons_zero, List.getElem_cons_succ, Act.put, List.setIfInBounds_toArray, List.set_cons_zero, List.set_cons_succ]
  refine wpAnyH_take (i := 2) (v := ?v3) rfl (by kernel_rfl) (by kernel_rfl) (by kernel_rfl) (fun _ _ _ h => h) (Or.inl ⟨by rfl, ?hy3⟩) hS0 ?_
  case hy3 => (intro w' hw'; have q := unhide C4 w' hw'; go_simp; try with_reducible rfl)
  simp only [List.getElem_toArray, List.getElem_cons_zero, List.getElem_cons_succ, Act.put, List.setIfInBounds_toArray, List.set_cons_zero, List.set_cons_succ]
  refine wpAnyH_take (i := 3) (v := ?v4) rfl (by kernel_rfl) (by kernel_rfl) (by kernel_rfl) (fun _ _ _ h => h) (Or.inl ⟨by rfl, ?hy4⟩) hS0 ?_
  case hy4 => (intro w' hw'; have q := unhide C8 w' hw'; go_simp; try with_reducible rfl)
  simp only [List.getElem_toArray, List.getElem_cons_zero, List.getElem_cons_succ, Act.put, List.setIfInBounds_toArray, List.set_cons_zero, List.set_cons_succ]
  refine wpAnyH_take (i := 4) (v := ?v5) rfl (by kernel_rfl) (by kernel_rfl) (by kernel_rfl) (fun _ _ _ h => h) (Or.inl ⟨by rfl, ?hy5⟩) hS0 ?_
  case hy5 => (intro w' hw'; have q := unhide hkj; go_simp; try with_reducible rfl)
  simp only [List.getElem_toArray, List.getElem_cons_zero, List.getElem_cons_succ, Act.put, List.setIfInBounds_toArray, List.set_cons_zero, List.set_cons_succ]
  refine wpAnyH_take (i := 6) (v := ?v6) rfl (by kernel_rfl) (by kernel_rfl) (by kernel_rfl) (fun _ _ _ h => h) (Or.inl ⟨by rfl, ?hy6⟩) hS0 ?_
  case hy6 => (intro w' hw'; skip; go_simp; try with_reducible rfl)
  simp only [List.getElem_toArray, List.getElem_cons_zero, List.getElem_cons_succ, Act.put, List.setIfInBounds_toArray, List.set_cons_zero, List.set_cons_succ]
  refine wpAnyH_take (i := 7) (v := ?v7) rfl (by kernel_rfl) (by kernel_rfl) (by kernel_rfl) (fun _ _ _ h => h) (Or.inl ⟨by rfl, ?hy7⟩) hS0 ?_
  case hy7 => (intro w' hw'; have q := unhide C5 w' hw'; go_simp; try with_reducible rfl)
  simp only [List.getElem_toArray, List.getElem_cons_zero, List.getElem_cons_succ, Act.put, List.setIfInBounds_toArray, List.set_cons_zero, List.set_cons_succ]
  refine rgn.one (i := 5) _ rfl (by kernel_rfl) (by rfl) ?_
  refine callW _ _ _ _ rfl Tryd.func12 (by kernel_rfl) (by kernel_rfl) #[.int .i64 kj] (by first | kernel_rfl | (simp only [List.map_toArray, List.map_cons, List.map_nil]; rfl)) ?_
  refine (name_ok kj hin _ (unhide TB _ hS0)).mono ?_
  rintro e W1 ⟨rfl, b1⟩
  have b1 : Below W.heap.size W W1 := ⟨b1.os, b1.tape, b1.output, b1.size, b1.block⟩
  have k1 : Kx X W W1 := Kx.of_below b1
  refine ⟨_, rfl, k1, ?_⟩
  have hS0 := k1
  simp only [List.getElem_toArray, List.getElem_cons_zero, List.getElem_cons_succ, Act.put, List.setIfInBounds_toArray, List.set_cons_zero, List.set_cons_succ]
  refine rgn.one (i := 8) _ rfl (by kernel_rfl) (by rfl) ?_
  refine callW _ _ _ _ rfl Tryd.func5 (by kernel_rfl) (by kernel_rfl) #[.pointer (some ⟨b, 0, none⟩), .string (nm kj), .int .i64 V] (by first | kernel_rfl | (simp only [List.map_toArray, List.map_cons, List.map_nil]; rfl)) ?_
  refine (put_tb ((unhide HT).below b1) (nm kj) V (by have := nm_size kj hin; simp only [maxLen]; omega) (by omega) lX).mono ?_
  rintro e W2 ⟨he, X', M', t2, x1, x2, k2, m2⟩
  rw [unhide hfr] at he
  subst he
  have k3 : Kx X W W2 := k1.trans k2 (fun i hi => .inl hi)
  have RR := hide (⟨X', M', t2, x1, fun j hj => (x2 j hj).imp id (fun h => Nat.le_trans b1.size h), k3, m2⟩ : WpR B X b M rs nx (nm kj) V W W2)
  refine ⟨_, rfl, k3, ?_⟩
  have hS0 := k3
  simp only [List.getElem_toArray, List.getElem_cons_zero, List.getElem_cons_succ, Act.put, List.setIfInBounds_toArray, List.set_cons_zero, List.set_cons_succ]
  refine wpAnyH_take (i := 9) (v := ?v8) rfl (by kernel_rfl) (by kernel_rfl) (by kernel_rfl) (fun _ _ _ h => h) (Or.inl ⟨by rfl, ?hy8⟩) hS0 ?_
  case hy8 => (intro w' hw'; skip; go_simp; try with_reducible rfl)
  simp only [List.getElem_toArray, List.getElem_cons_zero, List.getElem_cons_succ, Act.put, List.setIfInBounds_toArray, List.set_cons_zero, List.set_cons_succ]
  refine wpAnyH_done (by kernel_rfl) ?_ _
  exact ⟨unhide RR, rfl⟩
end Go.Proofs.YtlgmonphhimbdaaDoor.tab
