import Derived.Test.YtlgmonphhimbdaaTkb
import Derived.Deep.RegionHeld3
namespace Go.Proofs.Ytlgmonphhimbdaa.knd
open Go.ChangeShapes Go.WideShapes Go.ChangeAt Go.RowKit Go.Maps Go.Shelf
open wk
attribute [local go_sem] Oper.semAt_some
set_option linter.unusedVariables false
set_option linter.unusedSimpArgs false
/-- a piece of a function's code -/
def nav : Code → List Nat → Code
  | c, [] => c
  | .seq a _, 0 :: r => nav a r
  | .seq _ b, 1 :: r => nav b r
  | .cond _ a _, 0 :: r => nav a r
  | .cond _ _ b, 1 :: r => nav b r
  | .block _ a, 0 :: r => nav a r
  | .loop a, 0 :: r => nav a r
  | .rangeFunc _ _ a _, 0 :: r => nav a r
  | .rangeFunc _ _ _ b, 1 :: r => nav b r
  | c, _ => c
def lawOf (f : Func) : Code := f.body.getD .skip
/-- the world U, but for the count in one block -/
structure RoI (U : World) (nb n : Nat) (X : World) : Prop where
  os : X.os = U.os
  tape : X.tape = U.tape
  output : X.output = U.output
  size : U.heap.size ≤ X.heap.size
  nbx : Boxed X nb 3 (.int .i64 (n : Nat))
  blk : ∀ b, b < U.heap.size → b ≠ nb → X.heap[b]? = U.heap[b]?
theorem RoI.keep {U X Y : World} {nb n : Nat} (h : RoI U nb n X) (hn : nb < U.heap.size) (ho : Y.os = X.os) (ht : Y.tape = X.tape) (hu : Y.output = X.output) (hs : X.heap.size ≤ Y.heap.size) (hb : ∀ b, b < U.heap.size → Y.heap[b]? = X.heap[b]?) : RoI U nb n Y :=
  ⟨ho.trans h.os, ht.trans h.tape, hu.trans h.output, Nat.le_trans h.size hs, (hb _ hn).trans h.nbx, fun b h1 h2 => (hb b h1).trans (h.blk b h1 h2)⟩
theorem RoI.below {U X Y : World} {nb n : Nat} (h : RoI U nb n X) (hn : nb < U.heap.size) (hb : Below X.heap.size X Y) : RoI U nb n Y :=
  h.keep hn hb.os hb.tape hb.output hb.size (fun b hl => hb.block b (Nat.lt_of_lt_of_le hl h.size))
theorem RoI.set {U X : World} {nb n : Nat} (h : RoI U nb n X) (m : Nat) : RoI U nb m (X.setCell ⟨nb, 0, none⟩ (.int .i64 (m : Nat))) :=
  ⟨h.os, h.tape, h.output, by simpa using h.size, h.nbx.set _, fun b h1 h2 => (Below.heap_setCell _ ⟨nb, 0, none⟩ _ _ h2).trans (h.blk b h1 h2)⟩
theorem RoI.bel {w U X : World} {nb n : Nat} (h : RoI U nb n X) (hb : Below w.heap.size w U) (hn : w.heap.size ≤ nb) : Below w.heap.size w X :=
  hb.trans ⟨h.os, h.tape, h.output, h.size, fun k hk => h.blk k (by have := hb.size; omega) (by omega)⟩
theorem RoI.box {U X : World} {nb n : Nat} (h : RoI U nb n X) {b : Nat} {t : TypeId} {v : Value} (hb : Boxed U b t v) (hn : b ≠ nb) : Boxed X b t v := (h.blk b hb.lt hn).trans hb
theorem no_defer {ops : Array Oper} (h : (ops.toList.all fun o => match o.op with | .defer _ => false | _ => true) = true) (i : Nat) (o : Oper) (c : Call) (hi : ops[i]? = some o) : o.op ≠ .defer c := by
  intro e
  have hm : o ∈ ops.toList := by rw [Array.mem_toList_iff]; exact Array.mem_of_getElem? hi
  have := List.all_eq_true.1 h o hm
  rw [e] at this
  cases this
theorem callW {P : Program} {o : Oper} {a : Act} {w : World} {K : Act → World → Prop} {Q : Exit → Act → World → Prop} (f : FuncId) (fn : Func) (args : Array Operand) (tys : Array TypeId) (ho : o.op = .call { callee := .value (.func f), args := args, argTypes := tys })
    (hf : P.funcs[f]? = some fn) (hname : (fn.name == "runtime.NumGoroutine") = false) (hb : fn.body.isNone = false) (vs : Array Value) (hv : args.map a.eval = vs)
    (hc : Calls P f vs w fun e w' => ∃ v, e = .returned v ∧ K (a.put o.dst v) w') : o.wp P a w K Q := by
  have h1 : fn.name ≠ "runtime.NumGoroutine" := by simpa using hname
  have hrun : (execOp a.eval o).run P w = .ok (.enter f vs) w := by
    unfold execOp
    simp only [ho]
    obtain ⟨c, hc'⟩ : ∃ c, fn.body = some c := by cases h : fn.body <;> simp_all
    simp [resolve, hv, Deferred.ofValue, invoke, callFunc, hf, h1, hc', Act.eval]
  unfold Oper.wp
  rw [hrun, Oper.upon_enter]
  refine hc.mono ?_
  rintro e w' ⟨v, rfl, hk⟩
  exact hk
/-- the loops' own rows stay -/
theorem keepsFrom_below' {B : Nat} {X Y : World} (h : Below X.heap.size X Y) : KeepsFrom B X Y := ⟨h.size, fun k o _ hk _ => (h.block k (Array.getElem?_eq_some_iff.1 hk).1).trans hk⟩
theorem mixed : Try.prog.follows .mixedOrders = true := by kernel_rfl
theorem funcNil (f : Fn) (lb : Array Value) (w : World) : (binOp BinOp.eql 44 (.func f #[] lb) .nilFunc).run Try.prog w = .ok (.bool false) w := by kernel_rfl
section
variable {P : Program} {ops : Array Oper} {Q : Exit → Act → World → Prop}
/-- an operation that is walked outside a round is walked within one -/
theorem operOut_of {n : Nat} {o : Oper} {a : Act} {w : World} {K K' : Act → World → Prop} (hnd : ∀ c, o.op ≠ .defer c) (hK : ∀ a w, K a w → K' a w) (h : o.wp P a w K Q) : o.wpIn Fence.wide n P a w K' Q := by
  refine ⟨fun _ _ => trivial, ?_⟩
  rw [Oper.semAt_plain _ _ _ hnd]
  unfold Oper.wp at h
  generalize (execOp a.eval o).run P w = r at h
  have hd : Fence.wide.depth.isSome = true → 1 ≤ n := fun h' => by simp [Fence.inRound, Fence.wide] at h'
  cases r with
  | ok nx w' =>
    cases nx <;> simp only [Oper.upon, Oper.uponIn] at h ⊢
    case value v => exact hK _ _ h
    case skip => exact hK _ _ h
    case defer d => exact hK _ _ h
    case enter f args =>
      refine ⟨hd, callsIn_wide.2 (Calls.mono h ?_)⟩
      intro e w'' he
      cases e with
      | returned u => exact hK _ _ he
      | panicked c => exact he
      | outgrown => exact he
    case row row args =>
      refine ⟨hd, fun c cs _ => ?_⟩
      obtain ⟨v, w2, r2, s2⟩ := h c cs
      exact ⟨v, w2, hK _ _ r2, stepsIn_wide.2 s2⟩
  | halt x w' =>
    cases x <;> simp only [Oper.upon, Oper.uponIn] at h ⊢
    case panic v => exact h
theorem opsOut_of {n : Nat} (hnd : ∀ (i : Nat) (o : Oper) (c : Call), ops[i]? = some o → o.op ≠ .defer c) (hq : ¬ LetsOut Q) : ∀ (r : List Nat) (a : Act) (w : World), wpOps P ops Q r a w → wpOpsIn Fence.wide n P ops Q r a w
  | [], a, w, h => h
  | i :: r, a, w, h => by
    unfold wpOps at h
    unfold wpOpsIn
    cases ho : ops[i]? with
    | none =>
      simp only [ho] at h ⊢
      exact opsOut_of hnd hq r a w h
    | some o =>
      simp only [ho] at h ⊢
      split
      · rename_i hw
        rw [if_pos hw] at h
        rcases h with h | h
        · exact operOut_of (fun c => hnd i o c ho) (fun a w h => opsOut_of hnd hq r a w h) h
        · exact absurd h.2 hq
      · rename_i hw
        rw [if_neg hw] at h
        exact ⟨fun _ _ => trivial, opsOut_of hnd hq r _ w h⟩
/-- a region that draws its order, within a round: walked as outside one -/
theorem region_plain {n id : Nat} {R : Act → World → Prop} {S : World → Prop} {a : Act} {w : World} (hm : P.follows .mixedOrders = true) (hnd : ∀ (i : Nat) (o : Oper) (c : Call), ops[i]? = some o → o.op ≠ .defer c)
    (h : wpAnyH P .any ops (cut R) S ops.size (Array.replicate ops.size false) a { w with drawn := w.drawn + 1 }) : (Code.region id ops true).wpIn Fence.wide n P (cut R) a w :=
  wpIn_region_draw fun t => by
    simp only [Region.schedule, hm, Bool.true_or, if_true]
    exact opsOut_of hnd (cut_out R) _ _ _ (wpAny_sound ops.size t _ a _ (wpAny_of_held _ _ _ _ h))
end
/-- what lies ahead of the range -/
structure KnE (w U : World) (rb ob lb nb Bo : Nat) (X V : Nat → Prop) (M : Option Nat) (rs : List Rw) (nx : Nat) (a : Option Addr) (q c : Nat) (ps : List Pr) : Prop where
  kn : Kn w U rb ob lb X V M rs nx (.slice a q c) ps
  n : Boxed U nb 3 (.int .i64 0)
  o : U.cell? ⟨Bo, 0, none⟩ = some (.pointer (some ⟨ob, 0, none⟩))
  bo : Bo < U.heap.size ∧ Bo ≠ nb
  nl : lb ≠ nb ∧ rb ≠ nb ∧ ¬ X nb ∧ ¬ V nb
  nw : w.heap.size ≤ nb
  nrl : ∀ p, ps ≠ [] → a = some ⟨p, 0, none⟩ → p ≠ nb
  qe : q = ps.length
theorem nx_key {rs : List Rw} {ps : List Pr} (h : kys rs = ps.map (·.1)) {pre : List (Fin 65536 × Sv)} {x : Fin 65536 × Sv} (hn : NxE (ents rs) pre x) : pre.length < ps.length ∧ (∃ r ∈ rs, r.2 = x) ∧ ∃ y, ps[pre.length]? = some (((x.1.val : Nat) : Int), y) := by
  obtain ⟨k, hk, hp, hx⟩ := hn
  have e : pre.length = k := by rw [hp, List.length_take]; omega
  have hl : rs.length = ps.length := by simpa [kys] using congrArg List.length h
  rw [ents_len] at hk
  subst e
  have hr : rs[pre.length]? = some rs[pre.length] := List.getElem?_eq_getElem hk
  rw [ents_get hr] at hx
  have hx := Option.some.inj hx
  refine ⟨by omega, ⟨_, List.getElem_mem hk, hx⟩, ?_⟩
  have h1 : (kys rs)[pre.length]? = some ((rs[pre.length].2.1.val : Nat) : Int) := by simp [kys, hr]
  rw [h, List.getElem?_map, hx] at h1
  cases hq : ps[pre.length]? with
  | none => rw [hq] at h1; cases h1
  | some p =>
    rw [hq] at h1
    have : p.1 = ((x.1.val : Nat) : Int) := by simpa using h1
    exact ⟨p.2, by rw [← this]⟩
set_option maxRecDepth 100000 in
set_option maxHeartbeats 1000000 in
theorem chk33 {l n k q c g lb nb Bq : Nat} {xk : Fin 65536} {xa : Option Addr} {xL xc : Nat} {X : World} {t0 t1 t2 t3 t4 t5 t7 t8 t9 t10 t11 t12 t13 t14 t15 t16 t17 t18 t20 t23 t24 t25 t26 t27 t28 t29 t30 t31 t32 t33 t34 t35 t36 t37 t38 t39 t40 t41 t42 t43 t44 t45 t46 t47 t48 t49 t50 t51 t52 t53 t54 t55 t56 t57 t58 t59 t60 t61 t62 t63 t64 t65 t66 t67 t68 t69 t70 t71 t72 t73 t74 t75 t76 t77 t78 t79 t80 t81 t82 t83 t84 t85 t86 t87 t88 t89 t90 t91 t92 t93 t94 t95 t96 t97 t98 t99 t100 t101 t102 t103 t104 t105 t106 t107 t108 t109 t110 t111 t112 t113 t114 t115 t116 t117 t118 t119 t120 t121 t122 t123 t124 t125 t126 t127 t128 t129 t130 t131 t132 t133 t134 t135 t136 t137 t138 t139 t140 t141 t142 t143 t144 t145 t146 t147 t148 t149 t150 t151 t152 t153 t154 t155 t156 t157 t158 : Value}
    (hn : Boxed X nb 3 (.int .i64 (k : Nat))) (hl : Boxed X lb 35 (.slice (some ⟨g, 0, none⟩) q c)) (hk : k < q) (hq : q ≤ 65536) (hg : g < X.heap.size) (hc : X.cell? ⟨g, k * 2, none⟩ = some (.int .i64 ((xk.val : Nat) : Int))) (hB : Bq < X.heap.size) (hk3 : X.rangeAt Bq 0 [.int .i8 (p0 xk), .int .i8 (p1 xk), .bool (p2 xk)]) (hL0 : 0 < xL) :
    (nav (lawOf Try.f3) [1, 1, 1, 1, 1, 1, 1, 1, 1, 0, 1, 0, 1, 0, 0, 0]).wpIn (Fence.wide.inRound l) n Try.prog (cut fun a' X' => Below X.heap.size X X' ∧ ∃ s129 s130 s131 s132 s133 s134 s135 s136 s137 s138 s139 s140 s141 s142 s143 s144 s145 s146, a' = { tmps := #[t0, t1, t2, t3, t4, t5, .pointer (some ⟨lb, 0, none⟩), t7, t8, t9, t10, t11, t12, t13, t14, t15, t16, t17, t18, .pointer (some ⟨nb, 0, none⟩), t20, .pointer (some ⟨Bq, 0, none⟩), .slice xa xL xc, t23, t24, t25, t26, t27, t28, t29, t30, t31, t32, t33, t34, t35, t36, t37, t38, t39, t40, t41, t42, t43, t44, t45, t46, t47, t48, t49, t50, t51, t52, t53, t54, t55, t56, t57, t58, t59, t60, t61, t62, t63, t64, t65, t66, t67, t68, t69, t70, t71, t72, t73, t74, t75, t76, t77, t78, t79, t80, t81, t82, t83, t84, t85, t86, t87, t88, t89, t90, t91, t92, t93, t94, t95, t96, t97, t98, t99, t100, t101, t102, t103, t104, t105, t106, t107, t108, t109, t110, t111, t112, t113, t114, t115, t116, t117, t118, t119, t120, t121, t122, t123, t124, t125, t126, t127, t128, s129, s130, s131, s132, s133, s134, s135, s136, s137, s138, s139, s140, s141, s142, s143, s144, s145, s146, .bool false, t148, t149, t150, t151, t152, t153, t154, t155, t156, t157, t158], defers := [] }) { tmps := #[t0, t1, t2, t3, t4, t5, .pointer (some ⟨lb, 0, none⟩), t7, t8, t9, t10, t11, t12, t13, t14, t15, t16, t17, t18, .pointer (some ⟨nb, 0, none⟩), t20, .pointer (some ⟨Bq, 0, none⟩), .slice xa xL xc, t23, t24, t25, t26, t27, t28, t29, t30, t31, t32, t33, t34, t35, t36, t37, t38, t39, t40, t41, t42, t43, t44, t45, t46, t47, t48, t49, t50, t51, t52, t53, t54, t55, t56, t57, t58, t59, t60, t61, t62, t63, t64, t65, t66, t67, t68, t69, t70, t71, t72, t73, t74, t75, t76, t77, t78, t79, t80, t81, t82, t83, t84, t85, t86, t87, t88, t89, t90, t91, t92, t93, t94, t95, t96, t97, t98, t99, t100, t101, t102, t103, t104, t105, t106, t107, t108, t109, t110, t111, t112, t113, t114, t115, t116, t117, t118, t119, t120, t121, t122, t123, t124, t125, t126, t127, t128, t129, t130, t131, t132, t133, t134, t135, t136, t137, t138, t139, t140, t141, t142, t143, t144, t145, t146, t147, t148, t149, t150, t151, t152, t153, t154, t155, t156, t157, t158], defers := [] } X := by
  have PL := hide (fun W => placed_ok xk.val W (by have := xk.isLt; omega))
  rw [kn_fin] at PL
  simp only [lawOf, nav, Try.f3, Option.getD_some]
  refine region_round (S := fun W => Below X.heap.size X W) mixed (no_defer (by kernel_rfl)) ?_
  have hS0 : Below X.heap.size X { X with drawn := X.drawn + 1 } := (Below.refl _ _).drew
  have CN : ∀ W, Below X.heap.size X W → W.cell? ⟨nb, 0, none⟩ = some (.int .i64 (k : Nat)) := fun W hW => Boxed.cell ((hW.block _ hn.lt).trans hn : Boxed W nb 3 _)
  have CL : ∀ W, Below X.heap.size X W → W.cell? ⟨lb, 0, none⟩ = some (.slice (some ⟨g, 0, none⟩) q c) := fun W hW => Boxed.cell ((hW.block _ hl.lt).trans hl : Boxed W lb 35 _)
  have CG : ∀ W, Below X.heap.size X W → W.cell? ⟨g, k * 2, none⟩ = some (.int .i64 ((xk.val : Nat) : Int)) := fun W hW => (hW.cell (p := ⟨g, k * 2, none⟩) hg).trans hc
  have CK : ∀ W, Below X.heap.size X W → W.cell? ⟨Bq, 0, none⟩ = some (.int .i8 (p0 xk)) ∧ W.cell? ⟨Bq, 1, none⟩ = some (.int .i8 (p1 xk)) ∧ W.cell? ⟨Bq, 2, none⟩ = some (.bool (p2 xk)) := fun W hW => ⟨(hW.cell (p := ⟨Bq, 0, none⟩) hB).trans (hk3 0 _ rfl), (hW.cell (p := ⟨Bq, 1, none⟩) hB).trans (hk3 1 _ rfl), (hW.cell (p := ⟨Bq, 2, none⟩) hB).trans (hk3 2 _ rfl)⟩
  have CN := hide CN
  have CL := hide CL
  have CG := hide CG
  have CK := hide CK
  have NE := place_neq xk xk
  simp only [decide_true, Bool.not_true] at NE
  clear hn hl hc hk3 hB
  have ki : ¬ ((q : Int) ≤ (k : Int)) := by omega
  have kj : (k : Int) < (q : Int) := by omega
  have kL : ¬ (xL : Int) = 0 := by omega
  have kL2 : ¬ xL = 0 := by omega
  have kL3 : ((xL : Int) == 0) = false := by simpa using kL
  have kL4 : (xL == 0) = false := by simpa using kL2
  refine wpAnyH_take (i := 0) (v := ?v1) rfl (by kernel_rfl) (by kernel_rfl) (by kernel_rfl) (fun _ _ _ h => h) (Or.inl ⟨by rfl, ?hy1⟩) hS0 ?_
  case hy1 => (intro w' hw'; have q := unhide CN w' hw'; go_simp; try with_reducible rfl)
  simp only [List.getElem_toArray, List.getElem_cons_zero, List.getElem_cons_succ, Act.put, List.setIfInBounds_toArray, List.set_cons_zero, List.set_cons_succ]
  refine wpAnyH_take (i := 1) (v := ?v2) rfl (by kernel_rfl) (by kernel_rfl) (by kernel_rfl) (fun _ _ _ h => h) (Or.inl ⟨by rfl, ?hy2⟩) hS0 ?_
  case hy2 => (intro w' hw'; have q := unhide CL w' hw'; go_simp; try with_reducible rfl)
  simp only [List.getElem_toArray, List.getElem_cons_zero, List.getElem_cons_succ, Act.put, List.setIfInBounds_toArray, List.set_cons_zero, List.set_cons_succ]
  refine wpAnyH_take (i := 2) (v := ?v3) rfl (by kernel_rfl) (by kernel_rfl) (by kernel_rfl) (fun _ _ _ h => h) (Or.inl ⟨by rfl, ?hy3⟩) hS0 ?_
  case hy3 => (intro w' hw'; skip; go_simp; try with_reducible rfl)
  simp only [List.getElem_toArray, List.getElem_cons_zero, List.getElem_cons_succ, Act.put, List.setIfInBounds_toArray, List.set_cons_zero, List.set_cons_succ]
  refine wpAnyH_take (i := 3) (v := ?v4) rfl (by kernel_rfl) (by kernel_rfl) (by kernel_rfl) (fun _ _ _ h => h) (Or.inl ⟨by rfl, ?hy4⟩) hS0 ?_
  case hy4 => (intro w' hw'; skip; go_simp; try with_reducible rfl)
  simp only [List.getElem_toArray, List.getElem_cons_zero, List.getElem_cons_succ, Act.put, List.setIfInBounds_toArray, List.set_cons_zero, List.set_cons_succ]
  refine wpAnyH_take (i := 4) (v := ?v5) rfl (by kernel_rfl) (by kernel_rfl) (by kernel_rfl) (fun _ _ _ h => h) (Or.inl ⟨by rfl, ?hy5⟩) hS0 ?_
  case hy5 => (intro w' hw'; skip; go_simp; try with_reducible rfl)
  simp only [List.getElem_toArray, List.getElem_cons_zero, List.getElem_cons_succ, Act.put, List.setIfInBounds_toArray, List.set_cons_zero, List.set_cons_succ]
  refine wpAnyH_take (i := 6) (v := ?v6) rfl (by kernel_rfl) (by kernel_rfl) (by kernel_rfl) (fun _ _ _ h => h) (Or.inl ⟨by rfl, ?hy6⟩) hS0 ?_
  case hy6 => (intro w' hw'; have q := unhide CL w' hw'; go_simp; try with_reducible rfl)
  simp only [List.getElem_toArray, List.getElem_cons_zero, List.getElem_cons_succ, Act.put, List.setIfInBounds_toArray, List.set_cons_zero, List.set_cons_succ]
  refine wpAnyH_take (i := 7) (v := ?v7) rfl (by kernel_rfl) (by kernel_rfl) (by kernel_rfl) (fun _ _ _ h => h) (Or.inl ⟨by rfl, ?hy7⟩) hS0 ?_
  case hy7 => (intro w' hw'; have q := unhide CN w' hw'; go_simp; try with_reducible rfl)
  simp only [List.getElem_toArray, List.getElem_cons_zero, List.getElem_cons_succ, Act.put, List.setIfInBounds_toArray, List.set_cons_zero, List.set_cons_succ]
  refine wpAnyH_take (i := 8) (v := ?v8) rfl (by kernel_rfl) (by kernel_rfl) (by kernel_rfl) (fun _ _ _ h => h) (Or.inl ⟨by rfl, ?hy8⟩) hS0 ?_
  case hy8 => (intro w' hw'; skip; go_simp; try with_reducible rfl)
  simp only [List.getElem_toArray, List.getElem_cons_zero, List.getElem_cons_succ, Act.put, List.setIfInBounds_toArray, List.set_cons_zero, List.set_cons_succ]
  refine wpAnyH_take (i := 9) (v := ?v9) rfl (by kernel_rfl) (by kernel_rfl) (by kernel_rfl) (fun _ _ _ h => h) (Or.inl ⟨by rfl, ?hy9⟩) hS0 ?_
  case hy9 => (intro w' hw'; skip; go_simp; try with_reducible rfl)
  simp only [List.getElem_toArray, List.getElem_cons_zero, List.getElem_cons_succ, Act.put, List.setIfInBounds_toArray, List.set_cons_zero, List.set_cons_succ]
  refine wpAnyH_take (i := 10) (v := ?v10) rfl (by kernel_rfl) (by kernel_rfl) (by kernel_rfl) (fun _ _ _ h => h) (Or.inl ⟨by rfl, ?hy10⟩) hS0 ?_
  case hy10 => (intro w' hw'; have q := unhide CG w' hw'; go_simp; try with_reducible rfl)
  simp only [List.getElem_toArray, List.getElem_cons_zero, List.getElem_cons_succ, Act.put, List.setIfInBounds_toArray, List.set_cons_zero, List.set_cons_succ]
  refine wpAnyH_take (i := 5) (v := ?v11) rfl (by kernel_rfl) (by kernel_rfl) (by kernel_rfl) (fun _ _ _ h => h) (Or.inl ⟨by rfl, ?hy11⟩) hS0 ?_
  case hy11 => (intro w' hw'; obtain ⟨z0, z1, z2⟩ := unhide CK w' hw'; go_simp; try with_reducible rfl)
  simp only [List.getElem_toArray, List.getElem_cons_zero, List.getElem_cons_succ, Act.put, List.setIfInBounds_toArray, List.set_cons_zero, List.set_cons_succ]
  refine rgn.one (i := 11) _ rfl (by kernel_rfl) (by rfl) ?_
  simp only [List.getElem_toArray, List.getElem_cons_zero, List.getElem_cons_succ, Act.put, List.setIfInBounds_toArray, List.set_cons_zero, List.set_cons_succ]
  refine callW _ _ _ _ rfl Try.func5 (by kernel_rfl) (by kernel_rfl) #[.int .i64 ((xk.val : Nat) : Int)] (by first | kernel_rfl | (simp only [List.map_toArray, List.map_cons, List.map_nil]; rfl)) ?_
  refine (unhide PL _).mono ?_
  rintro e W1 ⟨rfl, c1⟩
  have hS1 := hS0.trans (c1.mono hS0.size)
  clear c1
  refine ⟨_, rfl, hS1, ?_⟩
  clear hS0
  have hS0 := hS1
  clear hS1
  try simp only [List.getElem_toArray, List.getElem_cons_zero, List.getElem_cons_succ, Act.put, List.setIfInBounds_toArray, List.set_cons_zero, List.set_cons_succ]
  refine wpAnyH_take (i := 12) (v := ?v12) rfl (by kernel_rfl) (by kernel_rfl) (by kernel_rfl) (fun _ _ _ h => h) (Or.inl ⟨by rfl, ?hy12⟩) hS0 ?_
  case hy12 => (intro w' hw'; have q := NE w'; go_simp; try with_reducible rfl)
  simp only [List.getElem_toArray, List.getElem_cons_zero, List.getElem_cons_succ, Act.put, List.setIfInBounds_toArray, List.set_cons_zero, List.set_cons_succ]
  refine wpAnyH_take (i := 13) (v := ?v13) rfl (by kernel_rfl) (by kernel_rfl) (by kernel_rfl) (fun _ _ _ h => h) (Or.inl ⟨by rfl, ?hy13⟩) hS0 ?_
  case hy13 => (intro w' hw'; skip; go_simp; try with_reducible rfl)
  simp only [List.getElem_toArray, List.getElem_cons_zero, List.getElem_cons_succ, Act.put, List.setIfInBounds_toArray, List.set_cons_zero, List.set_cons_succ]
  refine wpAnyH_take (i := 14) (v := ?v14) rfl (by kernel_rfl) (by kernel_rfl) (by kernel_rfl) (fun _ _ _ h => h) (Or.inl ⟨by rfl, ?hy14⟩) hS0 ?_
  case hy14 => (intro w' hw'; skip; go_simp; try with_reducible rfl)
  simp only [List.getElem_toArray, List.getElem_cons_zero, List.getElem_cons_succ, Act.put, List.setIfInBounds_toArray, List.set_cons_zero, List.set_cons_succ]
  refine wpAnyH_take (i := 15) (v := ?v15) rfl (by kernel_rfl) (by kernel_rfl) (by kernel_rfl) (fun _ _ _ h => h) (Or.inl ⟨by rfl, ?hy15⟩) hS0 ?_
  case hy15 => (intro w' hw'; skip; go_simp; try with_reducible rfl)
  simp only [List.getElem_toArray, List.getElem_cons_zero, List.getElem_cons_succ, Act.put, List.setIfInBounds_toArray, List.set_cons_zero, List.set_cons_succ]
  refine wpAnyH_take (i := 16) (v := ?v16) rfl (by kernel_rfl) (by kernel_rfl) (by kernel_rfl) (fun _ _ _ h => h) (Or.inl ⟨by rfl, ?hy16⟩) hS0 ?_
  case hy16 => (intro w' hw'; skip; go_simp; try with_reducible rfl)
  simp only [List.getElem_toArray, List.getElem_cons_zero, List.getElem_cons_succ, Act.put, List.setIfInBounds_toArray, List.set_cons_zero, List.set_cons_succ]
  refine wpAnyH_take (i := 17) (v := ?v17) rfl (by kernel_rfl) (by kernel_rfl) (by kernel_rfl) (fun _ _ _ h => h) (Or.inl ⟨by rfl, ?hy17⟩) hS0 ?_
  case hy17 => (intro w' hw'; skip; go_simp; try with_reducible rfl)
  simp only [List.getElem_toArray, List.getElem_cons_zero, List.getElem_cons_succ, Act.put, List.setIfInBounds_toArray, List.set_cons_zero, List.set_cons_succ]
  refine wpAnyH_take (i := 18) (v := ?v18) rfl (by kernel_rfl) (by kernel_rfl) (by kernel_rfl) (fun _ _ _ h => h) (Or.inl ⟨by rfl, ?hy18⟩) hS0 ?_
  case hy18 => (intro w' hw'; skip; go_simp; try with_reducible rfl)
  simp only [List.getElem_toArray, List.getElem_cons_zero, List.getElem_cons_succ, Act.put, List.setIfInBounds_toArray, List.set_cons_zero, List.set_cons_succ]
  refine wpAnyH_done (by kernel_rfl) ?_ _
  exact ⟨hS0, _, _, _, _, _, _, _, _, _, _, _, _, _, _, _, _, _, _, rfl⟩
end Go.Proofs.Ytlgmonphhimbdaa.knd
