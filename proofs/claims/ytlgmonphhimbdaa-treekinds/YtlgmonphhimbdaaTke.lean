import Derived.Test.YtlgmonphhimbdaaTkd
namespace Go.Proofs.Ytlgmonphhimbdaa.knd
open Go.ChangeShapes Go.WideShapes Go.ChangeAt Go.RowKit Go.Maps Go.Shelf
open wk
attribute [local go_sem] Oper.semAt_some
set_option linter.unusedVariables false
set_option linter.unusedSimpArgs false
theorem kb_eq : nav (lawOf Try.f3) [1, 1, 1, 1, 1, 1, 1, 1, 1, 0, 1, 0, 1] = .block 5 (.seq (.seq (nav (lawOf Try.f3) [1, 1, 1, 1, 1, 1, 1, 1, 1, 0, 1, 0, 1, 0, 0, 0]) (.cond (.tmp 147) (nav (lawOf Try.f3) [1, 1, 1, 1, 1, 1, 1, 1, 1, 0, 1, 0, 1, 0, 0, 1, 0]) .skip)) (nav (lawOf Try.f3) [1, 1, 1, 1, 1, 1, 1, 1, 1, 0, 1, 0, 1, 0, 1])) := by kernel_rfl
set_option maxRecDepth 100000 in
set_option maxHeartbeats 1000000 in
theorem kn_round {w U X : World} {rb ob lb nb Bo Bq q c nx l n B0 N : Nat} {Xt V : Nat → Prop} {M : Option Nat} {rs : List Rw} {a : Option Addr} {ps : List Pr} {pre : List (Fin 65536 × Sv)} {x : Fin 65536 × Sv} {t0 t1 t2 t3 t4 t5 t7 t8 t9 t10 t11 t12 t13 t14 t15 t16 t17 t18 t20 t23 t24 t25 t26 t27 t28 t29 t30 t31 t32 t33 t34 t35 t36 t37 t38 t39 t40 t41 t42 t43 t44 t45 t46 t47 t48 t49 t50 t51 t52 t53 t54 t55 t56 t57 t58 t59 t60 t61 t62 t63 t64 t65 t66 t67 t68 t69 t70 t71 t72 t73 t74 t75 t76 t77 t78 t79 t80 t81 t82 t83 t84 t85 t86 t87 t88 t89 t90 t91 t92 t93 t94 t95 t96 t97 t98 t99 t100 t101 t102 t103 t104 t105 t106 t107 t108 t109 t110 t111 t112 t113 t114 t115 t116 t117 t118 t119 t120 t121 t122 t123 t124 t125 t126 t127 t128 t129 t130 t131 t132 t133 t134 t135 t136 t137 t138 t139 t140 t141 t142 t143 t144 t145 t146 t147 t148 t149 t150 t151 t152 t153 t154 t155 t156 t157 t158 : Value}
    (E : KnE w U rb ob lb nb Bo Xt V M rs nx a q c ps) (hI : RoI U nb pre.length X) (hnx : NxE (ents rs) pre x) (hB : Bq < X.heap.size) (hk3 : X.rangeAt Bq 0 [.int .i8 (p0 x.1), .int .i8 (p1 x.1), .bool (p2 x.1)]) (hN : N + 1 < X.heap.size) (hNn : N + 1 ≠ nb) :
    (nav (lawOf Try.f3) [1, 1, 1, 1, 1, 1, 1, 1, 1, 0, 1, 0, 1]).wpIn (Fence.wide.inRound l) n Try.prog (postT B0 (KpE N x) (fun pre X => RoI U nb pre.length X) (fun _ _ _ => False) (pre ++ [x]) X) { tmps := #[t0, t1, t2, t3, t4, t5, .pointer (some ⟨lb, 0, none⟩), t7, t8, t9, t10, t11, t12, t13, t14, t15, t16, t17, t18, .pointer (some ⟨nb, 0, none⟩), t20, .pointer (some ⟨Bq, 0, none⟩), .slice x.2.1 x.2.2.1 x.2.2.2, t23, t24, t25, t26, t27, t28, t29, t30, t31, t32, t33, t34, t35, t36, t37, t38, t39, t40, t41, t42, t43, t44, t45, t46, t47, t48, t49, t50, t51, t52, t53, t54, t55, t56, t57, t58, t59, t60, t61, t62, t63, t64, t65, t66, t67, t68, t69, t70, t71, t72, t73, t74, t75, t76, t77, t78, t79, t80, t81, t82, t83, t84, t85, t86, t87, t88, t89, t90, t91, t92, t93, t94, t95, t96, t97, t98, t99, t100, t101, t102, t103, t104, t105, t106, t107, t108, t109, t110, t111, t112, t113, t114, t115, t116, t117, t118, t119, t120, t121, t122, t123, t124, t125, t126, t127, t128, t129, t130, t131, t132, t133, t134, t135, t136, t137, t138, t139, t140, t141, t142, t143, t144, t145, t146, t147, t148, t149, t150, t151, t152, t153, t154, t155, t156, t157, t158], defers := [] } X := by
  obtain ⟨hlt, ⟨r, hr, hrx⟩, y, hp⟩ := nx_key E.kn.eqk hnx
  obtain ⟨gv, L, cv, ev, hL, -⟩ := E.kn.vs r hr
  rw [hrx] at ev
  have hL0 : 0 < x.2.2.1 := by rw [ev]; exact Nat.succ_pos _
  have hq : q ≤ 65536 := by have := E.kn.len; have := E.qe; omega
  have hlt' : pre.length < q := by rw [E.qe]; exact hlt
  have hbl : Boxed X lb 35 (.slice a q c) := hI.box E.kn.l E.nl.1
  obtain ⟨a', c', e', h'⟩ := E.kn.rl
  simp only [Value.slice.injEq] at e'
  obtain ⟨rfl, -, rfl⟩ := e'
  rcases h' with h0 | ⟨g, rfl, hg, -, hra⟩
  · rw [h0] at hp; cases hp
  have hgn : g ≠ nb := E.nrl g (fun e => by rw [e] at hp; cases hp) rfl
  have hc := (World.cell?_of_block (a := ⟨g, pre.length * 2, none⟩) (hI.blk g hg hgn)).trans (rl_cells hra hp).1
  have hgX : g < X.heap.size := Nat.lt_of_lt_of_le hg hI.size
  rw [kb_eq]
  refine wpIn_block (wpIn_seq (wpIn_seq ?_))
  refine wpIn_mono (chk33 hI.nbx hbl hlt' hq hgX hc hB hk3 hL0) ?_
  intro e a2 X2 h2
  cases e <;> try exact h2.elim
  obtain ⟨b2, s129, s130, s131, s132, s133, s134, s135, s136, s137, s138, s139, s140, s141, s142, s143, s144, s145, s146, rfl⟩ := h2
  refine wpIn_cond_false rfl (wpIn_skip ?_)
  have nU : nb < U.heap.size := E.n.lt
  have hI2 := hI.below nU b2
  have cn := hI2.nbx.cell
  have fn := hI2.nbx.frozen
  have kb : pre.length ≤ 65536 := by omega
  obtain ⟨m, hm⟩ : ∃ m, m = pre.length := ⟨_, rfl⟩
  rw [← hm] at cn kb
  have HM := hide hm
  have HI2 := hide hI2
  have B2 := hide b2
  clear hI2 b2 hI E hnx hp hra hc hm hlt hlt' hq ev hr hrx hk3 hbl
  simp only [lawOf, nav, Try.f3, Option.getD_some]
  gi_wp2
  have b2 := unhide B2
  have s2 := b2.size
  have e1 : ((m : Int) + 1) = ((m + 1 : Nat) : Int) := by omega
  rw [e1]
  refine ⟨(keepsFrom_below' b2).trans ((KeepsOthers.setCell _ _ _).from _), ⟨by simpa using s2, (Below.heap_setCell _ ⟨nb, 0, none⟩ _ _ hNn).trans (b2.block _ hN)⟩, ?_⟩
  show RoI U nb (List.length _) _
  rw [List.length_append, unhide HM]
  exact (unhide HI2).set _
set_option maxRecDepth 100000 in
set_option maxHeartbeats 1000000 in
theorem kn_36 {n q c rb ob lb nb : Nat} {a : Option Addr} {X : World} {ds : List Deferred} {t0 t1 t2 t3 t7 t8 t9 t10 t11 t12 t13 t14 t15 t16 t17 t18 t20 t21 t22 t23 t24 t25 t26 t27 t28 t29 t30 t31 t32 t33 t34 t35 t36 t37 t38 t39 t40 t41 t42 t43 t44 t45 t46 t47 t48 t49 t50 t51 t52 t53 t54 t55 t56 t57 t58 t59 t60 t61 t62 t63 t64 t65 t66 t67 t68 t69 t70 t71 t72 t73 t74 t75 t76 t77 t78 t79 t80 t81 t82 t83 t84 t85 t86 t87 t88 t89 t90 t91 t92 t93 t94 t95 t96 t97 t98 t99 t100 t101 t102 t103 t104 t105 t106 t107 t108 t109 t110 t111 t112 t113 t114 t115 t116 t117 t118 t119 t120 t121 t122 t123 t124 t125 t126 t127 t128 t129 t130 t131 t132 t133 t134 t135 t136 t137 t138 t139 t140 t141 t142 t143 t144 t145 t146 t147 t148 t149 t150 t151 t152 t153 t154 t155 t156 t157 t158 : Value} (hq : q ≤ 65536) (hrn : rb ≠ nb) (hrl : rb ≠ lb)
    (hn : Boxed X nb 3 (.int .i64 (q : Nat))) (hl : Boxed X lb 35 (.slice a q c)) (hr : Boxed X rb 4 (.bool false)) (LN : Hid (∀ W, Below X.heap.size X W → Calls Try.prog 10 #[.pointer (some ⟨ob, 0, none⟩)] W fun e w' => e = .returned (.int .i64 (q : Nat)) ∧ w' = W)) :
    (nav (lawOf Try.f3) [1, 1, 1, 1, 1, 1, 1, 1, 1, 1, 0]).wpIn Fence.wide n Try.prog (cut fun a' X' => (∃ X2, Below X.heap.size X X2 ∧ X' = X2.setCell ⟨rb, 0, none⟩ (.bool true)) ∧ ∃ s150 s151 s152 s153 s154 s155 s156 s157 s158, a' = { tmps := #[t0, t1, t2, t3, .pointer (some ⟨rb, 0, none⟩), .pointer (some ⟨ob, 0, none⟩), .pointer (some ⟨lb, 0, none⟩), t7, t8, t9, t10, t11, t12, t13, t14, t15, t16, t17, t18, .pointer (some ⟨nb, 0, none⟩), t20, t21, t22, t23, t24, t25, t26, t27, t28, t29, t30, t31, t32, t33, t34, t35, t36, t37, t38, t39, t40, t41, t42, t43, t44, t45, t46, t47, t48, t49, t50, t51, t52, t53, t54, t55, t56, t57, t58, t59, t60, t61, t62, t63, t64, t65, t66, t67, t68, t69, t70, t71, t72, t73, t74, t75, t76, t77, t78, t79, t80, t81, t82, t83, t84, t85, t86, t87, t88, t89, t90, t91, t92, t93, t94, t95, t96, t97, t98, t99, t100, t101, t102, t103, t104, t105, t106, t107, t108, t109, t110, t111, t112, t113, t114, t115, t116, t117, t118, t119, t120, t121, t122, t123, t124, t125, t126, t127, t128, t129, t130, t131, t132, t133, t134, t135, t136, t137, t138, t139, t140, t141, t142, t143, t144, t145, t146, t147, t148, t149, s150, s151, s152, s153, s154, s155, s156, s157, s158], defers := ds }) { tmps := #[t0, t1, t2, t3, .pointer (some ⟨rb, 0, none⟩), .pointer (some ⟨ob, 0, none⟩), .pointer (some ⟨lb, 0, none⟩), t7, t8, t9, t10, t11, t12, t13, t14, t15, t16, t17, t18, .pointer (some ⟨nb, 0, none⟩), t20, t21, t22, t23, t24, t25, t26, t27, t28, t29, t30, t31, t32, t33, t34, t35, t36, t37, t38, t39, t40, t41, t42, t43, t44, t45, t46, t47, t48, t49, t50, t51, t52, t53, t54, t55, t56, t57, t58, t59, t60, t61, t62, t63, t64, t65, t66, t67, t68, t69, t70, t71, t72, t73, t74, t75, t76, t77, t78, t79, t80, t81, t82, t83, t84, t85, t86, t87, t88, t89, t90, t91, t92, t93, t94, t95, t96, t97, t98, t99, t100, t101, t102, t103, t104, t105, t106, t107, t108, t109, t110, t111, t112, t113, t114, t115, t116, t117, t118, t119, t120, t121, t122, t123, t124, t125, t126, t127, t128, t129, t130, t131, t132, t133, t134, t135, t136, t137, t138, t139, t140, t141, t142, t143, t144, t145, t146, t147, t148, t149, t150, t151, t152, t153, t154, t155, t156, t157, t158], defers := ds } X := by
  simp only [lawOf, nav, Try.f3, Option.getD_some]
  refine region_plain (S := fun W => ∃ X2, Below X.heap.size X X2 ∧ (W = X2 ∨ W = X2.setCell ⟨rb, 0, none⟩ (.bool true))) mixed (no_defer (by kernel_rfl)) ?_
  have hB0 : Below X.heap.size X { X with drawn := X.drawn + 1 } := (Below.refl _ _).drew
  have hS0 : ∃ X2, Below X.heap.size X X2 ∧ ({ X with drawn := X.drawn + 1 } = X2 ∨ { X with drawn := X.drawn + 1 } = X2.setCell ⟨rb, 0, none⟩ (.bool true)) := ⟨_, hB0, .inl rfl⟩
  have CN : ∀ W, (∃ X2, Below X.heap.size X X2 ∧ (W = X2 ∨ W = X2.setCell ⟨rb, 0, none⟩ (.bool true))) → W.cell? ⟨nb, 0, none⟩ = some (.int .i64 (q : Nat)) := fun W hW => by
    obtain ⟨X2, h1, rfl | rfl⟩ := hW
    · exact Boxed.cell ((h1.block _ hn.lt).trans hn : Boxed _ nb 3 _)
    · exact (World.cell?_setCell_far _ ⟨rb, 0, none⟩ ⟨nb, 0, none⟩ _ hrn).trans (Boxed.cell ((h1.block _ hn.lt).trans hn : Boxed _ nb 3 _))
  have CL : ∀ W, (∃ X2, Below X.heap.size X X2 ∧ (W = X2 ∨ W = X2.setCell ⟨rb, 0, none⟩ (.bool true))) → W.cell? ⟨lb, 0, none⟩ = some (.slice a q c) := fun W hW => by
    obtain ⟨X2, h1, rfl | rfl⟩ := hW
    · exact Boxed.cell ((h1.block _ hl.lt).trans hl : Boxed _ lb 35 _)
    · exact (World.cell?_setCell_far _ ⟨rb, 0, none⟩ ⟨lb, 0, none⟩ _ hrl).trans (Boxed.cell ((h1.block _ hl.lt).trans hl : Boxed _ lb 35 _))
  have CN := hide CN
  have CL := hide CL
  have cr := hr.cell
  have fr := hr.frozen
  clear hn hl hr
  refine wpAnyH_take (i := 0) (v := ?v1) rfl (by kernel_rfl) (by kernel_rfl) (by kernel_rfl) (fun _ _ _ h => h) (Or.inl ⟨by rfl, ?hy1⟩) hS0 ?_
  case hy1 => (intro w' hw'; have q := unhide CN w' hw'; go_simp; try with_reducible rfl)
  simp only [List.getElem_toArray, List.getElem_cons_zero, List.getElem_cons_succ, Act.put, List.setIfInBounds_toArray, List.set_cons_zero, List.set_cons_succ]
  refine wpAnyH_take (i := 1) (v := ?v2) rfl (by kernel_rfl) (by kernel_rfl) (by kernel_rfl) (fun _ _ _ h => h) (Or.inl ⟨by rfl, ?hy2⟩) hS0 ?_
  case hy2 => (intro w' hw'; have q := unhide CL w' hw'; go_simp; try with_reducible rfl)
  simp only [List.getElem_toArray, List.getElem_cons_zero, List.getElem_cons_succ, Act.put, List.setIfInBounds_toArray, List.set_cons_zero, List.set_cons_succ]
  refine wpAnyH_take (i := 2) (v := ?v3) rfl (by kernel_rfl) (by kernel_rfl) (by kernel_rfl) (fun _ _ _ h => h) (Or.inl ⟨by rfl, ?hy3⟩) hS0 ?_
  case hy3 => (intro w' hw'; skip; go_simp; try with_reducible rfl)
  simp only [List.getElem_toArray, List.getElem_cons_zero, List.getElem_cons_succ, Act.put, List.setIfInBounds_toArray, List.set_cons_zero, List.set_cons_succ]
  refine wpAnyH_take (i := 3) (v := ?v4) rfl (by kernel_rfl) (by kernel_rfl) (by kernel_rfl) (fun _ _ _ h => h) (Or.inl ⟨by rfl, ?hy4⟩) hS0 ?_
  case hy4 => (intro w' hw'; skip; go_simp; try with_reducible rfl)
  simp only [List.getElem_toArray, List.getElem_cons_zero, List.getElem_cons_succ, Act.put, List.setIfInBounds_toArray, List.set_cons_zero, List.set_cons_succ]
  refine wpAnyH_take (i := 4) (v := ?v5) rfl (by kernel_rfl) (by kernel_rfl) (by kernel_rfl) (fun _ _ _ h => h) (Or.inl ⟨by rfl, ?hy5⟩) hS0 ?_
  case hy5 => (intro w' hw'; skip; go_simp; try with_reducible rfl)
  simp only [List.getElem_toArray, List.getElem_cons_zero, List.getElem_cons_succ, Act.put, List.setIfInBounds_toArray, List.set_cons_zero, List.set_cons_succ]
  refine wpAnyH_take (i := 6) (v := ?v6) rfl (by kernel_rfl) (by kernel_rfl) (by kernel_rfl) (fun _ _ _ h => h) (Or.inl ⟨by rfl, ?hy6⟩) hS0 ?_
  case hy6 => (intro w' hw'; have q := unhide CN w' hw'; go_simp; try with_reducible rfl)
  simp only [List.getElem_toArray, List.getElem_cons_zero, List.getElem_cons_succ, Act.put, List.setIfInBounds_toArray, List.set_cons_zero, List.set_cons_succ]
  refine rgn.one (i := 5) _ rfl (by kernel_rfl) (by rfl) ?_
  simp only [List.getElem_toArray, List.getElem_cons_zero, List.getElem_cons_succ, Act.put, List.setIfInBounds_toArray, List.set_cons_zero, List.set_cons_succ]
  refine callW _ _ _ _ rfl Try.func10 (by kernel_rfl) (by kernel_rfl) #[.pointer (some ⟨ob, 0, none⟩)] (by first | kernel_rfl | (simp only [List.map_toArray, List.map_cons, List.map_nil]; rfl)) ?_
  refine (unhide LN _ hB0).mono ?_
  rintro e W1 ⟨rfl, hW1⟩
  subst hW1
  refine ⟨_, rfl, hS0, ?_⟩
  try simp only [List.getElem_toArray, List.getElem_cons_zero, List.getElem_cons_succ, Act.put, List.setIfInBounds_toArray, List.set_cons_zero, List.set_cons_succ]
  refine wpAnyH_take (i := 7) (v := ?v7) rfl (by kernel_rfl) (by kernel_rfl) (by kernel_rfl) (fun _ _ _ h => h) (Or.inl ⟨by rfl, ?hy7⟩) hS0 ?_
  case hy7 => (intro w' hw'; skip; go_simp; try with_reducible rfl)
  simp only [List.getElem_toArray, List.getElem_cons_zero, List.getElem_cons_succ, Act.put, List.setIfInBounds_toArray, List.set_cons_zero, List.set_cons_succ]
  refine wpAnyH_take (i := 8) (v := ?v8) rfl (by kernel_rfl) (by kernel_rfl) (by kernel_rfl) (fun _ _ _ h => h) (Or.inl ⟨by rfl, ?hy8⟩) hS0 ?_
  case hy8 => (intro w' hw'; skip; go_simp; try with_reducible rfl)
  simp only [List.getElem_toArray, List.getElem_cons_zero, List.getElem_cons_succ, Act.put, List.setIfInBounds_toArray, List.set_cons_zero, List.set_cons_succ]
  refine rgn.one (i := 9) _ rfl (by kernel_rfl) (by rfl) ?_
  simp only [List.getElem_toArray, List.getElem_cons_zero, List.getElem_cons_succ, Act.put, List.setIfInBounds_toArray, List.set_cons_zero, List.set_cons_succ]
  unfold Oper.wp
  go_simp
  refine ⟨⟨_, hB0, .inr rfl⟩, ?_⟩
  refine wpAnyH_done (by kernel_rfl) ?_ _
  exact ⟨⟨_, hB0, rfl⟩, _, _, _, _, _, _, _, _, _, rfl⟩
end Go.Proofs.Ytlgmonphhimbdaa.knd
