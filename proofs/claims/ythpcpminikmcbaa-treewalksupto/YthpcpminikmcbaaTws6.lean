import Derived.Test.YthpcpminikmcbaaTws5
namespace Go.Proofs.Ythpcpminikmcbaa.og
open Go.ChangeShapes Go.WideShapes Go.ChangeAt Go.RowKit Go.Shelf
open vl hiding cB cFl cS cF cI cK cIt
open stp (St Pth St3)
open wk
attribute [local go_sem] Oper.semAt_some
set_option linter.unusedVariables false
set_option linter.unusedSimpArgs false
theorem cellsAt {w : World} {b : Nat} {arr : Array Value} {t : TypeId} {fr : Nat × Nat} (h : w.heap[b]? = some (.cells arr t fr)) (o : Nat) : w.cell? ⟨b, o, none⟩ = arr[o]? := by
  simp [World.cell?, h]
/-- only the cells of one block are written -/
structure OvR (X : World) (G : Option Nat) (Y : World) : Prop where
  os : Y.os = X.os
  tape : Y.tape = X.tape
  output : Y.output = X.output
  size : Y.heap.size = X.heap.size
  block : ∀ b, some b ≠ G → Y.heap[b]? = X.heap[b]?
  own : ∀ (g : Nat) (cur : Array Value) (t : TypeId), G = some g → X.heap[g]? = some (.cells cur t (0, 0)) → ∃ cur' : Array Value, Y.heap[g]? = some (.cells cur' t (0, 0)) ∧ cur'.size = cur.size
theorem OvR.refl (X : World) (G : Option Nat) : OvR X G X := ⟨rfl, rfl, rfl, rfl, fun _ _ => rfl, fun g cur t _ h => ⟨cur, h, rfl⟩⟩
theorem OvR.set {X Y : World} {g : Nat} (h : OvR X (some g) Y) (i : Nat) (v : Value) : OvR X (some g) (Y.setCell ⟨g, i, none⟩ v) :=
  ⟨h.os, h.tape, h.output, by simpa using h.size, fun b hb => (Below.heap_setCell _ ⟨g, i, none⟩ _ _ (fun e => hb (by have e : b = g := e; rw [e]))).trans (h.block b hb), fun g' cur t e hc => by
    cases e
    obtain ⟨cur', h1, h2⟩ := h.own g cur t rfl hc
    exact ⟨_, heap_setCell_same Y g i cur' t v h1, by simpa using h2⟩⟩
set_option maxRecDepth 100000 in
set_option maxHeartbeats 1000000 in
theorem over1 {l n k m xc sbk nbk B : Nat} {stop : Int} {xa : Option Addr} {ss : List St} {X : World} {Q : Exit → Act → World → Prop} {t0 t1 t2 t4 t5 t6 t9 t10 t11 t12 t13 t14 t15 t16 t17 t18 t19 t20 t21 t22 t23 t24 t25 t26 t27 t28 t29 t30 t31 t32 t33 t34 t35 t36 t37 t38 t39 t40 t41 t42 t43 t44 t45 t46 t47 t48 t49 t50 t51 t52 t53 t54 t55 t56 t57 t58 t59 t60 t61 t62 t63 t64 t65 t66 t67 t68 t69 t70 t71 t72 t73 t74 t75 t76 t77 t78 t79 t80 t81 t82 t83 t84 t85 t86 t87 t88 t89 t90 t91 t92 t93 t94 t95 t96 t97 t98 t99 t100 t101 t102 t103 t104 t105 t106 t107 t108 t109 t110 t111 t112 t113 t114 t115 t116 t117 t118 t119 t120 t121 t122 t123 t124 t125 t126 t127 t128 t129 t130 t131 t132 t133 t134 t135 t136 : Value}
    (hG : GrS B ss (.slice xa m xc) X) (hm : m = ss.length) (hmb : m ≤ 1048576) (hk : k < 1048576) (h7 : Boxed X nbk 3 (.int .i64 (k : Nat))) (h3 : Boxed X sbk 3 (.int .i64 stop)) (hn7 : some nbk ≠ (Value.slice xa m xc).ownBlock) (hn3 : some sbk ≠ (Value.slice xa m xc).ownBlock)
    (hsn : sbk ≠ nbk)
    (hQ1 : vl.Hid (∀ a' Y, OvR X (Value.slice xa m xc).ownBlock Y → (k : Int) + 1 = stop → Q (.exit 0) a' (Y.setCell ⟨nbk, 0, none⟩ (.int .i64 ((k : Nat) + 1)))))
    (hQ2 : vl.Hid (∀ a' Y, OvR X (Value.slice xa m xc).ownBlock Y → (k : Int) + 1 ≠ stop → Q .normal a' (Y.setCell ⟨nbk, 0, none⟩ (.int .i64 ((k : Nat) + 1))))) :
    (nav twLaw [1, 1, 1, 1, 1, 1, 0, 1, 0, 1, 0, 1]).wpIn (Fence.wide.inRound l) n Try.prog Q { tmps := #[t0, t1, t2, .pointer (some ⟨sbk, 0, none⟩), t4, t5, t6, .pointer (some ⟨nbk, 0, none⟩), .slice xa m xc, t9, t10, t11, t12, t13, t14, t15, t16, t17, t18, t19, t20, t21, t22, t23, t24, t25, t26, t27, t28, t29, t30, t31, t32, t33, t34, t35, t36, t37, t38, t39, t40, t41, t42, t43, t44, t45, t46, t47, t48, t49, t50, t51, t52, t53, t54, t55, t56, t57, t58, t59, t60, t61, t62, t63, t64, t65, t66, t67, t68, t69, t70, t71, t72, t73, t74, t75, t76, t77, t78, t79, t80, t81, t82, t83, t84, t85, t86, t87, t88, t89, t90, t91, t92, t93, t94, t95, t96, t97, t98, t99, t100, t101, t102, t103, t104, t105, t106, t107, t108, t109, t110, t111, t112, t113, t114, t115, t116, t117, t118, t119, t120, t121, t122, t123, t124, t125, t126, t127, t128, t129, t130, t131, t132, t133, t134, t135, t136], defers := [] } X := by
  simp only [twLaw, nav, Try.f4, Option.getD_some]
  have HG := hide hG
  have H7 := hide h7
  have H3 := hide h3
  have HN7 := hide hn7
  have HN3 := hide hn3
  clear hG h7 h3 hn7 hn3
  gi_wp2_with fail
  gi_loopw [52] (fun vk wr => ∃ j : Nat, j ≤ m ∧ vk = .int .i64 j ∧ OvR X (Value.slice xa m xc).ownBlock wr) (fun vk _ => m - (intOf vk).toNat)
  case atStart => exact ⟨0, Nat.zero_le _, rfl, OvR.refl _ _⟩
  case round =>
    obtain ⟨j, hj, rfl, hov⟩ := hrel
    by_cases hlt : j < m
    · have ki : (j : Int) < (m : Int) := by omega
      obtain ⟨xss, h1, -⟩ := unhide HG
      rcases h1.2 with ⟨e, h0⟩ | ⟨g, cap, cur, e, hg, hh, hc1, hc2, hcs, -⟩
      · omega
      simp only [Value.slice.injEq] at e
      obtain ⟨rfl, -, rfl⟩ := e
      obtain ⟨cur', hY, hsz⟩ := hov.own g cur _ rfl hh
      have hb : j * 3 + 2 < cur'.size := by rw [hsz, hcs]; omega
      obtain ⟨v0, q0⟩ : ∃ v, wr.cell? ⟨g, j * 3, none⟩ = some v := ⟨_, (cellsAt hY _).trans (Array.getElem?_eq_getElem (by omega))⟩
      obtain ⟨v1, q1⟩ : ∃ v, wr.cell? ⟨g, j * 3 + 1, none⟩ = some v := ⟨_, (cellsAt hY _).trans (Array.getElem?_eq_getElem (by omega))⟩
      obtain ⟨v2, q2⟩ : ∃ v, wr.cell? ⟨g, j * 3 + 2, none⟩ = some v := ⟨_, (cellsAt hY _).trans (Array.getElem?_eq_getElem (by omega))⟩
      have f0 : ∀ o, wr.frozen? ⟨g, o, none⟩ = false := fun o => by simp [World.frozen?, hY]
      have HO := hide hov
      clear hov hY hsz hb hcs hh h1
      gi_wp2_with fail
      go_roundw
      case rel => exact ⟨j + 1, by omega, by simp, (((unhide HO).set _ _).set _ _).set _ _⟩
      case measure => simp [intOf]; omega
    · obtain rfl : j = m := by omega
      have c7 := Boxed.cell ((hov.block _ (unhide HN7)).trans (unhide H7) : Boxed wr nbk 3 _)
      have f7 := Boxed.frozen ((hov.block _ (unhide HN7)).trans (unhide H7) : Boxed wr nbk 3 _)
      have c3 := Boxed.cell ((hov.block _ (unhide HN3)).trans (unhide H3) : Boxed wr sbk 3 _)
      have HO := hide hov
      clear hov
      by_cases hs : (k : Int) + 1 = stop
      · gi_wp2
        have := unhide hQ1
        rw [← hs]
        exact this _ _ (unhide HO) hs
      · gi_wp2
        exact unhide hQ2 _ _ (unhide HO) hs
end Go.Proofs.Ythpcpminikmcbaa.og
