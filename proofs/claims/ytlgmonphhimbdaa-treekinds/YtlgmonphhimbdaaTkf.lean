import Derived.Test.YtlgmonphhimbdaaTke
namespace Go.Proofs.Ytlgmonphhimbdaa.knd
open Go.ChangeShapes Go.WideShapes Go.ChangeAt Go.RowKit Go.Maps Go.Shelf
open wk
attribute [local go_sem] Oper.semAt_some
set_option linter.unusedVariables false
set_option linter.unusedSimpArgs false
theorem kr_eq : nav (lawOf Try.f3) [1, 1, 1, 1, 1, 1] = .seq (nav (lawOf Try.f3) [1, 1, 1, 1, 1, 1, 0]) (.seq (nav (lawOf Try.f3) [1, 1, 1, 1, 1, 1, 1, 0]) (.seq (nav (lawOf Try.f3) [1, 1, 1, 1, 1, 1, 1, 1, 0]) (.seq (.seq (nav (lawOf Try.f3) [1, 1, 1, 1, 1, 1, 1, 1, 1, 0, 0]) (.block 4 (.rangeFunc (.tmp 126) #[127, 128] (nav (lawOf Try.f3) [1, 1, 1, 1, 1, 1, 1, 1, 1, 0, 1, 0, 0]) (nav (lawOf Try.f3) [1, 1, 1, 1, 1, 1, 1, 1, 1, 0, 1, 0, 1])))) (.seq (nav (lawOf Try.f3) [1, 1, 1, 1, 1, 1, 1, 1, 1, 1, 0]) .ret)))) := by kernel_rfl
theorem kn_results (tmps : Array Value) (W : World) (b : Nat) (t : tmps[4]?.getD undef = .pointer (some ⟨b, 0, none⟩)) (c : W.cell? ⟨b, 0, none⟩ = some (.bool true)) :
    (results Try.f3 tmps).run Try.prog W = .ok (.bool true) W := by
  simp [results, Try.f3, go_sem, t, c]
set_option maxRecDepth 100000 in
set_option maxHeartbeats 1000000 in
theorem kn_rest {w Y : World} {rb ob lb nx : Nat} {X V : Nat → Prop} {M : Option Nat} {rs : List Rw} {u : Value} {ps : List Pr} {t0 t1 t2 t3 t7 t8 t9 t10 t11 t12 t13 t14 t15 t16 t17 t18 t19 t20 t21 t22 t23 t24 t25 t26 t27 t28 t29 t30 t31 t32 t33 t34 t35 t36 t37 t38 t39 t40 t41 t42 t43 t44 t45 t46 t47 t48 t49 t50 t51 t52 t53 t54 t55 t56 t57 t58 t59 t60 t61 t62 t63 t64 t65 t66 t67 t68 t69 t70 t71 t72 t73 t74 t75 t76 t77 t78 t79 t80 t81 t82 t83 t84 t85 t86 t87 t88 t89 t90 t91 t92 t93 t94 t95 t96 t97 t98 t99 t100 t101 t102 t103 t104 t105 t106 t107 t108 t109 t110 t111 t112 t113 t114 t115 t116 t117 t118 t119 t120 t121 t122 t123 t124 t125 t126 t127 t128 t129 t130 t131 t132 t133 t134 t135 t136 t137 t138 t139 t140 t141 t142 t143 t144 t145 t146 t147 t148 t149 t150 t151 t152 t153 t154 t155 t156 t157 t158 : Value} (K : Kn w Y rb ob lb X V M rs nx u ps) :
    (nav (lawOf Try.f3) [1, 1, 1, 1, 1, 1]).wpIn Fence.wide 8 Try.prog (bodyPostM Fence.wide 8 Try.prog Try.f3 (fun e w' => e = .returned (.bool true) ∧ Below w.heap.size w w')) { tmps := #[t0, t1, t2, t3, .pointer (some ⟨rb, 0, none⟩), .pointer (some ⟨ob, 0, none⟩), .pointer (some ⟨lb, 0, none⟩), t7, t8, t9, t10, t11, t12, t13, t14, t15, t16, t17, t18, t19, t20, t21, t22, t23, t24, t25, t26, t27, t28, t29, t30, t31, t32, t33, t34, t35, t36, t37, t38, t39, t40, t41, t42, t43, t44, t45, t46, t47, t48, t49, t50, t51, t52, t53, t54, t55, t56, t57, t58, t59, t60, t61, t62, t63, t64, t65, t66, t67, t68, t69, t70, t71, t72, t73, t74, t75, t76, t77, t78, t79, t80, t81, t82, t83, t84, t85, t86, t87, t88, t89, t90, t91, t92, t93, t94, t95, t96, t97, t98, t99, t100, t101, t102, t103, t104, t105, t106, t107, t108, t109, t110, t111, t112, t113, t114, t115, t116, t117, t118, t119, t120, t121, t122, t123, t124, t125, t126, t127, t128, t129, t130, t131, t132, t133, t134, t135, t136, t137, t138, t139, t140, t141, t142, t143, t144, t145, t146, t147, t148, t149, t150, t151, t152, t153, t154, t155, t156, t157, t158], defers := [] } Y := by
  rw [kr_eq]
  obtain ⟨BODY, hBODY⟩ : ∃ B, B = nav (lawOf Try.f3) [1, 1, 1, 1, 1, 1, 1, 1, 1, 0, 1, 0, 1] := ⟨_, rfl⟩
  obtain ⟨R36, hR36⟩ : ∃ B, B = nav (lawOf Try.f3) [1, 1, 1, 1, 1, 1, 1, 1, 1, 1, 0] := ⟨_, rfl⟩
  rw [← hBODY, ← hR36]
  have HBODY := hide hBODY
  have HR36 := hide hR36
  clear hBODY hR36
  obtain ⟨a, c, eu, hrl⟩ := K.rl
  obtain ⟨q, hq⟩ : ∃ q, q = ps.length := ⟨_, rfl⟩
  rw [← hq] at eu
  subst eu
  have ll := K.l.lt
  have rl := K.r.lt
  have bb := bel2 Y (.cells #[.int .i64 0] 3) (.cells #[.pointer (some ⟨ob, 0, none⟩)] 48)
  obtain ⟨U, hU⟩ : ∃ U, U = (Y.alloc (.cells #[.int .i64 0] 3)).alloc (.cells #[.pointer (some ⟨ob, 0, none⟩)] 48) := ⟨_, rfl⟩
  rw [← hU] at bb
  have sU : U.heap.size = Y.heap.size + 2 := by rw [hU]; simp
  have bn : Boxed U Y.heap.size 3 (.int .i64 0) := by rw [hU]; exact (Boxed.new Y _ _).alloc _
  have bo : U.cell? ⟨Y.heap.size + 1, 0, none⟩ = some (.pointer (some ⟨ob, 0, none⟩)) := by
    rw [hU]
    have := Boxed.new (Y.alloc (.cells #[.int .i64 0] 3)) 48 (.pointer (some ⟨ob, 0, none⟩))
    rw [World.size_alloc] at this
    exact this.cell
  have E : KnE w U rb ob lb Y.heap.size (Y.heap.size + 1) X V M rs nx a q c ps :=
    ⟨K.below bb, bn, bo, by omega, ⟨by omega, by omega, fun hx => by have := (K.tb.lo _ hx).2; omega, fun hx => by have := (K.vb _ hx).lt; omega⟩, K.bel.size, fun p hp e => by
      rcases hrl with h0 | ⟨g, e1, hg, -⟩
      · exact absurd h0 hp
      · rw [e1] at e; cases e; omega, hq⟩
  have HE := hide E
  have I0 := hide (⟨rfl, rfl, rfl, Nat.le_refl _, bn, fun _ _ _ => rfl⟩ : RoI U Y.heap.size 0 U)
  have HU := hide hU
  have SU := hide sU
  clear hU sU bn bo E bb hrl hq ll rl K
  have hfn := funcNil
  simp only [lawOf, nav, Try.f3, Option.getD_some]
  gi_wp2_with fail
  refine ⟨trivial, ?_⟩
  gi_at_call 9
  refine (all_any Fence.wide _ trivial rfl _ _).mono ?_
  rintro e w' ⟨rfl, rfl⟩
  gi_wp2_with fail
  rw [← unhide HU]
  have sU := unhide SU
  clear hfn
  refine wpT_H (α := Fin 65536 × Sv) rfl (by decide) (gf := 13) (lb := #[.pointer (some ⟨Y.heap.size + 1, 0, none⟩)]) (encs := encE) (Rd := RdE (U.heap.size + 2)) (C := CE) (Kp := KpE (U.heap.size + 2)) (S := fun xs => xs = ents rs) (Sp := SpE (ents rs)) (Nx := NxE (ents rs)) rfl trivial (enters_of Try.func13 (by kernel_rfl) rfl)
    ?seq (fun A A' hc k _ h2 h3 => hc.block k h3) (fun x {A A' A''} h1 h2 => ⟨Nat.le_trans h1.1 h2.1, h2.2.trans h1.2⟩) (fun x W o o' _ => ⟨by simp, World.putObj_heap_other (by omega)⟩) (fun x => rfl)
    (fun pre A => RoI U Y.heap.size pre.length A) (fun _ _ _ => False) (fun pre A A' h hc => h.below (by omega) hc) (fun c pre A A' h _ => h)
    (fun pre A A' row h hg hr => h.keep (by omega) hg.os hg.tape hg.output hg.size (fun j hj => hg.block j (by have := h.size; omega) (fun e => by have := (hr j e.symm).1; omega)))
    (fun c pre A A' row h _ _ => h)
    (unhide I0) (fun x a' W => ∃ Bq, Bq < W.heap.size ∧ U.heap.size + 4 ≤ W.heap.size ∧ W.rangeAt Bq 0 [.int .i8 (p0 x.1), .int .i8 (p1 x.1), .bool (p2 x.1)] ∧ a' = { tmps := #[t0, t1, t2, t3, .pointer (some ⟨rb, 0, none⟩), .pointer (some ⟨ob, 0, none⟩), .pointer (some ⟨lb, 0, none⟩), t7, t8, t9, t10, t11, t12, t13, t14, t15, t16, t17, t18, .pointer (some ⟨Y.heap.size, 0, none⟩), .func (.func 13) #[] #[.pointer (some ⟨Y.heap.size + 1, 0, none⟩)], .pointer (some ⟨Bq, 0, none⟩), .slice x.2.1 x.2.2.1 x.2.2.2, t23, t24, t25, t26, t27, t28, t29, t30, t31, t32, t33, t34, t35, t36, t37, t38, t39, t40, t41, t42, t43, t44, t45, t46, t47, t48, t49, t50, t51, t52, t53, t54, t55, t56, t57, t58, t59, t60, t61, t62, t63, t64, t65, t66, t67, t68, t69, t70, t71, t72, t73, t74, t75, t76, t77, t78, t79, t80, t81, t82, t83, t84, t85, t86, t87, t88, t89, t90, t91, t92, t93, t94, t95, t96, t97, t98, t99, t100, t101, t102, t103, t104, t105, t106, t107, t108, t109, t110, t111, t112, t113, t114, t115, t116, t117, t118, t119, t120, t121, t122, .func (.func 13) #[] #[.pointer (some ⟨Y.heap.size + 1, 0, none⟩)], .func (.func 13) #[] #[.pointer (some ⟨Y.heap.size + 1, 0, none⟩)], .bool false, .func (.func 13) #[] #[.pointer (some ⟨Y.heap.size + 1, 0, none⟩)], .agg #[.int .i8 (p0 x.1), .int .i8 (p1 x.1), .bool (p2 x.1)], .slice x.2.1 x.2.2.1 x.2.2.2, t129, t130, t131, t132, t133, t134, t135, t136, t137, t138, t139, t140, t141, t142, t143, t144, t145, t146, t147, t148, t149, t150, t151, t152, t153, t154, t155, t156, t157, t158], defers := [] })
    (fun x a' _ W W' row hs hg hr => by obtain ⟨Bq, h2, h4, h6, h7⟩ := hs; exact ⟨Bq, Nat.lt_of_lt_of_le h2 hg.size, Nat.le_trans h4 hg.size, fun j u hu => cell_kept (h6 j u hu) hg (fun r e => (hr r e).2), h7⟩) ?assign ?body ?done ?stop
  case seq =>
    intro W1 hb hs
    have := all_seq ((unhide HE).kn.tb.below hb) (by have := (unhide HE).kn.len; omega) 7 (by decide) (Bo := Y.heap.size + 1) ((hb.cell (p := ⟨Y.heap.size + 1, 0, none⟩) (by show Y.heap.size + 1 < U.heap.size; omega)).trans (unhide HE).o)
    rw [hs] at this
    exact this
  case assign =>
    intro l pre x W K hI hR hN hK
    have HI := hide hI
    have HRd := hide hR
    clear hI hR hN sU
    unfold encE
    gi_wp2
    have bb : Below W.heap.size W (W.alloc (.cells #[.int .i8 (p0 x.1), .int .i8 (p1 x.1), .bool (p2 x.1)] 30)) := (Below.refl _ W).alloc (Nat.le_refl _) _
    have hR : U.heap.size + 2 + 2 ≤ W.heap.size := unhide HRd
    refine hK _ _ (keepsFrom_below' bb) ⟨bb.size, bb.block _ (by omega)⟩ ((unhide HI).below (by have := unhide SU; omega) bb) ⟨W.heap.size, by simp, by simp; omega, fun j q hq => ?_, rfl⟩
    rw [Nat.zero_add, World.cell?_alloc_at _ _ _ _ rfl]
    simpa using hq
  case body =>
    rintro l pre x a' W hl hlr hI ⟨Bq, h1, h2, h3, rfl⟩ hnx
    rw [unhide HBODY]
    exact kn_round (unhide HE) hI hnx h1 h3 (by omega) (by omega)
  case done =>
    rintro D xs W hD1 hD2 rfl hI hK
    have hE := unhide HE
    have hlen : (ents rs).length = q := by rw [ents_len, hE.qe, hE.kn.len.2]
    rw [hlen] at hI
    have hq65 : q ≤ 65536 := by have := hE.kn.len; have := hE.qe; omega
    have bl : Boxed W lb 35 (.slice a q c) := hI.box hE.kn.l hE.nl.1
    have br : Boxed W rb 4 (.bool false) := hI.box hE.kn.r hE.nl.2.1
    have bw : Below w.heap.size w W := hI.bel hE.kn.bel hE.nw
    have tbW : Tb W w.heap.size X ob M rs nx := hE.kn.tb.move hI.size (fun k hk => hI.blk k (hE.kn.tb.lo k hk).2 (fun e => hE.nl.2.2.1 (e ▸ hk)))
    have LN : Hid (∀ Z, Below W.heap.size W Z → Calls Try.prog 10 #[.pointer (some ⟨ob, 0, none⟩)] Z fun e w' => e = .returned (.int .i64 (q : Nat)) ∧ w' = Z) := hide (fun Z hZ => by
      have := len_tb (tbW.below hZ)
      rw [show rs.length = q by rw [hE.qe, hE.kn.len.2]] at this
      exact this)
    have hrl : rb ≠ lb := hE.kn.xr.2.2
    have hrn : rb ≠ Y.heap.size := hE.nl.2.1
    have wr : w.heap.size ≤ rb := hE.kn.wr.1
    have hwY : w.heap.size ≤ Y.heap.size := hE.nw
    have hnb := hI.nbx
    clear hE hI tbW I0 HE HU HBODY
    have HD := hide hD1
    have HD2 := hide hD2
    clear hD1 hD2
    gi_wp2
    rw [unhide HR36]
    refine wpIn_mono (kn_36 hq65 hrn hrl hnb bl br LN) ?_
    intro e a2 Z h2
    cases e <;> try exact h2.elim
    obtain ⟨⟨X2, b2, rfl⟩, s150, s151, s152, s153, s154, s155, s156, s157, s158, rfl⟩ := h2
    have B2 := hide b2
    have BW := hide bw
    have BR := hide br
    have HK := hide hK
    clear b2 bw br hK hnb bl LN HR36 hrl hrn
    show Exit.then _ _ Exit.normal _ _
    gi_wp2
    have hD1 := unhide HD
    have b2 := unhide B2
    have lD := (Array.getElem?_eq_some_iff.1 (unhide HK)).1
    have hK2 : X2.heap[D]? = some (.deferred (some [])) := (b2.block D lD).trans (unhide HK)
    have hK' : (X2.setCell ⟨rb, 0, none⟩ (.bool true)).heap[D]? = some (.deferred (some [])) := (KeepsOthers.setCell X2 _ _).same D _ hK2 rfl
    have br2 : Boxed X2 rb 4 (.bool false) := (b2.block _ (unhide BR).lt).trans (unhide BR)
    have hc' := cell_kept (World.cell?_setCell_same _ ⟨rb, 0, none⟩ (.bool true) br2.cell) (grownBy_putObj' _ D (.deferred none)) (fun r e => by cases e; exact ⟨_, hK', rfl⟩)
    refine ⟨by simp, .inl ⟨_, _, rfl, run_takeDeferred hK', ?_⟩⟩
    refine ⟨.bool true, kn_results _ _ rb rfl hc', rfl, (((unhide BW).trans (b2.mono (unhide BW).size)).setCell (p := ⟨rb, 0, none⟩) wr _).trans (belowK_b (w := w) (Nat.le_refl _) _ D _ _ (by have := unhide SU; omega) hK' rfl rfl)⟩
  case stop =>
    rintro D c pre W _ _ _ h _
    exact h.elim
end Go.Proofs.Ytlgmonphhimbdaa.knd
