import Derived.Test.YthpcpminikmcbaaTws8
namespace Go.Proofs.Ythpcpminikmcbaa.og
open Go.ChangeShapes Go.WideShapes Go.ChangeAt Go.RowKit Go.Shelf
open vl hiding cB cFl cS cF cI cK cIt
open stp (St Pth St3)
open wk
attribute [local go_sem] Oper.semAt_some
set_option linter.unusedVariables false
set_option linter.unusedSimpArgs false
set_option maxRecDepth 100000 in
set_option maxHeartbeats 1000000 in
theorem r20 {n k N c pbk sbk nbk : Nat} {a : Option Addr} {stop : Int} {Y : World} {ds : List Deferred} {t0 t1 t2 t4 t6 t8 t9 t10 t11 t12 t13 t14 t15 t16 t17 t18 t19 t20 t21 t22 t23 t24 t25 t26 t27 t28 t29 t30 t31 t32 t33 t34 t35 t36 t37 t38 t39 t40 t41 t42 t43 t44 t45 t46 t47 t48 t49 t50 t51 t52 t53 t54 t55 t56 t57 t58 t59 t60 t61 t62 t63 t64 t65 t66 t67 t68 t69 t70 t71 t72 t73 t74 t75 t76 t77 t78 t79 t80 t81 t82 t83 t84 t85 t86 t87 t88 t89 t90 t91 t92 t93 t94 t95 t96 t97 t98 t99 t100 t101 t102 t103 t104 t105 t106 t107 t108 t109 t110 t111 t112 t113 t114 t115 t116 t117 t118 t119 t120 t121 t122 t123 t124 t125 t126 t127 t128 t129 t130 t131 t132 t133 t134 t135 t136 : Value} (h7 : Boxed Y nbk 3 (.int .i64 (k : Nat))) (h5 : Boxed Y pbk 38 (.slice a N c)) (h3 : Boxed Y sbk 3 (.int .i64 stop)) (hk : 1 ≤ stop → stop < (N : Int) → (k : Int) = stop) :
    (nav twLaw [1, 1, 1, 1, 1, 1, 1, 0]).wpIn Fence.wide n Try.prog (cut fun a' Y' => Y' = Y ∧ ∃ s65 s66 s67 s68 s69 s70 s71 s72 s73 s74 s75 s76 s77, a' = { tmps := #[t0, t1, t2, .pointer (some ⟨sbk, 0, none⟩), t4, .pointer (some ⟨pbk, 0, none⟩), t6, .pointer (some ⟨nbk, 0, none⟩), t8, t9, t10, t11, t12, t13, t14, t15, t16, t17, t18, t19, t20, t21, t22, t23, t24, t25, t26, t27, t28, t29, t30, t31, t32, t33, t34, t35, t36, t37, t38, t39, t40, t41, t42, t43, t44, t45, t46, t47, t48, t49, t50, t51, t52, t53, t54, t55, t56, t57, t58, t59, t60, t61, t62, t63, t64, s65, s66, s67, s68, s69, s70, s71, s72, s73, s74, s75, s76, s77, t78, t79, t80, t81, t82, t83, t84, t85, t86, t87, t88, t89, t90, t91, t92, t93, t94, t95, t96, t97, t98, t99, t100, t101, t102, t103, t104, t105, t106, t107, t108, t109, t110, t111, t112, t113, t114, t115, t116, t117, t118, t119, t120, t121, t122, t123, t124, t125, t126, t127, t128, t129, t130, t131, t132, t133, t134, t135, t136], defers := ds }) { tmps := #[t0, t1, t2, .pointer (some ⟨sbk, 0, none⟩), t4, .pointer (some ⟨pbk, 0, none⟩), t6, .pointer (some ⟨nbk, 0, none⟩), t8, t9, t10, t11, t12, t13, t14, t15, t16, t17, t18, t19, t20, t21, t22, t23, t24, t25, t26, t27, t28, t29, t30, t31, t32, t33, t34, t35, t36, t37, t38, t39, t40, t41, t42, t43, t44, t45, t46, t47, t48, t49, t50, t51, t52, t53, t54, t55, t56, t57, t58, t59, t60, t61, t62, t63, t64, t65, t66, t67, t68, t69, t70, t71, t72, t73, t74, t75, t76, t77, t78, t79, t80, t81, t82, t83, t84, t85, t86, t87, t88, t89, t90, t91, t92, t93, t94, t95, t96, t97, t98, t99, t100, t101, t102, t103, t104, t105, t106, t107, t108, t109, t110, t111, t112, t113, t114, t115, t116, t117, t118, t119, t120, t121, t122, t123, t124, t125, t126, t127, t128, t129, t130, t131, t132, t133, t134, t135, t136], defers := ds } Y := by
  have c7 := h7.cell
  have c5 := h5.cell
  have c3 := h3.cell
  clear h7 h5 h3
  simp only [twLaw, nav, Try.f4, Option.getD_some]
  by_cases h1 : 1 ≤ stop
  · by_cases h2 : stop < (N : Int)
    · obtain rfl := hk h1 h2
      clear hk
      gi_wp2_with (first | (exfalso; exact undef_ne (by assumption)) | refine ⟨trivial, ?_⟩)
      all_goals first | (exfalso; exact undef_ne (by assumption)) | exact ⟨rfl, _, _, _, _, _, _, _, _, _, _, _, _, _, rfl⟩
    · clear hk
      gi_wp2_with (first | (exfalso; exact undef_ne (by assumption)) | refine ⟨trivial, ?_⟩)
      all_goals first | (exfalso; exact undef_ne (by assumption)) | exact ⟨rfl, _, _, _, _, _, _, _, _, _, _, _, _, _, rfl⟩
  · clear hk
    gi_wp2_with (first | (exfalso; exact undef_ne (by assumption)) | refine ⟨trivial, ?_⟩)
    all_goals first | (exfalso; exact undef_ne (by assumption)) | exact ⟨rfl, _, _, _, _, _, _, _, _, _, _, _, _, _, rfl⟩
theorem tw_results (tmps : Array Value) (W : World) (B2 : Nat) (t2 : tmps[4]?.getD undef = .pointer (some ⟨B2, 0, none⟩)) (c2 : W.cell? ⟨B2, 0, none⟩ = some (.bool true)) :
    (results Try.f4 tmps).run Try.prog W = .ok (.bool true) W := by
  simp [results, Try.f4, go_sem, t2, c2]
set_option maxRecDepth 100000 in
set_option maxHeartbeats 1000000 in
theorem rest {w U1 U2 U Y : World} {V : Vl} {cs : List Value} {N c pbk sbk nbk wbk rbk bp bv k n D1 : Nat} {a : Option Addr} {G : List Nat} {stop : Int} {t0 t1 t2 t8 t9 t10 t11 t12 t13 t14 t15 t16 t17 t18 t19 t20 t21 t22 t23 t24 t25 t26 t27 t28 t29 t30 t31 t32 t33 t34 t35 t36 t37 t38 t39 t40 t41 t42 t43 t44 t45 t46 t47 t48 t49 t50 t51 t52 t53 t54 t55 t56 t57 t58 t59 t60 t61 t62 t63 t64 t65 t66 t67 t68 t69 t70 t71 t72 t73 t74 t75 t76 t77 t78 t79 t80 t81 t82 t83 t84 t85 t86 t87 t88 t89 t90 t91 t92 t93 t94 t95 t96 t97 t98 t99 t100 t101 t102 t103 t104 t105 t106 t107 t108 t109 t110 t111 t112 t113 t114 t115 t116 t117 t118 t119 t120 t121 t122 t123 t124 t125 t126 t127 t128 t129 t130 t131 t132 t133 t134 t135 t136 : Value} (E : TwE w U1 U2 U V N c a G stop pbk sbk nbk) (hI : TwI U nbk k Y) (hk : 1 ≤ stop → stop < (N : Int) → (k : Int) = stop) (hNN : N = (pts V []).length) (hn : 4 ≤ n) (hV : VlC w V cs)
    (hwb : Boxed U wbk 41 (.func (.func 56) #[] #[.pointer (some ⟨bp, 0, none⟩), .pointer (some ⟨bv, 0, none⟩)])) (nw : wbk ≠ nbk) (hbp : Boxed U bp 29 (.slice none 0 0)) (np : bp ≠ nbk) (hbv : U.rangeAt bv 0 cs) (lv : bv < U.heap.size) (nv : bv ≠ nbk) (wp : w.heap.size ≤ bp) (wv : w.heap.size ≤ bv)
    (hrb : Boxed U rbk 4 (.bool false)) (nr : rbk ≠ nbk) (wr : w.heap.size ≤ rbk) (hD1 : Y.heap[D1]? = some (.deferred (some []))) (uD : U.heap.size ≤ D1) :
    (nav twLaw [1, 1, 1, 1, 1, 1, 1]).wpIn Fence.wide n Try.prog (bodyPostM Fence.wide n Try.prog Try.f4 (fun e w' => e = .returned (.bool true) ∧ Below w.heap.size w w')) { tmps := #[t0, t1, t2, .pointer (some ⟨sbk, 0, none⟩), .pointer (some ⟨rbk, 0, none⟩), .pointer (some ⟨pbk, 0, none⟩), .pointer (some ⟨wbk, 0, none⟩), .pointer (some ⟨nbk, 0, none⟩), t8, t9, t10, t11, t12, t13, t14, t15, t16, t17, t18, t19, t20, t21, t22, t23, t24, t25, t26, t27, t28, t29, t30, t31, t32, t33, t34, t35, t36, t37, t38, t39, t40, t41, t42, t43, t44, t45, t46, t47, t48, t49, t50, t51, t52, t53, t54, t55, t56, t57, t58, t59, t60, t61, t62, t63, t64, t65, t66, t67, t68, t69, t70, t71, t72, t73, t74, t75, t76, t77, t78, t79, t80, t81, t82, t83, t84, t85, t86, t87, t88, t89, t90, t91, t92, t93, t94, t95, t96, t97, t98, t99, t100, t101, t102, t103, t104, t105, t106, t107, t108, t109, t110, t111, t112, t113, t114, t115, t116, t117, t118, t119, t120, t121, t122, t123, t124, t125, t126, t127, t128, t129, t130, t131, t132, t133, t134, t135, t136], defers := [{ target := .collected D1, args := #[] }] } Y := by
  have C20 := r20 (n := n) (ds := [{ target := .collected D1, args := #[] }]) hI.nb (hI.box E.pb E.np) (hI.box E.sb E.ns) hk (t0 := t0) (t1 := t1) (t2 := t2) (t4 := .pointer (some ⟨rbk, 0, none⟩)) (t6 := .pointer (some ⟨wbk, 0, none⟩)) (t8 := t8) (t9 := t9) (t10 := t10) (t11 := t11) (t12 := t12) (t13 := t13) (t14 := t14) (t15 := t15) (t16 := t16) (t17 := t17) (t18 := t18) (t19 := t19) (t20 := t20) (t21 := t21) (t22 := t22) (t23 := t23) (t24 := t24) (t25 := t25) (t26 := t26) (t27 := t27) (t28 := t28) (t29 := t29) (t30 := t30) (t31 := t31) (t32 := t32) (t33 := t33) (t34 := t34) (t35 := t35) (t36 := t36) (t37 := t37) (t38 := t38) (t39 := t39) (t40 := t40) (t41 := t41) (t42 := t42) (t43 := t43) (t44 := t44) (t45 := t45) (t46 := t46) (t47 := t47) (t48 := t48) (t49 := t49) (t50 := t50) (t51 := t51) (t52 := t52) (t53 := t53) (t54 := t54) (t55 := t55) (t56 := t56) (t57 := t57) (t58 := t58) (t59 := t59) (t60 := t60) (t61 := t61) (t62 := t62) (t63 := t63) (t64 := t64) (t65 := t65) (t66 := t66) (t67 := t67) (t68 := t68) (t69 := t69) (t70 := t70) (t71 := t71) (t72 := t72) (t73 := t73) (t74 := t74) (t75 := t75) (t76 := t76) (t77 := t77) (t78 := t78) (t79 := t79) (t80 := t80) (t81 := t81) (t82 := t82) (t83 := t83) (t84 := t84) (t85 := t85) (t86 := t86) (t87 := t87) (t88 := t88) (t89 := t89) (t90 := t90) (t91 := t91) (t92 := t92) (t93 := t93) (t94 := t94) (t95 := t95) (t96 := t96) (t97 := t97) (t98 := t98) (t99 := t99) (t100 := t100) (t101 := t101) (t102 := t102) (t103 := t103) (t104 := t104) (t105 := t105) (t106 := t106) (t107 := t107) (t108 := t108) (t109 := t109) (t110 := t110) (t111 := t111) (t112 := t112) (t113 := t113) (t114 := t114) (t115 := t115) (t116 := t116) (t117 := t117) (t118 := t118) (t119 := t119) (t120 := t120) (t121 := t121) (t122 := t122) (t123 := t123) (t124 := t124) (t125 := t125) (t126 := t126) (t127 := t127) (t128 := t128) (t129 := t129) (t130 := t130) (t131 := t131) (t132 := t132) (t133 := t133) (t134 := t134) (t135 := t135) (t136 := t136)
  simp only [twLaw, nav, Try.f4, Option.getD_some] at C20 ⊢
  refine wpIn_seq (wpIn_mono C20 ?_)
  clear C20
  intro e a2 Y2 h2
  cases e <;> try exact h2.elim
  obtain ⟨rfl, s65, s66, s67, s68, s69, s70, s71, s72, s73, s74, s75, s76, s77, rfl⟩ := h2
  have c7 := hI.nb.cell
  have f7 := hI.nb.frozen
  have c6 := (hI.box hwb nw).cell
  have HI0 := hide (show TwI U nbk 0 (Y2.setCell ⟨nbk, 0, none⟩ (.int .i64 0)) from hI.set 0)
  have sY : (Y2.setCell ⟨nbk, 0, none⟩ (.int .i64 0)).heap.size = Y2.heap.size := by simp
  have hUY := hI.size
  have lD := (Array.getElem?_eq_some_iff.1 hD1).1
  have dn : D1 ≠ nbk := by have := E.nu; omega
  have HD := hide (show (Y2.setCell ⟨nbk, 0, none⟩ (.int .i64 0)).heap[D1]? = some (.deferred (some [])) from (Below.heap_setCell _ ⟨nbk, 0, none⟩ _ _ dn).trans hD1)
  have bwU : Below w.heap.size w U := E.b1.trans ((E.b2.trans (E.b3.mono E.b2.size)).mono E.b1.size)
  have hU2 : w.heap.size ≤ U2.heap.size := Nat.le_trans E.b1.size E.b2.size
  have HE := hide E
  have HWB := hide hwb
  have HBP := hide hbp
  have HBV := hide hbv
  have HRB := hide hrb
  have WA := hide (walk_ok V E.sm)
  have HCN := hide E.cn
  have hnl := E.nl
  have hnu := E.nu
  have lbp := hbp.lt
  have c60 : (Y2.setCell ⟨nbk, 0, none⟩ (.int .i64 0)).cell? ⟨wbk, 0, none⟩ = some (.func (.func 56) #[] #[.pointer (some ⟨bp, 0, none⟩), .pointer (some ⟨bv, 0, none⟩)]) := Boxed.cell ((unhide HI0).box (unhide HWB) nw)
  clear hI hD1 E hwb hbp hbv hrb c6
  gi_wp2_with fail
  obtain ⟨Z, eZ⟩ : ∃ Z, Z = Y2.setCell ⟨nbk, 0, none⟩ (.int .i64 0) := ⟨_, rfl⟩
  rw [← eZ] at HI0 HD sY ⊢
  have bwZ : Below w.heap.size w Z := (unhide HI0).bel bwU (Nat.le_trans hU2 hnl)
  clear eZ c60 c7 f7
  refine wpT_H (α := Wel w) rfl (by omega) (gf := 56) (lb := #[.pointer (some ⟨bp, 0, none⟩), .pointer (some ⟨bv, 0, none⟩)]) rfl trivial (enters_of Try.func56 (by kernel_rfl) rfl)
    (encs := Wel.enc (w0 := w)) (Rd := fun x A => GrS (Z.heap.size + 2) x.ss x.sl A) (C := Ch (Z.heap.size + 2) none 0) (Kp := fun x A A' => Kz (Zw w (Z.heap.size + 2) bp bv none) x.sl.ownBlock A A')
    (S := fun xs => xs.map Wel.pv = pts V []) (Sp := fun pre => ∃ k, pre.map Wel.pv = (pts V []).take k) (Nx := fun pre x => ∃ r, pre.map Wel.pv ++ x.pv :: r = pts V [])
    (fun W1 hb hs => by
      have hb1 := (unhide HI0).below hnu hb
      have := unhide WA w cs hV (n - 1) [] (.slice none 0 0) bp bv w.heap.size W1 (bwZ.trans (hb.mono bwZ.size)) (Nat.le_refl _) wp wv (hb1.box (unhide HBP) np) (fun j q hq => (cell_blk (hb1.blk _ lv nv) _).trans (unhide HBV j q hq)) GrV.nil (fun g e => by simp [Value.ownBlock] at e) (fun _ => rfl) (by have := unhide HCN; simp; omega) (by have := bwZ.size; omega)
      rw [hs] at this
      exact this)
    (fun A B hc k h1 h2 _ => hc.block k h2 (by simp))
    (fun x {A B C} h k => h.trans k) (fun x X o o' _ => Kz.putObj _ (fun h => by have := bwZ.size; rcases h with h | h | h | h | h <;> first | omega | cases h)) (fun _ => rfl)
    (fun pre X => TwI U nbk pre.length X ∧ X.heap[D1]? = some (.deferred (some []))) (fun _ _ _ => False)
    (fun pre A B h hc => ⟨h.1.ch hnu (by omega) hc, (hc.block _ (by omega) (by simp)).trans h.2⟩)
    (fun c pre A B h _ => h)
    (fun pre A B row h hg hr => ⟨h.1.grown hnu hg (fun r e => by have := (hr r e).1; omega), (hg.block _ (Array.getElem?_eq_some_iff.1 h.2).1 (fun e => by have := (hr D1 e.symm).1; omega)).trans h.2⟩)
    (fun c pre A B row h _ _ => h)
    ⟨unhide HI0, unhide HD⟩
    (fun x a' X => ∃ Bq, Bq < X.heap.size ∧ GrS (Z.heap.size + 2) x.ss x.sl X ∧ X.rangeAt Bq 0 x.cs ∧ a' = { tmps := #[t0, t1, t2, .pointer (some ⟨sbk, 0, none⟩), .pointer (some ⟨rbk, 0, none⟩), .pointer (some ⟨pbk, 0, none⟩), .pointer (some ⟨wbk, 0, none⟩), .pointer (some ⟨nbk, 0, none⟩), t8, t9, t10, x.sl, .pointer (some ⟨Bq, 0, none⟩), t13, t14, t15, t16, t17, t18, t19, t20, t21, t22, t23, t24, t25, t26, t27, t28, t29, t30, t31, t32, t33, t34, t35, t36, t37, t38, t39, t40, t41, t42, t43, t44, t45, t46, t47, t48, t49, t50, t51, t52, t53, t54, t55, t56, t57, t58, t59, t60, t61, t62, t63, t64, s65, s66, s67, s68, s69, s70, s71, s72, s73, s74, s75, s76, s77, .func (.func 56) #[] #[.pointer (some ⟨bp, 0, none⟩), .pointer (some ⟨bv, 0, none⟩)], x.sl, .agg x.cs.toArray, t81, t82, t83, t84, t85, t86, t87, t88, t89, t90, t91, t92, t93, t94, t95, t96, t97, t98, t99, t100, t101, t102, t103, t104, t105, t106, t107, t108, t109, t110, t111, t112, t113, t114, t115, t116, t117, t118, t119, t120, t121, t122, t123, t124, t125, t126, t127, t128, t129, t130, t131, t132, t133, t134, t135, t136], defers := [] })
    (fun x a' _ X X' row hs hg hr => by obtain ⟨Bq, h2, h4, h6, h7⟩ := hs; exact ⟨Bq, Nat.lt_of_lt_of_le h2 hg.size, grs_grown h4 hg (fun r e => (hr r e).2), fun j u hu => cell_kept (h6 j u hu) hg (fun r e => (hr r e).2), h7⟩)
    ?assign ?body ?done ?stop
  case assign =>
    rintro l pre x X K hJ hRd - hK
    obtain ⟨xss, xv, xcs, xhv, xa, xc⟩ := x
    have hx' := xhv
    obtain ⟨xkd, xb, xm, xf, xtx, xty, xits, xfls⟩ := xv
    unfold VlC at hx'
    obtain ⟨xai, xni, xci, xaf, xnf, xcf, rfl, -⟩ := hx'
    unfold Wel.enc Wel.sl
    simp only
    have HJ := hide hJ
    have HRd := hide hRd
    have hsf := storeF
    clear hJ hRd
    gi_wp2
    have bb : Below X.heap.size X (X.alloc (.cells #[Value.int IntKind.i64 xkd, Value.bool xb, Value.int IntKind.i64 xm, Value.float FloatKind.f64 xf, Value.string xtx, Value.string xty, Value.slice xai xni xci, Value.slice xaf xnf xcf] 27)) := (Below.refl _ X).alloc (Nat.le_refl _) _
    have hJ := unhide HJ
    have hRd := unhide HRd
    refine hK _ _ (keepsFrom_below bb) (Kz.of_below bb) ⟨hJ.1.below hnu bb, (bb.block _ (Array.getElem?_eq_some_iff.1 hJ.2).1).trans hJ.2⟩ ⟨X.heap.size, by simp, Ch.grs_far (Ch.of_below (G := none) (m := 0) (fun g e => by cases e) bb) (fun q hq => ⟨(hRd.lt q hq).2, by simp⟩) hRd, fun j q hq => ?_, rfl⟩
    rw [Nat.zero_add, World.cell?_alloc_at _ _ _ _ rfl]
    simpa using hq
  case body =>
    rintro l pre x a' X hl hr1 hJ ⟨Bq, hBq, hGx, hrq, rfl⟩ hnx
    exact body2 (unhide HE) hJ.1 hnx hGx hBq hrq (fun h => by have := bwZ.size; rcases h with h | h | h | h | h <;> first | omega | exact np h.symm | exact nv h.symm | cases h) (by omega) hr1 hV hJ.2 dn (unhide HWB) nw (unhide HBP) np (unhide HBV) lv nv wp wv
  case done =>
    rintro D xs X hD hD2 hxs hJ hK
    have hlen : xs.length = N := by have := congrArg List.length hxs; rw [List.length_map, ← hNN] at this; exact this
    obtain ⟨hX, hXD⟩ := hJ
    rw [hlen] at hX
    have c7 := hX.nb.cell
    have c5 := (hX.box (unhide HE).pb (unhide HE).np).cell
    have r4 := hX.box (unhide HRB) nr
    have c4 := r4.cell
    have f4 := r4.frozen
    have lr := (unhide HRB).lt
    have R4 := hide r4
    have HXD := hide hXD
    have HK := hide hK
    have HB := hide (hX.bel bwU (Nat.le_trans hU2 hnl))
    clear hxs hX hXD hK r4 hlen
    gi_wp2
    have kD : (X.setCell ⟨rbk, 0, none⟩ (.bool true)).heap[D]? = some (.deferred (some [])) := (Below.heap_setCell _ ⟨rbk, 0, none⟩ _ _ (by show D ≠ rbk; omega)).trans (unhide HK)
    have kD1 : (X.setCell ⟨rbk, 0, none⟩ (.bool true)).heap[D1]? = some (.deferred (some [])) := (Below.heap_setCell _ ⟨rbk, 0, none⟩ _ _ (by show D1 ≠ rbk; omega)).trans (unhide HXD)
    refine ⟨by simp, .inl ⟨_, _, rfl, run_takeDeferred kD, ?_⟩⟩
    refine ⟨by simp, .inl ⟨_, _, rfl, run_takeDeferred ((World.putObj_heap_other (by omega)).trans kD1), ?_⟩⟩
    refine ⟨_, tw_results _ _ rbk rfl ((((unhide R4).set _).kept (grownBy_putObj' _ D _) (fun e => by cases e; omega)).kept (grownBy_putObj' _ D1 _) (fun e => by cases e; omega)).cell, rfl, ?_⟩
    have hwZ := bwZ.size
    have hwU := bwU.size
    have e1 : Below w.heap.size w (X.setCell ⟨rbk, 0, none⟩ (.bool true)) := (unhide HB).setCell (p := ⟨rbk, 0, none⟩) wr _
    have e2 : Below w.heap.size w ((X.setCell ⟨rbk, 0, none⟩ (.bool true)).putObj D (.deferred none)) := e1.trans ⟨rfl, rfl, rfl, by simp, fun k hk => World.putObj_heap_other (by omega)⟩
    exact e2.trans ⟨rfl, rfl, rfl, by simp, fun k hk => World.putObj_heap_other (by omega)⟩
  case stop => exact fun _ _ _ _ _ _ _ h _ => h.elim
end Go.Proofs.Ythpcpminikmcbaa.og
