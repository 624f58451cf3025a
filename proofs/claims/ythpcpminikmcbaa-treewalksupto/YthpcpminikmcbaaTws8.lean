import Derived.Test.YthpcpminikmcbaaTws7
namespace Go.Proofs.Ythpcpminikmcbaa.og
open Go.ChangeShapes Go.WideShapes Go.ChangeAt Go.RowKit Go.Shelf
open vl hiding cB cFl cS cF cI cK cIt
open stp (St Pth St3)
open wk
attribute [local go_sem] Oper.semAt_some
set_option linter.unusedVariables false
set_option linter.unusedSimpArgs false
set_option maxRecDepth 100000 in
set_option maxHeartbeats 1000000 in
theorem bodyI {w U1 U2 U X0 X : World} {V : Vl} {N c pbk sbk nbk mb k B0 B l n : Nat} {a : Option Addr} {G : List Nat} {stop : Int} {pre : List (Wel w)} {x : Wel w} {Z : Nat → Prop} {t0 t1 t2 t3 t4 t6 t7 t8 t9 t10 t11 t12 t15 t16 t17 t18 t19 t20 t21 t22 t23 t24 t25 t26 t27 t28 t29 t30 t31 t32 t33 t34 t35 t36 t37 t38 t39 t40 t41 t42 t43 t44 t45 t46 t47 t48 t49 t50 t51 t52 t53 t54 t55 t56 t57 t58 t59 t60 t61 t62 t63 t64 t65 t66 t67 t68 t69 t70 t71 t72 t73 t74 t75 t76 t77 t78 t79 t80 t81 t82 t83 t84 t85 t86 t87 t88 t89 t90 t91 t92 t93 t94 t95 t96 t97 t98 t99 t100 t101 t102 t103 t104 t105 t106 t107 t108 t109 t110 t111 t112 t113 t114 t115 t116 t117 t118 t119 t120 t121 t122 t123 t124 t125 t126 t127 t128 t129 t130 t131 t132 t133 t134 t135 t136 : Value} (E : TwE w U1 U2 U V N c a G stop pbk sbk nbk) (hI : TwI U nbk k X) (h0 : Below X0.heap.size X0 X) (hmb : X0.heap.size = mb) (hm : Boxed X mb 3 (.int .i64 (pre.length : Nat))) (hnx : ∃ r, pre.map Wel.pv ++ x.pv :: r = pts V [])
    (hGx : GrS B x.ss x.sl X) (hZ : ¬ Z mb) :
    (nav twLaw [1, 1, 1, 1, 1, 1, 1, 1, 1, 0, 1, 0, 1, 0, 1, 0, 1, 0, 1, 0, 1, 0, 1]).wpIn (Fence.wide.inRound l) n Try.prog (postT B0 (fun A A' => Kz Z x.sl.ownBlock A A') (fun pre X => Below X0.heap.size X0 X ∧ Boxed X mb 3 (.int .i64 (pre.length : Nat))) (fun _ _ _ => False) (pre ++ [x]) X) { tmps := #[t0, t1, t2, t3, t4, .pointer (some ⟨pbk, 0, none⟩), t6, t7, t8, t9, t10, t11, t12, .pointer (some ⟨mb, 0, none⟩), x.sl, t15, t16, t17, t18, t19, t20, t21, t22, t23, t24, t25, t26, t27, t28, t29, t30, t31, t32, t33, t34, t35, t36, t37, t38, t39, t40, t41, t42, t43, t44, t45, t46, t47, t48, t49, t50, t51, t52, t53, t54, t55, t56, t57, t58, t59, t60, t61, t62, t63, t64, t65, t66, t67, t68, t69, t70, t71, t72, t73, t74, t75, t76, t77, t78, t79, t80, t81, t82, t83, t84, t85, t86, t87, t88, t89, t90, t91, t92, t93, t94, t95, t96, t97, t98, t99, t100, t101, t102, t103, t104, t105, t106, t107, t108, t109, t110, t111, t112, t113, t114, t115, t116, t117, t118, t119, t120, t121, t122, t123, t124, t125, t126, t127, t128, t129, t130, t131, t132, t133, t134, t135, t136], defers := [] } X := by
  obtain ⟨r, hnx⟩ := hnx
  obtain ⟨xss, xv, xcs, xhv, xa, xc⟩ := x
  have hk : (pts V [])[pre.length]? = some (xss, xv) := by
    rw [← hnx, List.getElem?_append_right (by simp)]
    simp [Wel.pv]
  obtain ⟨g, ap, cp, us, rfl, hNl, hkN, hN, hpb, -, hg, -, hpp, hc, -, hss, -⟩ := look E hk hI
  have hGx : GrS B xss (.slice xa xss.length xc) X := hGx
  obtain ⟨-, hPx, -⟩ := grs_pth' hGx
  have SS := hide (sameW xa ap xss.length xc cp xss X hPx hpp (by omega))
  have FIN := hide (fun W (hW : Below X.heap.size X W) => show KeepsFrom B0 X (W.setCell ⟨mb, 0, none⟩ (.int .i64 ((pre.length : Nat) + 1))) ∧ Kz Z (Value.slice xa xss.length xc).ownBlock X (W.setCell ⟨mb, 0, none⟩ (.int .i64 ((pre.length : Nat) + 1))) ∧ Below X0.heap.size X0 (W.setCell ⟨mb, 0, none⟩ (.int .i64 ((pre.length : Nat) + 1))) ∧ Boxed (W.setCell ⟨mb, 0, none⟩ (.int .i64 ((pre.length : Nat) + 1))) mb 3 (.int .i64 ((pre ++ [(⟨xss, xv, xcs, xhv, xa, xc⟩ : Wel w)]).length : Nat)) from
    ⟨(keepsFrom_below hW).trans ((KeepsOthers.setCell _ _ _).from _), (Kz.of_below hW).trans (Kz.setCell _ hZ), (h0.trans (hW.mono h0.size)).setCell (p := ⟨mb, 0, none⟩) (Nat.le_of_eq hmb) _, by rw [List.length_append]; exact Boxed.set _ (show Boxed W mb 3 (.int .i64 (pre.length : Nat)) from (hW.block _ hm.lt).trans hm)⟩)
  have HM := hide hm
  have cm := hm.cell
  have c5 := hpb.cell
  unfold Wel.sl
  simp only
  obtain ⟨K, eK⟩ : ∃ K, K = pre.length := ⟨_, rfl⟩
  rw [← eK] at cm hc hkN FIN HM
  have hkb : K < 1048576 := by omega
  have ki : ¬ ((N : Int) ≤ (K : Int)) := by omega
  have kj : (K : Int) < (N : Int) := by omega
  generalize xss.length = m at *
  clear hm hpb hGx hPx hpp hnx hk eK hI h0 E
  simp only [twLaw, nav, Try.f4, Option.getD_some]
  gi_wp2_with fail
  refine ⟨trivial, ?_⟩
  refine ⟨fun h => absurd h (by simp [Fence.wide]), ?_⟩
  try gi_at_call 11
  refine (CallsIn.inRound l (callsIn_wide.2 (unhide SS))).mono ?_
  rintro e Y ⟨rfl, bY⟩
  have hmY : Boxed Y mb 3 (.int .i64 (K : Nat)) := (bY.block _ (unhide HM).lt).trans (unhide HM)
  have cY := hmY.cell
  have fY := hmY.frozen
  have F2 := hide (unhide FIN Y bY)
  clear cm c5 hc SS FIN bY hmY
  gi_wp2
  exact unhide F2
theorem t2_eq : nav twLaw [1, 1, 1, 1, 1, 1, 1, 1, 1, 0, 1, 0, 1] = .block 5 (.seq (.seq (nav twLaw [1, 1, 1, 1, 1, 1, 1, 1, 1, 0, 1, 0, 1, 0, 0, 0]) (.cond (.tmp 104) (nav twLaw [1, 1, 1, 1, 1, 1, 1, 1, 1, 0, 1, 0, 1, 0, 0, 1, 0]) .skip)) (nav twLaw [1, 1, 1, 1, 1, 1, 1, 1, 1, 0, 1, 0, 1, 0, 1])) := by kernel_rfl
set_option maxRecDepth 100000 in
set_option maxHeartbeats 1000000 in
theorem tail2 {w U1 U2 U X : World} {V : Vl} {cs : List Value} {N c pbk sbk nbk wbk bp bv k l n : Nat} {a : Option Addr} {G : List Nat} {stop : Int} {t0 t1 t2 t4 t8 t9 t10 t11 t12 t13 t14 t15 t16 t17 t18 t19 t20 t21 t22 t23 t24 t25 t26 t27 t28 t29 t30 t31 t32 t33 t34 t35 t36 t37 t38 t39 t40 t41 t42 t43 t44 t45 t46 t47 t48 t49 t50 t51 t52 t53 t54 t55 t56 t57 t58 t59 t60 t61 t62 t63 t64 t65 t66 t67 t68 t69 t70 t71 t72 t73 t74 t75 t76 t77 t78 t79 t80 t81 t82 t83 t84 t85 t86 t87 t88 t89 t90 t91 t92 t93 t94 t95 t96 t97 t98 t99 t100 t101 t102 t103 t104 t105 t106 t107 t108 t109 t110 t111 t112 t113 t114 t115 t116 t117 t118 t119 t120 t121 t122 t123 t124 t125 t126 t127 t128 t129 t130 t131 t132 t133 t134 t135 t136 : Value} {Q : Exit → Act → World → Prop} (E : TwE w U1 U2 U V N c a G stop pbk sbk nbk) (hI : TwI U nbk k X) (hkN : k < N) (hNN : N = (pts V []).length) (hn : 1 ≤ n) (hl : ∃ r, X.heap[l]? = some (.loop r)) (hV : VlC w V cs)
    (hwb : Boxed U wbk 41 (.func (.func 56) #[] #[.pointer (some ⟨bp, 0, none⟩), .pointer (some ⟨bv, 0, none⟩)])) (nw : wbk ≠ nbk) (hbp : Boxed U bp 29 (.slice none 0 0)) (np : bp ≠ nbk) (hbv : U.rangeAt bv 0 cs) (lv : bv < U.heap.size) (nv : bv ≠ nbk) (wp : w.heap.size ≤ bp) (wv : w.heap.size ≤ bv)
    (hQ : vl.Hid (∀ a' Y, Below X.heap.size X Y → Q .normal a' (Y.setCell ⟨nbk, 0, none⟩ (.int .i64 ((k : Nat) + 1))))) :
    (nav twLaw [1, 1, 1, 1, 1, 1, 1, 1, 1, 0, 1, 0, 1, 0, 1]).wpIn (Fence.wide.inRound l) n Try.prog Q { tmps := #[t0, t1, t2, .pointer (some ⟨sbk, 0, none⟩), t4, .pointer (some ⟨pbk, 0, none⟩), .pointer (some ⟨wbk, 0, none⟩), .pointer (some ⟨nbk, 0, none⟩), t8, t9, t10, t11, t12, t13, t14, t15, t16, t17, t18, t19, t20, t21, t22, t23, t24, t25, t26, t27, t28, t29, t30, t31, t32, t33, t34, t35, t36, t37, t38, t39, t40, t41, t42, t43, t44, t45, t46, t47, t48, t49, t50, t51, t52, t53, t54, t55, t56, t57, t58, t59, t60, t61, t62, t63, t64, t65, t66, t67, t68, t69, t70, t71, t72, t73, t74, t75, t76, t77, t78, t79, t80, t81, t82, t83, t84, t85, t86, t87, t88, t89, t90, t91, t92, t93, t94, t95, t96, t97, t98, t99, t100, t101, t102, t103, t104, t105, t106, t107, t108, t109, t110, t111, t112, t113, t114, t115, t116, t117, t118, t119, t120, t121, t122, t123, t124, t125, t126, t127, t128, t129, t130, t131, t132, t133, t134, t135, t136], defers := [] } X := by
  have hN : N ≤ 1048576 := by rw [hNN, pts_len]; exact E.cn
  have h7 := hI.nb
  have h5 := hI.box E.pb E.np
  have h3 := hI.box E.sb E.ns
  have h6 := hI.box hwb nw
  have c7 := h7.cell
  have f7 := h7.frozen
  have c3 := h3.cell
  have H7 := hide h7
  have H5 := hide h5
  have H6 := hide h6
  have hkb : k < 1048576 := by omega
  by_cases hs : (k : Int) = stop
  · subst hs
    have bwX : Below w.heap.size w X := E.b1.trans ((E.b2.trans ((hI.bel E.b3 E.nl).mono E.b2.size)).mono E.b1.size)
    have HE := hide E
    have HI := hide hI
    have hUX := hI.size
    have hnu := E.nu
    have l6 := h6.lt
    have lbp := hbp.lt
    obtain ⟨X3, eX3⟩ : ∃ X3, X3 = X.alloc (.cells #[.int .i64 0] 3) := ⟨_, rfl⟩
    have b3 : Below X.heap.size X X3 := by rw [eX3]; exact (Below.refl _ _).alloc (Nat.le_refl _) _
    have s3 : X3.heap.size ≤ X.heap.size + 1 := by rw [eX3]; simp
    have s3' : X.heap.size + 1 ≤ X3.heap.size := by rw [eX3]; simp
    have m3 : Boxed X3 X.heap.size 3 (.int .i64 0) := by rw [eX3]; exact Boxed.new X _ _
    have c6 : X3.cell? ⟨wbk, 0, none⟩ = some (.func (.func 56) #[] #[.pointer (some ⟨bp, 0, none⟩), .pointer (some ⟨bv, 0, none⟩)]) := Boxed.cell ((b3.block _ l6).trans h6 : Boxed X3 wbk 41 _)
    have HM3 := hide m3
    have HB3 := hide b3
    have EX3 := hide eX3
    rw [eX3] at c6
    have WA := hide (walk_ok V E.sm)
    have HCN := hide E.cn
    have HBP := hide hbp
    have HBV := hide hbv
    have HL := hide hl
    have HQ := hQ
    clear h7 h5 h3 h6 hwb E hI m3 b3 eX3 hbp hbv hl hQ
    simp only [twLaw, nav, Try.f4, Option.getD_some]
    gi_wp2_with fail
    rw [← unhide EX3]
    obtain ⟨r0, hr0⟩ := unhide HL
    have hl3 : X3.heap[l]? = some (.loop r0) := ((unhide HB3).block l (Array.getElem?_eq_some_iff.1 hr0).1).trans hr0
    have bw3 : Below w.heap.size w X3 := bwX.trans ((unhide HB3).mono bwX.size)
    have hI3 := (unhide HI).below hnu (unhide HB3)
    clear c6 c7 f7 c3
    refine wpT_N (α := Wel w) (l₀ := l) (r₀ := r0) rfl hl3 (by omega) (gf := 56) (lb := #[.pointer (some ⟨bp, 0, none⟩), .pointer (some ⟨bv, 0, none⟩)]) rfl trivial (enters_of Try.func56 (by kernel_rfl) rfl)
      (encs := Wel.enc (w0 := w)) (Rd := fun x A => GrS (X3.heap.size + 1) x.ss x.sl A) (C := Ch (X3.heap.size + 1) none 0) (Kp := fun x A A' => Kz (Zw w (X3.heap.size + 1) bp bv none) x.sl.ownBlock A A')
      (S := fun xs => xs.map Wel.pv = pts V []) (Sp := fun pre => ∃ k, pre.map Wel.pv = (pts V []).take k) (Nx := fun pre x => ∃ r, pre.map Wel.pv ++ x.pv :: r = pts V [])
      (fun W1 hb hs => by
        have hb1 := hI3.below hnu hb
        have := unhide WA w cs hV (n - 1) [] (.slice none 0 0) bp bv w.heap.size W1 (bw3.trans (hb.mono bw3.size)) (Nat.le_refl _) wp wv (hb1.box (unhide HBP) np) (fun j q hq => (cell_blk (hb1.blk _ lv nv) _).trans (unhide HBV j q hq)) GrV.nil (fun g e => by simp [Value.ownBlock] at e) (fun _ => rfl) (by have := unhide HCN; simp; omega) (by have := bw3.size; omega)
        rw [hs] at this
        exact this.inRound l)
      (fun A B hc _ => hc.block _ (by omega) (by simp))
      (fun x {A B C} h k => h.trans k) (fun x X o o' _ => Kz.putObj _ (fun h => by have := bw3.size; rcases h with h | h | h | h | h <;> first | omega | cases h)) (fun _ => rfl)
      (fun pre Y => Below X.heap.size X Y ∧ Boxed Y X.heap.size 3 (.int .i64 (pre.length : Nat))) (fun _ _ _ => False)
      (fun pre A B h hc => ⟨h.1.trans (hc.below (by omega) (fun g e => by cases e)), (hc.block _ (by omega) (by simp)).trans h.2⟩)
      (fun c pre A B h _ => h)
      (fun pre A B row h hg hr => ⟨h.1.trans ⟨hg.os, hg.tape, hg.output, hg.size, fun k hk => hg.block k (by have := h.2.lt; omega) (fun e => by have := (hr k e.symm).1; omega)⟩, h.2.kept hg (fun e => by have := (hr _ e.symm).1; omega)⟩)
      (fun c pre A B row h _ _ => h)
      ⟨unhide HB3, unhide HM3⟩
      (fun x a' Y => GrS (X3.heap.size + 1) x.ss x.sl Y ∧ a' = { tmps := #[t0, t1, t2, .pointer (some ⟨sbk, 0, none⟩), t4, .pointer (some ⟨pbk, 0, none⟩), .pointer (some ⟨wbk, 0, none⟩), .pointer (some ⟨nbk, 0, none⟩), t8, t9, t10, t11, t12, .pointer (some ⟨X.heap.size, 0, none⟩), x.sl, t15, t16, t17, t18, t19, t20, t21, t22, t23, t24, t25, t26, t27, t28, t29, t30, t31, t32, t33, t34, t35, t36, t37, t38, t39, t40, t41, t42, t43, t44, t45, t46, t47, t48, t49, t50, t51, t52, t53, t54, t55, t56, t57, t58, t59, t60, t61, t62, t63, t64, t65, t66, t67, t68, t69, t70, t71, t72, t73, t74, t75, t76, t77, t78, t79, t80, t81, t82, t83, t84, t85, t86, t87, t88, t89, t90, t91, t92, t93, t94, t95, t96, t97, t98, t99, t100, t101, t102, t103, t104, .int .i64 (k : Nat), .int .i64 (k : Nat), .bool true, .func (.func 56) #[] #[.pointer (some ⟨bp, 0, none⟩), .pointer (some ⟨bv, 0, none⟩)], x.sl, .agg x.cs.toArray, t111, t112, t113, t114, t115, t116, t117, t118, t119, t120, t121, t122, t123, t124, t125, t126, t127, t128, t129, t130, t131, t132, t133, t134, t135, t136], defers := [] })
      (fun x a' _ Y Y' row hs hg hr => ⟨grs_grown hs.1 hg (fun r e => (hr r e).2), hs.2⟩)
      ?assign ?body ?done ?stop
    case assign =>
      rintro l2 pre x Y K hJ hRd - hK
      have HJ := hide hJ
      have HRd := hide hRd
      clear hJ hRd
      unfold Wel.enc
      gi_wp2
      exact hK _ _ (KeepsFrom.refl _ _) (Kz.of_below (Below.refl _ _)) (unhide HJ) ⟨unhide HRd, rfl⟩
    case body =>
      rintro l2 pre x a' Y hl2 - hJ ⟨hG2, rfl⟩ hnx
      exact bodyI (unhide HE) ((unhide HI).below hnu hJ.1) hJ.1 rfl hJ.2 hnx hG2 (fun h => by have := bwX.size; rcases h with h | h | h | h | h <;> first | omega | cases h)
    case done =>
      rintro xs Y hxs hJ
      have hlen : xs.length = N := by have := congrArg List.length hxs; rw [List.length_map, ← hNN] at this; exact this
      have hY := (unhide HI).below hnu hJ.1
      have cm := hJ.2.cell
      rw [hlen] at cm
      have c5 := (hY.box (unhide HE).pb (unhide HE).np).cell
      have c7 := hY.nb.cell
      have f7 := hY.nb.frozen
      have F := hide (fun a' => unhide HQ a' Y hJ.1)
      clear hxs hJ hY hlen
      gi_wp2
      exact unhide F _
    case stop => exact fun _ _ _ _ h => h.elim
  · have F := hide (fun a' => unhide hQ a' X (Below.refl _ _))
    clear hI E h7 h5 h3 h6 hwb hbp hbv
    simp only [twLaw, nav, Try.f4, Option.getD_some]
    gi_wp2
    exact unhide F _
set_option maxRecDepth 100000 in
set_option maxHeartbeats 1000000 in
theorem body2 {w U1 U2 U X : World} {V : Vl} {cs : List Value} {N c pbk sbk nbk wbk bp bv B0 B Bq l n D1 : Nat} {O : Obj} {a : Option Addr} {G : List Nat} {stop : Int} {pre : List (Wel w)} {x : Wel w} {Z : Nat → Prop} {t0 t1 t2 t4 t8 t9 t10 t13 t14 t15 t16 t17 t18 t19 t20 t21 t22 t23 t24 t25 t26 t27 t28 t29 t30 t31 t32 t33 t34 t35 t36 t37 t38 t39 t40 t41 t42 t43 t44 t45 t46 t47 t48 t49 t50 t51 t52 t53 t54 t55 t56 t57 t58 t59 t60 t61 t62 t63 t64 t65 t66 t67 t68 t69 t70 t71 t72 t73 t74 t75 t76 t77 t78 t79 t80 t81 t82 t83 t84 t85 t86 t87 t88 t89 t90 t91 t92 t93 t94 t95 t96 t97 t98 t99 t100 t101 t102 t103 t104 t105 t106 t107 t108 t109 t110 t111 t112 t113 t114 t115 t116 t117 t118 t119 t120 t121 t122 t123 t124 t125 t126 t127 t128 t129 t130 t131 t132 t133 t134 t135 t136 : Value} (E : TwE w U1 U2 U V N c a G stop pbk sbk nbk) (hI : TwI U nbk pre.length X) (hnx : ∃ r, pre.map Wel.pv ++ x.pv :: r = pts V [])
    (hGx : GrS B x.ss x.sl X) (hBq : Bq < X.heap.size) (hrq : X.rangeAt Bq 0 x.cs) (hZ : ¬ Z nbk) (hn : 1 ≤ n) (hl : ∃ r, X.heap[l]? = some (.loop r)) (hV : VlC w V cs) (hD : X.heap[D1]? = some O) (hDn : D1 ≠ nbk)
    (hwb : Boxed U wbk 41 (.func (.func 56) #[] #[.pointer (some ⟨bp, 0, none⟩), .pointer (some ⟨bv, 0, none⟩)])) (nw : wbk ≠ nbk) (hbp : Boxed U bp 29 (.slice none 0 0)) (np : bp ≠ nbk) (hbv : U.rangeAt bv 0 cs) (lv : bv < U.heap.size) (nv : bv ≠ nbk) (wp : w.heap.size ≤ bp) (wv : w.heap.size ≤ bv) :
    (nav twLaw [1, 1, 1, 1, 1, 1, 1, 1, 1, 0, 1, 0, 1]).wpIn (Fence.wide.inRound l) n Try.prog (postT B0 (fun A A' => Kz Z x.sl.ownBlock A A') (fun pre X => TwI U nbk pre.length X ∧ X.heap[D1]? = some O) (fun _ _ _ => False) (pre ++ [x]) X) { tmps := #[t0, t1, t2, .pointer (some ⟨sbk, 0, none⟩), t4, .pointer (some ⟨pbk, 0, none⟩), .pointer (some ⟨wbk, 0, none⟩), .pointer (some ⟨nbk, 0, none⟩), t8, t9, t10, x.sl, .pointer (some ⟨Bq, 0, none⟩), t13, t14, t15, t16, t17, t18, t19, t20, t21, t22, t23, t24, t25, t26, t27, t28, t29, t30, t31, t32, t33, t34, t35, t36, t37, t38, t39, t40, t41, t42, t43, t44, t45, t46, t47, t48, t49, t50, t51, t52, t53, t54, t55, t56, t57, t58, t59, t60, t61, t62, t63, t64, t65, t66, t67, t68, t69, t70, t71, t72, t73, t74, t75, t76, t77, t78, t79, t80, t81, t82, t83, t84, t85, t86, t87, t88, t89, t90, t91, t92, t93, t94, t95, t96, t97, t98, t99, t100, t101, t102, t103, t104, t105, t106, t107, t108, t109, t110, t111, t112, t113, t114, t115, t116, t117, t118, t119, t120, t121, t122, t123, t124, t125, t126, t127, t128, t129, t130, t131, t132, t133, t134, t135, t136], defers := [] } X := by
  obtain ⟨r, hnx⟩ := hnx
  obtain ⟨xss, xv, xcs, xhv, xa, xc⟩ := x
  have hk : (pts V [])[pre.length]? = some (xss, xv) := by
    rw [← hnx, List.getElem?_append_right (by simp)]
    simp [Wel.pv]
  obtain ⟨g, ap, cp, us, rfl, hNl, hkN, hN, hpb, hsb, hg, hvu, hpp, hc, hr, hss, hSx⟩ := look E hk hI
  have hGx : GrS B xss (.slice xa xss.length xc) X := hGx
  obtain ⟨-, hPx, -⟩ := grs_pth' hGx
  have hXw : Below w.heap.size w X := E.b1.trans ((E.b2.trans ((hI.bel E.b3 E.nl).mono E.b2.size)).mono E.b1.size)
  have hxX : VlC X xv xcs := VlC.below hXw _ _ xhv
  have SS := hide (fun W (hW : Below X.heap.size X W) => sameW xa ap xss.length xc cp xss W (hPx.below hW) (hpp.below hW) (by omega))
  have WH := hide (fun W (hW : Below X.heap.size X W) => whole_eq xv hSx xcs us W (VlC.below hW _ _ hxX) (VlC.below hW _ _ hvu))
  obtain ⟨xkd, xb, xm, xf, xtx, xty, xits, xfls⟩ := xv
  unfold VlC at hxX hvu
  obtain ⟨xai, xni, xci, xaf, xnf, xcf, rfl, -⟩ := hxX
  obtain ⟨uai, uni, uci, uaf, unf, ucf, rfl, -⟩ := hvu
  rw [t2_eq]
  refine wpIn_block (wpIn_seq (wpIn_seq ?_))
  refine wpIn_mono (chk2 hI.nb hpb hkN hN hg hc hr hBq hrq SS WH) ?_
  intro e a2 X2 h2
  cases e <;> try exact h2.elim
  obtain ⟨bX2, rfl⟩ := h2
  refine wpIn_cond_false rfl (wpIn_skip ?_)
  have hI2 := hI.below E.nu bX2
  obtain ⟨r1, hr1⟩ := hl
  refine tail2 E hI2 hkN hNl hn ⟨r1, (bX2.block l (Array.getElem?_eq_some_iff.1 hr1).1).trans hr1⟩ hV hwb nw hbp np hbv lv nv wp wv (hide ?_)
  intro a' Y bY
  have hb := bX2.trans (bY.mono bX2.size)
  refine ⟨(keepsFrom_below hb).trans ((KeepsOthers.setCell _ _ _).from _), (Kz.of_below hb).trans (Kz.setCell _ hZ), ?_⟩
  show TwI U nbk (List.length _) _ ∧ _
  rw [List.length_append]
  have := (hI.below E.nu hb).set (pre.length + 1)
  exact ⟨by simpa using this, (Below.heap_setCell _ ⟨nbk, 0, none⟩ _ _ hDn).trans ((hb.block _ (Array.getElem?_eq_some_iff.1 hD).1).trans hD)⟩
end Go.Proofs.Ythpcpminikmcbaa.og
