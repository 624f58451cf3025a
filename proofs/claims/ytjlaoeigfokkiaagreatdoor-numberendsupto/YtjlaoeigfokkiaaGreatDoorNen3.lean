import Derived.Test.YtjlaoeigfokkiaaGreatDoorNen1
namespace Go.Proofs.YtjlaoeigfokkiaaGreatDoor.fto
open Go.ChangeShapes Go.WideShapes Go.ChangeAt Go.RowKit
open mem Go.Sort
open ints (hide unhide)
set_option linter.unusedVariables false
set_option linter.unusedSimpArgs false
set_option maxRecDepth 100000 in
set_option maxHeartbeats 4000000 in
/-- what stands behind the loop -/
theorem ends_eq (s : ByteArray) (p en st : Nat) (fm : Int) (T1 T2 T3 T20 T30 : ByteArray) (b2 b20 : Bool) (k i : Int) (f : Nat) (e0 : Int) {w : World} {t2 t3 t4 t8 t9 t10 t11 t12 t13 t14 t15 t16 t17 t18 t19 t20 t21 t22 t23 t24 t25 t26 t27 t28 t29 t30 t31 t32 t33 t34 t35 t36 t37 t38 t39 t40 t41 t42 t43 t44 t45 t46 t47 t48 t49 t50 t51 t52 t53 t54 t55 t56 t57 t58 t59 t60 t61 t62 t63 t64 t65 t66 t67 t68 t69 t70 t71 t72 t73 t74 t75 t76 t77 t78 t79 t80 t81 t82 t83 t84 t85 t86 t87 t88 t89 t90 t91 t92 t93 t94 t95 t96 t97 t98 t99 t100 t101 t102 t103 t104 t105 t106 t107 t108 t109 t110 t111 t112 t113 t114 t115 t116 t117 t118 t119 t120 t121 t122 t123 t124 t125 t126 t127 t128 t129 t130 t131 t132 t133 t134 t135 t136 t137 t138 t139 t140 t141 t142 t143 t144 t145 t146 t147 t148 t149 t150 t151 t152 t153 t154 t155 t156 t157 t158 t159 t160 t161 t162 t163 t164 t165 t166 t167 : Value} (X : World) (hF : dcm.Fz X) (hb : Below w.heap.size w X)
    (z0 : s.size ≤ 1050000) (z2 : T2.size ≤ 1050000) (z3 : T3.size ≤ 1050000) (pe : p ≤ en) (es : en ≤ st) (sl : st ≤ s.size)
    (c1 : ∀ W, (Instr.slice 9 (.string s) (some (.int .i64 (p : Int))) (some (.int .i64 (en : Int))) none).run Tryz.prog W = .ok (.string T1) W)
    (c2 : ∀ W, (Instr.slice 9 (.string s) (some (.int .i64 (p : Int))) (some (.int .i64 (st : Int))) none).run Tryz.prog W = .ok (.string T2) W)
    (c3 : st < s.size → ∀ W, (Instr.slice 9 (.string s) (some (.int .i64 (p : Int))) (some (.int .i64 ((st : Int) + 1))) none).run Tryz.prog W = .ok (.string T3) W)
    (a2 : T2 ++ ⟨#[48]⟩ = T20) (a3 : T3 ++ ⟨#[48]⟩ = T30)
    (N1 : ∀ W, dcm.Fz W → Calls Tryz.prog 14 #[.string T1] W fun x w' => x = .returned (.bool (decide (p < en))) ∧ Below W.heap.size W w')
    (N2 : ∀ W, dcm.Fz W → Calls Tryz.prog 14 #[.string T2] W fun x w' => x = .returned (.bool b2) ∧ Below W.heap.size W w')
    (N20 : ∀ W, dcm.Fz W → Calls Tryz.prog 14 #[.string T20] W fun x w' => x = .returned (.bool b20) ∧ Below W.heap.size W w')
    (hb2 : b2 = true ∨ b20 = true)
    (N3 : st < s.size → ∀ W, dcm.Fz W → Calls Tryz.prog 14 #[.string T3] W fun x w' => x = .returned (.bool false) ∧ Below W.heap.size W w')
    (N30 : st < s.size → ∀ W, dcm.Fz W → Calls Tryz.prog 14 #[.string T30] W fun x w' => x = .returned (.bool false) ∧ Below W.heap.size W w')
    (RD : ∀ W, dcm.Fz W → Calls Tryz.prog 8 #[.string T1] W fun x w' => x = .returned (.tuple #[.agg #[.int .i64 k, .int .i64 i, .float .f64 f], .int .i64 e0]) ∧ Below W.heap.size W w')
    (hlt : ¬ p < en) (hf0 : p < en → fm ≠ 0) (hf1 : ¬ p < en → fm = 0) (hl : p < en → fm = 2 ∨ (fm = 1 ∧ (k = 2 ∨ k = 3 ∨ e0 = 7))) :
    (nav (lawOf Tryz.f5) [1, 1, 1, 1, 1, 1]).wp Tryz.prog (bodyPost Tryz.prog Tryz.f5 (fun x w' => x = .returned (.bool true) ∧ Below w.heap.size w w')) { tmps := #[.string s, .int .i64 (p : Int), t2, t3, t4, .int .i64 (en : Int), .int .i64 (st : Int), .int .i64 fm, t8, t9, t10, t11, t12, t13, t14, t15, t16, t17, t18, t19, t20, t21, t22, t23, t24, t25, t26, t27, t28, t29, t30, t31, t32, t33, t34, t35, t36, t37, t38, t39, t40, t41, t42, t43, t44, t45, t46, t47, t48, t49, t50, t51, t52, t53, t54, t55, t56, t57, t58, t59, t60, t61, t62, t63, t64, t65, t66, t67, t68, t69, t70, t71, t72, t73, t74, t75, t76, t77, t78, t79, t80, t81, t82, t83, t84, t85, t86, t87, t88, t89, t90, t91, t92, t93, t94, t95, t96, t97, t98, t99, t100, t101, t102, t103, t104, t105, t106, t107, t108, t109, t110, t111, t112, t113, t114, t115, t116, t117, t118, t119, t120, t121, t122, t123, t124, t125, t126, t127, t128, t129, t130, t131, t132, t133, t134, t135, t136, t137, t138, t139, t140, t141, t142, t143, t144, t145, t146, t147, t148, t149, t150, t151, t152, t153, t154, t155, t156, t157, t158, t159, t160, t161, t162, t163, t164, t165, t166, t167], defers := [] } X := by
  have H1 := hide N1
  have H2 := hide N2
  have H20 := hide N20
  have H3 := hide N3
  have H30 := hide N30
  have HR := hide RD
  have C3 := hide c3
  have HF := hide hF
  have HB := hide hb
  have HL := hide hl
  have hsf := fun (a : Addr) (n : Nat) (w : World) => run_store Tryz.prog w a (.float .f64 n) .plain rfl
  rw [er_eq]
  simp only [lawOf, nav, Tryz.f5, Option.getD_some]
  clear N1 N2 N20 N3 N30 RD c3 hF hb hl
  have FX := HF
  have BX := HB
  clear HF HB
  obtain rfl : p = en := by omega
  have hli : ¬ (p : Int) < (p : Int) := by omega
  have hz := hf1 hlt
  subst hz
  rw [decide_eq_false hlt] at H1
  clear hf0 hf1 HL
  go_wp2_with fail
  refine (unhide H1 X (unhide FX)).mono ?_
  rintro x w13 ⟨rfl, b⟩
  have Fw13 := hide ((unhide FX).below b)
  have Bw13 := hide ((unhide BX).trans (b.mono (unhide BX).size))
  clear b
  cases b2
  · have hb20 : b20 = true := by simpa using hb2
    subst hb20
    go_wp2_with fail
    refine (unhide H2 w13 (unhide Fw13)).mono ?_
    rintro x w14 ⟨rfl, b⟩
    have Fw14 := hide ((unhide Fw13).below b)
    have Bw14 := hide ((unhide Bw13).trans (b.mono (unhide Bw13).size))
    clear b
    go_wp2_with fail
    refine (unhide H20 w14 (unhide Fw14)).mono ?_
    rintro x w15 ⟨rfl, b⟩
    have Fw15 := hide ((unhide Fw14).below b)
    have Bw15 := hide ((unhide Bw14).trans (b.mono (unhide Bw14).size))
    clear b
    by_cases hst : st < s.size
    · have hsi : (st : Int) < (s.size : Int) := by omega
      have c3 := unhide C3 hst
      go_wp2_with fail
      refine (unhide H3 hst w15 (unhide Fw15)).mono ?_
      rintro x w16 ⟨rfl, b⟩
      have Fw16 := hide ((unhide Fw15).below b)
      have Bw16 := hide ((unhide Bw15).trans (b.mono (unhide Bw15).size))
      clear b
      go_wp2_with fail
      refine (unhide H30 hst w16 (unhide Fw16)).mono ?_
      rintro x w17 ⟨rfl, b⟩
      have Fw17 := hide ((unhide Fw16).below b)
      have Bw17 := hide ((unhide Bw16).trans (b.mono (unhide Bw16).size))
      clear b
      go_wp2_with fail
      refine (unhide HR w17 (unhide Fw17)).mono ?_
      rintro x w18 ⟨rfl, b⟩
      have Fw18 := hide ((unhide Fw17).below b)
      have Bw18 := hide ((unhide Bw17).trans (b.mono (unhide Bw17).size))
      clear b
      go_wp2
      go_ret
      exact ⟨rfl, (unhide Bw18).alloc (unhide Bw18).size _⟩
    · have hsi : ¬ (st : Int) < (s.size : Int) := by omega
      go_wp2_with fail
      refine (unhide HR w15 (unhide Fw15)).mono ?_
      rintro x w19 ⟨rfl, b⟩
      have Fw19 := hide ((unhide Fw15).below b)
      have Bw19 := hide ((unhide Bw15).trans (b.mono (unhide Bw15).size))
      clear b
      go_wp2
      go_ret
      exact ⟨rfl, (unhide Bw19).alloc (unhide Bw19).size _⟩
  · go_wp2_with fail
    refine (unhide H2 w13 (unhide Fw13)).mono ?_
    rintro x w20 ⟨rfl, b⟩
    have Fw20 := hide ((unhide Fw13).below b)
    have Bw20 := hide ((unhide Bw13).trans (b.mono (unhide Bw13).size))
    clear b
    by_cases hst : st < s.size
    · have hsi : (st : Int) < (s.size : Int) := by omega
      have c3 := unhide C3 hst
      go_wp2_with fail
      refine (unhide H3 hst w20 (unhide Fw20)).mono ?_
      rintro x w21 ⟨rfl, b⟩
      have Fw21 := hide ((unhide Fw20).below b)
      have Bw21 := hide ((unhide Bw20).trans (b.mono (unhide Bw20).size))
      clear b
      go_wp2_with fail
      refine (unhide H30 hst w21 (unhide Fw21)).mono ?_
      rintro x w22 ⟨rfl, b⟩
      have Fw22 := hide ((unhide Fw21).below b)
      have Bw22 := hide ((unhide Bw21).trans (b.mono (unhide Bw21).size))
      clear b
      go_wp2_with fail
      refine (unhide HR w22 (unhide Fw22)).mono ?_
      rintro x w23 ⟨rfl, b⟩
      have Fw23 := hide ((unhide Fw22).below b)
      have Bw23 := hide ((unhide Bw22).trans (b.mono (unhide Bw22).size))
      clear b
      go_wp2
      go_ret
      exact ⟨rfl, (unhide Bw23).alloc (unhide Bw23).size _⟩
    · have hsi : ¬ (st : Int) < (s.size : Int) := by omega
      go_wp2_with fail
      refine (unhide HR w20 (unhide Fw20)).mono ?_
      rintro x w24 ⟨rfl, b⟩
      have Fw24 := hide ((unhide Fw20).below b)
      have Bw24 := hide ((unhide Bw20).trans (b.mono (unhide Bw20).size))
      clear b
      go_wp2
      go_ret
      exact ⟨rfl, (unhide Bw24).alloc (unhide Bw24).size _⟩
end Go.Proofs.YtjlaoeigfokkiaaGreatDoor.fto
