import Derived.Test.YtjlaoeigfokkiaaGreatDoorNen1
namespace Go.Proofs.YtjlaoeigfokkiaaGreatDoor.fto
open Go.ChangeShapes Go.WideShapes Go.ChangeAt Go.RowKit
open mem Go.Sort
open ints (hide unhide)
set_option linter.unusedVariables false
set_option linter.unusedSimpArgs false
set_option maxRecDepth 100000 in
set_option maxHeartbeats 4000000 in
/-- what stands behind the loop -/
theorem ends_lt (s : ByteArray) (p en st : Nat) (fm : Int) (T1 T2 T3 T20 T30 : ByteArray) (b2 b20 : Bool) (k i : Int) (f : Nat) (e0 : Int) {w : World} {t2 t3 t4 t8 t9 t10 t11 t12 t13 t14 t15 t16 t17 t18 t19 t20 t21 t22 t23 t24 t25 t26 t27 t28 t29 t30 t31 t32 t33 t34 t35 t36 t37 t38 t39 t40 t41 t42 t43 t44 t45 t46 t47 t48 t49 t50 t51 t52 t53 t54 t55 t56 t57 t58 t59 t60 t61 t62 t63 t64 t65 t66 t67 t68 t69 t70 t71 t72 t73 t74 t75 t76 t77 t78 t79 t80 t81 t82 t83 t84 t85 t86 t87 t88 t89 t90 t91 t92 t93 t94 t95 t96 t97 t98 t99 t100 t101 t102 t103 t104 t105 t106 t107 t108 t109 t110 t111 t112 t113 t114 t115 t116 t117 t118 t119 t120 t121 t122 t123 t124 t125 t126 t127 t128 t129 t130 t131 t132 t133 t134 t135 t136 t137 t138 t139 t140 t141 t142 t143 t144 t145 t146 t147 t148 t149 t150 t151 t152 t153 t154 t155 t156 t157 t158 t159 t160 t161 t162 t163 t164 t165 t166 t167 : Value} (X : World) (hF : dcm.Fz X) (hb : Below w.heap.size w X)
    (z0 : s.size ≤ 1050000) (z2 : T2.size ≤ 1050000) (z3 : T3.size ≤ 1050000) (pe : p ≤ en) (es : en ≤ st) (sl : st ≤ s.size)
    (c1 : ∀ W, (Instr.slice 9 (.string s) (some (.int .i64 (p : Int))) (some (.int .i64 (en : Int))) none).run Tryz.prog W = .ok (.string T1) W)
    (c2 : ∀ W, (Instr.slice 9 (.string s) (some (.int .i64 (p : Int))) (some (.int .i64 (st : Int))) none).run Tryz.prog W = .ok (.string T2) W)
    (c3 : st < s.size → ∀ W, (Instr.slice 9 (.string s) (some (.int .i64 (p : Int))) (some (.int .i64 ((st : Int) + 1))) none).run Tryz.prog W = .ok (.string T3) W)
    (a2 : T2 ++ ⟨#[48]⟩ = T20) (a3 : T3 ++ ⟨#[48]⟩ = T30)
    (N1 : ∀ W, dcm.Fz W → Calls Tryz.prog 14 #[.string T1] W fun x w' => x = .returned (.bool (decide (p < en))) ∧ Below W.heap.size W w')
    (N2 : ∀ W, dcm.Fz W → Calls Tryz.prog 14 #[.string T2] W fun x w' => x = .returned (.bool b2) ∧ Below W.heap.size W w')
    (N20 : ∀ W, dcm.Fz W → Calls Tryz.prog 14 #[.string T20] W fun x w' => x = .returned (.bool b20) ∧ Below W.heap.size W w')
    (hb2 : b2 = true ∨ b20 = true)
    (N3 : st < s.size → ∀ W, dcm.Fz W → Calls Tryz.prog 14 #[.string T3] W fun x w' => x = .returned (.bool false) ∧ Below W.heap.size W w')
    (N30 : st < s.size → ∀ W, dcm.Fz W → Calls Tryz.prog 14 #[.string T30] W fun x w' => x = .returned (.bool false) ∧ Below W.heap.size W w')
    (RD : ∀ W, dcm.Fz W → Calls Tryz.prog 8 #[.string T1] W fun x w' => x = .returned (.tuple #[.agg #[.int .i64 k, .int .i64 i, .float .f64 f], .int .i64 e0]) ∧ Below W.heap.size W w')
    (hlt : p < en) (hf0 : p < en → fm ≠ 0) (hf1 : ¬ p < en → fm = 0) (hl : p < en → fm = 2 ∨ (fm = 1 ∧ (k = 2 ∨ k = 3 ∨ e0 = 7))) :
    (nav (lawOf Tryz.f5) [1, 1, 1, 1, 1, 1]).wp Tryz.prog (bodyPost Tryz.prog Tryz.f5 (fun x w' => x = .returned (.bool true) ∧ Below w.heap.size w w')) { tmps := #[.string s, .int .i64 (p : Int), t2, t3, t4, .int .i64 (en : Int), .int .i64 (st : Int), .int .i64 fm, t8, t9, t10, t11, t12, t13, t14, t15, t16, t17, t18, t19, t20, t21, t22, t23, t24, t25, t26, t27, t28, t29, t30, t31, t32, t33, t34, t35, t36, t37, t38, t39, t40, t41, t42, t43, t44, t45, t46, t47, t48, t49, t50, t51, t52, t53, t54, t55, t56, t57, t58, t59, t60, t61, t62, t63, t64, t65, t66, t67, t68, t69, t70, t71, t72, t73, t74, t75, t76, t77, t78, t79, t80, t81, t82, t83, t84, t85, t86, t87, t88, t89, t90, t91, t92, t93, t94, t95, t96, t97, t98, t99, t100, t101, t102, t103, t104, t105, t106, t107, t108, t109, t110, t111, t112, t113, t114, t115, t116, t117, t118, t119, t120, t121, t122, t123, t124, t125, t126, t127, t128, t129, t130, t131, t132, t133, t134, t135, t136, t137, t138, t139, t140, t141, t142, t143, t144, t145, t146, t147, t148, t149, t150, t151, t152, t153, t154, t155, t156, t157, t158, t159, t160, t161, t162, t163, t164, t165, t166, t167], defers := [] } X := by
  have H1 := hide N1
  have H2 := hide N2
  have H20 := hide N20
  have H3 := hide N3
  have H30 := hide N30
  have HR := hide RD
  have C3 := hide c3
  have HF := hide hF
  have HB := hide hb
  have HL := hide hl
  have hsf := fun (a : Addr) (n : Nat) (w : World) => run_store Tryz.prog w a (.float .f64 n) .plain rfl
  rw [er_eq]
  simp only [lawOf, nav, Tryz.f5, Option.getD_some]
  clear N1 N2 N20 N3 N30 RD c3 hF hb hl
  have FX := HF
  have BX := HB
  clear HF HB
  have hli : (p : Int) < (en : Int) := by omega
  have hz := hf0 hlt
  have hzb : (fm != 0) = true := by simpa using hz
  rw [decide_eq_true hlt] at H1
  clear hf0 hf1 hz
  go_wp2_with fail
  refine (unhide H1 X (unhide FX)).mono ?_
  rintro x w1 ⟨rfl, b⟩
  have Fw1 := hide ((unhide FX).below b)
  have Bw1 := hide ((unhide BX).trans (b.mono (unhide BX).size))
  clear b
  cases b2
  · have hb20 : b20 = true := by simpa using hb2
    subst hb20
    go_wp2_with fail
    refine (unhide H2 w1 (unhide Fw1)).mono ?_
    rintro x w2 ⟨rfl, b⟩
    have Fw2 := hide ((unhide Fw1).below b)
    have Bw2 := hide ((unhide Bw1).trans (b.mono (unhide Bw1).size))
    clear b
    go_wp2_with fail
    refine (unhide H20 w2 (unhide Fw2)).mono ?_
    rintro x w3 ⟨rfl, b⟩
    have Fw3 := hide ((unhide Fw2).below b)
    have Bw3 := hide ((unhide Bw2).trans (b.mono (unhide Bw2).size))
    clear b
    by_cases hst : st < s.size
    · have hsi : (st : Int) < (s.size : Int) := by omega
      have c3 := unhide C3 hst
      go_wp2_with fail
      refine (unhide H3 hst w3 (unhide Fw3)).mono ?_
      rintro x w4 ⟨rfl, b⟩
      have Fw4 := hide ((unhide Fw3).below b)
      have Bw4 := hide ((unhide Bw3).trans (b.mono (unhide Bw3).size))
      clear b
      go_wp2_with fail
      refine (unhide H30 hst w4 (unhide Fw4)).mono ?_
      rintro x w5 ⟨rfl, b⟩
      have Fw5 := hide ((unhide Fw4).below b)
      have Bw5 := hide ((unhide Bw4).trans (b.mono (unhide Bw4).size))
      clear b
      go_wp2_with fail
      refine (unhide HR w5 (unhide Fw5)).mono ?_
      rintro x w6 ⟨rfl, b⟩
      have Fw6 := hide ((unhide Fw5).below b)
      have Bw6 := hide ((unhide Bw5).trans (b.mono (unhide Bw5).size))
      clear b
      rcases unhide HL hlt with g | ⟨g, g2 | g2 | g2⟩
      · subst g
        go_wp2
        go_ret
        exact ⟨rfl, (unhide Bw6).alloc (unhide Bw6).size _⟩
      · subst g; subst g2
        go_wp2
        go_ret
        exact ⟨rfl, (unhide Bw6).alloc (unhide Bw6).size _⟩
      · subst g; subst g2
        go_wp2
        go_ret
        exact ⟨rfl, (unhide Bw6).alloc (unhide Bw6).size _⟩
      · subst g; subst g2
        by_cases k2 : k = 2
        · subst k2
          go_wp2
          go_ret
          exact ⟨rfl, (unhide Bw6).alloc (unhide Bw6).size _⟩
        · have k2' : (k == 2) = false := by rw [beq_eq_false_iff_ne]; exact k2
          by_cases k3 : k = 3
          · subst k3
            go_wp2
            go_ret
            exact ⟨rfl, (unhide Bw6).alloc (unhide Bw6).size _⟩
          · have k3' : (k == 3) = false := by rw [beq_eq_false_iff_ne]; exact k3
            go_wp2
            go_ret
            exact ⟨rfl, (unhide Bw6).alloc (unhide Bw6).size _⟩
    · have hsi : ¬ (st : Int) < (s.size : Int) := by omega
      go_wp2_with fail
      refine (unhide HR w3 (unhide Fw3)).mono ?_
      rintro x w7 ⟨rfl, b⟩
      have Fw7 := hide ((unhide Fw3).below b)
      have Bw7 := hide ((unhide Bw3).trans (b.mono (unhide Bw3).size))
      clear b
      rcases unhide HL hlt with g | ⟨g, g2 | g2 | g2⟩
      · subst g
        go_wp2
        go_ret
        exact ⟨rfl, (unhide Bw7).alloc (unhide Bw7).size _⟩
      · subst g; subst g2
        go_wp2
        go_ret
        exact ⟨rfl, (unhide Bw7).alloc (unhide Bw7).size _⟩
      · subst g; subst g2
        go_wp2
        go_ret
        exact ⟨rfl, (unhide Bw7).alloc (unhide Bw7).size _⟩
      · subst g; subst g2
        by_cases k2 : k = 2
        · subst k2
          go_wp2
          go_ret
          exact ⟨rfl, (unhide Bw7).alloc (unhide Bw7).size _⟩
        · have k2' : (k == 2) = false := by rw [beq_eq_false_iff_ne]; exact k2
          by_cases k3 : k = 3
          · subst k3
            go_wp2
            go_ret
            exact ⟨rfl, (unhide Bw7).alloc (unhide Bw7).size _⟩
          · have k3' : (k == 3) = false := by rw [beq_eq_false_iff_ne]; exact k3
            go_wp2
            go_ret
            exact ⟨rfl, (unhide Bw7).alloc (unhide Bw7).size _⟩
  · go_wp2_with fail
    refine (unhide H2 w1 (unhide Fw1)).mono ?_
    rintro x w8 ⟨rfl, b⟩
    have Fw8 := hide ((unhide Fw1).below b)
    have Bw8 := hide ((unhide Bw1).trans (b.mono (unhide Bw1).size))
    clear b
    by_cases hst : st < s.size
    · have hsi : (st : Int) < (s.size : Int) := by omega
      have c3 := unhide C3 hst
      go_wp2_with fail
      refine (unhide H3 hst w8 (unhide Fw8)).mono ?_
      rintro x w9 ⟨rfl, b⟩
      have Fw9 := hide ((unhide Fw8).below b)
      have Bw9 := hide ((unhide Bw8).trans (b.mono (unhide Bw8).size))
      clear b
      go_wp2_with fail
      refine (unhide H30 hst w9 (unhide Fw9)).mono ?_
      rintro x w10 ⟨rfl, b⟩
      have Fw10 := hide ((unhide Fw9).below b)
      have Bw10 := hide ((unhide Bw9).trans (b.mono (unhide Bw9).size))
      clear b
      go_wp2_with fail
      refine (unhide HR w10 (unhide Fw10)).mono ?_
      rintro x w11 ⟨rfl, b⟩
      have Fw11 := hide ((unhide Fw10).below b)
      have Bw11 := hide ((unhide Bw10).trans (b.mono (unhide Bw10).size))
      clear b
      rcases unhide HL hlt with g | ⟨g, g2 | g2 | g2⟩
      · subst g
        go_wp2
        go_ret
        exact ⟨rfl, (unhide Bw11).alloc (unhide Bw11).size _⟩
      · subst g; subst g2
        go_wp2
        go_ret
        exact ⟨rfl, (unhide Bw11).alloc (unhide Bw11).size _⟩
      · subst g; subst g2
        go_wp2
        go_ret
        exact ⟨rfl, (unhide Bw11).alloc (unhide Bw11).size _⟩
      · subst g; subst g2
        by_cases k2 : k = 2
        · subst k2
          go_wp2
          go_ret
          exact ⟨rfl, (unhide Bw11).alloc (unhide Bw11).size _⟩
        · have k2' : (k == 2) = false := by rw [beq_eq_false_iff_ne]; exact k2
          by_cases k3 : k = 3
          · subst k3
            go_wp2
            go_ret
            exact ⟨rfl, (unhide Bw11).alloc (unhide Bw11).size _⟩
          · have k3' : (k == 3) = false := by rw [beq_eq_false_iff_ne]; exact k3
            go_wp2
            go_ret
            exact ⟨rfl, (unhide Bw11).alloc (unhide Bw11).size _⟩
    · have hsi : ¬ (st : Int) < (s.size : Int) := by omega
      go_wp2_with fail
      refine (unhide HR w8 (unhide Fw8)).mono ?_
      rintro x w12 ⟨rfl, b⟩
      have Fw12 := hide ((unhide Fw8).below b)
      have Bw12 := hide ((unhide Bw8).trans (b.mono (unhide Bw8).size))
      clear b
      rcases unhide HL hlt with g | ⟨g, g2 | g2 | g2⟩
      · subst g
        go_wp2
        go_ret
        exact ⟨rfl, (unhide Bw12).alloc (unhide Bw12).size _⟩
      · subst g; subst g2
        go_wp2
        go_ret
        exact ⟨rfl, (unhide Bw12).alloc (unhide Bw12).size _⟩
      · subst g; subst g2
        go_wp2
        go_ret
        exact ⟨rfl, (unhide Bw12).alloc (unhide Bw12).size _⟩
      · subst g; subst g2
        by_cases k2 : k = 2
        · subst k2
          go_wp2
          go_ret
          exact ⟨rfl, (unhide Bw12).alloc (unhide Bw12).size _⟩
        · have k2' : (k == 2) = false := by rw [beq_eq_false_iff_ne]; exact k2
          by_cases k3 : k = 3
          · subst k3
            go_wp2
            go_ret
            exact ⟨rfl, (unhide Bw12).alloc (unhide Bw12).size _⟩
          · have k3' : (k == 3) = false := by rw [beq_eq_false_iff_ne]; exact k3
            go_wp2
            go_ret
            exact ⟨rfl, (unhide Bw12).alloc (unhide Bw12).size _⟩
end Go.Proofs.YtjlaoeigfokkiaaGreatDoor.fto
