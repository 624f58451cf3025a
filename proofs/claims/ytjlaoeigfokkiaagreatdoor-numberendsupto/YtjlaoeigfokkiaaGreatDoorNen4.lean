import Derived.Test.YtjlaoeigfokkiaaGreatDoorNen2
import Derived.Test.YtjlaoeigfokkiaaGreatDoorNen3
namespace Go.Proofs.YtjlaoeigfokkiaaGreatDoor.fto
open Go.ChangeShapes Go.WideShapes Go.ChangeAt Go.RowKit
open mem Go.Sort
open ints (hide unhide)
set_option linter.unusedVariables false
set_option linter.unusedSimpArgs false
theorem num_cut (s : ByteArray) (p k : Nat) (b : Bool) (h : numP (((bytZ s).drop p).take (k - p)) = b) (hs : s.size ≤ 1048577) (W : World) (hW : dcm.Fz W) :
    Calls Tryz.prog 14 #[.string (cutS s p k)] W fun x w' => x = .returned (.bool b) ∧ Below W.heap.size W w' := by
  have := isNum_ok (cutS s p k) (by have := cutS_size s p k; omega) W hW
  rw [bytZ_cut, h] at this
  exact this
theorem num_cut0 (s : ByteArray) (p k : Nat) (b : Bool) (h : numP (((bytZ s).drop p).take (k - p) ++ [48]) = b) (hs : s.size ≤ 1048577) (W : World) (hW : dcm.Fz W) :
    Calls Tryz.prog 14 #[.string (cutS s p k ++ ⟨#[48]⟩)] W fun x w' => x = .returned (.bool b) ∧ Below W.heap.size W w' := by
  have := isNum_ok (cutS s p k ++ ⟨#[48]⟩) (by have := cutS_size s p k; rw [ByteArray.size_append]; have e : (⟨#[48]⟩ : ByteArray).size = 1 := rfl; omega) W hW
  rw [bytZ_app0, bytZ_cut, h] at this
  exact this
theorem num_12 (W : World) (hW : dcm.Fz W) : Calls Tryz.prog 14 #[.string ⟨#[49, 50, 46]⟩] W fun x w' => x = .returned (.bool false) ∧ Below W.heap.size W w' := by
  have := isNum_ok ⟨#[49, 50, 46]⟩ (by decide) W hW
  rw [show numP (bytZ ⟨#[49, 50, 46]⟩) = false by decide] at this
  exact this
theorem num_em (W : World) (hW : dcm.Fz W) : Calls Tryz.prog 14 #[.string ⟨#[]⟩] W fun x w' => x = .returned (.bool false) ∧ Below W.heap.size W w' := by
  have := isNum_ok ⟨#[]⟩ (by decide) W hW
  rw [show numP (bytZ ⟨#[]⟩) = false by decide] at this
  exact this
/-- what stands behind the loop, whatever it is -/
theorem rest_ok (s : ByteArray) (p en st : Nat) (fm : Int) (P : PxI (bytZ s) p en st fm) (hs : s.size ≤ 1048577) {w : World} {t2 t3 t4 t8 t9 t10 t11 t12 t13 t14 t15 t16 t17 t18 t19 t20 t21 t22 t23 t24 t25 t26 t27 t28 t29 t30 t31 t32 t33 t34 t35 t36 t37 t38 t39 t40 t41 t42 t43 t44 t45 t46 t47 t48 t49 t50 t51 t52 t53 t54 t55 t56 t57 t58 t59 t60 t61 t62 t63 t64 t65 t66 t67 t68 t69 t70 t71 t72 t73 t74 t75 t76 t77 t78 t79 t80 t81 t82 t83 t84 t85 t86 t87 t88 t89 t90 t91 t92 t93 t94 t95 t96 t97 t98 t99 t100 t101 t102 t103 t104 t105 t106 t107 t108 t109 t110 t111 t112 t113 t114 t115 t116 t117 t118 t119 t120 t121 t122 t123 t124 t125 t126 t127 t128 t129 t130 t131 t132 t133 t134 t135 t136 t137 t138 t139 t140 t141 t142 t143 t144 t145 t146 t147 t148 t149 t150 t151 t152 t153 t154 t155 t156 t157 t158 t159 t160 t161 t162 t163 t164 t165 t166 t167 : Value} (X : World) (hF : dcm.Fz X) (hb : Below w.heap.size w X) :
    (nav (lawOf Tryz.f5) [1, 1, 1, 1, 1, 1]).wp Tryz.prog (bodyPost Tryz.prog Tryz.f5 (fun x w' => x = .returned (.bool true) ∧ Below w.heap.size w w')) { tmps := #[.string s, .int .i64 (p : Int), t2, t3, t4, .int .i64 (en : Int), .int .i64 (st : Int), .int .i64 fm, t8, t9, t10, t11, t12, t13, t14, t15, t16, t17, t18, t19, t20, t21, t22, t23, t24, t25, t26, t27, t28, t29, t30, t31, t32, t33, t34, t35, t36, t37, t38, t39, t40, t41, t42, t43, t44, t45, t46, t47, t48, t49, t50, t51, t52, t53, t54, t55, t56, t57, t58, t59, t60, t61, t62, t63, t64, t65, t66, t67, t68, t69, t70, t71, t72, t73, t74, t75, t76, t77, t78, t79, t80, t81, t82, t83, t84, t85, t86, t87, t88, t89, t90, t91, t92, t93, t94, t95, t96, t97, t98, t99, t100, t101, t102, t103, t104, t105, t106, t107, t108, t109, t110, t111, t112, t113, t114, t115, t116, t117, t118, t119, t120, t121, t122, t123, t124, t125, t126, t127, t128, t129, t130, t131, t132, t133, t134, t135, t136, t137, t138, t139, t140, t141, t142, t143, t144, t145, t146, t147, t148, t149, t150, t151, t152, t153, t154, t155, t156, t157, t158, t159, t160, t161, t162, t163, t164, t165, t166, t167], defers := [] } X := by
  have hlen := bytZ_len s
  have sl := P.sl
  rw [hlen] at sl
  have hfm : numP (((bytZ s).drop p).take (en - p)) = decide (p < en) := by
    unfold numP
    rw [P.fm]
    by_cases h : p < en
    · rw [decide_eq_true h, decide_eq_true (P.nz h)]
    · have : en = p := by have := P.pe; omega
      have h0 := P.fm
      rw [this, Nat.sub_self, List.take_zero] at h0
      rw [decide_eq_false h, decide_eq_false_iff_not, ← h0]
      decide
  have hf1 : ¬ p < en → fm = 0 := by
    intro h
    have : en = p := by have := P.pe; omega
    have h0 := P.fm
    rw [this, Nat.sub_self, List.take_zero] at h0
    rw [← h0]; rfl
  obtain ⟨k, i, f, e0, hv, RD⟩ := read_any (cutS s p en) (by have := cutS_size s p en; omega)
  rw [bytZ_cut] at hv
  have hl : p < en → fm = 2 ∨ (fm = 1 ∧ (k = 2 ∨ k = 3 ∨ e0 = 7)) := by
    intro h
    have hr := form_rng (aut (((bytZ s).drop p).take (en - p)))
    rw [P.fm] at hr
    have hz := P.nz h
    have hk : k = 2 ∨ k = 3 ∨ e0 = 7 := by
      cases hv with
      | none hn => rw [hn] at hfm; rw [decide_eq_true h] at hfm; cases hfm
      | int => exact Or.inl rfl
      | flt => exact Or.inr (Or.inl rfl)
      | big => exact Or.inr (Or.inr rfl)
    omega
  have N1 := fun W hW => num_cut s p en (decide (p < en)) hfm hs W hW
  have N2 := fun W hW => num_cut s p st _ rfl hs W hW
  have N20 := fun W hW => num_cut0 s p st _ rfl hs W hW
  have hb2 := live_num _ P.lv
  have N3 : st < s.size → ∀ W, dcm.Fz W → Calls Tryz.prog 14 #[.string (cutS s p (st + 1))] W fun x w' => x = .returned (.bool false) ∧ Below W.heap.size W w' := fun h W hW => num_cut s p (st + 1) false (by have := dead_num _ [] (P.st (by rw [hlen]; exact h)); simpa using this) hs W hW
  have N30 : st < s.size → ∀ W, dcm.Fz W → Calls Tryz.prog 14 #[.string (cutS s p (st + 1) ++ ⟨#[48]⟩)] W fun x w' => x = .returned (.bool false) ∧ Below W.heap.size W w' := fun h W hW => num_cut0 s p (st + 1) false (dead_num _ [48] (P.st (by rw [hlen]; exact h))) hs W hW
  have pe := P.pe
  have es := P.es
  have q1 := cutS_size s p st
  have q2 := cutS_size s p (st + 1)
  by_cases hlt : p < en
  · exact ends_lt s p en st fm (cutS s p en) (cutS s p st) (cutS s p (st + 1)) _ _ _ _ k i f e0 X hF hb (by omega) (by omega) (by omega) pe es sl
      (fun W => run_cutS s p en _ rfl pe (by omega) W) (fun W => run_cutS s p st _ rfl (by omega) sl W) (fun h W => run_cutS s p (st + 1) _ (by omega) (by omega) h W) rfl rfl N1 N2 N20 hb2 N3 N30 RD hlt (fun h => P.nz h) hf1 hl
  · exact ends_eq s p en st fm (cutS s p en) (cutS s p st) (cutS s p (st + 1)) _ _ _ _ k i f e0 X hF hb (by omega) (by omega) (by omega) pe es sl
      (fun W => run_cutS s p en _ rfl pe (by omega) W) (fun W => run_cutS s p st _ rfl (by omega) sl W) (fun h W => run_cutS s p (st + 1) _ (by omega) (by omega) h W) rfl rfl N1 N2 N20 hb2 N3 N30 RD hlt (fun h => P.nz h) hf1 hl
set_option maxRecDepth 100000 in
set_option maxHeartbeats 4000000 in
/-- NumberEnds at a place within the text -/
theorem ends_in (s : ByteArray) (p : Nat) (w : World) (hW : dcm.Fz w) (hs : s.size ≤ 1048577) (hp : p ≤ s.size) :
    Calls Tryz.prog 5 #[.string s, .int .i64 (p : Int)] w fun e w' => e = .returned (.bool true) ∧ Below w.heap.size w w' := by
  have P := pfx_ok (bytZ s) p (by rw [bytZ_len]; exact hp)
  have PR := hide (fun a n c W (h : Row .u8 W a n c (bytZ s)) (hn : n ≤ 4611686018427387900) (hp : p ≤ n) => prefix_in_b a n c (bytZ s) p W h hn hp)
  obtain ⟨en, hen⟩ : ∃ en, en = (pfx (bytZ s) p).1 := ⟨_, rfl⟩
  obtain ⟨st, hst⟩ : ∃ st, st = (pfx (bytZ s) p).2.1 := ⟨_, rfl⟩
  obtain ⟨fm, hfm⟩ : ∃ fm, fm = (pfx (bytZ s) p).2.2 := ⟨_, rfl⟩
  rw [← hen, ← hst, ← hfm] at P PR
  have sl := P.sl
  rw [bytZ_len] at sl
  have pe := P.pe
  have es := P.es
  have NK := hide (fun (k : Nat) (h1 : en < k) (h2 : k ≤ st) W hW' => num_cut s p k false (by
    unfold numP
    rw [P.no k h1 h2]
    decide) hs W hW')
  have CK := hide (fun (k : Nat) (h1 : p ≤ k) (h2 : k ≤ s.size) W => run_cutS s p k _ rfl h1 h2 W)
  have HP := hide P
  have A1 := hide (fixed_ok w hW.fy)
  have HF := hide hW
  have CB := hide (fun W => conv_bytes s W)
  have i1 : (p : Int) ≤ (en : Int) := by omega
  have i2 : (en : Int) ≤ (st : Int) := by omega
  have i3 : (st : Int) ≤ (s.size : Int) := by omega
  have i4 : ¬ (s.size : Int) < (p : Int) := by omega
  have i5 : (0 : Int) ≤ (p : Int) := by omega
  have i6 : (s.size : Int) ≤ 1048577 := by omega
  have g1 : decide ((en : Int) < (p : Int)) = false := by rw [decide_eq_false_iff_not]; omega
  have g2 : decide ((p : Int) < 0) = false := by rw [decide_eq_false_iff_not]; omega
  have g3 : decide ((st : Int) < (en : Int)) = false := by rw [decide_eq_false_iff_not]; omega
  have g4 : decide ((s.size : Int) < (st : Int)) = false := by rw [decide_eq_false_iff_not]; omega
  have g6 : decide (en < p) = false := by rw [decide_eq_false_iff_not]; omega
  have g7 : decide (st < en) = false := by rw [decide_eq_false_iff_not]; omega
  have g8 : decide (s.size < st) = false := by rw [decide_eq_false_iff_not]; omega
  have g9 : decide (s.size < p) = false := by rw [decide_eq_false_iff_not]; omega
  have g5 : decide ((s.size : Int) < (p : Int)) = false := by rw [decide_eq_false_iff_not]; omega
  clear hen hst hfm P hW
  refine calls_of_wp Tryz.func5 el_eq ?_
  obtain ⟨REST, hREST⟩ : ∃ B, B = nav (lawOf Tryz.f5) [1, 1, 1, 1, 1, 1] := ⟨_, rfl⟩
  rw [← hREST]
  have HREST := hide hREST
  clear hREST
  simp only [lawOf, nav, Tryz.f5, Option.getD_some]
  simp only [Tryz.ntmps5, List.size_toArray, List.length_cons, List.length_nil, Nat.reduceAdd, Nat.reduceSub, Array.replicate_succ, Array.replicate_zero, List.push_toArray, List.append_toArray, List.nil_append, List.cons_append]
  go_wp2_with fail
  refine (unhide A1).mono ?_
  rintro e w1 ⟨rfl, b1⟩
  have B1 := hide b1
  have F1 := hide ((unhide HF).below b1)
  clear b1 A1 HF
  go_wp2_with fail
  refine (num_12 w1 (unhide F1)).mono ?_
  rintro e w2 ⟨rfl, b2⟩
  have B2 := hide ((unhide B1).trans (b2.mono (unhide B1).size))
  have F2 := hide ((unhide F1).below b2)
  clear b2 B1 F1
  go_wp2_with fail
  refine (num_em w2 (unhide F2)).mono ?_
  rintro e w3 ⟨rfl, b3⟩
  have B3 := hide ((unhide B2).trans (b3.mono (unhide B2).size))
  have F3 := hide ((unhide F2).below b3)
  clear b3 B2 F2
  obtain ⟨cap, W4, hcv, hrow, b4⟩ := unhide CB w3
  have B4 := hide ((unhide B3).trans (b4.mono (unhide B3).size))
  have F4 := hide ((unhide F3).below b4)
  have P1 := hide (unhide PR _ _ _ W4 hrow (by omega) hp)
  clear CB hrow b4 B3 F3 PR
  go_wp2_with fail
  refine (unhide P1).mono ?_
  rintro e w5 ⟨rfl, b5⟩
  have B5 := hide ((unhide B4).trans (b5.mono (unhide B4).size))
  have F5 := hide ((unhide F4).below b5)
  clear b5 B4 F4 P1 hcv
  go_wp2_with fail
  go_loopw [8] (fun x wr => ∃ k : Nat, p + 1 ≤ k ∧ k ≤ st + 1 ∧ x = .int .i64 k ∧ Below w5.heap.size w5 wr) (fun x _ => st + 2 - (intOf x).toNat)
  case atStart => exact ⟨p + 1, Nat.le_refl _, by omega, by go_num, Below.refl _ _⟩
  case round =>
    obtain ⟨k, hk1, hk2, rfl, hbel⟩ := hrel
    have HBL := hide hbel
    clear hbel
    by_cases hks : k ≤ st
    · have j1 : (k : Int) ≤ (st : Int) := by omega
      by_cases hke : k < en + 24
      · have j2 : (k : Int) < (en : Int) + 24 := by omega
        by_cases hek : en < k
        · have j3 : (en : Int) < (k : Int) := by omega
          have ck := unhide CK k (by omega) (by omega)
          have nk := hide (unhide NK k hek hks wr ((unhide F5).below (unhide HBL)))
          go_wp2_with fail
          refine (unhide nk).mono ?_
          rintro e w6 ⟨rfl, b6⟩
          have B6 := hide ((unhide HBL).trans (b6.mono (unhide HBL).size))
          clear b6 nk
          go_wp2
          go_roundw
          case rel => first | exact ⟨k + 1, by omega, by omega, by go_num, unhide B6⟩ | exact ⟨_, _, _, _, _, _, _, _, _, _, _, _, _, _, _, _, _, _, _, _, _, _, _, ⟨k + 1, by omega, by omega, by go_num, unhide B6⟩, rfl⟩
          case measure => simp [intOf]; omega
        · have j3 : ¬ (en : Int) < (k : Int) := by omega
          go_wp2
          go_roundw
          case rel => exact ⟨k + 1, by omega, by omega, by go_num, unhide HBL⟩
          case measure => simp [intOf]; omega
      · have j2 : ¬ (k : Int) < (en : Int) + 24 := by omega
        go_wp2_with fail
        rw [unhide HREST]
        exact rest_ok s p en st fm (unhide HP) hs wr ((unhide F5).below (unhide HBL)) ((unhide B5).trans ((unhide HBL).mono (unhide B5).size))
    · have j1 : ¬ (k : Int) ≤ (st : Int) := by omega
      go_wp2_with fail
      rw [unhide HREST]
      exact rest_ok s p en st fm (unhide HP) hs wr ((unhide F5).below (unhide HBL)) ((unhide B5).trans ((unhide HBL).mono (unhide B5).size))
set_option maxRecDepth 100000 in
set_option maxHeartbeats 4000000 in
/-- NumberEnds at a place outside the text -/
theorem ends_out (s : ByteArray) (z : Int) (w : World) (hW : dcm.Fz w) (hs : s.size ≤ 1048577) (hz : z < 0 ∨ (s.size : Int) < z) (hz0 : -9223372036854775808 ≤ z ∧ z ≤ 9223372036854775807) :
    Calls Tryz.prog 5 #[.string s, .int .i64 z] w fun e w' => e = .returned (.bool true) ∧ Below w.heap.size w w' := by
  have PR := hide (fun a c W => prefix_out_b a s.size c z W hz)
  have A1 := hide (fixed_ok w hW.fy)
  have HF := hide hW
  have CB := hide (fun W => conv_bytes s W)
  clear hW
  go_enter Tryz.func5, Tryz.ntmps5
  go_wp2_with fail
  refine (unhide A1).mono ?_
  rintro e w1 ⟨rfl, b1⟩
  have B1 := hide b1
  have F1 := hide ((unhide HF).below b1)
  clear b1 A1 HF
  go_wp2_with fail
  refine (num_12 w1 (unhide F1)).mono ?_
  rintro e w2 ⟨rfl, b2⟩
  have B2 := hide ((unhide B1).trans (b2.mono (unhide B1).size))
  have F2 := hide ((unhide F1).below b2)
  clear b2 B1 F1
  go_wp2_with fail
  refine (num_em w2 (unhide F2)).mono ?_
  rintro e w3 ⟨rfl, b3⟩
  have B3 := hide ((unhide B2).trans (b3.mono (unhide B2).size))
  clear b3 B2 F2
  obtain ⟨cap, W4, hcv, hrow, b4⟩ := unhide CB w3
  have B4 := hide ((unhide B3).trans (b4.mono (unhide B3).size))
  have P1 := hide (unhide PR (some ⟨w3.heap.size, 0, none⟩) cap W4)
  clear CB hrow b4 B3 PR
  go_wp2_with fail
  refine (unhide P1).mono ?_
  rintro e w5 ⟨rfl, b5⟩
  have B5 := hide ((unhide B4).trans (b5.mono (unhide B4).size))
  clear b5 B4 P1 hcv
  by_cases h0 : z < 0
  · go_wp2
    go_ret
    exact ⟨rfl, unhide B5⟩
  · have h1 : (s.size : Int) < z := by omega
    go_wp2
    go_ret
    exact ⟨rfl, unhide B5⟩
/-- NumberEnds -/
theorem law_ends (s : ByteArray) (z : Int) (w : World) (hW : dcm.Fz w) (hs : s.size ≤ 1048577) (hz0 : -9223372036854775808 ≤ z ∧ z ≤ 9223372036854775807) :
    Calls Tryz.prog 5 #[.string s, .int .i64 z] w fun e w' => e = .returned (.bool true) ∧ Below w.heap.size w w' := by
  by_cases h : 0 ≤ z ∧ z ≤ (s.size : Int)
  · obtain ⟨p, rfl⟩ : ∃ p : Nat, z = (p : Int) := ⟨z.toNat, by omega⟩
    exact ends_in s p w hW hs (by omega)
  · exact ends_out s z w hW hs (by omega) hz0
end Go.Proofs.YtjlaoeigfokkiaaGreatDoor.fto
