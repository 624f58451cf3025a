import Derived.Test.YtlgmonphhimbdaaTkf
namespace Go.Proofs.Ytlgmonphhimbdaa.knd
open Go.ChangeShapes Go.WideShapes Go.ChangeAt Go.RowKit Go.Maps Go.Shelf
open wk
attribute [local go_sem] Oper.semAt_some
set_option linter.unusedVariables false
set_option linter.unusedSimpArgs false
theorem kl_eq : Try.f3.body = some (.seq (nav (lawOf Try.f3) [0]) (.seq (nav (lawOf Try.f3) [1, 0]) (.seq (nav (lawOf Try.f3) [1, 1, 0]) (.seq (nav (lawOf Try.f3) [1, 1, 1, 0]) (.seq (nav (lawOf Try.f3) [1, 1, 1, 1, 0]) (.seq (nav (lawOf Try.f3) [1, 1, 1, 1, 1, 0]) (nav (lawOf Try.f3) [1, 1, 1, 1, 1, 1]))))))) := by kernel_rfl
theorem get_has (ps : List Pr) (k : Int) : (getP' ps k).isSome = hasP ps k := by
  unfold getP' hasP
  rw [Option.isSome_map]
  cases h : ps.any (fun p => p.1 == k) with
  | true => rw [List.find?_isSome]; exact List.any_eq_true.1 h
  | false =>
    rw [List.find?_eq_none.2 (fun x hx => by simpa using List.any_eq_false.1 h x hx)]
    rfl
theorem gt_vs {w W : World} {rb ob lb : Nat} {X V : Nat → Prop} {M : Option Nat} {rs : List Rw} {nx : Nat} {u : Value} {ps : List Pr} (h : Kn w W rb ob lb X V M rs nx u ps) {s : Fin 65536} {v : Sv} (hv : gtR rs s = some v) : ∃ g L c, v = (some ⟨g, 0, none⟩, L, c) ∧ 0 < L ∧ L ≤ 2 ∧ V g := by
  unfold gtR at hv
  obtain ⟨r, hr, rfl⟩ := Option.map_eq_some_iff.1 hv
  obtain ⟨g, n, c, e1, e2, e3⟩ := h.vs r (List.mem_of_find?_eq_some hr)
  exact ⟨g, n + 1, c, e1, by omega, by omega, e3⟩
set_option maxRecDepth 100000 in
set_option maxHeartbeats 1000000 in
theorem law_kinds (a0 : Option Addr) (n0 c0 : Nat) (a1 : Option Addr) (n1 c1 : Nat) (w : World) (h0 : Us w a0 n0) (h1 : Us w a1 n1) (b0 : n0 ≤ 70368744177664) (b1 : n1 ≤ 70368744177664) :
    Calls Try.prog 3 #[.slice a0 n0 c0, .slice a1 n1 c1] w fun e w' => e = .returned (.bool true) ∧ Below w.heap.size w w' := by
  have H0 := hide h0
  have H1 := hide h1
  clear h0 h1
  refine (callsIn_wide (n := 8)).1 ?_
  refine callsIn_of_wp_marks Try.func3 kl_eq trivial ?_ rfl
  obtain ⟨REST, hREST⟩ : ∃ B, B = nav (lawOf Try.f3) [1, 1, 1, 1, 1, 1] := ⟨_, rfl⟩
  rw [← hREST]
  have HREST := hide hREST
  clear hREST
  simp only [lawOf, nav, Try.f3, Option.getD_some]
  simp only [Try.ntmps3, List.size_toArray, List.length_cons, List.length_nil, Nat.reduceAdd, Nat.reduceSub, Array.replicate_succ, Array.replicate_zero, List.push_toArray, List.append_toArray, List.nil_append, List.cons_append]
  gi_wp2_with fail
  refine ⟨trivial, ?_⟩
  gi_at_call 5
  refine (callsIn_wide.2 (placed_ok 131072 _ (by decide))).mono ?_
  rintro e W2 ⟨rfl, b2⟩
  simp only [World.size_alloc] at b2
  have P1 := hide (put_tb (((tb_new (w.alloc (.cells #[.bool false] 4)) w.heap.size (by simp)).below (by simpa using b2)).below (bel1 W2 (.cells #[.int .i64 9] 3))) (kn 131072) (some ⟨W2.heap.size, 0, none⟩, 1, 1) trivial (by decide) (by decide))
  have B2 := hide b2
  clear b2
  gi_wp2_with fail
  refine ⟨trivial, ?_⟩
  gi_at_call 4
  have P2 := unhide P1
  rw [World.size_alloc] at P2
  refine (callsIn_wide.2 P2).mono ?_
  clear P1 P2
  rintro e W4 ⟨he, X, M, tb, x1, x2, k4, -⟩
  have K0 := hide (Kn.first (unhide B2) tb (fun j hj => (x2 j hj).imp id (fun h => by simpa using h)) k4)
  have he' : e = .returned (.bool true) := he
  subst he'
  clear he tb x1 x2 k4 B2
  gi_wp2_with fail
  gi_loopw [7] (fun vi wr => ∃ (i : Nat) (X V : Nat → Prop) (M : Option Nat) (rs : List Rw) (nx : Nat) (u : Value) (ps : List Pr), i ≤ n0 ∧ vi = .int .i64 i ∧ Hid (Kn w wr w.heap.size (w.heap.size + 1) (W4.heap.size + 1) X V M rs nx u ps)) (fun vi _ => n0 - (intOf vi).toNat)
  case atStart => exact ⟨0, _, _, _, _, _, _, _, Nat.zero_le _, rfl, K0⟩
  case round =>
    obtain ⟨i, X, V, M, rs, nx, u, ps, hi, rfl, HK⟩ := hrel
    clear K0
    by_cases hlt : i < n0
    · have ki : (i : Int) < (n0 : Int) := by omega
      rcases unhide H0 with h0 | ⟨g, off, rfl, hg, hcell⟩
      · omega
      obtain ⟨k, hk, z0⟩ := hcell i hlt
      have c0 := ((unhide HK).bel.cell (p := ⟨g, off + i, none⟩) hg).trans z0
      have HL := hide (unhide HK).len
      have cl := (unhide HK).l.cell
      have RP := hide (rput_ok wr _ u ps (k : Int) (i : Int) (unhide HK).rl (by have := unhide HL; omega))
      obtain ⟨au, cu, eu, -⟩ := (unhide HK).rl
      subst eu
      clear hcell z0
      gi_wp2_with fail
      refine ⟨trivial, ?_⟩
      gi_at_call 6
      refine (callsIn_wide.2 (unhide RP)).mono ?_
      clear RP
      rintro e W1 ⟨u', rfl, hu', g1⟩
      have hsh : ∃ a n c, u' = .slice a n c := by
        obtain ⟨a, c, e, -⟩ := hu'
        exact ⟨a, _, c, e⟩
      obtain ⟨au', nu', cu', rfl⟩ := hsh
      have HU := hide hu'
      have G1 := hide g1
      clear hu' g1 cl c0
      gi_wp2_with fail
      refine ⟨trivial, ?_⟩
      gi_at_call 5
      refine (callsIn_wide.2 (placed_ok k W1 (by omega))).mono ?_
      rintro e W2 ⟨rfl, g2⟩
      have g12 := (unhide G1).trans (g2.mono (unhide G1).size)
      have PT := hide (put_tb (((unhide HK).tb.below g12).below (bel1 W2 (.cells #[.int .i64 (i : Nat), .int .i64 (i : Nat)] 3))) (kn k) (some ⟨W2.heap.size, 0, none⟩, 2, 2) trivial (by have := unhide HL; omega) (by have := (unhide HK).nxe; have := unhide HL; omega))
      have GB := hide (gt_has (unhide HK).eqk hk)
      have G2 := hide g2
      have G12 := hide g12
      clear g2 g12
      obtain ⟨bb, hbb⟩ : ∃ bb, bb = hasP ps (k : Int) := ⟨_, rfl⟩
      rw [← hbb]
      have HB := hide hbb
      clear hbb
      gi_wp2_with fail
      refine ⟨trivial, ?_⟩
      gi_at_call 4
      refine (callsIn_wide.2 (unhide PT)).mono ?_
      clear PT
      rintro e W3 ⟨he, X', M', tb, x1, x2, k3, -⟩
      have he' : e = .returned (.bool (!bb)) := by rw [he, unhide GB, ← unhide HB]
      subst he'
      have G3 := bel1 W2 (.cells #[.int .i64 (i : Nat), .int .i64 (i : Nat)] 3)
      have g12 := unhide G12
      have g13 := g12.trans (G3.mono g12.size)
      have l13 := (g13.block _ (unhide HK).l.lt).trans (unhide HK).l
      have l3 : Boxed W3 (W4.heap.size + 1) 35 _ := (k3.block _ (Nat.lt_of_lt_of_le (unhide HK).l.lt g13.size) (unhide HK).xr.2.1).trans l13
      have cl := l3.cell
      have fl := l3.frozen
      have HN := hide (Kn.put hk (unhide HK) g13 (((((unhide HU).mono (fun j hj hjj => (⟨hjj, by have := (unhide G2).size; omega⟩ : wr.heap.size ≤ j ∧ j ≠ W2.heap.size))).below (unhide G2)).below G3)) (show Vb _ W2.heap.size from ⟨_, _, World.alloc_heap_new _ _, by simp⟩) g12.size (n := 1) (Nat.le_refl _) tb x1 x2 k3)
      clear he tb x1 x2 k3 g12 g13 G3 l13 l3 G1 G2 G12 GB HB HU HK HL
      cases bb
      all_goals gi_wp2
      all_goals go_roundw
      case rel => exact ⟨i + 1, _, _, _, _, _, _, _, by omega, by go_num, HN⟩
      case measure => simp [intOf]; omega
      case rel => exact ⟨i + 1, _, _, _, _, _, _, _, by omega, by go_num, HN⟩
      case measure => simp [intOf]; omega
    · obtain rfl : i = n0 := by omega
      clear hi hlt
      gi_wp2
      clear H0
      gi_loopw [11] (fun vi wq => ∃ (i : Nat), i ≤ n1 ∧ vi = .int .i64 i ∧ Hid (Kn w wq w.heap.size (w.heap.size + 1) (W4.heap.size + 1) X V M rs nx u ps)) (fun vi _ => n1 - (intOf vi).toNat)
      case atStart => exact ⟨0, Nat.zero_le _, rfl, HK⟩
      case round =>
        obtain ⟨j, hj, rfl, HJ⟩ := hrel
        clear HK
        by_cases hlt : j < n1
        · have kj : (j : Int) < (n1 : Int) := by omega
          rcases unhide H1 with h0 | ⟨g, off, rfl, hg, hcell⟩
          · omega
          obtain ⟨k, hk, z0⟩ := hcell j hlt
          have c0 := ((unhide HJ).bel.cell (p := ⟨g, off + j, none⟩) hg).trans z0
          have HL := hide (unhide HJ).len
          have cl := (unhide HJ).l.cell
          obtain ⟨bb, hbb⟩ : ∃ bb, bb = hasP ps (k : Int) := ⟨_, rfl⟩
          have RG := hide (rget_ok _ _ u ps (k : Int) (unhide HJ).rl (by have := unhide HL; omega))
          rw [get_has, ← hbb] at RG
          obtain ⟨au, cu, eu, -⟩ := (unhide HJ).rl
          subst eu
          have GB := hide ((gt_has (unhide HJ).eqk hk).trans hbb.symm)
          clear hcell z0 hbb
          gi_wp2_with fail
          refine ⟨trivial, ?_⟩
          gi_at_call 7
          refine (callsIn_wide.2 (unhide RG)).mono ?_
          clear RG
          rintro e W1 ⟨rfl, g1⟩
          clear c0 cl
          gi_wp2_with fail
          refine ⟨trivial, ?_⟩
          gi_at_call 5
          refine (callsIn_wide.2 (placed_ok k W1 (by omega))).mono ?_
          rintro e W2 ⟨rfl, g2⟩
          have HK2 := hide ((unhide HJ).below (g1.trans (g2.mono g1.size)))
          have GT := hide (get_tb (unhide HK2).tb (kn k) trivial (by have := unhide HL; omega))
          clear g1 g2 HJ
          gi_wp2_with fail
          refine ⟨trivial, ?_⟩
          gi_at_call 8
          refine (callsIn_wide.2 (unhide GT)).mono ?_
          clear GT
          rintro e W3 ⟨(⟨v, hv, rfl⟩ | ⟨hv, rfl⟩), g3⟩
          · have eb : bb = true := by rw [← unhide GB, hv]; rfl
            subst eb
            obtain ⟨gv, L, cv, rfl, L0, L2, hV⟩ := gt_vs (unhide HK2) hv
            have HK3 := hide ((unhide HK2).below g3)
            have HV := hide hv
            clear hv g3 HK2
            have kL : ¬ (L : Int) = 0 := by omega
            have kp : (0 : Int) < (L : Int) := by omega
            obtain ⟨⟨x0, cx⟩, fx⟩ := ((unhide HK3).vb gv hV).cell
            gi_wp2_with fail
            refine ⟨trivial, ?_⟩
            gi_at_call 5
            refine (callsIn_wide.2 (placed_ok k _ (by omega))).mono ?_
            rintro e W5 ⟨rfl, g5⟩
            have HK5 := hide (((unhide HK3).write hV (.int .i64 (-7 - (j : Int)))).below g5)
            have GT := hide (get_tb (unhide HK5).tb (kn k) trivial (by have := unhide HL; omega))
            have cx5 := (g5.cell (p := ⟨gv, 0, none⟩) (by simpa using ((unhide HK3).vb gv hV).lt)).trans (World.cell?_setCell_same _ _ _ cx)
            have lt5 : gv < W5.heap.size := ((unhide HK5).vb gv hV).lt
            clear g5 cx fx HK3
            gi_wp2_with fail
            refine ⟨trivial, ?_⟩
            gi_at_call 8
            refine (callsIn_wide.2 (unhide GT)).mono ?_
            clear GT
            rintro e W6 ⟨(⟨v, hv, rfl⟩ | ⟨hv, rfl⟩), g6⟩
            · obtain rfl : v = (some ⟨gv, 0, none⟩, L, cv) := Option.some.inj (hv.symm.trans (unhide HV))
              have cx6 := (g6.cell (p := ⟨gv, 0, none⟩) lt5).trans cx5
              have HK6 := hide ((unhide HK5).below g6)
              clear hv g6 HK5 cx5 HV
              gi_wp2
              go_roundw
              case rel => exact ⟨j + 1, by omega, by go_num, HK6⟩
              case measure => simp [intOf]; omega
            · rw [unhide HV] at hv
              cases hv
          · have eb : bb = false := by rw [← unhide GB, hv]; rfl
            subst eb
            have HK3 := hide ((unhide HK2).below g3)
            clear hv g3 HK2
            gi_wp2
            go_roundw
            case rel => exact ⟨j + 1, by omega, by go_num, HK3⟩
            case measure => simp [intOf]; omega
        · obtain rfl : j = n1 := by omega
          clear hj hlt H1
          gi_wp2
          rw [unhide HREST]
          exact kn_rest (unhide HJ)
end Go.Proofs.Ytlgmonphhimbdaa.knd
