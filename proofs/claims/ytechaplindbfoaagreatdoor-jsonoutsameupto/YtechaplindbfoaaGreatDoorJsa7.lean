import Derived.Test.YtechaplindbfoaaGreatDoorJsa6
namespace Go.Proofs.YtechaplindbfoaaGreatDoor.og
open Go.ChangeShapes Go.WideShapes Go.ChangeAt Go.RowKit
open vl hiding cB cFl cS cF cI cK cIt
open stp (c3 c3_lt c3_gt c3_eq cB cB_tri)
set_option linter.unusedVariables false
set_option linter.unusedSimpArgs false
theorem c3_zero {x t : Int} (h : c3 x t = 0) : x = t := by
  unfold c3 at h
  split at h
  · omega
  · split at h <;> omega
def orH (x y : Int) : Int := if x = 0 then y else x
theorem cmpOr_okH (x y : Int) (b : Nat) (w : World) (h0 : w.cell? ⟨b, 0, none⟩ = some (.int .i64 x)) (h1 : w.cell? ⟨b, 1, none⟩ = some (.int .i64 y)) : Calls Tryz.prog 55 #[.slice (some ⟨b, 0, none⟩) 2 2] w fun e w' => e = .returned (.int .i64 (orH x y)) ∧ w = w' := cmpOr_ok x y b w h0 h1
theorem build2I (x y : Int) (w : World) : (Instr.buildSlice 114 2 #[(0, .int .i64 x), (1, .int .i64 y)]).run Tryz.prog w = .ok (.slice (some ⟨w.heap.size, 0, none⟩) 2 2) (w.alloc (.cells #[.int .i64 x, .int .i64 y] 3)) := by
  go_simp
set_option maxHeartbeats 8000000 in
set_option maxRecDepth 6000 in
theorem order_ok : ∀ v : Vl, Small v → ∀ u : Vl, Small u → OrdAt v u := by
  refine Vl.all ?_
  intro kd b n f tx ty its fls ihI ihF hsm u hsu cs ds w h1 h2
  obtain ⟨kd', b', n', f', tx', ty', its', fls'⟩ := u
  have K1 := hide (fun W : World => kindOf_ok _ cs W w h1)
  have K2 := hide (fun W : World => kindOf_ok _ ds W w h2)
  unfold Small at hsm hsu
  obtain ⟨hlI, hlF, hfl, hsI, hsF⟩ := hsm
  obtain ⟨hlI', hlF', hfl', hsI', hsF'⟩ := hsu
  have FL := hide (fun W : World => floats_ok f f' W hfl hfl')
  have hV : ordV (.mk kd b n f tx ty its fls) (.mk kd' b' n' f' tx' ty' its' fls') = if c3 (kdOf kd) (kdOf kd') = 0 then
      (if kdOf kd = 1 then cBo b b' else if kdOf kd = 2 then c3 n n' else if kdOf kd = 3 then cFl f f' else if kdOf kd = 4 then cB tx tx' else if kdOf kd = 5 then ordI its its' else if kdOf kd = 6 then ordF fls fls' else if kdOf kd = 7 then (if cB ty ty' = 0 then cB tx tx' else cB ty ty') else 0)
    else c3 (kdOf kd) (kdOf kd') := by rw [ordV]
  rw [ordI_lex, ordF_lex] at hV
  have HV := hide hV
  have c8 := h1.cells
  have d8 := h2.cells
  have i1 : (Tryz.prog.info? 29).map (·.size) = some cs.length := by rw [c8]; exact infoV
  have i2 : (Tryz.prog.info? 29).map (·.size) = some ds.length := by rw [d8]; exact infoV
  obtain ⟨W, eW⟩ : ∃ W, W = (w.alloc (.cells cs.toArray 29)).alloc (.cells ds.toArray 29) := ⟨_, rfl⟩
  have bW : Gr w W := by rw [eW]; exact ((Gr.refl _).alloc _).alloc _
  have sW : w.heap.size + 1 < W.heap.size := by rw [eW]; simp
  have r1 : W.rangeAt w.heap.size 0 cs := fun j x hx => by
    rw [eW, Nat.zero_add, World.cell?_alloc_past _ _ _ (by simp), World.cell?_alloc_at _ _ _ _ rfl]; simpa using hx
  have r2 : W.rangeAt (w.heap.size + 1) 0 ds := fun j x hx => by
    rw [eW, Nat.zero_add, World.cell?_alloc_at _ _ _ _ (by simp)]; simpa using hx
  have EW := hide eW
  clear eW
  have HK : kdV (.mk kd b n f tx ty its fls) = kdOf kd := rfl
  have HK' : kdV (.mk kd' b' n' f' tx' ty' its' fls') = kdOf kd' := rfl
  rw [HK] at K1
  rw [HK'] at K2
  clear HK HK' hV hfl hfl' c8 d8
  have hrng := kdOf_rng kd
  generalize kdOf kd = K at *
  generalize kdOf kd' = K' at *
  generalize hOV : ordV (.mk kd b n f tx ty its fls) (.mk kd' b' n' f' tx' ty' its' fls') = OV at *
  clear hOV
  have HR := hide (And.intro r1 (And.intro r2 (And.intro i1 i2)))
  have HC := hide (And.intro h1 h2)
  clear r1 r2 i1 i2 h1 h2
  go_enter Tryz.func28, Tryz.ntmps28
  go_wp2_with (first
    | (rw [← unhide EW]; refine wpList_load_mid (by rfl) 29 _ (by rfl) w.heap.size 0 (by rfl) cs _ (unhide HR).1 Tryz.underlying29 (by rfl) (unhide HR).2.2.1 ?_))
  clear EW
  refine (unhide K1 _).mono ?_
  rintro e w1 ⟨rfl, g1⟩
  have R2 : w1.rangeAt (w.heap.size + 1) 0 ds := Row8.below (unhide HR).2.1 g1.1
  go_wp2_with (first
    | refine wpList_load_mid (by rfl) 29 _ (by rfl) (w.heap.size + 1) 0 (by rfl) ds _ R2 Tryz.underlying29 (by rfl) (unhide HR).2.2.2 ?_)
  refine (unhide K2 _).mono ?_
  rintro e w2 ⟨rfl, g2⟩
  go_wp2_with fail
  refine (kind_cmp K K' _).mono ?_
  rintro e w3 ⟨rfl, rfl⟩
  have G := g1.trans g2
  have GW := bW.trans G
  have Q1 : w2.rangeAt w.heap.size 0 cs := Row8.below (unhide HR).1 G.1
  have Q2 : w2.rangeAt (w.heap.size + 1) 0 ds := Row8.below (unhide HR).2.1 G.1
  have v1 := VlC.below GW.1 _ _ (unhide HC).1
  have v2 := VlC.below GW.1 _ _ (unhide HC).2
  clear R2 HR HC K1 K2
  unfold VlC at v1 v2
  obtain ⟨ai, ni, ci, af, nf, cf, rfl, hI, hF, hni, hnf, -, -, -, -, -, -, hci, hcf⟩ := v1
  obtain ⟨bi, mi, di, bf, mf, df, rfl, gI, gF, hmi, hmf, -, -, -, -, -, -, hdi, hdf⟩ := v2
  unfold maxLen at hci hcf hdi hdf
  have x1 := Q1 1 _ rfl
  have x2 := Q1 2 _ rfl
  have x3 := Q1 3 _ rfl
  have x4 := Q1 4 _ rfl
  have x5 := Q1 5 _ rfl
  have x6 := Q1 6 _ rfl
  have x7 := Q1 7 _ rfl
  have y1 := Q2 1 _ rfl
  have y2 := Q2 2 _ rfl
  have y3 := Q2 3 _ rfl
  have y4 := Q2 4 _ rfl
  have y5 := Q2 5 _ rfl
  have y6 := Q2 6 _ rfl
  have y7 := Q2 7 _ rfl
  simp only [Nat.zero_add] at x1 x2 x3 x4 x5 x6 x7 y1 y2 y3 y4 y5 y6 y7
  clear Q1 Q2
  by_cases hc : c3 K K' = 0
  · have HV := hide ((unhide HV).trans (if_pos hc))
    rw [hc]
    clear hc
    rcases hrng with rfl | rfl | rfl | rfl | rfl | rfl | rfl | rfl
    · have HV := hide ((unhide HV).trans (show _ = (0 : Int) by simp))
      go_wp2
      go_ret
      exact ⟨by rw [unhide HV]; rfl, GW⟩
    · have HV := hide ((unhide HV).trans (show _ = cBo b b' by simp))
      go_wp2_with fail
      refine (bools_ok b b' _).mono ?_
      rintro e w3 ⟨rfl, rfl⟩
      go_wp2
      go_ret
      exact ⟨by rw [unhide HV]; rfl, GW⟩
    · have HV := hide ((unhide HV).trans (show _ = c3 n n' by simp))
      go_wp2_with fail
      refine (i64_cmp n n' _).mono ?_
      rintro e w3 ⟨rfl, rfl⟩
      go_wp2
      go_ret
      exact ⟨by rw [unhide HV]; rfl, GW⟩
    · have HV := hide ((unhide HV).trans (show _ = cFl f f' by simp))
      go_wp2_with fail
      refine (unhide FL _).mono ?_
      rintro e w3 ⟨rfl, rfl⟩
      go_wp2
      go_ret
      exact ⟨by rw [unhide HV]; rfl, GW⟩
    · have HV := hide ((unhide HV).trans (show _ = cB tx tx' by simp))
      go_wp2_with fail
      refine (str_cmpE tx tx' _).mono ?_
      rintro e w3 ⟨rfl, rfl⟩
      go_wp2
      go_ret
      exact ⟨by rw [unhide HV]; rfl, GW⟩
    · have HV := hide ((unhide HV).trans (show _ = lexG ordV its.list its'.list by simp))
      go_wp2_with fail
      refine (cmpV_ok its its' (fun x hx y hy => ihI x hx (hsI.all x hx) y (hsI'.all y hy)) ai bi ni ci mi di _ hI gI (by rw [← VlsAt.len its _ _ hI]; omega) (by rw [← VlsAt.len its' _ _ gI]; omega)).mono ?_
      rintro e w3 ⟨rfl, g3⟩
      go_wp2
      go_ret
      exact ⟨by rw [unhide HV]; rfl, GW.trans g3⟩
    · have HV := hide ((unhide HV).trans (show _ = lexG ordM fls.list fls'.list by simp))
      go_wp2_with fail
      refine (cmpM_ok fls fls' (fun x hx y hy => ordM_ok x y (ihF x hx (hsF.all x hx) y.2 (hsF'.all y hy))) af bf nf cf mf df _ hF gF (by rw [← FlsAt.len fls _ _ hF]; omega) (by rw [← FlsAt.len fls' _ _ gF]; omega)).mono ?_
      rintro e w3 ⟨rfl, g3⟩
      go_wp2
      go_ret
      exact ⟨by rw [unhide HV]; rfl, GW.trans g3⟩
    · have HV := hide ((unhide HV).trans (show _ = orH (cB ty ty') (cB tx tx') by simp [orH]))
      have lx : w.heap.size < w2.heap.size := Nat.lt_of_lt_of_le (show w.heap.size < W.heap.size by omega) G.1.size
      have ly : w.heap.size + 1 < w2.heap.size := Nat.lt_of_lt_of_le sW G.1.size
      go_wp2_with fail
      have hS0 : Gr w2 { w2 with drawn := w2.drawn + 1 } := (Gr.refl _).drew
      refine wp_region_noPanic ?_
      refine wp_region_held (S := fun w' => Gr w2 w') mixed ?_
      refine wpAnyH_take (i := 0) (v := ?v1) rfl (by kernel_rfl) (by kernel_rfl) (by kernel_rfl) (fun _ _ _ h => h) (Or.inl ⟨by rfl, ?hy1⟩) hS0 ?_
      case hy1 => (intro w' hw'; have c5 := keepC hw'.1 lx x5; have d5 := keepC hw'.1 ly y5; go_simp; try with_reducible rfl)
      simp only [List.getElem_toArray, List.getElem_cons_zero, List.getElem_cons_succ, Act.put, List.setIfInBounds_toArray, List.set_cons_zero, List.set_cons_succ]
      refine wpAnyH_take (i := 1) (v := ?v2) rfl (by kernel_rfl) (by kernel_rfl) (by kernel_rfl) (fun _ _ _ h => h) (Or.inl ⟨by rfl, ?hy2⟩) hS0 ?_
      case hy2 => (intro w' hw'; have c5 := keepC hw'.1 lx x5; have d5 := keepC hw'.1 ly y5; go_simp; try with_reducible rfl)
      simp only [List.getElem_toArray, List.getElem_cons_zero, List.getElem_cons_succ, Act.put, List.setIfInBounds_toArray, List.set_cons_zero, List.set_cons_succ]
      refine wpAnyH_take (i := 2) (v := ?v3) rfl (by kernel_rfl) (by kernel_rfl) (by kernel_rfl) (fun _ _ _ h => h) (Or.inl ⟨by rfl, ?hy3⟩) hS0 ?_
      case hy3 => (intro w' hw'; have c5 := keepC hw'.1 lx x5; have d5 := keepC hw'.1 ly y5; go_simp; try with_reducible rfl)
      simp only [List.getElem_toArray, List.getElem_cons_zero, List.getElem_cons_succ, Act.put, List.setIfInBounds_toArray, List.set_cons_zero, List.set_cons_succ]
      refine wpAnyH_take (i := 3) (v := ?v4) rfl (by kernel_rfl) (by kernel_rfl) (by kernel_rfl) (fun _ _ _ h => h) (Or.inl ⟨by rfl, ?hy4⟩) hS0 ?_
      case hy4 => (intro w' hw'; have c5 := keepC hw'.1 lx x5; have d5 := keepC hw'.1 ly y5; go_simp; try with_reducible rfl)
      simp only [List.getElem_toArray, List.getElem_cons_zero, List.getElem_cons_succ, Act.put, List.setIfInBounds_toArray, List.set_cons_zero, List.set_cons_succ]
      refine wpAnyH_take (i := 5) (v := ?v5) rfl (by kernel_rfl) (by kernel_rfl) (by kernel_rfl) (fun _ _ _ h => h) (Or.inl ⟨by rfl, ?hy5⟩) hS0 ?_
      case hy5 => (intro w' hw'; have c4 := keepC hw'.1 lx x4; have d4 := keepC hw'.1 ly y4; go_simp; try with_reducible rfl)
      simp only [List.getElem_toArray, List.getElem_cons_zero, List.getElem_cons_succ, Act.put, List.setIfInBounds_toArray, List.set_cons_zero, List.set_cons_succ]
      refine wpAnyH_take (i := 6) (v := ?v6) rfl (by kernel_rfl) (by kernel_rfl) (by kernel_rfl) (fun _ _ _ h => h) (Or.inl ⟨by rfl, ?hy6⟩) hS0 ?_
      case hy6 => (intro w' hw'; have c4 := keepC hw'.1 lx x4; have d4 := keepC hw'.1 ly y4; go_simp; try with_reducible rfl)
      simp only [List.getElem_toArray, List.getElem_cons_zero, List.getElem_cons_succ, Act.put, List.setIfInBounds_toArray, List.set_cons_zero, List.set_cons_succ]
      refine wpAnyH_take (i := 7) (v := ?v7) rfl (by kernel_rfl) (by kernel_rfl) (by kernel_rfl) (fun _ _ _ h => h) (Or.inl ⟨by rfl, ?hy7⟩) hS0 ?_
      case hy7 => (intro w' hw'; have c4 := keepC hw'.1 lx x4; have d4 := keepC hw'.1 ly y4; go_simp; try with_reducible rfl)
      simp only [List.getElem_toArray, List.getElem_cons_zero, List.getElem_cons_succ, Act.put, List.setIfInBounds_toArray, List.set_cons_zero, List.set_cons_succ]
      refine wpAnyH_take (i := 8) (v := ?v8) rfl (by kernel_rfl) (by kernel_rfl) (by kernel_rfl) (fun _ _ _ h => h) (Or.inl ⟨by rfl, ?hy8⟩) hS0 ?_
      case hy8 => (intro w' hw'; have c4 := keepC hw'.1 lx x4; have d4 := keepC hw'.1 ly y4; go_simp; try with_reducible rfl)
      simp only [List.getElem_toArray, List.getElem_cons_zero, List.getElem_cons_succ, Act.put, List.setIfInBounds_toArray, List.set_cons_zero, List.set_cons_succ]
      refine rgn.one (i := 4) _ rfl (by kernel_rfl) (by rfl) ?_
      simp only [List.getElem_toArray, List.getElem_cons_zero, List.getElem_cons_succ, Act.put, List.setIfInBounds_toArray, List.set_cons_zero, List.set_cons_succ]
      go_wp2_with fail
      refine (str_cmpE ty ty' _).mono ?_
      rintro e w3 ⟨rfl, rfl⟩
      refine ⟨hS0, ?_⟩
      try simp only [List.getElem_toArray, List.getElem_cons_zero, List.getElem_cons_succ, Act.put, List.setIfInBounds_toArray, List.set_cons_zero, List.set_cons_succ]
      refine rgn.one (i := 9) _ rfl (by kernel_rfl) (by rfl) ?_
      simp only [List.getElem_toArray, List.getElem_cons_zero, List.getElem_cons_succ, Act.put, List.setIfInBounds_toArray, List.set_cons_zero, List.set_cons_succ]
      go_wp2_with fail
      refine (str_cmpE tx tx' _).mono ?_
      rintro e w3 ⟨rfl, rfl⟩
      refine ⟨hS0, ?_⟩
      try simp only [List.getElem_toArray, List.getElem_cons_zero, List.getElem_cons_succ, Act.put, List.setIfInBounds_toArray, List.set_cons_zero, List.set_cons_succ]
      refine rgn.one (i := 10) _ rfl (by kernel_rfl) (by rfl) ?_
      simp only [List.getElem_toArray, List.getElem_cons_zero, List.getElem_cons_succ, Act.put, List.setIfInBounds_toArray, List.set_cons_zero, List.set_cons_succ]
      refine wpO_build2 114 _ _ (by rfl) (.int .i64 (cB ty ty')) (.int .i64 (cB tx tx')) _ (by rfl) (by rfl) (build2I _ _ _) ?_
      obtain ⟨Y, eY⟩ : ∃ Y, Y = w2.drew.alloc (.cells #[.int .i64 (cB ty ty'), .int .i64 (cB tx tx')] 3) := ⟨_, rfl⟩
      have p0 : Y.cell? ⟨w2.drew.heap.size, 0, none⟩ = some (.int .i64 (cB ty ty')) := by rw [eY, World.cell?_alloc_at _ _ _ _ rfl]; rfl
      have p1 : Y.cell? ⟨w2.drew.heap.size, 1, none⟩ = some (.int .i64 (cB tx tx')) := by rw [eY, World.cell?_alloc_at _ _ _ _ rfl]; rfl
      have hS0 : Gr w2 Y := by rw [eY]; exact hS0.alloc _
      rw [← eY]
      clear eY
      refine ⟨hS0, ?_⟩
      try simp only [List.getElem_toArray, List.getElem_cons_zero, List.getElem_cons_succ, Act.put, List.setIfInBounds_toArray, List.set_cons_zero, List.set_cons_succ]
      refine rgn.one (i := 11) _ rfl (by kernel_rfl) (by rfl) ?_
      simp only [List.getElem_toArray, List.getElem_cons_zero, List.getElem_cons_succ, Act.put, List.setIfInBounds_toArray, List.set_cons_zero, List.set_cons_succ]
      go_wp2_with fail
      refine (cmpOr_okH _ _ _ _ p0 p1).mono ?_
      rintro e w3 ⟨rfl, rfl⟩
      refine ⟨hS0, ?_⟩
      refine wpAnyH_take (i := 12) (v := ?v9) rfl (by kernel_rfl) (by kernel_rfl) (by kernel_rfl) (fun _ _ _ h => h) (Or.inl ⟨by rfl, ?hy9⟩) hS0 ?_
      case hy9 => (intro w' hw';  go_simp; try with_reducible rfl)
      simp only [List.getElem_toArray, List.getElem_cons_zero, List.getElem_cons_succ, Act.put, List.setIfInBounds_toArray, List.set_cons_zero, List.set_cons_succ]
      refine wpAnyH_done (by kernel_rfl) ?_ _; refine NoPanic.normal ?_
      go_wp2
      go_ret
      exact ⟨by rw [unhide HV]; rfl, GW.trans hS0⟩
  · have HV := hide ((unhide HV).trans (if_neg hc))
    generalize c3 K K' = C at *
    have hc2 : (C != 0) = true := by simpa using hc
    clear hc
    go_wp2
    go_ret
    exact ⟨by rw [unhide HV]; rfl, GW⟩
end Go.Proofs.YtechaplindbfoaaGreatDoor.og
