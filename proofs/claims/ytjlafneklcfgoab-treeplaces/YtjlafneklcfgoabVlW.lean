import Derived.Test.YtjlafneklcfgoabVlFt
namespace Go.Proofs.Ytjlafneklcfgoab.vl
open Go.ChangeShapes Go.WideShapes Go.ChangeAt Go.RowKit
set_option linter.unusedVariables false
set_option linter.unusedSimpArgs false
set_option maxHeartbeats 4000000 in
/-- SameFloat of a float and itself -/
theorem sf_ok (f : Nat) (hf : f < 18446744073709551616) (w : World) : Calls Try.prog 34 #[.float .f64 f, .float .f64 f] w fun e w' => e = .returned (.bool true) ∧ Below w.heap.size w w' := by
  obtain ⟨hs1, hs2⟩ := ordSelf f hf
  cases hN : nanF f with
  | true =>
    rw [hN] at hs1 hs2
    go_enter Try.func34, Try.ntmps34
    go_wp2
    go_ret
    exact ⟨rfl, Below.refl _ _⟩
  | false =>
    rw [hN] at hs1 hs2
    clear hN
    by_cases h0 : f % 9223372036854775808 = 0
    · rcases (by omega : f = 0 ∨ f = 9223372036854775808) with rfl | rfl
      · have hz : (FloatKind.f64.format.order 0 0 == some Ordering.eq) = true := by decide
        have hq : ∀ w, (binOp .quo 23 (.float .f64 4607182418800017408) (.float .f64 0)).run Try.prog w = .ok (.float .f64 9218868437227405312) w := fun w => run_float_arith w _ _ _ _ _ _ (by decide)
        have hi : (FloatKind.f64.format.order 9218868437227405312 9218868437227405312 == some Ordering.eq) = true := by decide
        clear hf h0 hs1 hs2
        have hz' : (FloatKind.f64.format.order 0 0 != some Ordering.eq) = false := by decide
        go_enter Try.func34, Try.ntmps34
        go_wp2
        go_ret
        exact ⟨rfl, Below.refl _ _⟩
      · have hz : (FloatKind.f64.format.order 9223372036854775808 0 == some Ordering.eq) = true := by decide
        have hq : ∀ w, (binOp .quo 23 (.float .f64 4607182418800017408) (.float .f64 9223372036854775808)).run Try.prog w = .ok (.float .f64 18442240474082181120) w := fun w => run_float_arith w _ _ _ _ _ _ (by decide)
        have hi : (FloatKind.f64.format.order 18442240474082181120 18442240474082181120 == some Ordering.eq) = true := by decide
        clear hf h0 hs2
        go_enter Try.func34, Try.ntmps34
        go_wp2
        go_ret
        exact ⟨rfl, Below.refl _ _⟩
    · have hz := ordZero f hf h0
      clear h0 hf
      go_enter Try.func34, Try.ntmps34
      go_wp2
      go_ret
      exact ⟨rfl, Below.refl _ _⟩
set_option maxHeartbeats 6000000 in
set_option maxRecDepth 6000 in
theorem whole_eq : ∀ v : Vl, Small v → ∀ (cs ds : List Value) (w : World), VlC w v cs → VlC w v ds → Calls Try.prog 12 #[.agg cs.toArray, .agg ds.toArray] w fun e w' => e = .returned (.bool true) ∧ Below w.heap.size w w' := by
  refine Vl.all ?_
  intro kd b n f tx ty its fls ihI ihF hsm cs ds w h1 h2
  unfold Small at hsm
  obtain ⟨-, -, hfl, hsI, hsF⟩ := hsm
  unfold VlC at h1 h2
  obtain ⟨ai, ni, ci, af, nf, cf, rfl, hI, hF, hni, hnf, -, -, -, -, -, -, hci, hcf⟩ := h1
  have bI : ni ≤ 9223372036854775807 := by unfold maxLen at hci; omega
  have bF : nf ≤ 9223372036854775807 := by unfold maxLen at hcf; omega
  clear hni hnf hci hcf
  obtain ⟨bi, mi, di, bf, mf, df, rfl, gI, gF, -⟩ := h2
  obtain rfl : ni = mi := (VlsAt.len its _ _ hI).symm.trans (VlsAt.len its _ _ gI)
  obtain rfl : nf = mf := (FlsAt.len fls _ _ hF).symm.trans (FlsAt.len fls _ _ gF)
  have HS := sf_ok f hfl
  clear hfl
  go_enter Try.func12, Try.ntmps12
  go_wp2_with fail
  have b0 : Below w.heap.size w ((w.alloc (.cells #[.int .i64 kd, .bool b, .int .i64 n, .float .f64 f, .string tx, .string ty, .slice ai ni ci, .slice af nf cf] 27)).alloc (.cells #[.int .i64 kd, .bool b, .int .i64 n, .float .f64 f, .string tx, .string ty, .slice bi ni di, .slice bf nf df] 27)) := ((Below.refl _ _).alloc (Nat.le_refl _) _).alloc (by simp) _
  obtain ⟨W, eW⟩ : ∃ W, W = ((w.alloc (.cells #[.int .i64 kd, .bool b, .int .i64 n, .float .f64 f, .string tx, .string ty, .slice ai ni ci, .slice af nf cf] 27)).alloc (.cells #[.int .i64 kd, .bool b, .int .i64 n, .float .f64 f, .string tx, .string ty, .slice bi ni di, .slice bf nf df] 27)) := ⟨_, rfl⟩
  have x6 : W.cell? ⟨w.heap.size, 6, none⟩ = some (.slice ai ni ci) := by rw [eW]; simp
  have x7 : W.cell? ⟨w.heap.size, 7, none⟩ = some (.slice af nf cf) := by rw [eW]; simp
  have y6 : W.cell? ⟨w.heap.size + 1, 6, none⟩ = some (.slice bi ni di) := by rw [eW]; simp
  have y7 : W.cell? ⟨w.heap.size + 1, 7, none⟩ = some (.slice bf nf df) := by rw [eW]; simp
  have hsz : w.heap.size + 1 < W.heap.size := by rw [eW]; simp
  rw [← eW] at b0 ⊢
  clear eW
  have hI := VlsAt.below b0 its _ _ hI
  have gI := VlsAt.below b0 its _ _ gI
  have hF := FlsAt.below b0 fls _ _ hF
  have gF := FlsAt.below b0 fls _ _ gF
  refine (HS _).mono ?_
  clear HS
  rintro e w1 ⟨rfl, b1⟩
  have x6' := (b1.cell (p := ⟨w.heap.size, 6, none⟩) (show w.heap.size < W.heap.size by omega)).trans x6
  have x7' := (b1.cell (p := ⟨w.heap.size, 7, none⟩) (show w.heap.size < W.heap.size by omega)).trans x7
  have y6' := (b1.cell (p := ⟨w.heap.size + 1, 6, none⟩) (show w.heap.size + 1 < W.heap.size by omega)).trans y6
  have y7' := (b1.cell (p := ⟨w.heap.size + 1, 7, none⟩) (show w.heap.size + 1 < W.heap.size by omega)).trans y7
  go_wp2_with fail
  go_loopw [5] (fun vk wr => ∃ k : Nat, k ≤ ni ∧ vk = .int .i64 k ∧ Below W.heap.size W wr) (fun vk _ => ni - (intOf vk).toNat)
  case atStart => exact ⟨0, Nat.zero_le _, rfl, b1⟩
  case round =>
    obtain ⟨k, hk, rfl, hbk⟩ := hrel
    clear x6' x7' y6' y7'
    have x6' := (hbk.cell (p := ⟨w.heap.size, 6, none⟩) (show w.heap.size < W.heap.size by omega)).trans x6
    have x7' := (hbk.cell (p := ⟨w.heap.size, 7, none⟩) (show w.heap.size < W.heap.size by omega)).trans x7
    have y6' := (hbk.cell (p := ⟨w.heap.size + 1, 6, none⟩) (show w.heap.size + 1 < W.heap.size by omega)).trans y6
    have y7' := (hbk.cell (p := ⟨w.heap.size + 1, 7, none⟩) (show w.heap.size + 1 < W.heap.size by omega)).trans y7
    by_cases hlt : k < ni
    · have ki : (k : Int) < (ni : Int) := by omega
      obtain ⟨p, off, v, us, rfl, hv, hr, hc⟩ := VlsAt.get its _ _ (VlsAt.below hbk its _ _ hI) k hlt
      obtain ⟨q, off', v', vs, rfl, hv', hr', hc'⟩ := VlsAt.get its _ _ (VlsAt.below hbk its _ _ gI) k hlt
      obtain rfl : v = v' := Option.some.inj (hv.symm.trans hv')
      have IH := hide (ihI v (List.mem_of_getElem? hv) (hsI.all v (List.mem_of_getElem? hv)) us vs)
      have iu : (Try.prog.info? 27).map (·.size) = some us.length := by rw [hc.cells]; exact infoV
      have iv : (Try.prog.info? 27).map (·.size) = some vs.length := by rw [hc'.cells]; exact infoV
      have hlx : w.heap.size < wr.heap.size := Nat.lt_of_lt_of_le (show w.heap.size < W.heap.size by omega) hbk.size
      have hly : w.heap.size + 1 < wr.heap.size := Nat.lt_of_lt_of_le (show w.heap.size + 1 < W.heap.size by omega) hbk.size
      have HH := hide (And.intro hr (And.intro hr' (And.intro hc (And.intro hc' (And.intro iu iv)))))
      clear hr hr' hc hc' hv hv' iu iv
      go_wp2_with fail
      have hS0 : Below wr.heap.size wr { wr with drawn := wr.drawn + 1 } := (Below.refl _ _).drew
      refine wp_region_noPanic ?_
      refine wp_region_held (S := fun w' => Below wr.heap.size wr w') mixed ?_
      refine wpAnyH_take (i := 0) (v := ?v1) rfl (by kernel_rfl) (by kernel_rfl) (by kernel_rfl) (fun _ _ _ h => h) (Or.inl ⟨by rfl, ?hy1⟩) hS0 ?_
      case hy1 => (intro w' hw'; have c6 := keepC hw' hlx x6'; have d6 := keepC hw' hly y6'; go_simp; try with_reducible rfl)
      simp only [List.getElem_toArray, List.getElem_cons_zero, List.getElem_cons_succ, Act.put, List.setIfInBounds_toArray, List.set_cons_zero, List.set_cons_succ]
      refine wpAnyH_take (i := 1) (v := ?v2) rfl (by kernel_rfl) (by kernel_rfl) (by kernel_rfl) (fun _ _ _ h => h) (Or.inl ⟨by rfl, ?hy2⟩) hS0 ?_
      case hy2 => (intro w' hw'; have c6 := keepC hw' hlx x6'; have d6 := keepC hw' hly y6'; go_simp; try with_reducible rfl)
      simp only [List.getElem_toArray, List.getElem_cons_zero, List.getElem_cons_succ, Act.put, List.setIfInBounds_toArray, List.set_cons_zero, List.set_cons_succ]
      refine wpAnyH_take (i := 2) (v := ?v3) rfl (by kernel_rfl) (by kernel_rfl) (by kernel_rfl) (fun _ _ _ h => h) (Or.inl ⟨by rfl, ?hy3⟩) hS0 ?_
      case hy3 => (intro w' hw'; have c6 := keepC hw' hlx x6'; have d6 := keepC hw' hly y6'; go_simp; try with_reducible rfl)
      simp only [List.getElem_toArray, List.getElem_cons_zero, List.getElem_cons_succ, Act.put, List.setIfInBounds_toArray, List.set_cons_zero, List.set_cons_succ]
      refine wpAnyH_take (i := 3) (v := ?v4) rfl (by kernel_rfl) (by kernel_rfl) (by kernel_rfl) (fun _ _ _ h => h) (Or.inl ⟨by rfl, ?hy4⟩) hS0 ?_
      case hy4 => (intro w' hw'; have c6 := keepC hw' hlx x6'; have d6 := keepC hw' hly y6'; go_simp; try with_reducible rfl)
      simp only [List.getElem_toArray, List.getElem_cons_zero, List.getElem_cons_succ, Act.put, List.setIfInBounds_toArray, List.set_cons_zero, List.set_cons_succ]
      refine wpAnyH_take (i := 4) rfl (by kernel_rfl) (by kernel_rfl) (by kernel_rfl) (fun _ _ _ h => h) (yieldsIf_load_mid (by rfl) 27 _ (by rfl) p (off + k * 8) (by rfl) us _ (fun w' hw' => Row8.below (unhide HH).1 hw') Try.underlying27 (by rfl) (unhide HH).2.2.2.2.1) hS0 ?_
      simp only [List.getElem_toArray, List.getElem_cons_zero, List.getElem_cons_succ, Act.put, List.setIfInBounds_toArray, List.set_cons_zero, List.set_cons_succ]
      refine wpAnyH_take (i := 5) (v := ?v5) rfl (by kernel_rfl) (by kernel_rfl) (by kernel_rfl) (fun _ _ _ h => h) (Or.inl ⟨by rfl, ?hy5⟩) hS0 ?_
      case hy5 => (intro w' hw'; have c6 := keepC hw' hlx x6'; have d6 := keepC hw' hly y6'; go_simp; try with_reducible rfl)
      simp only [List.getElem_toArray, List.getElem_cons_zero, List.getElem_cons_succ, Act.put, List.setIfInBounds_toArray, List.set_cons_zero, List.set_cons_succ]
      refine wpAnyH_take (i := 6) (v := ?v6) rfl (by kernel_rfl) (by kernel_rfl) (by kernel_rfl) (fun _ _ _ h => h) (Or.inl ⟨by rfl, ?hy6⟩) hS0 ?_
      case hy6 => (intro w' hw'; have c6 := keepC hw' hlx x6'; have d6 := keepC hw' hly y6'; go_simp; try with_reducible rfl)
      simp only [List.getElem_toArray, List.getElem_cons_zero, List.getElem_cons_succ, Act.put, List.setIfInBounds_toArray, List.set_cons_zero, List.set_cons_succ]
      refine wpAnyH_take (i := 7) (v := ?v7) rfl (by kernel_rfl) (by kernel_rfl) (by kernel_rfl) (fun _ _ _ h => h) (Or.inl ⟨by rfl, ?hy7⟩) hS0 ?_
      case hy7 => (intro w' hw'; have c6 := keepC hw' hlx x6'; have d6 := keepC hw' hly y6'; go_simp; try with_reducible rfl)
      simp only [List.getElem_toArray, List.getElem_cons_zero, List.getElem_cons_succ, Act.put, List.setIfInBounds_toArray, List.set_cons_zero, List.set_cons_succ]
      refine wpAnyH_take (i := 8) (v := ?v8) rfl (by kernel_rfl) (by kernel_rfl) (by kernel_rfl) (fun _ _ _ h => h) (Or.inl ⟨by rfl, ?hy8⟩) hS0 ?_
      case hy8 => (intro w' hw'; have c6 := keepC hw' hlx x6'; have d6 := keepC hw' hly y6'; go_simp; try with_reducible rfl)
      simp only [List.getElem_toArray, List.getElem_cons_zero, List.getElem_cons_succ, Act.put, List.setIfInBounds_toArray, List.set_cons_zero, List.set_cons_succ]
      refine wpAnyH_take (i := 9) rfl (by kernel_rfl) (by kernel_rfl) (by kernel_rfl) (fun _ _ _ h => h) (yieldsIf_load_mid (by rfl) 27 _ (by rfl) q (off' + k * 8) (by rfl) vs _ (fun w' hw' => Row8.below (unhide HH).2.1 hw') Try.underlying27 (by rfl) (unhide HH).2.2.2.2.2) hS0 ?_
      simp only [List.getElem_toArray, List.getElem_cons_zero, List.getElem_cons_succ, Act.put, List.setIfInBounds_toArray, List.set_cons_zero, List.set_cons_succ]
      refine rgn.one (i := 10) _ rfl (by kernel_rfl) (by rfl) ?_
      simp only [List.getElem_toArray, List.getElem_cons_zero, List.getElem_cons_succ, Act.put, List.setIfInBounds_toArray, List.set_cons_zero, List.set_cons_succ]
      go_wp2_with fail
      refine (unhide IH _ (VlC.below hS0 _ _ (unhide HH).2.2.1) (VlC.below hS0 _ _ (unhide HH).2.2.2.1)).mono ?_
      rintro e w2 ⟨rfl, b2⟩
      have hS0 : Below wr.heap.size wr w2 := hS0.trans b2
      refine ⟨hS0, ?_⟩
      refine wpAnyH_take (i := 11) (v := ?v9) rfl (by kernel_rfl) (by kernel_rfl) (by kernel_rfl) (fun _ _ _ h => h) (Or.inl ⟨by rfl, ?hy9⟩) hS0 ?_
      case hy9 => (intro w' hw';  go_simp; try with_reducible rfl)
      simp only [List.getElem_toArray, List.getElem_cons_zero, List.getElem_cons_succ, Act.put, List.setIfInBounds_toArray, List.set_cons_zero, List.set_cons_succ]
      refine wpAnyH_done (by kernel_rfl) ?_ _; refine NoPanic.normal ?_
      have b3 : Below W.heap.size W w2 := hbk.trans (hS0.mono hbk.size)
      go_wp2
      go_roundw
      case rel => exact ⟨k + 1, by omega, by go_num, b3⟩
      case measure => simp [intOf]; omega
    · have ki : ¬ (k : Int) < (ni : Int) := by omega
      go_wp2_with fail
      go_loopw [6] (fun vk wr => ∃ k : Nat, k ≤ nf ∧ vk = .int .i64 k ∧ Below W.heap.size W wr) (fun vk _ => nf - (intOf vk).toNat)
      case atStart => exact ⟨0, Nat.zero_le _, rfl, hbk⟩
      case round =>
        clear hbk x6' x7' y6' y7' ki hk hlt
        obtain ⟨k, hk, rfl, hbk⟩ := hrel
        have x7' := (hbk.cell (p := ⟨w.heap.size, 7, none⟩) (show w.heap.size < W.heap.size by omega)).trans x7
        have y7' := (hbk.cell (p := ⟨w.heap.size + 1, 7, none⟩) (show w.heap.size + 1 < W.heap.size by omega)).trans y7
        by_cases hlt : k < nf
        · have ki : (k : Int) < (nf : Int) := by omega
          obtain ⟨p, off, nm, v, us, rfl, hv, hn, -, hr, hc⟩ := FlsAt.get fls _ _ (FlsAt.below hbk fls _ _ hF) k hlt
          obtain ⟨q, off', nm', v', vs, rfl, hv', hn', -, hr', hc'⟩ := FlsAt.get fls _ _ (FlsAt.below hbk fls _ _ gF) k hlt
          obtain ⟨rfl, rfl⟩ : nm = nm' ∧ v = v' := by have := Option.some.inj (hv.symm.trans hv'); simpa using this
          have IH := hide (ihF (nm, v) (List.mem_of_getElem? hv) (hsF.all (nm, v) (List.mem_of_getElem? hv)) us vs)
          have iu : (Try.prog.info? 27).map (·.size) = some us.length := by rw [hc.cells]; exact infoV
          have iv : (Try.prog.info? 27).map (·.size) = some vs.length := by rw [hc'.cells]; exact infoV
          have hlx : w.heap.size < wr.heap.size := Nat.lt_of_lt_of_le (show w.heap.size < W.heap.size by omega) hbk.size
          have hly : w.heap.size + 1 < wr.heap.size := Nat.lt_of_lt_of_le (show w.heap.size + 1 < W.heap.size by omega) hbk.size
          have hlp := World.block_lt_of_cell? wr _ hn
          have hlq := World.block_lt_of_cell? wr _ hn'
          have HH := hide (And.intro hr (And.intro hr' (And.intro hc (And.intro hc' (And.intro iu iv)))))
          clear hr hr' hc hc' hv hv' iu iv
          go_wp2_with fail
          have hS0 : Below wr.heap.size wr { wr with drawn := wr.drawn + 1 } := (Below.refl _ _).drew
          refine wp_region_noPanic ?_
          refine wp_region_held (S := fun w' => Below wr.heap.size wr w') mixed ?_
          refine wpAnyH_take (i := 0) (v := ?v10) rfl (by kernel_rfl) (by kernel_rfl) (by kernel_rfl) (fun _ _ _ h => h) (Or.inl ⟨by rfl, ?hy10⟩) hS0 ?_
          case hy10 => (intro w' hw'; have c7 := keepC hw' hlx x7'; have d7 := keepC hw' hly y7'; have cn := keepC hw' hlp hn; have dn := keepC hw' hlq hn'; go_simp; try with_reducible rfl)
          simp only [List.getElem_toArray, List.getElem_cons_zero, List.getElem_cons_succ, Act.put, List.setIfInBounds_toArray, List.set_cons_zero, List.set_cons_succ]
          refine wpAnyH_take (i := 1) (v := ?v11) rfl (by kernel_rfl) (by kernel_rfl) (by kernel_rfl) (fun _ _ _ h => h) (Or.inl ⟨by rfl, ?hy11⟩) hS0 ?_
          case hy11 => (intro w' hw'; have c7 := keepC hw' hlx x7'; have d7 := keepC hw' hly y7'; have cn := keepC hw' hlp hn; have dn := keepC hw' hlq hn'; go_simp; try with_reducible rfl)
          simp only [List.getElem_toArray, List.getElem_cons_zero, List.getElem_cons_succ, Act.put, List.setIfInBounds_toArray, List.set_cons_zero, List.set_cons_succ]
          refine wpAnyH_take (i := 2) (v := ?v12) rfl (by kernel_rfl) (by kernel_rfl) (by kernel_rfl) (fun _ _ _ h => h) (Or.inl ⟨by rfl, ?hy12⟩) hS0 ?_
          case hy12 => (intro w' hw'; have c7 := keepC hw' hlx x7'; have d7 := keepC hw' hly y7'; have cn := keepC hw' hlp hn; have dn := keepC hw' hlq hn'; go_simp; try with_reducible rfl)
          simp only [List.getElem_toArray, List.getElem_cons_zero, List.getElem_cons_succ, Act.put, List.setIfInBounds_toArray, List.set_cons_zero, List.set_cons_succ]
          refine wpAnyH_take (i := 3) (v := ?v13) rfl (by kernel_rfl) (by kernel_rfl) (by kernel_rfl) (fun _ _ _ h => h) (Or.inl ⟨by rfl, ?hy13⟩) hS0 ?_
          case hy13 => (intro w' hw'; have c7 := keepC hw' hlx x7'; have d7 := keepC hw' hly y7'; have cn := keepC hw' hlp hn; have dn := keepC hw' hlq hn'; go_simp; try with_reducible rfl)
          simp only [List.getElem_toArray, List.getElem_cons_zero, List.getElem_cons_succ, Act.put, List.setIfInBounds_toArray, List.set_cons_zero, List.set_cons_succ]
          refine wpAnyH_take (i := 4) (v := ?v14) rfl (by kernel_rfl) (by kernel_rfl) (by kernel_rfl) (fun _ _ _ h => h) (Or.inl ⟨by rfl, ?hy14⟩) hS0 ?_
          case hy14 => (intro w' hw'; have c7 := keepC hw' hlx x7'; have d7 := keepC hw' hly y7'; have cn := keepC hw' hlp hn; have dn := keepC hw' hlq hn'; go_simp; try with_reducible rfl)
          simp only [List.getElem_toArray, List.getElem_cons_zero, List.getElem_cons_succ, Act.put, List.setIfInBounds_toArray, List.set_cons_zero, List.set_cons_succ]
          refine wpAnyH_take (i := 5) (v := ?v15) rfl (by kernel_rfl) (by kernel_rfl) (by kernel_rfl) (fun _ _ _ h => h) (Or.inl ⟨by rfl, ?hy15⟩) hS0 ?_
          case hy15 => (intro w' hw'; have c7 := keepC hw' hlx x7'; have d7 := keepC hw' hly y7'; have cn := keepC hw' hlp hn; have dn := keepC hw' hlq hn'; go_simp; try with_reducible rfl)
          simp only [List.getElem_toArray, List.getElem_cons_zero, List.getElem_cons_succ, Act.put, List.setIfInBounds_toArray, List.set_cons_zero, List.set_cons_succ]
          refine wpAnyH_take (i := 6) (v := ?v16) rfl (by kernel_rfl) (by kernel_rfl) (by kernel_rfl) (fun _ _ _ h => h) (Or.inl ⟨by rfl, ?hy16⟩) hS0 ?_
          case hy16 => (intro w' hw'; have c7 := keepC hw' hlx x7'; have d7 := keepC hw' hly y7'; have cn := keepC hw' hlp hn; have dn := keepC hw' hlq hn'; go_simp; try with_reducible rfl)
          simp only [List.getElem_toArray, List.getElem_cons_zero, List.getElem_cons_succ, Act.put, List.setIfInBounds_toArray, List.set_cons_zero, List.set_cons_succ]
          refine wpAnyH_take (i := 7) (v := ?v17) rfl (by kernel_rfl) (by kernel_rfl) (by kernel_rfl) (fun _ _ _ h => h) (Or.inl ⟨by rfl, ?hy17⟩) hS0 ?_
          case hy17 => (intro w' hw'; have c7 := keepC hw' hlx x7'; have d7 := keepC hw' hly y7'; have cn := keepC hw' hlp hn; have dn := keepC hw' hlq hn'; go_simp; try with_reducible rfl)
          simp only [List.getElem_toArray, List.getElem_cons_zero, List.getElem_cons_succ, Act.put, List.setIfInBounds_toArray, List.set_cons_zero, List.set_cons_succ]
          refine wpAnyH_take (i := 8) (v := ?v18) rfl (by kernel_rfl) (by kernel_rfl) (by kernel_rfl) (fun _ _ _ h => h) (Or.inl ⟨by rfl, ?hy18⟩) hS0 ?_
          case hy18 => (intro w' hw'; have c7 := keepC hw' hlx x7'; have d7 := keepC hw' hly y7'; have cn := keepC hw' hlp hn; have dn := keepC hw' hlq hn'; go_simp; try with_reducible rfl)
          simp only [List.getElem_toArray, List.getElem_cons_zero, List.getElem_cons_succ, Act.put, List.setIfInBounds_toArray, List.set_cons_zero, List.set_cons_succ]
          refine wpAnyH_take (i := 9) (v := ?v19) rfl (by kernel_rfl) (by kernel_rfl) (by kernel_rfl) (fun _ _ _ h => h) (Or.inl ⟨by rfl, ?hy19⟩) hS0 ?_
          case hy19 => (intro w' hw'; have c7 := keepC hw' hlx x7'; have d7 := keepC hw' hly y7'; have cn := keepC hw' hlp hn; have dn := keepC hw' hlq hn'; go_simp; try with_reducible rfl)
          simp only [List.getElem_toArray, List.getElem_cons_zero, List.getElem_cons_succ, Act.put, List.setIfInBounds_toArray, List.set_cons_zero, List.set_cons_succ]
          refine wpAnyH_take (i := 10) (v := ?v20) rfl (by kernel_rfl) (by kernel_rfl) (by kernel_rfl) (fun _ _ _ h => h) (Or.inl ⟨by rfl, ?hy20⟩) hS0 ?_
          case hy20 => (intro w' hw'; have c7 := keepC hw' hlx x7'; have d7 := keepC hw' hly y7'; have cn := keepC hw' hlp hn; have dn := keepC hw' hlq hn'; go_simp; try with_reducible rfl)
          simp only [List.getElem_toArray, List.getElem_cons_zero, List.getElem_cons_succ, Act.put, List.setIfInBounds_toArray, List.set_cons_zero, List.set_cons_succ]
          refine wpAnyH_take (i := 11) (v := ?v21) rfl (by kernel_rfl) (by kernel_rfl) (by kernel_rfl) (fun _ _ _ h => h) (Or.inl ⟨by rfl, ?hy21⟩) hS0 ?_
          case hy21 => (intro w' hw'; have c7 := keepC hw' hlx x7'; have d7 := keepC hw' hly y7'; have cn := keepC hw' hlp hn; have dn := keepC hw' hlq hn'; go_simp; try with_reducible rfl)
          simp only [List.getElem_toArray, List.getElem_cons_zero, List.getElem_cons_succ, Act.put, List.setIfInBounds_toArray, List.set_cons_zero, List.set_cons_succ]
          refine wpAnyH_take (i := 12) (v := ?v22) rfl (by kernel_rfl) (by kernel_rfl) (by kernel_rfl) (fun _ _ _ h => h) (Or.inl ⟨by rfl, ?hy22⟩) hS0 ?_
          case hy22 => (intro w' hw'; have c7 := keepC hw' hlx x7'; have d7 := keepC hw' hly y7'; have cn := keepC hw' hlp hn; have dn := keepC hw' hlq hn'; go_simp; try with_reducible rfl)
          simp only [List.getElem_toArray, List.getElem_cons_zero, List.getElem_cons_succ, Act.put, List.setIfInBounds_toArray, List.set_cons_zero, List.set_cons_succ]
          refine wpAnyH_take (i := 13) (v := ?v23) rfl (by kernel_rfl) (by kernel_rfl) (by kernel_rfl) (fun _ _ _ h => h) (Or.inl ⟨by rfl, ?hy23⟩) hS0 ?_
          case hy23 => (intro w' hw'; have c7 := keepC hw' hlx x7'; have d7 := keepC hw' hly y7'; have cn := keepC hw' hlp hn; have dn := keepC hw' hlq hn'; go_simp; try with_reducible rfl)
          simp only [List.getElem_toArray, List.getElem_cons_zero, List.getElem_cons_succ, Act.put, List.setIfInBounds_toArray, List.set_cons_zero, List.set_cons_succ]
          refine wpAnyH_take (i := 14) (v := ?v24) rfl (by kernel_rfl) (by kernel_rfl) (by kernel_rfl) (fun _ _ _ h => h) (Or.inl ⟨by rfl, ?hy24⟩) hS0 ?_
          case hy24 => (intro w' hw'; have c7 := keepC hw' hlx x7'; have d7 := keepC hw' hly y7'; have cn := keepC hw' hlp hn; have dn := keepC hw' hlq hn'; go_simp; try with_reducible rfl)
          simp only [List.getElem_toArray, List.getElem_cons_zero, List.getElem_cons_succ, Act.put, List.setIfInBounds_toArray, List.set_cons_zero, List.set_cons_succ]
          refine wpAnyH_take (i := 15) (v := ?v25) rfl (by kernel_rfl) (by kernel_rfl) (by kernel_rfl) (fun _ _ _ h => h) (Or.inl ⟨by rfl, ?hy25⟩) hS0 ?_
          case hy25 => (intro w' hw'; have c7 := keepC hw' hlx x7'; have d7 := keepC hw' hly y7'; have cn := keepC hw' hlp hn; have dn := keepC hw' hlq hn'; go_simp; try with_reducible rfl)
          simp only [List.getElem_toArray, List.getElem_cons_zero, List.getElem_cons_succ, Act.put, List.setIfInBounds_toArray, List.set_cons_zero, List.set_cons_succ]
          refine wpAnyH_take (i := 16) (v := ?v26) rfl (by kernel_rfl) (by kernel_rfl) (by kernel_rfl) (fun _ _ _ h => h) (Or.inl ⟨by rfl, ?hy26⟩) hS0 ?_
          case hy26 => (intro w' hw'; have c7 := keepC hw' hlx x7'; have d7 := keepC hw' hly y7'; have cn := keepC hw' hlp hn; have dn := keepC hw' hlq hn'; go_simp; try with_reducible rfl)
          simp only [List.getElem_toArray, List.getElem_cons_zero, List.getElem_cons_succ, Act.put, List.setIfInBounds_toArray, List.set_cons_zero, List.set_cons_succ]
          refine wpAnyH_take (i := 17) (v := ?v27) rfl (by kernel_rfl) (by kernel_rfl) (by kernel_rfl) (fun _ _ _ h => h) (Or.inl ⟨by rfl, ?hy27⟩) hS0 ?_
          case hy27 => (intro w' hw'; have c7 := keepC hw' hlx x7'; have d7 := keepC hw' hly y7'; have cn := keepC hw' hlp hn; have dn := keepC hw' hlq hn'; go_simp; try with_reducible rfl)
          simp only [List.getElem_toArray, List.getElem_cons_zero, List.getElem_cons_succ, Act.put, List.setIfInBounds_toArray, List.set_cons_zero, List.set_cons_succ]
          refine wpAnyH_take (i := 18) (v := ?v28) rfl (by kernel_rfl) (by kernel_rfl) (by kernel_rfl) (fun _ _ _ h => h) (Or.inl ⟨by rfl, ?hy28⟩) hS0 ?_
          case hy28 => (intro w' hw'; have c7 := keepC hw' hlx x7'; have d7 := keepC hw' hly y7'; have cn := keepC hw' hlp hn; have dn := keepC hw' hlq hn'; go_simp; try with_reducible rfl)
          simp only [List.getElem_toArray, List.getElem_cons_zero, List.getElem_cons_succ, Act.put, List.setIfInBounds_toArray, List.set_cons_zero, List.set_cons_succ]
          refine wpAnyH_take (i := 19) rfl (by kernel_rfl) (by kernel_rfl) (by kernel_rfl) (fun _ _ _ h => h) (yieldsIf_load_mid (by rfl) 27 _ (by rfl) p (off + k * 9 + 1) (by rfl) us _ (fun w' hw' => Row8.below (unhide HH).1 hw') Try.underlying27 (by rfl) (unhide HH).2.2.2.2.1) hS0 ?_
          simp only [List.getElem_toArray, List.getElem_cons_zero, List.getElem_cons_succ, Act.put, List.setIfInBounds_toArray, List.set_cons_zero, List.set_cons_succ]
          refine wpAnyH_take (i := 20) (v := ?v29) rfl (by kernel_rfl) (by kernel_rfl) (by kernel_rfl) (fun _ _ _ h => h) (Or.inl ⟨by rfl, ?hy29⟩) hS0 ?_
          case hy29 => (intro w' hw'; have c7 := keepC hw' hlx x7'; have d7 := keepC hw' hly y7'; have cn := keepC hw' hlp hn; have dn := keepC hw' hlq hn'; go_simp; try with_reducible rfl)
          simp only [List.getElem_toArray, List.getElem_cons_zero, List.getElem_cons_succ, Act.put, List.setIfInBounds_toArray, List.set_cons_zero, List.set_cons_succ]
          refine wpAnyH_take (i := 21) (v := ?v30) rfl (by kernel_rfl) (by kernel_rfl) (by kernel_rfl) (fun _ _ _ h => h) (Or.inl ⟨by rfl, ?hy30⟩) hS0 ?_
          case hy30 => (intro w' hw'; have c7 := keepC hw' hlx x7'; have d7 := keepC hw' hly y7'; have cn := keepC hw' hlp hn; have dn := keepC hw' hlq hn'; go_simp; try with_reducible rfl)
          simp only [List.getElem_toArray, List.getElem_cons_zero, List.getElem_cons_succ, Act.put, List.setIfInBounds_toArray, List.set_cons_zero, List.set_cons_succ]
          refine wpAnyH_take (i := 22) (v := ?v31) rfl (by kernel_rfl) (by kernel_rfl) (by kernel_rfl) (fun _ _ _ h => h) (Or.inl ⟨by rfl, ?hy31⟩) hS0 ?_
          case hy31 => (intro w' hw'; have c7 := keepC hw' hlx x7'; have d7 := keepC hw' hly y7'; have cn := keepC hw' hlp hn; have dn := keepC hw' hlq hn'; go_simp; try with_reducible rfl)
          simp only [List.getElem_toArray, List.getElem_cons_zero, List.getElem_cons_succ, Act.put, List.setIfInBounds_toArray, List.set_cons_zero, List.set_cons_succ]
          refine wpAnyH_take (i := 23) (v := ?v32) rfl (by kernel_rfl) (by kernel_rfl) (by kernel_rfl) (fun _ _ _ h => h) (Or.inl ⟨by rfl, ?hy32⟩) hS0 ?_
          case hy32 => (intro w' hw'; have c7 := keepC hw' hlx x7'; have d7 := keepC hw' hly y7'; have cn := keepC hw' hlp hn; have dn := keepC hw' hlq hn'; go_simp; try with_reducible rfl)
          simp only [List.getElem_toArray, List.getElem_cons_zero, List.getElem_cons_succ, Act.put, List.setIfInBounds_toArray, List.set_cons_zero, List.set_cons_succ]
          refine wpAnyH_take (i := 24) (v := ?v33) rfl (by kernel_rfl) (by kernel_rfl) (by kernel_rfl) (fun _ _ _ h => h) (Or.inl ⟨by rfl, ?hy33⟩) hS0 ?_
          case hy33 => (intro w' hw'; have c7 := keepC hw' hlx x7'; have d7 := keepC hw' hly y7'; have cn := keepC hw' hlp hn; have dn := keepC hw' hlq hn'; go_simp; try with_reducible rfl)
          simp only [List.getElem_toArray, List.getElem_cons_zero, List.getElem_cons_succ, Act.put, List.setIfInBounds_toArray, List.set_cons_zero, List.set_cons_succ]
          refine wpAnyH_take (i := 25) rfl (by kernel_rfl) (by kernel_rfl) (by kernel_rfl) (fun _ _ _ h => h) (yieldsIf_load_mid (by rfl) 27 _ (by rfl) q (off' + k * 9 + 1) (by rfl) vs _ (fun w' hw' => Row8.below (unhide HH).2.1 hw') Try.underlying27 (by rfl) (unhide HH).2.2.2.2.2) hS0 ?_
          simp only [List.getElem_toArray, List.getElem_cons_zero, List.getElem_cons_succ, Act.put, List.setIfInBounds_toArray, List.set_cons_zero, List.set_cons_succ]
          refine rgn.one (i := 26) _ rfl (by kernel_rfl) (by rfl) ?_
          simp only [List.getElem_toArray, List.getElem_cons_zero, List.getElem_cons_succ, Act.put, List.setIfInBounds_toArray, List.set_cons_zero, List.set_cons_succ]
          go_wp2_with fail
          refine (unhide IH _ (VlC.below hS0 _ _ (unhide HH).2.2.1) (VlC.below hS0 _ _ (unhide HH).2.2.2.1)).mono ?_
          rintro e w2 ⟨rfl, b2⟩
          have hS0 : Below wr.heap.size wr w2 := hS0.trans b2
          refine ⟨hS0, ?_⟩
          refine wpAnyH_take (i := 27) (v := ?v34) rfl (by kernel_rfl) (by kernel_rfl) (by kernel_rfl) (fun _ _ _ h => h) (Or.inl ⟨by rfl, ?hy34⟩) hS0 ?_
          case hy34 => (intro w' hw';  go_simp; try with_reducible rfl)
          simp only [List.getElem_toArray, List.getElem_cons_zero, List.getElem_cons_succ, Act.put, List.setIfInBounds_toArray, List.set_cons_zero, List.set_cons_succ]
          refine wpAnyH_take (i := 28) (v := ?v35) rfl (by kernel_rfl) (by kernel_rfl) (by kernel_rfl) (fun _ _ _ h => h) (Or.inl ⟨by rfl, ?hy35⟩) hS0 ?_
          case hy35 => (intro w' hw';  go_simp; try with_reducible rfl)
          simp only [List.getElem_toArray, List.getElem_cons_zero, List.getElem_cons_succ, Act.put, List.setIfInBounds_toArray, List.set_cons_zero, List.set_cons_succ]
          refine wpAnyH_done (by kernel_rfl) ?_ _; refine NoPanic.normal ?_
          have b3 : Below W.heap.size W w2 := hbk.trans (hS0.mono hbk.size)
          go_wp2
          go_roundw
          case rel => exact ⟨k + 1, by omega, by go_num, b3⟩
          case measure => simp [intOf]; omega
        · have ki : ¬ (k : Int) < (nf : Int) := by omega
          go_wp2
          go_ret
          exact ⟨rfl, b0.trans (hbk.mono b0.size)⟩
end Go.Proofs.Ytjlafneklcfgoab.vl
