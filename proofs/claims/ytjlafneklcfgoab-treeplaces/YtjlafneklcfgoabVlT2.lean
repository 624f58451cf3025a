import Derived.Test.YtjlafneklcfgoabVlT1
namespace Go.Proofs.Ytjlafneklcfgoab.vl
open Go.ChangeShapes Go.WideShapes Go.ChangeAt Go.RowKit
open stp (St Pth St3)
set_option linter.unusedVariables false
set_option linter.unusedSimpArgs false
set_option maxHeartbeats 6000000 in
set_option maxRecDepth 6000 in
theorem two_ok (w : World) : Calls Try.prog 10 #[] w fun e w' => Below w.heap.size w w' ∧ ∃ b, e = .returned (.agg (twoC b).toArray) ∧ VlC w' twoV (twoC b) := by
  have hsf := storeF
  obtain ⟨W, eW⟩ : ∃ W, W = (((w.alloc (.cells #[.int .i64 0, .bool false, .int .i64 0, .float .f64 0, .string { data := #[] }, .string { data := #[] }, .slice none 0 0, .slice none 0 0] 27)).alloc (.cells #[.string { data := #[98] }, .int .i64 0, .bool false, .int .i64 0, .float .f64 0, .string { data := #[] }, .string { data := #[] }, .slice none 0 0, .slice none 0 0] 68)).alloc (.cells #[.int .i64 6, .bool false, .int .i64 0, .float .f64 0, .string { data := #[] }, .string { data := #[] }, .slice none 0 0, .slice (some ⟨w.heap.size + 1, 0, none⟩) 1 1] 27)) := ⟨_, rfl⟩
  have bW : Below w.heap.size w W := by rw [eW]; exact (((Below.refl _ _).alloc (Nat.le_refl _) _).alloc (by simp) _).alloc (by simp; omega) _
  have hsz : w.heap.size + 3 ≤ W.heap.size := by rw [eW]; simp
  have hth : W.there w.heap.size 0 8 := by rw [eW]; exact World.there_alloc (World.there_alloc (there_new rfl) _) _
  have hmem : W.rangeAt (w.heap.size + 1) 0 (Value.string { data := #[98] } :: z8) := fun j u hu => by
    rw [Nat.zero_add, eW, World.cell?_alloc_past _ _ _ (by simp), World.cell?_alloc_at _ _ _ _ (by simp)]; simpa [z8] using hu
  have hinn : W.rangeAt (w.heap.size + 1 + 1) 0 (innerC (w.heap.size + 1)) := fun j u hu => by
    rw [Nat.zero_add, eW, World.cell?_alloc_at _ _ _ _ (by simp)]; simpa [innerC] using hu
  have vin := innerV_at hmem
  have EW := hide eW
  clear eW
  go_enter Try.func10, Try.ntmps10
  go_wp2_with fail
  rw [← unhide EW]
  clear EW hsf
  have hS0 : Below W.heap.size W { W with drawn := W.drawn + 1 } := (Below.refl _ _).drew
  refine wp_region_noPanic ?_
  refine wp_region_held (S := fun w' => Below W.heap.size W w') mixed ?_
  refine wpAnyH_take (i := 1) rfl (by kernel_rfl) (by kernel_rfl) (by kernel_rfl) (fun _ _ _ h => h) (yieldsIf_load_mid (by rfl) 27 _ (by rfl) (w.heap.size + 1 + 1) 0 (by rfl) (innerC (w.heap.size + 1)) _ (fun w' hw' => Row8.below hinn hw') Try.underlying27 (by rfl) (by simp [innerC, infoV])) hS0 ?_
  simp only [List.getElem_toArray, List.getElem_cons_zero, List.getElem_cons_succ, Act.put, List.setIfInBounds_toArray, List.set_cons_zero, List.set_cons_succ]
  refine rgn.two (i := 0) (j := 4) _ _ rfl rfl (by kernel_rfl) (by rfl) (by rfl) ?_ ?_
  · simp only [List.getElem_toArray, List.getElem_cons_zero, List.getElem_cons_succ, Act.put, List.setIfInBounds_toArray, List.set_cons_zero, List.set_cons_succ]
    go_wp2_with fail
    refine (num_ok 1 _).mono ?_
    rintro e w1 ⟨bw1, rfl⟩
    have hS0 : Below W.heap.size W w1 := hS0.trans bw1
    have hSW1 := hS0
    refine ⟨hS0, ?_⟩
    refine rgn.two (i := 2) (j := 4) _ _ rfl rfl (by kernel_rfl) (by rfl) (by rfl) ?_ ?_
    · simp only [List.getElem_toArray, List.getElem_cons_zero, List.getElem_cons_succ, Act.put, List.setIfInBounds_toArray, List.set_cons_zero, List.set_cons_succ]
      refine wpO_build2 24 _ _ (by rfl) (.agg (numC 1).toArray) (.agg (innerC (w.heap.size + 1)).toArray) _ (by rfl) (by rfl) (build2V (numV 1 rfl W) vin _) ?_
      obtain ⟨X1, eX1⟩ : ∃ X1, X1 = w1.alloc (.cells (numC 1 ++ innerC (w.heap.size + 1)).toArray 27) := ⟨_, rfl⟩
      have rowX1 : X1.rangeAt w1.heap.size 0 (numC 1 ++ innerC (w.heap.size + 1)) := by rw [eX1]; intro j u hu; rw [Nat.zero_add, World.cell?_alloc_at _ _ _ _ rfl]; simpa using hu
      have sX1 : w1.heap.size + 1 ≤ X1.heap.size := by rw [eX1]; simp
      have bX1 : Below w1.heap.size w1 X1 := by rw [eX1]; exact (Below.refl _ _).alloc (Nat.le_refl _) _
      rw [← eX1]
      clear eX1
      have hS0 : Below W.heap.size W X1 := hS0.trans (bX1.mono hS0.size)
      refine ⟨hS0, ?_⟩
      simp only [List.getElem_toArray, List.getElem_cons_zero, List.getElem_cons_succ, Act.put, List.setIfInBounds_toArray, List.set_cons_zero, List.set_cons_succ]
      refine rgn.take (i := 3) _ (.agg (listC w1.heap.size).toArray) rfl (by kernel_rfl) (by kernel_rfl) (by kernel_rfl) (fun _ _ _ h => h) (by rfl) hS0 (fun w' hw' => by simp only [listC]; go_simp) ?_
      simp only [List.getElem_toArray, List.getElem_cons_zero, List.getElem_cons_succ, Act.put, List.setIfInBounds_toArray, List.set_cons_zero, List.set_cons_succ]
      refine rgn.one (i := 4) _ rfl (by kernel_rfl) (by rfl) ?_
      simp only [List.getElem_toArray, List.getElem_cons_zero, List.getElem_cons_succ, Act.put, List.setIfInBounds_toArray, List.set_cons_zero, List.set_cons_succ]
      refine wpO_alloc 27 (by rfl) _ (allocV _) ?_
      obtain ⟨X2, eX2⟩ : ∃ X2, X2 = X1.alloc (.cells #[.int .i64 0, .bool false, .int .i64 0, .float .f64 0, .string { data := #[] }, .string { data := #[] }, .slice none 0 0, .slice none 0 0] 27) := ⟨_, rfl⟩
      have thX2 : X2.there X1.heap.size 0 8 := by rw [eX2]; exact there_new rfl
      have sX2 : X1.heap.size + 1 ≤ X2.heap.size := by rw [eX2]; simp
      have bX2 : Below X1.heap.size X1 X2 := by rw [eX2]; exact (Below.refl _ _).alloc (Nat.le_refl _) _
      rw [← eX2]
      clear eX2
      have hS0 : Below W.heap.size W X2 := hS0.trans (bX2.mono hS0.size)
      refine ⟨hS0, ?_⟩
      simp only [List.getElem_toArray, List.getElem_cons_zero, List.getElem_cons_succ, Act.put, List.setIfInBounds_toArray, List.set_cons_zero, List.set_cons_succ]
      have thL : X2.there X1.heap.size 0 (listC w1.heap.size).toArray.size := thX2
      have rowS := Row8.below rowX1 bX2
      have hne : w1.heap.size ≠ X1.heap.size := by omega
      have hLs : X1.heap.size < X2.heap.size := by omega
      have hLlo : W.heap.size ≤ X1.heap.size := by have := bw1.size; have h0 := bX1.size; have h1 := hSW1.size; omega
      refine rgn.one (i := 5) _ rfl (by kernel_rfl) (by rfl) ?_
      simp only [List.getElem_toArray, List.getElem_cons_zero, List.getElem_cons_succ, Act.put, List.setIfInBounds_toArray, List.set_cons_zero, List.set_cons_succ]
      refine wp_store_mid 27 _ _ (by rfl) X1.heap.size 0 (listC w1.heap.size).toArray (by rfl) (by rfl) thL (by simp [listC, infoV]) (by simp [listC, Value.oneCell']) ?_
      obtain ⟨L, eL⟩ : ∃ L, L = X2.setCells X1.heap.size 0 (listC w1.heap.size) := ⟨_, rfl⟩
      have t1 : Below W.heap.size W L := by rw [eL]; exact below_setCells _ _ _ _ hS0 hLlo
      have t2 : L.rangeAt X1.heap.size 0 (listC w1.heap.size) := by rw [eL]; exact World.rangeAt_setCells_same _ _ _ _ thL
      have t3 : L.rangeAt w1.heap.size 0 (numC 1 ++ innerC (w.heap.size + 1)) := by
        rw [eL]
        intro j u hu
        rw [World.cell?_setCells_out _ _ _ _ _ (fun e _ => absurd (show w1.heap.size = X1.heap.size from e) hne)]
        exact rowS j u hu
      have t4 : X1.heap.size < L.heap.size := by rw [eL, size_setCells]; exact hLs
      rw [show X2.setCells X1.heap.size 0 (listC w1.heap.size).toArray.toList = L from eL.symm]
      refine ⟨t1, ?_⟩
      refine wpAnyH_done (by kernel_rfl) ?_ _
      refine NoPanic.normal ?_
      simp only [List.getElem_toArray, List.getElem_cons_zero, List.getElem_cons_succ, Act.put, List.setIfInBounds_toArray, List.set_cons_zero, List.set_cons_succ]
      have hSlo : w.heap.size < w1.heap.size := by have := hSW1.size; omega
      have hShi : w1.heap.size < L.heap.size := by omega
      have hLB : w.heap.size < X1.heap.size := by omega
      generalize w1.heap.size = SBB at *
      generalize X1.heap.size = LBB at *
      clear eL
      have vl3 := listV_at t3 (VlC.below t1 _ _ vin)
      clear hS0 thL rowS hne hLs hLlo
      go_wp2_with fail
      have hS0 : ({ L with drawn := L.drawn + 1 } : World).rangeAt LBB 0 (listC SBB) := t2
      refine wp_region_noPanic ?_
      refine wp_region_held (S := fun w' => w'.rangeAt LBB 0 (listC SBB)) mixed ?_
      refine wpAnyH_take (i := 0) rfl (by kernel_rfl) (by kernel_rfl) (by kernel_rfl) (fun _ _ _ h => h) (yieldsIf_load_mid (by rfl) 27 _ (by rfl) LBB 0 (by rfl) (listC SBB) _ (fun w' hw' => hw') Try.underlying27 (by rfl) (by simp [listC, infoV])) hS0 ?_
      simp only [List.getElem_toArray, List.getElem_cons_zero, List.getElem_cons_succ, Act.put, List.setIfInBounds_toArray, List.set_cons_zero, List.set_cons_succ]
      refine rgn.take (i := 1) _ (.agg (Value.string { data := #[97] } :: listC SBB).toArray) rfl (by kernel_rfl) (by kernel_rfl) (by kernel_rfl) (fun _ _ _ h => h) (by rfl) hS0 (fun w' hw' => by clear hw'; simp only [listC]; go_simp) ?_
      simp only [List.getElem_toArray, List.getElem_cons_zero, List.getElem_cons_succ, Act.put, List.setIfInBounds_toArray, List.set_cons_zero, List.set_cons_succ]
      refine rgn.one (i := 2) _ rfl (by kernel_rfl) (by rfl) ?_
      simp only [List.getElem_toArray, List.getElem_cons_zero, List.getElem_cons_succ, Act.put, List.setIfInBounds_toArray, List.set_cons_zero, List.set_cons_succ]
      go_wp2_with fail
      refine (text_ok { data := #[120] } _).mono ?_
      rintro e w5 ⟨b5, rfl⟩
      have c5 : Below L.heap.size L w5 := (Below.refl _ _).drew.trans b5
      have hS0 : w5.rangeAt LBB 0 (listC SBB) := Row8.below t2 c5
      refine ⟨hS0, ?_⟩
      refine rgn.take (i := 3) _ (.agg (Value.string { data := #[99] } :: txtC { data := #[120] }).toArray) rfl (by kernel_rfl) (by kernel_rfl) (by kernel_rfl) (fun _ _ _ h => h) (by rfl) hS0 (fun w' hw' => by clear hw'; simp only [txtC]; go_simp) ?_
      simp only [List.getElem_toArray, List.getElem_cons_zero, List.getElem_cons_succ, Act.put, List.setIfInBounds_toArray, List.set_cons_zero, List.set_cons_succ]
      refine rgn.one (i := 4) _ rfl (by kernel_rfl) (by rfl) ?_
      simp only [List.getElem_toArray, List.getElem_cons_zero, List.getElem_cons_succ, Act.put, List.setIfInBounds_toArray, List.set_cons_zero, List.set_cons_succ]
      refine wpO_build2 25 _ _ (by rfl) (.agg (Value.string { data := #[97] } :: listC SBB).toArray) (.agg (Value.string { data := #[99] } :: txtC { data := #[120] }).toArray) _ (by rfl) (by rfl) (build2M { data := #[97] } { data := #[99] } vl3 (txtV { data := #[120] } (by decide) L) _) ?_
      obtain ⟨Y, eY⟩ : ∃ Y, Y = w5.alloc (.cells ((Value.string { data := #[97] } :: listC SBB) ++ (Value.string { data := #[99] } :: txtC { data := #[120] })).toArray 68) := ⟨_, rfl⟩
      have rowY : Y.rangeAt w5.heap.size 0 ((Value.string { data := #[97] } :: listC SBB) ++ (Value.string { data := #[99] } :: txtC { data := #[120] })) := by rw [eY]; intro j u hu; rw [Nat.zero_add, World.cell?_alloc_at _ _ _ _ rfl]; simpa using hu
      have bY : Below w5.heap.size w5 Y := by rw [eY]; exact (Below.refl _ _).alloc (Nat.le_refl _) _
      have sY : w5.heap.size + 1 ≤ Y.heap.size := by rw [eY]; simp
      rw [← eY]
      clear eY
      have hS0 : Y.rangeAt LBB 0 (listC SBB) := Row8.below hS0 bY
      refine ⟨hS0, ?_⟩
      simp only [List.getElem_toArray, List.getElem_cons_zero, List.getElem_cons_succ, Act.put, List.setIfInBounds_toArray, List.set_cons_zero, List.set_cons_succ]
      refine rgn.take (i := 5) _ (.agg (twoC w5.heap.size).toArray) rfl (by kernel_rfl) (by kernel_rfl) (by kernel_rfl) (fun _ _ _ h => h) (by rfl) hS0 (fun w' hw' => by clear hw'; simp only [twoC]; go_simp) ?_
      simp only [List.getElem_toArray, List.getElem_cons_zero, List.getElem_cons_succ, Act.put, List.setIfInBounds_toArray, List.set_cons_zero, List.set_cons_succ]
      refine rgn.one (i := 6) _ rfl (by kernel_rfl) (by rfl) ?_
      simp only [List.getElem_toArray, List.getElem_cons_zero, List.getElem_cons_succ, Act.put, List.setIfInBounds_toArray, List.set_cons_zero, List.set_cons_succ]
      have sW := t1.size
      have s5 := c5.size
      have thR : Y.there w.heap.size 0 (twoC w5.heap.size).toArray.size := there_below (there_below (there_below hth t1 (by omega)) c5 (by omega)) bY (by omega)
      have i9 : (Try.prog.info? 27).map (·.size) = some (twoC w5.heap.size).toArray.size := by simp [twoC, infoV]
      refine wp_store_mid 27 _ _ (by rfl) w.heap.size 0 (twoC w5.heap.size).toArray (by rfl) (by rfl) thR i9 (by simp [twoC, Value.oneCell']) ?_
      obtain ⟨R, eR⟩ : ∃ R, R = Y.setCells w.heap.size 0 (twoC w5.heap.size) := ⟨_, rfl⟩
      have rowR : R.rangeAt w.heap.size 0 (twoC w5.heap.size) := by rw [eR]; exact World.rangeAt_setCells_same _ _ _ _ thR
      have bR : Below w.heap.size w R := by rw [eR]; exact below_setCells _ _ _ _ (((bW.trans (t1.mono bW.size)).trans (c5.mono (by omega))).trans (bY.mono (by omega))) (Nat.le_refl _)
      have ouR : ∀ b j, w.heap.size < b → R.cell? ⟨b, j, none⟩ = Y.cell? ⟨b, j, none⟩ := fun b j hb => by rw [eR]; exact World.cell?_setCells_out _ _ _ _ _ (fun e _ => by have e : b = w.heap.size := e; omega)
      have agW : ∀ b j, w.heap.size < b → b < L.heap.size → R.cell? ⟨b, j, none⟩ = L.cell? ⟨b, j, none⟩ := fun b j h1 h2 => (ouR b j h1).trans ((bY.cell (p := ⟨b, j, none⟩) (show b < w5.heap.size by omega)).trans (c5.cell (p := ⟨b, j, none⟩) h2))
      have vin' : VlC R innerV (innerC (w.heap.size + 1)) := innerV_at (fun j u hu => (agW _ _ (by omega) (by omega)).trans ((t1.cell (p := ⟨w.heap.size + 1, 0 + j, none⟩) (show w.heap.size + 1 < W.heap.size by omega)).trans (hmem j u hu)))
      have vl' : VlC R listV (listC SBB) := listV_at (fun j u hu => (agW _ _ hSlo hShi).trans (t3 j u hu)) vin'
      have vt' : VlC R twoV (twoC w5.heap.size) := twoV_at (fun j u hu => (ouR _ _ (by omega)).trans (rowY j u hu)) vl'
      rw [show Y.setCells w.heap.size 0 (twoC w5.heap.size).toArray.toList = R from eR.symm]
      have hSR : R.rangeAt LBB 0 (listC SBB) := fun j u hu => (agW _ _ hLB t4).trans (t2 j u hu)
      refine ⟨hSR, ?_⟩
      refine wpAnyH_done (by kernel_rfl) ?_ _
      refine NoPanic.normal ?_
      simp only [List.getElem_toArray, List.getElem_cons_zero, List.getElem_cons_succ, Act.put, List.setIfInBounds_toArray, List.set_cons_zero, List.set_cons_succ]
      clear eR
      have Hf := hide (And.intro rowR (And.intro bR (And.intro vt' i9)))
      clear rowR bR vt' i9
      go_wp2_with fail
      refine bodyPost_ret (rgn.result_row rfl _ _ w.heap.size 0 (twoC w5.heap.size) _ rfl (unhide Hf).1 Try.underlying27 rfl (by simp [twoC, infoV])) rfl ?_
      exact ⟨(unhide Hf).2.1, _, rfl, (unhide Hf).2.2.1⟩
    · simp only [List.getElem_toArray, List.getElem_cons_zero, List.getElem_cons_succ, Act.put, List.setIfInBounds_toArray, List.set_cons_zero, List.set_cons_succ]
      refine wpO_alloc 27 (by rfl) _ (allocV _) ?_
      obtain ⟨X1, eX1⟩ : ∃ X1, X1 = w1.alloc (.cells #[.int .i64 0, .bool false, .int .i64 0, .float .f64 0, .string { data := #[] }, .string { data := #[] }, .slice none 0 0, .slice none 0 0] 27) := ⟨_, rfl⟩
      have thX1 : X1.there w1.heap.size 0 8 := by rw [eX1]; exact there_new rfl
      have sX1 : w1.heap.size + 1 ≤ X1.heap.size := by rw [eX1]; simp
      have bX1 : Below w1.heap.size w1 X1 := by rw [eX1]; exact (Below.refl _ _).alloc (Nat.le_refl _) _
      rw [← eX1]
      clear eX1
      have hS0 : Below W.heap.size W X1 := hS0.trans (bX1.mono hS0.size)
      refine ⟨hS0, ?_⟩
      simp only [List.getElem_toArray, List.getElem_cons_zero, List.getElem_cons_succ, Act.put, List.setIfInBounds_toArray, List.set_cons_zero, List.set_cons_succ]
      refine rgn.one (i := 2) _ rfl (by kernel_rfl) (by rfl) ?_
      simp only [List.getElem_toArray, List.getElem_cons_zero, List.getElem_cons_succ, Act.put, List.setIfInBounds_toArray, List.set_cons_zero, List.set_cons_succ]
      refine wpO_build2 24 _ _ (by rfl) (.agg (numC 1).toArray) (.agg (innerC (w.heap.size + 1)).toArray) _ (by rfl) (by rfl) (build2V (numV 1 rfl W) vin _) ?_
      obtain ⟨X2, eX2⟩ : ∃ X2, X2 = X1.alloc (.cells (numC 1 ++ innerC (w.heap.size + 1)).toArray 27) := ⟨_, rfl⟩
      have rowX2 : X2.rangeAt X1.heap.size 0 (numC 1 ++ innerC (w.heap.size + 1)) := by rw [eX2]; intro j u hu; rw [Nat.zero_add, World.cell?_alloc_at _ _ _ _ rfl]; simpa using hu
      have sX2 : X1.heap.size + 1 ≤ X2.heap.size := by rw [eX2]; simp
      have bX2 : Below X1.heap.size X1 X2 := by rw [eX2]; exact (Below.refl _ _).alloc (Nat.le_refl _) _
      rw [← eX2]
      clear eX2
      have hS0 : Below W.heap.size W X2 := hS0.trans (bX2.mono hS0.size)
      refine ⟨hS0, ?_⟩
      simp only [List.getElem_toArray, List.getElem_cons_zero, List.getElem_cons_succ, Act.put, List.setIfInBounds_toArray, List.set_cons_zero, List.set_cons_succ]
      refine rgn.take (i := 3) _ (.agg (listC X1.heap.size).toArray) rfl (by kernel_rfl) (by kernel_rfl) (by kernel_rfl) (fun _ _ _ h => h) (by rfl) hS0 (fun w' hw' => by simp only [listC]; go_simp) ?_
      simp only [List.getElem_toArray, List.getElem_cons_zero, List.getElem_cons_succ, Act.put, List.setIfInBounds_toArray, List.set_cons_zero, List.set_cons_succ]
      have thL : X2.there w1.heap.size 0 (listC X1.heap.size).toArray.size := there_below thX1 bX2 (by omega)
      have rowS := rowX2
      have hw := hSW1.size
      have hne : X1.heap.size ≠ w1.heap.size := by omega
      have hLs : w1.heap.size < X2.heap.size := by omega
      have hSs : X1.heap.size < X2.heap.size := by omega
      have hLlo : W.heap.size ≤ w1.heap.size := hw
      have hSlo : w.heap.size < X1.heap.size := by omega
      have hLB : w.heap.size < w1.heap.size := by omega
      refine rgn.one (i := 5) _ rfl (by kernel_rfl) (by rfl) ?_
      simp only [List.getElem_toArray, List.getElem_cons_zero, List.getElem_cons_succ, Act.put, List.setIfInBounds_toArray, List.set_cons_zero, List.set_cons_succ]
      refine wp_store_mid 27 _ _ (by rfl) w1.heap.size 0 (listC X1.heap.size).toArray (by rfl) (by rfl) thL (by simp [listC, infoV]) (by simp [listC, Value.oneCell']) ?_
      obtain ⟨L, eL⟩ : ∃ L, L = X2.setCells w1.heap.size 0 (listC X1.heap.size) := ⟨_, rfl⟩
      have t1 : Below W.heap.size W L := by rw [eL]; exact below_setCells _ _ _ _ hS0 hLlo
      have t2 : L.rangeAt w1.heap.size 0 (listC X1.heap.size) := by rw [eL]; exact World.rangeAt_setCells_same _ _ _ _ thL
      have t3 : L.rangeAt X1.heap.size 0 (numC 1 ++ innerC (w.heap.size + 1)) := by
        rw [eL]
        intro j u hu
        rw [World.cell?_setCells_out _ _ _ _ _ (fun e _ => absurd (show X1.heap.size = w1.heap.size from e) hne)]
        exact rowS j u hu
      have t4 : w1.heap.size < L.heap.size := by rw [eL, size_setCells]; exact hLs
      have hShi : X1.heap.size < L.heap.size := by rw [eL, size_setCells]; exact hSs
      rw [show X2.setCells w1.heap.size 0 (listC X1.heap.size).toArray.toList = L from eL.symm]
      refine ⟨t1, ?_⟩
      refine wpAnyH_done (by kernel_rfl) ?_ _
      refine NoPanic.normal ?_
      simp only [List.getElem_toArray, List.getElem_cons_zero, List.getElem_cons_succ, Act.put, List.setIfInBounds_toArray, List.set_cons_zero, List.set_cons_succ]
      obtain ⟨SBB, eSB⟩ : ∃ S, S = X1.heap.size := ⟨_, rfl⟩
      obtain ⟨LBB, eLB⟩ : ∃ S, S = w1.heap.size := ⟨_, rfl⟩
      rw [← eSB] at t2 t3 hShi hSlo ⊢
      rw [← eLB] at t2 t4 hLB ⊢
      clear eL eSB eLB
      have vl3 := listV_at t3 (VlC.below t1 _ _ vin)
      clear hS0 thL rowS hne hLs hLlo
      go_wp2_with fail
      have hS0 : ({ L with drawn := L.drawn + 1 } : World).rangeAt LBB 0 (listC SBB) := t2
      refine wp_region_noPanic ?_
      refine wp_region_held (S := fun w' => w'.rangeAt LBB 0 (listC SBB)) mixed ?_
      refine wpAnyH_take (i := 0) rfl (by kernel_rfl) (by kernel_rfl) (by kernel_rfl) (fun _ _ _ h => h) (yieldsIf_load_mid (by rfl) 27 _ (by rfl) LBB 0 (by rfl) (listC SBB) _ (fun w' hw' => hw') Try.underlying27 (by rfl) (by simp [listC, infoV])) hS0 ?_
      simp only [List.getElem_toArray, List.getElem_cons_zero, List.getElem_cons_succ, Act.put, List.setIfInBounds_toArray, List.set_cons_zero, List.set_cons_succ]
      refine rgn.take (i := 1) _ (.agg (Value.string { data := #[97] } :: listC SBB).toArray) rfl (by kernel_rfl) (by kernel_rfl) (by kernel_rfl) (fun _ _ _ h => h) (by rfl) hS0 (fun w' hw' => by clear hw'; simp only [listC]; go_simp) ?_
      simp only [List.getElem_toArray, List.getElem_cons_zero, List.getElem_cons_succ, Act.put, List.setIfInBounds_toArray, List.set_cons_zero, List.set_cons_succ]
      refine rgn.one (i := 2) _ rfl (by kernel_rfl) (by rfl) ?_
      simp only [List.getElem_toArray, List.getElem_cons_zero, List.getElem_cons_succ, Act.put, List.setIfInBounds_toArray, List.set_cons_zero, List.set_cons_succ]
      go_wp2_with fail
      refine (text_ok { data := #[120] } _).mono ?_
      rintro e w5 ⟨b5, rfl⟩
      have c5 : Below L.heap.size L w5 := (Below.refl _ _).drew.trans b5
      have hS0 : w5.rangeAt LBB 0 (listC SBB) := Row8.below t2 c5
      refine ⟨hS0, ?_⟩
      refine rgn.take (i := 3) _ (.agg (Value.string { data := #[99] } :: txtC { data := #[120] }).toArray) rfl (by kernel_rfl) (by kernel_rfl) (by kernel_rfl) (fun _ _ _ h => h) (by rfl) hS0 (fun w' hw' => by clear hw'; simp only [txtC]; go_simp) ?_
      simp only [List.getElem_toArray, List.getElem_cons_zero, List.getElem_cons_succ, Act.put, List.setIfInBounds_toArray, List.set_cons_zero, List.set_cons_succ]
      refine rgn.one (i := 4) _ rfl (by kernel_rfl) (by rfl) ?_
      simp only [List.getElem_toArray, List.getElem_cons_zero, List.getElem_cons_succ, Act.put, List.setIfInBounds_toArray, List.set_cons_zero, List.set_cons_succ]
      refine wpO_build2 25 _ _ (by rfl) (.agg (Value.string { data := #[97] } :: listC SBB).toArray) (.agg (Value.string { data := #[99] } :: txtC { data := #[120] }).toArray) _ (by rfl) (by rfl) (build2M { data := #[97] } { data := #[99] } vl3 (txtV { data := #[120] } (by decide) L) _) ?_
      obtain ⟨Y, eY⟩ : ∃ Y, Y = w5.alloc (.cells ((Value.string { data := #[97] } :: listC SBB) ++ (Value.string { data := #[99] } :: txtC { data := #[120] })).toArray 68) := ⟨_, rfl⟩
      have rowY : Y.rangeAt w5.heap.size 0 ((Value.string { data := #[97] } :: listC SBB) ++ (Value.string { data := #[99] } :: txtC { data := #[120] })) := by rw [eY]; intro j u hu; rw [Nat.zero_add, World.cell?_alloc_at _ _ _ _ rfl]; simpa using hu
      have bY : Below w5.heap.size w5 Y := by rw [eY]; exact (Below.refl _ _).alloc (Nat.le_refl _) _
      have sY : w5.heap.size + 1 ≤ Y.heap.size := by rw [eY]; simp
      rw [← eY]
      clear eY
      have hS0 : Y.rangeAt LBB 0 (listC SBB) := Row8.below hS0 bY
      refine ⟨hS0, ?_⟩
      simp only [List.getElem_toArray, List.getElem_cons_zero, List.getElem_cons_succ, Act.put, List.setIfInBounds_toArray, List.set_cons_zero, List.set_cons_succ]
      refine rgn.take (i := 5) _ (.agg (twoC w5.heap.size).toArray) rfl (by kernel_rfl) (by kernel_rfl) (by kernel_rfl) (fun _ _ _ h => h) (by rfl) hS0 (fun w' hw' => by clear hw'; simp only [twoC]; go_simp) ?_
      simp only [List.getElem_toArray, List.getElem_cons_zero, List.getElem_cons_succ, Act.put, List.setIfInBounds_toArray, List.set_cons_zero, List.set_cons_succ]
      refine rgn.one (i := 6) _ rfl (by kernel_rfl) (by rfl) ?_
      simp only [List.getElem_toArray, List.getElem_cons_zero, List.getElem_cons_succ, Act.put, List.setIfInBounds_toArray, List.set_cons_zero, List.set_cons_succ]
      have sW := t1.size
      have s5 := c5.size
      have thR : Y.there w.heap.size 0 (twoC w5.heap.size).toArray.size := there_below (there_below (there_below hth t1 (by omega)) c5 (by omega)) bY (by omega)
      have i9 : (Try.prog.info? 27).map (·.size) = some (twoC w5.heap.size).toArray.size := by simp [twoC, infoV]
      refine wp_store_mid 27 _ _ (by rfl) w.heap.size 0 (twoC w5.heap.size).toArray (by rfl) (by rfl) thR i9 (by simp [twoC, Value.oneCell']) ?_
      obtain ⟨R, eR⟩ : ∃ R, R = Y.setCells w.heap.size 0 (twoC w5.heap.size) := ⟨_, rfl⟩
      have rowR : R.rangeAt w.heap.size 0 (twoC w5.heap.size) := by rw [eR]; exact World.rangeAt_setCells_same _ _ _ _ thR
      have bR : Below w.heap.size w R := by rw [eR]; exact below_setCells _ _ _ _ (((bW.trans (t1.mono bW.size)).trans (c5.mono (by omega))).trans (bY.mono (by omega))) (Nat.le_refl _)
      have ouR : ∀ b j, w.heap.size < b → R.cell? ⟨b, j, none⟩ = Y.cell? ⟨b, j, none⟩ := fun b j hb => by rw [eR]; exact World.cell?_setCells_out _ _ _ _ _ (fun e _ => by have e : b = w.heap.size := e; omega)
      have agW : ∀ b j, w.heap.size < b → b < L.heap.size → R.cell? ⟨b, j, none⟩ = L.cell? ⟨b, j, none⟩ := fun b j h1 h2 => (ouR b j h1).trans ((bY.cell (p := ⟨b, j, none⟩) (show b < w5.heap.size by omega)).trans (c5.cell (p := ⟨b, j, none⟩) h2))
      have vin' : VlC R innerV (innerC (w.heap.size + 1)) := innerV_at (fun j u hu => (agW _ _ (by omega) (by omega)).trans ((t1.cell (p := ⟨w.heap.size + 1, 0 + j, none⟩) (show w.heap.size + 1 < W.heap.size by omega)).trans (hmem j u hu)))
      have vl' : VlC R listV (listC SBB) := listV_at (fun j u hu => (agW _ _ hSlo hShi).trans (t3 j u hu)) vin'
      have vt' : VlC R twoV (twoC w5.heap.size) := twoV_at (fun j u hu => (ouR _ _ (by omega)).trans (rowY j u hu)) vl'
      rw [show Y.setCells w.heap.size 0 (twoC w5.heap.size).toArray.toList = R from eR.symm]
      have hSR : R.rangeAt LBB 0 (listC SBB) := fun j u hu => (agW _ _ hLB t4).trans (t2 j u hu)
      refine ⟨hSR, ?_⟩
      refine wpAnyH_done (by kernel_rfl) ?_ _
      refine NoPanic.normal ?_
      simp only [List.getElem_toArray, List.getElem_cons_zero, List.getElem_cons_succ, Act.put, List.setIfInBounds_toArray, List.set_cons_zero, List.set_cons_succ]
      clear eR
      have Hf := hide (And.intro rowR (And.intro bR (And.intro vt' i9)))
      clear rowR bR vt' i9
      go_wp2_with fail
      refine bodyPost_ret (rgn.result_row rfl _ _ w.heap.size 0 (twoC w5.heap.size) _ rfl (unhide Hf).1 Try.underlying27 rfl (by simp [twoC, infoV])) rfl ?_
      exact ⟨(unhide Hf).2.1, _, rfl, (unhide Hf).2.2.1⟩
  · simp only [List.getElem_toArray, List.getElem_cons_zero, List.getElem_cons_succ, Act.put, List.setIfInBounds_toArray, List.set_cons_zero, List.set_cons_succ]
    refine wpO_alloc 27 (by rfl) _ (allocV _) ?_
    obtain ⟨X1, eX1⟩ : ∃ X1, X1 = ({ W with drawn := W.drawn + 1 } : World).alloc (.cells #[.int .i64 0, .bool false, .int .i64 0, .float .f64 0, .string { data := #[] }, .string { data := #[] }, .slice none 0 0, .slice none 0 0] 27) := ⟨_, rfl⟩
    have thX1 : X1.there W.heap.size 0 8 := by rw [eX1]; exact there_new (w := ({ W with drawn := W.drawn + 1 } : World)) rfl
    have sX1 : W.heap.size + 1 ≤ X1.heap.size := by rw [eX1]; simp
    have bX1 : Below W.heap.size W X1 := by rw [eX1]; exact (Below.refl W.heap.size W).drew.alloc (Nat.le_refl _) _
    rw [← eX1]
    clear eX1
    have hS0 : Below W.heap.size W X1 := bX1
    refine ⟨hS0, ?_⟩
    simp only [List.getElem_toArray, List.getElem_cons_zero, List.getElem_cons_succ, Act.put, List.setIfInBounds_toArray, List.set_cons_zero, List.set_cons_succ]
    refine rgn.one (i := 0) _ rfl (by kernel_rfl) (by rfl) ?_
    simp only [List.getElem_toArray, List.getElem_cons_zero, List.getElem_cons_succ, Act.put, List.setIfInBounds_toArray, List.set_cons_zero, List.set_cons_succ]
    go_wp2_with fail
    refine (num_ok 1 _).mono ?_
    rintro e w1 ⟨bw1, rfl⟩
    have hS0 : Below W.heap.size W w1 := hS0.trans (bw1.mono hS0.size)
    have hSW1 := hS0
    refine ⟨hS0, ?_⟩
    refine rgn.one (i := 2) _ rfl (by kernel_rfl) (by rfl) ?_
    simp only [List.getElem_toArray, List.getElem_cons_zero, List.getElem_cons_succ, Act.put, List.setIfInBounds_toArray, List.set_cons_zero, List.set_cons_succ]
    refine wpO_build2 24 _ _ (by rfl) (.agg (numC 1).toArray) (.agg (innerC (w.heap.size + 1)).toArray) _ (by rfl) (by rfl) (build2V (numV 1 rfl W) vin _) ?_
    obtain ⟨X2, eX2⟩ : ∃ X2, X2 = w1.alloc (.cells (numC 1 ++ innerC (w.heap.size + 1)).toArray 27) := ⟨_, rfl⟩
    have rowX2 : X2.rangeAt w1.heap.size 0 (numC 1 ++ innerC (w.heap.size + 1)) := by rw [eX2]; intro j u hu; rw [Nat.zero_add, World.cell?_alloc_at _ _ _ _ rfl]; simpa using hu
    have sX2 : w1.heap.size + 1 ≤ X2.heap.size := by rw [eX2]; simp
    have bX2 : Below w1.heap.size w1 X2 := by rw [eX2]; exact (Below.refl _ _).alloc (Nat.le_refl _) _
    rw [← eX2]
    clear eX2
    have hS0 : Below W.heap.size W X2 := hS0.trans (bX2.mono hS0.size)
    refine ⟨hS0, ?_⟩
    simp only [List.getElem_toArray, List.getElem_cons_zero, List.getElem_cons_succ, Act.put, List.setIfInBounds_toArray, List.set_cons_zero, List.set_cons_succ]
    refine rgn.take (i := 3) _ (.agg (listC w1.heap.size).toArray) rfl (by kernel_rfl) (by kernel_rfl) (by kernel_rfl) (fun _ _ _ h => h) (by rfl) hS0 (fun w' hw' => by simp only [listC]; go_simp) ?_
    simp only [List.getElem_toArray, List.getElem_cons_zero, List.getElem_cons_succ, Act.put, List.setIfInBounds_toArray, List.set_cons_zero, List.set_cons_succ]
    have sw1 := bw1.size
    have thL : X2.there W.heap.size 0 (listC w1.heap.size).toArray.size := there_below (there_below thX1 bw1 (by omega)) bX2 (by omega)
    have rowS := rowX2
    have hne : w1.heap.size ≠ W.heap.size := by omega
    have hLs : W.heap.size < X2.heap.size := by omega
    have hSs : w1.heap.size < X2.heap.size := by omega
    have hLlo : W.heap.size ≤ W.heap.size := Nat.le_refl _
    have hSlo : w.heap.size < w1.heap.size := by omega
    have hLB : w.heap.size < W.heap.size := by omega
    refine rgn.one (i := 5) _ rfl (by kernel_rfl) (by rfl) ?_
    simp only [List.getElem_toArray, List.getElem_cons_zero, List.getElem_cons_succ, Act.put, List.setIfInBounds_toArray, List.set_cons_zero, List.set_cons_succ]
    refine wp_store_mid 27 _ _ (by rfl) W.heap.size 0 (listC w1.heap.size).toArray (by rfl) (by rfl) thL (by simp [listC, infoV]) (by simp [listC, Value.oneCell']) ?_
    obtain ⟨L, eL⟩ : ∃ L, L = X2.setCells W.heap.size 0 (listC w1.heap.size) := ⟨_, rfl⟩
    have t1 : Below W.heap.size W L := by rw [eL]; exact below_setCells _ _ _ _ hS0 hLlo
    have t2 : L.rangeAt W.heap.size 0 (listC w1.heap.size) := by rw [eL]; exact World.rangeAt_setCells_same _ _ _ _ thL
    have t3 : L.rangeAt w1.heap.size 0 (numC 1 ++ innerC (w.heap.size + 1)) := by
      rw [eL]
      intro j u hu
      rw [World.cell?_setCells_out _ _ _ _ _ (fun e _ => absurd (show w1.heap.size = W.heap.size from e) hne)]
      exact rowS j u hu
    have t4 : W.heap.size < L.heap.size := by rw [eL, size_setCells]; exact hLs
    have hShi : w1.heap.size < L.heap.size := by rw [eL, size_setCells]; exact hSs
    rw [show X2.setCells W.heap.size 0 (listC w1.heap.size).toArray.toList = L from eL.symm]
    refine ⟨t1, ?_⟩
    refine wpAnyH_done (by kernel_rfl) ?_ _
    refine NoPanic.normal ?_
    simp only [List.getElem_toArray, List.getElem_cons_zero, List.getElem_cons_succ, Act.put, List.setIfInBounds_toArray, List.set_cons_zero, List.set_cons_succ]
    obtain ⟨SBB, eSB⟩ : ∃ S, S = w1.heap.size := ⟨_, rfl⟩
    obtain ⟨LBB, eLB⟩ : ∃ S, S = W.heap.size := ⟨_, rfl⟩
    rw [← eSB] at t2 t3 hShi hSlo ⊢
    rw [← eLB] at t2 t4 hLB ⊢
    clear eL eSB eLB
    have vl3 := listV_at t3 (VlC.below t1 _ _ vin)
    clear hS0 thL rowS hne hLs hLlo
    go_wp2_with fail
    have hS0 : ({ L with drawn := L.drawn + 1 } : World).rangeAt LBB 0 (listC SBB) := t2
    refine wp_region_noPanic ?_
    refine wp_region_held (S := fun w' => w'.rangeAt LBB 0 (listC SBB)) mixed ?_
    refine wpAnyH_take (i := 0) rfl (by kernel_rfl) (by kernel_rfl) (by kernel_rfl) (fun _ _ _ h => h) (yieldsIf_load_mid (by rfl) 27 _ (by rfl) LBB 0 (by rfl) (listC SBB) _ (fun w' hw' => hw') Try.underlying27 (by rfl) (by simp [listC, infoV])) hS0 ?_
    simp only [List.getElem_toArray, List.getElem_cons_zero, List.getElem_cons_succ, Act.put, List.setIfInBounds_toArray, List.set_cons_zero, List.set_cons_succ]
    refine rgn.take (i := 1) _ (.agg (Value.string { data := #[97] } :: listC SBB).toArray) rfl (by kernel_rfl) (by kernel_rfl) (by kernel_rfl) (fun _ _ _ h => h) (by rfl) hS0 (fun w' hw' => by clear hw'; simp only [listC]; go_simp) ?_
    simp only [List.getElem_toArray, List.getElem_cons_zero, List.getElem_cons_succ, Act.put, List.setIfInBounds_toArray, List.set_cons_zero, List.set_cons_succ]
    refine rgn.one (i := 2) _ rfl (by kernel_rfl) (by rfl) ?_
    simp only [List.getElem_toArray, List.getElem_cons_zero, List.getElem_cons_succ, Act.put, List.setIfInBounds_toArray, List.set_cons_zero, List.set_cons_succ]
    go_wp2_with fail
    refine (text_ok { data := #[120] } _).mono ?_
    rintro e w5 ⟨b5, rfl⟩
    have c5 : Below L.heap.size L w5 := (Below.refl _ _).drew.trans b5
    have hS0 : w5.rangeAt LBB 0 (listC SBB) := Row8.below t2 c5
    refine ⟨hS0, ?_⟩
    refine rgn.take (i := 3) _ (.agg (Value.string { data := #[99] } :: txtC { data := #[120] }).toArray) rfl (by kernel_rfl) (by kernel_rfl) (by kernel_rfl) (fun _ _ _ h => h) (by rfl) hS0 (fun w' hw' => by clear hw'; simp only [txtC]; go_simp) ?_
    simp only [List.getElem_toArray, List.getElem_cons_zero, List.getElem_cons_succ, Act.put, List.setIfInBounds_toArray, List.set_cons_zero, List.set_cons_succ]
    refine rgn.one (i := 4) _ rfl (by kernel_rfl) (by rfl) ?_
    simp only [List.getElem_toArray, List.getElem_cons_zero, List.getElem_cons_succ, Act.put, List.setIfInBounds_toArray, List.set_cons_zero, List.set_cons_succ]
    refine wpO_build2 25 _ _ (by rfl) (.agg (Value.string { data := #[97] } :: listC SBB).toArray) (.agg (Value.string { data := #[99] } :: txtC { data := #[120] }).toArray) _ (by rfl) (by rfl) (build2M { data := #[97] } { data := #[99] } vl3 (txtV { data := #[120] } (by decide) L) _) ?_
    obtain ⟨Y, eY⟩ : ∃ Y, Y = w5.alloc (.cells ((Value.string { data := #[97] } :: listC SBB) ++ (Value.string { data := #[99] } :: txtC { data := #[120] })).toArray 68) := ⟨_, rfl⟩
    have rowY : Y.rangeAt w5.heap.size 0 ((Value.string { data := #[97] } :: listC SBB) ++ (Value.string { data := #[99] } :: txtC { data := #[120] })) := by rw [eY]; intro j u hu; rw [Nat.zero_add, World.cell?_alloc_at _ _ _ _ rfl]; simpa using hu
    have bY : Below w5.heap.size w5 Y := by rw [eY]; exact (Below.refl _ _).alloc (Nat.le_refl _) _
    have sY : w5.heap.size + 1 ≤ Y.heap.size := by rw [eY]; simp
    rw [← eY]
    clear eY
    have hS0 : Y.rangeAt LBB 0 (listC SBB) := Row8.below hS0 bY
    refine ⟨hS0, ?_⟩
    simp only [List.getElem_toArray, List.getElem_cons_zero, List.getElem_cons_succ, Act.put, List.setIfInBounds_toArray, List.set_cons_zero, List.set_cons_succ]
    refine rgn.take (i := 5) _ (.agg (twoC w5.heap.size).toArray) rfl (by kernel_rfl) (by kernel_rfl) (by kernel_rfl) (fun _ _ _ h => h) (by rfl) hS0 (fun w' hw' => by clear hw'; simp only [twoC]; go_simp) ?_
    simp only [List.getElem_toArray, List.getElem_cons_zero, List.getElem_cons_succ, Act.put, List.setIfInBounds_toArray, List.set_cons_zero, List.set_cons_succ]
    refine rgn.one (i := 6) _ rfl (by kernel_rfl) (by rfl) ?_
    simp only [List.getElem_toArray, List.getElem_cons_zero, List.getElem_cons_succ, Act.put, List.setIfInBounds_toArray, List.set_cons_zero, List.set_cons_succ]
    have sW := t1.size
    have s5 := c5.size
    have thR : Y.there w.heap.size 0 (twoC w5.heap.size).toArray.size := there_below (there_below (there_below hth t1 (by omega)) c5 (by omega)) bY (by omega)
    have i9 : (Try.prog.info? 27).map (·.size) = some (twoC w5.heap.size).toArray.size := by simp [twoC, infoV]
    refine wp_store_mid 27 _ _ (by rfl) w.heap.size 0 (twoC w5.heap.size).toArray (by rfl) (by rfl) thR i9 (by simp [twoC, Value.oneCell']) ?_
    obtain ⟨R, eR⟩ : ∃ R, R = Y.setCells w.heap.size 0 (twoC w5.heap.size) := ⟨_, rfl⟩
    have rowR : R.rangeAt w.heap.size 0 (twoC w5.heap.size) := by rw [eR]; exact World.rangeAt_setCells_same _ _ _ _ thR
    have bR : Below w.heap.size w R := by rw [eR]; exact below_setCells _ _ _ _ (((bW.trans (t1.mono bW.size)).trans (c5.mono (by omega))).trans (bY.mono (by omega))) (Nat.le_refl _)
    have ouR : ∀ b j, w.heap.size < b → R.cell? ⟨b, j, none⟩ = Y.cell? ⟨b, j, none⟩ := fun b j hb => by rw [eR]; exact World.cell?_setCells_out _ _ _ _ _ (fun e _ => by have e : b = w.heap.size := e; omega)
    have agW : ∀ b j, w.heap.size < b → b < L.heap.size → R.cell? ⟨b, j, none⟩ = L.cell? ⟨b, j, none⟩ := fun b j h1 h2 => (ouR b j h1).trans ((bY.cell (p := ⟨b, j, none⟩) (show b < w5.heap.size by omega)).trans (c5.cell (p := ⟨b, j, none⟩) h2))
    have vin' : VlC R innerV (innerC (w.heap.size + 1)) := innerV_at (fun j u hu => (agW _ _ (by omega) (by omega)).trans ((t1.cell (p := ⟨w.heap.size + 1, 0 + j, none⟩) (show w.heap.size + 1 < W.heap.size by omega)).trans (hmem j u hu)))
    have vl' : VlC R listV (listC SBB) := listV_at (fun j u hu => (agW _ _ hSlo hShi).trans (t3 j u hu)) vin'
    have vt' : VlC R twoV (twoC w5.heap.size) := twoV_at (fun j u hu => (ouR _ _ (by omega)).trans (rowY j u hu)) vl'
    rw [show Y.setCells w.heap.size 0 (twoC w5.heap.size).toArray.toList = R from eR.symm]
    have hSR : R.rangeAt LBB 0 (listC SBB) := fun j u hu => (agW _ _ hLB t4).trans (t2 j u hu)
    refine ⟨hSR, ?_⟩
    refine wpAnyH_done (by kernel_rfl) ?_ _
    refine NoPanic.normal ?_
    simp only [List.getElem_toArray, List.getElem_cons_zero, List.getElem_cons_succ, Act.put, List.setIfInBounds_toArray, List.set_cons_zero, List.set_cons_succ]
    clear eR
    have Hf := hide (And.intro rowR (And.intro bR (And.intro vt' i9)))
    clear rowR bR vt' i9
    go_wp2_with fail
    refine bodyPost_ret (rgn.result_row rfl _ _ w.heap.size 0 (twoC w5.heap.size) _ rfl (unhide Hf).1 Try.underlying27 rfl (by simp [twoC, infoV])) rfl ?_
    exact ⟨(unhide Hf).2.1, _, rfl, (unhide Hf).2.2.1⟩
end Go.Proofs.Ytjlafneklcfgoab.vl
