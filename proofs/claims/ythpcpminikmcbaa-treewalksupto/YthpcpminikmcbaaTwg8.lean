import Derived.Test.YthpcpminikmcbaaTwg6
import Derived.Test.YthpcpminikmcbaaTwg7
import Derived.Test.YthpcpminikmcbaaTwg5
import Derived.Test.YthpcpminikmcbaaTwg3
namespace Go.Proofs.Ythpcpminikmcbaa.vl
open Go.ChangeShapes Go.WideShapes Go.ChangeAt Go.RowKit
open stp (St Pth St3)
set_option linter.unusedVariables false
set_option linter.unusedSimpArgs false
set_option maxHeartbeats 6000000 in
set_option maxRecDepth 6000 in
theorem two_ok (w : World) : Calls Try.prog 27 #[] w fun e w' => Below w.heap.size w w' ∧ ∃ b, e = .returned (.agg (twoC b).toArray) ∧ VlC w' twoV (twoC b) := by
  have hsf := storeF
  obtain ⟨W, eW⟩ : ∃ W, W = (((w.alloc (.cells #[.int .i64 0, .bool false, .int .i64 0, .float .f64 0, .string { data := #[] }, .string { data := #[] }, .slice none 0 0, .slice none 0 0] 27)).alloc (.cells #[.string { data := #[98] }, .int .i64 0, .bool false, .int .i64 0, .float .f64 0, .string { data := #[] }, .string { data := #[] }, .slice none 0 0, .slice none 0 0] 69)).alloc (.cells #[.int .i64 6, .bool false, .int .i64 0, .float .f64 0, .string { data := #[] }, .string { data := #[] }, .slice none 0 0, .slice (some ⟨w.heap.size + 1, 0, none⟩) 1 1] 27)) := ⟨_, rfl⟩
  have bW : Below w.heap.size w W := by rw [eW]; exact (((Below.refl _ _).alloc (Nat.le_refl _) _).alloc (by simp) _).alloc (by simp; omega) _
  have hsz : w.heap.size + 3 ≤ W.heap.size := by rw [eW]; simp
  have hth : W.there w.heap.size 0 8 := by rw [eW]; exact World.there_alloc (World.there_alloc (there_new rfl) _) _
  have hmem : W.rangeAt (w.heap.size + 1) 0 (Value.string { data := #[98] } :: z8) := fun j u hu => by
    rw [Nat.zero_add, eW, World.cell?_alloc_past _ _ _ (by simp), World.cell?_alloc_at _ _ _ _ (by simp)]; simpa [z8] using hu
  have hinn : W.rangeAt (w.heap.size + 1 + 1) 0 (innerC (w.heap.size + 1)) := fun j u hu => by
    rw [Nat.zero_add, eW, World.cell?_alloc_at _ _ _ _ (by simp)]; simpa [innerC] using hu
  have vin := innerV_at hmem
  have EW := hide eW
  clear eW
  go_enter Try.func27, Try.ntmps27
  go_wp2_with fail
  rw [← unhide EW]
  clear EW hsf
  have hS0 : Below W.heap.size W { W with drawn := W.drawn + 1 } := (Below.refl _ _).drew
  refine wp_region_noPanic ?_
  refine wp_region_held (S := fun w' => Below W.heap.size W w') mixed ?_
  refine wpAnyH_take (i := 1) rfl (by kernel_rfl) (by kernel_rfl) (by kernel_rfl) (fun _ _ _ h => h) (yieldsIf_load_mid (by rfl) 27 _ (by rfl) (w.heap.size + 1 + 1) 0 (by rfl) (innerC (w.heap.size + 1)) _ (fun w' hw' => Row8.below hinn hw') Try.underlying27 (by rfl) (by simp [innerC, infoV])) hS0 ?_
  simp only [List.getElem_toArray, List.getElem_cons_zero, List.getElem_cons_succ, Act.put, List.setIfInBounds_toArray, List.set_cons_zero, List.set_cons_succ]
  refine rgn.two (i := 0) (j := 4) _ _ rfl rfl (by kernel_rfl) (by rfl) (by rfl) ?_ ?_
  · simp only [List.getElem_toArray, List.getElem_cons_zero, List.getElem_cons_succ, Act.put, List.setIfInBounds_toArray, List.set_cons_zero, List.set_cons_succ]
    go_wp2_with fail
    refine (num_ok 1 _).mono ?_
    rintro e w1 ⟨bw1, rfl⟩
    have hS0 : Below W.heap.size W w1 := hS0.trans bw1
    have hSW1 := hS0
    refine ⟨hS0, ?_⟩
    refine rgn.two (i := 2) (j := 4) _ _ rfl rfl (by kernel_rfl) (by rfl) (by rfl) ?_ ?_
    · simp only [List.getElem_toArray, List.getElem_cons_zero, List.getElem_cons_succ, Act.put, List.setIfInBounds_toArray, List.set_cons_zero, List.set_cons_succ]
      refine wpO_build2 24 _ _ (by rfl) (.agg (numC 1).toArray) (.agg (innerC (w.heap.size + 1)).toArray) _ (by rfl) (by rfl) (build2V (numV 1 rfl W) vin _) ?_
      obtain ⟨X1, eX1⟩ : ∃ X1, X1 = w1.alloc (.cells (numC 1 ++ innerC (w.heap.size + 1)).toArray 27) := ⟨_, rfl⟩
      have rowX1 : X1.rangeAt w1.heap.size 0 (numC 1 ++ innerC (w.heap.size + 1)) := by rw [eX1]; intro j u hu; rw [Nat.zero_add, World.cell?_alloc_at _ _ _ _ rfl]; simpa using hu
      have sX1 : w1.heap.size + 1 ≤ X1.heap.size := by rw [eX1]; simp
      have bX1 : Below w1.heap.size w1 X1 := by rw [eX1]; exact (Below.refl _ _).alloc (Nat.le_refl _) _
      rw [← eX1]
      clear eX1
      have hS0 : Below W.heap.size W X1 := hS0.trans (bX1.mono hS0.size)
      refine ⟨hS0, ?_⟩
      simp only [List.getElem_toArray, List.getElem_cons_zero, List.getElem_cons_succ, Act.put, List.setIfInBounds_toArray, List.set_cons_zero, List.set_cons_succ]
      refine rgn.take (i := 3) _ (.agg (listC w1.heap.size).toArray) rfl (by kernel_rfl) (by kernel_rfl) (by kernel_rfl) (fun _ _ _ h => h) (by rfl) hS0 (fun w' hw' => by simp only [listC]; go_simp) ?_
      simp only [List.getElem_toArray, List.getElem_cons_zero, List.getElem_cons_succ, Act.put, List.setIfInBounds_toArray, List.set_cons_zero, List.set_cons_succ]
      refine rgn.one (i := 4) _ rfl (by kernel_rfl) (by rfl) ?_
      simp only [List.getElem_toArray, List.getElem_cons_zero, List.getElem_cons_succ, Act.put, List.setIfInBounds_toArray, List.set_cons_zero, List.set_cons_succ]
      refine wpO_alloc 27 (by rfl) _ (allocV _) ?_
      obtain ⟨X2, eX2⟩ : ∃ X2, X2 = X1.alloc (.cells #[.int .i64 0, .bool false, .int .i64 0, .float .f64 0, .string { data := #[] }, .string { data := #[] }, .slice none 0 0, .slice none 0 0] 27) := ⟨_, rfl⟩
      have thX2 : X2.there X1.heap.size 0 8 := by rw [eX2]; exact there_new rfl
      have sX2 : X1.heap.size + 1 ≤ X2.heap.size := by rw [eX2]; simp
      have bX2 : Below X1.heap.size X1 X2 := by rw [eX2]; exact (Below.refl _ _).alloc (Nat.le_refl _) _
      rw [← eX2]
      clear eX2
      have hS0 : Below W.heap.size W X2 := hS0.trans (bX2.mono hS0.size)
      refine ⟨hS0, ?_⟩
      simp only [List.getElem_toArray, List.getElem_cons_zero, List.getElem_cons_succ, Act.put, List.setIfInBounds_toArray, List.set_cons_zero, List.set_cons_succ]
      have thL : X2.there X1.heap.size 0 (listC w1.heap.size).toArray.size := thX2
      have rowS := Row8.below rowX1 bX2
      have hne : w1.heap.size ≠ X1.heap.size := by omega
      have hLs : X1.heap.size < X2.heap.size := by omega
      have hLlo : W.heap.size ≤ X1.heap.size := by have := bw1.size; have h0 := bX1.size; have h1 := hSW1.size; omega
      refine rgn.one (i := 5) _ rfl (by kernel_rfl) (by rfl) ?_
      simp only [List.getElem_toArray, List.getElem_cons_zero, List.getElem_cons_succ, Act.put, List.setIfInBounds_toArray, List.set_cons_zero, List.set_cons_succ]
      refine wp_store_mid 27 _ _ (by rfl) X1.heap.size 0 (listC w1.heap.size).toArray (by rfl) (by rfl) thL (by simp [listC, infoV]) (by simp [listC, Value.oneCell']) ?_
      obtain ⟨L, eL⟩ : ∃ L, L = X2.setCells X1.heap.size 0 (listC w1.heap.size) := ⟨_, rfl⟩
      have t1 : Below W.heap.size W L := by rw [eL]; exact below_setCells _ _ _ _ hS0 hLlo
      have t2 : L.rangeAt X1.heap.size 0 (listC w1.heap.size) := by rw [eL]; exact World.rangeAt_setCells_same _ _ _ _ thL
      have t3 : L.rangeAt w1.heap.size 0 (numC 1 ++ innerC (w.heap.size + 1)) := by
        rw [eL]
        intro j u hu
        rw [World.cell?_setCells_out _ _ _ _ _ (fun e _ => absurd (show w1.heap.size = X1.heap.size from e) hne)]
        exact rowS j u hu
      have t4 : X1.heap.size < L.heap.size := by rw [eL, size_setCells]; exact hLs
      rw [show X2.setCells X1.heap.size 0 (listC w1.heap.size).toArray.toList = L from eL.symm]
      refine ⟨t1, ?_⟩
      refine wpAnyH_done (by kernel_rfl) ?_ _
      refine NoPanic.normal ?_
      simp only [List.getElem_toArray, List.getElem_cons_zero, List.getElem_cons_succ, Act.put, List.setIfInBounds_toArray, List.set_cons_zero, List.set_cons_succ]
      have hSlo : w.heap.size < w1.heap.size := by have := hSW1.size; omega
      have hShi : w1.heap.size < L.heap.size := by omega
      have hLB : w.heap.size < X1.heap.size := by omega
      generalize w1.heap.size = SBB at *
      generalize X1.heap.size = LBB at *
      clear eL
      have vl3 := listV_at t3 (VlC.below t1 _ _ vin)
      clear hS0 thL rowS hne hLs hLlo
      go_wp2_with fail
      have hS0 : ({ L with drawn := L.drawn + 1 } : World).rangeAt LBB 0 (listC SBB) := t2
      refine wp_region_noPanic ?_
      refine wp_region_held (S := fun w' => w'.rangeAt LBB 0 (listC SBB)) mixed ?_
      refine wpAnyH_take (i := 0) rfl (by kernel_rfl) (by kernel_rfl) (by kernel_rfl) (fun _ _ _ h => h) (yieldsIf_load_mid (by rfl) 27 _ (by rfl) LBB 0 (by rfl) (listC SBB) _ (fun w' hw' => hw') Try.underlying27 (by rfl) (by simp [listC, infoV])) hS0 ?_
      simp only [List.getElem_toArray, List.getElem_cons_zero, List.getElem_cons_succ, Act.put, List.setIfInBounds_toArray, List.set_cons_zero, List.set_cons_succ]
      refine rgn.take (i := 1) _ (.agg (Value.string { data := #[97] } :: listC SBB).toArray) rfl (by kernel_rfl) (by kernel_rfl) (by kernel_rfl) (fun _ _ _ h => h) (by rfl) hS0 (fun w' hw' => by clear hw'; simp only [listC]; go_simp) ?_
      simp only [List.getElem_toArray, List.getElem_cons_zero, List.getElem_cons_succ, Act.put, List.setIfInBounds_toArray, List.set_cons_zero, List.set_cons_succ]
      refine rgn.one (i := 2) _ rfl (by kernel_rfl) (by rfl) ?_
      simp only [List.getElem_toArray, List.getElem_cons_zero, List.getElem_cons_succ, Act.put, List.setIfInBounds_toArray, List.set_cons_zero, List.set_cons_succ]
      go_wp2_with fail
      refine (text_ok { data := #[120] } _).mono ?_
      rintro e w5 ⟨b5, rfl⟩
      have c5 : Below L.heap.size L w5 := (Below.refl _ _).drew.trans b5
      have hS0 : w5.rangeAt LBB 0 (listC SBB) := Row8.below t2 c5
      refine ⟨hS0, ?_⟩
      refine rgn.take (i := 3) _ (.agg (Value.string { data := #[99] } :: txtC { data := #[120] }).toArray) rfl (by kernel_rfl) (by kernel_rfl) (by kernel_rfl) (fun _ _ _ h => h) (by rfl) hS0 (fun w' hw' => by clear hw'; simp only [txtC]; go_simp) ?_
      simp only [List.getElem_toArray, List.getElem_cons_zero, List.getElem_cons_succ, Act.put, List.setIfInBounds_toArray, List.set_cons_zero, List.set_cons_succ]
      refine rgn.one (i := 4) _ rfl (by kernel_rfl) (by rfl) ?_
      simp only [List.getElem_toArray, List.getElem_cons_zero, List.getElem_cons_succ, Act.put, List.setIfInBounds_toArray, List.set_cons_zero, List.set_cons_succ]
      refine wpO_build2 25 _ _ (by rfl) (.agg (Value.string { data := #[97] } :: listC SBB).toArray) (.agg (Value.string { data := #[99] } :: txtC { data := #[120] }).toArray) _ (by rfl) (by rfl) (build2M { data := #[97] } { data := #[99] } vl3 (txtV { data := #[120] } (by decide) L) _) ?_
      obtain ⟨Y, eY⟩ : ∃ Y, Y = w5.alloc (.cells ((Value.string { data := #[97] } :: listC SBB) ++ (Value.string { data := #[99] } :: txtC { data := #[120] })).toArray 69) := ⟨_, rfl⟩
      have rowY : Y.rangeAt w5.heap.size 0 ((Value.string { data := #[97] } :: listC SBB) ++ (Value.string { data := #[99] } :: txtC { data := #[120] })) := by rw [eY]; intro j u hu; rw [Nat.zero_add, World.cell?_alloc_at _ _ _ _ rfl]; simpa using hu
      have bY : Below w5.heap.size w5 Y := by rw [eY]; exact (Below.refl _ _).alloc (Nat.le_refl _) _
      have sY : w5.heap.size + 1 ≤ Y.heap.size := by rw [eY]; simp
      rw [← eY]
      clear eY
      have hS0 : Y.rangeAt LBB 0 (listC SBB) := Row8.below hS0 bY
      refine ⟨hS0, ?_⟩
      simp only [List.getElem_toArray, List.getElem_cons_zero, List.getElem_cons_succ, Act.put, List.setIfInBounds_toArray, List.set_cons_zero, List.set_cons_succ]
      refine rgn.take (i := 5) _ (.agg (twoC w5.heap.size).toArray) rfl (by kernel_rfl) (by kernel_rfl) (by kernel_rfl) (fun _ _ _ h => h) (by rfl) hS0 (fun w' hw' => by clear hw'; simp only [twoC]; go_simp) ?_
      simp only [List.getElem_toArray, List.getElem_cons_zero, List.getElem_cons_succ, Act.put, List.setIfInBounds_toArray, List.set_cons_zero, List.set_cons_succ]
      refine rgn.one (i := 6) _ rfl (by kernel_rfl) (by rfl) ?_
      simp only [List.getElem_toArray, List.getElem_cons_zero, List.getElem_cons_succ, Act.put, List.setIfInBounds_toArray, List.set_cons_zero, List.set_cons_succ]
      have sW := t1.size
      have s5 := c5.size
      have thR : Y.there w.heap.size 0 (twoC w5.heap.size).toArray.size := there_below (there_below (there_below hth t1 (by omega)) c5 (by omega)) bY (by omega)
      have i9 : (Try.prog.info? 27).map (·.size) = some (twoC w5.heap.size).toArray.size := by simp [twoC, infoV]
      refine wp_store_mid 27 _ _ (by rfl) w.heap.size 0 (twoC w5.heap.size).toArray (by rfl) (by rfl) thR i9 (by simp [twoC, Value.oneCell']) ?_
      obtain ⟨R, eR⟩ : ∃ R, R = Y.setCells w.heap.size 0 (twoC w5.heap.size) := ⟨_, rfl⟩
      have rowR : R.rangeAt w.heap.size 0 (twoC w5.heap.size) := by rw [eR]; exact World.rangeAt_setCells_same _ _ _ _ thR
      have bR : Below w.heap.size w R := by rw [eR]; exact below_setCells _ _ _ _ (((bW.trans (t1.mono bW.size)).trans (c5.mono (by omega))).trans (bY.mono (by omega))) (Nat.le_refl _)
      have ouR : ∀ b j, w.heap.size < b → R.cell? ⟨b, j, none⟩ = Y.cell? ⟨b, j, none⟩ := fun b j hb => by rw [eR]; exact World.cell?_setCells_out _ _ _ _ _ (fun e _ => by have e : b = w.heap.size := e; omega)
      have agW : ∀ b j, w.heap.size < b → b < L.heap.size → R.cell? ⟨b, j, none⟩ = L.cell? ⟨b, j, none⟩ := fun b j h1 h2 => (ouR b j h1).trans ((bY.cell (p := ⟨b, j, none⟩) (show b < w5.heap.size by omega)).trans (c5.cell (p := ⟨b, j, none⟩) h2))
      have vin' : VlC R innerV (innerC (w.heap.size + 1)) := innerV_at (fun j u hu => (agW _ _ (by omega) (by omega)).trans ((t1.cell (p := ⟨w.heap.size + 1, 0 + j, none⟩) (show w.heap.size + 1 < W.heap.size by omega)).trans (hmem j u hu)))
      have vl' : VlC R listV (listC SBB) := listV_at (fun j u hu => (agW _ _ hSlo hShi).trans (t3 j u hu)) vin'
      have vt' : VlC R twoV (twoC w5.heap.size) := twoV_at (fun j u hu => (ouR _ _ (by omega)).trans (rowY j u hu)) vl'
      rw [show Y.setCells w.heap.size 0 (twoC w5.heap.size).toArray.toList = R from eR.symm]
      have hSR : R.rangeAt LBB 0 (listC SBB) := fun j u hu => (agW _ _ hLB t4).trans (t2 j u hu)
      refine ⟨hSR, ?_⟩
      refine wpAnyH_done (by kernel_rfl) ?_ _
      refine NoPanic.normal ?_
      simp only [List.getElem_toArray, List.getElem_cons_zero, List.getElem_cons_succ, Act.put, List.setIfInBounds_toArray, List.set_cons_zero, List.set_cons_succ]
      clear eR
      have Hf := hide (And.intro rowR (And.intro bR (And.intro vt' i9)))
      clear rowR bR vt' i9
      go_wp2_with fail
      refine bodyPost_ret (rgn.result_row rfl _ _ w.heap.size 0 (twoC w5.heap.size) _ rfl (unhide Hf).1 Try.underlying27 rfl (by simp [twoC, infoV])) rfl ?_
      exact ⟨(unhide Hf).2.1, _, rfl, (unhide Hf).2.2.1⟩
    · simp only [List.getElem_toArray, List.getElem_cons_zero, List.getElem_cons_succ, Act.put, List.setIfInBounds_toArray, List.set_cons_zero, List.set_cons_succ]
      refine wpO_alloc 27 (by rfl) _ (allocV _) ?_
      obtain ⟨X1, eX1⟩ : ∃ X1, X1 = w1.alloc (.cells #[.int .i64 0, .bool false, .int .i64 0, .float .f64 0, .string { data := #[] }, .string { data := #[] }, .slice none 0 0, .slice none 0 0] 27) := ⟨_, rfl⟩
      have thX1 : X1.there w1.heap.size 0 8 := by rw [eX1]; exact there_new rfl
      have sX1 : w1.heap.size + 1 ≤ X1.heap.size := by rw [eX1]; simp
      have bX1 : Below w1.heap.size w1 X1 := by rw [eX1]; exact (Below.refl _ _).alloc (Nat.le_refl _) _
      rw [← eX1]
      clear eX1
      have hS0 : Below W.heap.size W X1 := hS0.trans (bX1.mono hS0.size)
      refine ⟨hS0, ?_⟩
      simp only [List.getElem_toArray, List.getElem_cons_zero, List.getElem_cons_succ, Act.put, List.setIfInBounds_toArray, List.set_cons_zero, List.set_cons_succ]
      refine rgn.one (i := 2) _ rfl (by kernel_rfl) (by rfl) ?_
      simp only [List.getElem_toArray, List.getElem_cons_zero, List.getElem_cons_succ, Act.put, List.setIfInBounds_toArray, List.set_cons_zero, List.set_cons_succ]
      refine wpO_build2 24 _ _ (by rfl) (.agg (numC 1).toArray) (.agg (innerC (w.heap.size + 1)).toArray) _ (by rfl) (by rfl) (build2V (numV 1 rfl W) vin _) ?_
      obtain ⟨X2, eX2⟩ : ∃ X2, X2 = X1.alloc (.cells (numC 1 ++ innerC (w.heap.size + 1)).toArray 27) := ⟨_, rfl⟩
      have rowX2 : X2.rangeAt X1.heap.size 0 (numC 1 ++ innerC (w.heap.size + 1)) := by rw [eX2]; intro j u hu; rw [Nat.zero_add, World.cell?_alloc_at _ _ _ _ rfl]; simpa using hu
      have sX2 : X1.heap.size + 1 ≤ X2.heap.size := by rw [eX2]; simp
      have bX2 : Below X1.heap.size X1 X2 := by rw [eX2]; exact (Below.refl _ _).alloc (Nat.le_refl _) _
      rw [← eX2]
      clear eX2
      have hS0 : Below W.heap.size W X2 := hS0.trans (bX2.mono hS0.size)
      refine ⟨hS0, ?_⟩
      simp only [List.getElem_toArray, List.getElem_cons_zero, List.getElem_cons_succ, Act.put, List.setIfInBounds_toArray, List.set_cons_zero, List.set_cons_succ]
      refine rgn.take (i := 3) _ (.agg (listC X1.heap.size).toArray) rfl (by kernel_rfl) (by kernel_rfl) (by kernel_rfl) (fun _ _ _ h => h) (by rfl) hS0 (fun w' hw' => by simp only [listC]; go_simp) ?_
      simp only [List.getElem_toArray, List.getElem_cons_zero, List.getElem_cons_succ, Act.put, List.setIfInBounds_toArray, List.set_cons_zero, List.set_cons_succ]
      have thL : X2.there w1.heap.size 0 (listC X1.heap.size).toArray.size := there_below thX1 bX2 (by omega)
      have rowS := rowX2
      have hw := hSW1.size
      have hne : X1.heap.size ≠ w1.heap.size := by omega
      have hLs : w1.heap.size < X2.heap.size := by omega
      have hSs : X1.heap.size < X2.heap.size := by omega
      have hLlo : W.heap.size ≤ w1.heap.size := hw
      have hSlo : w.heap.size < X1.heap.size := by omega
      have hLB : w.heap.size < w1.heap.size := by omega
      refine rgn.one (i := 5) _ rfl (by kernel_rfl) (by rfl) ?_
      simp only [List.getElem_toArray, List.getElem_cons_zero, List.getElem_cons_succ, Act.put, List.setIfInBounds_toArray, List.set_cons_zero, List.set_cons_succ]
      refine wp_store_mid 27 _ _ (by rfl) w1.heap.size 0 (listC X1.heap.size).toArray (by rfl) (by rfl) thL (by simp [listC, infoV]) (by simp [listC, Value.oneCell']) ?_
      obtain ⟨L, eL⟩ : ∃ L, L = X2.setCells w1.heap.size 0 (listC X1.heap.size) := ⟨_, rfl⟩
      have t1 : Below W.heap.size W L := by rw [eL]; exact below_setCells _ _ _ _ hS0 hLlo
      have t2 : L.rangeAt w1.heap.size 0 (listC X1.heap.size) := by rw [eL]; exact World.rangeAt_setCells_same _ _ _ _ thL
      have t3 : L.rangeAt X1.heap.size 0 (numC 1 ++ innerC (w.heap.size + 1)) := by
        rw [eL]
        intro j u hu
        rw [World.cell?_setCells_out _ _ _ _ _ (fun e _ => absurd (show X1.heap.size = w1.heap.size from e) hne)]
        exact rowS j u hu
      have t4 : w1.heap.size < L.heap.size := by rw [eL, size_setCells]; exact hLs
      have hShi : X1.heap.size < L.heap.size := by rw [eL, size_setCells]; exact hSs
      rw [show X2.setCells w1.heap.size 0 (listC X1.heap.size).toArray.toList = L from eL.symm]
      refine ⟨t1, ?_⟩
      refine wpAnyH_done (by kernel_rfl) ?_ _
      refine NoPanic.normal ?_
      simp only [List.getElem_toArray, List.getElem_cons_zero, List.getElem_cons_succ, Act.put, List.setIfInBounds_toArray, List.set_cons_zero, List.set_cons_succ]
      obtain ⟨SBB, eSB⟩ : ∃ S, S = X1.heap.size := ⟨_, rfl⟩
      obtain ⟨LBB, eLB⟩ : ∃ S, S = w1.heap.size := ⟨_, rfl⟩
      rw [← eSB] at t2 t3 hShi hSlo ⊢
      rw [← eLB] at t2 t4 hLB ⊢
      clear eL eSB eLB
      have vl3 := listV_at t3 (VlC.below t1 _ _ vin)
      clear hS0 thL rowS hne hLs hLlo
      go_wp2_with fail
      have hS0 : ({ L with drawn := L.drawn + 1 } : World).rangeAt LBB 0 (listC SBB) := t2
      refine wp_region_noPanic ?_
      refine wp_region_held (S := fun w' => w'.rangeAt LBB 0 (listC SBB)) mixed ?_
      refine wpAnyH_take (i := 0) rfl (by kernel_rfl) (by kernel_rfl) (by kernel_rfl) (fun _ _ _ h => h) (yieldsIf_load_mid (by rfl) 27 _ (by rfl) LBB 0 (by rfl) (listC SBB) _ (fun w' hw' => hw') Try.underlying27 (by rfl) (by simp [listC, infoV])) hS0 ?_
      simp only [List.getElem_toArray, List.getElem_cons_zero, List.getElem_cons_succ, Act.put, List.setIfInBounds_toArray, List.set_cons_zero, List.set_cons_succ]
      refine rgn.take (i := 1) _ (.agg (Value.string { data := #[97] } :: listC SBB).toArray) rfl (by kernel_rfl) (by kernel_rfl) (by kernel_rfl) (fun _ _ _ h => h) (by rfl) hS0 (fun w' hw' => by clear hw'; simp only [listC]; go_simp) ?_
      simp only [List.getElem_toArray, List.getElem_cons_zero, List.getElem_cons_succ, Act.put, List.setIfInBounds_toArray, List.set_cons_zero, List.set_cons_succ]
      refine rgn.one (i := 2) _ rfl (by kernel_rfl) (by rfl) ?_
      simp only [List.getElem_toArray, List.getElem_cons_zero, List.getElem_cons_succ, Act.put, List.setIfInBounds_toArray, List.set_cons_zero, List.set_cons_succ]
      go_wp2_with fail
      refine (text_ok { data := #[120] } _).mono ?_
      rintro e w5 ⟨b5, rfl⟩
      have c5 : Below L.heap.size L w5 := (Below.refl _ _).drew.trans b5
      have hS0 : w5.rangeAt LBB 0 (listC SBB) := Row8.below t2 c5
      refine ⟨hS0, ?_⟩
      refine rgn.take (i := 3) _ (.agg (Value.string { data := #[99] } :: txtC { data := #[120] }).toArray) rfl (by kernel_rfl) (by kernel_rfl) (by kernel_rfl) (fun _ _ _ h => h) (by rfl) hS0 (fun w' hw' => by clear hw'; simp only [txtC]; go_simp) ?_
      simp only [List.getElem_toArray, List.getElem_cons_zero, List.getElem_cons_succ, Act.put, List.setIfInBounds_toArray, List.set_cons_zero, List.set_cons_succ]
      refine rgn.one (i := 4) _ rfl (by kernel_rfl) (by rfl) ?_
      simp only [List.getElem_toArray, List.getElem_cons_zero, List.getElem_cons_succ, Act.put, List.setIfInBounds_toArray, List.set_cons_zero, List.set_cons_succ]
      refine wpO_build2 25 _ _ (by rfl) (.agg (Value.string { data := #[97] } :: listC SBB).toArray) (.agg (Value.string { data := #[99] } :: txtC { data := #[120] }).toArray) _ (by rfl) (by rfl) (build2M { data := #[97] } { data := #[99] } vl3 (txtV { data := #[120] } (by decide) L) _) ?_
      obtain ⟨Y, eY⟩ : ∃ Y, Y = w5.alloc (.cells ((Value.string { data := #[97] } :: listC SBB) ++ (Value.string { data := #[99] } :: txtC { data := #[120] })).toArray 69) := ⟨_, rfl⟩
      have rowY : Y.rangeAt w5.heap.size 0 ((Value.string { data := #[97] } :: listC SBB) ++ (Value.string { data := #[99] } :: txtC { data := #[120] })) := by rw [eY]; intro j u hu; rw [Nat.zero_add, World.cell?_alloc_at _ _ _ _ rfl]; simpa using hu
      have bY : Below w5.heap.size w5 Y := by rw [eY]; exact (Below.refl _ _).alloc (Nat.le_refl _) _
      have sY : w5.heap.size + 1 ≤ Y.heap.size := by rw [eY]; simp
      rw [← eY]
      clear eY
      have hS0 : Y.rangeAt LBB 0 (listC SBB) := Row8.below hS0 bY
      refine ⟨hS0, ?_⟩
      simp only [List.getElem_toArray, List.getElem_cons_zero, List.getElem_cons_succ, Act.put, List.setIfInBounds_toArray, List.set_cons_zero, List.set_cons_succ]
      refine rgn.take (i := 5) _ (.agg (twoC w5.heap.size).toArray) rfl (by kernel_rfl) (by kernel_rfl) (by kernel_rfl) (fun _ _ _ h => h) (by rfl) hS0 (fun w' hw' => by clear hw'; simp only [twoC]; go_simp) ?_
      simp only [List.getElem_toArray, List.getElem_cons_zero, List.getElem_cons_succ, Act.put, List.setIfInBounds_toArray, List.set_cons_zero, List.set_cons_succ]
      refine rgn.one (i := 6) _ rfl (by kernel_rfl) (by rfl) ?_
      simp only [List.getElem_toArray, List.getElem_cons_zero, List.getElem_cons_succ, Act.put, List.setIfInBounds_toArray, List.set_cons_zero, List.set_cons_succ]
      have sW := t1.size
      have s5 := c5.size
      have thR : Y.there w.heap.size 0 (twoC w5.heap.size).toArray.size := there_below (there_below (there_below hth t1 (by omega)) c5 (by omega)) bY (by omega)
      have i9 : (Try.prog.info? 27).map (·.size) = some (twoC w5.heap.size).toArray.size := by simp [twoC, infoV]
      refine wp_store_mid 27 _ _ (by rfl) w.heap.size 0 (twoC w5.heap.size).toArray (by rfl) (by rfl) thR i9 (by simp [twoC, Value.oneCell']) ?_
      obtain ⟨R, eR⟩ : ∃ R, R = Y.setCells w.heap.size 0 (twoC w5.heap.size) := ⟨_, rfl⟩
      have rowR : R.rangeAt w.heap.size 0 (twoC w5.heap.size) := by rw [eR]; exact World.rangeAt_setCells_same _ _ _ _ thR
      have bR : Below w.heap.size w R := by rw [eR]; exact below_setCells _ _ _ _ (((bW.trans (t1.mono bW.size)).trans (c5.mono (by omega))).trans (bY.mono (by omega))) (Nat.le_refl _)
      have ouR : ∀ b j, w.heap.size < b → R.cell? ⟨b, j, none⟩ = Y.cell? ⟨b, j, none⟩ := fun b j hb => by rw [eR]; exact World.cell?_setCells_out _ _ _ _ _ (fun e _ => by have e : b = w.heap.size := e; omega)
      have agW : ∀ b j, w.heap.size < b → b < L.heap.size → R.cell? ⟨b, j, none⟩ = L.cell? ⟨b, j, none⟩ := fun b j h1 h2 => (ouR b j h1).trans ((bY.cell (p := ⟨b, j, none⟩) (show b < w5.heap.size by omega)).trans (c5.cell (p := ⟨b, j, none⟩) h2))
      have vin' : VlC R innerV (innerC (w.heap.size + 1)) := innerV_at (fun j u hu => (agW _ _ (by omega) (by omega)).trans ((t1.cell (p := ⟨w.heap.size + 1, 0 + j, none⟩) (show w.heap.size + 1 < W.heap.size by omega)).trans (hmem j u hu)))
      have vl' : VlC R listV (listC SBB) := listV_at (fun j u hu => (agW _ _ hSlo hShi).trans (t3 j u hu)) vin'
      have vt' : VlC R twoV (twoC w5.heap.size) := twoV_at (fun j u hu => (ouR _ _ (by omega)).trans (rowY j u hu)) vl'
      rw [show Y.setCells w.heap.size 0 (twoC w5.heap.size).toArray.toList = R from eR.symm]
      have hSR : R.rangeAt LBB 0 (listC SBB) := fun j u hu => (agW _ _ hLB t4).trans (t2 j u hu)
      refine ⟨hSR, ?_⟩
      refine wpAnyH_done (by kernel_rfl) ?_ _
      refine NoPanic.normal ?_
      simp only [List.getElem_toArray, List.getElem_cons_zero, List.getElem_cons_succ, Act.put, List.setIfInBounds_toArray, List.set_cons_zero, List.set_cons_succ]
      clear eR
      have Hf := hide (And.intro rowR (And.intro bR (And.intro vt' i9)))
      clear rowR bR vt' i9
      go_wp2_with fail
      refine bodyPost_ret (rgn.result_row rfl _ _ w.heap.size 0 (twoC w5.heap.size) _ rfl (unhide Hf).1 Try.underlying27 rfl (by simp [twoC, infoV])) rfl ?_
      exact ⟨(unhide Hf).2.1, _, rfl, (unhide Hf).2.2.1⟩
  · simp only [List.getElem_toArray, List.getElem_cons_zero, List.getElem_cons_succ, Act.put, List.setIfInBounds_toArray, List.set_cons_zero, List.set_cons_succ]
    refine wpO_alloc 27 (by rfl) _ (allocV _) ?_
    obtain ⟨X1, eX1⟩ : ∃ X1, X1 = ({ W with drawn := W.drawn + 1 } : World).alloc (.cells #[.int .i64 0, .bool false, .int .i64 0, .float .f64 0, .string { data := #[] }, .string { data := #[] }, .slice none 0 0, .slice none 0 0] 27) := ⟨_, rfl⟩
    have thX1 : X1.there W.heap.size 0 8 := by rw [eX1]; exact there_new (w := ({ W with drawn := W.drawn + 1 } : World)) rfl
    have sX1 : W.heap.size + 1 ≤ X1.heap.size := by rw [eX1]; simp
    have bX1 : Below W.heap.size W X1 := by rw [eX1]; exact (Below.refl W.heap.size W).drew.alloc (Nat.le_refl _) _
    rw [← eX1]
    clear eX1
    have hS0 : Below W.heap.size W X1 := bX1
    refine ⟨hS0, ?_⟩
    simp only [List.getElem_toArray, List.getElem_cons_zero, List.getElem_cons_succ, Act.put, List.setIfInBounds_toArray, List.set_cons_zero, List.set_cons_succ]
    refine rgn.one (i := 0) _ rfl (by kernel_rfl) (by rfl) ?_
    simp only [List.getElem_toArray, List.getElem_cons_zero, List.getElem_cons_succ, Act.put, List.setIfInBounds_toArray, List.set_cons_zero, List.set_cons_succ]
    go_wp2_with fail
    refine (num_ok 1 _).mono ?_
    rintro e w1 ⟨bw1, rfl⟩
    have hS0 : Below W.heap.size W w1 := hS0.trans (bw1.mono hS0.size)
    have hSW1 := hS0
    refine ⟨hS0, ?_⟩
    refine rgn.one (i := 2) _ rfl (by kernel_rfl) (by rfl) ?_
    simp only [List.getElem_toArray, List.getElem_cons_zero, List.getElem_cons_succ, Act.put, List.setIfInBounds_toArray, List.set_cons_zero, List.set_cons_succ]
    refine wpO_build2 24 _ _ (by rfl) (.agg (numC 1).toArray) (.agg (innerC (w.heap.size + 1)).toArray) _ (by rfl) (by rfl) (build2V (numV 1 rfl W) vin _) ?_
    obtain ⟨X2, eX2⟩ : ∃ X2, X2 = w1.alloc (.cells (numC 1 ++ innerC (w.heap.size + 1)).toArray 27) := ⟨_, rfl⟩
    have rowX2 : X2.rangeAt w1.heap.size 0 (numC 1 ++ innerC (w.heap.size + 1)) := by rw [eX2]; intro j u hu; rw [Nat.zero_add, World.cell?_alloc_at _ _ _ _ rfl]; simpa using hu
    have sX2 : w1.heap.size + 1 ≤ X2.heap.size := by rw [eX2]; simp
    have bX2 : Below w1.heap.size w1 X2 := by rw [eX2]; exact (Below.refl _ _).alloc (Nat.le_refl _) _
    rw [← eX2]
    clear eX2
    have hS0 : Below W.heap.size W X2 := hS0.trans (bX2.mono hS0.size)
    refine ⟨hS0, ?_⟩
    simp only [List.getElem_toArray, List.getElem_cons_zero, List.getElem_cons_succ, Act.put, List.setIfInBounds_toArray, List.set_cons_zero, List.set_cons_succ]
    refine rgn.take (i := 3) _ (.agg (listC w1.heap.size).toArray) rfl (by kernel_rfl) (by kernel_rfl) (by kernel_rfl) (fun _ _ _ h => h) (by rfl) hS0 (fun w' hw' => by simp only [listC]; go_simp) ?_
    simp only [List.getElem_toArray, List.getElem_cons_zero, List.getElem_cons_succ, Act.put, List.setIfInBounds_toArray, List.set_cons_zero, List.set_cons_succ]
    have sw1 := bw1.size
    have thL : X2.there W.heap.size 0 (listC w1.heap.size).toArray.size := there_below (there_below thX1 bw1 (by omega)) bX2 (by omega)
    have rowS := rowX2
    have hne : w1.heap.size ≠ W.heap.size := by omega
    have hLs : W.heap.size < X2.heap.size := by omega
    have hSs : w1.heap.size < X2.heap.size := by omega
    have hLlo : W.heap.size ≤ W.heap.size := Nat.le_refl _
    have hSlo : w.heap.size < w1.heap.size := by omega
    have hLB : w.heap.size < W.heap.size := by omega
    refine rgn.one (i := 5) _ rfl (by kernel_rfl) (by rfl) ?_
    simp only [List.getElem_toArray, List.getElem_cons_zero, List.getElem_cons_succ, Act.put, List.setIfInBounds_toArray, List.set_cons_zero, List.set_cons_succ]
    refine wp_store_mid 27 _ _ (by rfl) W.heap.size 0 (listC w1.heap.size).toArray (by rfl) (by rfl) thL (by simp [listC, infoV]) (by simp [listC, Value.oneCell']) ?_
    obtain ⟨L, eL⟩ : ∃ L, L = X2.setCells W.heap.size 0 (listC w1.heap.size) := ⟨_, rfl⟩
    have t1 : Below W.heap.size W L := by rw [eL]; exact below_setCells _ _ _ _ hS0 hLlo
    have t2 : L.rangeAt W.heap.size 0 (listC w1.heap.size) := by rw [eL]; exact World.rangeAt_setCells_same _ _ _ _ thL
    have t3 : L.rangeAt w1.heap.size 0 (numC 1 ++ innerC (w.heap.size + 1)) := by
      rw [eL]
      intro j u hu
      rw [World.cell?_setCells_out _ _ _ _ _ (fun e _ => absurd (show w1.heap.size = W.heap.size from e) hne)]
      exact rowS j u hu
    have t4 : W.heap.size < L.heap.size := by rw [eL, size_setCells]; exact hLs
    have hShi : w1.heap.size < L.heap.size := by rw [eL, size_setCells]; exact hSs
    rw [show X2.setCells W.heap.size 0 (listC w1.heap.size).toArray.toList = L from eL.symm]
    refine ⟨t1, ?_⟩
    refine wpAnyH_done (by kernel_rfl) ?_ _
    refine NoPanic.normal ?_
    simp only [List.getElem_toArray, List.getElem_cons_zero, List.getElem_cons_succ, Act.put, List.setIfInBounds_toArray, List.set_cons_zero, List.set_cons_succ]
    obtain ⟨SBB, eSB⟩ : ∃ S, S = w1.heap.size := ⟨_, rfl⟩
    obtain ⟨LBB, eLB⟩ : ∃ S, S = W.heap.size := ⟨_, rfl⟩
    rw [← eSB] at t2 t3 hShi hSlo ⊢
    rw [← eLB] at t2 t4 hLB ⊢
    clear eL eSB eLB
    have vl3 := listV_at t3 (VlC.below t1 _ _ vin)
    clear hS0 thL rowS hne hLs hLlo
    go_wp2_with fail
    have hS0 : ({ L with drawn := L.drawn + 1 } : World).rangeAt LBB 0 (listC SBB) := t2
    refine wp_region_noPanic ?_
    refine wp_region_held (S := fun w' => w'.rangeAt LBB 0 (listC SBB)) mixed ?_
    refine wpAnyH_take (i := 0) rfl (by kernel_rfl) (by kernel_rfl) (by kernel_rfl) (fun _ _ _ h => h) (yieldsIf_load_mid (by rfl) 27 _ (by rfl) LBB 0 (by rfl) (listC SBB) _ (fun w' hw' => hw') Try.underlying27 (by rfl) (by simp [listC, infoV])) hS0 ?_
    simp only [List.getElem_toArray, List.getElem_cons_zero, List.getElem_cons_succ, Act.put, List.setIfInBounds_toArray, List.set_cons_zero, List.set_cons_succ]
    refine rgn.take (i := 1) _ (.agg (Value.string { data := #[97] } :: listC SBB).toArray) rfl (by kernel_rfl) (by kernel_rfl) (by kernel_rfl) (fun _ _ _ h => h) (by rfl) hS0 (fun w' hw' => by clear hw'; simp only [listC]; go_simp) ?_
    simp only [List.getElem_toArray, List.getElem_cons_zero, List.getElem_cons_succ, Act.put, List.setIfInBounds_toArray, List.set_cons_zero, List.set_cons_succ]
    refine rgn.one (i := 2) _ rfl (by kernel_rfl) (by rfl) ?_
    simp only [List.getElem_toArray, List.getElem_cons_zero, List.getElem_cons_succ, Act.put, List.setIfInBounds_toArray, List.set_cons_zero, List.set_cons_succ]
    go_wp2_with fail
    refine (text_ok { data := #[120] } _).mono ?_
    rintro e w5 ⟨b5, rfl⟩
    have c5 : Below L.heap.size L w5 := (Below.refl _ _).drew.trans b5
    have hS0 : w5.rangeAt LBB 0 (listC SBB) := Row8.below t2 c5
    refine ⟨hS0, ?_⟩
    refine rgn.take (i := 3) _ (.agg (Value.string { data := #[99] } :: txtC { data := #[120] }).toArray) rfl (by kernel_rfl) (by kernel_rfl) (by kernel_rfl) (fun _ _ _ h => h) (by rfl) hS0 (fun w' hw' => by clear hw'; simp only [txtC]; go_simp) ?_
    simp only [List.getElem_toArray, List.getElem_cons_zero, List.getElem_cons_succ, Act.put, List.setIfInBounds_toArray, List.set_cons_zero, List.set_cons_succ]
    refine rgn.one (i := 4) _ rfl (by kernel_rfl) (by rfl) ?_
    simp only [List.getElem_toArray, List.getElem_cons_zero, List.getElem_cons_succ, Act.put, List.setIfInBounds_toArray, List.set_cons_zero, List.set_cons_succ]
    refine wpO_build2 25 _ _ (by rfl) (.agg (Value.string { data := #[97] } :: listC SBB).toArray) (.agg (Value.string { data := #[99] } :: txtC { data := #[120] }).toArray) _ (by rfl) (by rfl) (build2M { data := #[97] } { data := #[99] } vl3 (txtV { data := #[120] } (by decide) L) _) ?_
    obtain ⟨Y, eY⟩ : ∃ Y, Y = w5.alloc (.cells ((Value.string { data := #[97] } :: listC SBB) ++ (Value.string { data := #[99] } :: txtC { data := #[120] })).toArray 69) := ⟨_, rfl⟩
    have rowY : Y.rangeAt w5.heap.size 0 ((Value.string { data := #[97] } :: listC SBB) ++ (Value.string { data := #[99] } :: txtC { data := #[120] })) := by rw [eY]; intro j u hu; rw [Nat.zero_add, World.cell?_alloc_at _ _ _ _ rfl]; simpa using hu
    have bY : Below w5.heap.size w5 Y := by rw [eY]; exact (Below.refl _ _).alloc (Nat.le_refl _) _
    have sY : w5.heap.size + 1 ≤ Y.heap.size := by rw [eY]; simp
    rw [← eY]
    clear eY
    have hS0 : Y.rangeAt LBB 0 (listC SBB) := Row8.below hS0 bY
    refine ⟨hS0, ?_⟩
    simp only [List.getElem_toArray, List.getElem_cons_zero, List.getElem_cons_succ, Act.put, List.setIfInBounds_toArray, List.set_cons_zero, List.set_cons_succ]
    refine rgn.take (i := 5) _ (.agg (twoC w5.heap.size).toArray) rfl (by kernel_rfl) (by kernel_rfl) (by kernel_rfl) (fun _ _ _ h => h) (by rfl) hS0 (fun w' hw' => by clear hw'; simp only [twoC]; go_simp) ?_
    simp only [List.getElem_toArray, List.getElem_cons_zero, List.getElem_cons_succ, Act.put, List.setIfInBounds_toArray, List.set_cons_zero, List.set_cons_succ]
    refine rgn.one (i := 6) _ rfl (by kernel_rfl) (by rfl) ?_
    simp only [List.getElem_toArray, List.getElem_cons_zero, List.getElem_cons_succ, Act.put, List.setIfInBounds_toArray, List.set_cons_zero, List.set_cons_succ]
    have sW := t1.size
    have s5 := c5.size
    have thR : Y.there w.heap.size 0 (twoC w5.heap.size).toArray.size := there_below (there_below (there_below hth t1 (by omega)) c5 (by omega)) bY (by omega)
    have i9 : (Try.prog.info? 27).map (·.size) = some (twoC w5.heap.size).toArray.size := by simp [twoC, infoV]
    refine wp_store_mid 27 _ _ (by rfl) w.heap.size 0 (twoC w5.heap.size).toArray (by rfl) (by rfl) thR i9 (by simp [twoC, Value.oneCell']) ?_
    obtain ⟨R, eR⟩ : ∃ R, R = Y.setCells w.heap.size 0 (twoC w5.heap.size) := ⟨_, rfl⟩
    have rowR : R.rangeAt w.heap.size 0 (twoC w5.heap.size) := by rw [eR]; exact World.rangeAt_setCells_same _ _ _ _ thR
    have bR : Below w.heap.size w R := by rw [eR]; exact below_setCells _ _ _ _ (((bW.trans (t1.mono bW.size)).trans (c5.mono (by omega))).trans (bY.mono (by omega))) (Nat.le_refl _)
    have ouR : ∀ b j, w.heap.size < b → R.cell? ⟨b, j, none⟩ = Y.cell? ⟨b, j, none⟩ := fun b j hb => by rw [eR]; exact World.cell?_setCells_out _ _ _ _ _ (fun e _ => by have e : b = w.heap.size := e; omega)
    have agW : ∀ b j, w.heap.size < b → b < L.heap.size → R.cell? ⟨b, j, none⟩ = L.cell? ⟨b, j, none⟩ := fun b j h1 h2 => (ouR b j h1).trans ((bY.cell (p := ⟨b, j, none⟩) (show b < w5.heap.size by omega)).trans (c5.cell (p := ⟨b, j, none⟩) h2))
    have vin' : VlC R innerV (innerC (w.heap.size + 1)) := innerV_at (fun j u hu => (agW _ _ (by omega) (by omega)).trans ((t1.cell (p := ⟨w.heap.size + 1, 0 + j, none⟩) (show w.heap.size + 1 < W.heap.size by omega)).trans (hmem j u hu)))
    have vl' : VlC R listV (listC SBB) := listV_at (fun j u hu => (agW _ _ hSlo hShi).trans (t3 j u hu)) vin'
    have vt' : VlC R twoV (twoC w5.heap.size) := twoV_at (fun j u hu => (ouR _ _ (by omega)).trans (rowY j u hu)) vl'
    rw [show Y.setCells w.heap.size 0 (twoC w5.heap.size).toArray.toList = R from eR.symm]
    have hSR : R.rangeAt LBB 0 (listC SBB) := fun j u hu => (agW _ _ hLB t4).trans (t2 j u hu)
    refine ⟨hSR, ?_⟩
    refine wpAnyH_done (by kernel_rfl) ?_ _
    refine NoPanic.normal ?_
    simp only [List.getElem_toArray, List.getElem_cons_zero, List.getElem_cons_succ, Act.put, List.setIfInBounds_toArray, List.set_cons_zero, List.set_cons_succ]
    clear eR
    have Hf := hide (And.intro rowR (And.intro bR (And.intro vt' i9)))
    clear rowR bR vt' i9
    go_wp2_with fail
    refine bodyPost_ret (rgn.result_row rfl _ _ w.heap.size 0 (twoC w5.heap.size) _ rfl (unhide Hf).1 Try.underlying27 rfl (by simp [twoC, infoV])) rfl ?_
    exact ⟨(unhide Hf).2.1, _, rfl, (unhide Hf).2.2.1⟩
end Go.Proofs.Ythpcpminikmcbaa.vl
namespace Go.Proofs.Ythpcpminikmcbaa.og
open Go.ChangeShapes Go.WideShapes Go.ChangeAt Go.RowKit
open vl hiding cB cFl cS cF cI cK cIt
set_option linter.unusedVariables false
set_option linter.unusedSimpArgs false
theorem two_eq : (ordV twoV twoV == 0) = true := by rw [ordV_self]; rfl
theorem two_ne : (ordV twoV (turnV twoV) == 0) = false := by kernel_rfl
theorem two_cnt : wrap64 (cnt twoV : Nat) = 6 := by
  have : cnt twoV = 6 := by kernel_rfl
  rw [this]
  unfold wrap64
  omega
theorem two_dep : depW twoV = 3 := by kernel_rfl
set_option maxHeartbeats 4000000 in
set_option maxRecDepth 6000 in
theorem known_ok (w : World) : Calls Try.prog 12 #[] w fun e w' => e = .returned (.bool true) ∧ Below w.heap.size w w' := by
  go_enter Try.func12, Try.ntmps12
  go_wp2_with fail
  refine (two_ok _).mono ?_
  rintro e w1 ⟨b1, t1, rfl, v1⟩
  generalize twoC t1 = c1 at *
  go_wp2_with fail
  refine (two_ok _).mono ?_
  rintro e w2 ⟨b2, t2, rfl, v2⟩
  generalize twoC t2 = c2 at *
  go_wp2_with fail
  refine (equal_ok twoV twoV Small.twoV Small.twoV _ _ _ (VlC.below b2 _ _ v1) v2).mono ?_
  rintro e w3 ⟨rfl, b3⟩
  rw [two_eq]
  have B3 : Below w.heap.size w w3 := (b1.trans (b2.mono b1.size)).trans (b3.mono (Nat.le_trans b1.size b2.size))
  clear b1 b2 b3 v1 v2
  go_wp2_with fail
  refine (two_ok _).mono ?_
  rintro e w4 ⟨b4, t3, rfl, v3⟩
  generalize twoC t3 = c3 at *
  go_wp2_with fail
  refine (two_ok _).mono ?_
  rintro e w5 ⟨b5, t4, rfl, v4⟩
  generalize twoC t4 = c4 at *
  go_wp2_with fail
  refine (turned_ok twoV Small.twoV (fun _ => False) c4 _ (fun b hb => hb.elim) (AvC.of _ _ v4)).mono ?_
  rintro e w6 ⟨u, d4, rfl, rfl, a4, b6⟩
  go_wp2_with fail
  refine (equal_ok twoV (turnV twoV) Small.twoV (Small.turn _ Small.twoV) _ _ _ (VlC.below b6 _ _ (VlC.below b5 _ _ v3)) (AvC.read _ _ a4)).mono ?_
  rintro e w7 ⟨rfl, b7⟩
  rw [two_ne]
  have B7 : Below w.heap.size w w7 := by
    have s4 := b4.size; have s5 := b5.size; have s6 := b6.size; have s3 := B3.size
    exact (((B3.trans (b4.mono s3)).trans (b5.mono (by omega))).trans (b6.mono (by omega))).trans (b7.mono (by omega))
  clear b4 b5 b6 b7 v3 v4 a4 B3
  go_wp2_with fail
  refine (two_ok _).mono ?_
  rintro e w8 ⟨b8, t5, rfl, v5⟩
  generalize twoC t5 = c5 at *
  go_wp2_with fail
  refine (two_ok _).mono ?_
  rintro e w9 ⟨b9, t6, rfl, v6⟩
  generalize twoC t6 = c6 at *
  go_wp2_with fail
  refine (turned_ok twoV Small.twoV (fun _ => False) c6 _ (fun b hb => hb.elim) (AvC.of _ _ v6)).mono ?_
  rintro e wa ⟨u, d6, rfl, rfl, a6, ba⟩
  go_wp2_with fail
  refine (same_ok twoV (turnV twoV) Small.twoV (Small.turn _ Small.twoV) _ _ _ (VlC.below ba _ _ (VlC.below b9 _ _ v5)) (AvC.read _ _ a6)).mono ?_
  rintro e wb ⟨v', u', h1, h2, rfl, bb⟩
  rw [show (ordV v' u' == 0) = true by rw [pm_srt twoV Small.twoV _ (Small.turn _ Small.twoV) (Pm.turn twoV) v' u' h1 h2]; rfl]
  have Bb : Below w.heap.size w wb := by
    have s4 := b8.size; have s5 := b9.size; have s6 := ba.size; have s3 := B7.size
    exact (((B7.trans (b8.mono s3)).trans (b9.mono (by omega))).trans (ba.mono (by omega))).trans (bb.mono (by omega))
  clear b8 b9 ba bb v5 v6 a6 B7 h1 h2
  go_wp2_with fail
  refine (two_ok _).mono ?_
  rintro e wc ⟨bc, t7, rfl, v7⟩
  generalize twoC t7 = c7 at *
  go_wp2_with fail
  refine (count_ok twoV Small.twoV _ _ v7).mono ?_
  rintro e wd ⟨rfl, bd⟩
  rw [two_cnt]
  have Bd : Below w.heap.size w wd := (Bb.trans (bc.mono Bb.size)).trans (bd.mono (Nat.le_trans Bb.size bc.size))
  clear bc bd Bb v7
  go_wp2_with fail
  refine (two_ok _).mono ?_
  rintro e we ⟨be, t8, rfl, v8⟩
  generalize twoC t8 = c8 at *
  go_wp2_with fail
  refine (depth_ok twoV Small.twoV _ _ v8).mono ?_
  rintro e wf ⟨rfl, bf⟩
  rw [two_dep]
  have Bf : Below w.heap.size w wf := (Bd.trans (be.mono Bd.size)).trans (bf.mono (Nat.le_trans Bd.size be.size))
  clear be bf Bd v8
  go_wp2
  go_ret
  exact ⟨rfl, Bf⟩
end Go.Proofs.Ythpcpminikmcbaa.og
namespace Go.Proofs.Ythpcpminikmcbaa.og
open Go.ChangeShapes Go.WideShapes Go.ChangeAt Go.RowKit
open vl hiding cB cFl cS cF cI cK cIt
set_option linter.unusedVariables false
set_option linter.unusedSimpArgs false
/-- what was there is there -/
def Gb (a w : World) : Prop := Below a.heap.size a w
theorem Gb.refl (a : World) : Gb a a := Below.refl _ _
theorem Gb.drew {a w : World} (h : Gb a w) : Gb a { w with drawn := w.drawn + 1 } := Below.drew h
theorem Gb.size {a w : World} (h : Gb a w) : a.heap.size ≤ w.heap.size := Below.size h
theorem Gb.trans {a w x : World} (h : Gb a w) (k : Below a.heap.size w x) : Gb a x := Below.trans h k
theorem sum_perm {l m : List Nat} (h : l.Perm m) : l.sum = m.sum := by
  induction h with
  | nil => rfl
  | cons x _ ih => simp [ih]
  | swap x y l => simp; omega
  | trans _ _ h1 h2 => exact h1.trans h2
theorem fmax_perm {l m : List Int} (h : l.Perm m) : ∀ a : Int, l.foldl max a = m.foldl max a := by
  induction h with
  | nil => intro a; rfl
  | cons x _ ih => intro a; exact ih _
  | swap x y l => intro a; simp only [List.foldl_cons]; rw [show max (max a y) x = max (max a x) y by omega]
  | trans _ _ h1 h2 => intro a; exact (h1 a).trans (h2 a)
theorem cnt_turn : ∀ v : Vl, cnt (turnV v) = cnt v := by
  refine Vl.all ?_
  intro kd b n f tx ty its fls hI hF
  rw [turnV, cnt, cnt, cntI_sum, cntI_sum, cntF_sum, cntF_sum, turnI_list, turnF_list]
  have e1 : ((its.list.map turnV).map cnt) = its.list.map cnt := by
    rw [List.map_map]; exact List.map_congr_left (fun v hv => hI v hv)
  have e2 : ((fls.list.reverse.map (fun q => (q.1, turnV q.2)) ++ (Fls.nil).list).map (fun q => cnt q.2)).sum = (fls.list.map (fun q => cnt q.2)).sum := by
    simp only [Fls.list, List.append_nil, List.map_map]
    rw [show fls.list.reverse.map ((fun q : ByteArray × Vl => cnt q.2) ∘ fun q => (q.1, turnV q.2)) = fls.list.reverse.map (fun q => cnt q.2) from List.map_congr_left (fun q hq => hF q (List.mem_reverse.1 hq))]
    exact sum_perm ((List.reverse_perm _).map _)
  rw [e1, e2]
theorem dep_turn : ∀ v : Vl, depW (turnV v) = depW v := by
  refine Vl.all ?_
  intro kd b n f tx ty its fls hI hF
  rw [turnV, depW, depW, mxI_fold, mxI_fold, mxF_fold, mxF_fold, turnI_list, turnF_list]
  have e1 : ((its.list.map turnV).map depW) = its.list.map depW := by
    rw [List.map_map]; exact List.map_congr_left (fun v hv => hI v hv)
  have e2 : ((fls.list.reverse.map (fun q => (q.1, turnV q.2)) ++ (Fls.nil).list).map (fun q => depW q.2)).foldl max 0 = (fls.list.map (fun q => depW q.2)).foldl max 0 := by
    simp only [Fls.list, List.append_nil, List.map_map]
    rw [show fls.list.reverse.map ((fun q : ByteArray × Vl => depW q.2) ∘ fun q => (q.1, turnV q.2)) = fls.list.reverse.map (fun q => depW q.2) from List.map_congr_left (fun q hq => hF q (List.mem_reverse.1 hq))]
    exact fmax_perm ((List.reverse_perm _).map _) 0
  rw [e1, e2]
open Classical in
/-- what tree.Same answers -/
noncomputable def smB (v u : Vl) : Bool := decide (∃ v' u', Srt v v' ∧ Srt u u' ∧ ordV v' u' = 0)
theorem srt_lvl {v v1 v2 : Vl} (hv : Small v) (h1 : Srt v v1) (h2 : Srt v v2) : ordV v1 v2 = 0 := pm_srt v hv v hv (Pm.refl v) v1 v2 h1 h2
theorem ordV_zero_trans {a b c : Vl} (ha : Small a) (hb : Small b) (hc : Small c) (h : ordV a b = 0) (k : ordV b c = 0) : ordV a c = 0 := ((Tr.ordV a ha b hb c hc).1 h).trans k
theorem ordV_zero_symm {a b : Vl} (ha : Small a) (hb : Small b) (h : ordV a b = 0) : ordV b a = 0 := by rw [ordV_anti a b ha hb, h]; rfl
theorem smB_of {v u v' u' : Vl} (hv : Small v) (hu : Small u) (h1 : Srt v v') (h2 : Srt u u') : smB v u = (ordV v' u' == 0) := by
  unfold smB
  by_cases h : ordV v' u' = 0
  · rw [h]
    exact @decide_eq_true _ (_) ⟨v', u', h1, h2, h⟩
  · rw [show (ordV v' u' == 0) = false by simpa using h]
    refine @decide_eq_false _ (_) ?_
    rintro ⟨a, b, ka, kb, k⟩
    have sa := Srt.small _ _ hv ka
    have sb := Srt.small _ _ hu kb
    have s1 := Srt.small _ _ hv h1
    have s2 := Srt.small _ _ hu h2
    exact h (ordV_zero_trans s1 sa s2 (srt_lvl hv h1 ka) (ordV_zero_trans sa sb s2 k (srt_lvl hu kb h2)))
theorem same_okB (v u : Vl) (hv : Small v) (hu : Small u) (cs ds : List Value) (w : World) (h1 : VlC w v cs) (h2 : VlC w u ds) : Calls Try.prog 29 #[.agg cs.toArray, .agg ds.toArray] w fun e w' => e = .returned (.bool (smB v u)) ∧ Below w.heap.size w w' ∧ (∃ v', Srt v v') ∧ ∃ u', Srt u u' :=
  (same_ok v u hv hu cs ds w h1 h2).mono fun e w' ⟨v', u', k1, k2, k3, k4⟩ => ⟨by rw [smB_of hv hu k1 k2]; exact k3, k4, ⟨v', k1⟩, ⟨u', k2⟩⟩
theorem smB_pm {v u : Vl} (hv : Small v) (hu : Small u) (hp : Pm v u) (h1 : ∃ v', Srt v v') (h2 : ∃ u', Srt u u') : smB v u = true := by
  obtain ⟨v', h1⟩ := h1
  obtain ⟨u', h2⟩ := h2
  rw [smB_of hv hu h1 h2, pm_srt v hv u hu hp v' u' h1 h2]
  rfl
theorem smB_symm {v u : Vl} (hv : Small v) (hu : Small u) : smB u v = smB v u := by
  unfold smB
  refine (@decide_eq_decide _ _ (_) (_)).2 ⟨?_, ?_⟩
  · rintro ⟨a, b, ka, kb, k⟩
    exact ⟨b, a, kb, ka, ordV_zero_symm (Srt.small _ _ hu ka) (Srt.small _ _ hv kb) k⟩
  · rintro ⟨a, b, ka, kb, k⟩
    exact ⟨b, a, kb, ka, ordV_zero_symm (Srt.small _ _ hv ka) (Srt.small _ _ hu kb) k⟩
theorem smB_left {v t u : Vl} (hv : Small v) (ht : Small t) (hu : Small u) (hp : Pm v t) (h1 : ∃ v', Srt v v') (h2 : ∃ u', Srt t u') : smB t u = smB v u := by
  unfold smB
  obtain ⟨x, h1⟩ := h1
  obtain ⟨y, h2⟩ := h2
  have sx := Srt.small _ _ hv h1
  have sy := Srt.small _ _ ht h2
  refine (@decide_eq_decide _ _ (_) (_)).2 ⟨?_, ?_⟩
  · rintro ⟨a, b, ka, kb, k⟩
    exact ⟨x, b, h1, kb, ordV_zero_trans sx (Srt.small _ _ ht ka) (Srt.small _ _ hu kb) (pm_srt v hv t ht hp x a h1 ka) k⟩
  · rintro ⟨a, b, ka, kb, k⟩
    exact ⟨y, b, h2, kb, ordV_zero_trans sy (Srt.small _ _ hv ka) (Srt.small _ _ hu kb) (ordV_zero_symm (Srt.small _ _ hv ka) sy (pm_srt v hv t ht hp a y ka h2)) k⟩
end Go.Proofs.Ythpcpminikmcbaa.og
namespace Go.Proofs.Ythpcpminikmcbaa.og
open Go.ChangeShapes Go.WideShapes Go.ChangeAt Go.RowKit
open vl hiding cB cFl cS cF cI cK cIt
open stp (c3 c3_lt c3_gt c3_eq cB cB_tri)
open mem (dec_fin dec_inf dec_nan word_of order_fin sv)
set_option linter.unusedVariables false
set_option linter.unusedSimpArgs false
set_option maxHeartbeats 4000000 in
theorem rkind_ok (v : Vl) (cs : List Value) (w w0 : World) (hv : VlC w0 v cs) : Calls Try.prog 88 #[.agg cs.toArray] w fun e w' => e = .returned (.int .i64 (kdV v)) ∧ Below w.heap.size w w' := by
  obtain ⟨kd, b, n, f, tx, ty, its, fls⟩ := v
  unfold VlC at hv
  obtain ⟨ai, ni, ci, af, nf, cf, rfl, -⟩ := hv
  unfold kdV
  have hB : Below w.heap.size w (w.alloc (.cells #[.int .i64 kd, .bool b, .int .i64 n, .float .f64 f, .string tx, .string ty, .slice ai ni ci, .slice af nf cf] 27)) := (Below.refl _ _).alloc (Nat.le_refl _) _
  by_cases h1 : kd < 0
  · have hr := hide (show kdOf kd = 0 by unfold kdOf; rw [if_pos (.inl h1)])
    go_enter Try.func88, Try.ntmps88
    go_wp2
    go_ret
    exact ⟨by rw [unhide hr]; rfl, hB⟩
  · by_cases h2 : 7 < kd
    · have hr := hide (show kdOf kd = 0 by unfold kdOf; rw [if_pos (.inr h2)])
      go_enter Try.func88, Try.ntmps88
      go_wp2
      go_ret
      exact ⟨by rw [unhide hr]; rfl, hB⟩
    · have hr := hide (show kdOf kd = kd by unfold kdOf; rw [if_neg (by omega)])
      go_enter Try.func88, Try.ntmps88
      go_wp2
      go_ret
      exact ⟨by rw [unhide hr]; rfl, hB⟩
theorem keyF_inj (a b : Nat) (ha : a < 18446744073709551616) (hb : b < 18446744073709551616) (na : nanF a = false) (nb : nanF b = false) (h : keyF a = keyF b) : a = b := by
  unfold keyF at h
  rw [na, nb] at h
  simp only [Bool.false_eq_true, if_false] at h
  by_cases h1 : 9223372036854775808 ≤ a <;> by_cases h2 : 9223372036854775808 ≤ b <;> simp only [h1, h2, if_true, if_false] at h <;> omega
theorem cFl_num (a b : Nat) (ha : a < 18446744073709551616) (hb : b < 18446744073709551616) (na : nanF a = false) (nb : nanF b = false) : (cFl a b == 0) = (a == b) := by
  by_cases h : a = b
  · subst h
    simp [cFl, sameF]
  · rw [show (a == b) = false by simpa using h, cFl_key a b ha hb]
    have : c3 (keyF a) (keyF b) ≠ 0 := fun e => h (keyF_inj a b ha hb na nb (c3_zero e))
    simpa using this
theorem cFl_one (a b : Nat) (ha : a < 18446744073709551616) (hb : b < 18446744073709551616) (h : nanF a ≠ nanF b) : (cFl a b == 0) = false := by
  have : c3 (keyF a) (keyF b) ≠ 0 := fun e => by
    have e := c3_zero e
    unfold keyF at e
    cases ha' : nanF a <;> cases hb' : nanF b <;> simp only [ha', hb', Bool.false_eq_true, if_false, if_true] at e h
    · exact h rfl
    · split at e <;> omega
    · split at e <;> omega
    · exact h rfl
  rw [cFl_key a b ha hb]
  simpa using this
theorem cFl_two (a b : Nat) (na : nanF a = true) (nb : nanF b = true) : (cFl a b == 0) = true := by
  simp [cFl, sameF, na, nb]
theorem ord_eq (a b : Nat) (ha : a < 18446744073709551616) (hb : b < 18446744073709551616) (na : nanF a = false) (nb : nanF b = false) (hz : ¬ (a % 9223372036854775808 = 0 ∧ b % 9223372036854775808 = 0)) : (FloatKind.f64.format.order a b == some Ordering.eq) = (a == b) := by
  by_cases h : a = b
  · subst h
    rw [(ordSelf a ha).2, na]
    simp
  · rw [show (a == b) = false by simpa using h]
    have nA : a % 9223372036854775808 ≤ 9218868437227405312 := by unfold nanF at na; simpa using na
    have nB : b % 9223372036854775808 ≤ 9218868437227405312 := by unfold nanF at nb; simpa using nb
    have ho := ord_num (sgn a) (sgn b) _ _ nA nB
    unfold sgn at ho
    rw [word_of a ha, word_of b hb] at ho
    rw [ho]
    have vm : ∀ x y : Nat, x < y → mem.vR x < mem.vR y := fun x y h => mem.vR_mono h
    have z0 : mem.vR 0 = 0 := by simp [mem.vR, mem.mantR, mem.b52]
    have hzz : ∀ x : Nat, mem.vR x = 0 → x = 0 := fun x hx => by
      rcases Nat.eq_zero_or_pos x with h | h
      · exact h
      · have := vm 0 x h; omega
    have inj : ∀ x y : Nat, mem.vR x = mem.vR y → x = y := fun x y hx => by
      rcases Nat.lt_trichotomy x y with h | h | h
      · have := vm _ _ h; omega
      · exact h
      · have := vm _ _ h; omega
    have hne : sv (decide (9223372036854775808 ≤ a)) (mem.vR (a % 9223372036854775808)) ≠ sv (decide (9223372036854775808 ≤ b)) (mem.vR (b % 9223372036854775808)) := by
      intro e
      by_cases sa : 9223372036854775808 ≤ a <;> by_cases sb : 9223372036854775808 ≤ b <;> simp only [sa, sb, decide_true, decide_false, sv, if_true, if_false, Bool.false_eq_true] at e
      · have := inj _ _ (show mem.vR (a % 9223372036854775808) = mem.vR (b % 9223372036854775808) by omega); omega
      · have h1 := hzz _ (show mem.vR (a % 9223372036854775808) = 0 by omega)
        have h2 := hzz _ (show mem.vR (b % 9223372036854775808) = 0 by omega)
        exact hz ⟨h1, h2⟩
      · have h1 := hzz _ (show mem.vR (a % 9223372036854775808) = 0 by omega)
        have h2 := hzz _ (show mem.vR (b % 9223372036854775808) = 0 by omega)
        exact hz ⟨h1, h2⟩
      · have := inj _ _ (show mem.vR (a % 9223372036854775808) = mem.vR (b % 9223372036854775808) by omega); omega
    have : compare (sv (decide (9223372036854775808 ≤ a)) (mem.vR (a % 9223372036854775808))) (sv (decide (9223372036854775808 ≤ b)) (mem.vR (b % 9223372036854775808))) ≠ Ordering.eq := fun e => hne (Int.compare_eq_eq.1 e)
    generalize compare (sv (decide (9223372036854775808 ≤ a)) (mem.vR (a % 9223372036854775808))) (sv (decide (9223372036854775808 ≤ b)) (mem.vR (b % 9223372036854775808))) = o at *
    cases o <;> first | rfl | exact absurd rfl this
set_option maxHeartbeats 4000000 in
/-- ref03.SameFloat -/
theorem sfl_ok (a b : Nat) (ha : a < 18446744073709551616) (hb : b < 18446744073709551616) (w : World) : Calls Try.prog 33 #[.float .f64 a, .float .f64 b] w fun e w' => e = .returned (.bool (cFl a b == 0)) ∧ w = w' := by
  obtain ⟨sa, -⟩ := ordSelf a ha
  obtain ⟨sb, -⟩ := ordSelf b hb
  cases na : nanF a with
  | true =>
    rw [na] at sa
    cases nb : nanF b with
    | true =>
      rw [nb] at sb
      rw [cFl_two a b na nb]
      clear ha hb na nb
      go_enter Try.func33, Try.ntmps33
      go_wp2
      go_ret
      exact ⟨rfl, rfl⟩
    | false =>
      rw [nb] at sb
      rw [cFl_one a b ha hb (by rw [na, nb]; decide)]
      clear ha hb na nb
      go_enter Try.func33, Try.ntmps33
      go_wp2
      go_ret
      exact ⟨rfl, rfl⟩
  | false =>
    rw [na] at sa
    cases nb : nanF b with
    | true =>
      rw [nb] at sb
      rw [cFl_one a b ha hb (by rw [na, nb]; decide)]
      clear ha hb na nb
      go_enter Try.func33, Try.ntmps33
      go_wp2
      go_ret
      exact ⟨rfl, rfl⟩
    | false =>
      rw [nb] at sb
      rw [cFl_num a b ha hb na nb]
      by_cases hz : a % 9223372036854775808 = 0 ∧ b % 9223372036854775808 = 0
      · have q0 : ∀ w, (binOp .quo 23 (.float .f64 4607182418800017408) (.float .f64 0)).run Try.prog w = .ok (.float .f64 9218868437227405312) w := fun w => run_float_arith w _ _ _ _ _ _ (by decide)
        have q1 : ∀ w, (binOp .quo 23 (.float .f64 4607182418800017408) (.float .f64 9223372036854775808)).run Try.prog w = .ok (.float .f64 18442240474082181120) w := fun w => run_float_arith w _ _ _ _ _ _ (by decide)
        have z0 : (FloatKind.f64.format.order 0 0 == some Ordering.eq) = true := by decide
        have z1 : (FloatKind.f64.format.order 9223372036854775808 0 == some Ordering.eq) = true := by decide
        have i0 : (FloatKind.f64.format.order 9218868437227405312 9218868437227405312 == some Ordering.eq) = true := by decide
        have i1 : (FloatKind.f64.format.order 18442240474082181120 18442240474082181120 == some Ordering.eq) = true := by decide
        have i2 : (FloatKind.f64.format.order 18442240474082181120 9218868437227405312 == some Ordering.eq) = false := by decide
        have i3 : (FloatKind.f64.format.order 9218868437227405312 18442240474082181120 == some Ordering.eq) = false := by decide
        have y0 : (FloatKind.f64.format.order 0 0 != some Ordering.eq) = false := by decide
        have y1 : (FloatKind.f64.format.order 9223372036854775808 9223372036854775808 != some Ordering.eq) = false := by decide
        rcases (show a = 0 ∨ a = 9223372036854775808 by omega) with rfl | rfl <;> rcases (show b = 0 ∨ b = 9223372036854775808 by omega) with rfl | rfl
        all_goals
          clear ha hb na nb hz sa sb
          go_enter Try.func33, Try.ntmps33
          go_wp2
          go_ret
          exact ⟨rfl, rfl⟩
      · have he := ord_eq a b ha hb na nb hz
        by_cases za : a % 9223372036854775808 = 0
        · have zb : b % 9223372036854775808 ≠ 0 := fun h => hz ⟨za, h⟩
          have oz := ordZero b hb zb
          have oa : (FloatKind.f64.format.order a 0 == some Ordering.eq) = true := by
            rcases (show a = 0 ∨ a = 9223372036854775808 by omega) with rfl | rfl <;> decide
          clear ha hb na nb hz za zb
          go_enter Try.func33, Try.ntmps33
          go_wp2
          go_ret
          exact ⟨by simp [he], rfl⟩
        · have oz := ordZero a ha za
          clear ha hb na nb hz za
          go_enter Try.func33, Try.ntmps33
          go_wp2
          go_ret
          exact ⟨by simp [he], rfl⟩
end Go.Proofs.Ythpcpminikmcbaa.og
namespace Go.Proofs.Ythpcpminikmcbaa.og
open Go.ChangeShapes Go.WideShapes Go.ChangeAt Go.RowKit
open vl hiding cB cFl cS cF cI cK cIt
set_option linter.unusedVariables false
set_option linter.unusedSimpArgs false
/-- a new list that grows: what its elements' cells are -/
def GrV {E : Type} (R : E → List Value → Prop) (t : TypeId) (size : Nat) (B : Nat) (l : List E) (sl : Value) (w : World) : Prop := ∃ xss : List (List Value), w.ownsRow B t size sl l.length xss.flatten ∧ P2 R l xss
theorem P2.snoc {α β : Type} {R : α → β → Prop} {a : α} {b : β} (hab : R a b) : ∀ {l : List α} {r : List β}, P2 R l r → P2 R (l ++ [a]) (r ++ [b])
  | [], [], _ => ⟨hab, trivial⟩
  | _ :: _, _ :: _, h => ⟨h.1, P2.snoc hab h.2⟩
  | [], _ :: _, h => h.elim
  | _ :: _, [], h => h.elim
theorem GrV.nil {E : Type} {R : E → List Value → Prop} {t : TypeId} {size B : Nat} {w : World} : GrV R t size B [] (.slice none 0 0) w := ⟨[], ⟨by simp, .inl ⟨rfl, rfl⟩⟩, trivial⟩
theorem GrV.kept {E : Type} {R : E → List Value → Prop} {t : TypeId} {size B : Nat} {l : List E} {sl : Value} {w w' : World} {row : Option Nat} (h : GrV R t size B l sl w) (hg : w.grownBy w' row) (hne : sl.ownBlock = none ∨ sl.ownBlock ≠ row) : GrV R t size B l sl w' := by
  obtain ⟨xss, h1, h2⟩ := h
  exact ⟨xss, h1.kept hg hne, h2⟩
theorem GrV.lt {E : Type} {R : E → List Value → Prop} {t : TypeId} {size B : Nat} {l : List E} {sl : Value} {w : World} (h : GrV R t size B l sl w) : ∀ k, sl.ownBlock = some k → B ≤ k ∧ k < w.heap.size := by
  obtain ⟨xss, h1, h2⟩ := h
  exact h1.lt
theorem wp_grv {E : Type} {R : E → List Value → Prop} {P : Program} {t e : TypeId} {size bytes : Nat} {i : TypeInfo} {z : Value} {w : World} {ops : Array Oper} {rest : List Oper} {o : Oper} {a : Act} {Q : Exit → Act → World → Prop} (hgd : o.guard = none) (s x : Operand)
    (ho : o.op = .call { callee := .builtin .append, args := #[s, x], argTypes := #[t, t] }) (ht : P.underlying t = some (.slice e)) (hi : P.info? e = some i) (hz : i.zero = some z)
    (hsize : i.size = size) (hby : i.bytes = bytes) (hzs : z.cells.size = size) (hsz : 0 < size)
    (B : Nat) (l : List E) (sl : Value) (hs : a.eval s = sl) (hg : GrV R e size B l sl w) (v : E) (ds : List Value) (hv : R v ds) (hl : ds.length = size) (h1 : ∀ u ∈ ds, u.oneCell' = true)
    (N : Nat) (hN : N = w.heap.size) (hx : a.eval x = .slice (some ⟨N, 0, none⟩) 1 1) (hbytes : (l.length + 1) * bytes ≤ 140737488355328) (h63 : l.length + 1 ≤ maxLen) (hB : B ≤ w.heap.size)
    (h : ∀ g cap w', GrV R e size B (l ++ [v]) (.slice (some ⟨g, 0, none⟩) (l.length + 1) cap) w' → (w.alloc (.cells ds.toArray e)).grownBy w' sl.ownBlock → (sl.ownBlock = some g ∨ g = w.heap.size + 1) → g < w'.heap.size → wpList P ops Q rest (a.put o.dst (.slice (some ⟨g, 0, none⟩) (l.length + 1) cap)) w') : wpList P ops Q (o :: rest) a (w.alloc (.cells ds.toArray e)) := by
  subst hN
  obtain ⟨xss, hrow, hol⟩ := hg
  refine wpList_append_lies _ hgd s x t ho B e i z size bytes ht hi hz hsize hby hzs hsz sl l.length xss.flatten hs (World.ownsRow.alloc hrow _) ⟨w.heap.size, 0, none⟩ 1 1 ds hx (by rw [hl]; omega) (fun j u hu => by
    rw [Addr.add_mid, Nat.zero_add, World.cell?_alloc_at _ _ _ _ rfl]; simpa using hu) h1 (by omega) h63 hbytes (by simp; omega) (w.heap.size + 1) (by simp) ?_
  intro g cap w' hrow' hgr hat hlt
  exact h g cap w' ⟨xss ++ [ds], by simpa using hrow', hol.snoc hv⟩ hgr hat hlt
theorem GrV.read {W : World} : ∀ {l : List Vl} {xss : List (List Value)} (p off : Nat) (w : World), P2 (fun v cs => VlC W v cs) l xss → Below W.heap.size W w → (∀ j u, xss.flatten[j]? = some u → w.cell? ⟨p, off + j, none⟩ = some u) → VlsAt w (Vls.of l) (some ⟨p, off, none⟩) l.length
  | [], [], p, off, w, h, hb, hc => by
    simp only [Vls.of]
    unfold VlsAt
    rfl
  | v :: r, cs :: xss, p, off, w, h, hb, hc => by
    have h8 := h.1.cells
    simp only [Vls.of]
    unfold VlsAt
    refine ⟨p, off, r.length, cs, rfl, rfl, fun j u hu => hc j u ?_, VlC.below hb _ _ h.1, GrV.read p (off + 8) w h.2 hb (fun j u hu => ?_)⟩
    · rw [List.flatten_cons, List.getElem?_append_left (List.getElem?_eq_some_iff.1 hu).1]; exact hu
    · rw [show off + 8 + j = off + (8 + j) by omega]
      refine hc (8 + j) u ?_
      rw [List.flatten_cons, List.getElem?_append_right (by omega), h8]
      simpa using hu
  | [], _ :: _, p, off, w, h, _, _ => h.elim
  | _ :: _, [], p, off, w, h, _, _ => h.elim
theorem GrV.vals {W w : World} {B : Nat} {l : List Vl} {sl : Value} (h : GrV (fun v cs => VlC W v cs) 27 8 B l sl w) (hb : Below W.heap.size W w) : ∃ aj cj, sl = .slice aj l.length cj ∧ VlsAt w (Vls.of l) aj l.length := by
  obtain ⟨xss, h1, h2⟩ := h
  have hc := fun (g : Nat) (hg : sl.ownBlock = some g) => h1.cells hg
  rcases h1.2 with ⟨rfl, h0⟩ | ⟨g, cap, cur, rfl, hg, hh, hc1, hc2, r⟩
  · have hl0 : l = [] := List.length_eq_zero_iff.1 h0
    subst hl0
    exact ⟨none, 0, rfl, by simp only [Vls.of]; unfold VlsAt; rfl⟩
  · exact ⟨_, _, rfl, GrV.read g 0 w h2 hb (fun j u hu => by have := hc g rfl j u hu; rw [Addr.add_mid] at this; exact this)⟩
/-- the two lists of Children as they grow -/
structure ChS (W : World) (l4 : List (List Value)) (l5 : List Vl) (s4 s5 : Value) (w : World) : Prop where
  g4 : GrV (fun s cs => cs = s) 34 3 W.heap.size l4 s4 w
  g5 : GrV (fun v cs => VlC W v cs) 27 8 W.heap.size l5 s5 w
  ne : ∀ b, s4.ownBlock = some b → s5.ownBlock ≠ some b
  bel : Below W.heap.size W w
theorem ChS.nil (W : World) : ChS W [] [] (.slice none 0 0) (.slice none 0 0) W := ⟨GrV.nil, GrV.nil, fun b h => by simp [Value.ownBlock] at h, Below.refl _ _⟩
theorem infoSz : ∃ i z, Try.prog.info? 34 = some i ∧ i.zero = some z ∧ i.size = 3 ∧ i.bytes = 32 ∧ z.cells.size = 3 := by
  have hin : (Try.prog.info? 34).map (fun i => (i.bytes, i.size, i.zero.isSome, (i.zero.map (fun z => z.cells.size)))) = some (32, 3, true, some 3) := by kernel_rfl
  cases hq : Try.prog.info? 34 with
  | none => simp [hq] at hin
  | some i =>
    simp [hq] at hin
    obtain ⟨h1, h2, h3, z, hz, h4⟩ := hin
    exact ⟨i, z, rfl, hz, h2, h1, h4⟩
theorem wp_put4 {W w : World} {l4 : List (List Value)} {l5 : List Vl} {s4 s5 : Value} {ops : Array Oper} {rest : List Oper} {o : Oper} {a : Act} {Q : Exit → Act → World → Prop} (hS : ChS W l4 l5 s4 s5 w) (hgd : o.guard = none) (s x : Operand)
    (ho : o.op = .call { callee := .builtin .append, args := #[s, x], argTypes := #[29, 29] }) (hs : a.eval s = s4) (ds : List Value) (hl : ds.length = 3) (h1 : ∀ u ∈ ds, u.oneCell' = true) (N : Nat) (hN : N = w.heap.size) (hx : a.eval x = .slice (some ⟨N, 0, none⟩) 1 1) (hn : l4.length + 1 ≤ 1256584717458)
    (h : ∀ g n cap w', ChS W (l4 ++ [ds]) l5 (.slice (some ⟨g, 0, none⟩) n cap) s5 w' → wpList Try.prog ops Q rest (a.put o.dst (.slice (some ⟨g, 0, none⟩) n cap)) w') : wpList Try.prog ops Q (o :: rest) a (w.alloc (.cells ds.toArray 34)) := by
  obtain ⟨i, z, hi, hz, hsz, hb, hc⟩ := infoSz
  have hlt4 := hS.g4.lt
  have hlt5 := hS.g5.lt
  refine wp_grv hgd s x ho Try.underlying29 hi hz hsz hb hc (by omega) W.heap.size l4 s4 hs hS.g4 ds ds rfl hl h1 N hN hx (by omega) (by unfold maxLen; omega) hS.bel.size ?_
  intro g cap w' hg hgr hat hlt
  refine h g _ cap w' ⟨hg, ?_, ?_, ?_⟩
  · refine (hS.g5.kept (World.grownBy_alloc w _ none) (by cases hv : s5.ownBlock <;> simp)).kept hgr ?_
    cases h5 : s5.ownBlock with
    | none => exact .inl rfl
    | some b => exact .inr (fun e => hS.ne b e.symm h5)
  · intro b hb' h5
    have hb' : g = b := by simpa [Value.ownBlock] using hb'
    subst hb'
    rcases hat with hat | hat
    · exact hS.ne _ hat h5
    · have := (hlt5 _ h5).2; omega
  · exact (hS.bel.alloc hS.bel.size _).grown hgr (by have := hS.bel.size; simp; omega) (fun k hk => (hlt4 k hk).1)
theorem wp_put5 {W w : World} {l4 : List (List Value)} {l5 : List Vl} {s4 s5 : Value} {ops : Array Oper} {rest : List Oper} {o : Oper} {a : Act} {Q : Exit → Act → World → Prop} (hS : ChS W l4 l5 s4 s5 w) (hgd : o.guard = none) (s x : Operand)
    (ho : o.op = .call { callee := .builtin .append, args := #[s, x], argTypes := #[24, 24] }) (hs : a.eval s = s5) (v : Vl) (ds : List Value) (hv : VlC W v ds) (N : Nat) (hN : N = w.heap.size) (hx : a.eval x = .slice (some ⟨N, 0, none⟩) 1 1) (hn : l5.length + 1 ≤ 1256584717458)
    (h : ∀ g n cap w', ChS W l4 (l5 ++ [v]) s4 (.slice (some ⟨g, 0, none⟩) n cap) w' → wpList Try.prog ops Q rest (a.put o.dst (.slice (some ⟨g, 0, none⟩) n cap)) w') : wpList Try.prog ops Q (o :: rest) a (w.alloc (.cells ds.toArray 27)) := by
  obtain ⟨i, z, hi, hz, hsz, hb, hc⟩ := infoVz
  have hlt4 := hS.g4.lt
  have hlt5 := hS.g5.lt
  have d1 := hv.one
  have hone : ∀ u ∈ ds, u.oneCell' = true := fun u hu => (Array.all_eq_true_iff_forall_mem.1 d1) u (by simpa using hu)
  refine wp_grv hgd s x ho Try.underlying24 hi hz hsz hb hc (by omega) W.heap.size l5 s5 hs hS.g5 v ds hv hv.cells hone N hN hx (by omega) (by unfold maxLen; omega) hS.bel.size ?_
  intro g cap w' hg hgr hat hlt
  refine h g _ cap w' ⟨?_, hg, ?_, ?_⟩
  · refine (hS.g4.kept (World.grownBy_alloc w _ none) (by cases hv : s4.ownBlock <;> simp)).kept hgr ?_
    cases h4 : s4.ownBlock with
    | none => exact .inl rfl
    | some b => exact .inr (fun e => hS.ne b h4 e.symm)
  · intro b hb' h5
    have h5 : g = b := by simpa [Value.ownBlock] using h5
    subst h5
    rcases hat with hat | hat
    · exact hS.ne _ hb' hat
    · have := (hlt4 _ hb').2; omega
  · exact (hS.bel.alloc hS.bel.size _).grown hgr (by have := hS.bel.size; simp; omega) (fun k hk => (hlt5 k hk).1)
end Go.Proofs.Ythpcpminikmcbaa.og
namespace Go.Proofs.Ythpcpminikmcbaa.og
open Go.ChangeShapes Go.WideShapes Go.ChangeAt Go.RowKit
open vl hiding cB cFl cS cF cI cK cIt
set_option linter.unusedVariables false
set_option linter.unusedSimpArgs false
/-- the parts one step below -/
def chV : Vl → List Vl
  | .mk kd _ _ _ _ _ its fls => if kd = 5 then its.list else if kd = 6 then fls.list.map (fun q => q.2) else []
def ChAt (v : Vl) : Prop := ∀ (cs : List Value) (w : World), VlC w v cs → Calls Try.prog 54 #[.agg cs.toArray] w fun e w' => ∃ s4 aj cj, e = .returned (.tuple #[s4, .slice aj (chV v).length cj]) ∧ VlsAt w' (Vls.of (chV v)) aj (chV v).length ∧ Below w.heap.size w w'
theorem buildS (x y z : Value) (hx : ∃ s, x = .string s) (hy : ∃ i, y = .int .i64 i) (hz : ∃ c, z = .bool c) (w : World) : (Instr.buildSlice 29 1 #[(0, .agg #[x, y, z])]).run Try.prog w = .ok (.slice (some ⟨w.heap.size, 0, none⟩) 1 1) (w.alloc (.cells #[x, y, z] 34)) := by
  obtain ⟨s, rfl⟩ := hx
  obtain ⟨i, rfl⟩ := hy
  obtain ⟨c, rfl⟩ := hz
  go_simp
set_option maxHeartbeats 8000000 in
set_option maxRecDepth 6000 in
theorem ch_5 (b : Bool) (n : Int) (f : Nat) (tx ty : ByteArray) (its : Vls) (fls : Fls) (hsl : its.list.length ≤ 1256584717458) : ChAt (.mk 5 b n f tx ty its fls) := by
  intro cs w hv
  have gv := hv
  unfold VlC at gv
  obtain ⟨ai, ni, ci, af, nf, cf, rfl, vI, vF, q1, q2, q3, q4, q5, q6, q7, q8, q9, q10⟩ := gv
  obtain ⟨W, eW⟩ : ∃ W, W = w.alloc (.cells #[.int .i64 5, .bool b, .int .i64 n, .float .f64 f, .string tx, .string ty, .slice ai ni ci, .slice af nf cf] 27) := ⟨_, rfl⟩
  have BW : Below w.heap.size w W := by rw [eW]; exact (Below.refl _ _).alloc (Nat.le_refl _) _
  have R_a := hide (show Row8 W w.heap.size 0 [.int .i64 5, .bool b, .int .i64 n, .float .f64 f, .string tx, .string ty, .slice ai ni ci, .slice af nf cf] from fun j x hx => by
    rw [eW, Nat.zero_add, World.cell?_alloc_at _ _ _ _ rfl]; simpa using hx)
  have V_a := hide (VlC.below BW _ _ hv)
  have EW := hide eW
  clear eW q5 q6 q7 q8
  go_enter Try.func54, Try.ntmps54
  go_wp2_with (rw [← unhide EW]; refine wpList_load_mid (by rfl) 27 _ (by rfl) w.heap.size 0 (by rfl) [.int .i64 5, .bool b, .int .i64 n, .float .f64 f, .string tx, .string ty, .slice ai ni ci, .slice af nf cf] _ (unhide R_a) Try.underlying27 (by rfl) infoV ?_)
  clear EW
  refine (rkind_ok (.mk 5 b n f tx ty its fls) _ _ _ (unhide V_a)).mono ?_
  rintro e w1 ⟨rfl, g⟩
  rw [show kdV (Vl.mk 5 b n f tx ty its fls) = 5 from (by decide : kdOf 5 = 5)]
  have R_a := hide (Row8.below (unhide R_a) g)
  have BW : Below w.heap.size w w1 := BW.trans (g.mono BW.size)
  have HI := hide (VlsAt.below BW its _ _ vI)
  have HF := hide (FlsAt.below BW fls _ _ vF)
  clear g V_a hv vI vF
  have x : w1.cell? ⟨w.heap.size, 6, none⟩ = some (.slice ai ni ci) := (unhide R_a) 6 _ rfl
  have l1 := VlsAt.len its _ _ (unhide HI)
  have BN : ni ≤ 1256584717458 := by omega
  have L1 := hide l1
  have HN0 := hide (ChS.nil w1)
  clear l1
  go_wp2_with fail
  go_loopw [6, 4, 5] (fun vi v4 v5 wr => ∃ (k : Nat) (s4 s5 : Value) (st : List (List Value)), k ≤ ni ∧ vi = .int .i64 k ∧ v4 = s4 ∧ v5 = s5 ∧ vl.Hid (ChS w1 st (its.list.take k) s4 s5 wr) ∧ vl.Hid (st.length = k)) (fun vi _ _ _ => ni - (intOf vi).toNat)
  case atStart => exact ⟨0, _, _, [], Nat.zero_le _, rfl, rfl, rfl, by rw [List.take_zero]; exact HN0, rfl⟩
  case round =>
    clear x HN0
    obtain ⟨k, s4, s5, st, hk1, rfl, rfl, rfl, HS, hst⟩ := hrel
    have x : wr.cell? ⟨w.heap.size, 6, none⟩ = some (.slice ai ni ci) := (Row8.below (unhide R_a) (unhide HS).bel) 6 _ rfl
    by_cases hlt : k < ni
    · have ki : (k : Int) < (ni : Int) := by omega
      obtain ⟨p, off, v, us, rfl, hg, hr, hv⟩ := VlsAt.get its _ _ (unhide HI) k hlt
      have Hg := hide (show its.list[k]? = some v from hg)
      have iu : (Try.prog.info? 27).map (·.size) = some us.length := by rw [hv.cells]; exact infoV
      have hone : ∀ u ∈ ([Value.string { data := #[] }, Value.int .i64 k, Value.bool true] : List Value), u.oneCell' = true := by simp [Value.oneCell']
      have hbS := buildS (Value.string { data := #[] }) (Value.int .i64 k) (Value.bool true) ⟨_, rfl⟩ ⟨_, rfl⟩ ⟨_, rfl⟩
      have hbV := buildV hv
      have hn4 : st.length + 1 ≤ 1256584717458 := by rw [unhide hst]; omega
      have hn5 : (its.list.take k).length + 1 ≤ 1256584717458 := by have h1 := List.length_take_le k its.list; omega
      have A := hide (And.intro hr (And.intro hv (And.intro iu (And.intro hone (And.intro hbS (And.intro hbV (And.intro hn4 hn5)))))))
      clear hr hv iu hone hbS hbV hn4 hn5 hg
      go_wp2_with (first
        | refine wpList_buildOne (by rfl) 29 _ (by rfl) (.agg #[Value.string { data := #[] }, Value.int .i64 k, Value.bool true]) _ (by rfl) ((unhide A).2.2.2.2.1 wr) ?_
        | (at_builtin; refine wp_put4 (unhide HS) (by rfl) _ _ (by rfl) (by rfl) [Value.string { data := #[] }, Value.int .i64 k, Value.bool true] rfl (unhide A).2.2.2.1 wr.heap.size rfl (by rfl) (unhide A).2.2.2.2.2.2.1 ?_; intro g4 n4 c4 w3 hS3; have x3 : w3.cell? ⟨w.heap.size, 6, none⟩ = some (.slice (some ⟨p, off, none⟩) ni ci) := (Row8.below (unhide R_a) hS3.bel) 6 _ rfl; have HS3 := hide hS3; clear hS3)
        | refine wpList_load_mid (by rfl) 27 _ (by rfl) p (off + k * 8) (by rfl) us _ (Row8.below (unhide A).1 (unhide HS3).bel) Try.underlying27 (by rfl) (unhide A).2.2.1 ?_
        | refine wpList_buildOne (by rfl) 24 _ (by rfl) (.agg us.toArray) _ (by rfl) ((unhide A).2.2.2.2.2.1 w3) ?_
        | (at_builtin; refine wp_put5 (unhide HS3) (by rfl) _ _ (by rfl) (by rfl) v us (unhide A).2.1 w3.heap.size rfl (by rfl) (unhide A).2.2.2.2.2.2.2 ?_; intro g5 n5 c5 w4 hS4; have HS4 := hide hS4; clear hS4))
      go_roundw
      case rel => exact ⟨k + 1, _, _, st ++ [[Value.string { data := #[] }, Value.int .i64 k, Value.bool true]], by omega, by go_num, rfl, rfl, by rw [List.take_add_one, unhide Hg]; exact HS4, by show (st ++ [[Value.string { data := #[] }, Value.int .i64 k, Value.bool true]]).length = k + 1; rw [List.length_append, unhide hst]; rfl⟩
      case measure => simp [intOf]; omega
    · obtain rfl : k = ni := by omega
      have hS := unhide HS
      rw [List.take_of_length_le (by first | exact Nat.le_of_eq (unhide L1) | (rw [List.length_map]; exact Nat.le_of_eq (unhide L1)))] at hS
      have G2 : Below w.heap.size w wr := BW.trans (hS.bel.mono BW.size)
      obtain ⟨aj, cj, rfl, hvs⟩ := hS.g5.vals hS.bel
      have HV := hide hvs
      clear hS hvs HS
      go_wp2
      go_ret2
      have hch : chV (.mk 5 b n f tx ty its fls) = its.list := by simp [chV]
      rw [hch]
      exact ⟨_, aj, cj, rfl, unhide HV, G2⟩
set_option maxHeartbeats 8000000 in
set_option maxRecDepth 6000 in
theorem ch_6 (b : Bool) (n : Int) (f : Nat) (tx ty : ByteArray) (its : Vls) (fls : Fls) (hsl : fls.list.length ≤ 1099511627776) : ChAt (.mk 6 b n f tx ty its fls) := by
  intro cs w hv
  have gv := hv
  unfold VlC at gv
  obtain ⟨ai, ni, ci, af, nf, cf, rfl, vI, vF, q1, q2, q3, q4, q5, q6, q7, q8, q9, q10⟩ := gv
  obtain ⟨W, eW⟩ : ∃ W, W = w.alloc (.cells #[.int .i64 6, .bool b, .int .i64 n, .float .f64 f, .string tx, .string ty, .slice ai ni ci, .slice af nf cf] 27) := ⟨_, rfl⟩
  have BW : Below w.heap.size w W := by rw [eW]; exact (Below.refl _ _).alloc (Nat.le_refl _) _
  have R_a := hide (show Row8 W w.heap.size 0 [.int .i64 6, .bool b, .int .i64 n, .float .f64 f, .string tx, .string ty, .slice ai ni ci, .slice af nf cf] from fun j x hx => by
    rw [eW, Nat.zero_add, World.cell?_alloc_at _ _ _ _ rfl]; simpa using hx)
  have V_a := hide (VlC.below BW _ _ hv)
  have EW := hide eW
  clear eW q5 q6 q7 q8
  go_enter Try.func54, Try.ntmps54
  go_wp2_with (rw [← unhide EW]; refine wpList_load_mid (by rfl) 27 _ (by rfl) w.heap.size 0 (by rfl) [.int .i64 6, .bool b, .int .i64 n, .float .f64 f, .string tx, .string ty, .slice ai ni ci, .slice af nf cf] _ (unhide R_a) Try.underlying27 (by rfl) infoV ?_)
  clear EW
  refine (rkind_ok (.mk 6 b n f tx ty its fls) _ _ _ (unhide V_a)).mono ?_
  rintro e w1 ⟨rfl, g⟩
  rw [show kdV (Vl.mk 6 b n f tx ty its fls) = 6 from (by decide : kdOf 6 = 6)]
  have R_a := hide (Row8.below (unhide R_a) g)
  have BW : Below w.heap.size w w1 := BW.trans (g.mono BW.size)
  have HI := hide (VlsAt.below BW its _ _ vI)
  have HF := hide (FlsAt.below BW fls _ _ vF)
  clear g V_a hv vI vF
  have x : w1.cell? ⟨w.heap.size, 7, none⟩ = some (.slice af nf cf) := (unhide R_a) 7 _ rfl
  have l1 := FlsAt.len fls _ _ (unhide HF)
  have BN : nf ≤ 1256584717458 := by omega
  have L1 := hide l1
  have HN0 := hide (ChS.nil w1)
  clear l1
  go_wp2_with fail
  go_loopw [7, 4, 5] (fun vi v4 v5 wr => ∃ (k : Nat) (s4 s5 : Value) (st : List (List Value)), k ≤ nf ∧ vi = .int .i64 k ∧ v4 = s4 ∧ v5 = s5 ∧ vl.Hid (ChS w1 st ((fls.list.map (fun q => q.2)).take k) s4 s5 wr) ∧ vl.Hid (st.length = k)) (fun vi _ _ _ => nf - (intOf vi).toNat)
  case atStart => exact ⟨0, _, _, [], Nat.zero_le _, rfl, rfl, rfl, by rw [List.take_zero]; exact HN0, rfl⟩
  case round =>
    clear x HN0
    obtain ⟨k, s4, s5, st, hk1, rfl, rfl, rfl, HS, hst⟩ := hrel
    have x : wr.cell? ⟨w.heap.size, 7, none⟩ = some (.slice af nf cf) := (Row8.below (unhide R_a) (unhide HS).bel) 7 _ rfl
    by_cases hlt : k < nf
    · have ki : (k : Int) < (nf : Int) := by omega
      obtain ⟨p, off, nm, v, us, rfl, hg, hn0, hz, hr, hv⟩ := FlsAt.get fls _ _ (unhide HF) k hlt
      have Hg := hide (show (fls.list.map (fun q => q.2))[k]? = some v by rw [List.getElem?_map, hg]; rfl)
      have cn : wr.cell? ⟨p, off + k * 9, none⟩ = some (.string nm) := (Below.cell (unhide HS).bel (p := ⟨p, off + k * 9, none⟩) (World.block_lt_of_cell? w1 _ hn0)).trans hn0
      clear hn0
      have iu : (Try.prog.info? 27).map (·.size) = some us.length := by rw [hv.cells]; exact infoV
      have hone : ∀ u ∈ ([Value.string nm, Value.int .i64 0, Value.bool false] : List Value), u.oneCell' = true := by simp [Value.oneCell']
      have hbS := buildS (Value.string nm) (Value.int .i64 0) (Value.bool false) ⟨_, rfl⟩ ⟨_, rfl⟩ ⟨_, rfl⟩
      have hbV := buildV hv
      have hn4 : st.length + 1 ≤ 1256584717458 := by rw [unhide hst]; omega
      have hn5 : ((fls.list.map (fun q => q.2)).take k).length + 1 ≤ 1256584717458 := by have h1 := List.length_take_le k (fls.list.map (fun q => q.2)); omega
      have A := hide (And.intro hr (And.intro hv (And.intro iu (And.intro hone (And.intro hbS (And.intro hbV (And.intro hn4 hn5)))))))
      clear hr hv iu hone hbS hbV hn4 hn5 hg
      go_wp2_with (first
        | refine wpList_buildOne (by rfl) 29 _ (by rfl) (.agg #[Value.string nm, Value.int .i64 0, Value.bool false]) _ (by rfl) ((unhide A).2.2.2.2.1 wr) ?_
        | (at_builtin; refine wp_put4 (unhide HS) (by rfl) _ _ (by rfl) (by rfl) [Value.string nm, Value.int .i64 0, Value.bool false] rfl (unhide A).2.2.2.1 wr.heap.size rfl (by rfl) (unhide A).2.2.2.2.2.2.1 ?_; intro g4 n4 c4 w3 hS3; have x3 : w3.cell? ⟨w.heap.size, 7, none⟩ = some (.slice (some ⟨p, off, none⟩) nf cf) := (Row8.below (unhide R_a) hS3.bel) 7 _ rfl; have HS3 := hide hS3; clear hS3)
        | refine wpList_load_mid (by rfl) 27 _ (by rfl) p (off + k * 9 + 1) (by rfl) us _ (Row8.below (unhide A).1 (unhide HS3).bel) Try.underlying27 (by rfl) (unhide A).2.2.1 ?_
        | refine wpList_buildOne (by rfl) 24 _ (by rfl) (.agg us.toArray) _ (by rfl) ((unhide A).2.2.2.2.2.1 w3) ?_
        | (at_builtin; refine wp_put5 (unhide HS3) (by rfl) _ _ (by rfl) (by rfl) v us (unhide A).2.1 w3.heap.size rfl (by rfl) (unhide A).2.2.2.2.2.2.2 ?_; intro g5 n5 c5 w4 hS4; have HS4 := hide hS4; clear hS4))
      go_roundw
      case rel => exact ⟨k + 1, _, _, st ++ [[Value.string nm, Value.int .i64 0, Value.bool false]], by omega, by go_num, rfl, rfl, by rw [List.take_add_one, unhide Hg]; exact HS4, by show (st ++ [[Value.string nm, Value.int .i64 0, Value.bool false]]).length = k + 1; rw [List.length_append, unhide hst]; rfl⟩
      case measure => simp [intOf]; omega
    · obtain rfl : k = nf := by omega
      have hS := unhide HS
      rw [List.take_of_length_le (by first | exact Nat.le_of_eq (unhide L1) | (rw [List.length_map]; exact Nat.le_of_eq (unhide L1)))] at hS
      have G2 : Below w.heap.size w wr := BW.trans (hS.bel.mono BW.size)
      obtain ⟨aj, cj, rfl, hvs⟩ := hS.g5.vals hS.bel
      have HV := hide hvs
      clear hS hvs HS
      go_wp2
      go_ret2
      have hch : chV (.mk 6 b n f tx ty its fls) = (fls.list.map (fun q => q.2)) := by simp [chV]
      rw [hch]
      exact ⟨_, aj, cj, rfl, unhide HV, G2⟩
set_option maxHeartbeats 8000000 in
set_option maxRecDepth 6000 in
theorem ch_0 (kd : Int) (b : Bool) (n : Int) (f : Nat) (tx ty : ByteArray) (its : Vls) (fls : Fls) (K : Int) (hk : kdOf kd = K) (h5 : K ≠ 5) (h6 : K ≠ 6) : ChAt (.mk kd b n f tx ty its fls) := by
  intro cs w hv
  have gv := hv
  unfold VlC at gv
  obtain ⟨ai, ni, ci, af, nf, cf, rfl, vI, vF, q1, q2, q3, q4, q5, q6, q7, q8, q9, q10⟩ := gv
  obtain ⟨W, eW⟩ : ∃ W, W = w.alloc (.cells #[.int .i64 kd, .bool b, .int .i64 n, .float .f64 f, .string tx, .string ty, .slice ai ni ci, .slice af nf cf] 27) := ⟨_, rfl⟩
  have BW : Below w.heap.size w W := by rw [eW]; exact (Below.refl _ _).alloc (Nat.le_refl _) _
  have R_a := hide (show Row8 W w.heap.size 0 [.int .i64 kd, .bool b, .int .i64 n, .float .f64 f, .string tx, .string ty, .slice ai ni ci, .slice af nf cf] from fun j x hx => by
    rw [eW, Nat.zero_add, World.cell?_alloc_at _ _ _ _ rfl]; simpa using hx)
  have V_a := hide (VlC.below BW _ _ hv)
  have EW := hide eW
  clear eW q5 q6 q7 q8
  go_enter Try.func54, Try.ntmps54
  go_wp2_with (rw [← unhide EW]; refine wpList_load_mid (by rfl) 27 _ (by rfl) w.heap.size 0 (by rfl) [.int .i64 kd, .bool b, .int .i64 n, .float .f64 f, .string tx, .string ty, .slice ai ni ci, .slice af nf cf] _ (unhide R_a) Try.underlying27 (by rfl) infoV ?_)
  clear EW
  refine (rkind_ok (.mk kd b n f tx ty its fls) _ _ _ (unhide V_a)).mono ?_
  rintro e w1 ⟨rfl, g⟩
  rw [show kdV (Vl.mk kd b n f tx ty its fls) = K from hk]
  have R_a := hide (Row8.below (unhide R_a) g)
  have BW : Below w.heap.size w w1 := BW.trans (g.mono BW.size)
  have HI := hide (VlsAt.below BW its _ _ vI)
  have HF := hide (FlsAt.below BW fls _ _ vF)
  clear g V_a hv vI vF
  have h5' : kd ≠ 5 := fun e => h5 (by rw [← hk, e]; decide)
  have h6' : kd ≠ 6 := fun e => h6 (by rw [← hk, e]; decide)
  go_wp2
  go_ret2
  have hch : chV (.mk kd b n f tx ty its fls) = [] := by simp [chV, h5', h6']
  rw [hch]
  exact ⟨_, none, 0, rfl, by simp only [Vls.of]; unfold VlsAt; rfl, BW⟩
theorem ch_ok (v : Vl) (hv : Small v) : ChAt v := by
  obtain ⟨kd, b, n, f, tx, ty, its, fls⟩ := v
  unfold Small at hv
  by_cases h5 : kdOf kd = 5
  · obtain rfl := kdOf_five h5
    exact ch_5 _ _ _ _ _ _ _ hv.1
  · by_cases h6 : kdOf kd = 6
    · obtain rfl := kdOf_six h6
      exact ch_6 _ _ _ _ _ _ _ hv.2.1
    · exact ch_0 _ _ _ _ _ _ _ _ _ rfl h5 h6
end Go.Proofs.Ythpcpminikmcbaa.og
namespace Go.Proofs.Ythpcpminikmcbaa.og
open Go.ChangeShapes Go.WideShapes Go.ChangeAt Go.RowKit
open vl hiding cB cFl cS cF cI cK cIt
open stp (St)
set_option linter.unusedVariables false
set_option linter.unusedSimpArgs false
/-- a step's three cells -/
def stC (s : St) : List Value := [.string s.nm, .int .i64 s.ix, .bool s.it]
/-- the two lists of Children as they grow -/
structure CgS (V W : World) (l4 : List St) (l5 : List Vl) (s4 s5 : Value) (w : World) : Prop where
  g4 : GrV (fun s cs => cs = stC s) 34 3 W.heap.size l4 s4 w
  g5 : GrV (fun v cs => VlC V v cs) 27 8 W.heap.size l5 s5 w
  ne : ∀ b, s4.ownBlock = some b → s5.ownBlock ≠ some b
  bel : Below W.heap.size W w
theorem CgS.nil (V W : World) : CgS V W [] [] (.slice none 0 0) (.slice none 0 0) W := ⟨GrV.nil, GrV.nil, fun b h => by simp [Value.ownBlock] at h, Below.refl _ _⟩
theorem wp_cg4 {V W w : World} {l4 : List St} {l5 : List Vl} {s4 s5 : Value} {ops : Array Oper} {rest : List Oper} {o : Oper} {a : Act} {Q : Exit → Act → World → Prop} (hS : CgS V W l4 l5 s4 s5 w) (hgd : o.guard = none) (s x : Operand)
    (ho : o.op = .call { callee := .builtin .append, args := #[s, x], argTypes := #[29, 29] }) (hs : a.eval s = s4) (st : St) (ds : List Value) (hd : ds = stC st) (N : Nat) (hN : N = w.heap.size) (hx : a.eval x = .slice (some ⟨N, 0, none⟩) 1 1) (hn : l4.length + 1 ≤ 1256584717458)
    (h : ∀ g n cap w', CgS V W (l4 ++ [st]) l5 (.slice (some ⟨g, 0, none⟩) n cap) s5 w' → wpList Try.prog ops Q rest (a.put o.dst (.slice (some ⟨g, 0, none⟩) n cap)) w') : wpList Try.prog ops Q (o :: rest) a (w.alloc (.cells ds.toArray 34)) := by
  obtain ⟨i, z, hi, hz, hsz, hb, hc⟩ := infoSz
  have hlt4 := hS.g4.lt
  have hlt5 := hS.g5.lt
  refine wp_grv hgd s x ho Try.underlying29 hi hz hsz hb hc (by omega) W.heap.size l4 s4 hs hS.g4 st ds hd (by rw [hd]; rfl) (by rw [hd]; simp [stC, Value.oneCell']) N hN hx (by omega) (by unfold maxLen; omega) hS.bel.size ?_
  intro g cap w' hg hgr hat hlt
  refine h g _ cap w' ⟨hg, ?_, ?_, ?_⟩
  · refine (hS.g5.kept (World.grownBy_alloc w _ none) (by cases hv : s5.ownBlock <;> simp)).kept hgr ?_
    cases h5 : s5.ownBlock with
    | none => exact .inl rfl
    | some b => exact .inr (fun e => hS.ne b e.symm h5)
  · intro b hb' h5
    have hb' : g = b := by simpa [Value.ownBlock] using hb'
    subst hb'
    rcases hat with hat | hat
    · exact hS.ne _ hat h5
    · have := (hlt5 _ h5).2; omega
  · exact (hS.bel.alloc hS.bel.size _).grown hgr (by have := hS.bel.size; simp; omega) (fun k hk => (hlt4 k hk).1)
theorem wp_cg5 {V W w : World} {l4 : List St} {l5 : List Vl} {s4 s5 : Value} {ops : Array Oper} {rest : List Oper} {o : Oper} {a : Act} {Q : Exit → Act → World → Prop} (hS : CgS V W l4 l5 s4 s5 w) (hgd : o.guard = none) (s x : Operand)
    (ho : o.op = .call { callee := .builtin .append, args := #[s, x], argTypes := #[24, 24] }) (hs : a.eval s = s5) (v : Vl) (ds : List Value) (hv : VlC V v ds) (N : Nat) (hN : N = w.heap.size) (hx : a.eval x = .slice (some ⟨N, 0, none⟩) 1 1) (hn : l5.length + 1 ≤ 1256584717458)
    (h : ∀ g n cap w', CgS V W l4 (l5 ++ [v]) s4 (.slice (some ⟨g, 0, none⟩) n cap) w' → wpList Try.prog ops Q rest (a.put o.dst (.slice (some ⟨g, 0, none⟩) n cap)) w') : wpList Try.prog ops Q (o :: rest) a (w.alloc (.cells ds.toArray 27)) := by
  obtain ⟨i, z, hi, hz, hsz, hb, hc⟩ := infoVz
  have hlt4 := hS.g4.lt
  have hlt5 := hS.g5.lt
  have d1 := hv.one
  have hone : ∀ u ∈ ds, u.oneCell' = true := fun u hu => (Array.all_eq_true_iff_forall_mem.1 d1) u (by simpa using hu)
  refine wp_grv hgd s x ho Try.underlying24 hi hz hsz hb hc (by omega) W.heap.size l5 s5 hs hS.g5 v ds hv hv.cells hone N hN hx (by omega) (by unfold maxLen; omega) hS.bel.size ?_
  intro g cap w' hg hgr hat hlt
  refine h g _ cap w' ⟨?_, hg, ?_, ?_⟩
  · refine (hS.g4.kept (World.grownBy_alloc w _ none) (by cases hv : s4.ownBlock <;> simp)).kept hgr ?_
    cases h4 : s4.ownBlock with
    | none => exact .inl rfl
    | some b => exact .inr (fun e => hS.ne b h4 e.symm)
  · intro b hb' h5
    have h5 : g = b := by simpa [Value.ownBlock] using h5
    subst h5
    rcases hat with hat | hat
    · exact hS.ne _ hb' hat
    · have := (hlt4 _ hb').2; omega
  · exact (hS.bel.alloc hS.bel.size _).grown hgr (by have := hS.bel.size; simp; omega) (fun k hk => (hlt5 k hk).1)
end Go.Proofs.Ythpcpminikmcbaa.og
namespace Go.Proofs.Ythpcpminikmcbaa.og
open Go.ChangeShapes Go.WideShapes Go.ChangeAt Go.RowKit
open vl hiding cB cFl cS cF cI cK cIt
open stp (St)
set_option linter.unusedVariables false
set_option linter.unusedSimpArgs false
def CgAt (v : Vl) : Prop := ∀ (V : World) (cs : List Value) (w : World), Below V.heap.size V w → VlC V v cs → Calls Try.prog 54 #[.agg cs.toArray] w fun e w' => ∃ s4 s5, e = .returned (.tuple #[s4, s5]) ∧ CgS V w ((kids v).map Prod.fst) ((kids v).map Prod.snd) s4 s5 w'
theorem kids5_get {b : Bool} {n : Int} {f : Nat} {tx ty : ByteArray} {its : Vls} {fls : Fls} {k : Nat} {v : Vl} (h : its.list[k]? = some v) : (kids (.mk 5 b n f tx ty its fls))[k]? = some (⟨⟨#[]⟩, (k : Int), true⟩, v) := by
  simp [kids, List.getElem?_zipIdx, h]
theorem kids6_get {b : Bool} {n : Int} {f : Nat} {tx ty : ByteArray} {its : Vls} {fls : Fls} {k : Nat} {nm : ByteArray} {v : Vl} (h : fls.list[k]? = some (nm, v)) : (kids (.mk 6 b n f tx ty its fls))[k]? = some (⟨nm, 0, false⟩, v) := by
  simp [kids, h]
theorem kids5_len (b : Bool) (n : Int) (f : Nat) (tx ty : ByteArray) (its : Vls) (fls : Fls) : (kids (.mk 5 b n f tx ty its fls)).length = its.list.length := by simp [kids]
theorem kids6_len (b : Bool) (n : Int) (f : Nat) (tx ty : ByteArray) (its : Vls) (fls : Fls) : (kids (.mk 6 b n f tx ty its fls)).length = fls.list.length := by simp [kids]
theorem kids_0 {kd : Int} {b : Bool} {n : Int} {f : Nat} {tx ty : ByteArray} {its : Vls} {fls : Fls} (h5 : kd ≠ 5) (h6 : kd ≠ 6) : kids (.mk kd b n f tx ty its fls) = [] := by simp [kids, h5, h6]
theorem CgS.older {V W W' w : World} {l4 : List St} {l5 : List Vl} {s4 s5 : Value} (h : CgS V W' l4 l5 s4 s5 w) (hb : Below W.heap.size W W') : CgS V W l4 l5 s4 s5 w := by
  have hs := hb.size
  have wk : ∀ {t : TypeId} {size : Nat} {sl : Value} {n : Nat} {xs : List Value}, w.ownsRow W'.heap.size t size sl n xs → w.ownsRow W.heap.size t size sl n xs := fun {t size sl n xs} h => ⟨h.1, h.2.imp id (fun ⟨g, cap, cur, e, hg, r⟩ => ⟨g, cap, cur, e, by omega, r⟩)⟩
  obtain ⟨⟨x4, a4, b4⟩, ⟨x5, a5, b5⟩, ne, bel⟩ := h
  exact ⟨⟨x4, wk a4, b4⟩, ⟨x5, wk a5, b5⟩, ne, hb.trans (bel.mono hs)⟩
set_option maxHeartbeats 8000000 in
set_option maxRecDepth 6000 in
theorem cg_5 (b : Bool) (n : Int) (f : Nat) (tx ty : ByteArray) (its : Vls) (fls : Fls) (hsl : its.list.length ≤ 1256584717458) : CgAt (.mk 5 b n f tx ty its fls) := by
  intro V cs w hVw hv
  have gv := hv
  unfold VlC at gv
  obtain ⟨ai, ni, ci, af, nf, cf, rfl, vI, vF, q1, q2, q3, q4, q5, q6, q7, q8, q9, q10⟩ := gv
  obtain ⟨W, eW⟩ : ∃ W, W = w.alloc (.cells #[.int .i64 5, .bool b, .int .i64 n, .float .f64 f, .string tx, .string ty, .slice ai ni ci, .slice af nf cf] 27) := ⟨_, rfl⟩
  have BW : Below w.heap.size w W := by rw [eW]; exact (Below.refl _ _).alloc (Nat.le_refl _) _
  have R_a := hide (show Row8 W w.heap.size 0 [.int .i64 5, .bool b, .int .i64 n, .float .f64 f, .string tx, .string ty, .slice ai ni ci, .slice af nf cf] from fun j x hx => by
    rw [eW, Nat.zero_add, World.cell?_alloc_at _ _ _ _ rfl]; simpa using hx)
  have V_a := hide (VlC.below BW _ _ (VlC.below hVw _ _ hv))
  have EW := hide eW
  clear eW q5 q6 q7 q8
  go_enter Try.func54, Try.ntmps54
  go_wp2_with (rw [← unhide EW]; refine wpList_load_mid (by rfl) 27 _ (by rfl) w.heap.size 0 (by rfl) [.int .i64 5, .bool b, .int .i64 n, .float .f64 f, .string tx, .string ty, .slice ai ni ci, .slice af nf cf] _ (unhide R_a) Try.underlying27 (by rfl) infoV ?_)
  clear EW
  refine (rkind_ok (.mk 5 b n f tx ty its fls) _ _ _ (unhide V_a)).mono ?_
  rintro e w1 ⟨rfl, g⟩
  rw [show kdV (Vl.mk 5 b n f tx ty its fls) = 5 from (by decide : kdOf 5 = 5)]
  have R_a := hide (Row8.below (unhide R_a) g)
  have BW : Below w.heap.size w w1 := BW.trans (g.mono BW.size)
  have HBW := hide BW
  have HI := hide vI
  have HF := hide vF
  have HVW := hide hVw
  have HVW1 := hide (show Below V.heap.size V w1 from hVw.trans (BW.mono hVw.size))
  clear g V_a hv vI vF
  have x : w1.cell? ⟨w.heap.size, 6, none⟩ = some (.slice ai ni ci) := (unhide R_a) 6 _ rfl
  have l1 := VlsAt.len its _ _ (unhide HI)
  have BN : ni ≤ 1256584717458 := by omega
  have L1 := hide l1
  have HN0 := hide (CgS.nil V w1)
  have LK := hide ((kids5_len b n f tx ty its fls).trans l1)
  have HK := hide (fun (k : Nat) => @kids5_get b n f tx ty its fls k)
  clear l1
  obtain ⟨ks, eks⟩ : ∃ ks, ks = kids (.mk 5 b n f tx ty its fls) := ⟨_, rfl⟩
  rw [← eks] at LK HK
  have EKS := hide eks
  clear eks
  go_wp2_with fail
  go_loopw [6, 4, 5] (fun vi v4 v5 wr => ∃ (k : Nat) (s4 s5 : Value), k ≤ ni ∧ vi = .int .i64 k ∧ v4 = s4 ∧ v5 = s5 ∧ vl.Hid (CgS V w1 ((ks.take k).map Prod.fst) ((ks.take k).map Prod.snd) s4 s5 wr)) (fun vi _ _ _ => ni - (intOf vi).toNat)
  case atStart => exact ⟨0, _, _, Nat.zero_le _, rfl, rfl, rfl, by rw [List.take_zero]; exact HN0⟩
  case round =>
    clear x HN0
    obtain ⟨k, s4, s5, hk1, rfl, rfl, rfl, HS⟩ := hrel
    have x : wr.cell? ⟨w.heap.size, 6, none⟩ = some (.slice ai ni ci) := (Row8.below (unhide R_a) (unhide HS).bel) 6 _ rfl
    by_cases hlt : k < ni
    · have ki : (k : Int) < (ni : Int) := by omega
      obtain ⟨p, off, v, us, rfl, hg, hr, hv⟩ := VlsAt.get its _ _ (unhide HI) k hlt
      have Hg := hide (unhide HK k hg)
      have iu : (Try.prog.info? 27).map (·.size) = some us.length := by rw [hv.cells]; exact infoV
      have hr := Row8.below hr (unhide HVW1)
      have hbS := buildS (Value.string { data := #[] }) (Value.int .i64 k) (Value.bool true) ⟨_, rfl⟩ ⟨_, rfl⟩ ⟨_, rfl⟩
      have hbV := buildV hv
      have hn4 : ((ks.take k).map Prod.fst).length + 1 ≤ 1256584717458 := by have h1 := List.length_take_le k ks; rw [List.length_map]; omega
      have hn5 : ((ks.take k).map Prod.snd).length + 1 ≤ 1256584717458 := by have h1 := List.length_take_le k ks; rw [List.length_map]; omega
      have A := hide (And.intro hr (And.intro hv (And.intro iu (And.intro True.intro (And.intro hbS (And.intro hbV (And.intro hn4 hn5)))))))
      clear hr hv iu hbS hbV hn4 hn5 hg
      go_wp2_with (first
        | refine wpList_buildOne (by rfl) 29 _ (by rfl) (.agg #[Value.string { data := #[] }, Value.int .i64 k, Value.bool true]) _ (by rfl) ((unhide A).2.2.2.2.1 wr) ?_
        | (at_builtin; refine wp_cg4 (unhide HS) (by rfl) _ _ (by rfl) (by rfl) ⟨⟨#[]⟩, (k : Int), true⟩ [Value.string { data := #[] }, Value.int .i64 k, Value.bool true] rfl wr.heap.size rfl (by rfl) (unhide A).2.2.2.2.2.2.1 ?_; intro g4 n4 c4 w3 hS3; have x3 : w3.cell? ⟨w.heap.size, 6, none⟩ = some (.slice (some ⟨p, off, none⟩) ni ci) := (Row8.below (unhide R_a) hS3.bel) 6 _ rfl; have HS3 := hide hS3; clear hS3)
        | refine wpList_load_mid (by rfl) 27 _ (by rfl) p (off + k * 8) (by rfl) us _ (Row8.below (unhide A).1 (unhide HS3).bel) Try.underlying27 (by rfl) (unhide A).2.2.1 ?_
        | refine wpList_buildOne (by rfl) 24 _ (by rfl) (.agg us.toArray) _ (by rfl) ((unhide A).2.2.2.2.2.1 w3) ?_
        | (at_builtin; refine wp_cg5 (unhide HS3) (by rfl) _ _ (by rfl) (by rfl) v us (unhide A).2.1 w3.heap.size rfl (by rfl) (unhide A).2.2.2.2.2.2.2 ?_; intro g5 n5 c5 w4 hS4; have HS4 := hide hS4; clear hS4))
      go_roundw
      case rel => exact ⟨k + 1, _, _, by omega, by go_num, rfl, rfl, by rw [List.take_add_one, unhide Hg, List.map_append, List.map_append]; exact HS4⟩
      case measure => simp [intOf]; omega
    · obtain rfl : k = ni := by omega
      have hS := unhide HS
      rw [List.take_of_length_le (Nat.le_of_eq (unhide LK))] at hS
      have HR := hide (hS.older (unhide HBW))
      clear hS HS
      go_wp2
      go_ret2
      rw [← unhide EKS]
      exact ⟨_, _, rfl, unhide HR⟩
set_option maxHeartbeats 8000000 in
set_option maxRecDepth 6000 in
theorem cg_6 (b : Bool) (n : Int) (f : Nat) (tx ty : ByteArray) (its : Vls) (fls : Fls) (hsl : fls.list.length ≤ 1099511627776) : CgAt (.mk 6 b n f tx ty its fls) := by
  intro V cs w hVw hv
  have gv := hv
  unfold VlC at gv
  obtain ⟨ai, ni, ci, af, nf, cf, rfl, vI, vF, q1, q2, q3, q4, q5, q6, q7, q8, q9, q10⟩ := gv
  obtain ⟨W, eW⟩ : ∃ W, W = w.alloc (.cells #[.int .i64 6, .bool b, .int .i64 n, .float .f64 f, .string tx, .string ty, .slice ai ni ci, .slice af nf cf] 27) := ⟨_, rfl⟩
  have BW : Below w.heap.size w W := by rw [eW]; exact (Below.refl _ _).alloc (Nat.le_refl _) _
  have R_a := hide (show Row8 W w.heap.size 0 [.int .i64 6, .bool b, .int .i64 n, .float .f64 f, .string tx, .string ty, .slice ai ni ci, .slice af nf cf] from fun j x hx => by
    rw [eW, Nat.zero_add, World.cell?_alloc_at _ _ _ _ rfl]; simpa using hx)
  have V_a := hide (VlC.below BW _ _ (VlC.below hVw _ _ hv))
  have EW := hide eW
  clear eW q5 q6 q7 q8
  go_enter Try.func54, Try.ntmps54
  go_wp2_with (rw [← unhide EW]; refine wpList_load_mid (by rfl) 27 _ (by rfl) w.heap.size 0 (by rfl) [.int .i64 6, .bool b, .int .i64 n, .float .f64 f, .string tx, .string ty, .slice ai ni ci, .slice af nf cf] _ (unhide R_a) Try.underlying27 (by rfl) infoV ?_)
  clear EW
  refine (rkind_ok (.mk 6 b n f tx ty its fls) _ _ _ (unhide V_a)).mono ?_
  rintro e w1 ⟨rfl, g⟩
  rw [show kdV (Vl.mk 6 b n f tx ty its fls) = 6 from (by decide : kdOf 6 = 6)]
  have R_a := hide (Row8.below (unhide R_a) g)
  have BW : Below w.heap.size w w1 := BW.trans (g.mono BW.size)
  have HBW := hide BW
  have HI := hide vI
  have HF := hide vF
  have HVW := hide hVw
  have HVW1 := hide (show Below V.heap.size V w1 from hVw.trans (BW.mono hVw.size))
  clear g V_a hv vI vF
  have x : w1.cell? ⟨w.heap.size, 7, none⟩ = some (.slice af nf cf) := (unhide R_a) 7 _ rfl
  have l1 := FlsAt.len fls _ _ (unhide HF)
  have BN : nf ≤ 1256584717458 := by omega
  have L1 := hide l1
  have HN0 := hide (CgS.nil V w1)
  have LK := hide ((kids6_len b n f tx ty its fls).trans l1)
  have HK := hide (fun (k : Nat) => @kids6_get b n f tx ty its fls k)
  clear l1
  obtain ⟨ks, eks⟩ : ∃ ks, ks = kids (.mk 6 b n f tx ty its fls) := ⟨_, rfl⟩
  rw [← eks] at LK HK
  have EKS := hide eks
  clear eks
  go_wp2_with fail
  go_loopw [7, 4, 5] (fun vi v4 v5 wr => ∃ (k : Nat) (s4 s5 : Value), k ≤ nf ∧ vi = .int .i64 k ∧ v4 = s4 ∧ v5 = s5 ∧ vl.Hid (CgS V w1 ((ks.take k).map Prod.fst) ((ks.take k).map Prod.snd) s4 s5 wr)) (fun vi _ _ _ => nf - (intOf vi).toNat)
  case atStart => exact ⟨0, _, _, Nat.zero_le _, rfl, rfl, rfl, by rw [List.take_zero]; exact HN0⟩
  case round =>
    clear x HN0
    obtain ⟨k, s4, s5, hk1, rfl, rfl, rfl, HS⟩ := hrel
    have x : wr.cell? ⟨w.heap.size, 7, none⟩ = some (.slice af nf cf) := (Row8.below (unhide R_a) (unhide HS).bel) 7 _ rfl
    by_cases hlt : k < nf
    · have ki : (k : Int) < (nf : Int) := by omega
      obtain ⟨p, off, nm, v, us, rfl, hg, hn0, hz, hr, hv⟩ := FlsAt.get fls _ _ (unhide HF) k hlt
      have Hg := hide (unhide HK k hg)
      have hn1 : w1.cell? ⟨p, off + k * 9, none⟩ = some (.string nm) := (Below.cell (unhide HVW1) (p := ⟨p, off + k * 9, none⟩) (World.block_lt_of_cell? V _ hn0)).trans hn0
      have cn : wr.cell? ⟨p, off + k * 9, none⟩ = some (.string nm) := (Below.cell (unhide HS).bel (p := ⟨p, off + k * 9, none⟩) (World.block_lt_of_cell? w1 _ hn1)).trans hn1
      clear hn0 hn1
      have iu : (Try.prog.info? 27).map (·.size) = some us.length := by rw [hv.cells]; exact infoV
      have hr := Row8.below hr (unhide HVW1)
      have hbS := buildS (Value.string nm) (Value.int .i64 0) (Value.bool false) ⟨_, rfl⟩ ⟨_, rfl⟩ ⟨_, rfl⟩
      have hbV := buildV hv
      have hn4 : ((ks.take k).map Prod.fst).length + 1 ≤ 1256584717458 := by have h1 := List.length_take_le k ks; rw [List.length_map]; omega
      have hn5 : ((ks.take k).map Prod.snd).length + 1 ≤ 1256584717458 := by have h1 := List.length_take_le k ks; rw [List.length_map]; omega
      have A := hide (And.intro hr (And.intro hv (And.intro iu (And.intro True.intro (And.intro hbS (And.intro hbV (And.intro hn4 hn5)))))))
      clear hr hv iu hbS hbV hn4 hn5 hg
      go_wp2_with (first
        | refine wpList_buildOne (by rfl) 29 _ (by rfl) (.agg #[Value.string nm, Value.int .i64 0, Value.bool false]) _ (by rfl) ((unhide A).2.2.2.2.1 wr) ?_
        | (at_builtin; refine wp_cg4 (unhide HS) (by rfl) _ _ (by rfl) (by rfl) ⟨nm, 0, false⟩ [Value.string nm, Value.int .i64 0, Value.bool false] rfl wr.heap.size rfl (by rfl) (unhide A).2.2.2.2.2.2.1 ?_; intro g4 n4 c4 w3 hS3; have x3 : w3.cell? ⟨w.heap.size, 7, none⟩ = some (.slice (some ⟨p, off, none⟩) nf cf) := (Row8.below (unhide R_a) hS3.bel) 7 _ rfl; have HS3 := hide hS3; clear hS3)
        | refine wpList_load_mid (by rfl) 27 _ (by rfl) p (off + k * 9 + 1) (by rfl) us _ (Row8.below (unhide A).1 (unhide HS3).bel) Try.underlying27 (by rfl) (unhide A).2.2.1 ?_
        | refine wpList_buildOne (by rfl) 24 _ (by rfl) (.agg us.toArray) _ (by rfl) ((unhide A).2.2.2.2.2.1 w3) ?_
        | (at_builtin; refine wp_cg5 (unhide HS3) (by rfl) _ _ (by rfl) (by rfl) v us (unhide A).2.1 w3.heap.size rfl (by rfl) (unhide A).2.2.2.2.2.2.2 ?_; intro g5 n5 c5 w4 hS4; have HS4 := hide hS4; clear hS4))
      go_roundw
      case rel => exact ⟨k + 1, _, _, by omega, by go_num, rfl, rfl, by rw [List.take_add_one, unhide Hg, List.map_append, List.map_append]; exact HS4⟩
      case measure => simp [intOf]; omega
    · obtain rfl : k = nf := by omega
      have hS := unhide HS
      rw [List.take_of_length_le (Nat.le_of_eq (unhide LK))] at hS
      have HR := hide (hS.older (unhide HBW))
      clear hS HS
      go_wp2
      go_ret2
      rw [← unhide EKS]
      exact ⟨_, _, rfl, unhide HR⟩
set_option maxHeartbeats 8000000 in
set_option maxRecDepth 6000 in
theorem cg_0 (kd : Int) (b : Bool) (n : Int) (f : Nat) (tx ty : ByteArray) (its : Vls) (fls : Fls) (K : Int) (hk : kdOf kd = K) (h5 : K ≠ 5) (h6 : K ≠ 6) : CgAt (.mk kd b n f tx ty its fls) := by
  intro V cs w hVw hv
  have gv := hv
  unfold VlC at gv
  obtain ⟨ai, ni, ci, af, nf, cf, rfl, vI, vF, q1, q2, q3, q4, q5, q6, q7, q8, q9, q10⟩ := gv
  obtain ⟨W, eW⟩ : ∃ W, W = w.alloc (.cells #[.int .i64 kd, .bool b, .int .i64 n, .float .f64 f, .string tx, .string ty, .slice ai ni ci, .slice af nf cf] 27) := ⟨_, rfl⟩
  have BW : Below w.heap.size w W := by rw [eW]; exact (Below.refl _ _).alloc (Nat.le_refl _) _
  have R_a := hide (show Row8 W w.heap.size 0 [.int .i64 kd, .bool b, .int .i64 n, .float .f64 f, .string tx, .string ty, .slice ai ni ci, .slice af nf cf] from fun j x hx => by
    rw [eW, Nat.zero_add, World.cell?_alloc_at _ _ _ _ rfl]; simpa using hx)
  have V_a := hide (VlC.below BW _ _ (VlC.below hVw _ _ hv))
  have EW := hide eW
  clear eW q5 q6 q7 q8
  go_enter Try.func54, Try.ntmps54
  go_wp2_with (rw [← unhide EW]; refine wpList_load_mid (by rfl) 27 _ (by rfl) w.heap.size 0 (by rfl) [.int .i64 kd, .bool b, .int .i64 n, .float .f64 f, .string tx, .string ty, .slice ai ni ci, .slice af nf cf] _ (unhide R_a) Try.underlying27 (by rfl) infoV ?_)
  clear EW
  refine (rkind_ok (.mk kd b n f tx ty its fls) _ _ _ (unhide V_a)).mono ?_
  rintro e w1 ⟨rfl, g⟩
  rw [show kdV (Vl.mk kd b n f tx ty its fls) = K from hk]
  have R_a := hide (Row8.below (unhide R_a) g)
  have BW : Below w.heap.size w w1 := BW.trans (g.mono BW.size)
  have HBW := hide BW
  have HI := hide vI
  have HF := hide vF
  have HVW := hide hVw
  have HVW1 := hide (show Below V.heap.size V w1 from hVw.trans (BW.mono hVw.size))
  clear g V_a hv vI vF
  have h5' : kd ≠ 5 := fun e => h5 (by rw [← hk, e]; decide)
  have h6' : kd ≠ 6 := fun e => h6 (by rw [← hk, e]; decide)
  go_wp2
  go_ret2
  rw [kids_0 h5' h6']
  exact ⟨_, _, rfl, (CgS.nil V w1).older (unhide HBW)⟩
theorem cg_ok (v : Vl) (hv : Small v) : CgAt v := by
  obtain ⟨kd, b, n, f, tx, ty, its, fls⟩ := v
  unfold Small at hv
  by_cases h5 : kdOf kd = 5
  · obtain rfl := kdOf_five h5
    exact cg_5 _ _ _ _ _ _ _ hv.1
  · by_cases h6 : kdOf kd = 6
    · obtain rfl := kdOf_six h6
      exact cg_6 _ _ _ _ _ _ _ hv.2.1
    · exact cg_0 _ _ _ _ _ _ _ _ _ rfl h5 h6
end Go.Proofs.Ythpcpminikmcbaa.og
namespace Go.Proofs.Ythpcpminikmcbaa.og
open Go.ChangeShapes Go.WideShapes Go.ChangeAt Go.RowKit
open vl hiding cB cFl cS cF cI cK cIt
open stp (St Pth St3)
set_option linter.unusedVariables false
set_option linter.unusedSimpArgs false
/-- a new list of steps -/
abbrev GrS (B : Nat) (l : List St) (sl : Value) (w : World) : Prop := GrV (fun s cs => cs = stC s) 34 3 B l sl w
theorem pth_get {w : World} {a : Option Addr} {n : Nat} {ss : List St} (h : Pth w a n ss) {k : Nat} {s : St} (hs : ss[k]? = some s) : ∃ b off, a = some ⟨b, off, none⟩ ∧ w.rangeAt b (off + k * 3) (stC s) := by
  obtain ⟨hl, hc⟩ := h
  have hk := (List.getElem?_eq_some_iff.1 hs).1
  rcases hc with h0 | ⟨b, off, rfl, hlt, hc⟩
  · omega
  · refine ⟨b, off, rfl, fun j u hu => ?_⟩
    obtain ⟨s', hs', h3⟩ := hc k (by omega)
    obtain rfl : s = s' := by rw [hs] at hs'; simpa using hs'
    unfold St3 at h3
    have hj : j < 3 := by have := (List.getElem?_eq_some_iff.1 hu).1; simpa [stC] using this
    rcases (by omega : j = 0 ∨ j = 1 ∨ j = 2) with rfl | rfl | rfl
    · simp [stC] at hu; rw [← hu]; exact h3.1
    · simp [stC] at hu; rw [← hu]; exact h3.2.1
    · simp [stC] at hu; rw [← hu]; exact h3.2.2
theorem buildS1 (s : St) (w : World) : (Instr.buildSlice 29 1 #[(0, .agg (stC s).toArray)]).run Try.prog w = .ok (.slice (some ⟨w.heap.size, 0, none⟩) 1 1) (w.alloc (.cells (stC s).toArray 34)) := by
  simp only [stC]; go_simp
theorem infoS3 : (Try.prog.info? 34).map (·.size) = some 3 := by kernel_rfl
theorem wp_lg {W w : World} {l : List St} {sl : Value} {ops : Array Oper} {rest : List Oper} {o : Oper} {a : Act} {Q : Exit → Act → World → Prop} (hG : GrS W.heap.size l sl w) (hB : Gb W w) (hgd : o.guard = none) (s x : Operand)
    (ho : o.op = .call { callee := .builtin .append, args := #[s, x], argTypes := #[29, 29] }) (hs : a.eval s = sl) (t : St) (N : Nat) (hN : N = w.heap.size) (hx : a.eval x = .slice (some ⟨N, 0, none⟩) 1 1) (hn : l.length + 1 ≤ 1048577)
    (h : ∀ g n cap w', GrS W.heap.size (l ++ [t]) (.slice (some ⟨g, 0, none⟩) n cap) w' → Gb W w' → wpList Try.prog ops Q rest (a.put o.dst (.slice (some ⟨g, 0, none⟩) n cap)) w') : wpList Try.prog ops Q (o :: rest) a (w.alloc (.cells (stC t).toArray 34)) := by
  obtain ⟨i, z, hi, hz, hsz, hb, hc⟩ := infoSz
  have hlt := hG.lt
  have hsB := hB.size
  refine wp_grv hgd s x ho Try.underlying29 hi hz hsz hb hc (by omega) W.heap.size l sl hs hG t (stC t) rfl rfl (by simp [stC, Value.oneCell']) N hN hx (by omega) (by unfold maxLen; omega) hsB ?_
  intro g cap w' hg hgr hat hlt'
  exact h g _ cap w' hg (Below.trans hB (((Below.refl _ _).alloc hsB _).grown hgr (by simp; omega) (fun q hq => (hlt q hq).1)))
theorem GrS.older {B B' : Nat} {l : List St} {sl : Value} {w : World} (h : GrS B l sl w) (hb : B' ≤ B) : GrS B' l sl w := by
  obtain ⟨xss, h1, h2⟩ := h
  exact ⟨xss, ⟨h1.1, h1.2.imp id (fun ⟨g, cap, cur, e, hg, r⟩ => ⟨g, cap, cur, e, by omega, r⟩)⟩, h2⟩
set_option maxHeartbeats 8000000 in
set_option maxRecDepth 6000 in
/-- ref03.longer: a path and one more step, in new memory -/
theorem longer_ok (ss : List St) (s : St) (ap : Option Addr) (n c : Nat) (w : World) (hp : Pth w ap n ss) (hn : n ≤ 1048576) :
    Calls Try.prog 55 #[.slice ap n c, .agg (stC s).toArray] w fun e w' => ∃ sl, e = .returned sl ∧ GrS w.heap.size (ss ++ [s]) sl w' ∧ Below w.heap.size w w' := by
  have hlen := hp.len
  obtain ⟨W, eW⟩ : ∃ W, W = w.alloc (.cells (stC s).toArray 34) := ⟨_, rfl⟩
  have EW0 := hide eW
  have BW : Below w.heap.size w W := by rw [eW]; exact (Below.refl _ _).alloc (Nat.le_refl _) _
  have SW : w.heap.size < W.heap.size := by rw [eW]; simp
  have R_s := hide (show W.rangeAt w.heap.size 0 (stC s) from fun j u hu => by
    rw [Nat.zero_add, eW, World.cell?_alloc_at _ _ _ _ rfl]; simpa using hu)
  have HP := hide (hp.below BW)
  obtain ⟨i, z, hi, hz, hsz, hby, hcz⟩ := infoSz
  obtain ⟨X, hmk, hrow, hgr⟩ := run_make_own W W.heap.size 29 34 i z 3 Try.underlying29 hi hz hsz .i64 .i64 (n + 1) (by rw [hby]; omega) (by unfold maxLen; omega) (Nat.le_refl _)
  have BX : Below W.heap.size W X := (Below.refl _ _).grown hgr (Nat.le_refl _) (fun k hk => by cases hk)
  have eSW : W.heap.size = w.heap.size + 1 := by rw [unhide EW0]; simp
  have G0 := hide (show GrS W.heap.size [] (.slice (some ⟨W.heap.size, 0, none⟩) 0 (n + 1)) X from ⟨[], hrow, trivial⟩)
  have hn1 : (((n + 1 : Nat) : Int)) = (n : Int) + 1 := by omega
  rw [hn1] at hmk
  have EW := hide eW
  clear eW hp hrow hgr hi hz hsz hby hcz
  go_enter Try.func55, Try.ntmps55
  have eW2 := unhide EW
  rw [eW2] at hmk
  go_wp2_with fail
  clear hmk eW2
  go_loopw [6, 5] (fun vi v5 wr => ∃ (k : Nat) (sl : Value), k ≤ n ∧ vi = .int .i64 k ∧ v5 = sl ∧ vl.Hid (GrS W.heap.size (ss.take k) sl wr) ∧ vl.Hid (Gb W wr)) (fun vi _ _ => n - (intOf vi).toNat)
  case atStart => exact ⟨0, _, Nat.zero_le _, rfl, rfl, by rw [List.take_zero, ← eSW]; exact G0, BX⟩
  case round =>
    clear G0 BX
    obtain ⟨k, sl, hk, rfl, rfl, HG, HB⟩ := hrel
    by_cases hlt : k < n
    · have ki : (k : Int) < (n : Int) := by omega
      obtain ⟨t, ht⟩ : ∃ t, ss[k]? = some t := ⟨_, List.getElem?_eq_getElem (by omega)⟩
      obtain ⟨p, off, rfl, hr⟩ := pth_get (unhide HP) ht
      have hlp : p < W.heap.size := World.block_lt_of_cell? W _ (hr 0 _ rfl)
      have hr' := hide (show wr.rangeAt p (off + k * 3) (stC t) from fun j u hu => (Below.cell (unhide HB) (p := ⟨p, off + k * 3 + j, none⟩) hlp).trans (hr j u hu))
      have Ht := hide ht
      have hbS := hide (buildS1 t wr)
      have hnk := hide (show (ss.take k).length + 1 ≤ 1048577 by have := List.length_take_le k ss; omega)
      clear hr ht
      go_wp2_with (first
        | refine wpList_load_mid (by rfl) 34 _ (by rfl) p (off + k * 3) (by rfl) (stC t) _ (unhide hr') Try.underlying34 (by rfl) infoS3 ?_
        | refine wpList_buildOne (by rfl) 29 _ (by rfl) (.agg (stC t).toArray) _ (by rfl) (unhide hbS) ?_
        | (at_builtin; refine wp_lg (unhide HG) (unhide HB) (by rfl) _ _ (by rfl) (by rfl) t wr.heap.size rfl (by rfl) (unhide hnk) ?_; intro g n4 cap w4 g4 b4; have HG4 := hide g4; have HB4 := hide b4; clear g4 b4))
      go_roundw
      case rel => exact ⟨k + 1, _, by omega, by go_num, rfl, by rw [List.take_add_one, unhide Ht]; exact HG4, HB4⟩
      case measure => simp [intOf]; omega
    · obtain rfl : k = n := by omega
      have hG := unhide HG
      rw [List.take_of_length_le (Nat.le_of_eq hlen)] at hG
      have HG2 := hide hG
      have hls : w.heap.size < W.heap.size := SW
      have hr' := hide (show wr.rangeAt w.heap.size 0 (stC s) from fun j u hu => (Below.cell (unhide HB) (p := ⟨w.heap.size, 0 + j, none⟩) hls).trans (unhide R_s j u hu))
      have hbS := hide (buildS1 s wr)
      have hnk := hide (show ss.length + 1 ≤ 1048577 by omega)
      clear hG HG
      go_wp2_with (first
        | refine wpList_load_mid (by rfl) 34 _ (by rfl) w.heap.size 0 (by rfl) (stC s) _ (unhide hr') Try.underlying34 (by rfl) infoS3 ?_
        | refine wpList_buildOne (by rfl) 29 _ (by rfl) (.agg (stC s).toArray) _ (by rfl) (unhide hbS) ?_
        | (at_builtin; refine wp_lg (unhide HG2) (unhide HB) (by rfl) _ _ (by rfl) (by rfl) s wr.heap.size rfl (by rfl) (unhide hnk) ?_; intro g n4 cap w4 g4 b4; have HG4 := hide g4; have HB4 := hide b4; clear g4 b4))
      go_ret
      exact ⟨_, rfl, (unhide HG4).older (Nat.le_of_lt SW), BW.trans (Below.mono (unhide HB4) BW.size)⟩
end Go.Proofs.Ythpcpminikmcbaa.og
