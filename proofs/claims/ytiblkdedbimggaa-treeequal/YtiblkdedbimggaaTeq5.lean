import Derived.Test.YtiblkdedbimggaaTeq4
import Derived.Test.YtiblkdedbimggaaTeq2
import Derived.SizedLaws
import Derived.Deep.Strs
import Derived.Test.YtiblkdedbimggaaTeq3
namespace Go.Proofs.Ytiblkdedbimggaa.vl
open Go.ChangeShapes Go.WideShapes Go.ChangeAt Go.RowKit
open stp (St Pth St3)
set_option linter.unusedVariables false
set_option linter.unusedSimpArgs false
set_option maxHeartbeats 6000000 in
set_option maxRecDepth 6000 in
theorem two_ok (w : World) : Calls Try.prog 25 #[] w fun e w' => Below w.heap.size w w' ∧ ∃ b, e = .returned (.agg (twoC b).toArray) ∧ VlC w' twoV (twoC b) := by
  have hsf := storeF
  obtain ⟨W, eW⟩ : ∃ W, W = (((w.alloc (.cells #[.int .i64 0, .bool false, .int .i64 0, .float .f64 0, .string { data := #[] }, .string { data := #[] }, .slice none 0 0, .slice none 0 0] 27)).alloc (.cells #[.string { data := #[98] }, .int .i64 0, .bool false, .int .i64 0, .float .f64 0, .string { data := #[] }, .string { data := #[] }, .slice none 0 0, .slice none 0 0] 47)).alloc (.cells #[.int .i64 6, .bool false, .int .i64 0, .float .f64 0, .string { data := #[] }, .string { data := #[] }, .slice none 0 0, .slice (some ⟨w.heap.size + 1, 0, none⟩) 1 1] 27)) := ⟨_, rfl⟩
  have bW : Below w.heap.size w W := by rw [eW]; exact (((Below.refl _ _).alloc (Nat.le_refl _) _).alloc (by simp) _).alloc (by simp; omega) _
  have hsz : w.heap.size + 3 ≤ W.heap.size := by rw [eW]; simp
  have hth : W.there w.heap.size 0 8 := by rw [eW]; exact World.there_alloc (World.there_alloc (there_new rfl) _) _
  have hmem : W.rangeAt (w.heap.size + 1) 0 (Value.string { data := #[98] } :: z8) := fun j u hu => by
    rw [Nat.zero_add, eW, World.cell?_alloc_past _ _ _ (by simp), World.cell?_alloc_at _ _ _ _ (by simp)]; simpa [z8] using hu
  have hinn : W.rangeAt (w.heap.size + 1 + 1) 0 (innerC (w.heap.size + 1)) := fun j u hu => by
    rw [Nat.zero_add, eW, World.cell?_alloc_at _ _ _ _ (by simp)]; simpa [innerC] using hu
  have vin := innerV_at hmem
  have EW := hide eW
  clear eW
  go_enter Try.func25, Try.ntmps25
  go_wp2_with fail
  rw [← unhide EW]
  clear EW hsf
  have hS0 : Below W.heap.size W { W with drawn := W.drawn + 1 } := (Below.refl _ _).drew
  refine wp_region_noPanic ?_
  refine wp_region_held (S := fun w' => Below W.heap.size W w') mixed ?_
  refine wpAnyH_take (i := 1) rfl (by kernel_rfl) (by kernel_rfl) (by kernel_rfl) (fun _ _ _ h => h) (yieldsIf_load_mid (by rfl) 27 _ (by rfl) (w.heap.size + 1 + 1) 0 (by rfl) (innerC (w.heap.size + 1)) _ (fun w' hw' => Row8.below hinn hw') Try.underlying27 (by rfl) (by simp [innerC, infoV])) hS0 ?_
  simp only [List.getElem_toArray, List.getElem_cons_zero, List.getElem_cons_succ, Act.put, List.setIfInBounds_toArray, List.set_cons_zero, List.set_cons_succ]
  refine rgn.two (i := 0) (j := 4) _ _ rfl rfl (by kernel_rfl) (by rfl) (by rfl) ?_ ?_
  · simp only [List.getElem_toArray, List.getElem_cons_zero, List.getElem_cons_succ, Act.put, List.setIfInBounds_toArray, List.set_cons_zero, List.set_cons_succ]
    go_wp2_with fail
    refine (num_ok 1 _).mono ?_
    rintro e w1 ⟨bw1, rfl⟩
    have hS0 : Below W.heap.size W w1 := hS0.trans bw1
    have hSW1 := hS0
    refine ⟨hS0, ?_⟩
    refine rgn.two (i := 2) (j := 4) _ _ rfl rfl (by kernel_rfl) (by rfl) (by rfl) ?_ ?_
    · simp only [List.getElem_toArray, List.getElem_cons_zero, List.getElem_cons_succ, Act.put, List.setIfInBounds_toArray, List.set_cons_zero, List.set_cons_succ]
      refine wpO_build2 24 _ _ (by rfl) (.agg (numC 1).toArray) (.agg (innerC (w.heap.size + 1)).toArray) _ (by rfl) (by rfl) (build2V (numV 1 rfl W) vin _) ?_
      obtain ⟨X1, eX1⟩ : ∃ X1, X1 = w1.alloc (.cells (numC 1 ++ innerC (w.heap.size + 1)).toArray 27) := ⟨_, rfl⟩
      have rowX1 : X1.rangeAt w1.heap.size 0 (numC 1 ++ innerC (w.heap.size + 1)) := by rw [eX1]; intro j u hu; rw [Nat.zero_add, World.cell?_alloc_at _ _ _ _ rfl]; simpa using hu
      have sX1 : w1.heap.size + 1 ≤ X1.heap.size := by rw [eX1]; simp
      have bX1 : Below w1.heap.size w1 X1 := by rw [eX1]; exact (Below.refl _ _).alloc (Nat.le_refl _) _
      rw [← eX1]
      clear eX1
      have hS0 : Below W.heap.size W X1 := hS0.trans (bX1.mono hS0.size)
      refine ⟨hS0, ?_⟩
      simp only [List.getElem_toArray, List.getElem_cons_zero, List.getElem_cons_succ, Act.put, List.setIfInBounds_toArray, List.set_cons_zero, List.set_cons_succ]
      refine rgn.take (i := 3) _ (.agg (listC w1.heap.size).toArray) rfl (by kernel_rfl) (by kernel_rfl) (by kernel_rfl) (fun _ _ _ h => h) (by rfl) hS0 (fun w' hw' => by simp only [listC]; go_simp) ?_
      simp only [List.getElem_toArray, List.getElem_cons_zero, List.getElem_cons_succ, Act.put, List.setIfInBounds_toArray, List.set_cons_zero, List.set_cons_succ]
      refine rgn.one (i := 4) _ rfl (by kernel_rfl) (by rfl) ?_
      simp only [List.getElem_toArray, List.getElem_cons_zero, List.getElem_cons_succ, Act.put, List.setIfInBounds_toArray, List.set_cons_zero, List.set_cons_succ]
      refine wpO_alloc 27 (by rfl) _ (allocV _) ?_
      obtain ⟨X2, eX2⟩ : ∃ X2, X2 = X1.alloc (.cells #[.int .i64 0, .bool false, .int .i64 0, .float .f64 0, .string { data := #[] }, .string { data := #[] }, .slice none 0 0, .slice none 0 0] 27) := ⟨_, rfl⟩
      have thX2 : X2.there X1.heap.size 0 8 := by rw [eX2]; exact there_new rfl
      have sX2 : X1.heap.size + 1 ≤ X2.heap.size := by rw [eX2]; simp
      have bX2 : Below X1.heap.size X1 X2 := by rw [eX2]; exact (Below.refl _ _).alloc (Nat.le_refl _) _
      rw [← eX2]
      clear eX2
      have hS0 : Below W.heap.size W X2 := hS0.trans (bX2.mono hS0.size)
      refine ⟨hS0, ?_⟩
      simp only [List.getElem_toArray, List.getElem_cons_zero, List.getElem_cons_succ, Act.put, List.setIfInBounds_toArray, List.set_cons_zero, List.set_cons_succ]
      have thL : X2.there X1.heap.size 0 (listC w1.heap.size).toArray.size := thX2
      have rowS := Row8.below rowX1 bX2
      have hne : w1.heap.size ≠ X1.heap.size := by omega
      have hLs : X1.heap.size < X2.heap.size := by omega
      have hLlo : W.heap.size ≤ X1.heap.size := by have := bw1.size; have h0 := bX1.size; have h1 := hSW1.size; omega
      refine rgn.one (i := 5) _ rfl (by kernel_rfl) (by rfl) ?_
      simp only [List.getElem_toArray, List.getElem_cons_zero, List.getElem_cons_succ, Act.put, List.setIfInBounds_toArray, List.set_cons_zero, List.set_cons_succ]
      refine wp_store_mid 27 _ _ (by rfl) X1.heap.size 0 (listC w1.heap.size).toArray (by rfl) (by rfl) thL (by simp [listC, infoV]) (by simp [listC, Value.oneCell']) ?_
      obtain ⟨L, eL⟩ : ∃ L, L = X2.setCells X1.heap.size 0 (listC w1.heap.size) := ⟨_, rfl⟩
      have t1 : Below W.heap.size W L := by rw [eL]; exact below_setCells _ _ _ _ hS0 hLlo
      have t2 : L.rangeAt X1.heap.size 0 (listC w1.heap.size) := by rw [eL]; exact World.rangeAt_setCells_same _ _ _ _ thL
      have t3 : L.rangeAt w1.heap.size 0 (numC 1 ++ innerC (w.heap.size + 1)) := by
        rw [eL]
        intro j u hu
        rw [World.cell?_setCells_out _ _ _ _ _ (fun e _ => absurd (show w1.heap.size = X1.heap.size from e) hne)]
        exact rowS j u hu
      have t4 : X1.heap.size < L.heap.size := by rw [eL, size_setCells]; exact hLs
      rw [show X2.setCells X1.heap.size 0 (listC w1.heap.size).toArray.toList = L from eL.symm]
      refine ⟨t1, ?_⟩
      refine wpAnyH_done (by kernel_rfl) ?_ _
      refine NoPanic.normal ?_
      simp only [List.getElem_toArray, List.getElem_cons_zero, List.getElem_cons_succ, Act.put, List.setIfInBounds_toArray, List.set_cons_zero, List.set_cons_succ]
      have hSlo : w.heap.size < w1.heap.size := by have := hSW1.size; omega
      have hShi : w1.heap.size < L.heap.size := by omega
      have hLB : w.heap.size < X1.heap.size := by omega
      generalize w1.heap.size = SBB at *
      generalize X1.heap.size = LBB at *
      clear eL
      have vl3 := listV_at t3 (VlC.below t1 _ _ vin)
      clear hS0 thL rowS hne hLs hLlo
      go_wp2_with fail
      have hS0 : ({ L with drawn := L.drawn + 1 } : World).rangeAt LBB 0 (listC SBB) := t2
      refine wp_region_noPanic ?_
      refine wp_region_held (S := fun w' => w'.rangeAt LBB 0 (listC SBB)) mixed ?_
      refine wpAnyH_take (i := 0) rfl (by kernel_rfl) (by kernel_rfl) (by kernel_rfl) (fun _ _ _ h => h) (yieldsIf_load_mid (by rfl) 27 _ (by rfl) LBB 0 (by rfl) (listC SBB) _ (fun w' hw' => hw') Try.underlying27 (by rfl) (by simp [listC, infoV])) hS0 ?_
      simp only [List.getElem_toArray, List.getElem_cons_zero, List.getElem_cons_succ, Act.put, List.setIfInBounds_toArray, List.set_cons_zero, List.set_cons_succ]
      refine rgn.take (i := 1) _ (.agg (Value.string { data := #[97] } :: listC SBB).toArray) rfl (by kernel_rfl) (by kernel_rfl) (by kernel_rfl) (fun _ _ _ h => h) (by rfl) hS0 (fun w' hw' => by clear hw'; simp only [listC]; go_simp) ?_
      simp only [List.getElem_toArray, List.getElem_cons_zero, List.getElem_cons_succ, Act.put, List.setIfInBounds_toArray, List.set_cons_zero, List.set_cons_succ]
      refine rgn.one (i := 2) _ rfl (by kernel_rfl) (by rfl) ?_
      simp only [List.getElem_toArray, List.getElem_cons_zero, List.getElem_cons_succ, Act.put, List.setIfInBounds_toArray, List.set_cons_zero, List.set_cons_succ]
      go_wp2_with fail
      refine (text_ok { data := #[120] } _).mono ?_
      rintro e w5 ⟨b5, rfl⟩
      have c5 : Below L.heap.size L w5 := (Below.refl _ _).drew.trans b5
      have hS0 : w5.rangeAt LBB 0 (listC SBB) := Row8.below t2 c5
      refine ⟨hS0, ?_⟩
      refine rgn.take (i := 3) _ (.agg (Value.string { data := #[99] } :: txtC { data := #[120] }).toArray) rfl (by kernel_rfl) (by kernel_rfl) (by kernel_rfl) (fun _ _ _ h => h) (by rfl) hS0 (fun w' hw' => by clear hw'; simp only [txtC]; go_simp) ?_
      simp only [List.getElem_toArray, List.getElem_cons_zero, List.getElem_cons_succ, Act.put, List.setIfInBounds_toArray, List.set_cons_zero, List.set_cons_succ]
      refine rgn.one (i := 4) _ rfl (by kernel_rfl) (by rfl) ?_
      simp only [List.getElem_toArray, List.getElem_cons_zero, List.getElem_cons_succ, Act.put, List.setIfInBounds_toArray, List.set_cons_zero, List.set_cons_succ]
      refine wpO_build2 25 _ _ (by rfl) (.agg (Value.string { data := #[97] } :: listC SBB).toArray) (.agg (Value.string { data := #[99] } :: txtC { data := #[120] }).toArray) _ (by rfl) (by rfl) (build2M { data := #[97] } { data := #[99] } vl3 (txtV { data := #[120] } (by decide) L) _) ?_
      obtain ⟨Y, eY⟩ : ∃ Y, Y = w5.alloc (.cells ((Value.string { data := #[97] } :: listC SBB) ++ (Value.string { data := #[99] } :: txtC { data := #[120] })).toArray 47) := ⟨_, rfl⟩
      have rowY : Y.rangeAt w5.heap.size 0 ((Value.string { data := #[97] } :: listC SBB) ++ (Value.string { data := #[99] } :: txtC { data := #[120] })) := by rw [eY]; intro j u hu; rw [Nat.zero_add, World.cell?_alloc_at _ _ _ _ rfl]; simpa using hu
      have bY : Below w5.heap.size w5 Y := by rw [eY]; exact (Below.refl _ _).alloc (Nat.le_refl _) _
      have sY : w5.heap.size + 1 ≤ Y.heap.size := by rw [eY]; simp
      rw [← eY]
      clear eY
      have hS0 : Y.rangeAt LBB 0 (listC SBB) := Row8.below hS0 bY
      refine ⟨hS0, ?_⟩
      simp only [List.getElem_toArray, List.getElem_cons_zero, List.getElem_cons_succ, Act.put, List.setIfInBounds_toArray, List.set_cons_zero, List.set_cons_succ]
      refine rgn.take (i := 5) _ (.agg (twoC w5.heap.size).toArray) rfl (by kernel_rfl) (by kernel_rfl) (by kernel_rfl) (fun _ _ _ h => h) (by rfl) hS0 (fun w' hw' => by clear hw'; simp only [twoC]; go_simp) ?_
      simp only [List.getElem_toArray, List.getElem_cons_zero, List.getElem_cons_succ, Act.put, List.setIfInBounds_toArray, List.set_cons_zero, List.set_cons_succ]
      refine rgn.one (i := 6) _ rfl (by kernel_rfl) (by rfl) ?_
      simp only [List.getElem_toArray, List.getElem_cons_zero, List.getElem_cons_succ, Act.put, List.setIfInBounds_toArray, List.set_cons_zero, List.set_cons_succ]
      have sW := t1.size
      have s5 := c5.size
      have thR : Y.there w.heap.size 0 (twoC w5.heap.size).toArray.size := there_below (there_below (there_below hth t1 (by omega)) c5 (by omega)) bY (by omega)
      have i9 : (Try.prog.info? 27).map (·.size) = some (twoC w5.heap.size).toArray.size := by simp [twoC, infoV]
      refine wp_store_mid 27 _ _ (by rfl) w.heap.size 0 (twoC w5.heap.size).toArray (by rfl) (by rfl) thR i9 (by simp [twoC, Value.oneCell']) ?_
      obtain ⟨R, eR⟩ : ∃ R, R = Y.setCells w.heap.size 0 (twoC w5.heap.size) := ⟨_, rfl⟩
      have rowR : R.rangeAt w.heap.size 0 (twoC w5.heap.size) := by rw [eR]; exact World.rangeAt_setCells_same _ _ _ _ thR
      have bR : Below w.heap.size w R := by rw [eR]; exact below_setCells _ _ _ _ (((bW.trans (t1.mono bW.size)).trans (c5.mono (by omega))).trans (bY.mono (by omega))) (Nat.le_refl _)
      have ouR : ∀ b j, w.heap.size < b → R.cell? ⟨b, j, none⟩ = Y.cell? ⟨b, j, none⟩ := fun b j hb => by rw [eR]; exact World.cell?_setCells_out _ _ _ _ _ (fun e _ => by have e : b = w.heap.size := e; omega)
      have agW : ∀ b j, w.heap.size < b → b < L.heap.size → R.cell? ⟨b, j, none⟩ = L.cell? ⟨b, j, none⟩ := fun b j h1 h2 => (ouR b j h1).trans ((bY.cell (p := ⟨b, j, none⟩) (show b < w5.heap.size by omega)).trans (c5.cell (p := ⟨b, j, none⟩) h2))
      have vin' : VlC R innerV (innerC (w.heap.size + 1)) := innerV_at (fun j u hu => (agW _ _ (by omega) (by omega)).trans ((t1.cell (p := ⟨w.heap.size + 1, 0 + j, none⟩) (show w.heap.size + 1 < W.heap.size by omega)).trans (hmem j u hu)))
      have vl' : VlC R listV (listC SBB) := listV_at (fun j u hu => (agW _ _ hSlo hShi).trans (t3 j u hu)) vin'
      have vt' : VlC R twoV (twoC w5.heap.size) := twoV_at (fun j u hu => (ouR _ _ (by omega)).trans (rowY j u hu)) vl'
      rw [show Y.setCells w.heap.size 0 (twoC w5.heap.size).toArray.toList = R from eR.symm]
      have hSR : R.rangeAt LBB 0 (listC SBB) := fun j u hu => (agW _ _ hLB t4).trans (t2 j u hu)
      refine ⟨hSR, ?_⟩
      refine wpAnyH_done (by kernel_rfl) ?_ _
      refine NoPanic.normal ?_
      simp only [List.getElem_toArray, List.getElem_cons_zero, List.getElem_cons_succ, Act.put, List.setIfInBounds_toArray, List.set_cons_zero, List.set_cons_succ]
      clear eR
      have Hf := hide (And.intro rowR (And.intro bR (And.intro vt' i9)))
      clear rowR bR vt' i9
      go_wp2_with fail
      refine bodyPost_ret (rgn.result_row rfl _ _ w.heap.size 0 (twoC w5.heap.size) _ rfl (unhide Hf).1 Try.underlying27 rfl (by simp [twoC, infoV])) rfl ?_
      exact ⟨(unhide Hf).2.1, _, rfl, (unhide Hf).2.2.1⟩
    · simp only [List.getElem_toArray, List.getElem_cons_zero, List.getElem_cons_succ, Act.put, List.setIfInBounds_toArray, List.set_cons_zero, List.set_cons_succ]
      refine wpO_alloc 27 (by rfl) _ (allocV _) ?_
      obtain ⟨X1, eX1⟩ : ∃ X1, X1 = w1.alloc (.cells #[.int .i64 0, .bool false, .int .i64 0, .float .f64 0, .string { data := #[] }, .string { data := #[] }, .slice none 0 0, .slice none 0 0] 27) := ⟨_, rfl⟩
      have thX1 : X1.there w1.heap.size 0 8 := by rw [eX1]; exact there_new rfl
      have sX1 : w1.heap.size + 1 ≤ X1.heap.size := by rw [eX1]; simp
      have bX1 : Below w1.heap.size w1 X1 := by rw [eX1]; exact (Below.refl _ _).alloc (Nat.le_refl _) _
      rw [← eX1]
      clear eX1
      have hS0 : Below W.heap.size W X1 := hS0.trans (bX1.mono hS0.size)
      refine ⟨hS0, ?_⟩
      simp only [List.getElem_toArray, List.getElem_cons_zero, List.getElem_cons_succ, Act.put, List.setIfInBounds_toArray, List.set_cons_zero, List.set_cons_succ]
      refine rgn.one (i := 2) _ rfl (by kernel_rfl) (by rfl) ?_
      simp only [List.getElem_toArray, List.getElem_cons_zero, List.getElem_cons_succ, Act.put, List.setIfInBounds_toArray, List.set_cons_zero, List.set_cons_succ]
      refine wpO_build2 24 _ _ (by rfl) (.agg (numC 1).toArray) (.agg (innerC (w.heap.size + 1)).toArray) _ (by rfl) (by rfl) (build2V (numV 1 rfl W) vin _) ?_
      obtain ⟨X2, eX2⟩ : ∃ X2, X2 = X1.alloc (.cells (numC 1 ++ innerC (w.heap.size + 1)).toArray 27) := ⟨_, rfl⟩
      have rowX2 : X2.rangeAt X1.heap.size 0 (numC 1 ++ innerC (w.heap.size + 1)) := by rw [eX2]; intro j u hu; rw [Nat.zero_add, World.cell?_alloc_at _ _ _ _ rfl]; simpa using hu
      have sX2 : X1.heap.size + 1 ≤ X2.heap.size := by rw [eX2]; simp
      have bX2 : Below X1.heap.size X1 X2 := by rw [eX2]; exact (Below.refl _ _).alloc (Nat.le_refl _) _
      rw [← eX2]
      clear eX2
      have hS0 : Below W.heap.size W X2 := hS0.trans (bX2.mono hS0.size)
      refine ⟨hS0, ?_⟩
      simp only [List.getElem_toArray, List.getElem_cons_zero, List.getElem_cons_succ, Act.put, List.setIfInBounds_toArray, List.set_cons_zero, List.set_cons_succ]
      refine rgn.take (i := 3) _ (.agg (listC X1.heap.size).toArray) rfl (by kernel_rfl) (by kernel_rfl) (by kernel_rfl) (fun _ _ _ h => h) (by rfl) hS0 (fun w' hw' => by simp only [listC]; go_simp) ?_
      simp only [List.getElem_toArray, List.getElem_cons_zero, List.getElem_cons_succ, Act.put, List.setIfInBounds_toArray, List.set_cons_zero, List.set_cons_succ]
      have thL : X2.there w1.heap.size 0 (listC X1.heap.size).toArray.size := there_below thX1 bX2 (by omega)
      have rowS := rowX2
      have hw := hSW1.size
      have hne : X1.heap.size ≠ w1.heap.size := by omega
      have hLs : w1.heap.size < X2.heap.size := by omega
      have hSs : X1.heap.size < X2.heap.size := by omega
      have hLlo : W.heap.size ≤ w1.heap.size := hw
      have hSlo : w.heap.size < X1.heap.size := by omega
      have hLB : w.heap.size < w1.heap.size := by omega
      refine rgn.one (i := 5) _ rfl (by kernel_rfl) (by rfl) ?_
      simp only [List.getElem_toArray, List.getElem_cons_zero, List.getElem_cons_succ, Act.put, List.setIfInBounds_toArray, List.set_cons_zero, List.set_cons_succ]
      refine wp_store_mid 27 _ _ (by rfl) w1.heap.size 0 (listC X1.heap.size).toArray (by rfl) (by rfl) thL (by simp [listC, infoV]) (by simp [listC, Value.oneCell']) ?_
      obtain ⟨L, eL⟩ : ∃ L, L = X2.setCells w1.heap.size 0 (listC X1.heap.size) := ⟨_, rfl⟩
      have t1 : Below W.heap.size W L := by rw [eL]; exact below_setCells _ _ _ _ hS0 hLlo
      have t2 : L.rangeAt w1.heap.size 0 (listC X1.heap.size) := by rw [eL]; exact World.rangeAt_setCells_same _ _ _ _ thL
      have t3 : L.rangeAt X1.heap.size 0 (numC 1 ++ innerC (w.heap.size + 1)) := by
        rw [eL]
        intro j u hu
        rw [World.cell?_setCells_out _ _ _ _ _ (fun e _ => absurd (show X1.heap.size = w1.heap.size from e) hne)]
        exact rowS j u hu
      have t4 : w1.heap.size < L.heap.size := by rw [eL, size_setCells]; exact hLs
      have hShi : X1.heap.size < L.heap.size := by rw [eL, size_setCells]; exact hSs
      rw [show X2.setCells w1.heap.size 0 (listC X1.heap.size).toArray.toList = L from eL.symm]
      refine ⟨t1, ?_⟩
      refine wpAnyH_done (by kernel_rfl) ?_ _
      refine NoPanic.normal ?_
      simp only [List.getElem_toArray, List.getElem_cons_zero, List.getElem_cons_succ, Act.put, List.setIfInBounds_toArray, List.set_cons_zero, List.set_cons_succ]
      obtain ⟨SBB, eSB⟩ : ∃ S, S = X1.heap.size := ⟨_, rfl⟩
      obtain ⟨LBB, eLB⟩ : ∃ S, S = w1.heap.size := ⟨_, rfl⟩
      rw [← eSB] at t2 t3 hShi hSlo ⊢
      rw [← eLB] at t2 t4 hLB ⊢
      clear eL eSB eLB
      have vl3 := listV_at t3 (VlC.below t1 _ _ vin)
      clear hS0 thL rowS hne hLs hLlo
      go_wp2_with fail
      have hS0 : ({ L with drawn := L.drawn + 1 } : World).rangeAt LBB 0 (listC SBB) := t2
      refine wp_region_noPanic ?_
      refine wp_region_held (S := fun w' => w'.rangeAt LBB 0 (listC SBB)) mixed ?_
      refine wpAnyH_take (i := 0) rfl (by kernel_rfl) (by kernel_rfl) (by kernel_rfl) (fun _ _ _ h => h) (yieldsIf_load_mid (by rfl) 27 _ (by rfl) LBB 0 (by rfl) (listC SBB) _ (fun w' hw' => hw') Try.underlying27 (by rfl) (by simp [listC, infoV])) hS0 ?_
      simp only [List.getElem_toArray, List.getElem_cons_zero, List.getElem_cons_succ, Act.put, List.setIfInBounds_toArray, List.set_cons_zero, List.set_cons_succ]
      refine rgn.take (i := 1) _ (.agg (Value.string { data := #[97] } :: listC SBB).toArray) rfl (by kernel_rfl) (by kernel_rfl) (by kernel_rfl) (fun _ _ _ h => h) (by rfl) hS0 (fun w' hw' => by clear hw'; simp only [listC]; go_simp) ?_
      simp only [List.getElem_toArray, List.getElem_cons_zero, List.getElem_cons_succ, Act.put, List.setIfInBounds_toArray, List.set_cons_zero, List.set_cons_succ]
      refine rgn.one (i := 2) _ rfl (by kernel_rfl) (by rfl) ?_
      simp only [List.getElem_toArray, List.getElem_cons_zero, List.getElem_cons_succ, Act.put, List.setIfInBounds_toArray, List.set_cons_zero, List.set_cons_succ]
      go_wp2_with fail
      refine (text_ok { data := #[120] } _).mono ?_
      rintro e w5 ⟨b5, rfl⟩
      have c5 : Below L.heap.size L w5 := (Below.refl _ _).drew.trans b5
      have hS0 : w5.rangeAt LBB 0 (listC SBB) := Row8.below t2 c5
      refine ⟨hS0, ?_⟩
      refine rgn.take (i := 3) _ (.agg (Value.string { data := #[99] } :: txtC { data := #[120] }).toArray) rfl (by kernel_rfl) (by kernel_rfl) (by kernel_rfl) (fun _ _ _ h => h) (by rfl) hS0 (fun w' hw' => by clear hw'; simp only [txtC]; go_simp) ?_
      simp only [List.getElem_toArray, List.getElem_cons_zero, List.getElem_cons_succ, Act.put, List.setIfInBounds_toArray, List.set_cons_zero, List.set_cons_succ]
      refine rgn.one (i := 4) _ rfl (by kernel_rfl) (by rfl) ?_
      simp only [List.getElem_toArray, List.getElem_cons_zero, List.getElem_cons_succ, Act.put, List.setIfInBounds_toArray, List.set_cons_zero, List.set_cons_succ]
      refine wpO_build2 25 _ _ (by rfl) (.agg (Value.string { data := #[97] } :: listC SBB).toArray) (.agg (Value.string { data := #[99] } :: txtC { data := #[120] }).toArray) _ (by rfl) (by rfl) (build2M { data := #[97] } { data := #[99] } vl3 (txtV { data := #[120] } (by decide) L) _) ?_
      obtain ⟨Y, eY⟩ : ∃ Y, Y = w5.alloc (.cells ((Value.string { data := #[97] } :: listC SBB) ++ (Value.string { data := #[99] } :: txtC { data := #[120] })).toArray 47) := ⟨_, rfl⟩
      have rowY : Y.rangeAt w5.heap.size 0 ((Value.string { data := #[97] } :: listC SBB) ++ (Value.string { data := #[99] } :: txtC { data := #[120] })) := by rw [eY]; intro j u hu; rw [Nat.zero_add, World.cell?_alloc_at _ _ _ _ rfl]; simpa using hu
      have bY : Below w5.heap.size w5 Y := by rw [eY]; exact (Below.refl _ _).alloc (Nat.le_refl _) _
      have sY : w5.heap.size + 1 ≤ Y.heap.size := by rw [eY]; simp
      rw [← eY]
      clear eY
      have hS0 : Y.rangeAt LBB 0 (listC SBB) := Row8.below hS0 bY
      refine ⟨hS0, ?_⟩
      simp only [List.getElem_toArray, List.getElem_cons_zero, List.getElem_cons_succ, Act.put, List.setIfInBounds_toArray, List.set_cons_zero, List.set_cons_succ]
      refine rgn.take (i := 5) _ (.agg (twoC w5.heap.size).toArray) rfl (by kernel_rfl) (by kernel_rfl) (by kernel_rfl) (fun _ _ _ h => h) (by rfl) hS0 (fun w' hw' => by clear hw'; simp only [twoC]; go_simp) ?_
      simp only [List.getElem_toArray, List.getElem_cons_zero, List.getElem_cons_succ, Act.put, List.setIfInBounds_toArray, List.set_cons_zero, List.set_cons_succ]
      refine rgn.one (i := 6) _ rfl (by kernel_rfl) (by rfl) ?_
      simp only [List.getElem_toArray, List.getElem_cons_zero, List.getElem_cons_succ, Act.put, List.setIfInBounds_toArray, List.set_cons_zero, List.set_cons_succ]
      have sW := t1.size
      have s5 := c5.size
      have thR : Y.there w.heap.size 0 (twoC w5.heap.size).toArray.size := there_below (there_below (there_below hth t1 (by omega)) c5 (by omega)) bY (by omega)
      have i9 : (Try.prog.info? 27).map (·.size) = some (twoC w5.heap.size).toArray.size := by simp [twoC, infoV]
      refine wp_store_mid 27 _ _ (by rfl) w.heap.size 0 (twoC w5.heap.size).toArray (by rfl) (by rfl) thR i9 (by simp [twoC, Value.oneCell']) ?_
      obtain ⟨R, eR⟩ : ∃ R, R = Y.setCells w.heap.size 0 (twoC w5.heap.size) := ⟨_, rfl⟩
      have rowR : R.rangeAt w.heap.size 0 (twoC w5.heap.size) := by rw [eR]; exact World.rangeAt_setCells_same _ _ _ _ thR
      have bR : Below w.heap.size w R := by rw [eR]; exact below_setCells _ _ _ _ (((bW.trans (t1.mono bW.size)).trans (c5.mono (by omega))).trans (bY.mono (by omega))) (Nat.le_refl _)
      have ouR : ∀ b j, w.heap.size < b → R.cell? ⟨b, j, none⟩ = Y.cell? ⟨b, j, none⟩ := fun b j hb => by rw [eR]; exact World.cell?_setCells_out _ _ _ _ _ (fun e _ => by have e : b = w.heap.size := e; omega)
      have agW : ∀ b j, w.heap.size < b → b < L.heap.size → R.cell? ⟨b, j, none⟩ = L.cell? ⟨b, j, none⟩ := fun b j h1 h2 => (ouR b j h1).trans ((bY.cell (p := ⟨b, j, none⟩) (show b < w5.heap.size by omega)).trans (c5.cell (p := ⟨b, j, none⟩) h2))
      have vin' : VlC R innerV (innerC (w.heap.size + 1)) := innerV_at (fun j u hu => (agW _ _ (by omega) (by omega)).trans ((t1.cell (p := ⟨w.heap.size + 1, 0 + j, none⟩) (show w.heap.size + 1 < W.heap.size by omega)).trans (hmem j u hu)))
      have vl' : VlC R listV (listC SBB) := listV_at (fun j u hu => (agW _ _ hSlo hShi).trans (t3 j u hu)) vin'
      have vt' : VlC R twoV (twoC w5.heap.size) := twoV_at (fun j u hu => (ouR _ _ (by omega)).trans (rowY j u hu)) vl'
      rw [show Y.setCells w.heap.size 0 (twoC w5.heap.size).toArray.toList = R from eR.symm]
      have hSR : R.rangeAt LBB 0 (listC SBB) := fun j u hu => (agW _ _ hLB t4).trans (t2 j u hu)
      refine ⟨hSR, ?_⟩
      refine wpAnyH_done (by kernel_rfl) ?_ _
      refine NoPanic.normal ?_
      simp only [List.getElem_toArray, List.getElem_cons_zero, List.getElem_cons_succ, Act.put, List.setIfInBounds_toArray, List.set_cons_zero, List.set_cons_succ]
      clear eR
      have Hf := hide (And.intro rowR (And.intro bR (And.intro vt' i9)))
      clear rowR bR vt' i9
      go_wp2_with fail
      refine bodyPost_ret (rgn.result_row rfl _ _ w.heap.size 0 (twoC w5.heap.size) _ rfl (unhide Hf).1 Try.underlying27 rfl (by simp [twoC, infoV])) rfl ?_
      exact ⟨(unhide Hf).2.1, _, rfl, (unhide Hf).2.2.1⟩
  · simp only [List.getElem_toArray, List.getElem_cons_zero, List.getElem_cons_succ, Act.put, List.setIfInBounds_toArray, List.set_cons_zero, List.set_cons_succ]
    refine wpO_alloc 27 (by rfl) _ (allocV _) ?_
    obtain ⟨X1, eX1⟩ : ∃ X1, X1 = ({ W with drawn := W.drawn + 1 } : World).alloc (.cells #[.int .i64 0, .bool false, .int .i64 0, .float .f64 0, .string { data := #[] }, .string { data := #[] }, .slice none 0 0, .slice none 0 0] 27) := ⟨_, rfl⟩
    have thX1 : X1.there W.heap.size 0 8 := by rw [eX1]; exact there_new (w := ({ W with drawn := W.drawn + 1 } : World)) rfl
    have sX1 : W.heap.size + 1 ≤ X1.heap.size := by rw [eX1]; simp
    have bX1 : Below W.heap.size W X1 := by rw [eX1]; exact (Below.refl W.heap.size W).drew.alloc (Nat.le_refl _) _
    rw [← eX1]
    clear eX1
    have hS0 : Below W.heap.size W X1 := bX1
    refine ⟨hS0, ?_⟩
    simp only [List.getElem_toArray, List.getElem_cons_zero, List.getElem_cons_succ, Act.put, List.setIfInBounds_toArray, List.set_cons_zero, List.set_cons_succ]
    refine rgn.one (i := 0) _ rfl (by kernel_rfl) (by rfl) ?_
    simp only [List.getElem_toArray, List.getElem_cons_zero, List.getElem_cons_succ, Act.put, List.setIfInBounds_toArray, List.set_cons_zero, List.set_cons_succ]
    go_wp2_with fail
    refine (num_ok 1 _).mono ?_
    rintro e w1 ⟨bw1, rfl⟩
    have hS0 : Below W.heap.size W w1 := hS0.trans (bw1.mono hS0.size)
    have hSW1 := hS0
    refine ⟨hS0, ?_⟩
    refine rgn.one (i := 2) _ rfl (by kernel_rfl) (by rfl) ?_
    simp only [List.getElem_toArray, List.getElem_cons_zero, List.getElem_cons_succ, Act.put, List.setIfInBounds_toArray, List.set_cons_zero, List.set_cons_succ]
    refine wpO_build2 24 _ _ (by rfl) (.agg (numC 1).toArray) (.agg (innerC (w.heap.size + 1)).toArray) _ (by rfl) (by rfl) (build2V (numV 1 rfl W) vin _) ?_
    obtain ⟨X2, eX2⟩ : ∃ X2, X2 = w1.alloc (.cells (numC 1 ++ innerC (w.heap.size + 1)).toArray 27) := ⟨_, rfl⟩
    have rowX2 : X2.rangeAt w1.heap.size 0 (numC 1 ++ innerC (w.heap.size + 1)) := by rw [eX2]; intro j u hu; rw [Nat.zero_add, World.cell?_alloc_at _ _ _ _ rfl]; simpa using hu
    have sX2 : w1.heap.size + 1 ≤ X2.heap.size := by rw [eX2]; simp
    have bX2 : Below w1.heap.size w1 X2 := by rw [eX2]; exact (Below.refl _ _).alloc (Nat.le_refl _) _
    rw [← eX2]
    clear eX2
    have hS0 : Below W.heap.size W X2 := hS0.trans (bX2.mono hS0.size)
    refine ⟨hS0, ?_⟩
    simp only [List.getElem_toArray, List.getElem_cons_zero, List.getElem_cons_succ, Act.put, List.setIfInBounds_toArray, List.set_cons_zero, List.set_cons_succ]
    refine rgn.take (i := 3) _ (.agg (listC w1.heap.size).toArray) rfl (by kernel_rfl) (by kernel_rfl) (by kernel_rfl) (fun _ _ _ h => h) (by rfl) hS0 (fun w' hw' => by simp only [listC]; go_simp) ?_
    simp only [List.getElem_toArray, List.getElem_cons_zero, List.getElem_cons_succ, Act.put, List.setIfInBounds_toArray, List.set_cons_zero, List.set_cons_succ]
    have sw1 := bw1.size
    have thL : X2.there W.heap.size 0 (listC w1.heap.size).toArray.size := there_below (there_below thX1 bw1 (by omega)) bX2 (by omega)
    have rowS := rowX2
    have hne : w1.heap.size ≠ W.heap.size := by omega
    have hLs : W.heap.size < X2.heap.size := by omega
    have hSs : w1.heap.size < X2.heap.size := by omega
    have hLlo : W.heap.size ≤ W.heap.size := Nat.le_refl _
    have hSlo : w.heap.size < w1.heap.size := by omega
    have hLB : w.heap.size < W.heap.size := by omega
    refine rgn.one (i := 5) _ rfl (by kernel_rfl) (by rfl) ?_
    simp only [List.getElem_toArray, List.getElem_cons_zero, List.getElem_cons_succ, Act.put, List.setIfInBounds_toArray, List.set_cons_zero, List.set_cons_succ]
    refine wp_store_mid 27 _ _ (by rfl) W.heap.size 0 (listC w1.heap.size).toArray (by rfl) (by rfl) thL (by simp [listC, infoV]) (by simp [listC, Value.oneCell']) ?_
    obtain ⟨L, eL⟩ : ∃ L, L = X2.setCells W.heap.size 0 (listC w1.heap.size) := ⟨_, rfl⟩
    have t1 : Below W.heap.size W L := by rw [eL]; exact below_setCells _ _ _ _ hS0 hLlo
    have t2 : L.rangeAt W.heap.size 0 (listC w1.heap.size) := by rw [eL]; exact World.rangeAt_setCells_same _ _ _ _ thL
    have t3 : L.rangeAt w1.heap.size 0 (numC 1 ++ innerC (w.heap.size + 1)) := by
      rw [eL]
      intro j u hu
      rw [World.cell?_setCells_out _ _ _ _ _ (fun e _ => absurd (show w1.heap.size = W.heap.size from e) hne)]
      exact rowS j u hu
    have t4 : W.heap.size < L.heap.size := by rw [eL, size_setCells]; exact hLs
    have hShi : w1.heap.size < L.heap.size := by rw [eL, size_setCells]; exact hSs
    rw [show X2.setCells W.heap.size 0 (listC w1.heap.size).toArray.toList = L from eL.symm]
    refine ⟨t1, ?_⟩
    refine wpAnyH_done (by kernel_rfl) ?_ _
    refine NoPanic.normal ?_
    simp only [List.getElem_toArray, List.getElem_cons_zero, List.getElem_cons_succ, Act.put, List.setIfInBounds_toArray, List.set_cons_zero, List.set_cons_succ]
    obtain ⟨SBB, eSB⟩ : ∃ S, S = w1.heap.size := ⟨_, rfl⟩
    obtain ⟨LBB, eLB⟩ : ∃ S, S = W.heap.size := ⟨_, rfl⟩
    rw [← eSB] at t2 t3 hShi hSlo ⊢
    rw [← eLB] at t2 t4 hLB ⊢
    clear eL eSB eLB
    have vl3 := listV_at t3 (VlC.below t1 _ _ vin)
    clear hS0 thL rowS hne hLs hLlo
    go_wp2_with fail
    have hS0 : ({ L with drawn := L.drawn + 1 } : World).rangeAt LBB 0 (listC SBB) := t2
    refine wp_region_noPanic ?_
    refine wp_region_held (S := fun w' => w'.rangeAt LBB 0 (listC SBB)) mixed ?_
    refine wpAnyH_take (i := 0) rfl (by kernel_rfl) (by kernel_rfl) (by kernel_rfl) (fun _ _ _ h => h) (yieldsIf_load_mid (by rfl) 27 _ (by rfl) LBB 0 (by rfl) (listC SBB) _ (fun w' hw' => hw') Try.underlying27 (by rfl) (by simp [listC, infoV])) hS0 ?_
    simp only [List.getElem_toArray, List.getElem_cons_zero, List.getElem_cons_succ, Act.put, List.setIfInBounds_toArray, List.set_cons_zero, List.set_cons_succ]
    refine rgn.take (i := 1) _ (.agg (Value.string { data := #[97] } :: listC SBB).toArray) rfl (by kernel_rfl) (by kernel_rfl) (by kernel_rfl) (fun _ _ _ h => h) (by rfl) hS0 (fun w' hw' => by clear hw'; simp only [listC]; go_simp) ?_
    simp only [List.getElem_toArray, List.getElem_cons_zero, List.getElem_cons_succ, Act.put, List.setIfInBounds_toArray, List.set_cons_zero, List.set_cons_succ]
    refine rgn.one (i := 2) _ rfl (by kernel_rfl) (by rfl) ?_
    simp only [List.getElem_toArray, List.getElem_cons_zero, List.getElem_cons_succ, Act.put, List.setIfInBounds_toArray, List.set_cons_zero, List.set_cons_succ]
    go_wp2_with fail
    refine (text_ok { data := #[120] } _).mono ?_
    rintro e w5 ⟨b5, rfl⟩
    have c5 : Below L.heap.size L w5 := (Below.refl _ _).drew.trans b5
    have hS0 : w5.rangeAt LBB 0 (listC SBB) := Row8.below t2 c5
    refine ⟨hS0, ?_⟩
    refine rgn.take (i := 3) _ (.agg (Value.string { data := #[99] } :: txtC { data := #[120] }).toArray) rfl (by kernel_rfl) (by kernel_rfl) (by kernel_rfl) (fun _ _ _ h => h) (by rfl) hS0 (fun w' hw' => by clear hw'; simp only [txtC]; go_simp) ?_
    simp only [List.getElem_toArray, List.getElem_cons_zero, List.getElem_cons_succ, Act.put, List.setIfInBounds_toArray, List.set_cons_zero, List.set_cons_succ]
    refine rgn.one (i := 4) _ rfl (by kernel_rfl) (by rfl) ?_
    simp only [List.getElem_toArray, List.getElem_cons_zero, List.getElem_cons_succ, Act.put, List.setIfInBounds_toArray, List.set_cons_zero, List.set_cons_succ]
    refine wpO_build2 25 _ _ (by rfl) (.agg (Value.string { data := #[97] } :: listC SBB).toArray) (.agg (Value.string { data := #[99] } :: txtC { data := #[120] }).toArray) _ (by rfl) (by rfl) (build2M { data := #[97] } { data := #[99] } vl3 (txtV { data := #[120] } (by decide) L) _) ?_
    obtain ⟨Y, eY⟩ : ∃ Y, Y = w5.alloc (.cells ((Value.string { data := #[97] } :: listC SBB) ++ (Value.string { data := #[99] } :: txtC { data := #[120] })).toArray 47) := ⟨_, rfl⟩
    have rowY : Y.rangeAt w5.heap.size 0 ((Value.string { data := #[97] } :: listC SBB) ++ (Value.string { data := #[99] } :: txtC { data := #[120] })) := by rw [eY]; intro j u hu; rw [Nat.zero_add, World.cell?_alloc_at _ _ _ _ rfl]; simpa using hu
    have bY : Below w5.heap.size w5 Y := by rw [eY]; exact (Below.refl _ _).alloc (Nat.le_refl _) _
    have sY : w5.heap.size + 1 ≤ Y.heap.size := by rw [eY]; simp
    rw [← eY]
    clear eY
    have hS0 : Y.rangeAt LBB 0 (listC SBB) := Row8.below hS0 bY
    refine ⟨hS0, ?_⟩
    simp only [List.getElem_toArray, List.getElem_cons_zero, List.getElem_cons_succ, Act.put, List.setIfInBounds_toArray, List.set_cons_zero, List.set_cons_succ]
    refine rgn.take (i := 5) _ (.agg (twoC w5.heap.size).toArray) rfl (by kernel_rfl) (by kernel_rfl) (by kernel_rfl) (fun _ _ _ h => h) (by rfl) hS0 (fun w' hw' => by clear hw'; simp only [twoC]; go_simp) ?_
    simp only [List.getElem_toArray, List.getElem_cons_zero, List.getElem_cons_succ, Act.put, List.setIfInBounds_toArray, List.set_cons_zero, List.set_cons_succ]
    refine rgn.one (i := 6) _ rfl (by kernel_rfl) (by rfl) ?_
    simp only [List.getElem_toArray, List.getElem_cons_zero, List.getElem_cons_succ, Act.put, List.setIfInBounds_toArray, List.set_cons_zero, List.set_cons_succ]
    have sW := t1.size
    have s5 := c5.size
    have thR : Y.there w.heap.size 0 (twoC w5.heap.size).toArray.size := there_below (there_below (there_below hth t1 (by omega)) c5 (by omega)) bY (by omega)
    have i9 : (Try.prog.info? 27).map (·.size) = some (twoC w5.heap.size).toArray.size := by simp [twoC, infoV]
    refine wp_store_mid 27 _ _ (by rfl) w.heap.size 0 (twoC w5.heap.size).toArray (by rfl) (by rfl) thR i9 (by simp [twoC, Value.oneCell']) ?_
    obtain ⟨R, eR⟩ : ∃ R, R = Y.setCells w.heap.size 0 (twoC w5.heap.size) := ⟨_, rfl⟩
    have rowR : R.rangeAt w.heap.size 0 (twoC w5.heap.size) := by rw [eR]; exact World.rangeAt_setCells_same _ _ _ _ thR
    have bR : Below w.heap.size w R := by rw [eR]; exact below_setCells _ _ _ _ (((bW.trans (t1.mono bW.size)).trans (c5.mono (by omega))).trans (bY.mono (by omega))) (Nat.le_refl _)
    have ouR : ∀ b j, w.heap.size < b → R.cell? ⟨b, j, none⟩ = Y.cell? ⟨b, j, none⟩ := fun b j hb => by rw [eR]; exact World.cell?_setCells_out _ _ _ _ _ (fun e _ => by have e : b = w.heap.size := e; omega)
    have agW : ∀ b j, w.heap.size < b → b < L.heap.size → R.cell? ⟨b, j, none⟩ = L.cell? ⟨b, j, none⟩ := fun b j h1 h2 => (ouR b j h1).trans ((bY.cell (p := ⟨b, j, none⟩) (show b < w5.heap.size by omega)).trans (c5.cell (p := ⟨b, j, none⟩) h2))
    have vin' : VlC R innerV (innerC (w.heap.size + 1)) := innerV_at (fun j u hu => (agW _ _ (by omega) (by omega)).trans ((t1.cell (p := ⟨w.heap.size + 1, 0 + j, none⟩) (show w.heap.size + 1 < W.heap.size by omega)).trans (hmem j u hu)))
    have vl' : VlC R listV (listC SBB) := listV_at (fun j u hu => (agW _ _ hSlo hShi).trans (t3 j u hu)) vin'
    have vt' : VlC R twoV (twoC w5.heap.size) := twoV_at (fun j u hu => (ouR _ _ (by omega)).trans (rowY j u hu)) vl'
    rw [show Y.setCells w.heap.size 0 (twoC w5.heap.size).toArray.toList = R from eR.symm]
    have hSR : R.rangeAt LBB 0 (listC SBB) := fun j u hu => (agW _ _ hLB t4).trans (t2 j u hu)
    refine ⟨hSR, ?_⟩
    refine wpAnyH_done (by kernel_rfl) ?_ _
    refine NoPanic.normal ?_
    simp only [List.getElem_toArray, List.getElem_cons_zero, List.getElem_cons_succ, Act.put, List.setIfInBounds_toArray, List.set_cons_zero, List.set_cons_succ]
    clear eR
    have Hf := hide (And.intro rowR (And.intro bR (And.intro vt' i9)))
    clear rowR bR vt' i9
    go_wp2_with fail
    refine bodyPost_ret (rgn.result_row rfl _ _ w.heap.size 0 (twoC w5.heap.size) _ rfl (unhide Hf).1 Try.underlying27 rfl (by simp [twoC, infoV])) rfl ?_
    exact ⟨(unhide Hf).2.1, _, rfl, (unhide Hf).2.2.1⟩
end Go.Proofs.Ytiblkdedbimggaa.vl
namespace Go.Proofs.Ytiblkdedbimggaa.vl
open Go.ChangeShapes Go.WideShapes Go.ChangeAt Go.RowKit
open stp (St Pth St3)
set_option linter.unusedVariables false
set_option linter.unusedSimpArgs false
theorem wpList_loadG {P : Program} {ops : Array Oper} {rest : List Oper} {op : Oper} {a : Act} {w : World} {Q : Exit → Act → World → Prop} (hw : Region.wanted op (yielded ops a.tmps) = true) (ty : TypeId) (x : Operand) (ho : op.op = .load ty x)
    (b o : Nat) (hx : a.eval x = .pointer (some ⟨b, o, none⟩)) (cs : List Value) (d : TypeDesc) (hc : w.rangeAt b o cs) (hu : P.underlying ty = some d) (hd : d.isRow = true) (hi : (P.info? ty).map (·.size) = some cs.length)
    (h : wpList P ops Q rest (a.put op.dst (.agg cs.toArray)) w) : wpList P ops Q (op :: rest) a w :=
  wpList_step fun K hK => by rw [if_pos hw]; exact wp_load_mid ty x ho b o hx cs d hc hu hd hi (hK _ _ h)
theorem SmallI.of {l : List Vl} (h : ∀ v ∈ l, Small v) : SmallI (Vls.of l) := by
  induction l with
  | nil => simp [Vls.of, SmallI]
  | cons v r ih => simp only [Vls.of, SmallI]; exact ⟨h v (List.mem_cons_self ..), ih (fun u hu => h u (List.mem_cons_of_mem _ hu))⟩
theorem SmallF.of {l : List (ByteArray × Vl)} (h : ∀ q ∈ l, Small q.2) : SmallF (Fls.of l) := by
  induction l with
  | nil => simp [Fls.of, SmallF]
  | cons v r ih => simp only [Fls.of, SmallF]; exact ⟨h v (List.mem_cons_self ..), ih (fun u hu => h u (List.mem_cons_of_mem _ hu))⟩
theorem mem_modify {α : Type} {f : α → α} : ∀ {l : List α} {i : Nat} {y : α}, y ∈ l.modify i f → y ∈ l ∨ ∃ z ∈ l, y = f z
  | [], i, y, h => by simp at h
  | a :: r, 0, y, h => by
    simp at h
    rcases h with h | h
    · exact .inr ⟨a, List.mem_cons_self .., h⟩
    · exact .inl (List.mem_cons_of_mem _ h)
  | a :: r, i + 1, y, h => by
    simp at h
    rcases h with h | h
    · exact .inl (h ▸ List.mem_cons_self ..)
    · rcases mem_modify h with h | ⟨z, hz, h⟩
      · exact .inl (List.mem_cons_of_mem _ h)
      · exact .inr ⟨z, List.mem_cons_of_mem _ hz, h⟩
theorem Small.setS {v x : Vl} {s : St} {i : Nat} (hv : Small v) (hx : Small x) : Small (setS v s i x) := by
  obtain ⟨kd, bb, ni, f, tx, ty, its, fls⟩ := v
  unfold Small at hv
  obtain ⟨h1, h2, h3, h4, h5⟩ := hv
  simp only [vl.setS]
  split
  · unfold Small
    refine ⟨by rw [Vls.list_of, List.length_set]; exact h1, h2, h3, SmallI.of (fun u hu => ?_), h5⟩
    rcases List.mem_or_eq_of_mem_set hu with h | rfl
    · exact h4.all u h
    · exact hx
  · unfold Small
    refine ⟨h1, by rw [Fls.list_of, List.length_modify]; exact h2, h3, h4, SmallF.of (fun q hq => ?_)⟩
    rcases mem_modify hq with h | ⟨z, hz, rfl⟩
    · exact h5.all q h
    · exact hx
theorem Small.setP : ∀ {ss : List St} {v x u : Vl}, Small v → Small x → setP v ss x = some u → Small u
  | [], v, x, u, hv, hx, h => by simp only [vl.setP, Option.some.injEq] at h; rw [← h]; exact hx
  | s :: r, v, x, u, hv, hx, h => by
    simp only [vl.setP] at h
    cases hc : chI v s with
    | none => rw [hc] at h; simp at h
    | some i =>
      cases hs : vl.getS v s with
      | none => rw [hc, hs] at h; simp at h
      | some y =>
        rw [hc, hs] at h
        simp only [Option.map_eq_some_iff] at h
        obtain ⟨z, hz, rfl⟩ := h
        exact Small.setS hv (Small.setP (hv.getS hs) hx hz)
theorem Small.z0 : Small z0 := by simp [vl.z0, Small, SmallI, SmallF, Vls.list, Fls.list]
theorem same_get {v u u' : Vl} {ss : List St} {a b : Bool} (h : if a = true then getP v ss = some u else getP v ss = none ∧ u = z0) (h' : if b = true then getP v ss = some u' else getP v ss = none ∧ u' = z0) (hv : Small v) : a = b ∧ u = u' ∧ Small u := by
  cases a <;> cases b
  · simp at h h'
    exact ⟨rfl, h.2.trans h'.2.symm, h.2 ▸ Small.z0⟩
  · simp at h h'
    rw [h.1] at h'; cases h'
  · simp at h h'
    rw [h'.1] at h; cases h
  · simp at h h'
    exact ⟨rfl, Option.some.inj (h.symm.trans h'), hv.getP h⟩
theorem same_set {v x u u' : Vl} {ss : List St} {a b : Bool} (h : if a = true then setP v ss x = some u else getP v ss = none ∧ u = z0) (h' : if b = true then setP v ss x = some u' else getP v ss = none ∧ u' = z0) (hv : Small v) (hx : Small x) : a = b ∧ u = u' ∧ Small u := by
  cases a <;> cases b
  · simp at h h'
    exact ⟨rfl, h.2.trans h'.2.symm, h.2 ▸ Small.z0⟩
  · simp at h h'
    rw [setP_none x h.1] at h'; cases h'
  · simp at h h'
    rw [setP_none x h'.1] at h; cases h
  · simp at h h'
    exact ⟨rfl, Option.some.inj (h.symm.trans h'), Small.setP hv hx h⟩
end Go.Proofs.Ytiblkdedbimggaa.vl
namespace Go.Proofs.Ytiblkdedbimggaa.stp
open Go.ChangeShapes Go.WideShapes Go.ChangeAt Go.RowKit
set_option linter.unusedVariables false
theorem list_three {α : Type} {l : List α} (h : l.length = 3) : ∃ x y z, l = [x, y, z] := by
  match l, h with
  | [x, y, z], _ => exact ⟨x, y, z, rfl⟩
theorem path_of {H : Type} {enc : TypeId × Value → H} {w : World} {base : Nat} {held : Bool} {fuel : Nat} {a0 : Option Addr} {len0 cap0 : Nat} {d : DataW H} {p : List MemPlace}
    (h : DataW.trod enc Try.prog w base (fun _ => true) held fuel 34 [.slice a0 len0 cap0] = some (d, p)) :
    ∃ ss : List St, Pth w a0 len0 ss ∧ len0 ≤ cap0 ∧ (a0 = none → cap0 = 0) ∧ (∀ s ∈ ss, s.nm.size ≤ maxLen ∧ (Lit.int .i64 s.ix).wf = true) := by
  have ce : Try.prog.cellsOf 39 = 3 := by kernel_rfl
  have ce0 : Try.prog.cellsOf 9 = 1 := by kernel_rfl
  have ce1 : Try.prog.cellsOf 3 = 1 := by kernel_rfl
  have ce2 : Try.prog.cellsOf 4 = 1 := by kernel_rfl
  rcases Go.Deep.open_slice Try.underlying34 h with ⟨hcs, _⟩ | ⟨a, len, cap, m, n, D, Pl, hcs, hb, hl, hm, hmm, hx, hcell⟩
  · simp at hcs
    obtain ⟨rfl, rfl, rfl⟩ := hcs
    exact ⟨[], ⟨rfl, .inl rfl⟩, Nat.le_refl _, fun _ => rfl, fun s hs => by simp at hs⟩
  · simp at hcs
    obtain ⟨rfl, rfl, rfl⟩ := hcs
    simp only [if_true] at hmm
    subst hmm
    rw [ce] at hcell
    have key : ∀ i, i < len0 → ∃ (b off : Nat) (s : St), a = ⟨b, off, none⟩ ∧ b < w.heap.size ∧ St3 w b (off + i * 3) s.nm s.ix s.it ∧ s.nm.size ≤ maxLen ∧ (Lit.int .i64 s.ix).wf = true := by
      intro i hi
      obtain ⟨cs', h1, h2⟩ := hcell i (by omega)
      obtain ⟨_, hlen, hc⟩ := World.cells?_some h1
      obtain ⟨y0, y1, y2, n', hD, _, t0, t1, t2⟩ := Go.Deep.trod_struct3 Try.underlying39 h2
      obtain ⟨v0, v1, v2, rfl⟩ := list_three hlen
      have e0 := hc 0 (by omega)
      have e1 := hc 1 (by omega)
      have e2 := hc 2 (by omega)
      obtain ⟨b, off, spot⟩ := a
      have hspot : spot = none := by
        obtain ⟨cs0, h10, h20⟩ := hcell 0 (by omega)
        obtain ⟨_, hlen0, hc0⟩ := World.cells?_some h10
        obtain ⟨q0, q1, q2, rfl⟩ := list_three hlen0
        have := hc0 0 (by omega)
        have : w.cell? (⟨b, off, spot⟩ : Addr) = some q0 := by simpa [Addr.add] using this
        simpa using World.cell?_spot this
      subst hspot
      rw [Go.Deep.add_add, Addr.add_lit] at e0 e1 e2
      simp only [ce0, List.drop_zero, List.take_succ_cons, List.take_zero] at t0
      simp only [ce1, List.drop_succ_cons, List.drop_zero, List.take_succ_cons, List.take_zero] at t1
      simp only [ce2, List.drop_succ_cons, List.drop_zero, List.take_succ_cons, List.take_zero] at t2
      simp only [List.getElem?_cons_zero, List.getElem?_cons_succ] at e0 e1 e2
      obtain ⟨s, hv0, _, hs⟩ := DataW.trod_string Try.underlying9 t0
      obtain ⟨x, hv1, _, hw⟩ := DataW.trod_int Try.underlying3 t1
      obtain ⟨z, hv2, _⟩ := DataW.trod_bool Try.underlying4 t2
      simp only [List.cons.injEq, and_true] at hv0 hv1 hv2
      subst hv0 hv1 hv2
      exact ⟨b, off, ⟨s, x, z⟩, rfl, World.block_lt_of_cell? w _ e0, ⟨by simpa using e0, by rw [Nat.add_assoc]; exact e1, by rw [Nat.add_assoc]; exact e2⟩, hs, hw⟩
    by_cases h0 : len0 = 0
    · exact ⟨[], ⟨by simp [h0], .inl h0⟩, by omega, (fun e => by cases e), fun s hs => by simp at hs⟩
    obtain ⟨b, off, _, rfl, hbw, _⟩ := key 0 (by omega)
    have key' : ∀ i, i < len0 → ∃ s : St, St3 w b (off + i * 3) s.nm s.ix s.it ∧ s.nm.size ≤ maxLen ∧ (Lit.int .i64 s.ix).wf = true := by
      intro i hi
      obtain ⟨b', off', s, e, _, r⟩ := key i hi
      simp only [Addr.mk.injEq, and_true] at e
      obtain ⟨rfl, rfl⟩ := e
      exact ⟨s, r⟩
    obtain ⟨f, hf⟩ : ∃ f : Nat → St, ∀ i, i < len0 → St3 w b (off + i * 3) (f i).nm (f i).ix (f i).it ∧ (f i).nm.size ≤ maxLen ∧ (Lit.int .i64 (f i).ix).wf = true := by
      refine ⟨fun i => if h : i < len0 then Classical.choose (key' i h) else ⟨⟨#[]⟩, 0, false⟩, fun i hi => ?_⟩
      simp only [dif_pos hi]
      exact Classical.choose_spec (key' i hi)
    refine ⟨(List.range len0).map f, ⟨by simp, .inr ⟨b, off, rfl, hbw, fun i hi => ⟨f i, by simp [hi], (hf i hi).1⟩⟩⟩, by omega, (fun e => by cases e), fun s hs => ?_⟩
    obtain ⟨i, hi, rfl⟩ := List.mem_map.1 hs
    exact (hf i (by simpa using hi)).2
theorem path_reach {H : Type} {enc : TypeId × Value → H} {w : World} {base : Nat} {held : Bool} {fuel : Nat} {a0 : Option Addr} {len0 cap0 : Nat} {d : DataW H} {p : List MemPlace}
    (h : DataW.trod enc Try.prog w base (fun _ => true) held fuel 34 [.slice a0 len0 cap0] = some (d, p)) (hN : ∀ n, n ∈ d.weights Try.prog 34 → n ≤ reachBytes) : len0 ≤ 140737488351232 := by
  have hb : Try.prog.bytesOf 39 = 32 := by kernel_rfl
  rcases Go.Deep.open_slice Try.underlying34 h with ⟨hcs, _⟩ | ⟨a, len, cap, m, n, D, Pl, hcs, hb0, hl, hm, hmm, hx, hcell⟩
  · simp at hcs
    omega
  · simp at hcs
    obtain ⟨rfl, rfl, rfl⟩ := hcs
    simp only [if_true] at hmm
    subst hmm
    simp only [Prod.mk.injEq] at hx
    have hm2 : m * 32 ∈ d.weights Try.prog 34 := by
      rw [hx.1]
      simp only [DataW.weights, Try.underlying34]
      refine List.mem_cons.2 (.inl ?_)
      rw [hb]
      simp only [List.length_map, List.length_range]
      rw [show len0 + (m - len0) = m from by omega]
    have := hN _ hm2
    unfold reachBytes at this
    omega
end Go.Proofs.Ytiblkdedbimggaa.stp
namespace Go.Proofs.Ytiblkdedbimggaa.vl
open Go.ChangeShapes Go.WideShapes Go.ChangeAt Go.RowKit
set_option linter.unusedVariables false
set_option linter.unusedSimpArgs false
theorem vls_ofQ (Q : Vl → Prop) (w : World) (b : Nat) : ∀ (n off : Nat), (∀ i, i < n → ∃ cs v, Row8 w b (off + i * 8) cs ∧ VlC w v cs ∧ Q v) → ∃ l, VlsAt w l (some ⟨b, off, none⟩) n ∧ ∀ v ∈ l.list, Q v
  | 0, off, _ => ⟨.nil, by unfold VlsAt; rfl, by simp [Vls.list]⟩
  | n + 1, off, h => by
    obtain ⟨cs, v, h1, h2, hq⟩ := h 0 (by omega)
    obtain ⟨l, hl, hlq⟩ := vls_ofQ Q w b n (off + 8) (fun i hi => by
      obtain ⟨cs, v, h1, h2⟩ := h (i + 1) (by omega)
      exact ⟨cs, v, by rw [show off + 8 + i * 8 = off + (i + 1) * 8 by omega]; exact h1, h2⟩)
    refine ⟨.cons v l, ?_, fun u hu => ?_⟩
    · unfold VlsAt
      exact ⟨b, off, n, cs, rfl, rfl, by simpa using h1, h2, hl⟩
    · simp only [Vls.list, List.mem_cons] at hu
      rcases hu with rfl | hu
      · exact hq
      · exact hlq u hu
theorem fls_ofQ (Q : Vl → Prop) (w : World) (b : Nat) : ∀ (n off : Nat), (∀ i, i < n → ∃ nm cs v, w.cell? ⟨b, off + i * 9, none⟩ = some (.string nm) ∧ nm.size ≤ maxLen ∧ Row8 w b (off + i * 9 + 1) cs ∧ VlC w v cs ∧ Q v) → ∃ l, FlsAt w l (some ⟨b, off, none⟩) n ∧ ∀ q ∈ l.list, Q q.2
  | 0, off, _ => ⟨.nil, by unfold FlsAt; rfl, by simp [Fls.list]⟩
  | n + 1, off, h => by
    obtain ⟨nm, cs, v, h0, hz, h1, h2, hq⟩ := h 0 (by omega)
    obtain ⟨l, hl, hlq⟩ := fls_ofQ Q w b n (off + 9) (fun i hi => by
      obtain ⟨nm, cs, v, h0, hz, h1, h2⟩ := h (i + 1) (by omega)
      exact ⟨nm, cs, v, by rw [show off + 9 + i * 9 = off + (i + 1) * 9 by omega]; exact h0, hz, by rw [show off + 9 + i * 9 = off + (i + 1) * 9 by omega]; exact h1, h2⟩)
    refine ⟨.cons nm v l, ?_, fun u hu => ?_⟩
    · unfold FlsAt
      exact ⟨b, off, n, cs, rfl, rfl, by simpa using h0, hz, by simpa using h1, h2, hl⟩
    · simp only [Fls.list, List.mem_cons] at hu
      rcases hu with rfl | hu
      · exact hq
      · exact hlq u hu
theorem weights_all {H : Type} {P : Program} {e : TypeId} {d : DataW H} {n : Nat} (hn : n ∈ d.weights P e) : ∀ {l : List (DataW H)}, d ∈ l → n ∈ DataW.weightsAll P e l
  | x :: r, h => by
    simp only [DataW.weightsAll, List.mem_append]
    rcases List.mem_cons.1 h with rfl | h
    · exact .inl hn
    · exact .inr (weights_all hn h)
theorem SmallI.mk : ∀ {l : Vls}, (∀ v ∈ l.list, Small v) → SmallI l := fun {l} h => by have := SmallI.of h; rwa [Vls.of_list] at this
theorem SmallF.mk : ∀ {l : Fls}, (∀ q ∈ l.list, Small q.2) → SmallF l := fun {l} h => by have := SmallF.of h; rwa [Fls.of_list] at this
section
variable {H : Type} {enc : TypeId × Value → H} {w : World} {base : Nat} {held : Bool}
theorem struct8w {P : Program} {spare : Nat → Bool} {t : TypeId} {f0 f1 f2 f3 f4 f5 f6 f7 : Field} {fuel : Nat} {cs : List Value} {x : DataW H × List MemPlace} (ht : P.underlying t = some (.struct #[f0, f1, f2, f3, f4, f5, f6, f7])) (h : DataW.trod enc P w base spare held fuel t cs = some x) :
    ∃ x0 x1 x2 x3 x4 x5 x6 x7 n, fuel = n + 1 ∧ x.1 = .agg [x0.1, x1.1, x2.1, x3.1, x4.1, x5.1, x6.1, x7.1] ∧ cs.length = P.cellsOf t ∧
      DataW.trod enc P w base spare held n f0.type ((cs.drop f0.offset).take (P.cellsOf f0.type)) = some x0 ∧
      DataW.trod enc P w base spare held n f1.type ((cs.drop f1.offset).take (P.cellsOf f1.type)) = some x1 ∧
      DataW.trod enc P w base spare held n f2.type ((cs.drop f2.offset).take (P.cellsOf f2.type)) = some x2 ∧
      DataW.trod enc P w base spare held n f3.type ((cs.drop f3.offset).take (P.cellsOf f3.type)) = some x3 ∧
      DataW.trod enc P w base spare held n f4.type ((cs.drop f4.offset).take (P.cellsOf f4.type)) = some x4 ∧
      DataW.trod enc P w base spare held n f5.type ((cs.drop f5.offset).take (P.cellsOf f5.type)) = some x5 ∧
      DataW.trod enc P w base spare held n f6.type ((cs.drop f6.offset).take (P.cellsOf f6.type)) = some x6 ∧
      DataW.trod enc P w base spare held n f7.type ((cs.drop f7.offset).take (P.cellsOf f7.type)) = some x7 := by
  obtain ⟨xs, n, hfu, hx, hl, hlen, hf⟩ := DataW.trod_struct ht h
  match xs, hlen with
  | [x0, x1, x2, x3, x4, x5, x6, x7], _ => exact ⟨x0, x1, x2, x3, x4, x5, x6, x7, n, hfu, by rw [hx]; rfl, hl, by simpa using hf 0 f0 rfl, by simpa using hf 1 f1 rfl, by simpa using hf 2 f2 rfl, by simpa using hf 3 f3 rfl, by simpa using hf 4 f4 rfl, by simpa using hf 5 f5 rfl, by simpa using hf 6 f6 rfl, by simpa using hf 7 f7 rfl⟩
theorem struct2w {P : Program} {spare : Nat → Bool} {t : TypeId} {f0 f1 : Field} {fuel : Nat} {cs : List Value} {x : DataW H × List MemPlace} (ht : P.underlying t = some (.struct #[f0, f1])) (h : DataW.trod enc P w base spare held fuel t cs = some x) :
    ∃ x0 x1 n, fuel = n + 1 ∧ x.1 = .agg [x0.1, x1.1] ∧ cs.length = P.cellsOf t ∧
      DataW.trod enc P w base spare held n f0.type ((cs.drop f0.offset).take (P.cellsOf f0.type)) = some x0 ∧
      DataW.trod enc P w base spare held n f1.type ((cs.drop f1.offset).take (P.cellsOf f1.type)) = some x1 := by
  obtain ⟨xs, n, hfu, hx, hl, hlen, hf⟩ := DataW.trod_struct ht h
  match xs, hlen with
  | [x0, x1], _ => exact ⟨x0, x1, n, hfu, by rw [hx]; rfl, hl, by simpa using hf 0 f0 rfl, by simpa using hf 1 f1 rfl⟩
theorem bytV : Try.prog.bytesOf 27 = 112 := by kernel_rfl
theorem bytM : Try.prog.bytesOf 47 = 128 := by kernel_rfl
theorem val_ofS : ∀ (fuel : Nat) (cs : List Value) (x : DataW H × List MemPlace), DataW.trod enc Try.prog w base (fun _ => true) held fuel 27 cs = some x → (∀ n, n ∈ x.1.weights Try.prog 27 → n ≤ reachBytes) → ∃ v, VlC w v cs ∧ Small v := by
  intro fuel
  induction fuel using Nat.strongRecOn with
  | _ fuel ih =>
    intro cs x h hN
    obtain ⟨x0, x1, x2, x3, x4, x5, x6, x7, n, hfu, hxd, hl, f0, f1, f2, f3, f4, f5, f6, f7⟩ := struct8w Try.underlying27 h
    have hN6 : ∀ q, q ∈ x6.1.weights Try.prog 24 → q ≤ reachBytes := fun q hq => hN q (by
      rw [hxd]
      simp only [DataW.weights, Try.underlying27]
      exact DataW.weights_mem_each (j := 6) rfl rfl q hq)
    have hN7 : ∀ q, q ∈ x7.1.weights Try.prog 25 → q ≤ reachBytes := fun q hq => hN q (by
      rw [hxd]
      simp only [DataW.weights, Try.underlying27]
      exact DataW.weights_mem_each (j := 7) rfl rfl q hq)
    rw [cellsV] at hl
    obtain ⟨c0, c1, c2, c3, c4, c5, c6, c7, rfl⟩ := list_eight hl
    simp only [cK, cB, cI, cF, cS, cIt, cFl, List.drop_zero, List.drop_succ_cons, List.take_succ_cons, List.take_zero] at f0 f1 f2 f3 f4 f5 f6 f7
    obtain ⟨kd, e0, _, w0⟩ := DataW.trod_int Try.underlying22 f0
    obtain ⟨b, e1, _⟩ := DataW.trod_bool Try.underlying4 f1
    obtain ⟨m, e2, _, w2⟩ := DataW.trod_int Try.underlying2 f2
    obtain ⟨fl, e3, _, w3⟩ := trod_float Try.underlying23 f3
    obtain ⟨tx, e4, _, w4⟩ := DataW.trod_string Try.underlying9 f4
    obtain ⟨ty, e5, _, w5⟩ := DataW.trod_string Try.underlying9 f5
    simp only [List.cons.injEq, and_true] at e0 e1 e2 e3 e4 e5
    subst e0 e1 e2 e3 e4 e5
    have hI : ∃ (ai : Option Addr) (ni ci : Nat) (l : Vls), c6 = .slice ai ni ci ∧ VlsAt w l ai ni ∧ ni ≤ ci ∧ (ai = none → ci = 0) ∧ ci ≤ maxLen ∧ ni ≤ 1256584717458 ∧ ∀ v ∈ l.list, Small v := by
      rcases DataW.trod_slice Try.underlying24 f6 with ⟨hc, _⟩ | ⟨a, len, cap, elems, rest, k, hk, hc, hxs, _, hlc, hcm, hel, hcell, _, _⟩
      · simp at hc
        exact ⟨none, 0, 0, .nil, hc, by unfold VlsAt; rfl, Nat.le_refl _, fun _ => rfl, Nat.zero_le _, Nat.zero_le _, by simp [Vls.list]⟩
      · simp at hc
        have hw6 : (elems.length + rest.length) * 112 ≤ reachBytes := hN6 _ (by
          rw [hxs]
          simp only [DataW.weights, Try.underlying24]
          refine List.mem_cons.2 (.inl ?_)
          rw [bytV]
          simp)
        have hlen6 : len ≤ 1256584717458 := by unfold reachBytes at hw6; omega
        have key : ∀ i, i < len → ∃ cs v, w.cells? base (a.add (i * 8)) 8 = some cs ∧ VlC w v cs ∧ Small v := by
          intro i hi
          have h1 := hcell i hi
          rw [cellsV, List.getElem?_eq_getElem (show i < elems.length by omega), Option.bind_eq_some_iff] at h1
          obtain ⟨cs, h2, h3⟩ := h1
          obtain ⟨v, hv, hsv⟩ := ih k (by omega) cs _ h3 (fun q hq => hN6 q (by
            rw [hxs]
            simp only [DataW.weights, Try.underlying24]
            exact List.mem_cons_of_mem _ (List.mem_append_left _ (weights_all hq (List.mem_map.2 ⟨_, List.getElem_mem (show i < elems.length by omega), rfl⟩)))))
          exact ⟨cs, v, h2, hv, hsv⟩
        by_cases h0 : len = 0
        · subst h0
          exact ⟨some a, 0, cap, .nil, hc, by unfold VlsAt; rfl, by omega, fun e => (by cases e), hcm, by omega, by simp [Vls.list]⟩
        · have hsp : a.spot = none := by
            obtain ⟨cs, v, h1, _, _⟩ := key 0 (by omega)
            have := spot_of h1 (by omega)
            simpa [Addr.add] using this
          obtain ⟨bb, off, spot⟩ := a
          simp only at hsp
          subst hsp
          obtain ⟨l, hl, hlq⟩ := vls_ofQ Small w bb len off (fun i hi => by
            obtain ⟨cs, v, h1, h2, h3⟩ := key i hi
            rw [Addr.add_lit] at h1
            exact ⟨cs, v, (row_of h1 rfl).2, h2, h3⟩)
          exact ⟨some ⟨bb, off, none⟩, len, cap, l, hc, hl, hlc, fun e => (by cases e), hcm, hlen6, hlq⟩
    have hM : ∃ (ai : Option Addr) (ni ci : Nat) (l : Fls), c7 = .slice ai ni ci ∧ FlsAt w l ai ni ∧ ni ≤ ci ∧ (ai = none → ci = 0) ∧ ci ≤ maxLen ∧ ni ≤ 1099511627776 ∧ ∀ q ∈ l.list, Small q.2 := by
      rcases DataW.trod_slice Try.underlying25 f7 with ⟨hc, _⟩ | ⟨a, len, cap, elems, rest, k, hk, hc, hxs, _, hlc, hcm, hel, hcell, _, _⟩
      · simp at hc
        exact ⟨none, 0, 0, .nil, hc, by unfold FlsAt; rfl, Nat.le_refl _, fun _ => rfl, Nat.zero_le _, Nat.zero_le _, by simp [Fls.list]⟩
      · simp at hc
        have hw7 : (elems.length + rest.length) * 128 ≤ reachBytes := hN7 _ (by
          rw [hxs]
          simp only [DataW.weights, Try.underlying25]
          refine List.mem_cons.2 (.inl ?_)
          rw [bytM]
          simp)
        have hlen7 : len ≤ 1099511627776 := by unfold reachBytes at hw7; omega
        have key : ∀ i, i < len → ∃ nm cs v, w.cells? base (a.add (i * 9)) 9 = some (.string nm :: cs) ∧ nm.size ≤ maxLen ∧ VlC w v cs ∧ Small v := by
          intro i hi
          have h1 := hcell i hi
          rw [cellsM, List.getElem?_eq_getElem (show i < elems.length by omega), Option.bind_eq_some_iff] at h1
          obtain ⟨cs, h2, h3⟩ := h1
          obtain ⟨y0, y1, q, hq, hyd, hl9, g0, g1⟩ := struct2w Try.underlying47 h3
          rw [cellsM] at hl9
          obtain ⟨c, r, rfl, hr⟩ := list_nine hl9
          simp only [cS, cellsV, List.drop_zero, List.drop_succ_cons, List.take_succ_cons, List.take_zero] at g0 g1
          rw [List.take_of_length_le (by omega)] at g1
          obtain ⟨nm, e, _, hz⟩ := DataW.trod_string Try.underlying9 g0
          simp only [List.cons.injEq, and_true] at e
          subst e
          obtain ⟨v, hv, hsv⟩ := ih q (by omega) r _ g1 (fun m hm => hN7 m (by
            rw [hxs]
            simp only [DataW.weights, Try.underlying25]
            refine List.mem_cons_of_mem _ (List.mem_append_left _ (weights_all (d := (elems[i]'(by omega)).1) ?_ (List.mem_map.2 ⟨_, List.getElem_mem (show i < elems.length by omega), rfl⟩)))
            rw [hyd]
            simp only [DataW.weights, Try.underlying47]
            exact DataW.weights_mem_each (j := 1) rfl rfl m hm))
          exact ⟨nm, r, v, h2, hz, hv, hsv⟩
        by_cases h0 : len = 0
        · subst h0
          exact ⟨some a, 0, cap, .nil, hc, by unfold FlsAt; rfl, by omega, fun e => (by cases e), hcm, by omega, by simp [Fls.list]⟩
        · have hsp : a.spot = none := by
            obtain ⟨nm, cs, v, h1, _⟩ := key 0 (by omega)
            have := spot_of h1 (by omega)
            simpa [Addr.add] using this
          obtain ⟨bb, off, spot⟩ := a
          simp only at hsp
          subst hsp
          obtain ⟨l, hl, hlq⟩ := fls_ofQ Small w bb len off (fun i hi => by
            obtain ⟨nm, cs, v, h1, hz, h2, h3⟩ := key i hi
            rw [Addr.add_lit] at h1
            have hrow : Row8 w bb (off + i * 9) (.string nm :: cs) := (row_of h1 rfl).2
            refine ⟨nm, cs, v, by simpa using hrow 0 (.string nm) rfl, hz, fun j u hu => ?_, h2, h3⟩
            have := hrow (j + 1) u (by simpa using hu)
            rw [show off + i * 9 + 1 + j = off + i * 9 + (j + 1) by omega]
            exact this)
          exact ⟨some ⟨bb, off, none⟩, len, cap, l, hc, hl, hlc, fun e => (by cases e), hcm, hlen7, hlq⟩
    obtain ⟨ai, ni, ci, its, rfl, hI1, hI2, hI3, hI4, hI5, hI6⟩ := hI
    obtain ⟨af, nf, cf, fls, rfl, hM1, hM2, hM3, hM4, hM5, hM6⟩ := hM
    refine ⟨.mk kd b m fl tx ty its fls, ?_, ?_⟩
    rotate_left
    · unfold Small
      exact ⟨by rw [VlsAt.len its _ _ hI1]; exact hI5, by rw [FlsAt.len fls _ _ hM1]; exact hM5, by simpa [Lit.wf] using w3, SmallI.mk hI6, SmallF.mk hM6⟩
    unfold VlC
    exact ⟨ai, ni, ci, af, nf, cf, rfl, hI1, hM1, hI2, hM2, hI3, hM3, w0, w2, w4, w5, hI4, hM4⟩
end
theorem path_cap {H : Type} {enc : TypeId × Value → H} {w : World} {base : Nat} {held : Bool} {fuel : Nat} {a0 : Option Addr} {len0 cap0 : Nat} {d : DataW H} {p : List MemPlace}
    (h : DataW.trod enc Try.prog w base (fun _ => true) held fuel 34 [.slice a0 len0 cap0] = some (d, p)) (hN : ∀ n, n ∈ d.weights Try.prog 34 → n ≤ reachBytes) : cap0 ≤ 4611686018427387903 := by
  have hb : Try.prog.bytesOf 39 = 32 := by kernel_rfl
  rcases DataW.trod_slice Try.underlying34 h with ⟨hc, _⟩ | ⟨a, len, cap, elems, rest, k, hk, hc, hxs, _, hlc, hcm, hel, hcell, hsp, _⟩
  · simp at hc
    omega
  · simp at hc
    obtain ⟨rfl, rfl, rfl⟩ := hc
    simp only [Prod.mk.injEq] at hxs
    have hr := (hsp rfl).1
    have := hN ((elems.length + rest.length) * 32) (by
      rw [hxs.1]
      simp only [DataW.weights, Try.underlying34]
      refine List.mem_cons.2 (.inl ?_)
      rw [hb]
      simp)
    unfold reachBytes at this
    omega
end Go.Proofs.Ytiblkdedbimggaa.vl
namespace Go.Proofs.Ytiblkdedbimggaa.og
open Go.ChangeShapes Go.WideShapes Go.ChangeAt Go.RowKit
open vl hiding cB cFl cS cF cI cK cIt
open stp (c3 c3_lt c3_gt c3_eq cB cB_tri)
set_option linter.unusedVariables false
set_option linter.unusedSimpArgs false
/-- all that lay stays, draws are only added -/
def Gr (w w' : World) : Prop := Below w.heap.size w w' ∧ w.drawn ≤ w'.drawn
theorem Gr.refl (w : World) : Gr w w := ⟨Below.refl _ _, Nat.le_refl _⟩
theorem Gr.trans {a b c : World} (h : Gr a b) (k : Gr b c) : Gr a c := ⟨h.1.trans (k.1.mono h.1.size), Nat.le_trans h.2 k.2⟩
theorem Gr.alloc {a w : World} (h : Gr a w) (o : Obj) : Gr a (w.alloc o) := ⟨h.1.alloc h.1.size o, h.2⟩
theorem Gr.drew {a w : World} (h : Gr a w) : Gr a { w with drawn := w.drawn + 1 } := ⟨h.1.drew, Nat.le_succ_of_le h.2⟩
theorem drawn_setCells (b : Nat) : ∀ (vs : List Value) (o : Nat) (w : World), (w.setCells b o vs).drawn = w.drawn
  | [], o, w => rfl
  | v :: r, o, w => by rw [World.setCells, drawn_setCells b r (o + 1)]; rfl
theorem Gr.setCells {a w : World} (h : Gr a w) {b : Nat} (hb : a.heap.size ≤ b) (o : Nat) (vs : List Value) : Gr a (w.setCells b o vs) := ⟨below_setCells _ _ _ _ h.1 hb, by rw [drawn_setCells]; exact h.2⟩
/-- the kind that counts -/
def kdOf (k : Int) : Int := if k < 0 ∨ 7 < k then 0 else k
theorem kdOf_rng (k : Int) : kdOf k = 0 ∨ kdOf k = 1 ∨ kdOf k = 2 ∨ kdOf k = 3 ∨ kdOf k = 4 ∨ kdOf k = 5 ∨ kdOf k = 6 ∨ kdOf k = 7 := by
  unfold kdOf
  split <;> omega
def cBo (a b : Bool) : Int := if a = b then 0 else if b = true then -1 else 1
def sameF (a b : Nat) : Bool := (a == b) || (nanF a && nanF b)
def cmpF (a b : Nat) : Int := if nanF a = true then (if nanF b = true then 0 else -1) else if nanF b = true then 1 else if (FloatKind.f64.format.order a b == some Ordering.lt) = true then -1 else if (FloatKind.f64.format.order a b == some Ordering.gt) = true then 1 else 0
def sgn (a : Nat) : Bool := decide (9223372036854775808 ≤ a)
def cFl (a b : Nat) : Int := if sameF a b = true then 0 else if cmpF a b = 0 then cBo (sgn b) (sgn a) else cmpF a b
/-- element by element; the shorter one first -/
def lexG {α : Type} (f : α → α → Int) : List α → List α → Int
  | [], [] => 0
  | [], _ :: _ => -1
  | _ :: _, [] => 1
  | a :: l, b :: r => if f a b = 0 then lexG f l r else f a b
theorem lexG_end1 {α : Type} {f : α → α → Int} {A B : List α} {k : Nat} (hA : A.length ≤ k) (hB : k < B.length) : lexG f (A.drop k) (B.drop k) = -1 := by
  rw [List.drop_eq_nil_of_le hA, List.drop_eq_getElem_cons hB]
  rfl
theorem lexG_end2 {α : Type} {f : α → α → Int} {A B : List α} {k : Nat} (hA : k < A.length) (hB : B.length ≤ k) : lexG f (A.drop k) (B.drop k) = 1 := by
  rw [List.drop_eq_nil_of_le hB, List.drop_eq_getElem_cons hA]
  rfl
theorem lexG_end0 {α : Type} {f : α → α → Int} {A B : List α} {k : Nat} (hA : A.length ≤ k) (hB : B.length ≤ k) : lexG f (A.drop k) (B.drop k) = 0 := by
  rw [List.drop_eq_nil_of_le hB, List.drop_eq_nil_of_le hA]
  rfl
theorem lexG_step {α : Type} {f : α → α → Int} {A B : List α} {k : Nat} {a b : α} (hA : A[k]? = some a) (hB : B[k]? = some b) : lexG f (A.drop k) (B.drop k) = if f a b = 0 then lexG f (A.drop (k + 1)) (B.drop (k + 1)) else f a b := by
  obtain ⟨h1, rfl⟩ := List.getElem?_eq_some_iff.1 hA
  obtain ⟨h2, rfl⟩ := List.getElem?_eq_some_iff.1 hB
  rw [List.drop_eq_getElem_cons h1, List.drop_eq_getElem_cons h2]
  rfl
mutual
/-- the order of values -/
def ordV : Vl → Vl → Int
  | .mk kd b n f tx ty its fls, .mk kd' b' n' f' tx' ty' its' fls' =>
    if c3 (kdOf kd) (kdOf kd') = 0 then
      (if kdOf kd = 1 then cBo b b' else if kdOf kd = 2 then c3 n n' else if kdOf kd = 3 then cFl f f' else if kdOf kd = 4 then cB tx tx' else if kdOf kd = 5 then ordI its its' else if kdOf kd = 6 then ordF fls fls' else if kdOf kd = 7 then (if cB ty ty' = 0 then cB tx tx' else cB ty ty') else 0)
    else c3 (kdOf kd) (kdOf kd')
def ordI : Vls → Vls → Int
  | .nil, .nil => 0
  | .nil, .cons _ _ => -1
  | .cons _ _, .nil => 1
  | .cons v r, .cons u s => if ordV v u = 0 then ordI r s else ordV v u
def ordF : Fls → Fls → Int
  | .nil, .nil => 0
  | .nil, .cons _ _ _ => -1
  | .cons _ _ _, .nil => 1
  | .cons nm v r, .cons nm' u s => if (if cB nm nm' = 0 then ordV v u else cB nm nm') = 0 then ordF r s else (if cB nm nm' = 0 then ordV v u else cB nm nm')
end
/-- the order of members -/
def ordM (p q : ByteArray × Vl) : Int := if cB p.1 q.1 = 0 then ordV p.2 q.2 else cB p.1 q.1
theorem ordI_lex : ∀ a b : Vls, ordI a b = lexG ordV a.list b.list
  | .nil, .nil => by simp [ordI, Vls.list, lexG]
  | .nil, .cons _ _ => by simp [ordI, Vls.list, lexG]
  | .cons _ _, .nil => by simp [ordI, Vls.list, lexG]
  | .cons v r, .cons u s => by rw [ordI, ordI_lex r s]; rfl
theorem ordF_lex : ∀ a b : Fls, ordF a b = lexG ordM a.list b.list
  | .nil, .nil => by simp [ordF, Fls.list, lexG]
  | .nil, .cons _ _ _ => by simp [ordF, Fls.list, lexG]
  | .cons _ _ _, .nil => by simp [ordF, Fls.list, lexG]
  | .cons nm v r, .cons nm' u s => by rw [ordF, ordF_lex r s]; rfl
theorem sameF_self (f : Nat) : sameF f f = true := by simp [sameF]
theorem cB_self (a : ByteArray) : cB a a = 0 := by
  rcases cB_tri a a with ⟨_, _, h⟩ | ⟨h, _⟩ | ⟨_, _, h⟩
  · exact absurd rfl h
  · exact h
  · exact absurd rfl h
theorem lexG_self {α : Type} {f : α → α → Int} : ∀ l : List α, (∀ x ∈ l, f x x = 0) → lexG f l l = 0
  | [], _ => rfl
  | a :: l, h => by
    rw [lexG, if_pos (h a (List.mem_cons_self ..))]
    exact lexG_self l (fun x hx => h x (List.mem_cons_of_mem _ hx))
/-- a value is level with itself -/
theorem ordV_self : ∀ v : Vl, ordV v v = 0 := by
  refine Vl.all ?_
  intro kd b n f tx ty its fls hI hF
  rw [ordV, if_pos (c3_eq rfl), ordI_lex, ordF_lex, lexG_self its.list hI, lexG_self fls.list (fun q hq => by rw [ordM, cB_self, if_pos rfl]; exact hF q hq), cB_self, cB_self, c3_eq rfl]
  simp [cBo, cFl, sameF_self]
end Go.Proofs.Ytiblkdedbimggaa.og
namespace Go.Proofs.Ytiblkdedbimggaa.og
open Go.ChangeShapes Go.WideShapes Go.ChangeAt Go.RowKit
open vl hiding cB cFl cS cF cI cK cIt
open stp (c3 c3_lt c3_gt c3_eq cB cB_tri)
open mem (dec_fin dec_inf dec_nan word_of order_fin sv)
set_option linter.unusedVariables false
set_option linter.unusedSimpArgs false
/-- one of three answers -/
def Rg (s : Int) : Prop := s = -1 ∨ s = 0 ∨ s = 1
/-- how three elements stand to each other: one and two, two and three, one and three -/
def Tr (a b c : Int) : Prop := (a = 0 → c = b) ∧ (b = 0 → c = a) ∧ (a = b → c = a) ∧ (c = 0 → a = -b)
theorem Rg.c3 (x y : Int) : Rg (stp.c3 x y) := by unfold Rg stp.c3; split <;> (try split) <;> omega
theorem Tr.c3 (x y z : Int) : Tr (stp.c3 x y) (stp.c3 y z) (stp.c3 x z) := by
  unfold Tr stp.c3
  split <;> split <;> split <;> (try split) <;> (try split) <;> (try split) <;> omega
theorem c3_anti (x y : Int) : c3 y x = - c3 x y := by unfold stp.c3; split <;> split <;> (try split) <;> omega
/-- two comparisons, one behind the other -/
def thn (a b : Int) : Int := if a = 0 then b else a
theorem Rg.thn {a b : Int} (h : Rg a) (k : Rg b) : Rg (og.thn a b) := by unfold og.thn; split <;> assumption
theorem Tr.thn {a b c a' b' c' : Int} (ra : Rg a) (rb : Rg b) (rc : Rg c) (h : Tr a b c) (k : Tr a' b' c') : Tr (og.thn a a') (og.thn b b') (og.thn c c') := by
  unfold Tr at h k ⊢
  unfold Rg at ra rb rc
  unfold og.thn
  rcases ra with rfl | rfl | rfl <;> rcases rb with rfl | rfl | rfl <;> rcases rc with rfl | rfl | rfl <;> simp at h ⊢ <;> first | exact k | omega
/-- as above, the second asked only where the first is level -/
theorem Tr.thn' {a b c a' b' c' : Int} (ra : Rg a) (rb : Rg b) (rc : Rg c) (ra' : Rg a') (rb' : Rg b') (rc' : Rg c') (h : Tr a b c) (k : a = 0 → b = 0 → Tr a' b' c') : Tr (og.thn a a') (og.thn b b') (og.thn c c') := by
  unfold Tr at h k ⊢
  unfold Rg at ra rb rc ra' rb' rc'
  unfold og.thn
  rcases ra with rfl | rfl | rfl <;> rcases rb with rfl | rfl | rfl <;> rcases rc with rfl | rfl | rfl <;> simp at h k ⊢ <;> first | exact k | omega
theorem lexG_cons {α : Type} (f : α → α → Int) (a b : α) (l r : List α) : lexG f (a :: l) (b :: r) = thn (f a b) (lexG f l r) := rfl
theorem Rg.lexG {α : Type} {f : α → α → Int} : ∀ (l r : List α), (∀ a ∈ l, ∀ b ∈ r, Rg (f a b)) → Rg (og.lexG f l r)
  | [], [], _ => .inr (.inl rfl)
  | [], _ :: _, _ => .inl rfl
  | _ :: _, [], _ => .inr (.inr rfl)
  | a :: l, b :: r, h => by
    rw [lexG_cons]
    exact Rg.thn (h a (List.mem_cons_self ..) b (List.mem_cons_self ..)) (Rg.lexG l r (fun x hx y hy => h x (List.mem_cons_of_mem _ hx) y (List.mem_cons_of_mem _ hy)))
theorem Tr.lexG {α : Type} {f : α → α → Int} : ∀ (l r s : List α), (∀ a b, (a ∈ l ∨ a ∈ r) → (b ∈ r ∨ b ∈ s) → Rg (f a b)) → (∀ a ∈ l, ∀ b ∈ r, ∀ c ∈ s, Tr (f a b) (f b c) (f a c)) → Tr (og.lexG f l r) (og.lexG f r s) (og.lexG f l s)
  | [], [], [], _, _ => by simp [og.lexG, Tr]
  | [], [], _ :: _, _, _ => by simp [og.lexG, Tr]
  | [], _ :: _, [], _, _ => by simp [og.lexG, Tr]
  | _ :: _, [], [], _, _ => by simp [og.lexG, Tr]
  | _ :: _, [], _ :: _, _, _ => by simp [og.lexG, Tr]
  | [], b :: r, c :: s, hR, h => by
    have e : Rg (og.lexG f (b :: r) (c :: s)) := Rg.lexG _ _ (fun x hx y hy => hR x y (.inr hx) (.inr hy))
    generalize og.lexG f (b :: r) (c :: s) = q at *
    show Tr (-1) q (-1)
    unfold Rg at e
    unfold Tr
    omega
  | a :: l, b :: r, [], hR, h => by
    have e : Rg (og.lexG f (a :: l) (b :: r)) := Rg.lexG _ _ (fun x hx y hy => hR x y (.inl hx) (.inl hy))
    generalize og.lexG f (a :: l) (b :: r) = q at *
    show Tr q 1 1
    unfold Rg at e
    unfold Tr
    omega
  | a :: l, b :: r, c :: s, hR, h => by
    rw [lexG_cons, lexG_cons, lexG_cons]
    have ma : a ∈ a :: l := List.mem_cons_self ..
    have mb : b ∈ b :: r := List.mem_cons_self ..
    have mc : c ∈ c :: s := List.mem_cons_self ..
    exact Tr.thn (hR a b (.inl ma) (.inl mb)) (hR b c (.inr mb) (.inr mc)) (hR a c (.inl ma) (.inr mc)) (h a ma b mb c mc)
      (Tr.lexG l r s (fun x y hx hy => hR x y (hx.imp (List.mem_cons_of_mem _) (List.mem_cons_of_mem _)) (hy.imp (List.mem_cons_of_mem _) (List.mem_cons_of_mem _))) (fun x hx y hy z hz => h x (List.mem_cons_of_mem _ hx) y (List.mem_cons_of_mem _ hy) z (List.mem_cons_of_mem _ hz)))
theorem cmpBytes_lex : ∀ a b : List UInt8, Lib.compareBytes a b = lexG (fun x y => c3 (x.toNat : Int) (y.toNat : Int)) a b
  | [], [] => by simp [Lib.compareBytes, lexG]
  | [], _ :: _ => by simp [Lib.compareBytes, lexG]
  | _ :: _, [] => by simp [Lib.compareBytes, lexG]
  | x :: a, y :: b => by
    rw [lexG_cons, ← cmpBytes_lex a b]
    unfold thn
    by_cases h1 : x < y
    · have h1' : x.toNat < y.toNat := UInt8.lt_iff_toNat_lt.1 h1
      have hc : c3 (x.toNat : Int) (y.toNat : Int) = -1 := c3_lt (by omega)
      simp [Lib.compareBytes, h1, hc]
    · by_cases h2 : y < x
      · have h2' : y.toNat < x.toNat := UInt8.lt_iff_toNat_lt.1 h2
        have hc : c3 (x.toNat : Int) (y.toNat : Int) = 1 := c3_gt (by omega)
        simp [Lib.compareBytes, h1, h2, hc]
      · have e : x = y := UInt8.le_antisymm (UInt8.not_lt.1 h2) (UInt8.not_lt.1 h1)
        subst e
        have hc : c3 (x.toNat : Int) (x.toNat : Int) = 0 := c3_eq rfl
        simp [Lib.compareBytes, h1, hc]
theorem Rg.cB (a b : ByteArray) : Rg (stp.cB a b) := by unfold stp.cB; rw [cmpBytes_lex]; exact Rg.lexG _ _ (fun _ _ _ _ => Rg.c3 _ _)
theorem Tr.cB (a b c : ByteArray) : Tr (stp.cB a b) (stp.cB b c) (stp.cB a c) := by unfold stp.cB; rw [cmpBytes_lex, cmpBytes_lex, cmpBytes_lex]; exact Tr.lexG _ _ _ (fun _ _ _ _ => Rg.c3 _ _) (fun _ _ _ _ _ _ => Tr.c3 _ _ _)
theorem Rg.cBo (a b : Bool) : Rg (og.cBo a b) := by cases a <;> cases b <;> simp [og.cBo, Rg]
theorem Tr.cBo (a b c : Bool) : Tr (og.cBo a b) (og.cBo b c) (og.cBo a c) := by cases a <;> cases b <;> cases c <;> simp [og.cBo, Tr]
/-- a float's place among all floats -/
def keyF (x : Nat) : Int := if nanF x = true then -18446744073709551616 else if 9223372036854775808 ≤ x then -((x % 9223372036854775808 : Nat) : Int) - 1 else ((x % 9223372036854775808 : Nat) : Int)
theorem ord_num (s t : Bool) (r q : Nat) (hr : r ≤ 9218868437227405312) (hq : q ≤ 9218868437227405312) : FloatKind.f64.format.order (Ieee.double.word s r) (Ieee.double.word t q) = some (compare (sv s (mem.vR r)) (sv t (mem.vR q))) := by
  show (FloatKind.f64.decode _).order (FloatKind.f64.decode _) = _
  rcases Nat.lt_or_eq_of_le hr with h1 | h1
  · rcases Nat.lt_or_eq_of_le hq with h2 | h2
    · rw [dec_fin s r h1, dec_fin t q h2, order_fin]; rfl
    · have hv : mem.vR r < mem.vR q := mem.vR_mono (by omega)
      subst h2
      rw [dec_fin s r h1, dec_inf]
      generalize mem.vR 9218868437227405312 = B at *
      generalize mem.vR r = A at *
      have : compare (sv s A) (sv t B) = if t = true then Ordering.gt else Ordering.lt := by
        cases t
        · simp only [Bool.false_eq_true, if_false]; rw [Int.compare_eq_lt]; cases s <;> simp [sv] <;> omega
        · simp only [if_true]; rw [Int.compare_eq_gt]; cases s <;> simp [sv] <;> omega
      rw [this]
      cases t <;> rfl
  · rcases Nat.lt_or_eq_of_le hq with h2 | h2
    · have hv : mem.vR q < mem.vR r := mem.vR_mono (by omega)
      subst h1
      rw [dec_fin t q h2, dec_inf]
      generalize mem.vR 9218868437227405312 = B at *
      generalize mem.vR q = A at *
      have : compare (sv s B) (sv t A) = if s = true then Ordering.lt else Ordering.gt := by
        cases s
        · simp only [Bool.false_eq_true, if_false]; rw [Int.compare_eq_gt]; cases t <;> simp [sv] <;> omega
        · simp only [if_true]; rw [Int.compare_eq_lt]; cases t <;> simp [sv] <;> omega
      rw [this]
      cases s <;> rfl
    · subst h1 h2
      rw [dec_inf, dec_inf]
      have hp : 0 < mem.vR 9218868437227405312 := Nat.lt_of_le_of_lt (Nat.zero_le _) (mem.vR_mono (a := 0) (by omega))
      generalize mem.vR 9218868437227405312 = B at *
      cases s <;> cases t
      · rw [Int.compare_eq_eq.2 rfl]; rfl
      · rw [show compare (sv false B) (sv true B) = Ordering.gt by rw [Int.compare_eq_gt]; simp [sv]; omega]; rfl
      · rw [show compare (sv true B) (sv false B) = Ordering.lt by rw [Int.compare_eq_lt]; simp [sv]; omega]; rfl
      · rw [Int.compare_eq_eq.2 rfl]; rfl
theorem cFl_key (a b : Nat) (ha : a < 18446744073709551616) (hb : b < 18446744073709551616) : cFl a b = c3 (keyF a) (keyF b) := by
  unfold cFl sameF cmpF keyF
  cases hA : nanF a <;> cases hB : nanF b
  · simp only [Bool.false_eq_true, if_false, Bool.and_false, Bool.false_and, Bool.or_false]
    have nA : a % 9223372036854775808 ≤ 9218868437227405312 := by unfold nanF at hA; simpa using hA
    have nB : b % 9223372036854775808 ≤ 9218868437227405312 := by unfold nanF at hB; simpa using hB
    have ho := ord_num (sgn a) (sgn b) _ _ nA nB
    unfold sgn at ho
    rw [word_of a ha, word_of b hb] at ho
    have vm : ∀ x y : Nat, x < y → mem.vR x < mem.vR y := fun x y h => mem.vR_mono h
    have vi : ∀ x y : Nat, x = y → mem.vR x = mem.vR y := fun x y h => by rw [h]
    have ea : ∃ r, a % 9223372036854775808 = r := ⟨_, rfl⟩
    have eb : ∃ q, b % 9223372036854775808 = q := ⟨_, rfl⟩
    obtain ⟨r, er⟩ := ea
    obtain ⟨q, eq⟩ := eb
    rw [er, eq] at ho
    rw [er, eq]
    rw [ho]
    by_cases hab : a = b
    · subst hab
      obtain rfl : r = q := er.symm.trans eq
      simp [c3]
    · have hab' : (a == b) = false := by simpa using hab
      rw [hab']
      simp only [Bool.false_eq_true, if_false]
      have z0 : mem.vR 0 = 0 := by simp [mem.vR, mem.mantR, mem.b52]
      have hz : ∀ x : Nat, 0 < x → 0 < mem.vR x := fun x hx => by have := vm 0 x hx; omega
      have key : compare (sv (decide (9223372036854775808 ≤ a)) (mem.vR r)) (sv (decide (9223372036854775808 ≤ b)) (mem.vR q)) = if r = 0 ∧ q = 0 then Ordering.eq else if (if 9223372036854775808 ≤ a then -(r : Int) - 1 else (r : Int)) < (if 9223372036854775808 ≤ b then -(q : Int) - 1 else (q : Int)) then Ordering.lt else Ordering.gt := by
        by_cases h00 : r = 0 ∧ q = 0
        · rw [if_pos h00, h00.1, h00.2, z0, Int.compare_eq_eq]
          by_cases sa : 9223372036854775808 ≤ a <;> by_cases sb : 9223372036854775808 ≤ b <;> simp [sv, sa, sb]
        · rw [if_neg h00]
          by_cases sa : 9223372036854775808 ≤ a <;> by_cases sb : 9223372036854775808 ≤ b <;> simp only [sa, sb, decide_true, decide_false, if_true, if_false, sv, Bool.false_eq_true]
          · rcases Nat.lt_trichotomy r q with h | h | h
            · have := vm _ _ h; rw [if_neg (by omega), Int.compare_eq_gt]; omega
            · exfalso; omega
            · have := vm _ _ h; rw [if_pos (by omega), Int.compare_eq_lt]; omega
          · rw [if_pos (by omega), Int.compare_eq_lt]
            rcases Nat.eq_zero_or_pos r with h | h
            · have := hz q (by omega); omega
            · have := hz r h; omega
          · rw [if_neg (by omega), Int.compare_eq_gt]
            rcases Nat.eq_zero_or_pos r with h | h
            · have := hz q (by omega); omega
            · have := hz r h; omega
          · rcases Nat.lt_trichotomy r q with h | h | h
            · have := vm _ _ h; rw [if_pos (by omega), Int.compare_eq_lt]; omega
            · exfalso; omega
            · have := vm _ _ h; rw [if_neg (by omega), Int.compare_eq_gt]; omega
      rw [key]
      clear key ho vm vi z0 hz
      by_cases h00 : r = 0 ∧ q = 0
      · obtain ⟨rfl, rfl⟩ := h00
        simp only [and_self, if_true]
        have e1 : (some Ordering.eq == some Ordering.lt) = false := by decide
        have e2 : (some Ordering.eq == some Ordering.gt) = false := by decide
        rw [e1, e2]
        simp only [Bool.false_eq_true, if_false, if_true]
        unfold cBo sgn c3
        by_cases sa : 9223372036854775808 ≤ a <;> by_cases sb : 9223372036854775808 ≤ b <;> simp [sa, sb] <;> omega
      · rw [if_neg h00]
        by_cases hlt : (if 9223372036854775808 ≤ a then -(r : Int) - 1 else (r : Int)) < (if 9223372036854775808 ≤ b then -(q : Int) - 1 else (q : Int))
        · rw [if_pos hlt, c3_lt hlt]
          rfl
        · have hne : (if 9223372036854775808 ≤ b then -(q : Int) - 1 else (q : Int)) < (if 9223372036854775808 ≤ a then -(r : Int) - 1 else (r : Int)) := by
            by_cases sa : 9223372036854775808 ≤ a <;> by_cases sb : 9223372036854775808 ≤ b <;> simp only [sa, sb, if_true, if_false] at hlt ⊢ <;> omega
          rw [if_neg hlt, c3_gt hne]
          rfl
  · have hne : (a == b) = false := by
      cases h : (a == b)
      · rfl
      · rw [eq_of_beq h] at hA; rw [hA] at hB; cases hB
    rw [hne]
    simp only [Bool.false_eq_true, if_false, if_true, Bool.false_and, Bool.or_false, Bool.false_or]
    rw [c3_gt (by split <;> omega)]
    rfl
  · have hne : (a == b) = false := by
      cases h : (a == b)
      · rfl
      · rw [eq_of_beq h] at hA; rw [hA] at hB; cases hB
    rw [hne]
    simp only [Bool.false_eq_true, if_false, if_true, Bool.and_false, Bool.or_false, Bool.false_or]
    rw [c3_lt (by split <;> omega)]
    rfl
  · simp [c3]
end Go.Proofs.Ytiblkdedbimggaa.og
namespace Go.Proofs.Ytiblkdedbimggaa.og
open Go.ChangeShapes Go.WideShapes Go.ChangeAt Go.RowKit
open vl hiding cB cFl cS cF cI cK cIt
open stp (c3 c3_lt c3_gt c3_eq cB cB_tri)
set_option linter.unusedVariables false
set_option linter.unusedSimpArgs false
def kdW : Vl → Int
  | .mk kd _ _ _ _ _ _ _ => kdOf kd
def kidsI : Vl → List Vl
  | .mk _ _ _ _ _ _ its _ => its.list
def kidsF : Vl → List (ByteArray × Vl)
  | .mk _ _ _ _ _ _ _ fls => fls.list
/-- how two values of one kind stand to each other -/
def leafV (K : Int) : Vl → Vl → Int
  | .mk _ b n f tx ty its fls, .mk _ b' n' f' tx' ty' its' fls' => if K = 1 then cBo b b' else if K = 2 then c3 n n' else if K = 3 then cFl f f' else if K = 4 then cB tx tx' else if K = 5 then lexG ordV its.list its'.list else if K = 6 then lexG ordM fls.list fls'.list else if K = 7 then thn (cB ty ty') (cB tx tx') else 0
theorem ordV_thn (v u : Vl) : ordV v u = thn (c3 (kdW v) (kdW u)) (leafV (kdW v) v u) := by
  obtain ⟨kd, b, n, f, tx, ty, its, fls⟩ := v
  obtain ⟨kd', b', n', f', tx', ty', its', fls'⟩ := u
  rw [ordV, ordI_lex, ordF_lex]
  rfl
theorem ordM_thn (p q : ByteArray × Vl) : ordM p q = thn (cB p.1 q.1) (ordV p.2 q.2) := rfl
theorem rg_leaf (K : Int) (v u : Vl) (hs : Small v) (hu : Small u) (hI : ∀ x y, x ∈ kidsI v → y ∈ kidsI u → Rg (ordV x y)) (hF : ∀ x y, x ∈ kidsF v → y ∈ kidsF u → Rg (ordM x y)) : Rg (leafV K v u) := by
  obtain ⟨kd, b, n, f, tx, ty, its, fls⟩ := v
  obtain ⟨kd', b', n', f', tx', ty', its', fls'⟩ := u
  unfold Small at hs hu
  simp only [leafV]
  split
  · exact Rg.cBo _ _
  · split
    · exact Rg.c3 _ _
    · split
      · rw [cFl_key _ _ hs.2.2.1 hu.2.2.1]; exact Rg.c3 _ _
      · split
        · exact Rg.cB _ _
        · split
          · exact Rg.lexG _ _ (fun x hx y hy => hI x y hx hy)
          · split
            · exact Rg.lexG _ _ (fun x hx y hy => hF x y hx hy)
            · split
              · exact Rg.thn (Rg.cB _ _) (Rg.cB _ _)
              · exact .inr (.inl rfl)
theorem Rg.ordV : ∀ v : Vl, Small v → ∀ u : Vl, Small u → Rg (og.ordV v u) := by
  refine Vl.all ?_
  intro kd b n f tx ty its fls hI hF hs u hu
  rw [ordV_thn]
  have h1 := hs
  have h2 := hu
  obtain ⟨kd', b', n', f', tx', ty', its', fls'⟩ := u
  unfold Small at h1 h2
  exact Rg.thn (Rg.c3 _ _) (rg_leaf _ _ _ hs hu (fun x y hx hy => hI x hx (h1.2.2.2.1.all x hx) y (h2.2.2.2.1.all y hy)) (fun x y hx hy => Rg.thn (Rg.cB _ _) (hF x hx (h1.2.2.2.2.all x hx) y.2 (h2.2.2.2.2.all y hy))))
theorem Rg.ordM (p q : ByteArray × Vl) (hp : Small p.2) (hq : Small q.2) : Rg (og.ordM p q) := Rg.thn (Rg.cB _ _) (Rg.ordV _ hp _ hq)
theorem rg_leaf' (K : Int) (v u : Vl) (hs : Small v) (hu : Small u) : Rg (leafV K v u) := by
  have h1 := hs
  have h2 := hu
  obtain ⟨kd, b, n, f, tx, ty, its, fls⟩ := v
  obtain ⟨kd', b', n', f', tx', ty', its', fls'⟩ := u
  unfold Small at h1 h2
  exact rg_leaf K _ _ hs hu (fun x y hx hy => Rg.ordV x (h1.2.2.2.1.all x hx) y (h2.2.2.2.1.all y hy)) (fun x y hx hy => Rg.ordM x y (h1.2.2.2.2.all x hx) (h2.2.2.2.2.all y hy))
theorem c3_zero' {x t : Int} (h : c3 x t = 0) : x = t := by
  unfold stp.c3 at h
  split at h
  · omega
  · split at h <;> omega
theorem Tr.ordV : ∀ v : Vl, Small v → ∀ u : Vl, Small u → ∀ w : Vl, Small w → Tr (og.ordV v u) (og.ordV u w) (og.ordV v w) := by
  refine Vl.all ?_
  intro kd b n f tx ty its fls hI hF hs u hu w hw
  rw [ordV_thn _ u, ordV_thn u w, ordV_thn _ w]
  refine Tr.thn' (Rg.c3 _ _) (Rg.c3 _ _) (Rg.c3 _ _) (rg_leaf' _ _ _ hs hu) (rg_leaf' _ _ _ hu hw) (rg_leaf' _ _ _ hs hw) (Tr.c3 _ _ _) (fun e1 e2 => ?_)
  have e1 := c3_zero' e1
  rw [← e1]
  generalize kdW (.mk kd b n f tx ty its fls) = K at *
  clear e1 e2
  obtain ⟨kd', b', n', f', tx', ty', its', fls'⟩ := u
  obtain ⟨kd2, b2, n2, f2, tx2, ty2, its2, fls2⟩ := w
  unfold Small at hs hu hw
  simp only [leafV]
  split
  · exact Tr.cBo _ _ _
  · split
    · exact Tr.c3 _ _ _
    · split
      · rw [cFl_key _ _ hs.2.2.1 hu.2.2.1, cFl_key _ _ hu.2.2.1 hw.2.2.1, cFl_key _ _ hs.2.2.1 hw.2.2.1]; exact Tr.c3 _ _ _
      · split
        · exact Tr.cB _ _ _
        · split
          · exact Tr.lexG _ _ _ (fun x y hx hy => Rg.ordV x (hx.elim (hs.2.2.2.1.all x) (hu.2.2.2.1.all x)) y (hy.elim (hu.2.2.2.1.all y) (hw.2.2.2.1.all y))) (fun x hx y hy z hz => hI x hx (hs.2.2.2.1.all x hx) y (hu.2.2.2.1.all y hy) z (hw.2.2.2.1.all z hz))
          · split
            · refine Tr.lexG _ _ _ (fun x y hx hy => Rg.ordM x y (hx.elim (hs.2.2.2.2.all x) (hu.2.2.2.2.all x)) (hy.elim (hu.2.2.2.2.all y) (hw.2.2.2.2.all y))) (fun x hx y hy z hz => ?_)
              exact Tr.thn (Rg.cB _ _) (Rg.cB _ _) (Rg.cB _ _) (Tr.cB _ _ _) (hF x hx (hs.2.2.2.2.all x hx) y.2 (hu.2.2.2.2.all y hy) z.2 (hw.2.2.2.2.all z hz))
            · split
              · exact Tr.thn (Rg.cB _ _) (Rg.cB _ _) (Rg.cB _ _) (Tr.cB _ _ _) (Tr.cB _ _ _)
              · simp [Tr]
theorem Tr.ordM (p q r : ByteArray × Vl) (hp : Small p.2) (hq : Small q.2) (hr : Small r.2) : Tr (og.ordM p q) (og.ordM q r) (og.ordM p r) :=
  Tr.thn (Rg.cB _ _) (Rg.cB _ _) (Rg.cB _ _) (Tr.cB _ _ _) (Tr.ordV _ hp _ hq _ hr)
/-- the other way about -/
theorem ordV_anti (v u : Vl) (hv : Small v) (hu : Small u) : ordV u v = - ordV v u := by
  have h := Tr.ordV v hv u hu v hv
  rw [ordV_self] at h
  have r1 := Rg.ordV v hv u hu
  have r2 := Rg.ordV u hu v hv
  unfold Tr at h
  unfold Rg at r1 r2
  omega
end Go.Proofs.Ytiblkdedbimggaa.og
namespace Go.Proofs.Ytiblkdedbimggaa.og
open Go.ChangeShapes Go.WideShapes Go.ChangeAt Go.RowKit
open vl hiding cB cFl cS cF cI cK cIt
set_option linter.unusedVariables false
set_option linter.unusedSimpArgs false
mutual
/-- these eight cells are the value v, and none of its lists lies in a block of Q -/
def AvC (Q : Nat → Prop) (w : World) : Vl → List Value → Prop
  | .mk kd b n f tx ty its fls, cs => ∃ (ai : Option Addr) (ni ci : Nat) (af : Option Addr) (nf cf : Nat), cs = [.int .i64 kd, .bool b, .int .i64 n, .float .f64 f, .string tx, .string ty, .slice ai ni ci, .slice af nf cf] ∧
      AvI Q w its ai ni ∧ AvF Q w fls af nf ∧ ni ≤ ci ∧ nf ≤ cf ∧ (ai = none → ci = 0) ∧ (af = none → cf = 0) ∧ (Lit.int .i64 kd).wf = true ∧ (Lit.int .i64 n).wf = true ∧ tx.size ≤ maxLen ∧ ty.size ≤ maxLen ∧ ci ≤ maxLen ∧ cf ≤ maxLen
def AvI (Q : Nat → Prop) (w : World) : Vls → Option Addr → Nat → Prop
  | .nil, _, n => n = 0
  | .cons v r, a, n => ∃ (b off m : Nat) (cs : List Value), a = some ⟨b, off, none⟩ ∧ n = m + 1 ∧ ¬ Q b ∧ Row8 w b off cs ∧ AvC Q w v cs ∧ AvI Q w r (some ⟨b, off + 8, none⟩) m
def AvF (Q : Nat → Prop) (w : World) : Fls → Option Addr → Nat → Prop
  | .nil, _, n => n = 0
  | .cons nm v r, a, n => ∃ (b off m : Nat) (cs : List Value), a = some ⟨b, off, none⟩ ∧ n = m + 1 ∧ ¬ Q b ∧ w.cell? ⟨b, off, none⟩ = some (.string nm) ∧ nm.size ≤ maxLen ∧ Row8 w b (off + 1) cs ∧ AvC Q w v cs ∧ AvF Q w r (some ⟨b, off + 9, none⟩) m
end
mutual
theorem AvC.read {Q : Nat → Prop} {w : World} : ∀ (v : Vl) (cs : List Value), AvC Q w v cs → VlC w v cs
  | .mk kd b n f tx ty its fls, cs, h => by
    unfold AvC at h
    unfold VlC
    obtain ⟨ai, ni, ci, af, nf, cf, rfl, h1, h2, r⟩ := h
    exact ⟨ai, ni, ci, af, nf, cf, rfl, AvI.read its ai ni h1, AvF.read fls af nf h2, r⟩
theorem AvI.read {Q : Nat → Prop} {w : World} : ∀ (l : Vls) (a : Option Addr) (n : Nat), AvI Q w l a n → VlsAt w l a n
  | .nil, a, n, h => by unfold AvI at h; unfold VlsAt; exact h
  | .cons v r, a, n, h => by
    unfold AvI at h
    unfold VlsAt
    obtain ⟨b, off, m, cs, rfl, rfl, _, h1, h2, h3⟩ := h
    exact ⟨b, off, m, cs, rfl, rfl, h1, AvC.read v cs h2, AvI.read r _ m h3⟩
theorem AvF.read {Q : Nat → Prop} {w : World} : ∀ (l : Fls) (a : Option Addr) (n : Nat), AvF Q w l a n → FlsAt w l a n
  | .nil, a, n, h => by unfold AvF at h; unfold FlsAt; exact h
  | .cons nm v r, a, n, h => by
    unfold AvF at h
    unfold FlsAt
    obtain ⟨b, off, m, cs, rfl, rfl, _, h0, hz, h1, h2, h3⟩ := h
    exact ⟨b, off, m, cs, rfl, rfl, h0, hz, h1, AvC.read v cs h2, AvF.read r _ m h3⟩
end
theorem AvC.cells {Q : Nat → Prop} {w : World} {v : Vl} {cs : List Value} (h : AvC Q w v cs) : cs.length = 8 := (AvC.read v cs h).cells
theorem Row8.lt {w : World} {b off : Nat} {cs : List Value} (h : Row8 w b off cs) (h8 : cs.length = 8) : b < w.heap.size := by
  obtain ⟨a, b', c, d, e, f, g, i, rfl⟩ := list_eight h8
  exact World.block_lt_of_cell? w _ (h 0 a rfl)
mutual
/-- what is read so is read so in every world that agrees outside Q' -/
theorem AvC.agree {Q Q' : Nat → Prop} {w W : World} (hq : ∀ b, b < w.heap.size → ¬ Q b → ¬ Q' b) (ha : ∀ b j, b < w.heap.size → ¬ Q b → W.cell? ⟨b, j, none⟩ = w.cell? ⟨b, j, none⟩) : ∀ (v : Vl) (cs : List Value), AvC Q w v cs → AvC Q' W v cs
  | .mk kd b n f tx ty its fls, cs, h => by
    unfold AvC at h ⊢
    obtain ⟨ai, ni, ci, af, nf, cf, rfl, h1, h2, r⟩ := h
    exact ⟨ai, ni, ci, af, nf, cf, rfl, AvI.agree hq ha its ai ni h1, AvF.agree hq ha fls af nf h2, r⟩
theorem AvI.agree {Q Q' : Nat → Prop} {w W : World} (hq : ∀ b, b < w.heap.size → ¬ Q b → ¬ Q' b) (ha : ∀ b j, b < w.heap.size → ¬ Q b → W.cell? ⟨b, j, none⟩ = w.cell? ⟨b, j, none⟩) : ∀ (l : Vls) (a : Option Addr) (n : Nat), AvI Q w l a n → AvI Q' W l a n
  | .nil, a, n, h => by unfold AvI at h ⊢; exact h
  | .cons v r, a, n, h => by
    unfold AvI at h ⊢
    obtain ⟨b, off, m, cs, rfl, rfl, hb, h1, h2, h3⟩ := h
    have hl := Row8.lt h1 h2.cells
    exact ⟨b, off, m, cs, rfl, rfl, hq b hl hb, fun i u hu => (ha b _ hl hb).trans (h1 i u hu), AvC.agree hq ha v cs h2, AvI.agree hq ha r _ m h3⟩
theorem AvF.agree {Q Q' : Nat → Prop} {w W : World} (hq : ∀ b, b < w.heap.size → ¬ Q b → ¬ Q' b) (ha : ∀ b j, b < w.heap.size → ¬ Q b → W.cell? ⟨b, j, none⟩ = w.cell? ⟨b, j, none⟩) : ∀ (l : Fls) (a : Option Addr) (n : Nat), AvF Q w l a n → AvF Q' W l a n
  | .nil, a, n, h => by unfold AvF at h ⊢; exact h
  | .cons nm v r, a, n, h => by
    unfold AvF at h ⊢
    obtain ⟨b, off, m, cs, rfl, rfl, hb, h0, hz, h1, h2, h3⟩ := h
    have hl := Row8.lt h1 h2.cells
    exact ⟨b, off, m, cs, rfl, rfl, hq b hl hb, (ha b _ hl hb).trans h0, hz, fun i u hu => (ha b _ hl hb).trans (h1 i u hu), AvC.agree hq ha v cs h2, AvF.agree hq ha r _ m h3⟩
end
mutual
theorem AvC.of {w : World} : ∀ (v : Vl) (cs : List Value), VlC w v cs → AvC (fun _ => False) w v cs
  | .mk kd b n f tx ty its fls, cs, h => by
    unfold VlC at h
    unfold AvC
    obtain ⟨ai, ni, ci, af, nf, cf, rfl, h1, h2, r⟩ := h
    exact ⟨ai, ni, ci, af, nf, cf, rfl, AvI.of its ai ni h1, AvF.of fls af nf h2, r⟩
theorem AvI.of {w : World} : ∀ (l : Vls) (a : Option Addr) (n : Nat), VlsAt w l a n → AvI (fun _ => False) w l a n
  | .nil, a, n, h => by unfold VlsAt at h; unfold AvI; exact h
  | .cons v r, a, n, h => by
    unfold VlsAt at h
    unfold AvI
    obtain ⟨b, off, m, cs, rfl, rfl, h1, h2, h3⟩ := h
    exact ⟨b, off, m, cs, rfl, rfl, fun h => h, h1, AvC.of v cs h2, AvI.of r _ m h3⟩
theorem AvF.of {w : World} : ∀ (l : Fls) (a : Option Addr) (n : Nat), FlsAt w l a n → AvF (fun _ => False) w l a n
  | .nil, a, n, h => by unfold FlsAt at h; unfold AvF; exact h
  | .cons nm v r, a, n, h => by
    unfold FlsAt at h
    unfold AvF
    obtain ⟨b, off, m, cs, rfl, rfl, h0, hz, h1, h2, h3⟩ := h
    exact ⟨b, off, m, cs, rfl, rfl, fun h => h, h0, hz, h1, AvC.of v cs h2, AvF.of r _ m h3⟩
end
/-- in a later world -/
theorem AvC.below {Q : Nat → Prop} {w W : World} {v : Vl} {cs : List Value} (h : AvC Q w v cs) (hb : Below w.heap.size w W) : AvC Q W v cs := AvC.agree (fun _ _ h => h) (fun b j hl _ => hb.cell (p := ⟨b, j, none⟩) hl) v cs h
/-- a block that was not there yet may be added to Q -/
theorem AvC.add {Q : Nat → Prop} {w : World} {v : Vl} {cs : List Value} {p : Nat} (h : AvC Q w v cs) (hp : w.heap.size ≤ p) : AvC (fun b => Q b ∨ b = p) w v cs := AvC.agree (fun b hl hn e => e.elim hn (fun e => by omega)) (fun _ _ _ _ => rfl) v cs h
theorem AvC.sub {Q Q' : Nat → Prop} {w : World} {v : Vl} {cs : List Value} (h : AvC Q w v cs) (hs : ∀ b, Q' b → Q b) : AvC Q' w v cs := AvC.agree (fun b _ hn e => hn (hs b e)) (fun _ _ _ _ => rfl) v cs h
mutual
theorem OwC.av {Q : Nat → Prop} {w : World} : ∀ (v : Vl) (cs : List Value) (F : List Nat), (∀ b ∈ F, ¬ Q b) → OwC w v cs F → AvC Q w v cs
  | .mk kd b n f tx ty its fls, cs, F, hF, h => by
    unfold OwC at h
    unfold AvC
    obtain ⟨ai, ni, ci, af, nf, cf, Fi, Ff, rfl, h1, h2, r1, r2, r3, r4, r5, r6, r7, r8, r9, r10, rfl⟩ := h
    refine ⟨ai, ni, ci, af, nf, cf, rfl, ?_, ?_, r1, r2, r3, r4, r5, r6, r7, r8, r9, r10⟩
    · rcases h1 with ⟨rfl, rfl, rfl, -⟩ | ⟨p, G, rfl, rfl, h1⟩
      · unfold AvI; rfl
      · exact OwsIn.av its p 0 ni G (fun b hb => hF b (List.mem_append_left _ hb)) h1
    · rcases h2 with ⟨rfl, rfl, rfl, -⟩ | ⟨p, G, rfl, rfl, h2⟩
      · unfold AvF; rfl
      · exact OwfIn.av fls p 0 nf G (fun b hb => hF b (List.mem_append_right _ hb)) h2
theorem OwsIn.av {Q : Nat → Prop} {w : World} : ∀ (l : Vls) (p off n : Nat) (G : List Nat), (∀ b ∈ p :: G, ¬ Q b) → OwsIn w l p off n G → AvI Q w l (some ⟨p, off, none⟩) n
  | .nil, p, off, n, G, hF, h => by unfold OwsIn at h; unfold AvI; exact h.1
  | .cons v r, p, off, n, G, hF, h => by
    unfold OwsIn at h
    unfold AvI
    obtain ⟨m, cs, G1, G2, rfl, h1, h2, h3, rfl⟩ := h
    exact ⟨p, off, m, cs, rfl, rfl, hF p (List.mem_cons_self ..), h1, OwC.av v cs G1 (fun b hb => hF b (List.mem_cons_of_mem _ (List.mem_append_left _ hb))) h2, OwsIn.av r p _ m G2 (fun b hb => hF b (by simp at hb ⊢; rcases hb with h | h <;> simp [h])) h3⟩
theorem OwfIn.av {Q : Nat → Prop} {w : World} : ∀ (l : Fls) (p off n : Nat) (G : List Nat), (∀ b ∈ p :: G, ¬ Q b) → OwfIn w l p off n G → AvF Q w l (some ⟨p, off, none⟩) n
  | .nil, p, off, n, G, hF, h => by unfold OwfIn at h; unfold AvF; exact h.1
  | .cons nm v r, p, off, n, G, hF, h => by
    unfold OwfIn at h
    unfold AvF
    obtain ⟨m, cs, G1, G2, rfl, h0, hz, h1, h2, h3, rfl⟩ := h
    exact ⟨p, off, m, cs, rfl, rfl, hF p (List.mem_cons_self ..), h0, hz, h1, OwC.av v cs G1 (fun b hb => hF b (List.mem_cons_of_mem _ (List.mem_append_left _ hb))) h2, OwfIn.av r p _ m G2 (fun b hb => hF b (by simp at hb ⊢; rcases hb with h | h <;> simp [h])) h3⟩
end
/-- the i-th value of a list -/
theorem AvI.get {Q : Nat → Prop} {w : World} : ∀ (l : Vls) (a : Option Addr) (n : Nat), AvI Q w l a n → ∀ i, i < n → ∃ (b off : Nat) (v : Vl) (cs : List Value), a = some ⟨b, off, none⟩ ∧ l.list[i]? = some v ∧ ¬ Q b ∧ Row8 w b (off + i * 8) cs ∧ AvC Q w v cs
  | .nil, a, n, h, i, hi => by unfold AvI at h; omega
  | .cons v r, a, n, h, i, hi => by
    unfold AvI at h
    obtain ⟨b, off, m, cs, rfl, rfl, hq, h1, h2, h3⟩ := h
    match i with
    | 0 => exact ⟨b, off, v, cs, rfl, rfl, hq, by simpa using h1, h2⟩
    | i + 1 =>
      obtain ⟨b', off', v', cs', e, g, q, r1, r2⟩ := AvI.get r _ m h3 i (by omega)
      simp only [Option.some.injEq, Addr.mk.injEq, and_true] at e
      obtain ⟨rfl, rfl⟩ := e
      exact ⟨b, off, v', cs', rfl, by simpa [Vls.list] using g, hq, by rw [show off + (i + 1) * 8 = off + 8 + i * 8 by omega]; exact r1, r2⟩
theorem AvF.get {Q : Nat → Prop} {w : World} : ∀ (l : Fls) (a : Option Addr) (n : Nat), AvF Q w l a n → ∀ i, i < n → ∃ (b off : Nat) (nm : ByteArray) (v : Vl) (cs : List Value), a = some ⟨b, off, none⟩ ∧ l.list[i]? = some (nm, v) ∧ ¬ Q b ∧ w.cell? ⟨b, off + i * 9, none⟩ = some (.string nm) ∧ nm.size ≤ maxLen ∧ Row8 w b (off + i * 9 + 1) cs ∧ AvC Q w v cs
  | .nil, a, n, h, i, hi => by unfold AvF at h; omega
  | .cons nm v r, a, n, h, i, hi => by
    unfold AvF at h
    obtain ⟨b, off, m, cs, rfl, rfl, hq, h0, hz, h1, h2, h3⟩ := h
    match i with
    | 0 => exact ⟨b, off, nm, v, cs, rfl, rfl, hq, by simpa using h0, hz, by simpa using h1, h2⟩
    | i + 1 =>
      obtain ⟨b', off', nm', v', cs', e, g, q, r0, rz, r1, r2⟩ := AvF.get r _ m h3 i (by omega)
      simp only [Option.some.injEq, Addr.mk.injEq, and_true] at e
      obtain ⟨rfl, rfl⟩ := e
      exact ⟨b, off, nm', v', cs', rfl, by simpa [Fls.list] using g, hq, by rw [show off + (i + 1) * 9 = off + 9 + i * 9 by omega]; exact r0, rz, by rw [show off + (i + 1) * 9 + 1 = off + 9 + i * 9 + 1 by omega]; exact r1, r2⟩
/-- a row of values, told by index -/
def RowI (Q : Nat → Prop) (w : World) (p : Nat) (l : List Vl) : Prop := ∀ i v, l[i]? = some v → ∃ cs, Row8 w p (i * 8) cs ∧ AvC Q w v cs
def RowF (Q : Nat → Prop) (w : World) (p : Nat) (l : List (ByteArray × Vl)) : Prop := ∀ i q, l[i]? = some q → ∃ cs, w.cell? ⟨p, i * 9, none⟩ = some (.string q.1) ∧ q.1.size ≤ maxLen ∧ Row8 w p (i * 9 + 1) cs ∧ AvC Q w q.2 cs
theorem AvI.mk {Q : Nat → Prop} {w : World} {p : Nat} (hp : ¬ Q p) : ∀ (l : List Vl) (off : Nat), (∀ i v, l[i]? = some v → ∃ cs, Row8 w p (off + i * 8) cs ∧ AvC Q w v cs) → AvI Q w (Vls.of l) (some ⟨p, off, none⟩) l.length
  | [], off, h => by simp only [Vls.of]; unfold AvI; rfl
  | v :: r, off, h => by
    simp only [Vls.of]
    unfold AvI
    obtain ⟨cs, h1, h2⟩ := h 0 v rfl
    exact ⟨p, off, r.length, cs, rfl, rfl, hp, by simpa using h1, h2, AvI.mk hp r (off + 8) (fun i u hu => by
      obtain ⟨ds, g1, g2⟩ := h (i + 1) u (by simpa using hu)
      exact ⟨ds, by rw [show off + 8 + i * 8 = off + (i + 1) * 8 by omega]; exact g1, g2⟩)⟩
theorem AvF.mk {Q : Nat → Prop} {w : World} {p : Nat} (hp : ¬ Q p) : ∀ (l : List (ByteArray × Vl)) (off : Nat), (∀ i q, l[i]? = some q → ∃ cs, w.cell? ⟨p, off + i * 9, none⟩ = some (.string q.1) ∧ q.1.size ≤ maxLen ∧ Row8 w p (off + i * 9 + 1) cs ∧ AvC Q w q.2 cs) → AvF Q w (Fls.of l) (some ⟨p, off, none⟩) l.length
  | [], off, h => by simp only [Fls.of]; unfold AvF; rfl
  | v :: r, off, h => by
    simp only [Fls.of]
    unfold AvF
    obtain ⟨cs, h0, hz, h1, h2⟩ := h 0 v rfl
    exact ⟨p, off, r.length, cs, rfl, rfl, hp, by simpa using h0, hz, by simpa using h1, h2, AvF.mk hp r (off + 9) (fun i u hu => by
      obtain ⟨ds, g0, gz, g1, g2⟩ := h (i + 1) u (by simpa using hu)
      exact ⟨ds, by rw [show off + 9 + i * 9 = off + (i + 1) * 9 by omega]; exact g0, gz, by rw [show off + 9 + i * 9 + 1 = off + (i + 1) * 9 + 1 by omega]; exact g1, g2⟩)⟩
end Go.Proofs.Ytiblkdedbimggaa.og
namespace Go.Proofs.Ytiblkdedbimggaa.og
open Go.ChangeShapes Go.WideShapes Go.ChangeAt Go.RowKit
open vl hiding cB cFl cS cF cI cK cIt
set_option linter.unusedVariables false
set_option linter.unusedSimpArgs false
/-- two lists, element by element -/
def Pw {α : Type} (R : α → α → Prop) (l l' : List α) : Prop := l.length = l'.length ∧ ∀ (i : Nat) (x y : α), l[i]? = some x → l'[i]? = some y → R x y
theorem Pw.snoc {α : Type} {R : α → α → Prop} {l l' : List α} {k : Nat} {x y : α} (h : Pw R (l.take k) l') (hx : l[k]? = some x) (hr : R x y) : Pw R (l.take (k + 1)) (l' ++ [y]) := by
  have hk : k < l.length := (List.getElem?_eq_some_iff.1 hx).1
  have hl : l'.length = k := by have := h.1; simp at this; omega
  refine ⟨by simp; omega, fun i a b ha hb => ?_⟩
  by_cases hi : i < k
  · exact h.2 i a b (by rw [List.getElem?_take_of_lt hi]; rw [List.getElem?_take_of_lt (by omega)] at ha; exact ha) (by rw [List.getElem?_append_left (by omega)] at hb; exact hb)
  · have hi2 : i < k + 1 := by have := (List.getElem?_eq_some_iff.1 ha).1; simp at this; omega
    obtain rfl : i = k := by omega
    rw [List.getElem?_take_of_lt (by omega), hx] at ha
    rw [List.getElem?_append_right (by omega), hl] at hb
    simp at ha hb
    rw [← ha, ← hb]
    exact hr
/-- a function from values to values: what it makes of v -/
def FnAt (g : Nat) (R : Vl → Vl → Prop) (v : Vl) : Prop := ∀ (Q : Nat → Prop) (cs : List Value) (w : World), (∀ b, Q b → b < w.heap.size) → AvC Q w v cs → Calls Try.prog g #[.agg cs.toArray] w fun e w' => ∃ (v' : Vl) (ds : List Value), e = .returned (.agg ds.toArray) ∧ R v v' ∧ AvC Q w' v' ds ∧ Gr w w'
theorem gr_lt {w w' : World} (h : Gr w w') {b : Nat} (hb : b < w.heap.size) : b < w'.heap.size := Nat.lt_of_lt_of_le hb h.1.size
set_option maxHeartbeats 6000000 in
set_option maxRecDepth 6000 in
theorem eachV_ok (g : Nat) (en : ∀ args w, (callFunc g args).run Try.prog w = .ok (.enter g args) w) (R : Vl → Vl → Prop) (its : Vls) (ih : ∀ v ∈ its.list, FnAt g R v) (Q : Nat → Prop) (a : Addr) (n c : Nat) (w : World) (hQ : ∀ b, Q b → b < w.heap.size) (hI : AvI Q w its (some a) n) (hn : n ≤ 1256584717458) :
    Calls Try.prog 52 #[.slice (some a) n c, .func (.func g) #[] #[]] w fun e w' => ∃ (l : List Vl), e = .returned (.slice (some ⟨w.heap.size, 0, none⟩) n n) ∧ l.length = n ∧ Pw R its.list l ∧ RowI (fun b => Q b ∨ b = w.heap.size) w' w.heap.size l ∧ w.heap.size < w'.heap.size ∧ w'.there w.heap.size 0 (n * 8) ∧ Gr w w' := by
  have hnil : ∀ (w : World) (a : Option Addr) (n c n' c' : Nat), (binOp .eql 24 (.slice a n c) (.slice none n' c')).run Try.prog w = .ok (.bool a.isNone) w := fun w a n c n' c' => Lib.run_eql_slice_nil w _ _ a n c n' c' Try.underlying24
  have hlen := VlsAt.len its _ _ (AvI.read its _ _ hI)
  obtain ⟨Z, hZ, hmk⟩ := makeV n w hn
  have hL := hide hlen
  have hZ' := hide hZ
  clear hlen hZ
  go_enter Try.func52, Try.ntmps52
  go_wp2_with fail
  clear hmk
  go_loopw [15] (fun vi wr => ∃ (k : Nat) (l : List Vl), k ≤ n ∧ vi = .int .i64 k ∧ l.length = k ∧ vl.Hid (Pw R (its.list.take k) l) ∧ vl.Hid (RowI (fun b => Q b ∨ b = w.heap.size) wr w.heap.size l) ∧ vl.Hid (wr.there w.heap.size 0 (n * 8)) ∧ Gr w wr ∧ w.heap.size < wr.heap.size) (fun vi _ => n - (intOf vi).toNat)
  case atStart => exact ⟨0, [], Nat.zero_le _, rfl, rfl, hide ⟨by simp, fun i x y hx => by simp at hx⟩, hide (fun i v hv => by simp at hv), hide (there_new (unhide hZ')), (Gr.refl _).alloc _, by simp⟩
  case round =>
    obtain ⟨k, l, hk, rfl, hlk, hP, hO, hT, hB, hs⟩ := hrel
    by_cases hlt : k < n
    · obtain ⟨b, off, v, cs, hab, hg, -, hr, hv⟩ := AvI.get its _ n hI k hlt
      obtain rfl : a = ⟨b, off, none⟩ := Option.some.inj hab
      clear hab
      have hcop := hide (ih v (List.mem_of_getElem? hg))
      have hr' : wr.rangeAt b (off + k * 8) cs := Row8.below hr hB.1
      have h8 := hv.cells
      have h1 := (AvC.read v cs hv).one
      have hi8 : (Try.prog.info? 27).map (·.size) = some cs.length := by rw [h8]; exact infoV
      have hi8' : (Try.prog.info? 27).map (·.size) = some cs.toArray.size := by simp [h8, infoV]
      have hz8 : cs.toArray.size = 8 := by simp [h8]
      have ki : (k : Int) < (n : Int) := by omega
      have HH := hide (And.intro hi8 (And.intro hi8' (And.intro hz8 h8)))
      have HLK := hide hlk
      clear hr hi8 hi8' hz8 h8 hlk
      go_wp2_with (first
        | refine wpList_load_mid (by rfl) 27 _ (by rfl) b (off + k * 8) (by rfl) cs _ hr' Try.underlying27 (by rfl) (unhide HH).1 ?_
        | refine wpList_store_mid (by rfl) 27 _ _ (by rfl) wr.heap.size 0 cs.toArray (by rfl) (by rfl) (there_new (by rw [(unhide HH).2.2.1]; rfl)) (unhide HH).2.1 h1 ?_
        | refine wpList_load_mid (by rfl) 27 _ (by rfl) wr.heap.size 0 (by rfl) cs _ (World.rangeAt_setCells_same _ _ _ _ (there_new (by show _ = cs.length; rw [(unhide HH).2.2.2]; rfl))) Try.underlying27 (by rfl) (unhide HH).1 ?_)
      obtain ⟨W2, e2⟩ : ∃ W2, W2 = ((wr.alloc (.cells #[Value.int IntKind.i64 0, Value.bool false, Value.int IntKind.i64 0, Value.float FloatKind.f64 0, Value.string { data := #[] }, Value.string { data := #[] }, Value.slice none 0 0, Value.slice none 0 0] 27)).setCells wr.heap.size 0 cs) := ⟨_, rfl⟩
      have b2 : Gr wr W2 := by rw [e2]; exact ((Gr.refl _).alloc _).setCells (Nat.le_refl _) _ _
      rw [← e2]
      clear e2
      have g2 : Gr w W2 := hB.trans b2
      have hQ2 : ∀ b, (Q b ∨ b = w.heap.size) → b < W2.heap.size := fun b hb => hb.elim (fun h => gr_lt g2 (hQ b h)) (fun h => by rw [h]; exact gr_lt b2 hs)
      have hv2 : AvC (fun b => Q b ∨ b = w.heap.size) W2 v cs := AvC.agree (fun b hl hn e => e.elim hn (fun e => by omega)) (fun b j hl _ => g2.1.cell (p := ⟨b, j, none⟩) hl) v cs hv
      refine ((unhide hcop) _ cs W2 hQ2 hv2).mono ?_
      rintro e w3 ⟨v', ds, rfl, hR, hO3, b3⟩
      have d8 := hO3.cells
      have d1 := (AvC.read v' ds hO3).one
      have b23 : Gr wr w3 := b2.trans b3
      have hT3 : w3.there w.heap.size (k * 8) ds.toArray.size := there_sub (there_below (unhide hT) b23.1 hs) (Nat.zero_le _) (by simp [d8]; omega)
      have hi8 : (Try.prog.info? 27).map (·.size) = some ds.toArray.size := by simp [d8, infoV]
      have D8 := hide d8
      have HI := hide hi8
      have HT := hide hT3
      have HO3 := hide hO3
      clear hO3 hT3 hi8 d8 hcop HH hr' hv2
      go_wp2_with (first
        | refine wpList_store_mid (by rfl) 27 _ _ (by rfl) w.heap.size (k * 8) ds.toArray (by rfl) (by rfl) (unhide HT) (unhide HI) d1 ?_)
      have hrow : Row8 (w3.setCells w.heap.size (k * 8) ds) w.heap.size (k * 8) ds := World.rangeAt_setCells_same w3 _ _ ds (by have := unhide HT; simpa using this)
      have hav : ∀ u us, AvC (fun b => Q b ∨ b = w.heap.size) w3 u us → AvC (fun b => Q b ∨ b = w.heap.size) (w3.setCells w.heap.size (k * 8) ds) u us := fun u us h => AvC.agree (fun _ _ h => h) (fun b j _ hn => World.cell?_setCells_out _ _ _ _ _ (fun e _ => absurd (.inr (show b = w.heap.size from e)) hn)) u us h
      refine ⟨⟨k + 1, l ++ [v'], by omega, by go_num, by simp [unhide HLK], hide (Pw.snoc (unhide hP) hg hR), hide ?_, hide (World.there_setCells (there_below (unhide hT) b23.1 hs) _ _ _), (hB.trans b23).setCells (Nat.le_refl _) _ _, by rw [size_setCells]; exact gr_lt b23 hs⟩, by simp only [intOf]; omega⟩
      intro i u hu
      by_cases hi : i < k
      · rw [List.getElem?_append_left (by rw [unhide HLK]; exact hi)] at hu
        obtain ⟨us, g1, g2⟩ := unhide hO i u hu
        have u8 := g2.cells
        refine ⟨us, fun j x hx => ?_, hav u us (AvC.agree (fun _ _ h => h) (fun b j hl _ => b23.1.cell (p := ⟨b, j, none⟩) hl) u us g2)⟩
        have hj := (List.getElem?_eq_some_iff.1 hx).1
        rw [World.cell?_setCells_out _ _ _ _ _ (fun _ _ => .inl (by show i * 8 + j < k * 8; omega))]
        exact (b23.1.cell (p := ⟨w.heap.size, i * 8 + j, none⟩) hs).trans (g1 j x hx)
      · have hi2 := (List.getElem?_eq_some_iff.1 hu).1
        simp [unhide HLK] at hi2
        obtain rfl : i = k := by omega
        rw [List.getElem?_append_right (by rw [unhide HLK]; omega), unhide HLK] at hu
        simp at hu
        subst hu
        exact ⟨ds, hrow, hav _ ds (unhide HO3)⟩
    · obtain rfl : k = n := by omega
      go_wp2
      go_ret
      refine ⟨l, rfl, hlk, ?_, unhide hO, hs, unhide hT, hB⟩
      have := unhide hP
      rwa [List.take_of_length_le (Nat.le_of_eq (unhide hL))] at this
end Go.Proofs.Ytiblkdedbimggaa.og
