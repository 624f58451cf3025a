import Derived.Test.YtjlafneklcfgoabVlE
import Derived.Test.YtjlafneklcfgoabRgn
namespace Go.Proofs.Ytjlafneklcfgoab.vl
open Go.ChangeShapes Go.WideShapes Go.ChangeAt Go.RowKit
set_option linter.unusedVariables false
set_option linter.unusedSimpArgs false
theorem keepC {w w' : World} {b o : Nat} {u : Value} (h : Below w.heap.size w w') (hl : b < w.heap.size) (hc : w.cell? ⟨b, o, none⟩ = some u) : w'.cell? ⟨b, o, none⟩ = some u := (h.cell (p := ⟨b, o, none⟩) hl).trans hc
theorem mixed : Try.prog.follows .mixedOrders = true := by kernel_rfl
theorem one9 {w : World} {v : Vl} {cs : List Value} (nm : ByteArray) (h : VlC w v cs) : (Value.string nm :: cs).toArray.all (·.oneCell') = true := by
  cases v
  unfold VlC at h
  obtain ⟨_, _, _, _, _, _, rfl, _⟩ := h
  simp [Value.oneCell']
set_option maxHeartbeats 6000000 in
set_option maxRecDepth 6000 in
theorem copyM_ok (nm : ByteArray) (v : Vl) (hc : CopyAt v) (cs : List Value) (w : World) (hv : VlC w v cs) : Calls Try.prog 60 #[.agg (Value.string nm :: cs).toArray] w fun e w' => ∃ (ds : List Value) (F : List Nat), e = .returned (.agg (Value.string nm :: ds).toArray) ∧ OwC w' v ds F ∧ F.Nodup ∧ (∀ b ∈ F, w.heap.size ≤ b ∧ b < w'.heap.size) ∧ Below w.heap.size w w' ∧ Fz w' F := by
  have H := hide (hc cs)
  have hv' := hide hv
  have h8 := hv.cells
  have h1 := one9 nm hv
  have i9 : (Try.prog.info? 68).map (·.size) = some (Value.string nm :: cs).toArray.size := by simp [h8, infoM]
  have HH := hide (And.intro h8 i9)
  clear hc h8 i9 hv
  go_enter Try.func60, Try.ntmps60
  go_wp2_with (first
    | refine wpList_store_mid (by rfl) 68 _ _ (by rfl) w.heap.size 0 (Value.string nm :: cs).toArray (by rfl) (by rfl) (there_new (by simp [(unhide HH).1])) (unhide HH).2 h1 ?_)
  obtain ⟨W, eW⟩ : ∃ W, W = ((w.alloc (.cells (Value.string nm :: cs).toArray 68)).alloc (.cells #[.string { data := #[] }, .int .i64 0, .bool false, .int .i64 0, .float .f64 0, .string { data := #[] }, .string { data := #[] }, .slice none 0 0, .slice none 0 0] 68)) := ⟨_, rfl⟩
  have bW : Below w.heap.size w W := by rw [eW]; exact ((Below.refl _ _).alloc (Nat.le_refl _) _).alloc (by simp) _
  have hsz : W.heap.size = w.heap.size + 2 := by rw [eW]; simp
  have hcell : ∀ j u, (Value.string nm :: cs)[j]? = some u → W.cell? ⟨w.heap.size, j, none⟩ = some u := fun j u hu => by
    rw [eW, World.cell?_alloc_past _ _ _ (by simp), World.cell?_alloc_at _ _ _ _ rfl]; simpa using hu
  have x0 := hcell 0 _ rfl
  have hrow : W.rangeAt w.heap.size 1 cs := fun j u hu => by
    rw [Nat.add_comm]; exact hcell (j + 1) u (by simpa using hu)
  have hth : W.there (w.heap.size + 1) 0 9 := by
    rw [eW]
    have h := there_new (w := w.alloc (.cells (Value.string nm :: cs).toArray 68)) (Z := #[.string { data := #[] }, .int .i64 0, .bool false, .int .i64 0, .float .f64 0, .string { data := #[] }, .string { data := #[] }, .slice none 0 0, .slice none 0 0]) (t := 68) (n := 9) rfl
    simpa using h
  rw [← eW]
  clear eW hcell
  have hS0 : Below (w.heap.size + 1) W { W with drawn := W.drawn + 1 } := (Below.refl _ _).drew
  have hi8 : (Try.prog.info? 27).map (·.size) = some cs.length := by rw [(unhide HH).1]; exact infoV
  refine wp_region_noPanic ?_
  refine wp_region_held (S := fun w' => Below (w.heap.size + 1) W w') mixed ?_
  refine rgn.take (i := 0) _ (.pointer (some ⟨w.heap.size, 0, none⟩)) rfl (by kernel_rfl) (by kernel_rfl) (by kernel_rfl) (fun _ _ _ h => h) (by rfl) hS0 (fun w' hw' => by go_simp) ?_
  simp only [List.getElem_toArray, List.getElem_cons_zero, List.getElem_cons_succ, Act.put, List.setIfInBounds_toArray, List.set_cons_zero, List.set_cons_succ]
  refine rgn.take (i := 1) _ (.string nm) rfl (by kernel_rfl) (by kernel_rfl) (by kernel_rfl) (fun _ _ _ h => h) (by rfl) hS0 (fun w' hw' => by
    have y0 : w'.cell? ⟨w.heap.size, 0, none⟩ = some (.string nm) := (hw'.cell (p := ⟨w.heap.size, 0, none⟩) (Nat.lt_succ_self _)).trans x0
    clear x0
    go_simp) ?_
  simp only [List.getElem_toArray, List.getElem_cons_zero, List.getElem_cons_succ, Act.put, List.setIfInBounds_toArray, List.set_cons_zero, List.set_cons_succ]
  refine rgn.take (i := 2) _ (.pointer (some ⟨w.heap.size, 1, none⟩)) rfl (by kernel_rfl) (by kernel_rfl) (by kernel_rfl) (fun _ _ _ h => h) (by rfl) hS0 (fun w' hw' => by go_simp) ?_
  simp only [List.getElem_toArray, List.getElem_cons_zero, List.getElem_cons_succ, Act.put, List.setIfInBounds_toArray, List.set_cons_zero, List.set_cons_succ]
  refine wpAnyH_take (i := 3) rfl (by kernel_rfl) (by kernel_rfl) (by kernel_rfl) (fun _ _ _ h => h) (yieldsIf_load_mid (by rfl) 27 _ (by rfl) w.heap.size 1 (by rfl) cs _ (fun w' hw' j u hu => (hw'.cell (p := ⟨w.heap.size, 1 + j, none⟩) (Nat.lt_succ_self _)).trans (hrow j u hu)) Try.underlying27 (by rfl) hi8) hS0 ?_
  simp only [List.getElem_toArray, List.getElem_cons_zero, List.getElem_cons_succ, Act.put, List.setIfInBounds_toArray, List.set_cons_zero, List.set_cons_succ]
  refine rgn.one (i := 4) _ rfl (by kernel_rfl) (by rfl) ?_
  simp only [List.getElem_toArray, List.getElem_cons_zero, List.getElem_cons_succ, Act.put, List.setIfInBounds_toArray, List.set_cons_zero, List.set_cons_succ]
  go_wp2_with fail
  refine ((unhide H) _ (VlC.below bW.drew _ _ (unhide hv'))).mono ?_
  rintro e w3 ⟨ds, F, rfl, hO3, hnd3, hF3, b3, z3⟩
  have b4 : Below W.heap.size W w3 := (Below.refl _ _).drew.trans b3
  have hS3 : Below (w.heap.size + 1) W w3 := b4.mono (by omega)
  have d8 := (OwC.read v ds F hO3).cells
  have d1 := one9 nm (OwC.read v ds F hO3)
  have hT3 : w3.there (w.heap.size + 1) 0 (Value.string nm :: ds).toArray.size := by
    have := there_below hth b4 (by omega)
    simpa [d8] using this
  have i9 : (Try.prog.info? 68).map (·.size) = some (Value.string nm :: ds).toArray.size := by simp [d8, infoM]
  refine ⟨hS3, ?_⟩
  refine rgn.take (i := 5) _ (.agg (Value.string nm :: ds).toArray) rfl (by kernel_rfl) (by kernel_rfl) (by kernel_rfl) (fun _ _ _ h => h) (by rfl) hS3 (fun w' hw' => by
    have hO4 := hO3
    clear hO3 d8 d1 hT3 i9
    obtain ⟨kd, bb, ni, f, tx, ty, its, fls⟩ := v
    unfold OwC at hO4
    obtain ⟨ai, nI, ci, af, nf, cf, Fi, Ff, rfl, -⟩ := hO4
    go_simp) ?_
  simp only [List.getElem_toArray, List.getElem_cons_zero, List.getElem_cons_succ, Act.put, List.setIfInBounds_toArray, List.set_cons_zero, List.set_cons_succ]
  refine rgn.one (i := 6) _ rfl (by kernel_rfl) (by rfl) ?_
  simp only [List.getElem_toArray, List.getElem_cons_zero, List.getElem_cons_succ, Act.put, List.setIfInBounds_toArray, List.set_cons_zero, List.set_cons_succ]
  refine wp_store_mid 68 _ _ (by rfl) (w.heap.size + 1) 0 (Value.string nm :: ds).toArray (by rfl) (by rfl) hT3 i9 d1 ?_
  refine ⟨below_setCells _ _ _ _ hS3 (Nat.le_refl _), ?_⟩
  refine wpAnyH_done (by kernel_rfl) ?_ _
  simp only [List.getElem_toArray, List.getElem_cons_zero, List.getElem_cons_succ, Act.put, List.setIfInBounds_toArray, List.set_cons_zero, List.set_cons_succ]
  refine NoPanic.normal ?_
  obtain ⟨W4, e4⟩ : ∃ W4, W4 = w3.setCells (w.heap.size + 1) 0 (Value.string nm :: ds) := ⟨_, rfl⟩
  rw [← e4]
  go_wp2_with fail
  have bW4 : Below (w.heap.size + 1) W W4 := by rw [e4]; exact below_setCells _ _ _ _ hS3 (Nat.le_refl _)
  have hr4 : W4.rangeAt (w.heap.size + 1) 0 (Value.string nm :: ds) := by rw [e4]; exact World.rangeAt_setCells_same _ _ _ _ (by simpa using hT3)
  have hs4 : W4.heap.size = w3.heap.size := by rw [e4]; exact size_setCells _ _ _ _
  have hnF : w.heap.size + 1 ∉ F := fun h => by have := (hF3 _ h).1; simp at this; omega
  have hO4 : OwC W4 v ds F := by rw [e4]; exact OwC.agree v ds F (agree_setCells w3 hnF) hO3
  refine bodyPost_ret (rgn.result_row rfl _ _ (w.heap.size + 1) 0 (Value.string nm :: ds) _ rfl hr4 Try.underlying68 rfl (by simpa using i9)) rfl ?_
  refine ⟨ds, F, rfl, hO4, hnd3, fun b hb => ?_, ?_, by rw [e4]; exact z3.setCells _ _ _⟩
  · have := hF3 b hb
    simp at this
    omega
  · exact bW.trans (bW4.mono (Nat.le_succ _))
end Go.Proofs.Ytjlafneklcfgoab.vl
