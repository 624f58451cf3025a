import Derived.Test.YtejjnhcmpiamiaaGreatSti6
import Derived.Test.YtejjnhcmpiamiaaGreatSti3
import Derived.Lib.SlBytesConst
import Derived.Test.YtejjnhcmpiamiaaGreatSti10
namespace Go.Proofs.YtejjnhcmpiamiaaGreat.cu
open Go.ChangeShapes Go.WideShapes Go.ChangeAt Go.RowKit
open ints (hide unhide)
open dt (Dt Kp RowAt Ow Grow)
set_option linter.unusedVariables false
set_option linter.unusedSimpArgs false
theorem pos_one (w : World) (b b' : Nat) (x y : Int) (h0 : w.cell? ⟨b, 0, none⟩ = some (.int .i64 x)) (h1 : w.cell? ⟨b, 1, none⟩ = some (.int .i64 y)) (g0 : w.cell? ⟨b', 0, none⟩ = some (.int .i64 x)) (g1 : w.cell? ⟨b', 1, none⟩ = some (.int .i64 y)) (hb : b < w.heap.size) (hb' : b' < w.heap.size) : Calls Tryz.prog 36 #[.slice (some ⟨b, 0, none⟩) 1 1, .slice (some ⟨b', 0, none⟩) 1 1] w fun e w' => e = .returned (.int .i64 0) ∧ Below w.heap.size w w' := by
  have hx : ¬ x < x := by omega
  have hy : ¬ y < y := by omega
  go_enter Tryz.func36, Tryz.ntmps36
  go_wp2_with fail
  have hS0 : Below w.heap.size w { w with drawn := w.drawn + 1 } := (Below.refl _ _).drew
  refine wp_loop_rounds 2 ?_
  rw [rounds_succ]
  go_wp2_with fail
  refine wp_region_noPanic ?_
  refine wp_region_held (S := fun w' => Below w.heap.size w w') mixed ?_
  refine wpAnyH_take (i := 0) (v := ?v1) rfl (by kernel_rfl) (by kernel_rfl) (by kernel_rfl) (fun _ _ _ h => h) (Or.inl ⟨by rfl, ?hy1⟩) hS0 ?_
  case hy1 => (intro w' hw'; skip; go_simp; try with_reducible rfl)
  simp only [List.getElem_toArray, List.getElem_cons_zero, List.getElem_cons_succ, Act.put, List.setIfInBounds_toArray, List.set_cons_zero, List.set_cons_succ]
  refine wpAnyH_take (i := 1) (v := ?v2) rfl (by kernel_rfl) (by kernel_rfl) (by kernel_rfl) (fun _ _ _ h => h) (Or.inl ⟨by rfl, ?hy2⟩) hS0 ?_
  case hy2 => (intro w' hw'; skip; go_simp; try with_reducible rfl)
  simp only [List.getElem_toArray, List.getElem_cons_zero, List.getElem_cons_succ, Act.put, List.setIfInBounds_toArray, List.set_cons_zero, List.set_cons_succ]
  refine wpAnyH_take (i := 2) (v := ?v3) rfl (by kernel_rfl) (by kernel_rfl) (by kernel_rfl) (fun _ _ _ h => h) (Or.inl ⟨by rfl, ?hy3⟩) hS0 ?_
  case hy3 => (intro w' hw'; skip; go_simp; try with_reducible rfl)
  simp only [List.getElem_toArray, List.getElem_cons_zero, List.getElem_cons_succ, Act.put, List.setIfInBounds_toArray, List.set_cons_zero, List.set_cons_succ]
  refine wpAnyH_take (i := 3) (v := ?v4) rfl (by kernel_rfl) (by kernel_rfl) (by kernel_rfl) (fun _ _ _ h => h) (Or.inl ⟨by rfl, ?hy4⟩) hS0 ?_
  case hy4 => (intro w' hw'; skip; go_simp; try with_reducible rfl)
  simp only [List.getElem_toArray, List.getElem_cons_zero, List.getElem_cons_succ, Act.put, List.setIfInBounds_toArray, List.set_cons_zero, List.set_cons_succ]
  refine wpAnyH_take (i := 4) (v := ?v5) rfl (by kernel_rfl) (by kernel_rfl) (by kernel_rfl) (fun _ _ _ h => h) (Or.inl ⟨by rfl, ?hy5⟩) hS0 ?_
  case hy5 => (intro w' hw'; have h0' := (hw'.cell (p := ⟨b, 0, none⟩) hb).trans h0; go_simp; try with_reducible rfl)
  simp only [List.getElem_toArray, List.getElem_cons_zero, List.getElem_cons_succ, Act.put, List.setIfInBounds_toArray, List.set_cons_zero, List.set_cons_succ]
  refine wpAnyH_take (i := 5) (v := ?v6) rfl (by kernel_rfl) (by kernel_rfl) (by kernel_rfl) (fun _ _ _ h => h) (Or.inl ⟨by rfl, ?hy6⟩) hS0 ?_
  case hy6 => (intro w' hw'; skip; go_simp; try with_reducible rfl)
  simp only [List.getElem_toArray, List.getElem_cons_zero, List.getElem_cons_succ, Act.put, List.setIfInBounds_toArray, List.set_cons_zero, List.set_cons_succ]
  refine wpAnyH_take (i := 6) (v := ?v7) rfl (by kernel_rfl) (by kernel_rfl) (by kernel_rfl) (fun _ _ _ h => h) (Or.inl ⟨by rfl, ?hy7⟩) hS0 ?_
  case hy7 => (intro w' hw'; skip; go_simp; try with_reducible rfl)
  simp only [List.getElem_toArray, List.getElem_cons_zero, List.getElem_cons_succ, Act.put, List.setIfInBounds_toArray, List.set_cons_zero, List.set_cons_succ]
  refine wpAnyH_take (i := 7) (v := ?v8) rfl (by kernel_rfl) (by kernel_rfl) (by kernel_rfl) (fun _ _ _ h => h) (Or.inl ⟨by rfl, ?hy8⟩) hS0 ?_
  case hy8 => (intro w' hw'; skip; go_simp; try with_reducible rfl)
  simp only [List.getElem_toArray, List.getElem_cons_zero, List.getElem_cons_succ, Act.put, List.setIfInBounds_toArray, List.set_cons_zero, List.set_cons_succ]
  refine wpAnyH_take (i := 8) (v := ?v9) rfl (by kernel_rfl) (by kernel_rfl) (by kernel_rfl) (fun _ _ _ h => h) (Or.inl ⟨by rfl, ?hy9⟩) hS0 ?_
  case hy9 => (intro w' hw'; skip; go_simp; try with_reducible rfl)
  simp only [List.getElem_toArray, List.getElem_cons_zero, List.getElem_cons_succ, Act.put, List.setIfInBounds_toArray, List.set_cons_zero, List.set_cons_succ]
  refine wpAnyH_take (i := 9) (v := ?v10) rfl (by kernel_rfl) (by kernel_rfl) (by kernel_rfl) (fun _ _ _ h => h) (Or.inl ⟨by rfl, ?hy10⟩) hS0 ?_
  case hy10 => (intro w' hw'; have g0' := (hw'.cell (p := ⟨b', 0, none⟩) hb').trans g0; go_simp; try with_reducible rfl)
  simp only [List.getElem_toArray, List.getElem_cons_zero, List.getElem_cons_succ, Act.put, List.setIfInBounds_toArray, List.set_cons_zero, List.set_cons_succ]
  refine wpAnyH_take (i := 10) (v := ?v11) rfl (by kernel_rfl) (by kernel_rfl) (by kernel_rfl) (fun _ _ _ h => h) (Or.inl ⟨by rfl, ?hy11⟩) hS0 ?_
  case hy11 => (intro w' hw'; skip; go_simp; try with_reducible rfl)
  simp only [List.getElem_toArray, List.getElem_cons_zero, List.getElem_cons_succ, Act.put, List.setIfInBounds_toArray, List.set_cons_zero, List.set_cons_succ]
  refine wpAnyH_take (i := 11) (v := ?v12) rfl (by kernel_rfl) (by kernel_rfl) (by kernel_rfl) (fun _ _ _ h => h) (Or.inl ⟨by rfl, ?hy12⟩) hS0 ?_
  case hy12 => (intro w' hw'; skip; go_simp; try with_reducible rfl)
  simp only [List.getElem_toArray, List.getElem_cons_zero, List.getElem_cons_succ, Act.put, List.setIfInBounds_toArray, List.set_cons_zero, List.set_cons_succ]
  refine wpAnyH_done (by kernel_rfl) ?_ _; refine NoPanic.normal ?_
  have hS1 : Below w.heap.size w { w with drawn := w.drawn + 1 + 1 } := hS0.drew
  clear hS0
  have hS0 := hS1
  clear hS1
  go_wp2_with fail
  refine wp_region_noPanic ?_
  refine wp_region_held (S := fun w' => Below w.heap.size w w') mixed ?_
  refine wpAnyH_take (i := 0) (v := ?v13) rfl (by kernel_rfl) (by kernel_rfl) (by kernel_rfl) (fun _ _ _ h => h) (Or.inl ⟨by rfl, ?hy13⟩) hS0 ?_
  case hy13 => (intro w' hw'; skip; go_simp; try with_reducible rfl)
  simp only [List.getElem_toArray, List.getElem_cons_zero, List.getElem_cons_succ, Act.put, List.setIfInBounds_toArray, List.set_cons_zero, List.set_cons_succ]
  refine wpAnyH_take (i := 1) (v := ?v14) rfl (by kernel_rfl) (by kernel_rfl) (by kernel_rfl) (fun _ _ _ h => h) (Or.inl ⟨by rfl, ?hy14⟩) hS0 ?_
  case hy14 => (intro w' hw'; skip; go_simp; try with_reducible rfl)
  simp only [List.getElem_toArray, List.getElem_cons_zero, List.getElem_cons_succ, Act.put, List.setIfInBounds_toArray, List.set_cons_zero, List.set_cons_succ]
  refine wpAnyH_take (i := 2) (v := ?v15) rfl (by kernel_rfl) (by kernel_rfl) (by kernel_rfl) (fun _ _ _ h => h) (Or.inl ⟨by rfl, ?hy15⟩) hS0 ?_
  case hy15 => (intro w' hw'; skip; go_simp; try with_reducible rfl)
  simp only [List.getElem_toArray, List.getElem_cons_zero, List.getElem_cons_succ, Act.put, List.setIfInBounds_toArray, List.set_cons_zero, List.set_cons_succ]
  refine wpAnyH_take (i := 3) (v := ?v16) rfl (by kernel_rfl) (by kernel_rfl) (by kernel_rfl) (fun _ _ _ h => h) (Or.inl ⟨by rfl, ?hy16⟩) hS0 ?_
  case hy16 => (intro w' hw'; skip; go_simp; try with_reducible rfl)
  simp only [List.getElem_toArray, List.getElem_cons_zero, List.getElem_cons_succ, Act.put, List.setIfInBounds_toArray, List.set_cons_zero, List.set_cons_succ]
  refine wpAnyH_take (i := 4) (v := ?v17) rfl (by kernel_rfl) (by kernel_rfl) (by kernel_rfl) (fun _ _ _ h => h) (Or.inl ⟨by rfl, ?hy17⟩) hS0 ?_
  case hy17 => (intro w' hw'; have h0' := (hw'.cell (p := ⟨b, 0, none⟩) hb).trans h0; go_simp; try with_reducible rfl)
  simp only [List.getElem_toArray, List.getElem_cons_zero, List.getElem_cons_succ, Act.put, List.setIfInBounds_toArray, List.set_cons_zero, List.set_cons_succ]
  refine wpAnyH_take (i := 5) (v := ?v18) rfl (by kernel_rfl) (by kernel_rfl) (by kernel_rfl) (fun _ _ _ h => h) (Or.inl ⟨by rfl, ?hy18⟩) hS0 ?_
  case hy18 => (intro w' hw'; skip; go_simp; try with_reducible rfl)
  simp only [List.getElem_toArray, List.getElem_cons_zero, List.getElem_cons_succ, Act.put, List.setIfInBounds_toArray, List.set_cons_zero, List.set_cons_succ]
  refine wpAnyH_take (i := 6) (v := ?v19) rfl (by kernel_rfl) (by kernel_rfl) (by kernel_rfl) (fun _ _ _ h => h) (Or.inl ⟨by rfl, ?hy19⟩) hS0 ?_
  case hy19 => (intro w' hw'; skip; go_simp; try with_reducible rfl)
  simp only [List.getElem_toArray, List.getElem_cons_zero, List.getElem_cons_succ, Act.put, List.setIfInBounds_toArray, List.set_cons_zero, List.set_cons_succ]
  refine wpAnyH_take (i := 7) (v := ?v20) rfl (by kernel_rfl) (by kernel_rfl) (by kernel_rfl) (fun _ _ _ h => h) (Or.inl ⟨by rfl, ?hy20⟩) hS0 ?_
  case hy20 => (intro w' hw'; skip; go_simp; try with_reducible rfl)
  simp only [List.getElem_toArray, List.getElem_cons_zero, List.getElem_cons_succ, Act.put, List.setIfInBounds_toArray, List.set_cons_zero, List.set_cons_succ]
  refine wpAnyH_take (i := 8) (v := ?v21) rfl (by kernel_rfl) (by kernel_rfl) (by kernel_rfl) (fun _ _ _ h => h) (Or.inl ⟨by rfl, ?hy21⟩) hS0 ?_
  case hy21 => (intro w' hw'; skip; go_simp; try with_reducible rfl)
  simp only [List.getElem_toArray, List.getElem_cons_zero, List.getElem_cons_succ, Act.put, List.setIfInBounds_toArray, List.set_cons_zero, List.set_cons_succ]
  refine wpAnyH_take (i := 9) (v := ?v22) rfl (by kernel_rfl) (by kernel_rfl) (by kernel_rfl) (fun _ _ _ h => h) (Or.inl ⟨by rfl, ?hy22⟩) hS0 ?_
  case hy22 => (intro w' hw'; have g0' := (hw'.cell (p := ⟨b', 0, none⟩) hb').trans g0; go_simp; try with_reducible rfl)
  simp only [List.getElem_toArray, List.getElem_cons_zero, List.getElem_cons_succ, Act.put, List.setIfInBounds_toArray, List.set_cons_zero, List.set_cons_succ]
  refine wpAnyH_take (i := 10) (v := ?v23) rfl (by kernel_rfl) (by kernel_rfl) (by kernel_rfl) (fun _ _ _ h => h) (Or.inl ⟨by rfl, ?hy23⟩) hS0 ?_
  case hy23 => (intro w' hw'; skip; go_simp; try with_reducible rfl)
  simp only [List.getElem_toArray, List.getElem_cons_zero, List.getElem_cons_succ, Act.put, List.setIfInBounds_toArray, List.set_cons_zero, List.set_cons_succ]
  refine wpAnyH_take (i := 11) (v := ?v24) rfl (by kernel_rfl) (by kernel_rfl) (by kernel_rfl) (fun _ _ _ h => h) (Or.inl ⟨by rfl, ?hy24⟩) hS0 ?_
  case hy24 => (intro w' hw'; skip; go_simp; try with_reducible rfl)
  simp only [List.getElem_toArray, List.getElem_cons_zero, List.getElem_cons_succ, Act.put, List.setIfInBounds_toArray, List.set_cons_zero, List.set_cons_succ]
  refine wpAnyH_done (by kernel_rfl) ?_ _; refine NoPanic.normal ?_
  have hS1 : Below w.heap.size w { w with drawn := w.drawn + 1 + 1 + 1 } := hS0.drew
  clear hS0
  have hS0 := hS1
  clear hS1
  go_wp2_with fail
  refine wp_region_noPanic ?_
  refine wp_region_held (S := fun w' => Below w.heap.size w w') mixed ?_
  refine wpAnyH_take (i := 0) (v := ?v25) rfl (by kernel_rfl) (by kernel_rfl) (by kernel_rfl) (fun _ _ _ h => h) (Or.inl ⟨by rfl, ?hy25⟩) hS0 ?_
  case hy25 => (intro w' hw'; skip; go_simp; try with_reducible rfl)
  simp only [List.getElem_toArray, List.getElem_cons_zero, List.getElem_cons_succ, Act.put, List.setIfInBounds_toArray, List.set_cons_zero, List.set_cons_succ]
  refine wpAnyH_take (i := 1) (v := ?v26) rfl (by kernel_rfl) (by kernel_rfl) (by kernel_rfl) (fun _ _ _ h => h) (Or.inl ⟨by rfl, ?hy26⟩) hS0 ?_
  case hy26 => (intro w' hw'; skip; go_simp; try with_reducible rfl)
  simp only [List.getElem_toArray, List.getElem_cons_zero, List.getElem_cons_succ, Act.put, List.setIfInBounds_toArray, List.set_cons_zero, List.set_cons_succ]
  refine wpAnyH_take (i := 2) (v := ?v27) rfl (by kernel_rfl) (by kernel_rfl) (by kernel_rfl) (fun _ _ _ h => h) (Or.inl ⟨by rfl, ?hy27⟩) hS0 ?_
  case hy27 => (intro w' hw'; skip; go_simp; try with_reducible rfl)
  simp only [List.getElem_toArray, List.getElem_cons_zero, List.getElem_cons_succ, Act.put, List.setIfInBounds_toArray, List.set_cons_zero, List.set_cons_succ]
  refine wpAnyH_take (i := 3) (v := ?v28) rfl (by kernel_rfl) (by kernel_rfl) (by kernel_rfl) (fun _ _ _ h => h) (Or.inl ⟨by rfl, ?hy28⟩) hS0 ?_
  case hy28 => (intro w' hw'; skip; go_simp; try with_reducible rfl)
  simp only [List.getElem_toArray, List.getElem_cons_zero, List.getElem_cons_succ, Act.put, List.setIfInBounds_toArray, List.set_cons_zero, List.set_cons_succ]
  refine wpAnyH_take (i := 4) (v := ?v29) rfl (by kernel_rfl) (by kernel_rfl) (by kernel_rfl) (fun _ _ _ h => h) (Or.inl ⟨by rfl, ?hy29⟩) hS0 ?_
  case hy29 => (intro w' hw'; have h1' := (hw'.cell (p := ⟨b, 1, none⟩) hb).trans h1; go_simp; try with_reducible rfl)
  simp only [List.getElem_toArray, List.getElem_cons_zero, List.getElem_cons_succ, Act.put, List.setIfInBounds_toArray, List.set_cons_zero, List.set_cons_succ]
  refine wpAnyH_take (i := 5) (v := ?v30) rfl (by kernel_rfl) (by kernel_rfl) (by kernel_rfl) (fun _ _ _ h => h) (Or.inl ⟨by rfl, ?hy30⟩) hS0 ?_
  case hy30 => (intro w' hw'; skip; go_simp; try with_reducible rfl)
  simp only [List.getElem_toArray, List.getElem_cons_zero, List.getElem_cons_succ, Act.put, List.setIfInBounds_toArray, List.set_cons_zero, List.set_cons_succ]
  refine wpAnyH_take (i := 6) (v := ?v31) rfl (by kernel_rfl) (by kernel_rfl) (by kernel_rfl) (fun _ _ _ h => h) (Or.inl ⟨by rfl, ?hy31⟩) hS0 ?_
  case hy31 => (intro w' hw'; skip; go_simp; try with_reducible rfl)
  simp only [List.getElem_toArray, List.getElem_cons_zero, List.getElem_cons_succ, Act.put, List.setIfInBounds_toArray, List.set_cons_zero, List.set_cons_succ]
  refine wpAnyH_take (i := 7) (v := ?v32) rfl (by kernel_rfl) (by kernel_rfl) (by kernel_rfl) (fun _ _ _ h => h) (Or.inl ⟨by rfl, ?hy32⟩) hS0 ?_
  case hy32 => (intro w' hw'; skip; go_simp; try with_reducible rfl)
  simp only [List.getElem_toArray, List.getElem_cons_zero, List.getElem_cons_succ, Act.put, List.setIfInBounds_toArray, List.set_cons_zero, List.set_cons_succ]
  refine wpAnyH_take (i := 8) (v := ?v33) rfl (by kernel_rfl) (by kernel_rfl) (by kernel_rfl) (fun _ _ _ h => h) (Or.inl ⟨by rfl, ?hy33⟩) hS0 ?_
  case hy33 => (intro w' hw'; skip; go_simp; try with_reducible rfl)
  simp only [List.getElem_toArray, List.getElem_cons_zero, List.getElem_cons_succ, Act.put, List.setIfInBounds_toArray, List.set_cons_zero, List.set_cons_succ]
  refine wpAnyH_take (i := 9) (v := ?v34) rfl (by kernel_rfl) (by kernel_rfl) (by kernel_rfl) (fun _ _ _ h => h) (Or.inl ⟨by rfl, ?hy34⟩) hS0 ?_
  case hy34 => (intro w' hw'; have g1' := (hw'.cell (p := ⟨b', 1, none⟩) hb').trans g1; go_simp; try with_reducible rfl)
  simp only [List.getElem_toArray, List.getElem_cons_zero, List.getElem_cons_succ, Act.put, List.setIfInBounds_toArray, List.set_cons_zero, List.set_cons_succ]
  refine wpAnyH_take (i := 10) (v := ?v35) rfl (by kernel_rfl) (by kernel_rfl) (by kernel_rfl) (fun _ _ _ h => h) (Or.inl ⟨by rfl, ?hy35⟩) hS0 ?_
  case hy35 => (intro w' hw'; skip; go_simp; try with_reducible rfl)
  simp only [List.getElem_toArray, List.getElem_cons_zero, List.getElem_cons_succ, Act.put, List.setIfInBounds_toArray, List.set_cons_zero, List.set_cons_succ]
  refine wpAnyH_take (i := 11) (v := ?v36) rfl (by kernel_rfl) (by kernel_rfl) (by kernel_rfl) (fun _ _ _ h => h) (Or.inl ⟨by rfl, ?hy36⟩) hS0 ?_
  case hy36 => (intro w' hw'; skip; go_simp; try with_reducible rfl)
  simp only [List.getElem_toArray, List.getElem_cons_zero, List.getElem_cons_succ, Act.put, List.setIfInBounds_toArray, List.set_cons_zero, List.set_cons_succ]
  refine wpAnyH_done (by kernel_rfl) ?_ _; refine NoPanic.normal ?_
  have hS1 : Below w.heap.size w { w with drawn := w.drawn + 1 + 1 + 1 + 1 } := hS0.drew
  clear hS0
  have hS0 := hS1
  clear hS1
  go_wp2_with fail
  refine wp_region_noPanic ?_
  refine wp_region_held (S := fun w' => Below w.heap.size w w') mixed ?_
  refine wpAnyH_take (i := 0) (v := ?v37) rfl (by kernel_rfl) (by kernel_rfl) (by kernel_rfl) (fun _ _ _ h => h) (Or.inl ⟨by rfl, ?hy37⟩) hS0 ?_
  case hy37 => (intro w' hw'; skip; go_simp; try with_reducible rfl)
  simp only [List.getElem_toArray, List.getElem_cons_zero, List.getElem_cons_succ, Act.put, List.setIfInBounds_toArray, List.set_cons_zero, List.set_cons_succ]
  refine wpAnyH_take (i := 1) (v := ?v38) rfl (by kernel_rfl) (by kernel_rfl) (by kernel_rfl) (fun _ _ _ h => h) (Or.inl ⟨by rfl, ?hy38⟩) hS0 ?_
  case hy38 => (intro w' hw'; skip; go_simp; try with_reducible rfl)
  simp only [List.getElem_toArray, List.getElem_cons_zero, List.getElem_cons_succ, Act.put, List.setIfInBounds_toArray, List.set_cons_zero, List.set_cons_succ]
  refine wpAnyH_take (i := 2) (v := ?v39) rfl (by kernel_rfl) (by kernel_rfl) (by kernel_rfl) (fun _ _ _ h => h) (Or.inl ⟨by rfl, ?hy39⟩) hS0 ?_
  case hy39 => (intro w' hw'; skip; go_simp; try with_reducible rfl)
  simp only [List.getElem_toArray, List.getElem_cons_zero, List.getElem_cons_succ, Act.put, List.setIfInBounds_toArray, List.set_cons_zero, List.set_cons_succ]
  refine wpAnyH_take (i := 3) (v := ?v40) rfl (by kernel_rfl) (by kernel_rfl) (by kernel_rfl) (fun _ _ _ h => h) (Or.inl ⟨by rfl, ?hy40⟩) hS0 ?_
  case hy40 => (intro w' hw'; skip; go_simp; try with_reducible rfl)
  simp only [List.getElem_toArray, List.getElem_cons_zero, List.getElem_cons_succ, Act.put, List.setIfInBounds_toArray, List.set_cons_zero, List.set_cons_succ]
  refine wpAnyH_take (i := 4) (v := ?v41) rfl (by kernel_rfl) (by kernel_rfl) (by kernel_rfl) (fun _ _ _ h => h) (Or.inl ⟨by rfl, ?hy41⟩) hS0 ?_
  case hy41 => (intro w' hw'; have h1' := (hw'.cell (p := ⟨b, 1, none⟩) hb).trans h1; go_simp; try with_reducible rfl)
  simp only [List.getElem_toArray, List.getElem_cons_zero, List.getElem_cons_succ, Act.put, List.setIfInBounds_toArray, List.set_cons_zero, List.set_cons_succ]
  refine wpAnyH_take (i := 5) (v := ?v42) rfl (by kernel_rfl) (by kernel_rfl) (by kernel_rfl) (fun _ _ _ h => h) (Or.inl ⟨by rfl, ?hy42⟩) hS0 ?_
  case hy42 => (intro w' hw'; skip; go_simp; try with_reducible rfl)
  simp only [List.getElem_toArray, List.getElem_cons_zero, List.getElem_cons_succ, Act.put, List.setIfInBounds_toArray, List.set_cons_zero, List.set_cons_succ]
  refine wpAnyH_take (i := 6) (v := ?v43) rfl (by kernel_rfl) (by kernel_rfl) (by kernel_rfl) (fun _ _ _ h => h) (Or.inl ⟨by rfl, ?hy43⟩) hS0 ?_
  case hy43 => (intro w' hw'; skip; go_simp; try with_reducible rfl)
  simp only [List.getElem_toArray, List.getElem_cons_zero, List.getElem_cons_succ, Act.put, List.setIfInBounds_toArray, List.set_cons_zero, List.set_cons_succ]
  refine wpAnyH_take (i := 7) (v := ?v44) rfl (by kernel_rfl) (by kernel_rfl) (by kernel_rfl) (fun _ _ _ h => h) (Or.inl ⟨by rfl, ?hy44⟩) hS0 ?_
  case hy44 => (intro w' hw'; skip; go_simp; try with_reducible rfl)
  simp only [List.getElem_toArray, List.getElem_cons_zero, List.getElem_cons_succ, Act.put, List.setIfInBounds_toArray, List.set_cons_zero, List.set_cons_succ]
  refine wpAnyH_take (i := 8) (v := ?v45) rfl (by kernel_rfl) (by kernel_rfl) (by kernel_rfl) (fun _ _ _ h => h) (Or.inl ⟨by rfl, ?hy45⟩) hS0 ?_
  case hy45 => (intro w' hw'; skip; go_simp; try with_reducible rfl)
  simp only [List.getElem_toArray, List.getElem_cons_zero, List.getElem_cons_succ, Act.put, List.setIfInBounds_toArray, List.set_cons_zero, List.set_cons_succ]
  refine wpAnyH_take (i := 9) (v := ?v46) rfl (by kernel_rfl) (by kernel_rfl) (by kernel_rfl) (fun _ _ _ h => h) (Or.inl ⟨by rfl, ?hy46⟩) hS0 ?_
  case hy46 => (intro w' hw'; have g1' := (hw'.cell (p := ⟨b', 1, none⟩) hb').trans g1; go_simp; try with_reducible rfl)
  simp only [List.getElem_toArray, List.getElem_cons_zero, List.getElem_cons_succ, Act.put, List.setIfInBounds_toArray, List.set_cons_zero, List.set_cons_succ]
  refine wpAnyH_take (i := 10) (v := ?v47) rfl (by kernel_rfl) (by kernel_rfl) (by kernel_rfl) (fun _ _ _ h => h) (Or.inl ⟨by rfl, ?hy47⟩) hS0 ?_
  case hy47 => (intro w' hw'; skip; go_simp; try with_reducible rfl)
  simp only [List.getElem_toArray, List.getElem_cons_zero, List.getElem_cons_succ, Act.put, List.setIfInBounds_toArray, List.set_cons_zero, List.set_cons_succ]
  refine wpAnyH_take (i := 11) (v := ?v48) rfl (by kernel_rfl) (by kernel_rfl) (by kernel_rfl) (fun _ _ _ h => h) (Or.inl ⟨by rfl, ?hy48⟩) hS0 ?_
  case hy48 => (intro w' hw'; skip; go_simp; try with_reducible rfl)
  simp only [List.getElem_toArray, List.getElem_cons_zero, List.getElem_cons_succ, Act.put, List.setIfInBounds_toArray, List.set_cons_zero, List.set_cons_succ]
  refine wpAnyH_done (by kernel_rfl) ?_ _; refine NoPanic.normal ?_
  have hS1 : Below w.heap.size w { w with drawn := w.drawn + 1 + 1 + 1 + 1 + 1 } := hS0.drew
  clear hS0
  have hS0 := hS1
  clear hS1
  go_wp2_with fail
  rw [rounds_succ]
  go_wp2_with fail
  go_ret
  refine ⟨rfl, ?_⟩
  exact (((Below.refl w.heap.size w).drew).drew).drew.drew
set_option maxRecDepth 4000 in
theorem sameFault_ok (w : World) (k : Int) (a a' : Option Addr) (n n' c c' : Nat) (hP : ∀ W, Below w.heap.size w W → Calls Tryz.prog 36 #[.slice a n c, .slice a' n' c'] W fun e w' => e = .returned (.int .i64 0) ∧ Below W.heap.size W w') :
    Calls Tryz.prog 12 #[.agg #[.int .i64 k, .slice a n c, .slice none 0 0], .agg #[.int .i64 k, .slice a' n' c', .slice none 0 0]] w fun e w' => e = .returned (.bool true) ∧ Below w.heap.size w w' := by
  have HP := hide hP
  have HS := hide steps_nil
  clear hP
  go_enter Tryz.func12, Tryz.ntmps12
  go_wp2_with fail
  have b2 := two_alloc w (Obj.cells #[Value.int .i64 k, .slice a n c, .slice none 0 0] 39) (Obj.cells #[Value.int .i64 k, .slice a' n' c', .slice none 0 0] 39)
  refine ((unhide HP) _ b2).mono ?_
  rintro e w1 ⟨rfl, b1⟩
  have q := two_at w #[Value.int .i64 k, .slice a n c, .slice none 0 0] #[Value.int .i64 k, .slice a' n' c', .slice none 0 0] 39 39
  have q0 := (b1.block w.heap.size (by simp; omega)).trans q.1
  have q1 := (b1.block (w.heap.size + 1) (by simp)).trans q.2
  have d0 : w1.cell? ⟨w.heap.size, 2, none⟩ = some (.slice none 0 0) := (dt.cell_cells q0 2).trans rfl
  have d1 : w1.cell? ⟨w.heap.size + 1, 2, none⟩ = some (.slice none 0 0) := (dt.cell_cells q1 2).trans rfl
  have bw1 := b2.trans (b1.mono b2.size)
  clear q q0 q1
  go_wp2_with fail
  refine ((unhide HS) w1).mono ?_
  rintro e w2 ⟨rfl, rfl⟩
  go_wp2_with fail
  go_ret
  exact ⟨rfl, bw1⟩
end Go.Proofs.YtejjnhcmpiamiaaGreat.cu
namespace Go.Proofs.YtejjnhcmpiamiaaGreat.rgn
set_option linter.unusedVariables false
set_option linter.unusedSimpArgs false
variable {P : Program}
/-- a call of a function of the program, as one operation -/
theorem call_wp {o : Oper} {a : Act} {w : World} {K : Act → World → Prop} {Q : Exit → Act → World → Prop} (f : FuncId) (fn : Func) (args : Array Operand) (tys : Array TypeId) (ho : o.op = .call { callee := .value (.func f), args := args, argTypes := tys })
    (hf : P.funcs[f]? = some fn) (hname : (fn.name == "runtime.NumGoroutine") = false) (hb : fn.body.isNone = false) (vs : Array Value) (hv : args.map a.eval = vs)
    (hc : Calls P f vs w fun e w' => ∃ v, e = .returned v ∧ K (a.put o.dst v) w') : o.wp P a w K Q := by
  have h1 : fn.name ≠ "runtime.NumGoroutine" := by simpa using hname
  have hrun : (execOp a.eval o).run P w = .ok (.enter f vs) w := by
    unfold execOp
    simp only [ho]
    obtain ⟨c, hc'⟩ : ∃ c, fn.body = some c := by cases h : fn.body <;> simp_all
    simp [resolve, hv, Deferred.ofValue, invoke, callFunc, hf, h1, hc', Act.eval]
  unfold Oper.wp
  rw [hrun, Oper.upon_enter]
  refine hc.mono ?_
  rintro e w' ⟨v, rfl, hk⟩
  exact hk
end Go.Proofs.YtejjnhcmpiamiaaGreat.rgn
namespace Go.Proofs.YtejjnhcmpiamiaaGreat.cu
open Go.ChangeShapes Go.WideShapes Go.ChangeAt Go.RowKit
open ints (hide unhide)
open dt (Dt Kp RowAt Ow)
set_option linter.unusedVariables false
set_option linter.unusedSimpArgs false
def sA : List Int := [91, 49, 44, 32, 123, 97, 58, 32, 36, 98, 125, 93]
def sB : List Int := [91, 91, 73, 110, 116, 33, 93, 93, 33]
def dA : Dt := litD 8 em false (Dt.of [litD 2 ⟨#[49]⟩ false .nil .nil 1 2, litD 9 em false .nil (Dt.of [fldD ⟨#[97]⟩ (litD 1 ⟨#[98]⟩ false .nil .nil 1 9) 1 6]) 1 5]) .nil 1 1
theorem fx1 : (readL sA false 2).1 = some dA := by kernel_rfl
theorem fx2 : (readL sA false 2).2.kd = 0 := by kernel_rfl
theorem fx3 : (readL sA true 2).2.kd = 70 ∧ (readL sA true 2).2.tok.ln = 1 ∧ (readL sA true 2).2.tok.co = 9 ∧ (readL sA true 2).1.isSome = false := by
  refine ⟨?_, ?_, ?_, ?_⟩ <;> kernel_rfl
theorem fx4 : (readT sB 2).1 = some (⟨#[73, 110, 116]⟩, ⟨#[33, 93, 93, 33]⟩) := by kernel_rfl
theorem fx5 : (readT sB 2).2.kd = 0 := by kernel_rfl
theorem sA_plain : lx.Plain sA := by unfold lx.Plain; decide
theorem sB_plain : lx.Plain sB := by unfold lx.Plain; decide
/-- a row of bytes that has just been laid -/
theorem row_new (w : World) (l : List Int) (t : TypeId) (fr : Nat × Nat) : mem.Row .u8 (w.alloc (.cells (l.map (Value.int .u8)).toArray t fr)) (some ⟨w.heap.size, 0, none⟩) l.length l.length l := by
  refine ⟨rfl, Nat.le_refl _, (fun e => by cases e), ?_⟩
  refine .inr ⟨w.heap.size, 0, rfl, by simp, fun i hi => ?_⟩
  rw [dt.cell_cells (heap_alloc_new w _)]
  simp [hi]
/-- what is read of the first fixed source -/
theorem dA_cells {w : World} {cs : List Value} {F : List Nat} (hs : LShape cs) (h : Ow w dA cs F) : ∃ p1 c1 p2 c2 af nf cf ln co, cs = [.int .i64 8, .string em, .bool false, .slice (some ⟨p1, 0, none⟩) 2 c1, .slice af nf cf, .int .i64 ln, .int .i64 co] ∧ p1 ∈ F ∧ p2 ∈ F ∧
    w.cell? ⟨p1, 1, none⟩ = some (.string ⟨#[49]⟩) ∧ w.cell? ⟨p1, 7, none⟩ = some (.int .i64 9) ∧ w.cell? ⟨p1, 11, none⟩ = some (.slice (some ⟨p2, 0, none⟩) 1 c2) ∧ w.cell? ⟨p2, 1, none⟩ = some (.int .i64 1) := by
  obtain ⟨k, tx, bl, ai, ni, ci, af, nf, cf, ln, co, rfl⟩ := hs
  unfold dA litD at h
  unfold Ow at h
  obtain ⟨ds, e, -, h⟩ := h
  obtain ⟨e1, rfl⟩ := List.cons.inj e
  simp only [Value.int.injEq, true_and] at e1
  subst e1
  unfold Ow at h
  obtain ⟨ds, e, -, h⟩ := h
  obtain ⟨e1, rfl⟩ := List.cons.inj e
  simp only [Value.string.injEq, true_and] at e1
  subst e1
  unfold Ow at h
  obtain ⟨ds, e, -, h⟩ := h
  obtain ⟨e1, rfl⟩ := List.cons.inj e
  simp only [Value.bool.injEq, true_and] at e1
  subst e1
  unfold Ow at h
  obtain ⟨a, n, c, ds, F1, F2, e, hn, hc, ha, h4, h5, rfl⟩ := h
  obtain ⟨e1, rfl⟩ := List.cons.inj e
  simp only [Value.slice.injEq] at e1
  obtain ⟨rfl, rfl, rfl⟩ := e1
  clear h5 ha hc hn
  rcases h4 with ⟨-, e, -⟩ | ⟨p1, G1, rfl, rfl, h4⟩
  · cases e
  obtain ⟨l1, l2⟩ := dt.OwIn.get _ 7 p1 0 ni G1 h4
  obtain rfl : ni = 2 := l1.symm
  obtain ⟨r0, g0, s0, s0l, o0, -⟩ := l2 0 _ rfl
  obtain ⟨r1, g1, s1, s1l, o1, sub1⟩ := l2 1 _ rfl
  unfold Ow at o0
  obtain ⟨ds0, rfl, -, o0⟩ := o0
  unfold Ow at o0
  obtain ⟨ds1, rfl, -, o0⟩ := o0
  unfold Ow at o1
  obtain ⟨es0, rfl, -, o1⟩ := o1
  unfold Ow at o1
  obtain ⟨es1, rfl, -, o1⟩ := o1
  unfold Ow at o1
  obtain ⟨es2, rfl, -, o1⟩ := o1
  unfold Ow at o1
  obtain ⟨b1, m1, k1, es3, H1, H2, rfl, -, -, -, -, o1, rfl⟩ := o1
  unfold Ow at o1
  obtain ⟨b2, m2, k2, es4, H3, H4, rfl, -, -, -, o2, o3, rfl⟩ := o1
  rcases o2 with ⟨-, e, -⟩ | ⟨p2, G2, rfl, rfl, o2⟩
  · cases e
  obtain ⟨m1', m2'⟩ := dt.OwIn.get _ 10 p2 0 m2 G2 o2
  obtain rfl : m2 = 1 := m1'.symm
  obtain ⟨f0, g2, s2, s2l, o4, -⟩ := m2' 0 _ rfl
  unfold fldD at o4
  unfold Ow at o4
  obtain ⟨fs0, rfl, -, o4⟩ := o4
  unfold app at o4
  unfold Ow at o4
  obtain ⟨fs1, rfl, -, o4⟩ := o4
  refine ⟨p1, ci, p2, k2, af, nf, cf, ln, co, rfl, by simp, ?_, ?_, ?_, ?_, ?_⟩
  · have := sub1 p2 (by simp); simp [this]
  · have := s0 1 _ rfl; simpa using this
  · have := s1 0 _ rfl; simpa using this
  · have := s1 4 _ rfl; simpa using this
  · have := s2 1 _ rfl; simpa using this
end Go.Proofs.YtejjnhcmpiamiaaGreat.cu
namespace Go.Proofs.YtejjnhcmpiamiaaGreat.cu
open Go.ChangeShapes Go.WideShapes Go.ChangeAt Go.RowKit
open ints (hide unhide)
open dt (Dt Kp RowAt Ow)
set_option linter.unusedVariables false
set_option linter.unusedSimpArgs false
theorem litA_ok (ct : Bool) (W : World) (N : Nat) (hN : N = W.heap.size) : Calls Tryz.prog 13 #[.slice (some ⟨N, 0, none⟩) 12 12, .bool ct, .int .i64 2] (W.alloc (.cells #[Value.int .u8 91, Value.int .u8 49, Value.int .u8 44, Value.int .u8 32, Value.int .u8 123, Value.int .u8 97, Value.int .u8 58, Value.int .u8 32, Value.int .u8 36, Value.int .u8 98, Value.int .u8 125, Value.int .u8 93] 5 (12, 13))) fun e w' => ∃ cs F fs, e = .returned (.tuple #[.agg cs.toArray, .agg fs.toArray]) ∧ LitPost ((readL sA ct 2).1.getD zeroD) (W.alloc (.cells #[Value.int .u8 91, Value.int .u8 49, Value.int .u8 44, Value.int .u8 32, Value.int .u8 123, Value.int .u8 97, Value.int .u8 58, Value.int .u8 32, Value.int .u8 36, Value.int .u8 98, Value.int .u8 125, Value.int .u8 93] 5 (12, 13))) w' cs F ∧ FltAt (W.alloc (.cells #[Value.int .u8 91, Value.int .u8 49, Value.int .u8 44, Value.int .u8 32, Value.int .u8 123, Value.int .u8 97, Value.int .u8 58, Value.int .u8 32, Value.int .u8 36, Value.int .u8 98, Value.int .u8 125, Value.int .u8 93] 5 (12, 13))).heap.size w' (readL sA ct 2).2 fs ∧ Below (W.alloc (.cells #[Value.int .u8 91, Value.int .u8 49, Value.int .u8 44, Value.int .u8 32, Value.int .u8 123, Value.int .u8 97, Value.int .u8 58, Value.int .u8 32, Value.int .u8 36, Value.int .u8 98, Value.int .u8 125, Value.int .u8 93] 5 (12, 13))).heap.size (W.alloc (.cells #[Value.int .u8 91, Value.int .u8 49, Value.int .u8 44, Value.int .u8 32, Value.int .u8 123, Value.int .u8 97, Value.int .u8 58, Value.int .u8 32, Value.int .u8 36, Value.int .u8 98, Value.int .u8 125, Value.int .u8 93] 5 (12, 13))) w' := by
  subst hN
  exact readLit_ok (some ⟨W.heap.size, 0, none⟩) 12 12 sA ct 2 (W.alloc (.cells #[Value.int .u8 91, Value.int .u8 49, Value.int .u8 44, Value.int .u8 32, Value.int .u8 123, Value.int .u8 97, Value.int .u8 58, Value.int .u8 32, Value.int .u8 36, Value.int .u8 98, Value.int .u8 125, Value.int .u8 93] 5 (12, 13))) (row_new W sA 5 (12, 13)) (by decide) sA_plain (by rfl)
theorem typB_ok (W : World) (N : Nat) (hN : N = W.heap.size) : Calls Tryz.prog 14 #[.slice (some ⟨N, 0, none⟩) 9 9, .int .i64 2] (W.alloc (.cells #[Value.int .u8 91, Value.int .u8 91, Value.int .u8 73, Value.int .u8 110, Value.int .u8 116, Value.int .u8 33, Value.int .u8 93, Value.int .u8 93, Value.int .u8 33] 5 (9, 10))) fun e w' => e = .returned (.tuple #[.agg #[Value.string ⟨#[73, 110, 116]⟩, .string ⟨#[33, 93, 93, 33]⟩], .agg #[Value.int .i64 0, .slice none 0 0, .slice none 0 0]]) ∧ Below (W.alloc (.cells #[Value.int .u8 91, Value.int .u8 91, Value.int .u8 73, Value.int .u8 110, Value.int .u8 116, Value.int .u8 33, Value.int .u8 93, Value.int .u8 93, Value.int .u8 33] 5 (9, 10))).heap.size (W.alloc (.cells #[Value.int .u8 91, Value.int .u8 91, Value.int .u8 73, Value.int .u8 110, Value.int .u8 116, Value.int .u8 33, Value.int .u8 93, Value.int .u8 93, Value.int .u8 33] 5 (9, 10))) w' := by
  subst hN
  have h := readType_ok (some ⟨W.heap.size, 0, none⟩) 9 9 sB 2 (W.alloc (.cells #[Value.int .u8 91, Value.int .u8 91, Value.int .u8 73, Value.int .u8 110, Value.int .u8 116, Value.int .u8 33, Value.int .u8 93, Value.int .u8 93, Value.int .u8 33] 5 (9, 10))) (row_new W sB 5 (9, 10)) (by decide) sB_plain (by rfl)
  refine h.mono ?_
  rintro e w2 ⟨fs, rfl, hfl, b2⟩
  rw [fx4]
  unfold FltAt at hfl
  rw [if_pos fx5] at hfl
  subst hfl
  exact ⟨rfl, b2⟩
/-- the first fixed answers, in plain words -/
theorem litA1 (W : World) (N : Nat) (hN : N = W.heap.size) : Calls Tryz.prog 13 #[.slice (some ⟨N, 0, none⟩) 12 12, .bool false, .int .i64 2] (W.alloc (.cells #[Value.int .u8 91, Value.int .u8 49, Value.int .u8 44, Value.int .u8 32, Value.int .u8 123, Value.int .u8 97, Value.int .u8 58, Value.int .u8 32, Value.int .u8 36, Value.int .u8 98, Value.int .u8 125, Value.int .u8 93] 5 (12, 13))) fun e w' => ∃ p1 c1 p2 c2 af nf cf ln co, e = .returned (.tuple #[.agg #[Value.int .i64 8, .string em, .bool false, .slice (some ⟨p1, 0, none⟩) 2 c1, .slice af nf cf, .int .i64 ln, .int .i64 co], .agg #[Value.int .i64 0, .slice none 0 0, .slice none 0 0]]) ∧ p1 < w'.heap.size ∧ p2 < w'.heap.size ∧
    w'.cell? ⟨p1, 1, none⟩ = some (.string ⟨#[49]⟩) ∧ w'.cell? ⟨p1, 7, none⟩ = some (.int .i64 9) ∧ w'.cell? ⟨p1, 11, none⟩ = some (.slice (some ⟨p2, 0, none⟩) 1 c2) ∧ w'.cell? ⟨p2, 1, none⟩ = some (.int .i64 1) ∧ Below (W.alloc (.cells #[Value.int .u8 91, Value.int .u8 49, Value.int .u8 44, Value.int .u8 32, Value.int .u8 123, Value.int .u8 97, Value.int .u8 58, Value.int .u8 32, Value.int .u8 36, Value.int .u8 98, Value.int .u8 125, Value.int .u8 93] 5 (12, 13))).heap.size (W.alloc (.cells #[Value.int .u8 91, Value.int .u8 49, Value.int .u8 44, Value.int .u8 32, Value.int .u8 123, Value.int .u8 97, Value.int .u8 58, Value.int .u8 32, Value.int .u8 36, Value.int .u8 98, Value.int .u8 125, Value.int .u8 93] 5 (12, 13))) w' := by
  refine (litA_ok false W N hN).mono ?_
  rintro e w1 ⟨cs, F, fs, rfl, hpo, hfl, b1⟩
  rw [fx1] at hpo
  obtain ⟨p1, c1, p2, c2, af, nf, cf, ln, co, rfl, hp1, hp2, z1, z2, z3, z4⟩ := dA_cells hpo.shape hpo.own
  unfold FltAt at hfl
  rw [if_pos fx2] at hfl
  subst hfl
  exact ⟨p1, c1, p2, c2, af, nf, cf, ln, co, rfl, (hpo.rng p1 hp1).2, (hpo.rng p2 hp2).2, z1, z2, z3, z4, b1⟩
theorem litA2 (W : World) (N : Nat) (hN : N = W.heap.size) : Calls Tryz.prog 13 #[.slice (some ⟨N, 0, none⟩) 12 12, .bool true, .int .i64 2] (W.alloc (.cells #[Value.int .u8 91, Value.int .u8 49, Value.int .u8 44, Value.int .u8 32, Value.int .u8 123, Value.int .u8 97, Value.int .u8 58, Value.int .u8 32, Value.int .u8 36, Value.int .u8 98, Value.int .u8 125, Value.int .u8 93] 5 (12, 13))) fun e w' => ∃ b k tx bl ai ni ci af nf cf ln co, e = .returned (.tuple #[.agg #[.int .i64 k, .string tx, .bool bl, .slice ai ni ci, .slice af nf cf, .int .i64 ln, .int .i64 co], .agg #[.int .i64 70, .slice (some ⟨b, 0, none⟩) 1 1, .slice none 0 0]]) ∧ b < w'.heap.size ∧ w'.cell? ⟨b, 1, none⟩ = some (.int .i64 9) ∧ Below (W.alloc (.cells #[Value.int .u8 91, Value.int .u8 49, Value.int .u8 44, Value.int .u8 32, Value.int .u8 123, Value.int .u8 97, Value.int .u8 58, Value.int .u8 32, Value.int .u8 36, Value.int .u8 98, Value.int .u8 125, Value.int .u8 93] 5 (12, 13))).heap.size (W.alloc (.cells #[Value.int .u8 91, Value.int .u8 49, Value.int .u8 44, Value.int .u8 32, Value.int .u8 123, Value.int .u8 97, Value.int .u8 58, Value.int .u8 32, Value.int .u8 36, Value.int .u8 98, Value.int .u8 125, Value.int .u8 93] 5 (12, 13))) w' := by
  refine (litA_ok true W N hN).mono ?_
  rintro e w1 ⟨cs, F, fs, rfl, hpo, hfl, b1⟩
  obtain ⟨k, tx, bl, ai, ni, ci, af, nf, cf, ln, co, rfl⟩ := hpo.shape
  unfold FltAt at hfl
  rw [if_neg (by rw [fx3.1]; decide), fx3.1, fx3.2.1, fx3.2.2.1] at hfl
  obtain ⟨b, h1, h2, rfl, h4, h5⟩ := hfl
  exact ⟨b, k, tx, bl, ai, ni, ci, af, nf, cf, ln, co, rfl, h2, h5, b1⟩
set_option maxRecDepth 10000 in
set_option maxHeartbeats 4000000 in
theorem fixed_ok (w : World) : Calls Tryz.prog 4 #[] w fun e w' => e = .returned (.bool true) ∧ Below w.heap.size w w' := by
  have kc := fun (w : World) (C : Array Value) (n c : Nat) => Lib.run_convert_bytes_const (P := Tryz.prog) w 22 5 C n c Tryz.underlying22 Tryz.underlying5
  go_enter Tryz.func4, Tryz.ntmps4
  go_wp2_with fail
  refine (litA1 w w.heap.size rfl).mono ?_
  rintro e w1 ⟨p1, c1, p2, c2, af, nf, cf, ln, co, rfl, hq1, hq2, z1, z2, z3, z4, b1⟩
  have bw1 : Below w.heap.size w w1 := ((Below.refl _ _).alloc (Nat.le_refl _) _).trans (b1.mono (by simp))
  clear b1
  have kc1 := fun (o o' : Obj) (C : Array Value) (n c : Nat) => by simpa using kc ((w1.alloc o).alloc o') C n c
  go_wp2_with fail
  have hX1 : ((w1.alloc (.cells #[Value.int .i64 8, .string em, .bool false, .slice (some ⟨p1, 0, none⟩) 2 c1, .slice af nf cf, .int .i64 ln, .int .i64 co] 55)).alloc (.cells #[Value.int .i64 0, .slice none 0 0, .slice none 0 0] 39)).heap[w1.heap.size]? = some (.cells #[Value.int .i64 8, .string em, .bool false, .slice (some ⟨p1, 0, none⟩) 2 c1, .slice af nf cf, .int .i64 ln, .int .i64 co] 55 (0, 0)) := (Below.heap_alloc _ _ w1.heap.size (by simp)).trans (heap_alloc_new w1 _)
  have hX2 : ((w1.alloc (.cells #[Value.int .i64 8, .string em, .bool false, .slice (some ⟨p1, 0, none⟩) 2 c1, .slice af nf cf, .int .i64 ln, .int .i64 co] 55)).alloc (.cells #[Value.int .i64 0, .slice none 0 0, .slice none 0 0] 39)).heap[w1.heap.size + 1]? = some (.cells #[Value.int .i64 0, .slice none 0 0, .slice none 0 0] 39 (0, 0)) := by
    have := heap_alloc_new (w1.alloc (.cells #[Value.int .i64 8, .string em, .bool false, .slice (some ⟨p1, 0, none⟩) 2 c1, .slice af nf cf, .int .i64 ln, .int .i64 co] 55)) (.cells #[Value.int .i64 0, .slice none 0 0, .slice none 0 0] 39)
    simpa using this
  have hX0 : w1.heap.size + 1 + 1 = ((w1.alloc (.cells #[Value.int .i64 8, .string em, .bool false, .slice (some ⟨p1, 0, none⟩) 2 c1, .slice af nf cf, .int .i64 ln, .int .i64 co] 55)).alloc (.cells #[Value.int .i64 0, .slice none 0 0, .slice none 0 0] 39)).heap.size := by simp
  have bX : Below w1.heap.size w1 ((w1.alloc (.cells #[Value.int .i64 8, .string em, .bool false, .slice (some ⟨p1, 0, none⟩) 2 c1, .slice af nf cf, .int .i64 ln, .int .i64 co] 55)).alloc (.cells #[Value.int .i64 0, .slice none 0 0, .slice none 0 0] 39)) := ((Below.refl _ _).alloc (Nat.le_refl _) _).alloc (by simp) _
  obtain ⟨X1, e1⟩ : ∃ X1, X1 = (w1.alloc (.cells #[Value.int .i64 8, .string em, .bool false, .slice (some ⟨p1, 0, none⟩) 2 c1, .slice af nf cf, .int .i64 ln, .int .i64 co] 55)).alloc (.cells #[Value.int .i64 0, .slice none 0 0, .slice none 0 0] 39) := ⟨_, rfl⟩
  rw [← e1] at hX1 hX2 hX0 bX ⊢
  clear e1 kc1
  refine (typB_ok X1 _ hX0).mono ?_
  rintro e w2 ⟨rfl, b2⟩
  have b12 : Below X1.heap.size X1 w2 := ((Below.refl _ _).alloc (Nat.le_refl _) _).trans (b2.mono (by simp))
  have kc2 := fun (o o' : Obj) (C : Array Value) (n c : Nat) => by simpa using kc ((w2.alloc o).alloc o') C n c
  have hX0' : w1.heap.size + 1 < X1.heap.size := by omega
  have hX0h := hide hX0
  clear hX0 b2
  go_wp2_with fail
  have hY1 : ((w2.alloc (.cells #[Value.string ⟨#[73, 110, 116]⟩, .string ⟨#[33, 93, 93, 33]⟩] 59)).alloc (.cells #[Value.int .i64 0, .slice none 0 0, .slice none 0 0] 39)).heap[w2.heap.size]? = some (.cells #[Value.string ⟨#[73, 110, 116]⟩, .string ⟨#[33, 93, 93, 33]⟩] 59 (0, 0)) := (Below.heap_alloc _ _ w2.heap.size (by simp)).trans (heap_alloc_new w2 _)
  have hY2 : ((w2.alloc (.cells #[Value.string ⟨#[73, 110, 116]⟩, .string ⟨#[33, 93, 93, 33]⟩] 59)).alloc (.cells #[Value.int .i64 0, .slice none 0 0, .slice none 0 0] 39)).heap[w2.heap.size + 1]? = some (.cells #[Value.int .i64 0, .slice none 0 0, .slice none 0 0] 39 (0, 0)) := by
    have := heap_alloc_new (w2.alloc (.cells #[Value.string ⟨#[73, 110, 116]⟩, .string ⟨#[33, 93, 93, 33]⟩] 59)) (.cells #[Value.int .i64 0, .slice none 0 0, .slice none 0 0] 39)
    simpa using this
  have hY0 : w2.heap.size + 1 + 1 = ((w2.alloc (.cells #[Value.string ⟨#[73, 110, 116]⟩, .string ⟨#[33, 93, 93, 33]⟩] 59)).alloc (.cells #[Value.int .i64 0, .slice none 0 0, .slice none 0 0] 39)).heap.size := by simp
  have bY : Below w2.heap.size w2 ((w2.alloc (.cells #[Value.string ⟨#[73, 110, 116]⟩, .string ⟨#[33, 93, 93, 33]⟩] 59)).alloc (.cells #[Value.int .i64 0, .slice none 0 0, .slice none 0 0] 39)) := ((Below.refl _ _).alloc (Nat.le_refl _) _).alloc (by simp) _
  obtain ⟨Y1, e1⟩ : ∃ Y1, Y1 = (w2.alloc (.cells #[Value.string ⟨#[73, 110, 116]⟩, .string ⟨#[33, 93, 93, 33]⟩] 59)).alloc (.cells #[Value.int .i64 0, .slice none 0 0, .slice none 0 0] 39) := ⟨_, rfl⟩
  rw [← e1] at hY1 hY2 hY0 bY ⊢
  clear e1 kc2 kc
  refine (litA2 Y1 _ hY0).mono ?_
  rintro e w3 ⟨b, k3, tx3, bl3, ai3, ni3, ci3, af3, nf3, cf3, ln3, co3, rfl, hb3, z5, b3⟩
  have b23 : Below Y1.heap.size Y1 w3 := ((Below.refl _ _).alloc (Nat.le_refl _) _).trans (b3.mono (by simp))
  have hY0' : w2.heap.size + 1 < Y1.heap.size := by omega
  have hY0h := hide hY0
  clear hY0 b3
  -- every block stands
  have g1 : ∀ (b' : Nat), b' < w1.heap.size → ∀ o o', ((w3.alloc o).alloc o').heap[b']? = w1.heap[b']? := fun b' h' o o' => by
    have s1 : w1.heap.size ≤ X1.heap.size := by omega
    have s2 := b12.size
    have s3 : w2.heap.size ≤ Y1.heap.size := by omega
    have s4 := b23.size
    rw [Below.heap_alloc (w3.alloc o) o' b' (by simp; omega), Below.heap_alloc w3 o b' (by omega), b23.block b' (by omega), bY.block b' (by omega), b12.block b' (by omega), bX.block b' h']
  have g2 : ∀ (b' : Nat), b' < X1.heap.size → ∀ o o', ((w3.alloc o).alloc o').heap[b']? = X1.heap[b']? := fun b' h' o o' => by
    have s2 := b12.size
    have s3 : w2.heap.size ≤ Y1.heap.size := by omega
    have s4 := b23.size
    rw [Below.heap_alloc (w3.alloc o) o' b' (by simp; omega), Below.heap_alloc w3 o b' (by omega), b23.block b' (by omega), bY.block b' (by omega), b12.block b' (by omega)]
  have g3 : ∀ (b' : Nat), b' < Y1.heap.size → ∀ o o', ((w3.alloc o).alloc o').heap[b']? = Y1.heap[b']? := fun b' h' o o' => by
    have s4 := b23.size
    rw [Below.heap_alloc (w3.alloc o) o' b' (by simp; omega), Below.heap_alloc w3 o b' (by omega), b23.block b' (by omega)]
  have f0 : ∀ o o', ((w3.alloc o).alloc o').cell? ⟨w1.heap.size + 1, 0, none⟩ = some (.int .i64 0) := fun o o' => (dt.cell_cells ((g2 _ hX0' o o').trans hX2) 0).trans rfl
  have v0 : ∀ o o', ((w3.alloc o).alloc o').cell? ⟨w1.heap.size, 0, none⟩ = some (.int .i64 8) := fun o o' => (dt.cell_cells ((g2 _ (by omega) o o').trans hX1) 0).trans rfl
  have v3 : ∀ o o', ((w3.alloc o).alloc o').cell? ⟨w1.heap.size, 3, none⟩ = some (.slice (some ⟨p1, 0, none⟩) 2 c1) := fun o o' => (dt.cell_cells ((g2 _ (by omega) o o').trans hX1) 3).trans rfl
  have y1 : ∀ o o', ((w3.alloc o).alloc o').cell? ⟨p1, 1, none⟩ = some (.string ⟨#[49]⟩) := fun o o' => (dt.cell_blk (g1 p1 hq1 o o') 1).trans z1
  have y2 : ∀ o o', ((w3.alloc o).alloc o').cell? ⟨p1, 7, none⟩ = some (.int .i64 9) := fun o o' => (dt.cell_blk (g1 p1 hq1 o o') 7).trans z2
  have y3 : ∀ o o', ((w3.alloc o).alloc o').cell? ⟨p1, 11, none⟩ = some (.slice (some ⟨p2, 0, none⟩) 1 c2) := fun o o' => (dt.cell_blk (g1 p1 hq1 o o') 11).trans z3
  have y4 : ∀ o o', ((w3.alloc o).alloc o').cell? ⟨p2, 1, none⟩ = some (.int .i64 1) := fun o o' => (dt.cell_blk (g1 p2 hq2 o o') 1).trans z4
  have gk : ∀ o o', ((w3.alloc o).alloc o').cell? ⟨w2.heap.size + 1, 0, none⟩ = some (.int .i64 0) := fun o o' => (dt.cell_cells ((g3 _ hY0' o o').trans hY2) 0).trans rfl
  have r0 : ∀ o o', ((w3.alloc o).alloc o').cell? ⟨w2.heap.size, 0, none⟩ = some (.string ⟨#[73, 110, 116]⟩) := fun o o' => (dt.cell_cells ((g3 _ (by omega) o o').trans hY1) 0).trans rfl
  have r1 : ∀ o o', ((w3.alloc o).alloc o').cell? ⟨w2.heap.size, 1, none⟩ = some (.string ⟨#[33, 93, 93, 33]⟩) := fun o o' => (dt.cell_cells ((g3 _ (by omega) o o').trans hY1) 1).trans rfl
  have y5 : ∀ o o', ((w3.alloc o).alloc o').cell? ⟨b, 1, none⟩ = some (.int .i64 9) := fun o o' => ((((Below.refl w3.heap.size w3).alloc (Nat.le_refl _) o).alloc (by simp) o').cell (p := ⟨b, 1, none⟩) hb3).trans z5
  have hfin : Below w.heap.size w w3 := bw1.trans ((bX.trans ((b12.mono bX.size).trans ((bY.mono (Nat.le_trans bX.size b12.size)).trans (b23.mono (Nat.le_trans (Nat.le_trans bX.size b12.size) bY.size))))).mono bw1.size)
  have HF := hide hfin
  clear g1 g2 g3 z1 z2 z3 z4 z5 hX1 hX2 hY1 hY2 bX bY b12 b23 hfin bw1
  go_wp2_with fail
  go_ret
  exact ⟨rfl, ((unhide HF).alloc (unhide HF).size _).alloc (Nat.le_trans (unhide HF).size (by simp)) _⟩
end Go.Proofs.YtejjnhcmpiamiaaGreat.cu
namespace Go.Proofs.YtejjnhcmpiamiaaGreat.cu
open Go.ChangeShapes Go.WideShapes Go.ChangeAt Go.RowKit
open ints (hide unhide)
open dt (Dt Kp RowAt Ow Grow)
open mem (Row Ops)
set_option linter.unusedVariables false
set_option linter.unusedSimpArgs false
theorem infoPo6 : (Tryz.prog.info? 30).map (·.size) = some 2 := by kernel_rfl
theorem range_two {w : World} {b o : Nat} {x y : Value} (h0 : w.cell? ⟨b, o, none⟩ = some x) (h1 : w.cell? ⟨b, o + 1, none⟩ = some y) : w.rangeAt b o [x, y] := fun j u hu => by
  match j, hu with
  | 0, hu => simp at hu; subst hu; exact h0
  | 1, hu => simp at hu; subst hu; exact h1
/-- the fault of a stopped cursor, in memory -/
def FltC (w : World) (C : Cu) (cs : List Value) : Prop := ∃ b, b < w.heap.size ∧ cs = [.int .i64 C.kd, .slice (some ⟨b, 0, none⟩) 1 1, .slice none 0 0] ∧ w.cell? ⟨b, 0, none⟩ = some (.int .i64 C.tok.ln) ∧ w.cell? ⟨b, 1, none⟩ = some (.int .i64 C.tok.co)
theorem faultC_ok (B p : Nat) (C : Cu) (w : World) (h : CurAt w B p C) (hk : C.kd ≠ 0) : Calls Tryz.prog 10 #[ptr B] w fun e w' => ∃ b, e = .returned (.tuple #[.agg #[.int .i64 C.kd, .slice (some ⟨b, 0, none⟩) 1 1, .slice none 0 0], .bool true]) ∧ w.heap.size < b ∧ b < w'.heap.size ∧ w'.cell? ⟨b, 0, none⟩ = some (.int .i64 C.tok.ln) ∧ w'.cell? ⟨b, 1, none⟩ = some (.int .i64 C.tok.co) ∧ Below w.heap.size w w' := by
  have := fault_ok (ptr B) w (fun cs W => ∃ b, cs = [.int .i64 C.kd, .slice (some ⟨b, 0, none⟩) 1 1, .slice none 0 0] ∧ w.heap.size < b ∧ b < W.heap.size ∧ W.cell? ⟨b, 0, none⟩ = some (.int .i64 C.tok.ln) ∧ W.cell? ⟨b, 1, none⟩ = some (.int .i64 C.tok.co))
    (fun W bb hlt => by
      refine (told_ok B p C W (h.below bb)).mono ?_
      rintro e w' ⟨fs, rfl, hf, bw⟩
      unfold FltAt at hf
      rw [if_neg hk] at hf
      obtain ⟨b, y1, y2, rfl, y4, y5⟩ := hf
      exact ⟨_, _, _, _, rfl, ⟨b, rfl, by omega, y2, y4, y5⟩, bw⟩)
    (fun cs w1 w2 hq hb => by
      obtain ⟨b, e, h1, h2, h3, h4⟩ := hq
      exact ⟨b, e, h1, Nat.lt_of_lt_of_le h2 hb.size, (hb.cell (p := ⟨b, 0, none⟩) h2).trans h3, (hb.cell (p := ⟨b, 1, none⟩) h2).trans h4⟩)
    (fun cs w1 vs hq => by
      obtain ⟨b, e, h1, h2, h3, h4⟩ := hq
      exact ⟨b, e, h1, by rw [dt.size_setCells]; exact h2, (dt.cell_blk (dt.heap_setCells w.heap.size b (by omega) vs 0 w1) 0).trans h3, (dt.cell_blk (dt.heap_setCells w.heap.size b (by omega) vs 0 w1) 1).trans h4⟩)
  refine this.mono ?_
  rintro e w' ⟨k, a, n, c, rfl, ⟨b, he, h1, h2, h3, h4⟩, bw⟩
  simp only [List.cons.injEq, Value.int.injEq, Value.slice.injEq, and_true, true_and] at he
  obtain ⟨rfl, rfl, rfl, rfl⟩ := he
  exact ⟨b, by rw [show (C.kd != 0) = true by simpa using hk], h1, h2, h3, h4, bw⟩
theorem faultBl_ok (v : Value) (w : World) (h : Blank w v) : Calls Tryz.prog 10 #[v] w fun e w' => e = .returned (.tuple #[.agg #[.int .i64 0, .slice none 0 0, .slice none 0 0], .bool false]) ∧ Below w.heap.size w w' := by
  have := fault_ok v w (fun cs W => cs = fltZ) (fun W bb _ => by
      refine (toldBl v W (h.below bb)).mono ?_
      rintro e w' ⟨rfl, bw⟩
      exact ⟨0, none, 0, 0, rfl, rfl, bw⟩) (fun cs w1 w2 hq _ => hq) (fun cs w1 vs hq => hq)
  refine this.mono ?_
  rintro e w' ⟨k, a, n, c, rfl, he, bw⟩
  unfold fltZ at he
  simp only [List.cons.injEq, Value.int.injEq, Value.slice.injEq, and_true, true_and] at he
  obtain ⟨rfl, rfl, rfl, rfl⟩ := he
  exact ⟨rfl, bw⟩
set_option maxHeartbeats 8000000 in
set_option maxRecDepth 4000 in
theorem law_sticks (a : Option Addr) (n c : Nat) (z : List Int) (d : Int) (a2 : Option Addr) (n2 c2 : Nat) (w : World) (h : Row .u8 w a n c z) (hz : mem.Byt z) (hn : n ≤ 1048576) (hd : (Lit.int .i64 d).wf = true) (ho : Ops w a2 n2) (hn2 : n2 ≤ 1048576) (hc2 : n2 ≤ c2)
    (hNone : ∀ (v : Value) (K : Int) (S : ByteArray) (aw : Option Addr) (nw cw : Nat) (bb : Bool) (w : World), Dead w v → Calls Tryz.prog 11 #[v, .agg #[.int .i64 K, .string S, .slice aw nw cw, .bool bb]] w fun e w' => e = .returned (.bool true) ∧ Below w.heap.size w w') :
    Calls Tryz.prog 3 #[.slice a n c, .int .i64 d, .slice a2 n2 c2] w fun e w' => e = .returned (.bool true) ∧ Below w.heap.size w w' := by
  have hNn := hide hNone
  clear hNone
  have hFx := hide (fixed_ok w)
  have hNw := hide (fun W (bb : Below w.heap.size w W) => newG_ok a n c z d W (h.below bb) (by omega) hz hd)
  have HO := hide (fun W (bb : Below w.heap.size w W) => ho.below bb)
  clear h ho
  go_enter Tryz.func3, Tryz.ntmps3
  go_wp2_with fail
  refine (unhide hFx).mono ?_
  rintro e w1 ⟨rfl, b1⟩
  go_wp2_with fail
  refine ((unhide hNw) w1 b1).mono ?_
  rintro e w2 ⟨B, p, rfl, hB, hp, hc, b2⟩
  have b12 := b1.trans (b2.mono b1.size)
  have hBw : w.heap.size ≤ B := Nat.le_trans b1.size hB
  have HC := hide hc
  clear hFx hNw hc
  unfold ptr
  obtain ⟨r, hr⟩ : ∃ r : Nat, r = n2 % 4 := ⟨_, rfl⟩
  have hr4 : r < 4 := by omega
  have hrm : Int.tmod (n2 : Int) 4 = (r : Int) := by rw [hr]; rfl
  clear hr
  have hop := hide (fun W (cc : Cu) (hc : CurAt W B p cc) => open_ok B p cc bLb W hc)
  have hrf := hide (fun W (cc : Cu) (hc : CurAt W B p cc) => refuse0_ok B p cc W hc)
  have htk := hide (fun W (cc : Cu) (hc : CurAt W B p cc) => token_ok B p cc W hc)
  unfold ptr bLb at hop
  unfold ptr at hrf htk
  go_wp2_with fail
  go_loopw [8] (fun i wr => ∃ (k : Nat) (cc : Cu), k ≤ r ∧ i = .int .i64 k ∧ CurAt wr B p cc ∧ Kp B w2 wr) (fun i _ => r - (intOf i).toNat)
  case atStart => exact ⟨0, _, Nat.zero_le _, rfl, unhide HC, Kp.refl _ _⟩
  case round =>
    obtain ⟨k, cc, hk, rfl, hcc, hkp⟩ := hrel
    by_cases hlt : k < r
    · have ki : (k : Int) < (r : Int) := by omega
      go_wp2_with fail
      refine ((unhide hop) wr cc hcc).mono ?_
      rintro e w3 ⟨rfl, hc3, hk3⟩
      go_wp2_with fail
      go_roundw
      case rel => exact ⟨k + 1, _, by omega, by go_num, hc3, hkp.trans hk3⟩
      case measure => first | (simp [intOf]; omega) | simp [intOf]
    · have ki : ¬ (k : Int) < (r : Int) := by omega
      go_wp2_with fail
      refine ((unhide hrf) wr cc hcc).mono ?_
      rintro e w3 ⟨rfl, hc3, hk3⟩
      obtain ⟨C, hC⟩ : ∃ C, C = cc.stop 70 := ⟨_, rfl⟩
      have hCk : C.kd ≠ 0 := by
        rw [hC]
        unfold Cu.stop
        split
        · show (70 : Int) ≠ 0; decide
        · assumption
      rw [← hC] at hc3
      have hk23 := hkp.trans hk3
      clear hC hcc hkp hk3 hop hrf hlt ki hrm hr4
      have HCk := hide hCk
      clear hCk
      go_wp2_with fail
      refine ((unhide htk) w3 C hc3).mono ?_
      rintro e w4 ⟨rfl, b4⟩
      have hc4 := hc3.below b4
      have hns := hide (fun W (hc : CurAt W B p C) => show Calls Tryz.prog 9 #[.pointer (some ⟨B, 0, none⟩)] W fun e w' => e = .returned (.int .i64 C.op) ∧ w' = W from by
        obtain ⟨cap, h1, _⟩ := hc.box
        exact nest_at W B C.op ((dt.cell_cells h1 2).trans rfl))
      have hft := hide (fun W (hc : CurAt W B p C) => faultC_ok B p C W hc (unhide HCk))
      unfold ptr at hft
      unfold Tk.cells at htk ⊢
      obtain ⟨t, et⟩ : ∃ t, t = C.tok := ⟨_, rfl⟩
      have htk2 := hide (fun W (hc : CurAt W B p C) => (unhide htk) W C hc)
      rw [← et] at hft htk2 ⊢
      clear htk et
      go_wp2_with fail
      refine ((unhide hns) w4 hc4).mono ?_
      rintro e w5 ⟨rfl, hw5⟩
      obtain rfl : w4 = w5 := hw5.symm
      clear hw5
      go_wp2_with fail
      have bT := fun o => show Below w4.heap.size w4 (w4.alloc o) from (Below.refl _ _).alloc (Nat.le_refl _) _
      refine ((unhide hft) _ (hc4.below (bT _))).mono ?_
      rintro e w5 ⟨b, rfl, g1, g2, g3, g4, b5⟩
      have hT5 := (b5.block w4.heap.size (by simp)).trans (heap_alloc_new w4 _)
      have hc5 := (hc4.below (bT _)).below b5
      have hk25 := hk23.trans ((Kp.of b4).trans ((Kp.of (bT _)).trans (Kp.of b5)))
      simp at g1
      obtain ⟨X, hX⟩ : ∃ X, X = (w5.alloc (.cells #[Value.int .i64 C.kd, .slice (some ⟨b, 0, none⟩) 1 1, .slice none 0 0] 39)).alloc (.cells #[Value.slice none 0 0, .int .i64 0, .int .i64 0, .int .i64 0, .int .i64 0] 44) := ⟨_, rfl⟩
      have bX : Below w5.heap.size w5 X := by rw [hX]; exact two_alloc _ _ _
      have hXs : X.heap.size = w5.heap.size + 1 + 1 := by rw [hX]; simp
      have hX1 := (show X.heap[w5.heap.size]? = _ ∧ X.heap[w5.heap.size + 1]? = _ from by rw [hX]; exact two_at _ _ _ _ _)
      have hcX := hc5.below bX
      have hkX := hk25.trans (Kp.of bX)
      have bwX : Below w.heap.size w X := b12.trans (hkX.below hBw b12.size)
      have hTX := (bX.block w4.heap.size (by have := b5.size; simp at this; omega)).trans hT5
      have x3 := (bX.cell (p := ⟨b, 0, none⟩) g2).trans g3
      have x4 := (bX.cell (p := ⟨b, 1, none⟩) g2).trans g4
      have hbX : b < X.heap.size := Nat.lt_of_lt_of_le g2 bX.size
      have hw4X : w4.heap.size < X.heap.size := by have := b5.size; simp at this; omega
      have D1 := hide (fun W (bb : Below X.heap.size X W) => (dead_cur hcX (unhide HCk)).below bb)
      have D2 := hide (fun W => (blank_nil W).dead)
      have Bz := hide (fun W (bb : Below X.heap.size X W) => (blank_zero X (w5.heap.size + 1) hX1.2).below bb)
      unfold ptr at D1 Bz
      go_wp2_with fail
      rw [← hX]
      have HX := hide (And.intro hXs (And.intro hX1.1 (And.intro hTX (And.intro x3 (And.intro x4 (And.intro hbX (And.intro hw4X hX1.2)))))))
      have HCX := hide hcX
      have HWX := hide bwX
      clear hX bX hXs hX1 hcX hkX bwX hTX x3 x4 hbX hw4X bT hT5 hc5 hk25 g1 g2 g3 g4 b5 hc4 b4 hk23 hc3 HC b12 b2 hp hB hk
      go_loopw [15] (fun i wr => ∃ k : Nat, k ≤ n2 ∧ i = .int .i64 k ∧ Below X.heap.size X wr) (fun i _ => n2 - (intOf i).toNat)
      case atStart => exact ⟨0, Nat.zero_le _, rfl, Below.refl _ _⟩
      case round =>
        obtain ⟨q, hq, rfl, hb⟩ := hrel
        by_cases hlt : q < n2
        · have qi : (q : Int) < (n2 : Int) := by omega
          have bwr := (unhide HWX).trans (hb.mono (unhide HWX).size)
          rcases (unhide HO) wr bwr with h0 | ⟨b', off, rfl, hb', hcell⟩
          · omega
          obtain ⟨K, S, aw, nw, cw, fl, k0, k1, k2, k3⟩ := hcell q hlt
          clear hcell
          go_wp2_with fail
          refine ((unhide hNn) _ K S aw nw cw fl wr ((unhide D1) wr hb)).mono ?_
          rintro e w6 ⟨rfl, b6⟩
          have j0 := (b6.cell (p := ⟨b', off + q * 4, none⟩) hb').trans k0
          have j1 := (b6.cell (p := ⟨b', off + q * 4 + 1, none⟩) hb').trans k1
          have j2 := (b6.cell (p := ⟨b', off + q * 4 + 2, none⟩) hb').trans k2
          have j3 := (b6.cell (p := ⟨b', off + q * 4 + 3, none⟩) hb').trans k3
          have hb'6 := Nat.lt_of_lt_of_le hb' b6.size
          have hb6 := hb.trans (b6.mono hb.size)
          clear k0 k1 k2 k3
          go_wp2_with fail
          refine ((unhide hNn) _ K S aw nw cw fl w6 ((unhide D2) w6)).mono ?_
          rintro e w7 ⟨rfl, b7⟩
          have k0 := (b7.cell (p := ⟨b', off + q * 4, none⟩) hb'6).trans j0
          have k1 := (b7.cell (p := ⟨b', off + q * 4 + 1, none⟩) hb'6).trans j1
          have k2 := (b7.cell (p := ⟨b', off + q * 4 + 2, none⟩) hb'6).trans j2
          have k3 := (b7.cell (p := ⟨b', off + q * 4 + 3, none⟩) hb'6).trans j3
          have hb7 := hb6.trans (b7.mono hb6.size)
          clear j0 j1 j2 j3
          go_wp2_with fail
          refine ((unhide hNn) _ K S aw nw cw fl w7 ((unhide Bz) w7 hb7).dead).mono ?_
          rintro e w8 ⟨rfl, b8⟩
          have hb8 := hb7.trans (b8.mono hb7.size)
          clear k0 k1 k2 k3
          go_wp2_with fail
          go_roundw
          case rel => exact ⟨q + 1, by omega, by go_num, hb8⟩
          case measure => first | (simp [intOf]; omega) | simp [intOf]
        · have qi : ¬ (q : Int) < (n2 : Int) := by omega
          clear hNn
          go_wp2_with fail
          refine ((unhide hft) wr ((unhide HCX).below hb)).mono ?_
          rintro e w6 ⟨b'', rfl, m1, m2, m3, m4, b6⟩
          have hb6 := hb.trans (b6.mono hb.size)
          go_wp2_with fail
          have bA6 := fun o => show Below w6.heap.size w6 (w6.alloc o) from (Below.refl _ _).alloc (Nat.le_refl _) _
          refine (faultBl_ok (.pointer none) _ (blank_nil _)).mono ?_
          rintro e w7 ⟨rfl, b7⟩
          have hG7 := (b7.block w6.heap.size (by simp)).trans (heap_alloc_new w6 _)
          have hb7 := hb6.trans (((bA6 _).trans (b7.mono (bA6 _).size)).mono hb6.size)
          have l7 : w6.heap.size < w7.heap.size := by have := b7.size; simp at this; omega
          have n3 := ((bA6 _).trans (b7.mono (bA6 _).size)).cell (p := ⟨b'', 0, none⟩) m2 |>.trans m3
          have n4 := ((bA6 _).trans (b7.mono (bA6 _).size)).cell (p := ⟨b'', 1, none⟩) m2 |>.trans m4
          clear m3 m4 bA6 b7
          go_wp2_with fail
          have bA7 := fun o => show Below w7.heap.size w7 (w7.alloc o) from (Below.refl _ _).alloc (Nat.le_refl _) _
          have Bz7 := (unhide Bz) _ (hb7.trans ((bA7 (.cells #[.int .i64 0, .slice none 0 0, .slice none 0 0] 39)).mono hb7.size))
          refine (faultBl_ok _ _ Bz7).mono ?_
          rintro e w8 ⟨rfl, b8⟩
          have hH8 := (b8.block w7.heap.size (by simp)).trans (heap_alloc_new w7 _)
          have bb78 := (bA7 _).trans (b8.mono (bA7 _).size)
          have hG8 := (bb78.block w6.heap.size l7).trans hG7
          have hb8 := hb7.trans (bb78.mono hb7.size)
          have l8 : w7.heap.size < w8.heap.size := by have := b8.size; simp at this; omega
          have l7b : b'' < w7.heap.size := by omega
          have m3 := (bb78.cell (p := ⟨b'', 0, none⟩) l7b).trans n3
          have m4 := (bb78.cell (p := ⟨b'', 1, none⟩) l7b).trans n4
          clear n3 n4 bA7 b8 hG7
          go_wp2_with fail
          obtain ⟨Z, hZ⟩ : ∃ Z, Z = w8.alloc (Obj.cells #[Value.int .i64 0, .slice none 0 0, .slice none 0 0] 39) := ⟨_, rfl⟩
          have bZ : Below w8.heap.size w8 Z := by rw [hZ]; exact (Below.refl _ _).alloc (Nat.le_refl _) _
          have Zk : Z.heap[w8.heap.size]? = some (.cells #[Value.int .i64 0, .slice none 0 0, .slice none 0 0] 39 (0, 0)) := by rw [hZ]; exact heap_alloc_new w8 _
          have l_k : w8.heap.size < Z.heap.size := by rw [hZ]; simp
          rw [← hZ]
          clear hZ
          obtain ⟨y1, y2, y3, y4, y5, y6, y7, y8⟩ := unhide HX
          have bXZ := hb8.trans (bZ.mono hb8.size)
          have sXZ := bXZ.size
          have Zf := (bXZ.block w5.heap.size (by omega)).trans y2
          have Zt := (bXZ.block w4.heap.size y7).trans y3
          have Zb0 := (bXZ.cell (p := ⟨b, 0, none⟩) y6).trans y4
          have Zb1 := (bXZ.cell (p := ⟨b, 1, none⟩) y6).trans y5
          have l_f : w5.heap.size < Z.heap.size := by omega
          have l_t : w4.heap.size < Z.heap.size := by omega
          have l_b : b < Z.heap.size := by omega
          have Zg := (bZ.block w6.heap.size (by omega)).trans hG8
          have l_g : w6.heap.size < Z.heap.size := by omega
          have Zh := (bZ.block w7.heap.size l8).trans hH8
          have l_h : w7.heap.size < Z.heap.size := by omega
          have Zd0 := (bZ.cell (p := ⟨b'', 0, none⟩) (by show b'' < w8.heap.size; omega)).trans m3
          have Zd1 := (bZ.cell (p := ⟨b'', 1, none⟩) (by show b'' < w8.heap.size; omega)).trans m4
          have l_d : b'' < Z.heap.size := by omega
          have CZ := hide (fun W (bb : Below Z.heap.size Z W) => (unhide HCX).below (bXZ.trans (bb.mono bXZ.size)))
          have BZ := hide (fun W (bb : Below Z.heap.size Z W) => (unhide Bz) W (bXZ.trans (bb.mono bXZ.size)))
          have WZ := hide ((unhide HWX).trans (bXZ.mono (unhide HWX).size))
          have SF1 := hide (fun W (bb : Below Z.heap.size Z W) => sameFault_ok W C.kd (some ⟨b, 0, none⟩) (some ⟨b'', 0, none⟩) 1 1 1 1 (fun W' b' => have b3 := bb.trans (b'.mono bb.size); pos_one W' b b'' t.ln t.co ((b3.cell (p := ⟨b, 0, none⟩) l_b).trans Zb0) ((b3.cell (p := ⟨b, 1, none⟩) l_b).trans Zb1) ((b3.cell (p := ⟨b'', 0, none⟩) l_d).trans Zd0) ((b3.cell (p := ⟨b'', 1, none⟩) l_d).trans Zd1) (Nat.lt_of_lt_of_le l_b b3.size) (Nat.lt_of_lt_of_le l_d b3.size)))
          have SF0 := hide (fun W => sameFault_ok W 0 none none 0 0 0 0 (fun W' _ => (pos_nil W').mono (fun e w' h => ⟨h.1, h.2 ▸ Below.refl _ _⟩)))
          have NZ := hide (fun W (bb : Below Z.heap.size Z W) => nest_at W (w5.heap.size + 1) 0 ((dt.cell_cells ((bb.block (w5.heap.size + 1) (by omega)).trans ((bXZ.block (w5.heap.size + 1) (by omega)).trans y8)) 2).trans rfl))
          unfold ptr at NZ
          have TB := hide (fun (v : Value) (w : World) (h : Blank w v) => show Calls Tryz.prog 8 #[v] w fun e w' => e = .returned (.agg #[.int .i64 0, .int .i64 0, .int .i64 0, .int .i64 0, .int .i64 0, .string ⟨#[]⟩, .string ⟨#[]⟩]) ∧ Below w.heap.size w w' from tokenBl v w h)
          clear bZ y1 y2 y3 y4 y5 y6 y7 y8 bXZ sXZ hG8 hH8 m1 m2 m3 m4 hb6 hb7 hb8 l7 l8 l7b Bz7 b6 hb HX HCX D1 D2 Bz HWX bb78 hft
          have RF : ∀ W, Below Z.heap.size Z W → W.rangeAt w5.heap.size 0 [.int .i64 C.kd, .slice (some ⟨b, 0, none⟩) 1 1, .slice none 0 0] := fun W hW => dt.range_cells ((hW.block w5.heap.size l_f).trans Zf) 0 _ (fun j u h => by simpa using h)
          have RG : ∀ W, Below Z.heap.size Z W → W.rangeAt w6.heap.size 0 [.int .i64 C.kd, .slice (some ⟨b'', 0, none⟩) 1 1, .slice none 0 0] := fun W hW => dt.range_cells ((hW.block w6.heap.size l_g).trans Zg) 0 _ (fun j u h => by simpa using h)
          have RH : ∀ W, Below Z.heap.size Z W → W.rangeAt w7.heap.size 0 [.int .i64 0, .slice none 0 0, .slice none 0 0] := fun W hW => dt.range_cells ((hW.block w7.heap.size l_h).trans Zh) 0 _ (fun j u h => by simpa using h)
          have RK : ∀ W, Below Z.heap.size Z W → W.rangeAt w8.heap.size 0 [.int .i64 0, .slice none 0 0, .slice none 0 0] := fun W hW => dt.range_cells ((hW.block w8.heap.size l_k).trans Zk) 0 _ (fun j u h => by simpa using h)
          have RT : ∀ W, Below Z.heap.size Z W → W.rangeAt w4.heap.size 0 [.int .i64 t.k, .int .i64 t.ln, .int .i64 t.co, .int .i64 t.fr, .int .i64 t.to, .string t.tx, .string t.va] := fun W hW => dt.range_cells ((hW.block w4.heap.size l_t).trans Zt) 0 _ (fun j u h => by simpa using h)
          have RP : ∀ W, Below Z.heap.size Z W → W.rangeAt w4.heap.size 1 [.int .i64 t.ln, .int .i64 t.co] := fun W hW => range_two ((dt.cell_cells ((hW.block w4.heap.size l_t).trans Zt) 1).trans rfl) ((dt.cell_cells ((hW.block w4.heap.size l_t).trans Zt) 2).trans rfl)
          have RB : ∀ W, Below Z.heap.size Z W → W.rangeAt b 0 [.int .i64 t.ln, .int .i64 t.co] := fun W hW => range_two ((hW.cell (p := ⟨b, 0, none⟩) l_b).trans Zb0) ((hW.cell (p := ⟨b, 1, none⟩) l_b).trans Zb1)
          have RL : ∀ W, Below Z.heap.size Z W → W.cell? ⟨w5.heap.size, 1, none⟩ = some (.slice (some ⟨b, 0, none⟩) 1 1) := fun W hW => (dt.cell_cells ((hW.block w5.heap.size l_f).trans Zf) 1).trans rfl
          have RF : ∀ W, Below Z.heap.size Z W → W.rangeAt w5.heap.size 0 [.int .i64 C.kd, .slice (some ⟨b, 0, none⟩) 1 1, .slice none 0 0] := fun W hW => dt.range_cells ((hW.block w5.heap.size l_f).trans Zf) 0 _ (fun j u h => by simpa using h)
          have RG : ∀ W, Below Z.heap.size Z W → W.rangeAt w6.heap.size 0 [.int .i64 C.kd, .slice (some ⟨b'', 0, none⟩) 1 1, .slice none 0 0] := fun W hW => dt.range_cells ((hW.block w6.heap.size l_g).trans Zg) 0 _ (fun j u h => by simpa using h)
          have RH : ∀ W, Below Z.heap.size Z W → W.rangeAt w7.heap.size 0 [.int .i64 0, .slice none 0 0, .slice none 0 0] := fun W hW => dt.range_cells ((hW.block w7.heap.size l_h).trans Zh) 0 _ (fun j u h => by simpa using h)
          have RK : ∀ W, Below Z.heap.size Z W → W.rangeAt w8.heap.size 0 [.int .i64 0, .slice none 0 0, .slice none 0 0] := fun W hW => dt.range_cells ((hW.block w8.heap.size l_k).trans Zk) 0 _ (fun j u h => by simpa using h)
          have RT : ∀ W, Below Z.heap.size Z W → W.rangeAt w4.heap.size 0 [.int .i64 t.k, .int .i64 t.ln, .int .i64 t.co, .int .i64 t.fr, .int .i64 t.to, .string t.tx, .string t.va] := fun W hW => dt.range_cells ((hW.block w4.heap.size l_t).trans Zt) 0 _ (fun j u h => by simpa using h)
          have RP : ∀ W, Below Z.heap.size Z W → W.rangeAt w4.heap.size 1 [.int .i64 t.ln, .int .i64 t.co] := fun W hW => range_two ((dt.cell_cells ((hW.block w4.heap.size l_t).trans Zt) 1).trans rfl) ((dt.cell_cells ((hW.block w4.heap.size l_t).trans Zt) 2).trans rfl)
          have RB : ∀ W, Below Z.heap.size Z W → W.rangeAt b 0 [.int .i64 t.ln, .int .i64 t.co] := fun W hW => range_two ((hW.cell (p := ⟨b, 0, none⟩) l_b).trans Zb0) ((hW.cell (p := ⟨b, 1, none⟩) l_b).trans Zb1)
          have RL : ∀ W, Below Z.heap.size Z W → W.cell? ⟨w5.heap.size, 1, none⟩ = some (.slice (some ⟨b, 0, none⟩) 1 1) := fun W hW => (dt.cell_cells ((hW.block w5.heap.size l_f).trans Zf) 1).trans rfl
          have RF : ∀ W, Below Z.heap.size Z W → W.rangeAt w5.heap.size 0 [.int .i64 C.kd, .slice (some ⟨b, 0, none⟩) 1 1, .slice none 0 0] := fun W hW => dt.range_cells ((hW.block w5.heap.size l_f).trans Zf) 0 _ (fun j u h => by simpa using h)
          have RG : ∀ W, Below Z.heap.size Z W → W.rangeAt w6.heap.size 0 [.int .i64 C.kd, .slice (some ⟨b'', 0, none⟩) 1 1, .slice none 0 0] := fun W hW => dt.range_cells ((hW.block w6.heap.size l_g).trans Zg) 0 _ (fun j u h => by simpa using h)
          have RH : ∀ W, Below Z.heap.size Z W → W.rangeAt w7.heap.size 0 [.int .i64 0, .slice none 0 0, .slice none 0 0] := fun W hW => dt.range_cells ((hW.block w7.heap.size l_h).trans Zh) 0 _ (fun j u h => by simpa using h)
          have RK : ∀ W, Below Z.heap.size Z W → W.rangeAt w8.heap.size 0 [.int .i64 0, .slice none 0 0, .slice none 0 0] := fun W hW => dt.range_cells ((hW.block w8.heap.size l_k).trans Zk) 0 _ (fun j u h => by simpa using h)
          have RT : ∀ W, Below Z.heap.size Z W → W.rangeAt w4.heap.size 0 [.int .i64 t.k, .int .i64 t.ln, .int .i64 t.co, .int .i64 t.fr, .int .i64 t.to, .string t.tx, .string t.va] := fun W hW => dt.range_cells ((hW.block w4.heap.size l_t).trans Zt) 0 _ (fun j u h => by simpa using h)
          have RP : ∀ W, Below Z.heap.size Z W → W.rangeAt w4.heap.size 1 [.int .i64 t.ln, .int .i64 t.co] := fun W hW => range_two ((dt.cell_cells ((hW.block w4.heap.size l_t).trans Zt) 1).trans rfl) ((dt.cell_cells ((hW.block w4.heap.size l_t).trans Zt) 2).trans rfl)
          have RB : ∀ W, Below Z.heap.size Z W → W.rangeAt b 0 [.int .i64 t.ln, .int .i64 t.co] := fun W hW => range_two ((hW.cell (p := ⟨b, 0, none⟩) l_b).trans Zb0) ((hW.cell (p := ⟨b, 1, none⟩) l_b).trans Zb1)
          have RL : ∀ W, Below Z.heap.size Z W → W.cell? ⟨w5.heap.size, 1, none⟩ = some (.slice (some ⟨b, 0, none⟩) 1 1) := fun W hW => (dt.cell_cells ((hW.block w5.heap.size l_f).trans Zf) 1).trans rfl
          have RF : ∀ W, Below Z.heap.size Z W → W.rangeAt w5.heap.size 0 [.int .i64 C.kd, .slice (some ⟨b, 0, none⟩) 1 1, .slice none 0 0] := fun W hW => dt.range_cells ((hW.block w5.heap.size l_f).trans Zf) 0 _ (fun j u h => by simpa using h)
          have RG : ∀ W, Below Z.heap.size Z W → W.rangeAt w6.heap.size 0 [.int .i64 C.kd, .slice (some ⟨b'', 0, none⟩) 1 1, .slice none 0 0] := fun W hW => dt.range_cells ((hW.block w6.heap.size l_g).trans Zg) 0 _ (fun j u h => by simpa using h)
          have RH : ∀ W, Below Z.heap.size Z W → W.rangeAt w7.heap.size 0 [.int .i64 0, .slice none 0 0, .slice none 0 0] := fun W hW => dt.range_cells ((hW.block w7.heap.size l_h).trans Zh) 0 _ (fun j u h => by simpa using h)
          have RK : ∀ W, Below Z.heap.size Z W → W.rangeAt w8.heap.size 0 [.int .i64 0, .slice none 0 0, .slice none 0 0] := fun W hW => dt.range_cells ((hW.block w8.heap.size l_k).trans Zk) 0 _ (fun j u h => by simpa using h)
          have RT : ∀ W, Below Z.heap.size Z W → W.rangeAt w4.heap.size 0 [.int .i64 t.k, .int .i64 t.ln, .int .i64 t.co, .int .i64 t.fr, .int .i64 t.to, .string t.tx, .string t.va] := fun W hW => dt.range_cells ((hW.block w4.heap.size l_t).trans Zt) 0 _ (fun j u h => by simpa using h)
          have RP : ∀ W, Below Z.heap.size Z W → W.rangeAt w4.heap.size 1 [.int .i64 t.ln, .int .i64 t.co] := fun W hW => range_two ((dt.cell_cells ((hW.block w4.heap.size l_t).trans Zt) 1).trans rfl) ((dt.cell_cells ((hW.block w4.heap.size l_t).trans Zt) 2).trans rfl)
          have RB : ∀ W, Below Z.heap.size Z W → W.rangeAt b 0 [.int .i64 t.ln, .int .i64 t.co] := fun W hW => range_two ((hW.cell (p := ⟨b, 0, none⟩) l_b).trans Zb0) ((hW.cell (p := ⟨b, 1, none⟩) l_b).trans Zb1)
          have RL : ∀ W, Below Z.heap.size Z W → W.cell? ⟨w5.heap.size, 1, none⟩ = some (.slice (some ⟨b, 0, none⟩) 1 1) := fun W hW => (dt.cell_cells ((hW.block w5.heap.size l_f).trans Zf) 1).trans rfl
          have RF : ∀ W, Below Z.heap.size Z W → W.rangeAt w5.heap.size 0 [.int .i64 C.kd, .slice (some ⟨b, 0, none⟩) 1 1, .slice none 0 0] := fun W hW => dt.range_cells ((hW.block w5.heap.size l_f).trans Zf) 0 _ (fun j u h => by simpa using h)
          have RG : ∀ W, Below Z.heap.size Z W → W.rangeAt w6.heap.size 0 [.int .i64 C.kd, .slice (some ⟨b'', 0, none⟩) 1 1, .slice none 0 0] := fun W hW => dt.range_cells ((hW.block w6.heap.size l_g).trans Zg) 0 _ (fun j u h => by simpa using h)
          have RH : ∀ W, Below Z.heap.size Z W → W.rangeAt w7.heap.size 0 [.int .i64 0, .slice none 0 0, .slice none 0 0] := fun W hW => dt.range_cells ((hW.block w7.heap.size l_h).trans Zh) 0 _ (fun j u h => by simpa using h)
          have RK : ∀ W, Below Z.heap.size Z W → W.rangeAt w8.heap.size 0 [.int .i64 0, .slice none 0 0, .slice none 0 0] := fun W hW => dt.range_cells ((hW.block w8.heap.size l_k).trans Zk) 0 _ (fun j u h => by simpa using h)
          have RT : ∀ W, Below Z.heap.size Z W → W.rangeAt w4.heap.size 0 [.int .i64 t.k, .int .i64 t.ln, .int .i64 t.co, .int .i64 t.fr, .int .i64 t.to, .string t.tx, .string t.va] := fun W hW => dt.range_cells ((hW.block w4.heap.size l_t).trans Zt) 0 _ (fun j u h => by simpa using h)
          have RP : ∀ W, Below Z.heap.size Z W → W.rangeAt w4.heap.size 1 [.int .i64 t.ln, .int .i64 t.co] := fun W hW => range_two ((dt.cell_cells ((hW.block w4.heap.size l_t).trans Zt) 1).trans rfl) ((dt.cell_cells ((hW.block w4.heap.size l_t).trans Zt) 2).trans rfl)
          have RB : ∀ W, Below Z.heap.size Z W → W.rangeAt b 0 [.int .i64 t.ln, .int .i64 t.co] := fun W hW => range_two ((hW.cell (p := ⟨b, 0, none⟩) l_b).trans Zb0) ((hW.cell (p := ⟨b, 1, none⟩) l_b).trans Zb1)
          have RL : ∀ W, Below Z.heap.size Z W → W.cell? ⟨w5.heap.size, 1, none⟩ = some (.slice (some ⟨b, 0, none⟩) 1 1) := fun W hW => (dt.cell_cells ((hW.block w5.heap.size l_f).trans Zf) 1).trans rfl
          have RF : ∀ W, Below Z.heap.size Z W → W.rangeAt w5.heap.size 0 [.int .i64 C.kd, .slice (some ⟨b, 0, none⟩) 1 1, .slice none 0 0] := fun W hW => dt.range_cells ((hW.block w5.heap.size l_f).trans Zf) 0 _ (fun j u h => by simpa using h)
          have RG : ∀ W, Below Z.heap.size Z W → W.rangeAt w6.heap.size 0 [.int .i64 C.kd, .slice (some ⟨b'', 0, none⟩) 1 1, .slice none 0 0] := fun W hW => dt.range_cells ((hW.block w6.heap.size l_g).trans Zg) 0 _ (fun j u h => by simpa using h)
          have RH : ∀ W, Below Z.heap.size Z W → W.rangeAt w7.heap.size 0 [.int .i64 0, .slice none 0 0, .slice none 0 0] := fun W hW => dt.range_cells ((hW.block w7.heap.size l_h).trans Zh) 0 _ (fun j u h => by simpa using h)
          have RK : ∀ W, Below Z.heap.size Z W → W.rangeAt w8.heap.size 0 [.int .i64 0, .slice none 0 0, .slice none 0 0] := fun W hW => dt.range_cells ((hW.block w8.heap.size l_k).trans Zk) 0 _ (fun j u h => by simpa using h)
          have RT : ∀ W, Below Z.heap.size Z W → W.rangeAt w4.heap.size 0 [.int .i64 t.k, .int .i64 t.ln, .int .i64 t.co, .int .i64 t.fr, .int .i64 t.to, .string t.tx, .string t.va] := fun W hW => dt.range_cells ((hW.block w4.heap.size l_t).trans Zt) 0 _ (fun j u h => by simpa using h)
          have RP : ∀ W, Below Z.heap.size Z W → W.rangeAt w4.heap.size 1 [.int .i64 t.ln, .int .i64 t.co] := fun W hW => range_two ((dt.cell_cells ((hW.block w4.heap.size l_t).trans Zt) 1).trans rfl) ((dt.cell_cells ((hW.block w4.heap.size l_t).trans Zt) 2).trans rfl)
          have RB : ∀ W, Below Z.heap.size Z W → W.rangeAt b 0 [.int .i64 t.ln, .int .i64 t.co] := fun W hW => range_two ((hW.cell (p := ⟨b, 0, none⟩) l_b).trans Zb0) ((hW.cell (p := ⟨b, 1, none⟩) l_b).trans Zb1)
          have RL : ∀ W, Below Z.heap.size Z W → W.cell? ⟨w5.heap.size, 1, none⟩ = some (.slice (some ⟨b, 0, none⟩) 1 1) := fun W hW => (dt.cell_cells ((hW.block w5.heap.size l_f).trans Zf) 1).trans rfl
          have RF : ∀ W, Below Z.heap.size Z W → W.rangeAt w5.heap.size 0 [.int .i64 C.kd, .slice (some ⟨b, 0, none⟩) 1 1, .slice none 0 0] := fun W hW => dt.range_cells ((hW.block w5.heap.size l_f).trans Zf) 0 _ (fun j u h => by simpa using h)
          have RG : ∀ W, Below Z.heap.size Z W → W.rangeAt w6.heap.size 0 [.int .i64 C.kd, .slice (some ⟨b'', 0, none⟩) 1 1, .slice none 0 0] := fun W hW => dt.range_cells ((hW.block w6.heap.size l_g).trans Zg) 0 _ (fun j u h => by simpa using h)
          have RH : ∀ W, Below Z.heap.size Z W → W.rangeAt w7.heap.size 0 [.int .i64 0, .slice none 0 0, .slice none 0 0] := fun W hW => dt.range_cells ((hW.block w7.heap.size l_h).trans Zh) 0 _ (fun j u h => by simpa using h)
          have RK : ∀ W, Below Z.heap.size Z W → W.rangeAt w8.heap.size 0 [.int .i64 0, .slice none 0 0, .slice none 0 0] := fun W hW => dt.range_cells ((hW.block w8.heap.size l_k).trans Zk) 0 _ (fun j u h => by simpa using h)
          have RT : ∀ W, Below Z.heap.size Z W → W.rangeAt w4.heap.size 0 [.int .i64 t.k, .int .i64 t.ln, .int .i64 t.co, .int .i64 t.fr, .int .i64 t.to, .string t.tx, .string t.va] := fun W hW => dt.range_cells ((hW.block w4.heap.size l_t).trans Zt) 0 _ (fun j u h => by simpa using h)
          have RP : ∀ W, Below Z.heap.size Z W → W.rangeAt w4.heap.size 1 [.int .i64 t.ln, .int .i64 t.co] := fun W hW => range_two ((dt.cell_cells ((hW.block w4.heap.size l_t).trans Zt) 1).trans rfl) ((dt.cell_cells ((hW.block w4.heap.size l_t).trans Zt) 2).trans rfl)
          have RB : ∀ W, Below Z.heap.size Z W → W.rangeAt b 0 [.int .i64 t.ln, .int .i64 t.co] := fun W hW => range_two ((hW.cell (p := ⟨b, 0, none⟩) l_b).trans Zb0) ((hW.cell (p := ⟨b, 1, none⟩) l_b).trans Zb1)
          have RL : ∀ W, Below Z.heap.size Z W → W.cell? ⟨w5.heap.size, 1, none⟩ = some (.slice (some ⟨b, 0, none⟩) 1 1) := fun W hW => (dt.cell_cells ((hW.block w5.heap.size l_f).trans Zf) 1).trans rfl
          have RF : ∀ W, Below Z.heap.size Z W → W.rangeAt w5.heap.size 0 [.int .i64 C.kd, .slice (some ⟨b, 0, none⟩) 1 1, .slice none 0 0] := fun W hW => dt.range_cells ((hW.block w5.heap.size l_f).trans Zf) 0 _ (fun j u h => by simpa using h)
          have RG : ∀ W, Below Z.heap.size Z W → W.rangeAt w6.heap.size 0 [.int .i64 C.kd, .slice (some ⟨b'', 0, none⟩) 1 1, .slice none 0 0] := fun W hW => dt.range_cells ((hW.block w6.heap.size l_g).trans Zg) 0 _ (fun j u h => by simpa using h)
          have RH : ∀ W, Below Z.heap.size Z W → W.rangeAt w7.heap.size 0 [.int .i64 0, .slice none 0 0, .slice none 0 0] := fun W hW => dt.range_cells ((hW.block w7.heap.size l_h).trans Zh) 0 _ (fun j u h => by simpa using h)
          have RK : ∀ W, Below Z.heap.size Z W → W.rangeAt w8.heap.size 0 [.int .i64 0, .slice none 0 0, .slice none 0 0] := fun W hW => dt.range_cells ((hW.block w8.heap.size l_k).trans Zk) 0 _ (fun j u h => by simpa using h)
          have RT : ∀ W, Below Z.heap.size Z W → W.rangeAt w4.heap.size 0 [.int .i64 t.k, .int .i64 t.ln, .int .i64 t.co, .int .i64 t.fr, .int .i64 t.to, .string t.tx, .string t.va] := fun W hW => dt.range_cells ((hW.block w4.heap.size l_t).trans Zt) 0 _ (fun j u h => by simpa using h)
          have RP : ∀ W, Below Z.heap.size Z W → W.rangeAt w4.heap.size 1 [.int .i64 t.ln, .int .i64 t.co] := fun W hW => range_two ((dt.cell_cells ((hW.block w4.heap.size l_t).trans Zt) 1).trans rfl) ((dt.cell_cells ((hW.block w4.heap.size l_t).trans Zt) 2).trans rfl)
          have RB : ∀ W, Below Z.heap.size Z W → W.rangeAt b 0 [.int .i64 t.ln, .int .i64 t.co] := fun W hW => range_two ((hW.cell (p := ⟨b, 0, none⟩) l_b).trans Zb0) ((hW.cell (p := ⟨b, 1, none⟩) l_b).trans Zb1)
          have RL : ∀ W, Below Z.heap.size Z W → W.cell? ⟨w5.heap.size, 1, none⟩ = some (.slice (some ⟨b, 0, none⟩) 1 1) := fun W hW => (dt.cell_cells ((hW.block w5.heap.size l_f).trans Zf) 1).trans rfl
          have RF : ∀ W, Below Z.heap.size Z W → W.rangeAt w5.heap.size 0 [.int .i64 C.kd, .slice (some ⟨b, 0, none⟩) 1 1, .slice none 0 0] := fun W hW => dt.range_cells ((hW.block w5.heap.size l_f).trans Zf) 0 _ (fun j u h => by simpa using h)
          have RG : ∀ W, Below Z.heap.size Z W → W.rangeAt w6.heap.size 0 [.int .i64 C.kd, .slice (some ⟨b'', 0, none⟩) 1 1, .slice none 0 0] := fun W hW => dt.range_cells ((hW.block w6.heap.size l_g).trans Zg) 0 _ (fun j u h => by simpa using h)
          have RH : ∀ W, Below Z.heap.size Z W → W.rangeAt w7.heap.size 0 [.int .i64 0, .slice none 0 0, .slice none 0 0] := fun W hW => dt.range_cells ((hW.block w7.heap.size l_h).trans Zh) 0 _ (fun j u h => by simpa using h)
          have RK : ∀ W, Below Z.heap.size Z W → W.rangeAt w8.heap.size 0 [.int .i64 0, .slice none 0 0, .slice none 0 0] := fun W hW => dt.range_cells ((hW.block w8.heap.size l_k).trans Zk) 0 _ (fun j u h => by simpa using h)
          have RT : ∀ W, Below Z.heap.size Z W → W.rangeAt w4.heap.size 0 [.int .i64 t.k, .int .i64 t.ln, .int .i64 t.co, .int .i64 t.fr, .int .i64 t.to, .string t.tx, .string t.va] := fun W hW => dt.range_cells ((hW.block w4.heap.size l_t).trans Zt) 0 _ (fun j u h => by simpa using h)
          have RP : ∀ W, Below Z.heap.size Z W → W.rangeAt w4.heap.size 1 [.int .i64 t.ln, .int .i64 t.co] := fun W hW => range_two ((dt.cell_cells ((hW.block w4.heap.size l_t).trans Zt) 1).trans rfl) ((dt.cell_cells ((hW.block w4.heap.size l_t).trans Zt) 2).trans rfl)
          have RB : ∀ W, Below Z.heap.size Z W → W.rangeAt b 0 [.int .i64 t.ln, .int .i64 t.co] := fun W hW => range_two ((hW.cell (p := ⟨b, 0, none⟩) l_b).trans Zb0) ((hW.cell (p := ⟨b, 1, none⟩) l_b).trans Zb1)
          have RL : ∀ W, Below Z.heap.size Z W → W.cell? ⟨w5.heap.size, 1, none⟩ = some (.slice (some ⟨b, 0, none⟩) 1 1) := fun W hW => (dt.cell_cells ((hW.block w5.heap.size l_f).trans Zf) 1).trans rfl
          have RF : ∀ W, Below Z.heap.size Z W → W.rangeAt w5.heap.size 0 [.int .i64 C.kd, .slice (some ⟨b, 0, none⟩) 1 1, .slice none 0 0] := fun W hW => dt.range_cells ((hW.block w5.heap.size l_f).trans Zf) 0 _ (fun j u h => by simpa using h)
          have RG : ∀ W, Below Z.heap.size Z W → W.rangeAt w6.heap.size 0 [.int .i64 C.kd, .slice (some ⟨b'', 0, none⟩) 1 1, .slice none 0 0] := fun W hW => dt.range_cells ((hW.block w6.heap.size l_g).trans Zg) 0 _ (fun j u h => by simpa using h)
          have RH : ∀ W, Below Z.heap.size Z W → W.rangeAt w7.heap.size 0 [.int .i64 0, .slice none 0 0, .slice none 0 0] := fun W hW => dt.range_cells ((hW.block w7.heap.size l_h).trans Zh) 0 _ (fun j u h => by simpa using h)
          have RK : ∀ W, Below Z.heap.size Z W → W.rangeAt w8.heap.size 0 [.int .i64 0, .slice none 0 0, .slice none 0 0] := fun W hW => dt.range_cells ((hW.block w8.heap.size l_k).trans Zk) 0 _ (fun j u h => by simpa using h)
          have RT : ∀ W, Below Z.heap.size Z W → W.rangeAt w4.heap.size 0 [.int .i64 t.k, .int .i64 t.ln, .int .i64 t.co, .int .i64 t.fr, .int .i64 t.to, .string t.tx, .string t.va] := fun W hW => dt.range_cells ((hW.block w4.heap.size l_t).trans Zt) 0 _ (fun j u h => by simpa using h)
          have RP : ∀ W, Below Z.heap.size Z W → W.rangeAt w4.heap.size 1 [.int .i64 t.ln, .int .i64 t.co] := fun W hW => range_two ((dt.cell_cells ((hW.block w4.heap.size l_t).trans Zt) 1).trans rfl) ((dt.cell_cells ((hW.block w4.heap.size l_t).trans Zt) 2).trans rfl)
          have RB : ∀ W, Below Z.heap.size Z W → W.rangeAt b 0 [.int .i64 t.ln, .int .i64 t.co] := fun W hW => range_two ((hW.cell (p := ⟨b, 0, none⟩) l_b).trans Zb0) ((hW.cell (p := ⟨b, 1, none⟩) l_b).trans Zb1)
          have RL : ∀ W, Below Z.heap.size Z W → W.cell? ⟨w5.heap.size, 1, none⟩ = some (.slice (some ⟨b, 0, none⟩) 1 1) := fun W hW => (dt.cell_cells ((hW.block w5.heap.size l_f).trans Zf) 1).trans rfl
          have RF : ∀ W, Below Z.heap.size Z W → W.rangeAt w5.heap.size 0 [.int .i64 C.kd, .slice (some ⟨b, 0, none⟩) 1 1, .slice none 0 0] := fun W hW => dt.range_cells ((hW.block w5.heap.size l_f).trans Zf) 0 _ (fun j u h => by simpa using h)
          have RG : ∀ W, Below Z.heap.size Z W → W.rangeAt w6.heap.size 0 [.int .i64 C.kd, .slice (some ⟨b'', 0, none⟩) 1 1, .slice none 0 0] := fun W hW => dt.range_cells ((hW.block w6.heap.size l_g).trans Zg) 0 _ (fun j u h => by simpa using h)
          have RH : ∀ W, Below Z.heap.size Z W → W.rangeAt w7.heap.size 0 [.int .i64 0, .slice none 0 0, .slice none 0 0] := fun W hW => dt.range_cells ((hW.block w7.heap.size l_h).trans Zh) 0 _ (fun j u h => by simpa using h)
          have RK : ∀ W, Below Z.heap.size Z W → W.rangeAt w8.heap.size 0 [.int .i64 0, .slice none 0 0, .slice none 0 0] := fun W hW => dt.range_cells ((hW.block w8.heap.size l_k).trans Zk) 0 _ (fun j u h => by simpa using h)
          have RT : ∀ W, Below Z.heap.size Z W → W.rangeAt w4.heap.size 0 [.int .i64 t.k, .int .i64 t.ln, .int .i64 t.co, .int .i64 t.fr, .int .i64 t.to, .string t.tx, .string t.va] := fun W hW => dt.range_cells ((hW.block w4.heap.size l_t).trans Zt) 0 _ (fun j u h => by simpa using h)
          have RP : ∀ W, Below Z.heap.size Z W → W.rangeAt w4.heap.size 1 [.int .i64 t.ln, .int .i64 t.co] := fun W hW => range_two ((dt.cell_cells ((hW.block w4.heap.size l_t).trans Zt) 1).trans rfl) ((dt.cell_cells ((hW.block w4.heap.size l_t).trans Zt) 2).trans rfl)
          have RB : ∀ W, Below Z.heap.size Z W → W.rangeAt b 0 [.int .i64 t.ln, .int .i64 t.co] := fun W hW => range_two ((hW.cell (p := ⟨b, 0, none⟩) l_b).trans Zb0) ((hW.cell (p := ⟨b, 1, none⟩) l_b).trans Zb1)
          have RL : ∀ W, Below Z.heap.size Z W → W.cell? ⟨w5.heap.size, 1, none⟩ = some (.slice (some ⟨b, 0, none⟩) 1 1) := fun W hW => (dt.cell_cells ((hW.block w5.heap.size l_f).trans Zf) 1).trans rfl
          have hS0 : Below Z.heap.size Z { Z with drawn := Z.drawn + 1 } := (Below.refl _ _).drew
          try simp only [List.append_eq, List.cons_append, List.nil_append]
          refine wp_region_noPanic ?_
          refine wp_region_held (S := fun w' => Below Z.heap.size Z w') mixed ?_
          refine wpAnyH_take (i := 0) (v := ?v1) rfl (by kernel_rfl) (by kernel_rfl) (by kernel_rfl) (fun _ _ _ h => h) (Or.inl ⟨by rfl, ?hy1⟩) hS0 ?_
          case hy1 => (intro w' hw'; skip; go_simp; try with_reducible rfl)
          simp only [List.getElem_toArray, List.getElem_cons_zero, List.getElem_cons_succ, Act.put, List.setIfInBounds_toArray, List.set_cons_zero, List.set_cons_succ]
          refine wpAnyH_take (i := 1) (v := ?v2) rfl (by kernel_rfl) (by kernel_rfl) (by kernel_rfl) (fun _ _ _ h => h) (Or.inl ⟨by rfl, ?hy2⟩) hS0 ?_
          case hy2 => (intro w' hw'; skip; go_simp; try with_reducible rfl)
          simp only [List.getElem_toArray, List.getElem_cons_zero, List.getElem_cons_succ, Act.put, List.setIfInBounds_toArray, List.set_cons_zero, List.set_cons_succ]
          refine wpAnyH_take (i := 2) (v := ?v3) rfl (by kernel_rfl) (by kernel_rfl) (by kernel_rfl) (fun _ _ _ h => h) (Or.inl ⟨by rfl, ?hy3⟩) hS0 ?_
          case hy3 => (intro w' hw'; skip; go_simp; try with_reducible rfl)
          simp only [List.getElem_toArray, List.getElem_cons_zero, List.getElem_cons_succ, Act.put, List.setIfInBounds_toArray, List.set_cons_zero, List.set_cons_succ]
          refine wpAnyH_take (i := 3) (v := ?v4) rfl (by kernel_rfl) (by kernel_rfl) (by kernel_rfl) (fun _ _ _ h => h) (Or.inl ⟨by rfl, ?hy4⟩) hS0 ?_
          case hy4 => (intro w' hw'; skip; go_simp; try with_reducible rfl)
          simp only [List.getElem_toArray, List.getElem_cons_zero, List.getElem_cons_succ, Act.put, List.setIfInBounds_toArray, List.set_cons_zero, List.set_cons_succ]
          refine wpAnyH_take (i := 4) (v := ?v5) rfl (by kernel_rfl) (by kernel_rfl) (by kernel_rfl) (fun _ _ _ h => h) (Or.inl ⟨by rfl, ?hy5⟩) hS0 ?_
          case hy5 => (intro w' hw'; skip; go_simp; try with_reducible rfl)
          simp only [List.getElem_toArray, List.getElem_cons_zero, List.getElem_cons_succ, Act.put, List.setIfInBounds_toArray, List.set_cons_zero, List.set_cons_succ]
          refine wpAnyH_take (i := 5) rfl (by kernel_rfl) (by kernel_rfl) (by kernel_rfl) (fun _ _ _ h => h) (yieldsIf_load_mid (by rfl) 39 _ rfl w5.heap.size 0 (by rfl) [.int .i64 C.kd, .slice (some ⟨b, 0, none⟩) 1 1, .slice none 0 0] _ RF Tryz.underlying39 rfl infoFl) hS0 ?_
          simp only [List.getElem_toArray, List.getElem_cons_zero, List.getElem_cons_succ, Act.put, List.setIfInBounds_toArray, List.set_cons_zero, List.set_cons_succ]
          refine wpAnyH_take (i := 6) rfl (by kernel_rfl) (by kernel_rfl) (by kernel_rfl) (fun _ _ _ h => h) (yieldsIf_load_mid (by rfl) 39 _ rfl w6.heap.size 0 (by rfl) [.int .i64 C.kd, .slice (some ⟨b'', 0, none⟩) 1 1, .slice none 0 0] _ RG Tryz.underlying39 rfl infoFl) hS0 ?_
          simp only [List.getElem_toArray, List.getElem_cons_zero, List.getElem_cons_succ, Act.put, List.setIfInBounds_toArray, List.set_cons_zero, List.set_cons_succ]
          refine rgn.one (i := 7) _ rfl (by kernel_rfl) (by rfl) ?_
          simp only [List.getElem_toArray, List.getElem_cons_zero, List.getElem_cons_succ, Act.put, List.setIfInBounds_toArray, List.set_cons_zero, List.set_cons_succ]
          refine rgn.call_wp _ _ _ _ rfl Tryz.func12 (by kernel_rfl) (by kernel_rfl) #[.agg #[.int .i64 C.kd, .slice (some ⟨b, 0, none⟩) 1 1, .slice none 0 0], .agg #[.int .i64 C.kd, .slice (some ⟨b'', 0, none⟩) 1 1, .slice none 0 0]] (by first | kernel_rfl | (simp only [List.map_toArray, List.map_cons, List.map_nil]; rfl)) ?_
          refine ((unhide SF1) _ hS0).mono ?_
          rintro e' W1 ⟨rfl, c1⟩
          have hS1 := hS0.trans (c1.mono hS0.size)
          clear c1
          refine ⟨_, rfl, hS1, ?_⟩
          clear hS0
          have hS0 := hS1
          clear hS1
          try simp only [List.getElem_toArray, List.getElem_cons_zero, List.getElem_cons_succ, Act.put, List.setIfInBounds_toArray, List.set_cons_zero, List.set_cons_succ]
          refine wpAnyH_take (i := 8) (v := ?v6) rfl (by kernel_rfl) (by kernel_rfl) (by kernel_rfl) (fun _ _ _ h => h) (Or.inl ⟨by rfl, ?hy6⟩) hS0 ?_
          case hy6 => (intro w' hw'; skip; go_simp; try with_reducible rfl)
          simp only [List.getElem_toArray, List.getElem_cons_zero, List.getElem_cons_succ, Act.put, List.setIfInBounds_toArray, List.set_cons_zero, List.set_cons_succ]
          refine wpAnyH_take (i := 9) (v := ?v7) rfl (by kernel_rfl) (by kernel_rfl) (by kernel_rfl) (fun _ _ _ h => h) (Or.inl ⟨by rfl, ?hy7⟩) hS0 ?_
          case hy7 => (intro w' hw'; skip; go_simp; try with_reducible rfl)
          simp only [List.getElem_toArray, List.getElem_cons_zero, List.getElem_cons_succ, Act.put, List.setIfInBounds_toArray, List.set_cons_zero, List.set_cons_succ]
          refine wpAnyH_take (i := 10) (v := ?v8) rfl (by kernel_rfl) (by kernel_rfl) (by kernel_rfl) (fun _ _ _ h => h) (Or.inl ⟨by rfl, ?hy8⟩) hS0 ?_
          case hy8 => (intro w' hw'; skip; go_simp; try with_reducible rfl)
          simp only [List.getElem_toArray, List.getElem_cons_zero, List.getElem_cons_succ, Act.put, List.setIfInBounds_toArray, List.set_cons_zero, List.set_cons_succ]
          refine wpAnyH_take (i := 11) (v := ?v9) rfl (by kernel_rfl) (by kernel_rfl) (by kernel_rfl) (fun _ _ _ h => h) (Or.inl ⟨by rfl, ?hy9⟩) hS0 ?_
          case hy9 => (intro w' hw'; have q := RL w' hw'; go_simp; try with_reducible rfl)
          simp only [List.getElem_toArray, List.getElem_cons_zero, List.getElem_cons_succ, Act.put, List.setIfInBounds_toArray, List.set_cons_zero, List.set_cons_succ]
          refine wpAnyH_take (i := 12) (v := ?v10) rfl (by kernel_rfl) (by kernel_rfl) (by kernel_rfl) (fun _ _ _ h => h) (Or.inl ⟨by rfl, ?hy10⟩) hS0 ?_
          case hy10 => (intro w' hw'; skip; go_simp; try with_reducible rfl)
          simp only [List.getElem_toArray, List.getElem_cons_zero, List.getElem_cons_succ, Act.put, List.setIfInBounds_toArray, List.set_cons_zero, List.set_cons_succ]
          refine wpAnyH_take (i := 13) (v := ?v11) rfl (by kernel_rfl) (by kernel_rfl) (by kernel_rfl) (fun _ _ _ h => h) (Or.inl ⟨by rfl, ?hy11⟩) hS0 ?_
          case hy11 => (intro w' hw'; skip; go_simp; try with_reducible rfl)
          simp only [List.getElem_toArray, List.getElem_cons_zero, List.getElem_cons_succ, Act.put, List.setIfInBounds_toArray, List.set_cons_zero, List.set_cons_succ]
          refine wpAnyH_take (i := 14) (v := ?v12) rfl (by kernel_rfl) (by kernel_rfl) (by kernel_rfl) (fun _ _ _ h => h) (Or.inl ⟨by rfl, ?hy12⟩) hS0 ?_
          case hy12 => (intro w' hw'; skip; go_simp; try with_reducible rfl)
          simp only [List.getElem_toArray, List.getElem_cons_zero, List.getElem_cons_succ, Act.put, List.setIfInBounds_toArray, List.set_cons_zero, List.set_cons_succ]
          refine wpAnyH_take (i := 15) (v := ?v13) rfl (by kernel_rfl) (by kernel_rfl) (by kernel_rfl) (fun _ _ _ h => h) (Or.inl ⟨by rfl, ?hy13⟩) hS0 ?_
          case hy13 => (intro w' hw'; skip; go_simp; try with_reducible rfl)
          simp only [List.getElem_toArray, List.getElem_cons_zero, List.getElem_cons_succ, Act.put, List.setIfInBounds_toArray, List.set_cons_zero, List.set_cons_succ]
          refine wpAnyH_take (i := 16) (v := ?v14) rfl (by kernel_rfl) (by kernel_rfl) (by kernel_rfl) (fun _ _ _ h => h) (Or.inl ⟨by rfl, ?hy14⟩) hS0 ?_
          case hy14 => (intro w' hw'; skip; go_simp; try with_reducible rfl)
          simp only [List.getElem_toArray, List.getElem_cons_zero, List.getElem_cons_succ, Act.put, List.setIfInBounds_toArray, List.set_cons_zero, List.set_cons_succ]
          refine wpAnyH_take (i := 17) (v := ?v15) rfl (by kernel_rfl) (by kernel_rfl) (by kernel_rfl) (fun _ _ _ h => h) (Or.inl ⟨by rfl, ?hy15⟩) hS0 ?_
          case hy15 => (intro w' hw'; have q := RL w' hw'; go_simp; try with_reducible rfl)
          simp only [List.getElem_toArray, List.getElem_cons_zero, List.getElem_cons_succ, Act.put, List.setIfInBounds_toArray, List.set_cons_zero, List.set_cons_succ]
          refine wpAnyH_take (i := 18) (v := ?v16) rfl (by kernel_rfl) (by kernel_rfl) (by kernel_rfl) (fun _ _ _ h => h) (Or.inl ⟨by rfl, ?hy16⟩) hS0 ?_
          case hy16 => (intro w' hw'; skip; go_simp; try with_reducible rfl)
          simp only [List.getElem_toArray, List.getElem_cons_zero, List.getElem_cons_succ, Act.put, List.setIfInBounds_toArray, List.set_cons_zero, List.set_cons_succ]
          refine wpAnyH_take (i := 19) rfl (by kernel_rfl) (by kernel_rfl) (by kernel_rfl) (fun _ _ _ h => h) (yieldsIf_load_mid (by rfl) 30 _ rfl b 0 (by rfl) [.int .i64 t.ln, .int .i64 t.co] _ RB Tryz.underlying30 rfl infoPo6) hS0 ?_
          simp only [List.getElem_toArray, List.getElem_cons_zero, List.getElem_cons_succ, Act.put, List.setIfInBounds_toArray, List.set_cons_zero, List.set_cons_succ]
          refine wpAnyH_take (i := 20) (v := ?v17) rfl (by kernel_rfl) (by kernel_rfl) (by kernel_rfl) (fun _ _ _ h => h) (Or.inl ⟨by rfl, ?hy17⟩) hS0 ?_
          case hy17 => (intro w' hw'; skip; go_simp; try with_reducible rfl)
          simp only [List.getElem_toArray, List.getElem_cons_zero, List.getElem_cons_succ, Act.put, List.setIfInBounds_toArray, List.set_cons_zero, List.set_cons_succ]
          refine wpAnyH_take (i := 21) rfl (by kernel_rfl) (by kernel_rfl) (by kernel_rfl) (fun _ _ _ h => h) (yieldsIf_load_mid (by rfl) 30 _ rfl w4.heap.size 1 (by rfl) [.int .i64 t.ln, .int .i64 t.co] _ RP Tryz.underlying30 rfl infoPo6) hS0 ?_
          simp only [List.getElem_toArray, List.getElem_cons_zero, List.getElem_cons_succ, Act.put, List.setIfInBounds_toArray, List.set_cons_zero, List.set_cons_succ]
          refine wpAnyH_take (i := 22) (v := ?v18) rfl (by kernel_rfl) (by kernel_rfl) (by kernel_rfl) (fun _ _ _ h => h) (Or.inl ⟨by rfl, ?hy18⟩) hS0 ?_
          case hy18 => (intro w' hw'; skip; go_simp; try with_reducible rfl)
          simp only [List.getElem_toArray, List.getElem_cons_zero, List.getElem_cons_succ, Act.put, List.setIfInBounds_toArray, List.set_cons_zero, List.set_cons_succ]
          refine wpAnyH_take (i := 23) (v := ?v19) rfl (by kernel_rfl) (by kernel_rfl) (by kernel_rfl) (fun _ _ _ h => h) (Or.inl ⟨by rfl, ?hy19⟩) hS0 ?_
          case hy19 => (intro w' hw'; skip; go_simp; try with_reducible rfl)
          simp only [List.getElem_toArray, List.getElem_cons_zero, List.getElem_cons_succ, Act.put, List.setIfInBounds_toArray, List.set_cons_zero, List.set_cons_succ]
          refine wpAnyH_take (i := 24) (v := ?v20) rfl (by kernel_rfl) (by kernel_rfl) (by kernel_rfl) (fun _ _ _ h => h) (Or.inl ⟨by rfl, ?hy20⟩) hS0 ?_
          case hy20 => (intro w' hw'; skip; go_simp; try with_reducible rfl)
          simp only [List.getElem_toArray, List.getElem_cons_zero, List.getElem_cons_succ, Act.put, List.setIfInBounds_toArray, List.set_cons_zero, List.set_cons_succ]
          refine wpAnyH_take (i := 25) (v := ?v21) rfl (by kernel_rfl) (by kernel_rfl) (by kernel_rfl) (fun _ _ _ h => h) (Or.inl ⟨by rfl, ?hy21⟩) hS0 ?_
          case hy21 => (intro w' hw'; skip; go_simp; try with_reducible rfl)
          simp only [List.getElem_toArray, List.getElem_cons_zero, List.getElem_cons_succ, Act.put, List.setIfInBounds_toArray, List.set_cons_zero, List.set_cons_succ]
          refine wpAnyH_take (i := 27) rfl (by kernel_rfl) (by kernel_rfl) (by kernel_rfl) (fun _ _ _ h => h) (yieldsIf_load_mid (by rfl) 32 _ rfl w4.heap.size 0 (by rfl) [.int .i64 t.k, .int .i64 t.ln, .int .i64 t.co, .int .i64 t.fr, .int .i64 t.to, .string t.tx, .string t.va] _ RT Tryz.underlying32 rfl lx.infoTk) hS0 ?_
          simp only [List.getElem_toArray, List.getElem_cons_zero, List.getElem_cons_succ, Act.put, List.setIfInBounds_toArray, List.set_cons_zero, List.set_cons_succ]
          refine rgn.one (i := 26) _ rfl (by kernel_rfl) (by rfl) ?_
          simp only [List.getElem_toArray, List.getElem_cons_zero, List.getElem_cons_succ, Act.put, List.setIfInBounds_toArray, List.set_cons_zero, List.set_cons_succ]
          refine rgn.call_wp _ _ _ _ rfl Tryz.func8 (by kernel_rfl) (by kernel_rfl) #[.pointer (some ⟨B, 0, none⟩)] (by first | kernel_rfl | (simp only [List.map_toArray, List.map_cons, List.map_nil]; rfl)) ?_
          refine ((unhide htk2) _ ((unhide CZ) _ hS0)).mono ?_
          rintro e' W2 ⟨rfl, c2⟩
          have hS1 := hS0.trans (c2.mono hS0.size)
          clear c2
          refine ⟨_, rfl, hS1, ?_⟩
          clear hS0
          have hS0 := hS1
          clear hS1
          try simp only [List.getElem_toArray, List.getElem_cons_zero, List.getElem_cons_succ, Act.put, List.setIfInBounds_toArray, List.set_cons_zero, List.set_cons_succ]
          refine wpAnyH_take (i := 28) (v := ?v22) rfl (by kernel_rfl) (by kernel_rfl) (by kernel_rfl) (fun _ _ _ h => h) (Or.inl ⟨by rfl, ?hy22⟩) hS0 ?_
          case hy22 => (intro w' hw'; skip; go_simp; try with_reducible rfl)
          simp only [List.getElem_toArray, List.getElem_cons_zero, List.getElem_cons_succ, Act.put, List.setIfInBounds_toArray, List.set_cons_zero, List.set_cons_succ]
          refine wpAnyH_take (i := 29) (v := ?v23) rfl (by kernel_rfl) (by kernel_rfl) (by kernel_rfl) (fun _ _ _ h => h) (Or.inl ⟨by rfl, ?hy23⟩) hS0 ?_
          case hy23 => (intro w' hw'; skip; go_simp; try with_reducible rfl)
          simp only [List.getElem_toArray, List.getElem_cons_zero, List.getElem_cons_succ, Act.put, List.setIfInBounds_toArray, List.set_cons_zero, List.set_cons_succ]
          refine wpAnyH_take (i := 30) (v := ?v24) rfl (by kernel_rfl) (by kernel_rfl) (by kernel_rfl) (fun _ _ _ h => h) (Or.inl ⟨by rfl, ?hy24⟩) hS0 ?_
          case hy24 => (intro w' hw'; skip; go_simp; try with_reducible rfl)
          simp only [List.getElem_toArray, List.getElem_cons_zero, List.getElem_cons_succ, Act.put, List.setIfInBounds_toArray, List.set_cons_zero, List.set_cons_succ]
          refine wpAnyH_take (i := 31) (v := ?v25) rfl (by kernel_rfl) (by kernel_rfl) (by kernel_rfl) (fun _ _ _ h => h) (Or.inl ⟨by rfl, ?hy25⟩) hS0 ?_
          case hy25 => (intro w' hw'; skip; go_simp; try with_reducible rfl)
          simp only [List.getElem_toArray, List.getElem_cons_zero, List.getElem_cons_succ, Act.put, List.setIfInBounds_toArray, List.set_cons_zero, List.set_cons_succ]
          refine wpAnyH_take (i := 33) (v := ?v26) rfl (by kernel_rfl) (by kernel_rfl) (by kernel_rfl) (fun _ _ _ h => h) (Or.inl ⟨by rfl, ?hy26⟩) hS0 ?_
          case hy26 => (intro w' hw'; skip; go_simp; try with_reducible rfl)
          simp only [List.getElem_toArray, List.getElem_cons_zero, List.getElem_cons_succ, Act.put, List.setIfInBounds_toArray, List.set_cons_zero, List.set_cons_succ]
          refine rgn.one (i := 32) _ rfl (by kernel_rfl) (by rfl) ?_
          simp only [List.getElem_toArray, List.getElem_cons_zero, List.getElem_cons_succ, Act.put, List.setIfInBounds_toArray, List.set_cons_zero, List.set_cons_succ]
          refine rgn.call_wp _ _ _ _ rfl Tryz.func9 (by kernel_rfl) (by kernel_rfl) #[.pointer (some ⟨B, 0, none⟩)] (by first | kernel_rfl | (simp only [List.map_toArray, List.map_cons, List.map_nil]; rfl)) ?_
          refine ((unhide hns) _ ((unhide CZ) _ hS0)).mono ?_
          rintro e' W3 ⟨rfl, hW⟩
          subst hW
          have hS1 := hS0
          refine ⟨_, rfl, hS1, ?_⟩
          clear hS0
          have hS0 := hS1
          clear hS1
          try simp only [List.getElem_toArray, List.getElem_cons_zero, List.getElem_cons_succ, Act.put, List.setIfInBounds_toArray, List.set_cons_zero, List.set_cons_succ]
          refine wpAnyH_take (i := 34) (v := ?v27) rfl (by kernel_rfl) (by kernel_rfl) (by kernel_rfl) (fun _ _ _ h => h) (Or.inl ⟨by rfl, ?hy27⟩) hS0 ?_
          case hy27 => (intro w' hw'; skip; go_simp; try with_reducible rfl)
          simp only [List.getElem_toArray, List.getElem_cons_zero, List.getElem_cons_succ, Act.put, List.setIfInBounds_toArray, List.set_cons_zero, List.set_cons_succ]
          refine wpAnyH_take (i := 35) (v := ?v28) rfl (by kernel_rfl) (by kernel_rfl) (by kernel_rfl) (fun _ _ _ h => h) (Or.inl ⟨by rfl, ?hy28⟩) hS0 ?_
          case hy28 => (intro w' hw'; skip; go_simp; try with_reducible rfl)
          simp only [List.getElem_toArray, List.getElem_cons_zero, List.getElem_cons_succ, Act.put, List.setIfInBounds_toArray, List.set_cons_zero, List.set_cons_succ]
          refine wpAnyH_take (i := 36) (v := ?v29) rfl (by kernel_rfl) (by kernel_rfl) (by kernel_rfl) (fun _ _ _ h => h) (Or.inl ⟨by rfl, ?hy29⟩) hS0 ?_
          case hy29 => (intro w' hw'; skip; go_simp; try with_reducible rfl)
          simp only [List.getElem_toArray, List.getElem_cons_zero, List.getElem_cons_succ, Act.put, List.setIfInBounds_toArray, List.set_cons_zero, List.set_cons_succ]
          refine wpAnyH_take (i := 37) (v := ?v30) rfl (by kernel_rfl) (by kernel_rfl) (by kernel_rfl) (fun _ _ _ h => h) (Or.inl ⟨by rfl, ?hy30⟩) hS0 ?_
          case hy30 => (intro w' hw'; skip; go_simp; try with_reducible rfl)
          simp only [List.getElem_toArray, List.getElem_cons_zero, List.getElem_cons_succ, Act.put, List.setIfInBounds_toArray, List.set_cons_zero, List.set_cons_succ]
          refine wpAnyH_take (i := 38) (v := ?v31) rfl (by kernel_rfl) (by kernel_rfl) (by kernel_rfl) (fun _ _ _ h => h) (Or.inl ⟨by rfl, ?hy31⟩) hS0 ?_
          case hy31 => (intro w' hw'; skip; go_simp; try with_reducible rfl)
          simp only [List.getElem_toArray, List.getElem_cons_zero, List.getElem_cons_succ, Act.put, List.setIfInBounds_toArray, List.set_cons_zero, List.set_cons_succ]
          refine wpAnyH_take (i := 39) (v := ?v32) rfl (by kernel_rfl) (by kernel_rfl) (by kernel_rfl) (fun _ _ _ h => h) (Or.inl ⟨by rfl, ?hy32⟩) hS0 ?_
          case hy32 => (intro w' hw'; skip; go_simp; try with_reducible rfl)
          simp only [List.getElem_toArray, List.getElem_cons_zero, List.getElem_cons_succ, Act.put, List.setIfInBounds_toArray, List.set_cons_zero, List.set_cons_succ]
          refine wpAnyH_take (i := 40) (v := ?v33) rfl (by kernel_rfl) (by kernel_rfl) (by kernel_rfl) (fun _ _ _ h => h) (Or.inl ⟨by rfl, ?hy33⟩) hS0 ?_
          case hy33 => (intro w' hw'; skip; go_simp; try with_reducible rfl)
          simp only [List.getElem_toArray, List.getElem_cons_zero, List.getElem_cons_succ, Act.put, List.setIfInBounds_toArray, List.set_cons_zero, List.set_cons_succ]
          refine wpAnyH_take (i := 41) (v := ?v34) rfl (by kernel_rfl) (by kernel_rfl) (by kernel_rfl) (fun _ _ _ h => h) (Or.inl ⟨by rfl, ?hy34⟩) hS0 ?_
          case hy34 => (intro w' hw'; skip; go_simp; try with_reducible rfl)
          simp only [List.getElem_toArray, List.getElem_cons_zero, List.getElem_cons_succ, Act.put, List.setIfInBounds_toArray, List.set_cons_zero, List.set_cons_succ]
          refine wpAnyH_take (i := 42) (v := ?v35) rfl (by kernel_rfl) (by kernel_rfl) (by kernel_rfl) (fun _ _ _ h => h) (Or.inl ⟨by rfl, ?hy35⟩) hS0 ?_
          case hy35 => (intro w' hw'; skip; go_simp; try with_reducible rfl)
          simp only [List.getElem_toArray, List.getElem_cons_zero, List.getElem_cons_succ, Act.put, List.setIfInBounds_toArray, List.set_cons_zero, List.set_cons_succ]
          refine wpAnyH_take (i := 43) (v := ?v36) rfl (by kernel_rfl) (by kernel_rfl) (by kernel_rfl) (fun _ _ _ h => h) (Or.inl ⟨by rfl, ?hy36⟩) hS0 ?_
          case hy36 => (intro w' hw'; skip; go_simp; try with_reducible rfl)
          simp only [List.getElem_toArray, List.getElem_cons_zero, List.getElem_cons_succ, Act.put, List.setIfInBounds_toArray, List.set_cons_zero, List.set_cons_succ]
          refine wpAnyH_take (i := 44) (v := ?v37) rfl (by kernel_rfl) (by kernel_rfl) (by kernel_rfl) (fun _ _ _ h => h) (Or.inl ⟨by rfl, ?hy37⟩) hS0 ?_
          case hy37 => (intro w' hw'; skip; go_simp; try with_reducible rfl)
          simp only [List.getElem_toArray, List.getElem_cons_zero, List.getElem_cons_succ, Act.put, List.setIfInBounds_toArray, List.set_cons_zero, List.set_cons_succ]
          refine wpAnyH_take (i := 45) rfl (by kernel_rfl) (by kernel_rfl) (by kernel_rfl) (fun _ _ _ h => h) (yieldsIf_load_mid (by rfl) 39 _ rfl w7.heap.size 0 (by rfl) [.int .i64 0, .slice none 0 0, .slice none 0 0] _ RH Tryz.underlying39 rfl infoFl) hS0 ?_
          simp only [List.getElem_toArray, List.getElem_cons_zero, List.getElem_cons_succ, Act.put, List.setIfInBounds_toArray, List.set_cons_zero, List.set_cons_succ]
          refine wpAnyH_take (i := 46) (v := ?v38) rfl (by kernel_rfl) (by kernel_rfl) (by kernel_rfl) (fun _ _ _ h => h) (Or.inl ⟨by rfl, ?hy38⟩) hS0 ?_
          case hy38 => (intro w' hw'; skip; go_simp; try with_reducible rfl)
          simp only [List.getElem_toArray, List.getElem_cons_zero, List.getElem_cons_succ, Act.put, List.setIfInBounds_toArray, List.set_cons_zero, List.set_cons_succ]
          refine rgn.one (i := 47) _ rfl (by kernel_rfl) (by rfl) ?_
          simp only [List.getElem_toArray, List.getElem_cons_zero, List.getElem_cons_succ, Act.put, List.setIfInBounds_toArray, List.set_cons_zero, List.set_cons_succ]
          refine rgn.call_wp _ _ _ _ rfl Tryz.func12 (by kernel_rfl) (by kernel_rfl) #[.agg #[.int .i64 0, .slice none 0 0, .slice none 0 0], .agg #[.int .i64 0, .slice none 0 0, .slice none 0 0]] (by first | kernel_rfl | (simp only [List.map_toArray, List.map_cons, List.map_nil]; rfl)) ?_
          refine ((unhide SF0) _).mono ?_
          rintro e' W4 ⟨rfl, c4⟩
          have hS1 := hS0.trans (c4.mono hS0.size)
          clear c4
          refine ⟨_, rfl, hS1, ?_⟩
          clear hS0
          have hS0 := hS1
          clear hS1
          try simp only [List.getElem_toArray, List.getElem_cons_zero, List.getElem_cons_succ, Act.put, List.setIfInBounds_toArray, List.set_cons_zero, List.set_cons_succ]
          refine wpAnyH_take (i := 48) (v := ?v39) rfl (by kernel_rfl) (by kernel_rfl) (by kernel_rfl) (fun _ _ _ h => h) (Or.inl ⟨by rfl, ?hy39⟩) hS0 ?_
          case hy39 => (intro w' hw'; skip; go_simp; try with_reducible rfl)
          simp only [List.getElem_toArray, List.getElem_cons_zero, List.getElem_cons_succ, Act.put, List.setIfInBounds_toArray, List.set_cons_zero, List.set_cons_succ]
          refine wpAnyH_take (i := 49) (v := ?v40) rfl (by kernel_rfl) (by kernel_rfl) (by kernel_rfl) (fun _ _ _ h => h) (Or.inl ⟨by rfl, ?hy40⟩) hS0 ?_
          case hy40 => (intro w' hw'; skip; go_simp; try with_reducible rfl)
          simp only [List.getElem_toArray, List.getElem_cons_zero, List.getElem_cons_succ, Act.put, List.setIfInBounds_toArray, List.set_cons_zero, List.set_cons_succ]
          refine wpAnyH_take (i := 50) rfl (by kernel_rfl) (by kernel_rfl) (by kernel_rfl) (fun _ _ _ h => h) (yieldsIf_load_mid (by rfl) 39 _ rfl w8.heap.size 0 (by rfl) [.int .i64 0, .slice none 0 0, .slice none 0 0] _ RK Tryz.underlying39 rfl infoFl) hS0 ?_
          simp only [List.getElem_toArray, List.getElem_cons_zero, List.getElem_cons_succ, Act.put, List.setIfInBounds_toArray, List.set_cons_zero, List.set_cons_succ]
          refine wpAnyH_take (i := 51) (v := ?v41) rfl (by kernel_rfl) (by kernel_rfl) (by kernel_rfl) (fun _ _ _ h => h) (Or.inl ⟨by rfl, ?hy41⟩) hS0 ?_
          case hy41 => (intro w' hw'; skip; go_simp; try with_reducible rfl)
          simp only [List.getElem_toArray, List.getElem_cons_zero, List.getElem_cons_succ, Act.put, List.setIfInBounds_toArray, List.set_cons_zero, List.set_cons_succ]
          refine rgn.one (i := 52) _ rfl (by kernel_rfl) (by rfl) ?_
          simp only [List.getElem_toArray, List.getElem_cons_zero, List.getElem_cons_succ, Act.put, List.setIfInBounds_toArray, List.set_cons_zero, List.set_cons_succ]
          refine rgn.call_wp _ _ _ _ rfl Tryz.func12 (by kernel_rfl) (by kernel_rfl) #[.agg #[.int .i64 0, .slice none 0 0, .slice none 0 0], .agg #[.int .i64 0, .slice none 0 0, .slice none 0 0]] (by first | kernel_rfl | (simp only [List.map_toArray, List.map_cons, List.map_nil]; rfl)) ?_
          refine ((unhide SF0) _).mono ?_
          rintro e' W5 ⟨rfl, c5⟩
          have hS1 := hS0.trans (c5.mono hS0.size)
          clear c5
          refine ⟨_, rfl, hS1, ?_⟩
          clear hS0
          have hS0 := hS1
          clear hS1
          try simp only [List.getElem_toArray, List.getElem_cons_zero, List.getElem_cons_succ, Act.put, List.setIfInBounds_toArray, List.set_cons_zero, List.set_cons_succ]
          refine wpAnyH_take (i := 53) (v := ?v42) rfl (by kernel_rfl) (by kernel_rfl) (by kernel_rfl) (fun _ _ _ h => h) (Or.inl ⟨by rfl, ?hy42⟩) hS0 ?_
          case hy42 => (intro w' hw'; skip; go_simp; try with_reducible rfl)
          simp only [List.getElem_toArray, List.getElem_cons_zero, List.getElem_cons_succ, Act.put, List.setIfInBounds_toArray, List.set_cons_zero, List.set_cons_succ]
          refine wpAnyH_take (i := 54) (v := ?v43) rfl (by kernel_rfl) (by kernel_rfl) (by kernel_rfl) (fun _ _ _ h => h) (Or.inl ⟨by rfl, ?hy43⟩) hS0 ?_
          case hy43 => (intro w' hw'; skip; go_simp; try with_reducible rfl)
          simp only [List.getElem_toArray, List.getElem_cons_zero, List.getElem_cons_succ, Act.put, List.setIfInBounds_toArray, List.set_cons_zero, List.set_cons_succ]
          refine wpAnyH_take (i := 55) (v := ?v44) rfl (by kernel_rfl) (by kernel_rfl) (by kernel_rfl) (fun _ _ _ h => h) (Or.inl ⟨by rfl, ?hy44⟩) hS0 ?_
          case hy44 => (intro w' hw'; skip; go_simp; try with_reducible rfl)
          simp only [List.getElem_toArray, List.getElem_cons_zero, List.getElem_cons_succ, Act.put, List.setIfInBounds_toArray, List.set_cons_zero, List.set_cons_succ]
          refine wpAnyH_take (i := 57) (v := ?v45) rfl (by kernel_rfl) (by kernel_rfl) (by kernel_rfl) (fun _ _ _ h => h) (Or.inl ⟨by rfl, ?hy45⟩) hS0 ?_
          case hy45 => (intro w' hw'; skip; go_simp; try with_reducible rfl)
          simp only [List.getElem_toArray, List.getElem_cons_zero, List.getElem_cons_succ, Act.put, List.setIfInBounds_toArray, List.set_cons_zero, List.set_cons_succ]
          refine rgn.one (i := 56) _ rfl (by kernel_rfl) (by rfl) ?_
          simp only [List.getElem_toArray, List.getElem_cons_zero, List.getElem_cons_succ, Act.put, List.setIfInBounds_toArray, List.set_cons_zero, List.set_cons_succ]
          refine rgn.call_wp _ _ _ _ rfl Tryz.func8 (by kernel_rfl) (by kernel_rfl) #[.pointer none] (by first | kernel_rfl | (simp only [List.map_toArray, List.map_cons, List.map_nil]; rfl)) ?_
          refine ((unhide TB) (.pointer none) _ (blank_nil _)).mono ?_
          rintro e' W6 ⟨rfl, c6⟩
          have hS1 := hS0.trans (c6.mono hS0.size)
          clear c6
          refine ⟨_, rfl, hS1, ?_⟩
          clear hS0
          have hS0 := hS1
          clear hS1
          try simp only [List.getElem_toArray, List.getElem_cons_zero, List.getElem_cons_succ, Act.put, List.setIfInBounds_toArray, List.set_cons_zero, List.set_cons_succ]
          refine wpAnyH_take (i := 58) (v := ?v46) rfl (by kernel_rfl) (by kernel_rfl) (by kernel_rfl) (fun _ _ _ h => h) (Or.inl ⟨by rfl, ?hy46⟩) hS0 ?_
          case hy46 => (intro w' hw'; skip; go_simp; try with_reducible rfl)
          simp only [List.getElem_toArray, List.getElem_cons_zero, List.getElem_cons_succ, Act.put, List.setIfInBounds_toArray, List.set_cons_zero, List.set_cons_succ]
          refine wpAnyH_take (i := 59) (v := ?v47) rfl (by kernel_rfl) (by kernel_rfl) (by kernel_rfl) (fun _ _ _ h => h) (Or.inl ⟨by rfl, ?hy47⟩) hS0 ?_
          case hy47 => (intro w' hw'; skip; go_simp; try with_reducible rfl)
          simp only [List.getElem_toArray, List.getElem_cons_zero, List.getElem_cons_succ, Act.put, List.setIfInBounds_toArray, List.set_cons_zero, List.set_cons_succ]
          refine wpAnyH_take (i := 60) (v := ?v48) rfl (by kernel_rfl) (by kernel_rfl) (by kernel_rfl) (fun _ _ _ h => h) (Or.inl ⟨by rfl, ?hy48⟩) hS0 ?_
          case hy48 => (intro w' hw'; skip; go_simp; try with_reducible rfl)
          simp only [List.getElem_toArray, List.getElem_cons_zero, List.getElem_cons_succ, Act.put, List.setIfInBounds_toArray, List.set_cons_zero, List.set_cons_succ]
          refine wpAnyH_take (i := 61) (v := ?v49) rfl (by kernel_rfl) (by kernel_rfl) (by kernel_rfl) (fun _ _ _ h => h) (Or.inl ⟨by rfl, ?hy49⟩) hS0 ?_
          case hy49 => (intro w' hw'; skip; go_simp; try with_reducible rfl)
          simp only [List.getElem_toArray, List.getElem_cons_zero, List.getElem_cons_succ, Act.put, List.setIfInBounds_toArray, List.set_cons_zero, List.set_cons_succ]
          refine wpAnyH_take (i := 63) (v := ?v50) rfl (by kernel_rfl) (by kernel_rfl) (by kernel_rfl) (fun _ _ _ h => h) (Or.inl ⟨by rfl, ?hy50⟩) hS0 ?_
          case hy50 => (intro w' hw'; skip; go_simp; try with_reducible rfl)
          simp only [List.getElem_toArray, List.getElem_cons_zero, List.getElem_cons_succ, Act.put, List.setIfInBounds_toArray, List.set_cons_zero, List.set_cons_succ]
          refine rgn.one (i := 62) _ rfl (by kernel_rfl) (by rfl) ?_
          simp only [List.getElem_toArray, List.getElem_cons_zero, List.getElem_cons_succ, Act.put, List.setIfInBounds_toArray, List.set_cons_zero, List.set_cons_succ]
          refine rgn.call_wp _ _ _ _ rfl Tryz.func8 (by kernel_rfl) (by kernel_rfl) #[.pointer (some ⟨w5.heap.size + 1, 0, none⟩)] (by first | kernel_rfl | (simp only [List.map_toArray, List.map_cons, List.map_nil]; rfl)) ?_
          refine ((unhide TB) _ _ ((unhide BZ) _ hS0)).mono ?_
          rintro e' W7 ⟨rfl, c7⟩
          have hS1 := hS0.trans (c7.mono hS0.size)
          clear c7
          refine ⟨_, rfl, hS1, ?_⟩
          clear hS0
          have hS0 := hS1
          clear hS1
          try simp only [List.getElem_toArray, List.getElem_cons_zero, List.getElem_cons_succ, Act.put, List.setIfInBounds_toArray, List.set_cons_zero, List.set_cons_succ]
          refine wpAnyH_take (i := 64) (v := ?v51) rfl (by kernel_rfl) (by kernel_rfl) (by kernel_rfl) (fun _ _ _ h => h) (Or.inl ⟨by rfl, ?hy51⟩) hS0 ?_
          case hy51 => (intro w' hw'; skip; go_simp; try with_reducible rfl)
          simp only [List.getElem_toArray, List.getElem_cons_zero, List.getElem_cons_succ, Act.put, List.setIfInBounds_toArray, List.set_cons_zero, List.set_cons_succ]
          refine wpAnyH_take (i := 65) (v := ?v52) rfl (by kernel_rfl) (by kernel_rfl) (by kernel_rfl) (fun _ _ _ h => h) (Or.inl ⟨by rfl, ?hy52⟩) hS0 ?_
          case hy52 => (intro w' hw'; skip; go_simp; try with_reducible rfl)
          simp only [List.getElem_toArray, List.getElem_cons_zero, List.getElem_cons_succ, Act.put, List.setIfInBounds_toArray, List.set_cons_zero, List.set_cons_succ]
          refine wpAnyH_take (i := 66) (v := ?v53) rfl (by kernel_rfl) (by kernel_rfl) (by kernel_rfl) (fun _ _ _ h => h) (Or.inl ⟨by rfl, ?hy53⟩) hS0 ?_
          case hy53 => (intro w' hw'; skip; go_simp; try with_reducible rfl)
          simp only [List.getElem_toArray, List.getElem_cons_zero, List.getElem_cons_succ, Act.put, List.setIfInBounds_toArray, List.set_cons_zero, List.set_cons_succ]
          refine wpAnyH_take (i := 67) (v := ?v54) rfl (by kernel_rfl) (by kernel_rfl) (by kernel_rfl) (fun _ _ _ h => h) (Or.inl ⟨by rfl, ?hy54⟩) hS0 ?_
          case hy54 => (intro w' hw'; skip; go_simp; try with_reducible rfl)
          simp only [List.getElem_toArray, List.getElem_cons_zero, List.getElem_cons_succ, Act.put, List.setIfInBounds_toArray, List.set_cons_zero, List.set_cons_succ]
          refine rgn.one (i := 68) _ rfl (by kernel_rfl) (by rfl) ?_
          simp only [List.getElem_toArray, List.getElem_cons_zero, List.getElem_cons_succ, Act.put, List.setIfInBounds_toArray, List.set_cons_zero, List.set_cons_succ]
          refine rgn.call_wp _ _ _ _ rfl Tryz.func9 (by kernel_rfl) (by kernel_rfl) #[.pointer none] (by first | kernel_rfl | (simp only [List.map_toArray, List.map_cons, List.map_nil]; rfl)) ?_
          refine (nest_nil _).mono ?_
          rintro e' W8 ⟨rfl, hW⟩
          subst hW
          have hS1 := hS0
          refine ⟨_, rfl, hS1, ?_⟩
          clear hS0
          have hS0 := hS1
          clear hS1
          try simp only [List.getElem_toArray, List.getElem_cons_zero, List.getElem_cons_succ, Act.put, List.setIfInBounds_toArray, List.set_cons_zero, List.set_cons_succ]
          refine wpAnyH_take (i := 69) (v := ?v55) rfl (by kernel_rfl) (by kernel_rfl) (by kernel_rfl) (fun _ _ _ h => h) (Or.inl ⟨by rfl, ?hy55⟩) hS0 ?_
          case hy55 => (intro w' hw'; skip; go_simp; try with_reducible rfl)
          simp only [List.getElem_toArray, List.getElem_cons_zero, List.getElem_cons_succ, Act.put, List.setIfInBounds_toArray, List.set_cons_zero, List.set_cons_succ]
          refine wpAnyH_take (i := 70) (v := ?v56) rfl (by kernel_rfl) (by kernel_rfl) (by kernel_rfl) (fun _ _ _ h => h) (Or.inl ⟨by rfl, ?hy56⟩) hS0 ?_
          case hy56 => (intro w' hw'; skip; go_simp; try with_reducible rfl)
          simp only [List.getElem_toArray, List.getElem_cons_zero, List.getElem_cons_succ, Act.put, List.setIfInBounds_toArray, List.set_cons_zero, List.set_cons_succ]
          refine wpAnyH_take (i := 71) (v := ?v57) rfl (by kernel_rfl) (by kernel_rfl) (by kernel_rfl) (fun _ _ _ h => h) (Or.inl ⟨by rfl, ?hy57⟩) hS0 ?_
          case hy57 => (intro w' hw'; skip; go_simp; try with_reducible rfl)
          simp only [List.getElem_toArray, List.getElem_cons_zero, List.getElem_cons_succ, Act.put, List.setIfInBounds_toArray, List.set_cons_zero, List.set_cons_succ]
          refine wpAnyH_take (i := 72) (v := ?v58) rfl (by kernel_rfl) (by kernel_rfl) (by kernel_rfl) (fun _ _ _ h => h) (Or.inl ⟨by rfl, ?hy58⟩) hS0 ?_
          case hy58 => (intro w' hw'; skip; go_simp; try with_reducible rfl)
          simp only [List.getElem_toArray, List.getElem_cons_zero, List.getElem_cons_succ, Act.put, List.setIfInBounds_toArray, List.set_cons_zero, List.set_cons_succ]
          refine rgn.one (i := 73) _ rfl (by kernel_rfl) (by rfl) ?_
          simp only [List.getElem_toArray, List.getElem_cons_zero, List.getElem_cons_succ, Act.put, List.setIfInBounds_toArray, List.set_cons_zero, List.set_cons_succ]
          refine rgn.call_wp _ _ _ _ rfl Tryz.func9 (by kernel_rfl) (by kernel_rfl) #[.pointer (some ⟨w5.heap.size + 1, 0, none⟩)] (by first | kernel_rfl | (simp only [List.map_toArray, List.map_cons, List.map_nil]; rfl)) ?_
          refine ((unhide NZ) _ hS0).mono ?_
          rintro e' W9 ⟨rfl, hW⟩
          subst hW
          have hS1 := hS0
          refine ⟨_, rfl, hS1, ?_⟩
          clear hS0
          have hS0 := hS1
          clear hS1
          try simp only [List.getElem_toArray, List.getElem_cons_zero, List.getElem_cons_succ, Act.put, List.setIfInBounds_toArray, List.set_cons_zero, List.set_cons_succ]
          refine wpAnyH_take (i := 74) (v := ?v59) rfl (by kernel_rfl) (by kernel_rfl) (by kernel_rfl) (fun _ _ _ h => h) (Or.inl ⟨by rfl, ?hy59⟩) hS0 ?_
          case hy59 => (intro w' hw'; skip; go_simp; try with_reducible rfl)
          simp only [List.getElem_toArray, List.getElem_cons_zero, List.getElem_cons_succ, Act.put, List.setIfInBounds_toArray, List.set_cons_zero, List.set_cons_succ]
          refine wpAnyH_take (i := 75) (v := ?v60) rfl (by kernel_rfl) (by kernel_rfl) (by kernel_rfl) (fun _ _ _ h => h) (Or.inl ⟨by rfl, ?hy60⟩) hS0 ?_
          case hy60 => (intro w' hw'; skip; go_simp; try with_reducible rfl)
          simp only [List.getElem_toArray, List.getElem_cons_zero, List.getElem_cons_succ, Act.put, List.setIfInBounds_toArray, List.set_cons_zero, List.set_cons_succ]
          refine wpAnyH_take (i := 76) (v := ?v61) rfl (by kernel_rfl) (by kernel_rfl) (by kernel_rfl) (fun _ _ _ h => h) (Or.inl ⟨by rfl, ?hy61⟩) hS0 ?_
          case hy61 => (intro w' hw'; skip; go_simp; try with_reducible rfl)
          simp only [List.getElem_toArray, List.getElem_cons_zero, List.getElem_cons_succ, Act.put, List.setIfInBounds_toArray, List.set_cons_zero, List.set_cons_succ]
          refine wpAnyH_done (by kernel_rfl) ?_ _; refine NoPanic.normal ?_
          go_wp2_with fail
          go_ret
          exact ⟨rfl, (unhide WZ).trans (hS0.mono (unhide WZ).size)⟩
end Go.Proofs.YtejjnhcmpiamiaaGreat.cu
