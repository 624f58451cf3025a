import Derived.Test.YtfegalieiiaopabCv5
import Derived.Deep.RegionHeld3
namespace Go.Proofs.Ytfegalieiiaopab.cu
open Go.ChangeShapes Go.WideShapes Go.ChangeAt Go.RowKit
open ints (hide unhide)
open dt (Dt Kp RowAt)
set_option linter.unusedVariables false
set_option linter.unusedSimpArgs false
theorem mixed : Try.prog.follows .mixedOrders = true := by kernel_rfl
theorem buildP (x y : Int) (w : World) : (Instr.buildSlice 34 1 #[(0, .agg #[.int .i64 x, .int .i64 y])]).run Try.prog w = .ok (.slice (some ⟨w.heap.size, 0, none⟩) 1 1) (w.alloc (.cells #[.int .i64 x, .int .i64 y] 30)) := by go_simp
/-- a cursor's fault in memory -/
def FltAt (lo : Nat) (w : World) (c : Cu) (fs : List Value) : Prop :=
  if c.kd = 0 then fs = [.int .i64 0, .slice none 0 0, .slice none 0 0] else ∃ b, lo ≤ b ∧ b < w.heap.size ∧ fs = [.int .i64 c.kd, .slice (some ⟨b, 0, none⟩) 1 1, .slice none 0 0] ∧ w.cell? ⟨b, 0, none⟩ = some (.int .i64 c.tok.ln) ∧ w.cell? ⟨b, 1, none⟩ = some (.int .i64 c.tok.co)
theorem infoFl : (Try.prog.info? 37).map (·.size) = some 3 := by kernel_rfl
set_option maxRecDepth 4000 in
set_option maxHeartbeats 1000000 in
theorem told_ok (B p : Nat) (c : Cu) (w : World) (h : CurAt w B p c) : Calls Try.prog 12 #[ptr B] w fun e w' => ∃ fs, e = .returned (.agg fs.toArray) ∧ FltAt w.heap.size w' c fs ∧ Below w.heap.size w w' := by
  have hb := hide (fun W (bb : Below w.heap.size w W) => blank_ok B p c W (h.below bb))
  have ht := hide (fun W (bb : Below w.heap.size w W) => token_ok B p c W (h.below bb))
  have hlt := h.lt
  have h4 := h.c2.2.2.2
  have bA := hide (fun o => show Below w.heap.size w (w.alloc o) from (Below.refl _ _).alloc (Nat.le_refl _) _)
  have D4 : ∀ o, (w.alloc o).cell? ⟨B, 4, none⟩ = some (.int .i64 c.kd) := fun o => (((unhide bA) o).cell (p := ⟨B, 4, none⟩) hlt).trans h4
  have hf := fld_pos c.tok
  obtain ⟨kd, hk⟩ : ∃ kd, kd = c.kd := ⟨_, rfl⟩
  obtain ⟨t, hk3⟩ : ∃ t, t = c.tok := ⟨_, rfl⟩
  rw [← hk] at D4
  rw [← hk3] at ht hf
  have HK := hide hk.symm
  have HT := hide hk3.symm
  clear h hk hk3 h4
  unfold ptr at hb ht ⊢
  unfold Tk.cells at ht
  by_cases hz : kd = 0
  · subst hz
    go_enter Try.func12, Try.ntmps12
    go_wp2_with fail
    refine ((unhide hb) _ ((unhide bA) _)).mono ?_
    rintro e w1 ⟨rfl, rfl⟩
    clear ht
    go_wp2_with fail
    refine bodyPost_ret (rgn.result_row rfl _ _ w.heap.size 0 [.int .i64 0, .slice none 0 0, .slice none 0 0] _ rfl (dt.range_cells (heap_alloc_new w _) 0 _ (fun j u hu => by rw [Nat.zero_add]; simpa using hu)) Try.underlying37 rfl infoFl) rfl ?_
    exact ⟨_, rfl, by unfold FltAt; rw [if_pos (unhide HK)], (unhide bA) _⟩
  · have ez : (kd == 0) = false := by simpa using hz
    have HZ := hide hz
    clear hz
    go_enter Try.func12, Try.ntmps12
    go_wp2_with fail
    refine ((unhide hb) _ ((unhide bA) _)).mono ?_
    rintro e w1 ⟨rfl, rfl⟩
    go_wp2_with fail
    have hR0 := hide (heap_alloc_new w (.cells #[Value.int .i64 0, .slice none 0 0, .slice none 0 0] 37))
    have bW0 := (unhide bA) (.cells #[Value.int .i64 0, .slice none 0 0, .slice none 0 0] 37)
    have c4 := D4 (.cells #[Value.int .i64 0, .slice none 0 0, .slice none 0 0] 37)
    have hz0 : w.heap.size < (w.alloc (.cells #[Value.int .i64 0, .slice none 0 0, .slice none 0 0] 37)).heap.size := by simp
    obtain ⟨W0, hW0⟩ : ∃ W0, W0 = w.alloc (.cells #[Value.int .i64 0, .slice none 0 0, .slice none 0 0] 37) := ⟨_, rfl⟩
    rw [← hW0] at hR0 bW0 c4 hz0 ⊢
    clear hW0 bA hb D4
    have hS0 : Below w.heap.size W0 { W0 with drawn := W0.drawn + 1 } := (Below.refl _ _).drew
    have bD := bW0.trans hS0
    refine wp_region_noPanic ?_
    refine wp_region_held (S := fun w' => Below w.heap.size W0 w') mixed ?_
    refine wpAnyH_take (i := 0) (v := ?v1) rfl (by kernel_rfl) (by kernel_rfl) (by kernel_rfl) (fun _ _ _ h => h) (Or.inl ⟨by rfl, ?hy1⟩) hS0 ?_
    case hy1 => (intro w' hw'; have c4' := (hw'.cell (p := ⟨B, 4, none⟩) hlt).trans c4; go_simp; try with_reducible rfl)
    simp only [List.getElem_toArray, List.getElem_cons_zero, List.getElem_cons_succ, Act.put, List.setIfInBounds_toArray, List.set_cons_zero, List.set_cons_succ]
    refine wpAnyH_take (i := 1) (v := ?v2) rfl (by kernel_rfl) (by kernel_rfl) (by kernel_rfl) (fun _ _ _ h => h) (Or.inl ⟨by rfl, ?hy2⟩) hS0 ?_
    case hy2 => (intro w' hw'; have c4' := (hw'.cell (p := ⟨B, 4, none⟩) hlt).trans c4; go_simp; try with_reducible rfl)
    simp only [List.getElem_toArray, List.getElem_cons_zero, List.getElem_cons_succ, Act.put, List.setIfInBounds_toArray, List.set_cons_zero, List.set_cons_succ]
    refine wpAnyH_take (i := 2) (v := ?v3) rfl (by kernel_rfl) (by kernel_rfl) (by kernel_rfl) (fun _ _ _ h => h) (Or.inl ⟨by rfl, ?hy3⟩) hS0 ?_
    case hy3 => (intro w' hw'; have c4' := (hw'.cell (p := ⟨B, 4, none⟩) hlt).trans c4; go_simp; try with_reducible rfl)
    simp only [List.getElem_toArray, List.getElem_cons_zero, List.getElem_cons_succ, Act.put, List.setIfInBounds_toArray, List.set_cons_zero, List.set_cons_succ]
    refine wpAnyH_take (i := 3) (v := ?v4) rfl (by kernel_rfl) (by kernel_rfl) (by kernel_rfl) (fun _ _ _ h => h) (Or.inl ⟨by rfl, ?hy4⟩) hS0 ?_
    case hy4 => (intro w' hw'; have c4' := (hw'.cell (p := ⟨B, 4, none⟩) hlt).trans c4; go_simp; try with_reducible rfl)
    simp only [List.getElem_toArray, List.getElem_cons_zero, List.getElem_cons_succ, Act.put, List.setIfInBounds_toArray, List.set_cons_zero, List.set_cons_succ]
    refine wpAnyH_take (i := 4) (v := ?v5) rfl (by kernel_rfl) (by kernel_rfl) (by kernel_rfl) (fun _ _ _ h => h) (Or.inl ⟨by rfl, ?hy5⟩) hS0 ?_
    case hy5 => (intro w' hw'; have c4' := (hw'.cell (p := ⟨B, 4, none⟩) hlt).trans c4; go_simp; try with_reducible rfl)
    simp only [List.getElem_toArray, List.getElem_cons_zero, List.getElem_cons_succ, Act.put, List.setIfInBounds_toArray, List.set_cons_zero, List.set_cons_succ]
    refine rgn.one (i := 5) _ rfl (by kernel_rfl) (by rfl) ?_
    simp only [List.getElem_toArray, List.getElem_cons_zero, List.getElem_cons_succ, Act.put, List.setIfInBounds_toArray, List.set_cons_zero, List.set_cons_succ]
    go_wp2_with fail
    refine ((unhide ht) _ bD).mono ?_
    rintro e w2 ⟨rfl, b2⟩
    have b02 : Below W0.heap.size W0 w2 := (Below.refl W0.heap.size W0).drew.trans b2
    have hS2 : Below w.heap.size W0 w2 := b02.mono (Nat.le_of_lt hz0)
    refine ⟨hS2, ?_⟩
    clear hS0 b2 bD
    have hS0 := hS2
    try simp only [List.getElem_toArray, List.getElem_cons_zero, List.getElem_cons_succ, Act.put, List.setIfInBounds_toArray, List.set_cons_zero, List.set_cons_succ]
    refine rgn.take (i := 6) _ (.agg #[.int .i64 t.ln, .int .i64 t.co]) rfl (by kernel_rfl) (by kernel_rfl) (by kernel_rfl) (fun _ _ _ h => h) (by rfl) hS0 (fun w' hw' => by go_simp) ?_
    simp only [List.getElem_toArray, List.getElem_cons_zero, List.getElem_cons_succ, Act.put, List.setIfInBounds_toArray, List.set_cons_zero, List.set_cons_succ]
    refine rgn.one (i := 7) _ rfl (by kernel_rfl) (by rfl) ?_
    simp only [List.getElem_toArray, List.getElem_cons_zero, List.getElem_cons_succ, Act.put, List.setIfInBounds_toArray, List.set_cons_zero, List.set_cons_succ]
    refine dt.wpO_buildOne 34 _ (by rfl) (.agg #[.int .i64 t.ln, .int .i64 t.co]) _ (by rfl) (buildP t.ln t.co w2) ?_
    have hS3 : Below w.heap.size W0 (w2.alloc (.cells #[.int .i64 t.ln, .int .i64 t.co] 30)) := hS2.alloc (Nat.le_trans (Nat.le_of_lt hz0) b02.size) _
    refine ⟨hS3, ?_⟩
    clear hS0
    have hS0 := hS3
    try simp only [List.getElem_toArray, List.getElem_cons_zero, List.getElem_cons_succ, Act.put, List.setIfInBounds_toArray, List.set_cons_zero, List.set_cons_succ]
    refine rgn.take (i := 8) _ (.agg #[.int .i64 kd, .slice (some ⟨w2.heap.size, 0, none⟩) 1 1, .slice none 0 0]) rfl (by kernel_rfl) (by kernel_rfl) (by kernel_rfl) (fun _ _ _ h => h) (by rfl) hS0 (fun w' hw' => by go_simp) ?_
    simp only [List.getElem_toArray, List.getElem_cons_zero, List.getElem_cons_succ, Act.put, List.setIfInBounds_toArray, List.set_cons_zero, List.set_cons_succ]
    have hR2 := (Below.heap_alloc w2 (.cells #[.int .i64 t.ln, .int .i64 t.co] 30) w.heap.size (Nat.lt_of_lt_of_le hz0 b02.size)).trans ((b02.block w.heap.size hz0).trans (unhide hR0))
    have hth := dt.there_cells hR2 (o := 0) (n := 3) (by decide)
    refine rgn.one (i := 9) _ rfl (by kernel_rfl) (by rfl) ?_
    simp only [List.getElem_toArray, List.getElem_cons_zero, List.getElem_cons_succ, Act.put, List.setIfInBounds_toArray, List.set_cons_zero, List.set_cons_succ]
    refine wp_store_mid 37 _ _ (by rfl) w.heap.size 0 #[.int .i64 kd, .slice (some ⟨w2.heap.size, 0, none⟩) 1 1, .slice none 0 0] (by rfl) (by rfl) hth infoFl (dt.one_cells (cs := [.int .i64 kd, .slice (some ⟨w2.heap.size, 0, none⟩) 1 1, .slice none 0 0]) (by rfl)) ?_
    refine ⟨dt.below_setCells _ _ _ _ hS3 (Nat.le_refl _), ?_⟩
    try simp only [List.getElem_toArray, List.getElem_cons_zero, List.getElem_cons_succ, Act.put, List.setIfInBounds_toArray, List.set_cons_zero, List.set_cons_succ]
    refine wpAnyH_done (by kernel_rfl) ?_ _; refine NoPanic.normal ?_
    have hb2 : w2.heap.size ≠ w.heap.size := by have := b02.size; omega
    have hn := heap_alloc_new w2 (.cells #[.int .i64 t.ln, .int .i64 t.co] 30)
    have hX := (dt.heap_setCells w.heap.size w2.heap.size hb2 [.int .i64 kd, .slice (some ⟨w2.heap.size, 0, none⟩) 1 1, .slice none 0 0] 0 _).trans hn
    have hrg := World.rangeAt_setCells_same (w2.alloc (.cells #[.int .i64 t.ln, .int .i64 t.co] 30)) w.heap.size 0 [.int .i64 kd, .slice (some ⟨w2.heap.size, 0, none⟩) 1 1, .slice none 0 0] hth
    have hbX : Below w.heap.size W0 ((w2.alloc (.cells #[.int .i64 t.ln, .int .i64 t.co] 30)).setCells w.heap.size 0 [.int .i64 kd, .slice (some ⟨w2.heap.size, 0, none⟩) 1 1, .slice none 0 0]) := dt.below_setCells _ _ _ _ hS3 (Nat.le_refl _)
    have hXs : w2.heap.size < ((w2.alloc (.cells #[.int .i64 t.ln, .int .i64 t.co] 30)).setCells w.heap.size 0 [.int .i64 kd, .slice (some ⟨w2.heap.size, 0, none⟩) 1 1, .slice none 0 0]).heap.size := by rw [dt.size_setCells]; simp
    obtain ⟨X, eX⟩ : ∃ X, X = (w2.alloc (.cells #[.int .i64 t.ln, .int .i64 t.co] 30)).setCells w.heap.size 0 [.int .i64 kd, .slice (some ⟨w2.heap.size, 0, none⟩) 1 1, .slice none 0 0] := ⟨_, rfl⟩
    rw [← eX] at hX hrg hbX hXs ⊢
    clear eX hn hR2 hth hS3 hS2 hS0
    go_wp2
    refine bodyPost_ret (rgn.result_row rfl _ _ w.heap.size 0 [.int .i64 kd, .slice (some ⟨w2.heap.size, 0, none⟩) 1 1, .slice none 0 0] _ rfl hrg Try.underlying37 rfl infoFl) rfl ?_
    refine ⟨_, rfl, ?_, bW0.trans hbX⟩
    unfold FltAt
    rw [unhide HK, unhide HT, if_neg (unhide HZ)]
    exact ⟨w2.heap.size, by have := b02.size; omega, hXs, rfl, (dt.cell_cells hX 0).trans rfl, (dt.cell_cells hX 1).trans rfl⟩
end Go.Proofs.Ytfegalieiiaopab.cu
