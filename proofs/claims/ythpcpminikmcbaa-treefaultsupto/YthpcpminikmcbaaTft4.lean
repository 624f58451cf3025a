import Derived.Test.YthpcpminikmcbaaTft2
import Derived.Test.YthpcpminikmcbaaTft3
import Derived.Deep.QuietTactic
namespace Go.Proofs.Ythpcpminikmcbaa.vl
open Go.ChangeShapes Go.WideShapes Go.ChangeAt Go.RowKit
open stp (St Pth St3)
set_option linter.unusedVariables false
set_option linter.unusedSimpArgs false
/-- the number of the child to which a step leads -/
def chI : Vl → St → Option Nat
  | .mk kd b n f tx ty its fls, s => if s.it = true then (if kd = 5 ∧ 0 ≤ s.ix ∧ s.ix < its.list.length then some s.ix.toNat else none) else (if kd = 6 then fls.list.findIdx? (fun q => decide (q.1 = s.nm)) else none)
set_option maxHeartbeats 6000000 in
set_option maxRecDepth 6000 in
theorem child_item (b o : Nat) (kd : Int) (ai : Option Addr) (n c : Nat) (nm : ByteArray) (ix : Int) (w : World) (hb : b < w.heap.size) (x0 : w.cell? ⟨b, o, none⟩ = some (.int .i64 kd)) (x6 : w.cell? ⟨b, o + 6, none⟩ = some (.slice ai n c)) (hn : n ≤ 9223372036854775807) (ha : n = 0 ∨ ∃ p off, ai = some ⟨p, off, none⟩) :
    Calls Try.prog 57 #[.pointer (some ⟨b, o, none⟩), .agg #[.string nm, .int .i64 ix, .bool true]] w fun e w' => Below w.heap.size w w' ∧ ((kd = 5 ∧ 0 ≤ ix ∧ ix < n ∧ ∃ p off, ai = some ⟨p, off, none⟩ ∧ e = .returned (.pointer (some ⟨p, off + ix.toNat * 8, none⟩))) ∨ (¬ (kd = 5 ∧ 0 ≤ ix ∧ ix < n) ∧ e = .returned (.pointer none))) := by
  obtain ⟨W, eW⟩ : ∃ W, W = w.alloc (.cells #[.string nm, .int .i64 ix, .bool true] 34) := ⟨_, rfl⟩
  have y0 : W.cell? ⟨b, o, none⟩ = some (.int .i64 kd) := by rw [eW]; exact (World.cell?_alloc_past _ _ _ hb).trans x0
  have y6 : W.cell? ⟨b, o + 6, none⟩ = some (.slice ai n c) := by rw [eW]; exact (World.cell?_alloc_past _ _ _ hb).trans x6
  have s1 : W.cell? ⟨w.heap.size, 1, none⟩ = some (.int .i64 ix) := by rw [eW]; simp
  have bW : Below w.heap.size w W := by rw [eW]; exact (Below.refl _ _).alloc (Nat.le_refl _) _
  have EW := hide eW
  clear x0 x6 eW
  by_cases h5 : kd = 5
  · subst h5
    by_cases hi0 : ix < 0
    · go_enter Try.func57, Try.ntmps57
      go_wp2_with fail
      rw [← unhide EW]
      clear EW
      have hS0 : ({ W with drawn := W.drawn + 1 } : World).cell? ⟨b, o, none⟩ = some (.int .i64 5) ∧ ({ W with drawn := W.drawn + 1 } : World).cell? ⟨b, o + 6, none⟩ = some (.slice ai n c) ∧ ({ W with drawn := W.drawn + 1 } : World).cell? ⟨w.heap.size, 1, none⟩ = some (.int .i64 ix) := ⟨y0, y6, s1⟩
      clear y0 y6 s1
      refine wp_region_noPanic ?_
      refine wp_region_held (S := fun w' => w'.cell? ⟨b, o, none⟩ = some (.int .i64 5) ∧ w'.cell? ⟨b, o + 6, none⟩ = some (.slice ai n c) ∧ w'.cell? ⟨w.heap.size, 1, none⟩ = some (.int .i64 ix)) mixed ?_
      refine wpAnyH_take (i := 0) (v := ?v1) rfl (by kernel_rfl) (by kernel_rfl) (by kernel_rfl) (fun _ _ _ h => h) (Or.inl ⟨by rfl, ?hy1⟩) hS0 ?_
      case hy1 => (intro w' hw'; obtain ⟨c0, c6, c1⟩ := hw'; go_simp; try with_reducible rfl)
      simp only [List.getElem_toArray, List.getElem_cons_zero, List.getElem_cons_succ, Act.put, List.setIfInBounds_toArray, List.set_cons_zero, List.set_cons_succ]
      refine wpAnyH_take (i := 1) (v := ?v2) rfl (by kernel_rfl) (by kernel_rfl) (by kernel_rfl) (fun _ _ _ h => h) (Or.inl ⟨by rfl, ?hy2⟩) hS0 ?_
      case hy2 => (intro w' hw'; obtain ⟨c0, c6, c1⟩ := hw'; go_simp; try with_reducible rfl)
      simp only [List.getElem_toArray, List.getElem_cons_zero, List.getElem_cons_succ, Act.put, List.setIfInBounds_toArray, List.set_cons_zero, List.set_cons_succ]
      refine wpAnyH_take (i := 2) (v := ?v3) rfl (by kernel_rfl) (by kernel_rfl) (by kernel_rfl) (fun _ _ _ h => h) (Or.inl ⟨by rfl, ?hy3⟩) hS0 ?_
      case hy3 => (intro w' hw'; obtain ⟨c0, c6, c1⟩ := hw'; go_simp; try with_reducible rfl)
      simp only [List.getElem_toArray, List.getElem_cons_zero, List.getElem_cons_succ, Act.put, List.setIfInBounds_toArray, List.set_cons_zero, List.set_cons_succ]
      refine wpAnyH_take (i := 3) (v := ?v4) rfl (by kernel_rfl) (by kernel_rfl) (by kernel_rfl) (fun _ _ _ h => h) (Or.inl ⟨by rfl, ?hy4⟩) hS0 ?_
      case hy4 => (intro w' hw'; obtain ⟨c0, c6, c1⟩ := hw'; go_simp; try with_reducible rfl)
      simp only [List.getElem_toArray, List.getElem_cons_zero, List.getElem_cons_succ, Act.put, List.setIfInBounds_toArray, List.set_cons_zero, List.set_cons_succ]
      refine wpAnyH_take (i := 4) (v := ?v5) rfl (by kernel_rfl) (by kernel_rfl) (by kernel_rfl) (fun _ _ _ h => h) (Or.inl ⟨by rfl, ?hy5⟩) hS0 ?_
      case hy5 => (intro w' hw'; obtain ⟨c0, c6, c1⟩ := hw'; go_simp; try with_reducible rfl)
      simp only [List.getElem_toArray, List.getElem_cons_zero, List.getElem_cons_succ, Act.put, List.setIfInBounds_toArray, List.set_cons_zero, List.set_cons_succ]
      refine wpAnyH_take (i := 5) (v := ?v6) rfl (by kernel_rfl) (by kernel_rfl) (by kernel_rfl) (fun _ _ _ h => h) (Or.inl ⟨by rfl, ?hy6⟩) hS0 ?_
      case hy6 => (intro w' hw'; obtain ⟨c0, c6, c1⟩ := hw'; go_simp; try with_reducible rfl)
      simp only [List.getElem_toArray, List.getElem_cons_zero, List.getElem_cons_succ, Act.put, List.setIfInBounds_toArray, List.set_cons_zero, List.set_cons_succ]
      refine wpAnyH_take (i := 6) (v := ?v7) rfl (by kernel_rfl) (by kernel_rfl) (by kernel_rfl) (fun _ _ _ h => h) (Or.inl ⟨by rfl, ?hy7⟩) hS0 ?_
      case hy7 => (intro w' hw'; obtain ⟨c0, c6, c1⟩ := hw'; go_simp; try with_reducible rfl)
      simp only [List.getElem_toArray, List.getElem_cons_zero, List.getElem_cons_succ, Act.put, List.setIfInBounds_toArray, List.set_cons_zero, List.set_cons_succ]
      refine wpAnyH_take (i := 7) (v := ?v8) rfl (by kernel_rfl) (by kernel_rfl) (by kernel_rfl) (fun _ _ _ h => h) (Or.inl ⟨by rfl, ?hy8⟩) hS0 ?_
      case hy8 => (intro w' hw'; obtain ⟨c0, c6, c1⟩ := hw'; go_simp; try with_reducible rfl)
      simp only [List.getElem_toArray, List.getElem_cons_zero, List.getElem_cons_succ, Act.put, List.setIfInBounds_toArray, List.set_cons_zero, List.set_cons_succ]
      refine wpAnyH_take (i := 8) (v := ?v9) rfl (by kernel_rfl) (by kernel_rfl) (by kernel_rfl) (fun _ _ _ h => h) (Or.inl ⟨by rfl, ?hy9⟩) hS0 ?_
      case hy9 => (intro w' hw'; obtain ⟨c0, c6, c1⟩ := hw'; go_simp; try with_reducible rfl)
      simp only [List.getElem_toArray, List.getElem_cons_zero, List.getElem_cons_succ, Act.put, List.setIfInBounds_toArray, List.set_cons_zero, List.set_cons_succ]
      refine wpAnyH_take (i := 9) (v := ?v10) rfl (by kernel_rfl) (by kernel_rfl) (by kernel_rfl) (fun _ _ _ h => h) (Or.inl ⟨by rfl, ?hy10⟩) hS0 ?_
      case hy10 => (intro w' hw'; obtain ⟨c0, c6, c1⟩ := hw'; go_simp; try with_reducible rfl)
      simp only [List.getElem_toArray, List.getElem_cons_zero, List.getElem_cons_succ, Act.put, List.setIfInBounds_toArray, List.set_cons_zero, List.set_cons_succ]
      refine wpAnyH_take (i := 10) (v := ?v11) rfl (by kernel_rfl) (by kernel_rfl) (by kernel_rfl) (fun _ _ _ h => h) (Or.inl ⟨by rfl, ?hy11⟩) hS0 ?_
      case hy11 => (intro w' hw'; obtain ⟨c0, c6, c1⟩ := hw'; go_simp; try with_reducible rfl)
      simp only [List.getElem_toArray, List.getElem_cons_zero, List.getElem_cons_succ, Act.put, List.setIfInBounds_toArray, List.set_cons_zero, List.set_cons_succ]
      refine wpAnyH_take (i := 11) (v := undef) rfl (by kernel_rfl) (by kernel_rfl) (by kernel_rfl) (fun _ _ _ h => h) (Or.inr ⟨by rfl, rfl⟩) hS0 ?_
      simp only [List.getElem_toArray, List.getElem_cons_zero, List.getElem_cons_succ, Act.put, List.setIfInBounds_toArray, List.set_cons_zero, List.set_cons_succ]
      refine wpAnyH_take (i := 12) (v := undef) rfl (by kernel_rfl) (by kernel_rfl) (by kernel_rfl) (fun _ _ _ h => h) (Or.inr ⟨by rfl, rfl⟩) hS0 ?_
      simp only [List.getElem_toArray, List.getElem_cons_zero, List.getElem_cons_succ, Act.put, List.setIfInBounds_toArray, List.set_cons_zero, List.set_cons_succ]
      refine wpAnyH_take (i := 13) (v := undef) rfl (by kernel_rfl) (by kernel_rfl) (by kernel_rfl) (fun _ _ _ h => h) (Or.inr ⟨by rfl, rfl⟩) hS0 ?_
      simp only [List.getElem_toArray, List.getElem_cons_zero, List.getElem_cons_succ, Act.put, List.setIfInBounds_toArray, List.set_cons_zero, List.set_cons_succ]
      refine wpAnyH_take (i := 14) (v := undef) rfl (by kernel_rfl) (by kernel_rfl) (by kernel_rfl) (fun _ _ _ h => h) (Or.inr ⟨by rfl, rfl⟩) hS0 ?_
      simp only [List.getElem_toArray, List.getElem_cons_zero, List.getElem_cons_succ, Act.put, List.setIfInBounds_toArray, List.set_cons_zero, List.set_cons_succ]
      refine wpAnyH_take (i := 15) (v := undef) rfl (by kernel_rfl) (by kernel_rfl) (by kernel_rfl) (fun _ _ _ h => h) (Or.inr ⟨by rfl, rfl⟩) hS0 ?_
      simp only [List.getElem_toArray, List.getElem_cons_zero, List.getElem_cons_succ, Act.put, List.setIfInBounds_toArray, List.set_cons_zero, List.set_cons_succ]
      refine wpAnyH_take (i := 16) (v := undef) rfl (by kernel_rfl) (by kernel_rfl) (by kernel_rfl) (fun _ _ _ h => h) (Or.inr ⟨by rfl, rfl⟩) hS0 ?_
      simp only [List.getElem_toArray, List.getElem_cons_zero, List.getElem_cons_succ, Act.put, List.setIfInBounds_toArray, List.set_cons_zero, List.set_cons_succ]
      refine wpAnyH_take (i := 17) (v := undef) rfl (by kernel_rfl) (by kernel_rfl) (by kernel_rfl) (fun _ _ _ h => h) (Or.inr ⟨by rfl, rfl⟩) hS0 ?_
      simp only [List.getElem_toArray, List.getElem_cons_zero, List.getElem_cons_succ, Act.put, List.setIfInBounds_toArray, List.set_cons_zero, List.set_cons_succ]
      refine wpAnyH_take (i := 18) (v := undef) rfl (by kernel_rfl) (by kernel_rfl) (by kernel_rfl) (fun _ _ _ h => h) (Or.inr ⟨by rfl, rfl⟩) hS0 ?_
      simp only [List.getElem_toArray, List.getElem_cons_zero, List.getElem_cons_succ, Act.put, List.setIfInBounds_toArray, List.set_cons_zero, List.set_cons_succ]
      refine wpAnyH_take (i := 19) (v := ?v12) rfl (by kernel_rfl) (by kernel_rfl) (by kernel_rfl) (fun _ _ _ h => h) (Or.inl ⟨by rfl, ?hy12⟩) hS0 ?_
      case hy12 => (intro w' hw'; obtain ⟨c0, c6, c1⟩ := hw'; go_simp; try with_reducible rfl)
      simp only [List.getElem_toArray, List.getElem_cons_zero, List.getElem_cons_succ, Act.put, List.setIfInBounds_toArray, List.set_cons_zero, List.set_cons_succ]
      refine wpAnyH_done (by kernel_rfl) ?_ _; refine NoPanic.normal ?_
      have bW1 : Below w.heap.size w { W with drawn := W.drawn + 1 } := bW.drew
      generalize ({ W with drawn := W.drawn + 1 } : World) = W1 at *
      go_wp2
      go_ret
      exact ⟨bW1, .inr ⟨by omega, rfl⟩⟩
    · have hd0 : decide (ix < 0) = false := by simp; omega
      by_cases hin : ix < n
      · have hd1 : decide ((n : Int) ≤ ix) = false := by simp; omega
        obtain ⟨p, off, rfl⟩ : ∃ p off, ai = some ⟨p, off, none⟩ := by
          rcases ha with h | h
          · omega
          · exact h
        obtain ⟨k, rfl⟩ : ∃ k : Nat, ix = k := ⟨ix.toNat, by omega⟩
        have hk0 : (0 : Int) ≤ (k : Int) := by omega
        go_enter Try.func57, Try.ntmps57
        go_wp2_with fail
        rw [← unhide EW]
        clear EW
        have hS0 : ({ W with drawn := W.drawn + 1 } : World).cell? ⟨b, o, none⟩ = some (.int .i64 5) ∧ ({ W with drawn := W.drawn + 1 } : World).cell? ⟨b, o + 6, none⟩ = some (.slice (some ⟨p, off, none⟩) n c) ∧ ({ W with drawn := W.drawn + 1 } : World).cell? ⟨w.heap.size, 1, none⟩ = some (.int .i64 k) := ⟨y0, y6, s1⟩
        clear y0 y6 s1
        refine wp_region_noPanic ?_
        refine wp_region_held (S := fun w' => w'.cell? ⟨b, o, none⟩ = some (.int .i64 5) ∧ w'.cell? ⟨b, o + 6, none⟩ = some (.slice (some ⟨p, off, none⟩) n c) ∧ w'.cell? ⟨w.heap.size, 1, none⟩ = some (.int .i64 k)) mixed ?_
        refine wpAnyH_take (i := 0) (v := ?v13) rfl (by kernel_rfl) (by kernel_rfl) (by kernel_rfl) (fun _ _ _ h => h) (Or.inl ⟨by rfl, ?hy13⟩) hS0 ?_
        case hy13 => (intro w' hw'; obtain ⟨c0, c6, c1⟩ := hw'; go_simp; try with_reducible rfl)
        simp only [List.getElem_toArray, List.getElem_cons_zero, List.getElem_cons_succ, Act.put, List.setIfInBounds_toArray, List.set_cons_zero, List.set_cons_succ]
        refine wpAnyH_take (i := 1) (v := ?v14) rfl (by kernel_rfl) (by kernel_rfl) (by kernel_rfl) (fun _ _ _ h => h) (Or.inl ⟨by rfl, ?hy14⟩) hS0 ?_
        case hy14 => (intro w' hw'; obtain ⟨c0, c6, c1⟩ := hw'; go_simp; try with_reducible rfl)
        simp only [List.getElem_toArray, List.getElem_cons_zero, List.getElem_cons_succ, Act.put, List.setIfInBounds_toArray, List.set_cons_zero, List.set_cons_succ]
        refine wpAnyH_take (i := 2) (v := ?v15) rfl (by kernel_rfl) (by kernel_rfl) (by kernel_rfl) (fun _ _ _ h => h) (Or.inl ⟨by rfl, ?hy15⟩) hS0 ?_
        case hy15 => (intro w' hw'; obtain ⟨c0, c6, c1⟩ := hw'; go_simp; try with_reducible rfl)
        simp only [List.getElem_toArray, List.getElem_cons_zero, List.getElem_cons_succ, Act.put, List.setIfInBounds_toArray, List.set_cons_zero, List.set_cons_succ]
        refine wpAnyH_take (i := 3) (v := ?v16) rfl (by kernel_rfl) (by kernel_rfl) (by kernel_rfl) (fun _ _ _ h => h) (Or.inl ⟨by rfl, ?hy16⟩) hS0 ?_
        case hy16 => (intro w' hw'; obtain ⟨c0, c6, c1⟩ := hw'; go_simp; try with_reducible rfl)
        simp only [List.getElem_toArray, List.getElem_cons_zero, List.getElem_cons_succ, Act.put, List.setIfInBounds_toArray, List.set_cons_zero, List.set_cons_succ]
        refine wpAnyH_take (i := 4) (v := ?v17) rfl (by kernel_rfl) (by kernel_rfl) (by kernel_rfl) (fun _ _ _ h => h) (Or.inl ⟨by rfl, ?hy17⟩) hS0 ?_
        case hy17 => (intro w' hw'; obtain ⟨c0, c6, c1⟩ := hw'; go_simp; try with_reducible rfl)
        simp only [List.getElem_toArray, List.getElem_cons_zero, List.getElem_cons_succ, Act.put, List.setIfInBounds_toArray, List.set_cons_zero, List.set_cons_succ]
        refine wpAnyH_take (i := 5) (v := ?v18) rfl (by kernel_rfl) (by kernel_rfl) (by kernel_rfl) (fun _ _ _ h => h) (Or.inl ⟨by rfl, ?hy18⟩) hS0 ?_
        case hy18 => (intro w' hw'; obtain ⟨c0, c6, c1⟩ := hw'; go_simp; try with_reducible rfl)
        simp only [List.getElem_toArray, List.getElem_cons_zero, List.getElem_cons_succ, Act.put, List.setIfInBounds_toArray, List.set_cons_zero, List.set_cons_succ]
        refine wpAnyH_take (i := 6) (v := ?v19) rfl (by kernel_rfl) (by kernel_rfl) (by kernel_rfl) (fun _ _ _ h => h) (Or.inl ⟨by rfl, ?hy19⟩) hS0 ?_
        case hy19 => (intro w' hw'; obtain ⟨c0, c6, c1⟩ := hw'; go_simp; try with_reducible rfl)
        simp only [List.getElem_toArray, List.getElem_cons_zero, List.getElem_cons_succ, Act.put, List.setIfInBounds_toArray, List.set_cons_zero, List.set_cons_succ]
        refine wpAnyH_take (i := 7) (v := ?v20) rfl (by kernel_rfl) (by kernel_rfl) (by kernel_rfl) (fun _ _ _ h => h) (Or.inl ⟨by rfl, ?hy20⟩) hS0 ?_
        case hy20 => (intro w' hw'; obtain ⟨c0, c6, c1⟩ := hw'; go_simp; try with_reducible rfl)
        simp only [List.getElem_toArray, List.getElem_cons_zero, List.getElem_cons_succ, Act.put, List.setIfInBounds_toArray, List.set_cons_zero, List.set_cons_succ]
        refine wpAnyH_take (i := 8) (v := ?v21) rfl (by kernel_rfl) (by kernel_rfl) (by kernel_rfl) (fun _ _ _ h => h) (Or.inl ⟨by rfl, ?hy21⟩) hS0 ?_
        case hy21 => (intro w' hw'; obtain ⟨c0, c6, c1⟩ := hw'; go_simp; try with_reducible rfl)
        simp only [List.getElem_toArray, List.getElem_cons_zero, List.getElem_cons_succ, Act.put, List.setIfInBounds_toArray, List.set_cons_zero, List.set_cons_succ]
        refine wpAnyH_take (i := 9) (v := ?v22) rfl (by kernel_rfl) (by kernel_rfl) (by kernel_rfl) (fun _ _ _ h => h) (Or.inl ⟨by rfl, ?hy22⟩) hS0 ?_
        case hy22 => (intro w' hw'; obtain ⟨c0, c6, c1⟩ := hw'; go_simp; try with_reducible rfl)
        simp only [List.getElem_toArray, List.getElem_cons_zero, List.getElem_cons_succ, Act.put, List.setIfInBounds_toArray, List.set_cons_zero, List.set_cons_succ]
        refine wpAnyH_take (i := 10) (v := ?v23) rfl (by kernel_rfl) (by kernel_rfl) (by kernel_rfl) (fun _ _ _ h => h) (Or.inl ⟨by rfl, ?hy23⟩) hS0 ?_
        case hy23 => (intro w' hw'; obtain ⟨c0, c6, c1⟩ := hw'; go_simp; try with_reducible rfl)
        simp only [List.getElem_toArray, List.getElem_cons_zero, List.getElem_cons_succ, Act.put, List.setIfInBounds_toArray, List.set_cons_zero, List.set_cons_succ]
        refine wpAnyH_take (i := 11) (v := ?v24) rfl (by kernel_rfl) (by kernel_rfl) (by kernel_rfl) (fun _ _ _ h => h) (Or.inl ⟨by rfl, ?hy24⟩) hS0 ?_
        case hy24 => (intro w' hw'; obtain ⟨c0, c6, c1⟩ := hw'; go_simp; try with_reducible rfl)
        simp only [List.getElem_toArray, List.getElem_cons_zero, List.getElem_cons_succ, Act.put, List.setIfInBounds_toArray, List.set_cons_zero, List.set_cons_succ]
        refine wpAnyH_take (i := 12) (v := ?v25) rfl (by kernel_rfl) (by kernel_rfl) (by kernel_rfl) (fun _ _ _ h => h) (Or.inl ⟨by rfl, ?hy25⟩) hS0 ?_
        case hy25 => (intro w' hw'; obtain ⟨c0, c6, c1⟩ := hw'; go_simp; try with_reducible rfl)
        simp only [List.getElem_toArray, List.getElem_cons_zero, List.getElem_cons_succ, Act.put, List.setIfInBounds_toArray, List.set_cons_zero, List.set_cons_succ]
        refine wpAnyH_take (i := 13) (v := ?v26) rfl (by kernel_rfl) (by kernel_rfl) (by kernel_rfl) (fun _ _ _ h => h) (Or.inl ⟨by rfl, ?hy26⟩) hS0 ?_
        case hy26 => (intro w' hw'; obtain ⟨c0, c6, c1⟩ := hw'; go_simp; try with_reducible rfl)
        simp only [List.getElem_toArray, List.getElem_cons_zero, List.getElem_cons_succ, Act.put, List.setIfInBounds_toArray, List.set_cons_zero, List.set_cons_succ]
        refine wpAnyH_take (i := 14) (v := ?v27) rfl (by kernel_rfl) (by kernel_rfl) (by kernel_rfl) (fun _ _ _ h => h) (Or.inl ⟨by rfl, ?hy27⟩) hS0 ?_
        case hy27 => (intro w' hw'; obtain ⟨c0, c6, c1⟩ := hw'; go_simp; try with_reducible rfl)
        simp only [List.getElem_toArray, List.getElem_cons_zero, List.getElem_cons_succ, Act.put, List.setIfInBounds_toArray, List.set_cons_zero, List.set_cons_succ]
        refine wpAnyH_take (i := 15) (v := ?v28) rfl (by kernel_rfl) (by kernel_rfl) (by kernel_rfl) (fun _ _ _ h => h) (Or.inl ⟨by rfl, ?hy28⟩) hS0 ?_
        case hy28 => (intro w' hw'; obtain ⟨c0, c6, c1⟩ := hw'; go_simp; try with_reducible rfl)
        simp only [List.getElem_toArray, List.getElem_cons_zero, List.getElem_cons_succ, Act.put, List.setIfInBounds_toArray, List.set_cons_zero, List.set_cons_succ]
        refine wpAnyH_take (i := 16) (v := ?v29) rfl (by kernel_rfl) (by kernel_rfl) (by kernel_rfl) (fun _ _ _ h => h) (Or.inl ⟨by rfl, ?hy29⟩) hS0 ?_
        case hy29 => (intro w' hw'; obtain ⟨c0, c6, c1⟩ := hw'; go_simp; try with_reducible rfl)
        simp only [List.getElem_toArray, List.getElem_cons_zero, List.getElem_cons_succ, Act.put, List.setIfInBounds_toArray, List.set_cons_zero, List.set_cons_succ]
        refine wpAnyH_take (i := 17) (v := ?v30) rfl (by kernel_rfl) (by kernel_rfl) (by kernel_rfl) (fun _ _ _ h => h) (Or.inl ⟨by rfl, ?hy30⟩) hS0 ?_
        case hy30 => (intro w' hw'; obtain ⟨c0, c6, c1⟩ := hw'; go_simp; try with_reducible rfl)
        simp only [List.getElem_toArray, List.getElem_cons_zero, List.getElem_cons_succ, Act.put, List.setIfInBounds_toArray, List.set_cons_zero, List.set_cons_succ]
        refine wpAnyH_take (i := 18) (v := ?v31) rfl (by kernel_rfl) (by kernel_rfl) (by kernel_rfl) (fun _ _ _ h => h) (Or.inl ⟨by rfl, ?hy31⟩) hS0 ?_
        case hy31 => (intro w' hw'; obtain ⟨c0, c6, c1⟩ := hw'; go_simp; try with_reducible rfl)
        simp only [List.getElem_toArray, List.getElem_cons_zero, List.getElem_cons_succ, Act.put, List.setIfInBounds_toArray, List.set_cons_zero, List.set_cons_succ]
        refine wpAnyH_take (i := 19) (v := ?v32) rfl (by kernel_rfl) (by kernel_rfl) (by kernel_rfl) (fun _ _ _ h => h) (Or.inl ⟨by rfl, ?hy32⟩) hS0 ?_
        case hy32 => (intro w' hw'; obtain ⟨c0, c6, c1⟩ := hw'; go_simp; try with_reducible rfl)
        simp only [List.getElem_toArray, List.getElem_cons_zero, List.getElem_cons_succ, Act.put, List.setIfInBounds_toArray, List.set_cons_zero, List.set_cons_succ]
        refine wpAnyH_done (by kernel_rfl) ?_ _; refine NoPanic.normal ?_
        have bW1 : Below w.heap.size w { W with drawn := W.drawn + 1 } := bW.drew
        generalize ({ W with drawn := W.drawn + 1 } : World) = W1 at *
        go_wp2_with fail
        obtain ⟨y0, y6, s1⟩ := hS0
        have hS0 : ({ W1 with drawn := W1.drawn + 1 } : World).cell? ⟨b, o + 6, none⟩ = some (.slice (some ⟨p, off, none⟩) n c) ∧ ({ W1 with drawn := W1.drawn + 1 } : World).cell? ⟨w.heap.size, 1, none⟩ = some (.int .i64 k) := ⟨y6, s1⟩
        clear y0 y6 s1
        refine wp_region_noPanic ?_
        refine wp_region_held (S := fun w' => w'.cell? ⟨b, o + 6, none⟩ = some (.slice (some ⟨p, off, none⟩) n c) ∧ w'.cell? ⟨w.heap.size, 1, none⟩ = some (.int .i64 k)) mixed ?_
        refine wpAnyH_take (i := 0) (v := ?v33) rfl (by kernel_rfl) (by kernel_rfl) (by kernel_rfl) (fun _ _ _ h => h) (Or.inl ⟨by rfl, ?hy33⟩) hS0 ?_
        case hy33 => (intro w' hw'; obtain ⟨c6, c1⟩ := hw'; go_simp; try with_reducible rfl)
        simp only [List.getElem_toArray, List.getElem_cons_zero, List.getElem_cons_succ, Act.put, List.setIfInBounds_toArray, List.set_cons_zero, List.set_cons_succ]
        refine wpAnyH_take (i := 1) (v := ?v34) rfl (by kernel_rfl) (by kernel_rfl) (by kernel_rfl) (fun _ _ _ h => h) (Or.inl ⟨by rfl, ?hy34⟩) hS0 ?_
        case hy34 => (intro w' hw'; obtain ⟨c6, c1⟩ := hw'; go_simp; try with_reducible rfl)
        simp only [List.getElem_toArray, List.getElem_cons_zero, List.getElem_cons_succ, Act.put, List.setIfInBounds_toArray, List.set_cons_zero, List.set_cons_succ]
        refine wpAnyH_take (i := 2) (v := ?v35) rfl (by kernel_rfl) (by kernel_rfl) (by kernel_rfl) (fun _ _ _ h => h) (Or.inl ⟨by rfl, ?hy35⟩) hS0 ?_
        case hy35 => (intro w' hw'; obtain ⟨c6, c1⟩ := hw'; go_simp; try with_reducible rfl)
        simp only [List.getElem_toArray, List.getElem_cons_zero, List.getElem_cons_succ, Act.put, List.setIfInBounds_toArray, List.set_cons_zero, List.set_cons_succ]
        refine wpAnyH_take (i := 3) (v := ?v36) rfl (by kernel_rfl) (by kernel_rfl) (by kernel_rfl) (fun _ _ _ h => h) (Or.inl ⟨by rfl, ?hy36⟩) hS0 ?_
        case hy36 => (intro w' hw'; obtain ⟨c6, c1⟩ := hw'; go_simp; try with_reducible rfl)
        simp only [List.getElem_toArray, List.getElem_cons_zero, List.getElem_cons_succ, Act.put, List.setIfInBounds_toArray, List.set_cons_zero, List.set_cons_succ]
        refine wpAnyH_take (i := 4) (v := ?v37) rfl (by kernel_rfl) (by kernel_rfl) (by kernel_rfl) (fun _ _ _ h => h) (Or.inl ⟨by rfl, ?hy37⟩) hS0 ?_
        case hy37 => (intro w' hw'; obtain ⟨c6, c1⟩ := hw'; go_simp; try with_reducible rfl)
        simp only [List.getElem_toArray, List.getElem_cons_zero, List.getElem_cons_succ, Act.put, List.setIfInBounds_toArray, List.set_cons_zero, List.set_cons_succ]
        refine wpAnyH_take (i := 5) (v := ?v38) rfl (by kernel_rfl) (by kernel_rfl) (by kernel_rfl) (fun _ _ _ h => h) (Or.inl ⟨by rfl, ?hy38⟩) hS0 ?_
        case hy38 => (intro w' hw'; obtain ⟨c6, c1⟩ := hw'; go_simp; try with_reducible rfl)
        simp only [List.getElem_toArray, List.getElem_cons_zero, List.getElem_cons_succ, Act.put, List.setIfInBounds_toArray, List.set_cons_zero, List.set_cons_succ]
        refine wpAnyH_take (i := 6) (v := ?v39) rfl (by kernel_rfl) (by kernel_rfl) (by kernel_rfl) (fun _ _ _ h => h) (Or.inl ⟨by rfl, ?hy39⟩) hS0 ?_
        case hy39 => (intro w' hw'; obtain ⟨c6, c1⟩ := hw'; go_simp; try with_reducible rfl)
        simp only [List.getElem_toArray, List.getElem_cons_zero, List.getElem_cons_succ, Act.put, List.setIfInBounds_toArray, List.set_cons_zero, List.set_cons_succ]
        refine wpAnyH_take (i := 7) (v := ?v40) rfl (by kernel_rfl) (by kernel_rfl) (by kernel_rfl) (fun _ _ _ h => h) (Or.inl ⟨by rfl, ?hy40⟩) hS0 ?_
        case hy40 => (intro w' hw'; obtain ⟨c6, c1⟩ := hw'; go_simp; try with_reducible rfl)
        simp only [List.getElem_toArray, List.getElem_cons_zero, List.getElem_cons_succ, Act.put, List.setIfInBounds_toArray, List.set_cons_zero, List.set_cons_succ]
        refine wpAnyH_done (by kernel_rfl) ?_ _; refine NoPanic.normal ?_
        have bW2 : Below w.heap.size w { W1 with drawn := W1.drawn + 1 } := bW1.drew
        generalize ({ W1 with drawn := W1.drawn + 1 } : World) = W2 at *
        go_wp2
        go_ret
        exact ⟨bW2, .inl ⟨(by first | rfl | trivial), hk0, hin, p, off, rfl, by simp⟩⟩
      · have hd1 : decide ((n : Int) ≤ ix) = true := by simp; omega
        go_enter Try.func57, Try.ntmps57
        go_wp2_with fail
        rw [← unhide EW]
        clear EW
        have hS0 : ({ W with drawn := W.drawn + 1 } : World).cell? ⟨b, o, none⟩ = some (.int .i64 5) ∧ ({ W with drawn := W.drawn + 1 } : World).cell? ⟨b, o + 6, none⟩ = some (.slice ai n c) ∧ ({ W with drawn := W.drawn + 1 } : World).cell? ⟨w.heap.size, 1, none⟩ = some (.int .i64 ix) := ⟨y0, y6, s1⟩
        clear y0 y6 s1
        refine wp_region_noPanic ?_
        refine wp_region_held (S := fun w' => w'.cell? ⟨b, o, none⟩ = some (.int .i64 5) ∧ w'.cell? ⟨b, o + 6, none⟩ = some (.slice ai n c) ∧ w'.cell? ⟨w.heap.size, 1, none⟩ = some (.int .i64 ix)) mixed ?_
        refine wpAnyH_take (i := 0) (v := ?v41) rfl (by kernel_rfl) (by kernel_rfl) (by kernel_rfl) (fun _ _ _ h => h) (Or.inl ⟨by rfl, ?hy41⟩) hS0 ?_
        case hy41 => (intro w' hw'; obtain ⟨c0, c6, c1⟩ := hw'; go_simp; try with_reducible rfl)
        simp only [List.getElem_toArray, List.getElem_cons_zero, List.getElem_cons_succ, Act.put, List.setIfInBounds_toArray, List.set_cons_zero, List.set_cons_succ]
        refine wpAnyH_take (i := 1) (v := ?v42) rfl (by kernel_rfl) (by kernel_rfl) (by kernel_rfl) (fun _ _ _ h => h) (Or.inl ⟨by rfl, ?hy42⟩) hS0 ?_
        case hy42 => (intro w' hw'; obtain ⟨c0, c6, c1⟩ := hw'; go_simp; try with_reducible rfl)
        simp only [List.getElem_toArray, List.getElem_cons_zero, List.getElem_cons_succ, Act.put, List.setIfInBounds_toArray, List.set_cons_zero, List.set_cons_succ]
        refine wpAnyH_take (i := 2) (v := ?v43) rfl (by kernel_rfl) (by kernel_rfl) (by kernel_rfl) (fun _ _ _ h => h) (Or.inl ⟨by rfl, ?hy43⟩) hS0 ?_
        case hy43 => (intro w' hw'; obtain ⟨c0, c6, c1⟩ := hw'; go_simp; try with_reducible rfl)
        simp only [List.getElem_toArray, List.getElem_cons_zero, List.getElem_cons_succ, Act.put, List.setIfInBounds_toArray, List.set_cons_zero, List.set_cons_succ]
        refine wpAnyH_take (i := 3) (v := ?v44) rfl (by kernel_rfl) (by kernel_rfl) (by kernel_rfl) (fun _ _ _ h => h) (Or.inl ⟨by rfl, ?hy44⟩) hS0 ?_
        case hy44 => (intro w' hw'; obtain ⟨c0, c6, c1⟩ := hw'; go_simp; try with_reducible rfl)
        simp only [List.getElem_toArray, List.getElem_cons_zero, List.getElem_cons_succ, Act.put, List.setIfInBounds_toArray, List.set_cons_zero, List.set_cons_succ]
        refine wpAnyH_take (i := 4) (v := ?v45) rfl (by kernel_rfl) (by kernel_rfl) (by kernel_rfl) (fun _ _ _ h => h) (Or.inl ⟨by rfl, ?hy45⟩) hS0 ?_
        case hy45 => (intro w' hw'; obtain ⟨c0, c6, c1⟩ := hw'; go_simp; try with_reducible rfl)
        simp only [List.getElem_toArray, List.getElem_cons_zero, List.getElem_cons_succ, Act.put, List.setIfInBounds_toArray, List.set_cons_zero, List.set_cons_succ]
        refine wpAnyH_take (i := 5) (v := ?v46) rfl (by kernel_rfl) (by kernel_rfl) (by kernel_rfl) (fun _ _ _ h => h) (Or.inl ⟨by rfl, ?hy46⟩) hS0 ?_
        case hy46 => (intro w' hw'; obtain ⟨c0, c6, c1⟩ := hw'; go_simp; try with_reducible rfl)
        simp only [List.getElem_toArray, List.getElem_cons_zero, List.getElem_cons_succ, Act.put, List.setIfInBounds_toArray, List.set_cons_zero, List.set_cons_succ]
        refine wpAnyH_take (i := 6) (v := ?v47) rfl (by kernel_rfl) (by kernel_rfl) (by kernel_rfl) (fun _ _ _ h => h) (Or.inl ⟨by rfl, ?hy47⟩) hS0 ?_
        case hy47 => (intro w' hw'; obtain ⟨c0, c6, c1⟩ := hw'; go_simp; try with_reducible rfl)
        simp only [List.getElem_toArray, List.getElem_cons_zero, List.getElem_cons_succ, Act.put, List.setIfInBounds_toArray, List.set_cons_zero, List.set_cons_succ]
        refine wpAnyH_take (i := 7) (v := ?v48) rfl (by kernel_rfl) (by kernel_rfl) (by kernel_rfl) (fun _ _ _ h => h) (Or.inl ⟨by rfl, ?hy48⟩) hS0 ?_
        case hy48 => (intro w' hw'; obtain ⟨c0, c6, c1⟩ := hw'; go_simp; try with_reducible rfl)
        simp only [List.getElem_toArray, List.getElem_cons_zero, List.getElem_cons_succ, Act.put, List.setIfInBounds_toArray, List.set_cons_zero, List.set_cons_succ]
        refine wpAnyH_take (i := 8) (v := ?v49) rfl (by kernel_rfl) (by kernel_rfl) (by kernel_rfl) (fun _ _ _ h => h) (Or.inl ⟨by rfl, ?hy49⟩) hS0 ?_
        case hy49 => (intro w' hw'; obtain ⟨c0, c6, c1⟩ := hw'; go_simp; try with_reducible rfl)
        simp only [List.getElem_toArray, List.getElem_cons_zero, List.getElem_cons_succ, Act.put, List.setIfInBounds_toArray, List.set_cons_zero, List.set_cons_succ]
        refine wpAnyH_take (i := 9) (v := ?v50) rfl (by kernel_rfl) (by kernel_rfl) (by kernel_rfl) (fun _ _ _ h => h) (Or.inl ⟨by rfl, ?hy50⟩) hS0 ?_
        case hy50 => (intro w' hw'; obtain ⟨c0, c6, c1⟩ := hw'; go_simp; try with_reducible rfl)
        simp only [List.getElem_toArray, List.getElem_cons_zero, List.getElem_cons_succ, Act.put, List.setIfInBounds_toArray, List.set_cons_zero, List.set_cons_succ]
        refine wpAnyH_take (i := 10) (v := ?v51) rfl (by kernel_rfl) (by kernel_rfl) (by kernel_rfl) (fun _ _ _ h => h) (Or.inl ⟨by rfl, ?hy51⟩) hS0 ?_
        case hy51 => (intro w' hw'; obtain ⟨c0, c6, c1⟩ := hw'; go_simp; try with_reducible rfl)
        simp only [List.getElem_toArray, List.getElem_cons_zero, List.getElem_cons_succ, Act.put, List.setIfInBounds_toArray, List.set_cons_zero, List.set_cons_succ]
        refine wpAnyH_take (i := 11) (v := ?v52) rfl (by kernel_rfl) (by kernel_rfl) (by kernel_rfl) (fun _ _ _ h => h) (Or.inl ⟨by rfl, ?hy52⟩) hS0 ?_
        case hy52 => (intro w' hw'; obtain ⟨c0, c6, c1⟩ := hw'; go_simp; try with_reducible rfl)
        simp only [List.getElem_toArray, List.getElem_cons_zero, List.getElem_cons_succ, Act.put, List.setIfInBounds_toArray, List.set_cons_zero, List.set_cons_succ]
        refine wpAnyH_take (i := 12) (v := ?v53) rfl (by kernel_rfl) (by kernel_rfl) (by kernel_rfl) (fun _ _ _ h => h) (Or.inl ⟨by rfl, ?hy53⟩) hS0 ?_
        case hy53 => (intro w' hw'; obtain ⟨c0, c6, c1⟩ := hw'; go_simp; try with_reducible rfl)
        simp only [List.getElem_toArray, List.getElem_cons_zero, List.getElem_cons_succ, Act.put, List.setIfInBounds_toArray, List.set_cons_zero, List.set_cons_succ]
        refine wpAnyH_take (i := 13) (v := ?v54) rfl (by kernel_rfl) (by kernel_rfl) (by kernel_rfl) (fun _ _ _ h => h) (Or.inl ⟨by rfl, ?hy54⟩) hS0 ?_
        case hy54 => (intro w' hw'; obtain ⟨c0, c6, c1⟩ := hw'; go_simp; try with_reducible rfl)
        simp only [List.getElem_toArray, List.getElem_cons_zero, List.getElem_cons_succ, Act.put, List.setIfInBounds_toArray, List.set_cons_zero, List.set_cons_succ]
        refine wpAnyH_take (i := 14) (v := ?v55) rfl (by kernel_rfl) (by kernel_rfl) (by kernel_rfl) (fun _ _ _ h => h) (Or.inl ⟨by rfl, ?hy55⟩) hS0 ?_
        case hy55 => (intro w' hw'; obtain ⟨c0, c6, c1⟩ := hw'; go_simp; try with_reducible rfl)
        simp only [List.getElem_toArray, List.getElem_cons_zero, List.getElem_cons_succ, Act.put, List.setIfInBounds_toArray, List.set_cons_zero, List.set_cons_succ]
        refine wpAnyH_take (i := 15) (v := ?v56) rfl (by kernel_rfl) (by kernel_rfl) (by kernel_rfl) (fun _ _ _ h => h) (Or.inl ⟨by rfl, ?hy56⟩) hS0 ?_
        case hy56 => (intro w' hw'; obtain ⟨c0, c6, c1⟩ := hw'; go_simp; try with_reducible rfl)
        simp only [List.getElem_toArray, List.getElem_cons_zero, List.getElem_cons_succ, Act.put, List.setIfInBounds_toArray, List.set_cons_zero, List.set_cons_succ]
        refine wpAnyH_take (i := 16) (v := ?v57) rfl (by kernel_rfl) (by kernel_rfl) (by kernel_rfl) (fun _ _ _ h => h) (Or.inl ⟨by rfl, ?hy57⟩) hS0 ?_
        case hy57 => (intro w' hw'; obtain ⟨c0, c6, c1⟩ := hw'; go_simp; try with_reducible rfl)
        simp only [List.getElem_toArray, List.getElem_cons_zero, List.getElem_cons_succ, Act.put, List.setIfInBounds_toArray, List.set_cons_zero, List.set_cons_succ]
        refine wpAnyH_take (i := 17) (v := ?v58) rfl (by kernel_rfl) (by kernel_rfl) (by kernel_rfl) (fun _ _ _ h => h) (Or.inl ⟨by rfl, ?hy58⟩) hS0 ?_
        case hy58 => (intro w' hw'; obtain ⟨c0, c6, c1⟩ := hw'; go_simp; try with_reducible rfl)
        simp only [List.getElem_toArray, List.getElem_cons_zero, List.getElem_cons_succ, Act.put, List.setIfInBounds_toArray, List.set_cons_zero, List.set_cons_succ]
        refine wpAnyH_take (i := 18) (v := ?v59) rfl (by kernel_rfl) (by kernel_rfl) (by kernel_rfl) (fun _ _ _ h => h) (Or.inl ⟨by rfl, ?hy59⟩) hS0 ?_
        case hy59 => (intro w' hw'; obtain ⟨c0, c6, c1⟩ := hw'; go_simp; try with_reducible rfl)
        simp only [List.getElem_toArray, List.getElem_cons_zero, List.getElem_cons_succ, Act.put, List.setIfInBounds_toArray, List.set_cons_zero, List.set_cons_succ]
        refine wpAnyH_take (i := 19) (v := ?v60) rfl (by kernel_rfl) (by kernel_rfl) (by kernel_rfl) (fun _ _ _ h => h) (Or.inl ⟨by rfl, ?hy60⟩) hS0 ?_
        case hy60 => (intro w' hw'; obtain ⟨c0, c6, c1⟩ := hw'; go_simp; try with_reducible rfl)
        simp only [List.getElem_toArray, List.getElem_cons_zero, List.getElem_cons_succ, Act.put, List.setIfInBounds_toArray, List.set_cons_zero, List.set_cons_succ]
        refine wpAnyH_done (by kernel_rfl) ?_ _; refine NoPanic.normal ?_
        have bW1 : Below w.heap.size w { W with drawn := W.drawn + 1 } := bW.drew
        generalize ({ W with drawn := W.drawn + 1 } : World) = W1 at *
        go_wp2
        go_ret
        exact ⟨bW1, .inr ⟨by omega, rfl⟩⟩
  · have hd5 : (kd != 5) = true := by simpa using h5
    go_enter Try.func57, Try.ntmps57
    go_wp2_with fail
    rw [← unhide EW]
    clear EW
    have hS0 : ({ W with drawn := W.drawn + 1 } : World).cell? ⟨b, o, none⟩ = some (.int .i64 kd) ∧ ({ W with drawn := W.drawn + 1 } : World).cell? ⟨b, o + 6, none⟩ = some (.slice ai n c) ∧ ({ W with drawn := W.drawn + 1 } : World).cell? ⟨w.heap.size, 1, none⟩ = some (.int .i64 ix) := ⟨y0, y6, s1⟩
    clear y0 y6 s1
    refine wp_region_noPanic ?_
    refine wp_region_held (S := fun w' => w'.cell? ⟨b, o, none⟩ = some (.int .i64 kd) ∧ w'.cell? ⟨b, o + 6, none⟩ = some (.slice ai n c) ∧ w'.cell? ⟨w.heap.size, 1, none⟩ = some (.int .i64 ix)) mixed ?_
    refine wpAnyH_take (i := 0) (v := ?v61) rfl (by kernel_rfl) (by kernel_rfl) (by kernel_rfl) (fun _ _ _ h => h) (Or.inl ⟨by rfl, ?hy61⟩) hS0 ?_
    case hy61 => (intro w' hw'; obtain ⟨c0, c6, c1⟩ := hw'; go_simp; try with_reducible rfl)
    simp only [List.getElem_toArray, List.getElem_cons_zero, List.getElem_cons_succ, Act.put, List.setIfInBounds_toArray, List.set_cons_zero, List.set_cons_succ]
    refine wpAnyH_take (i := 1) (v := ?v62) rfl (by kernel_rfl) (by kernel_rfl) (by kernel_rfl) (fun _ _ _ h => h) (Or.inl ⟨by rfl, ?hy62⟩) hS0 ?_
    case hy62 => (intro w' hw'; obtain ⟨c0, c6, c1⟩ := hw'; go_simp; try with_reducible rfl)
    simp only [List.getElem_toArray, List.getElem_cons_zero, List.getElem_cons_succ, Act.put, List.setIfInBounds_toArray, List.set_cons_zero, List.set_cons_succ]
    refine wpAnyH_take (i := 2) (v := ?v63) rfl (by kernel_rfl) (by kernel_rfl) (by kernel_rfl) (fun _ _ _ h => h) (Or.inl ⟨by rfl, ?hy63⟩) hS0 ?_
    case hy63 => (intro w' hw'; obtain ⟨c0, c6, c1⟩ := hw'; go_simp; try with_reducible rfl)
    simp only [List.getElem_toArray, List.getElem_cons_zero, List.getElem_cons_succ, Act.put, List.setIfInBounds_toArray, List.set_cons_zero, List.set_cons_succ]
    refine wpAnyH_take (i := 3) (v := ?v64) rfl (by kernel_rfl) (by kernel_rfl) (by kernel_rfl) (fun _ _ _ h => h) (Or.inl ⟨by rfl, ?hy64⟩) hS0 ?_
    case hy64 => (intro w' hw'; obtain ⟨c0, c6, c1⟩ := hw'; go_simp; try with_reducible rfl)
    simp only [List.getElem_toArray, List.getElem_cons_zero, List.getElem_cons_succ, Act.put, List.setIfInBounds_toArray, List.set_cons_zero, List.set_cons_succ]
    refine wpAnyH_take (i := 4) (v := ?v65) rfl (by kernel_rfl) (by kernel_rfl) (by kernel_rfl) (fun _ _ _ h => h) (Or.inl ⟨by rfl, ?hy65⟩) hS0 ?_
    case hy65 => (intro w' hw'; obtain ⟨c0, c6, c1⟩ := hw'; go_simp; try with_reducible rfl)
    simp only [List.getElem_toArray, List.getElem_cons_zero, List.getElem_cons_succ, Act.put, List.setIfInBounds_toArray, List.set_cons_zero, List.set_cons_succ]
    refine wpAnyH_take (i := 5) (v := ?v66) rfl (by kernel_rfl) (by kernel_rfl) (by kernel_rfl) (fun _ _ _ h => h) (Or.inl ⟨by rfl, ?hy66⟩) hS0 ?_
    case hy66 => (intro w' hw'; obtain ⟨c0, c6, c1⟩ := hw'; go_simp; try with_reducible rfl)
    simp only [List.getElem_toArray, List.getElem_cons_zero, List.getElem_cons_succ, Act.put, List.setIfInBounds_toArray, List.set_cons_zero, List.set_cons_succ]
    refine wpAnyH_take (i := 6) (v := undef) rfl (by kernel_rfl) (by kernel_rfl) (by kernel_rfl) (fun _ _ _ h => h) (Or.inr ⟨by rfl, rfl⟩) hS0 ?_
    simp only [List.getElem_toArray, List.getElem_cons_zero, List.getElem_cons_succ, Act.put, List.setIfInBounds_toArray, List.set_cons_zero, List.set_cons_succ]
    refine wpAnyH_take (i := 7) (v := undef) rfl (by kernel_rfl) (by kernel_rfl) (by kernel_rfl) (fun _ _ _ h => h) (Or.inr ⟨by rfl, rfl⟩) hS0 ?_
    simp only [List.getElem_toArray, List.getElem_cons_zero, List.getElem_cons_succ, Act.put, List.setIfInBounds_toArray, List.set_cons_zero, List.set_cons_succ]
    refine wpAnyH_take (i := 8) (v := undef) rfl (by kernel_rfl) (by kernel_rfl) (by kernel_rfl) (fun _ _ _ h => h) (Or.inr ⟨by rfl, rfl⟩) hS0 ?_
    simp only [List.getElem_toArray, List.getElem_cons_zero, List.getElem_cons_succ, Act.put, List.setIfInBounds_toArray, List.set_cons_zero, List.set_cons_succ]
    refine wpAnyH_take (i := 9) (v := ?v67) rfl (by kernel_rfl) (by kernel_rfl) (by kernel_rfl) (fun _ _ _ h => h) (Or.inl ⟨by rfl, ?hy67⟩) hS0 ?_
    case hy67 => (intro w' hw'; obtain ⟨c0, c6, c1⟩ := hw'; go_simp; try with_reducible rfl)
    simp only [List.getElem_toArray, List.getElem_cons_zero, List.getElem_cons_succ, Act.put, List.setIfInBounds_toArray, List.set_cons_zero, List.set_cons_succ]
    refine wpAnyH_take (i := 10) (v := ?v68) rfl (by kernel_rfl) (by kernel_rfl) (by kernel_rfl) (fun _ _ _ h => h) (Or.inl ⟨by rfl, ?hy68⟩) hS0 ?_
    case hy68 => (intro w' hw'; obtain ⟨c0, c6, c1⟩ := hw'; go_simp; try with_reducible rfl)
    simp only [List.getElem_toArray, List.getElem_cons_zero, List.getElem_cons_succ, Act.put, List.setIfInBounds_toArray, List.set_cons_zero, List.set_cons_succ]
    refine wpAnyH_take (i := 11) (v := undef) rfl (by kernel_rfl) (by kernel_rfl) (by kernel_rfl) (fun _ _ _ h => h) (Or.inr ⟨by rfl, rfl⟩) hS0 ?_
    simp only [List.getElem_toArray, List.getElem_cons_zero, List.getElem_cons_succ, Act.put, List.setIfInBounds_toArray, List.set_cons_zero, List.set_cons_succ]
    refine wpAnyH_take (i := 12) (v := undef) rfl (by kernel_rfl) (by kernel_rfl) (by kernel_rfl) (fun _ _ _ h => h) (Or.inr ⟨by rfl, rfl⟩) hS0 ?_
    simp only [List.getElem_toArray, List.getElem_cons_zero, List.getElem_cons_succ, Act.put, List.setIfInBounds_toArray, List.set_cons_zero, List.set_cons_succ]
    refine wpAnyH_take (i := 13) (v := undef) rfl (by kernel_rfl) (by kernel_rfl) (by kernel_rfl) (fun _ _ _ h => h) (Or.inr ⟨by rfl, rfl⟩) hS0 ?_
    simp only [List.getElem_toArray, List.getElem_cons_zero, List.getElem_cons_succ, Act.put, List.setIfInBounds_toArray, List.set_cons_zero, List.set_cons_succ]
    refine wpAnyH_take (i := 14) (v := undef) rfl (by kernel_rfl) (by kernel_rfl) (by kernel_rfl) (fun _ _ _ h => h) (Or.inr ⟨by rfl, rfl⟩) hS0 ?_
    simp only [List.getElem_toArray, List.getElem_cons_zero, List.getElem_cons_succ, Act.put, List.setIfInBounds_toArray, List.set_cons_zero, List.set_cons_succ]
    refine wpAnyH_take (i := 15) (v := undef) rfl (by kernel_rfl) (by kernel_rfl) (by kernel_rfl) (fun _ _ _ h => h) (Or.inr ⟨by rfl, rfl⟩) hS0 ?_
    simp only [List.getElem_toArray, List.getElem_cons_zero, List.getElem_cons_succ, Act.put, List.setIfInBounds_toArray, List.set_cons_zero, List.set_cons_succ]
    refine wpAnyH_take (i := 16) (v := undef) rfl (by kernel_rfl) (by kernel_rfl) (by kernel_rfl) (fun _ _ _ h => h) (Or.inr ⟨by rfl, rfl⟩) hS0 ?_
    simp only [List.getElem_toArray, List.getElem_cons_zero, List.getElem_cons_succ, Act.put, List.setIfInBounds_toArray, List.set_cons_zero, List.set_cons_succ]
    refine wpAnyH_take (i := 17) (v := undef) rfl (by kernel_rfl) (by kernel_rfl) (by kernel_rfl) (fun _ _ _ h => h) (Or.inr ⟨by rfl, rfl⟩) hS0 ?_
    simp only [List.getElem_toArray, List.getElem_cons_zero, List.getElem_cons_succ, Act.put, List.setIfInBounds_toArray, List.set_cons_zero, List.set_cons_succ]
    refine wpAnyH_take (i := 18) (v := undef) rfl (by kernel_rfl) (by kernel_rfl) (by kernel_rfl) (fun _ _ _ h => h) (Or.inr ⟨by rfl, rfl⟩) hS0 ?_
    simp only [List.getElem_toArray, List.getElem_cons_zero, List.getElem_cons_succ, Act.put, List.setIfInBounds_toArray, List.set_cons_zero, List.set_cons_succ]
    refine wpAnyH_take (i := 19) (v := ?v69) rfl (by kernel_rfl) (by kernel_rfl) (by kernel_rfl) (fun _ _ _ h => h) (Or.inl ⟨by rfl, ?hy69⟩) hS0 ?_
    case hy69 => (intro w' hw'; obtain ⟨c0, c6, c1⟩ := hw'; go_simp; try with_reducible rfl)
    simp only [List.getElem_toArray, List.getElem_cons_zero, List.getElem_cons_succ, Act.put, List.setIfInBounds_toArray, List.set_cons_zero, List.set_cons_succ]
    refine wpAnyH_done (by kernel_rfl) ?_ _; refine NoPanic.normal ?_
    have bW1 : Below w.heap.size w { W with drawn := W.drawn + 1 } := bW.drew
    generalize ({ W with drawn := W.drawn + 1 } : World) = W1 at *
    go_wp2
    go_ret
    exact ⟨bW1, .inr ⟨by omega, rfl⟩⟩
end Go.Proofs.Ythpcpminikmcbaa.vl
namespace Go.Proofs.Ythpcpminikmcbaa.vl
open Go.ChangeShapes Go.WideShapes Go.ChangeAt Go.RowKit
open stp (St Pth St3)
set_option linter.unusedVariables false
set_option linter.unusedSimpArgs false
theorem bytesExt {a b : ByteArray} (h : a.toList = b.toList) : a = b := by
  rw [Lib.toList_data, Lib.toList_data] at h
  obtain ⟨⟨x⟩⟩ := a
  obtain ⟨⟨y⟩⟩ := b
  simp at h
  rw [h]
theorem findIdx_some {α : Type} {f : α → Bool} : ∀ {l : List α} {k : Nat} {x : α}, l[k]? = some x → f x = true → (∀ i y, i < k → l[i]? = some y → f y = false) → l.findIdx? f = some k
  | [], k, x, h, _, _ => by simp at h
  | y :: r, 0, x, h, hx, _ => by simp at h; subst h; simp [List.findIdx?_cons, hx]
  | y :: r, k + 1, x, h, hx, hn => by
    have h0 := hn 0 y (by omega) rfl
    have := findIdx_some (f := f) (l := r) (by simpa using h) hx (fun i z hi hz => hn (i + 1) z (by omega) (by simpa using hz))
    simp [List.findIdx?_cons, h0, this]
theorem findIdx_none {α : Type} {f : α → Bool} : ∀ {l : List α}, (∀ (i : Nat) (y : α), l[i]? = some y → f y = false) → l.findIdx? f = none
  | [], _ => rfl
  | y :: r, hn => by
    have h0 : f y = false := hn 0 y rfl
    have := findIdx_none (f := f) (l := r) (fun i z hz => hn (i + 1) z (by simpa using hz))
    simp [List.findIdx?_cons, h0, this]
set_option maxHeartbeats 6000000 in
set_option maxRecDepth 6000 in
theorem child_name (b o : Nat) (kd : Int) (af : Option Addr) (n c : Nat) (fls : Fls) (nm : ByteArray) (ix : Int) (w : World) (hb : b < w.heap.size) (x0 : w.cell? ⟨b, o, none⟩ = some (.int .i64 kd)) (x7 : w.cell? ⟨b, o + 7, none⟩ = some (.slice af n c)) (hF : FlsAt w fls af n) (hn : n ≤ 9223372036854775807) :
    Calls Try.prog 57 #[.pointer (some ⟨b, o, none⟩), .agg #[.string nm, .int .i64 ix, .bool false]] w fun e w' => Below w.heap.size w w' ∧ ((kd = 6 ∧ ∃ j p off, af = some ⟨p, off, none⟩ ∧ fls.list.findIdx? (fun q => decide (q.1 = nm)) = some j ∧ e = .returned (.pointer (some ⟨p, off + j * 9 + 1, none⟩))) ∨ ((kd ≠ 6 ∨ fls.list.findIdx? (fun q => decide (q.1 = nm)) = none) ∧ e = .returned (.pointer none))) := by
  obtain ⟨W, eW⟩ : ∃ W, W = w.alloc (.cells #[.string nm, .int .i64 ix, .bool false] 34) := ⟨_, rfl⟩
  have y0 : W.cell? ⟨b, o, none⟩ = some (.int .i64 kd) := by rw [eW]; exact (World.cell?_alloc_past _ _ _ hb).trans x0
  have y7 : W.cell? ⟨b, o + 7, none⟩ = some (.slice af n c) := by rw [eW]; exact (World.cell?_alloc_past _ _ _ hb).trans x7
  have s0 : W.cell? ⟨w.heap.size, 0, none⟩ = some (.string nm) := by rw [eW]; simp
  have bW : Below w.heap.size w W := by rw [eW]; exact (Below.refl _ _).alloc (Nat.le_refl _) _
  have EW := hide eW
  clear eW
  by_cases h6 : kd = 6
  · subst h6
    go_enter Try.func57, Try.ntmps57
    go_wp2_with fail
    rw [← unhide EW]
    have hsz : w.heap.size < W.heap.size := by rw [unhide EW]; simp
    clear EW x0 x7
    go_loopw [45] (fun vi wr => ∃ k : Nat, k ≤ n ∧ vi = .int .i64 k ∧ (∀ i q, i < k → fls.list[i]? = some q → q.1 ≠ nm) ∧ Below W.heap.size W wr) (fun vi _ => n - (intOf vi).toNat)
    case atStart => exact ⟨0, Nat.zero_le _, rfl, fun i q hi => absurd hi (Nat.not_lt_zero _), Below.refl _ _⟩
    case round =>
      obtain ⟨k, hk, rfl, hno, hB⟩ := hrel
      by_cases hlt : k < n
      · have ki : (k : Int) < (n : Int) := by omega
        obtain ⟨p, off, nk, v, cs, rfl, hg, hn0, -, -, -⟩ := FlsAt.get fls _ n hF k hlt
        have z7 := keepC hB (Nat.lt_trans hb hsz) y7
        have z0 := keepC hB hsz s0
        have zn := keepC hB (Nat.lt_of_lt_of_le (World.block_lt_of_cell? w _ hn0) bW.size) (keepC bW (World.block_lt_of_cell? w _ hn0) hn0)
        have HB := hide hB
        have Hg := hide hg
        clear y0 y7 s0 hn0 hB hg
        go_wp2_with fail
        have hS0 : ({ wr with drawn := wr.drawn + 1 } : World).cell? ⟨b, o + 7, none⟩ = some (.slice (some ⟨p, off, none⟩) n c) ∧ ({ wr with drawn := wr.drawn + 1 } : World).cell? ⟨w.heap.size, 0, none⟩ = some (.string nm) ∧ ({ wr with drawn := wr.drawn + 1 } : World).cell? ⟨p, off + k * 9, none⟩ = some (.string nk) := ⟨z7, z0, zn⟩
        clear z7 z0 zn
        refine wp_region_noPanic ?_
        refine wp_region_held (S := fun w' => w'.cell? ⟨b, o + 7, none⟩ = some (.slice (some ⟨p, off, none⟩) n c) ∧ w'.cell? ⟨w.heap.size, 0, none⟩ = some (.string nm) ∧ w'.cell? ⟨p, off + k * 9, none⟩ = some (.string nk)) mixed ?_
        refine wpAnyH_take (i := 0) (v := ?v1) rfl (by kernel_rfl) (by kernel_rfl) (by kernel_rfl) (fun _ _ _ h => h) (Or.inl ⟨by rfl, ?hy1⟩) hS0 ?_
        case hy1 => (intro w' hw'; obtain ⟨c7, c0, cn⟩ := hw'; go_simp; try with_reducible rfl)
        simp only [List.getElem_toArray, List.getElem_cons_zero, List.getElem_cons_succ, Act.put, List.setIfInBounds_toArray, List.set_cons_zero, List.set_cons_succ]
        refine wpAnyH_take (i := 1) (v := ?v2) rfl (by kernel_rfl) (by kernel_rfl) (by kernel_rfl) (fun _ _ _ h => h) (Or.inl ⟨by rfl, ?hy2⟩) hS0 ?_
        case hy2 => (intro w' hw'; obtain ⟨c7, c0, cn⟩ := hw'; go_simp; try with_reducible rfl)
        simp only [List.getElem_toArray, List.getElem_cons_zero, List.getElem_cons_succ, Act.put, List.setIfInBounds_toArray, List.set_cons_zero, List.set_cons_succ]
        refine wpAnyH_take (i := 2) (v := ?v3) rfl (by kernel_rfl) (by kernel_rfl) (by kernel_rfl) (fun _ _ _ h => h) (Or.inl ⟨by rfl, ?hy3⟩) hS0 ?_
        case hy3 => (intro w' hw'; obtain ⟨c7, c0, cn⟩ := hw'; go_simp; try with_reducible rfl)
        simp only [List.getElem_toArray, List.getElem_cons_zero, List.getElem_cons_succ, Act.put, List.setIfInBounds_toArray, List.set_cons_zero, List.set_cons_succ]
        refine wpAnyH_take (i := 3) (v := ?v4) rfl (by kernel_rfl) (by kernel_rfl) (by kernel_rfl) (fun _ _ _ h => h) (Or.inl ⟨by rfl, ?hy4⟩) hS0 ?_
        case hy4 => (intro w' hw'; obtain ⟨c7, c0, cn⟩ := hw'; go_simp; try with_reducible rfl)
        simp only [List.getElem_toArray, List.getElem_cons_zero, List.getElem_cons_succ, Act.put, List.setIfInBounds_toArray, List.set_cons_zero, List.set_cons_succ]
        refine wpAnyH_take (i := 4) (v := ?v5) rfl (by kernel_rfl) (by kernel_rfl) (by kernel_rfl) (fun _ _ _ h => h) (Or.inl ⟨by rfl, ?hy5⟩) hS0 ?_
        case hy5 => (intro w' hw'; obtain ⟨c7, c0, cn⟩ := hw'; go_simp; try with_reducible rfl)
        simp only [List.getElem_toArray, List.getElem_cons_zero, List.getElem_cons_succ, Act.put, List.setIfInBounds_toArray, List.set_cons_zero, List.set_cons_succ]
        refine wpAnyH_take (i := 5) (v := ?v6) rfl (by kernel_rfl) (by kernel_rfl) (by kernel_rfl) (fun _ _ _ h => h) (Or.inl ⟨by rfl, ?hy6⟩) hS0 ?_
        case hy6 => (intro w' hw'; obtain ⟨c7, c0, cn⟩ := hw'; go_simp; try with_reducible rfl)
        simp only [List.getElem_toArray, List.getElem_cons_zero, List.getElem_cons_succ, Act.put, List.setIfInBounds_toArray, List.set_cons_zero, List.set_cons_succ]
        refine wpAnyH_take (i := 6) (v := ?v7) rfl (by kernel_rfl) (by kernel_rfl) (by kernel_rfl) (fun _ _ _ h => h) (Or.inl ⟨by rfl, ?hy7⟩) hS0 ?_
        case hy7 => (intro w' hw'; obtain ⟨c7, c0, cn⟩ := hw'; go_simp; try with_reducible rfl)
        simp only [List.getElem_toArray, List.getElem_cons_zero, List.getElem_cons_succ, Act.put, List.setIfInBounds_toArray, List.set_cons_zero, List.set_cons_succ]
        refine wpAnyH_take (i := 7) (v := ?v8) rfl (by kernel_rfl) (by kernel_rfl) (by kernel_rfl) (fun _ _ _ h => h) (Or.inl ⟨by rfl, ?hy8⟩) hS0 ?_
        case hy8 => (intro w' hw'; obtain ⟨c7, c0, cn⟩ := hw'; go_simp; try with_reducible rfl)
        simp only [List.getElem_toArray, List.getElem_cons_zero, List.getElem_cons_succ, Act.put, List.setIfInBounds_toArray, List.set_cons_zero, List.set_cons_succ]
        refine wpAnyH_take (i := 8) (v := ?v9) rfl (by kernel_rfl) (by kernel_rfl) (by kernel_rfl) (fun _ _ _ h => h) (Or.inl ⟨by rfl, ?hy9⟩) hS0 ?_
        case hy9 => (intro w' hw'; obtain ⟨c7, c0, cn⟩ := hw'; go_simp; try with_reducible rfl)
        simp only [List.getElem_toArray, List.getElem_cons_zero, List.getElem_cons_succ, Act.put, List.setIfInBounds_toArray, List.set_cons_zero, List.set_cons_succ]
        refine wpAnyH_take (i := 9) (v := ?v10) rfl (by kernel_rfl) (by kernel_rfl) (by kernel_rfl) (fun _ _ _ h => h) (Or.inl ⟨by rfl, ?hy10⟩) hS0 ?_
        case hy10 => (intro w' hw'; obtain ⟨c7, c0, cn⟩ := hw'; go_simp; try with_reducible rfl)
        simp only [List.getElem_toArray, List.getElem_cons_zero, List.getElem_cons_succ, Act.put, List.setIfInBounds_toArray, List.set_cons_zero, List.set_cons_succ]
        by_cases heq : nk = nm
        · subst heq
          refine wpAnyH_take (i := 10) (v := ?v11) rfl (by kernel_rfl) (by kernel_rfl) (by kernel_rfl) (fun _ _ _ h => h) (Or.inl ⟨by rfl, ?hy11⟩) hS0 ?_
          case hy11 => (intro w' hw'; obtain ⟨c7, c0, cn⟩ := hw'; go_simp; try with_reducible rfl)
          simp only [List.getElem_toArray, List.getElem_cons_zero, List.getElem_cons_succ, Act.put, List.setIfInBounds_toArray, List.set_cons_zero, List.set_cons_succ]
          refine wpAnyH_done (by kernel_rfl) ?_ _; refine NoPanic.normal ?_
          have hB1 : Below W.heap.size W { wr with drawn := wr.drawn + 1 } := (unhide HB).drew
          generalize ({ wr with drawn := wr.drawn + 1 } : World) = W1 at *
          obtain ⟨z7, z0, zn⟩ := hS0
          go_wp2
          go_ret
          refine ⟨bW.trans (hB1.mono bW.size), .inl ⟨(by first | rfl | trivial), k, p, off, rfl, ?_, rfl⟩⟩
          exact findIdx_some (unhide Hg) (by simp) (fun i q hi hq => by simpa using hno i q hi hq)
        · have hbq : (nk.toList == nm.toList) = false := by simpa using fun e => heq (bytesExt e)
          refine wpAnyH_take (i := 10) (v := ?v12) rfl (by kernel_rfl) (by kernel_rfl) (by kernel_rfl) (fun _ _ _ h => h) (Or.inl ⟨by rfl, ?hy12⟩) hS0 ?_
          case hy12 => (intro w' hw'; obtain ⟨c7, c0, cn⟩ := hw'; go_simp; try with_reducible rfl)
          simp only [List.getElem_toArray, List.getElem_cons_zero, List.getElem_cons_succ, Act.put, List.setIfInBounds_toArray, List.set_cons_zero, List.set_cons_succ]
          refine wpAnyH_done (by kernel_rfl) ?_ _; refine NoPanic.normal ?_
          have hB1 : Below W.heap.size W { wr with drawn := wr.drawn + 1 } := (unhide HB).drew
          generalize ({ wr with drawn := wr.drawn + 1 } : World) = W1 at *
          obtain ⟨z7, z0, zn⟩ := hS0
          go_wp2
          refine ⟨⟨k + 1, by omega, by go_num, fun i q hi hq => ?_, hB1⟩, by simp only [intOf]; omega⟩
          by_cases hik : i = k
          · subst hik
            have := Option.some.inj (hq.symm.trans (unhide Hg))
            rw [this]
            exact heq
          · exact hno i q (by omega) hq
      · obtain rfl : k = n := by omega
        go_wp2
        go_ret
        refine ⟨bW.trans (hB.mono bW.size), .inr ⟨.inr ?_, rfl⟩⟩
        exact findIdx_none (fun i q hq => by
          have hi : i < k := by rw [← FlsAt.len fls _ _ hF]; exact (List.getElem?_eq_some_iff.1 hq).1
          simpa using hno i q hi hq)
  · have hd6 : (kd != 6) = true := by simpa using h6
    go_enter Try.func57, Try.ntmps57
    go_wp2
    go_ret
    exact ⟨(Below.refl _ _).alloc (Nat.le_refl _) _, .inr ⟨.inl h6, rfl⟩⟩
end Go.Proofs.Ythpcpminikmcbaa.vl
namespace Go.Proofs.Ythpcpminikmcbaa.vl
open Go.ChangeShapes Go.WideShapes Go.ChangeAt Go.RowKit
open stp (St Pth St3)
set_option linter.unusedVariables false
set_option linter.unusedSimpArgs false
/-- where the child number i of a value with these cells lies -/
def Loc (cs : List Value) (s : St) (i b o : Nat) : Prop :=
  ∃ p off n c, if s.it = true then cs[6]? = some (.slice (some ⟨p, off, none⟩) n c) ∧ b = p ∧ o = off + i * 8 else cs[7]? = some (.slice (some ⟨p, off, none⟩) n c) ∧ b = p ∧ o = off + i * 9 + 1
def getS : Vl → St → Option Vl
  | .mk kd b n f tx ty its fls, s => match chI (.mk kd b n f tx ty its fls) s with
    | none => none
    | some i => if s.it = true then its.list[i]? else (fls.list[i]?).map (·.2)
def getP : Vl → List St → Option Vl
  | v, [] => some v
  | v, s :: r => (getS v s).bind fun u => getP u r
theorem chI_mk (kd : Int) (b : Bool) (n : Int) (f : Nat) (tx ty : ByteArray) (its : Vls) (fls : Fls) (s : St) : chI (.mk kd b n f tx ty its fls) s = if s.it = true then (if kd = 5 ∧ 0 ≤ s.ix ∧ s.ix < its.list.length then some s.ix.toNat else none) else (if kd = 6 then fls.list.findIdx? (fun q => decide (q.1 = s.nm)) else none) := rfl
theorem findIdx_get {α : Type} {f : α → Bool} {l : List α} {i : Nat} (h : l.findIdx? f = some i) : ∃ x, l[i]? = some x ∧ f x = true := by
  rw [List.findIdx?_eq_some_iff_getElem] at h
  obtain ⟨hi, hx, _⟩ := h
  exact ⟨l[i], by simp [hi], hx⟩
/-- the child of a value that is read -/
theorem VlC.child {w : World} {v : Vl} {cs : List Value} {s : St} {i b o : Nat} (h : VlC w v cs) (hi : chI v s = some i) (hl : Loc cs s i b o) : ∃ u us, getS v s = some u ∧ Row8 w b o us ∧ VlC w u us := by
  obtain ⟨kd, bb, ni, f, tx, ty, its, fls⟩ := v
  have hg : getS (.mk kd bb ni f tx ty its fls) s = if s.it = true then its.list[i]? else (fls.list[i]?).map (·.2) := by simp only [getS, hi]
  rw [chI_mk] at hi
  unfold VlC at h
  obtain ⟨ai, nI, ci, af, nf, cf, rfl, hI, hF, -⟩ := h
  obtain ⟨p, off, n, c, hl⟩ := hl
  by_cases ht : s.it = true
  · rw [if_pos ht] at hi hl hg
    obtain ⟨h6, rfl, rfl⟩ := hl
    simp at h6
    obtain ⟨rfl, rfl, rfl⟩ := h6
    by_cases hc : kd = 5 ∧ 0 ≤ s.ix ∧ s.ix < its.list.length
    · rw [if_pos hc] at hi
      obtain rfl := Option.some.inj hi
      have hlen := VlsAt.len its _ _ hI
      obtain ⟨b', off', u, us, e, hu, hr, hv⟩ := VlsAt.get its _ _ hI s.ix.toNat (by omega)
      simp only [Option.some.injEq, Addr.mk.injEq, and_true] at e
      obtain ⟨rfl, rfl⟩ := e
      exact ⟨u, us, hg.trans hu, hr, hv⟩
    · rw [if_neg hc] at hi
      cases hi
  · rw [if_neg ht] at hi hl hg
    obtain ⟨h7, rfl, rfl⟩ := hl
    simp at h7
    obtain ⟨rfl, rfl, rfl⟩ := h7
    by_cases hc : kd = 6
    · rw [if_pos hc] at hi
      have hlen := FlsAt.len fls _ _ hF
      obtain ⟨q, hq, _⟩ := findIdx_get hi
      obtain ⟨b', off', nm, u, us, e, hu, _, _, hr, hv⟩ := FlsAt.get fls _ _ hF i (by rw [← hlen]; exact (List.getElem?_eq_some_iff.1 hq).1)
      simp only [Option.some.injEq, Addr.mk.injEq, and_true] at e
      obtain ⟨rfl, rfl⟩ := e
      exact ⟨u, us, hg.trans (by rw [hu]; rfl), hr, hv⟩
    · rw [if_neg hc] at hi
      cases hi
theorem addr_of_vls {w : World} {l : Vls} {a : Option Addr} {n : Nat} (h : VlsAt w l a n) : n = 0 ∨ ∃ p off, a = some ⟨p, off, none⟩ := by
  cases l with
  | nil => unfold VlsAt at h; exact .inl h
  | cons v r => unfold VlsAt at h; obtain ⟨b, off, m, cs, h1, _⟩ := h; exact .inr ⟨b, off, h1⟩
/-- tree.child -/
theorem child_ok (v : Vl) (cs : List Value) (b o : Nat) (s : St) (w : World) (hr : Row8 w b o cs) (hv : VlC w v cs) :
    Calls Try.prog 57 #[.pointer (some ⟨b, o, none⟩), s.val] w fun e w' => Below w.heap.size w w' ∧ ((chI v s = none ∧ e = .returned (.pointer none)) ∨ ∃ i b' o', chI v s = some i ∧ Loc cs s i b' o' ∧ e = .returned (.pointer (some ⟨b', o', none⟩))) := by
  obtain ⟨kd, bb, ni, f, tx, ty, its, fls⟩ := v
  unfold VlC at hv
  obtain ⟨ai, nI, ci, af, nf, cf, rfl, hI, hF, hni, hnf, hai, haf, hk1, hk2, hk3, hk4, hci, hcf⟩ := hv
  have x0 := hr 0 _ rfl
  have x6 := hr 6 _ rfl
  have x7 := hr 7 _ rfl
  have hb := World.block_lt_of_cell? w _ x0
  have hlI := VlsAt.len its _ _ hI
  unfold maxLen at hci hcf
  obtain ⟨nm, ix, it⟩ := s
  unfold St.val
  cases it with
  | true =>
    refine (child_item b o kd ai nI ci nm ix w hb x0 x6 (by omega) (addr_of_vls hI)).mono ?_
    rintro e w' ⟨hB, ⟨rfl, h0, h1, p, off, rfl, rfl⟩ | ⟨hn, rfl⟩⟩
    · refine ⟨hB, .inr ⟨ix.toNat, p, off + ix.toNat * 8, ?_, ⟨p, off, nI, ci, by simp⟩, rfl⟩⟩
      rw [chI_mk]
      rw [if_pos rfl, if_pos ⟨rfl, h0, by rw [hlI]; exact h1⟩]
    · refine ⟨hB, .inl ⟨?_, rfl⟩⟩
      rw [chI_mk]
      rw [if_pos rfl, if_neg (by rw [hlI]; exact hn)]
  | false =>
    refine (child_name b o kd af nf cf fls nm ix w hb x0 x7 hF (by omega)).mono ?_
    rintro e w' ⟨hB, ⟨rfl, j, p, off, rfl, hj, rfl⟩ | ⟨hn, rfl⟩⟩
    · refine ⟨hB, .inr ⟨j, p, off + j * 9 + 1, ?_, ⟨p, off, nf, cf, by simp⟩, rfl⟩⟩
      rw [chI_mk]
      rw [if_neg (by simp), if_pos rfl]
      exact hj
    · refine ⟨hB, .inl ⟨?_, rfl⟩⟩
      rw [chI_mk]
      rw [if_neg (by simp)]
      rcases hn with hn | hn
      · rw [if_neg hn]
      · by_cases hk : kd = 6
        · rw [if_pos hk]; exact hn
        · rw [if_neg hk]
end Go.Proofs.Ythpcpminikmcbaa.vl
namespace Go.Proofs.Ythpcpminikmcbaa.vl
open Go.ChangeShapes Go.WideShapes Go.ChangeAt Go.RowKit
open stp (St Pth St3)
set_option linter.unusedVariables false
set_option linter.unusedSimpArgs false
set_option maxHeartbeats 6000000 in
set_option maxRecDepth 6000 in
/-- tree.lead, whatever is known of the way -/
theorem lead_ok (J : Nat → Nat → Nat → Vl → List Value → Prop) (W : World) (ap : Option Addr) (n c : Nat) (ss : List St) (hp : Pth W ap n ss) (hn : n ≤ 4611686018427387903) (b0 o0 : Nat) (v0 : Vl) (cs0 : List Value) (h0 : J 0 b0 o0 v0 cs0)
    (hread : ∀ k b o u us, J k b o u us → Row8 W b o us ∧ VlC W u us)
    (hstep : ∀ k b o u us s i b' o', J k b o u us → ss[k]? = some s → chI u s = some i → Loc us s i b' o' → ∃ u' us', J (k + 1) b' o' u' us') :
    Calls Try.prog 34 #[.pointer (some ⟨b0, o0, none⟩), .slice ap n c] W fun e w' => Below W.heap.size W w' ∧ ((∃ k b o u us s, J k b o u us ∧ ss[k]? = some s ∧ chI u s = none ∧ e = .returned (.pointer none)) ∨ (∃ b o u us, J n b o u us ∧ e = .returned (.pointer (some ⟨b, o, none⟩)))) := by
  have HP := hide hp
  have HR := hide hread
  have HS := hide hstep
  have H0 := hide h0
  clear hp hread hstep h0
  have hnil : ∀ (w : World) (a : Option Addr), (binOp .eql 70 (.pointer a) (.pointer none)).run Try.prog w = .ok (.bool a.isNone) w := by
    intro w a
    cases a <;> go_simp
  go_enter Try.func34, Try.ntmps34
  go_wp2_with fail
  go_loopw [0, 9] (fun vp vi wr => ∃ (k b o : Nat) (u : Vl) (us : List Value), k ≤ n ∧ vp = .pointer (some ⟨b, o, none⟩) ∧ vi = .int .i64 k ∧ Hid (J k b o u us) ∧ Below W.heap.size W wr) (fun _ vi _ => n - (intOf vi).toNat)
  case atStart => exact ⟨0, b0, o0, v0, cs0, Nat.zero_le _, rfl, rfl, H0, Below.refl _ _⟩
  case round =>
    obtain ⟨k, b, o, u, us, hk, rfl, rfl, hJ, hB⟩ := hrel
    by_cases hlt : k < n
    · have ki : (k : Int) < (n : Int) := by omega
      obtain ⟨bp, off, rfl, hbp, hst⟩ : ∃ bp off, ap = some ⟨bp, off, none⟩ ∧ bp < W.heap.size ∧ ∀ i, i < n → ∃ s, ss[i]? = some s ∧ St3 W bp (off + i * 3) s.nm s.ix s.it := by
        rcases (unhide HP).at_ with h | h
        · omega
        · exact h
      obtain ⟨s, hs, h3⟩ := hst k hlt
      clear hst
      obtain ⟨q0, q1, q2⟩ := h3.below hbp hB
      obtain ⟨nm, ix, it⟩ := s
      simp only at q0 q1 q2
      have Hs := hide hs
      clear hs h3
      go_wp2_with fail
      have b1 : Below W.heap.size W (wr.alloc (.cells #[.string nm, .int .i64 ix, .bool it] 34)) := hB.alloc hB.size _
      obtain ⟨hrow, hval⟩ := unhide HR k b o u us (unhide hJ)
      refine (child_ok u us b o ⟨nm, ix, it⟩ _ (Row8.below hrow b1) (VlC.below b1 u us hval)).mono ?_
      rintro e w2 ⟨b2, h2⟩
      have b3 : Below W.heap.size W w2 := b1.trans (b2.mono b1.size)
      rcases h2 with ⟨hc, rfl⟩ | ⟨i, b', o', hc, hloc, rfl⟩
      · have Hc := hide hc
        clear hrow hval hc b2 b1
        go_wp2
        go_ret
        exact ⟨b3, .inl ⟨k, b, o, u, us, _, unhide hJ, unhide Hs, unhide Hc, rfl⟩⟩
      · obtain ⟨u', us', hJ'⟩ := unhide HS k b o u us _ i b' o' (unhide hJ) (unhide Hs) hc hloc
        have HJ' := hide hJ'
        clear hrow hval hc hloc b2 b1 hJ'
        go_wp2
        exact ⟨⟨k + 1, b', o', u', us', by omega, rfl, by go_num, HJ', b3⟩, by simp only [intOf]; omega⟩
    · obtain rfl : k = n := by omega
      go_wp2
      go_ret
      exact ⟨hB, .inr ⟨b, o, u, us, unhide hJ, rfl⟩⟩
end Go.Proofs.Ythpcpminikmcbaa.vl
namespace Go.Proofs.Ythpcpminikmcbaa.vl
open Go.ChangeShapes Go.WideShapes Go.ChangeAt Go.RowKit
open stp (St Pth St3)
set_option linter.unusedVariables false
set_option linter.unusedSimpArgs false
theorem getP_app : ∀ (l r : List St) (v : Vl), getP v (l ++ r) = (getP v l).bind fun u => getP u r
  | [], r, v => rfl
  | s :: l, r, v => by
    simp only [List.cons_append, getP]
    cases getS v s with
    | none => rfl
    | some u => simpa using getP_app l r u
theorem getP_one (v : Vl) (s : St) : getP v [s] = getS v s := by
  simp only [getP]
  cases getS v s <;> rfl
theorem getP_take {v u : Vl} {ss : List St} {k : Nat} {s : St} (h : getP v (ss.take k) = some u) (hs : ss[k]? = some s) : getP v (ss.take (k + 1)) = getS u s := by
  rw [List.take_add_one, hs, getP_app, h]
  exact getP_one u s
theorem getS_none {v : Vl} {s : St} (h : chI v s = none) : getS v s = none := by
  cases v
  simp only [getS, h]
theorem getP_none {v u : Vl} {ss : List St} {k : Nat} {s : St} (h : getP v (ss.take k) = some u) (hs : ss[k]? = some s) (hc : chI u s = none) : getP v ss = none := by
  have h1 := getP_take h hs
  rw [getS_none hc] at h1
  rw [← List.take_append_drop (k + 1) ss, getP_app, h1]
  rfl
theorem Small.getS {v u : Vl} {s : St} (hv : Small v) (h : getS v s = some u) : Small u := by
  obtain ⟨kd, bb, ni, f, tx, ty, its, fls⟩ := v
  unfold Small at hv
  simp only [vl.getS] at h
  cases hc : chI (.mk kd bb ni f tx ty its fls) s with
  | none => rw [hc] at h; cases h
  | some i =>
    rw [hc] at h
    simp only at h
    by_cases ht : s.it = true
    · rw [if_pos ht] at h
      exact hv.2.2.2.1.all u (List.mem_of_getElem? h)
    · rw [if_neg ht, Option.map_eq_some_iff] at h
      obtain ⟨q, hq, rfl⟩ := h
      exact hv.2.2.2.2.all q (List.mem_of_getElem? hq)
theorem Small.getP : ∀ {ss : List St} {v u : Vl}, Small v → getP v ss = some u → Small u
  | [], v, u, hv, h => by simp only [vl.getP, Option.some.injEq] at h; rw [← h]; exact hv
  | s :: r, v, u, hv, h => by
    simp only [vl.getP] at h
    cases hs : vl.getS v s with
    | none => rw [hs] at h; cases h
    | some x => rw [hs] at h; exact Small.getP (hv.getS hs) h
/-- the empty value -/
def z8 : List Value := [.int .i64 0, .bool false, .int .i64 0, .float .f64 0, .string { data := #[] }, .string { data := #[] }, .slice none 0 0, .slice none 0 0]
theorem z8i : (Try.prog.info? 27).map (·.size) = some z8.toArray.size := by simp [z8, infoV]
theorem z8o : z8.toArray.all (·.oneCell') = true := by simp [z8, Value.oneCell']
def z0 : Vl := .mk 0 false 0 0 { data := #[] } { data := #[] } .nil .nil
theorem OwC.zero (w : World) : OwC w z0 z8 [] := by
  unfold z0 OwC
  exact ⟨none, 0, 0, none, 0, 0, [], [], rfl, .inl ⟨rfl, rfl, rfl, rfl⟩, .inl ⟨rfl, rfl, rfl, rfl⟩, Nat.le_refl _, Nat.le_refl _, fun _ => rfl, fun _ => rfl, rfl, rfl, Nat.zero_le _, Nat.zero_le _, Nat.zero_le _, Nat.zero_le _, rfl⟩
set_option maxHeartbeats 6000000 in
set_option maxRecDepth 6000 in
theorem get_ok (v : Vl) (cs : List Value) (w : World) (hv : VlC w v cs) (hsm : Small v) (ap : Option Addr) (n c : Nat) (ss : List St) (hp : Pth w ap n ss) (hn : n ≤ 4611686018427387903) :
    Calls Try.prog 16 #[.agg cs.toArray, .slice ap n c] w fun e w' => Below w.heap.size w w' ∧ ∃ (ok : Bool) (u : Vl) (ds : List Value), e = .returned (.tuple #[.agg ds.toArray, .bool ok]) ∧ FrC w.heap.size w' u ds ∧ (if ok = true then getP v ss = some u else getP v ss = none ∧ u = z0) := by
  have hnil : ∀ (w : World) (a : Option Addr), (binOp .eql 70 (.pointer a) (.pointer none)).run Try.prog w = .ok (.bool a.isNone) w := by
    intro w a
    cases a <;> go_simp
  have HV := hide hv
  have HP := hide hp
  have h8 := hide hv.cells
  clear hv hp
  go_enter Try.func16, Try.ntmps16
  go_wp2_with fail
  obtain ⟨W, eW⟩ : ∃ W, W = ((w.alloc (.cells cs.toArray 27)).alloc (.cells #[.int .i64 0, .bool false, .int .i64 0, .float .f64 0, .string { data := #[] }, .string { data := #[] }, .slice none 0 0, .slice none 0 0] 27)) := ⟨_, rfl⟩
  have bW : Below w.heap.size w W := by rw [eW]; exact ((Below.refl _ _).alloc (Nat.le_refl _) _).alloc (by simp) _
  have hsz : W.heap.size = w.heap.size + 2 := by rw [eW]; simp
  have hrow : Row8 W w.heap.size 0 cs := fun j u hu => by
    rw [Nat.zero_add, eW, World.cell?_alloc_past _ _ _ (by simp), World.cell?_alloc_at _ _ _ _ rfl]; simpa using hu
  have hth : W.there (w.heap.size + 1) 0 8 := by
    rw [eW]
    have h := there_new (w := w.alloc (.cells cs.toArray 27)) (Z := #[.int .i64 0, .bool false, .int .i64 0, .float .f64 0, .string { data := #[] }, .string { data := #[] }, .slice none 0 0, .slice none 0 0]) (t := 27) (n := 8) rfl
    simpa using h
  rw [← eW]
  clear eW
  have hvW := VlC.below bW v cs (unhide HV)
  refine (lead_ok (fun k b o u us => getP v (ss.take k) = some u ∧ Row8 W b o us ∧ VlC W u us) W ap n c ss ((unhide HP).below bW) hn w.heap.size 0 v cs ⟨rfl, hrow, hvW⟩ (fun k b o u us h => h.2) (fun k b o u us s i b' o' h hs hc hl => by
    obtain ⟨u', us', h1, h2, h3⟩ := h.2.2.child hc hl
    exact ⟨u', us', by rw [getP_take h.1 hs]; exact h1, h2, h3⟩)).mono ?_
  rintro e w1 ⟨b1, h1⟩
  have hlen := (unhide HP).len
  have hT1 := hide (there_below hth b1 (by omega))
  rcases h1 with ⟨k, b, o, u, us, s, ⟨hg, -, -⟩, hs, hc, rfl⟩ | ⟨b, o, u, us, ⟨hg, hr, hu⟩, rfl⟩
  · have hno := hide (getP_none hg hs hc)
    clear hg hs hc hrow hvW hth hlen
    go_wp2_with (first
      | refine wpList_store_mid (by rfl) 27 _ _ (by rfl) (w.heap.size + 1) 0 z8.toArray (by rfl) (by rfl) (unhide hT1) z8i z8o ?_)
    have hr4 : (w1.setCells (w.heap.size + 1) 0 z8).rangeAt (w.heap.size + 1) 0 z8 := World.rangeAt_setCells_same _ _ _ _ (unhide hT1)
    refine bodyPost_ret (rgn.result_row_tmp rfl _ _ (w.heap.size + 1) 0 z8 _ rfl hr4 Try.underlying27 rfl z8i) rfl ?_
    exact ⟨below_setCells _ _ _ _ (bW.trans (b1.mono bW.size)) (Nat.le_succ _), false, z0, z8, rfl, FrC.of (OwC.zero _) (by simp), by simp; exact unhide hno⟩
  · have hg' := hide (show getP v ss = some u by rwa [List.take_of_length_le (Nat.le_of_eq hlen)] at hg)
    have hr1 := hide (Row8.below hr b1)
    have hu1 := hide (VlC.below b1 u us hu)
    have hi8 : (Try.prog.info? 27).map (·.size) = some us.length := by rw [hu.cells]; exact infoV
    have Hi8 := hide hi8
    clear hg hrow hvW hth hlen hr hu hi8
    go_wp2_with (first
      | refine wpList_load_mid (by rfl) 27 _ (by rfl) b o (by rfl) us _ (unhide hr1) Try.underlying27 (by rfl) (unhide Hi8) ?_)
    have hsu := Small.getP hsm (unhide hg')
    refine (copy_ok u hsu us w1 (unhide hu1)).mono ?_
    rintro e w2 ⟨ds, F, rfl, hO2, hnd, hF, b2, -⟩
    have hT2 : w2.there (w.heap.size + 1) 0 ds.toArray.size := by
      rw [show ds.toArray.size = 8 by simp [(OwC.read u ds F hO2).cells]]
      exact there_below (unhide hT1) b2 (by have := b1.size; omega)
    have i8 : (Try.prog.info? 27).map (·.size) = some ds.toArray.size := by simp [(OwC.read u ds F hO2).cells, infoV]
    have d1 := (OwC.read u ds F hO2).one
    have HT := hide hT2
    have HI := hide i8
    have HO := hide hO2
    clear hT2 i8 hO2
    go_wp2_with (first
      | refine wpList_store_mid (by rfl) 27 _ _ (by rfl) (w.heap.size + 1) 0 ds.toArray (by rfl) (by rfl) (unhide HT) (unhide HI) d1 ?_)
    have hr4 : (w2.setCells (w.heap.size + 1) 0 ds).rangeAt (w.heap.size + 1) 0 ds := World.rangeAt_setCells_same _ _ _ _ (unhide HT)
    refine bodyPost_ret (rgn.result_row_tmp rfl _ _ (w.heap.size + 1) 0 ds _ rfl hr4 Try.underlying27 rfl (unhide HI)) rfl ?_
    have hnF : w.heap.size + 1 ∉ F := fun h => by have := (hF _ h).1; have := b1.size; omega
    exact ⟨below_setCells _ _ _ _ ((bW.trans (b1.mono bW.size)).trans (b2.mono (Nat.le_trans bW.size b1.size))) (Nat.le_succ _), true, u, ds, rfl, FrC.of (OwC.agree u ds F (agree_setCells w2 hnF) (unhide HO)) (fun b hb => by have h1 := hF b hb; have h2 := b1.size; rw [size_setCells]; omega), by rw [if_pos rfl]; exact unhide hg'⟩
end Go.Proofs.Ythpcpminikmcbaa.vl
namespace Go.Proofs.Ythpcpminikmcbaa.vl
open Go.ChangeShapes Go.WideShapes Go.ChangeAt Go.RowKit
open stp (St Pth St3)
set_option linter.unusedVariables false
set_option linter.unusedSimpArgs false
/-- the child number i is another value -/
def setS : Vl → St → Nat → Vl → Vl
  | .mk kd b n f tx ty its fls, s, i, x => if s.it = true then .mk kd b n f tx ty (Vls.of (its.list.set i x)) fls else .mk kd b n f tx ty its (Fls.of (fls.list.modify i fun q => (q.1, x)))
def setP : Vl → List St → Vl → Option Vl
  | v, [], x => some x
  | v, s :: r, x => match chI v s, getS v s with
    | some i, some u => (setP u r x).map (setS v s i)
    | _, _ => none
theorem setP_snoc : ∀ {l : List St} {v u : Vl} {s : St} {i : Nat} {c : Vl} (x : Vl), getP v l = some u → chI u s = some i → getS u s = some c → setP v (l ++ [s]) x = setP v l (setS u s i x)
  | [], v, u, s, i, c, x, h, hc, hs => by
    simp only [getP, Option.some.injEq] at h
    subst h
    simp only [List.nil_append, setP, hc, hs, Option.map_some]
  | t :: l, v, u, s, i, c, x, h, hc, hs => by
    simp only [getP] at h
    cases ht : getS v t with
    | none => rw [ht] at h; cases h
    | some y =>
      rw [ht] at h
      simp only [List.cons_append, setP, ht]
      cases hct : chI v t with
      | none => rfl
      | some j => simp only; rw [setP_snoc x h hc hs]
theorem setP_none : ∀ {l : List St} {v : Vl} (x : Vl), getP v l = none → setP v l x = none
  | [], v, x, h => by simp [getP] at h
  | t :: l, v, x, h => by
    simp only [getP] at h
    simp only [setP]
    cases ht : getS v t with
    | none => cases chI v t <;> rfl
    | some y =>
      rw [ht] at h
      cases hct : chI v t with
      | none => rfl
      | some j => simp only; rw [setP_none x h]; rfl
theorem OwsIn.keepR {w w' : World} : ∀ (l : Vls) (p off n : Nat) (G : List Nat), Agree G w w' → (∀ o, off ≤ o → o < off + n * 8 → w'.cell? ⟨p, o, none⟩ = w.cell? ⟨p, o, none⟩) → OwsIn w l p off n G → OwsIn w' l p off n G
  | .nil, p, off, n, G, ha, hc, h => by unfold OwsIn at h ⊢; exact h
  | .cons v r, p, off, n, G, ha, hc, h => by
    unfold OwsIn at h ⊢
    obtain ⟨m, cs, G1, G2, rfl, h1, h2, h3, rfl⟩ := h
    have h8 := (OwC.read v cs G1 h2).cells
    exact ⟨m, cs, G1, G2, rfl, fun i u hu => (hc (off + i) (by omega) (by have := (List.getElem?_eq_some_iff.1 hu).1; omega)).trans (h1 i u hu), OwC.agree v cs G1 ha.left h2, OwsIn.keepR r p _ m G2 ha.right (fun o h0 ho => hc o (by omega) (by omega)) h3, rfl⟩
theorem OwfIn.keepR {w w' : World} : ∀ (l : Fls) (p off n : Nat) (G : List Nat), Agree G w w' → (∀ o, off ≤ o → o < off + n * 9 → w'.cell? ⟨p, o, none⟩ = w.cell? ⟨p, o, none⟩) → OwfIn w l p off n G → OwfIn w' l p off n G
  | .nil, p, off, n, G, ha, hc, h => by unfold OwfIn at h ⊢; exact h
  | .cons nm v r, p, off, n, G, ha, hc, h => by
    unfold OwfIn at h ⊢
    obtain ⟨m, cs, G1, G2, rfl, h0, hz, h1, h2, h3, rfl⟩ := h
    have h8 := (OwC.read v cs G1 h2).cells
    exact ⟨m, cs, G1, G2, rfl, (hc off (by omega) (by omega)).trans h0, hz, fun i u hu => (hc (off + 1 + i) (by omega) (by have := (List.getElem?_eq_some_iff.1 hu).1; omega)).trans (h1 i u hu), OwC.agree v cs G1 ha.left h2, OwfIn.keepR r p _ m G2 ha.right (fun o h0 ho => hc o (by omega) (by omega)) h3, rfl⟩
/-- one item of a list that is owned, and the list around it -/
theorem OwsIn.hole {w : World} : ∀ (l : Vls) (p off n : Nat) (G : List Nat), OwsIn w l p off n G → G.Nodup → ∀ i, i < n → ∃ u us Gi Gr, l.list[i]? = some u ∧ Row8 w p (off + i * 8) us ∧ OwC w u us Gi ∧ Gi.Nodup ∧ (∀ c ∈ Gi, c ∈ G ∧ c ∉ Gr) ∧ (∀ c ∈ Gr, c ∈ G) ∧
    ∀ w' x ds, Agree Gr w w' → (∀ j, (j < off + i * 8 ∨ off + i * 8 + 8 ≤ j) → w'.cell? ⟨p, j, none⟩ = w.cell? ⟨p, j, none⟩) → Row8 w' p (off + i * 8) ds → VlC w' x ds → VlsAt w' (Vls.of (l.list.set i x)) (some ⟨p, off, none⟩) n
  | .nil, p, off, n, G, h, hn, i, hi => by unfold OwsIn at h; omega
  | .cons v r, p, off, n, G, h, hn, i, hi => by
    unfold OwsIn at h
    obtain ⟨m, cs, G1, G2, rfl, h1, h2, h3, rfl⟩ := h
    rw [List.nodup_append] at hn
    obtain ⟨n1, n2, n3⟩ := hn
    match i with
    | 0 =>
      refine ⟨v, cs, G1, G2, rfl, by simpa using h1, h2, n1, fun c hc => ⟨List.mem_append_left _ hc, fun hc' => n3 c hc c hc' rfl⟩, fun c hc => List.mem_append_right _ hc, ?_⟩
      intro w' x ds ha hc hr hx
      simp only [Vls.list, List.set_cons_zero, Vls.of]
      unfold VlsAt
      refine ⟨p, off, m, ds, rfl, rfl, by simpa using hr, hx, ?_⟩
      rw [Vls.of_list]
      exact OwsIn.read _ _ _ _ _ (OwsIn.keepR r p (off + 8) m G2 ha (fun o h0 _ => hc o (.inr (by omega))) h3)
    | i + 1 =>
      obtain ⟨u, us, Gi, Gr, g1, g2, g3, g4, g5, g6, g7⟩ := OwsIn.hole r p (off + 8) m G2 h3 n2 i (by omega)
      rw [show off + 8 + i * 8 = off + (i + 1) * 8 by omega] at g2 g7
      refine ⟨u, us, Gi, G1 ++ Gr, by simpa [Vls.list] using g1, g2, g3, g4, fun c hc => ⟨List.mem_append_right _ (g5 c hc).1, fun hc' => ?_⟩, fun c hc => ?_, ?_⟩
      · rcases List.mem_append.1 hc' with h | h
        · exact n3 c h c (g5 c hc).1 rfl
        · exact (g5 c hc).2 h
      · rcases List.mem_append.1 hc with h | h
        · exact List.mem_append_left _ h
        · exact List.mem_append_right _ (g6 c h)
      · intro w' x ds ha hc hr hx
        simp only [Vls.list, List.set_cons_succ, Vls.of]
        unfold VlsAt
        have h8 := (OwC.read v cs G1 h2).cells
        refine ⟨p, off, m, cs, rfl, rfl, fun j y hy => (hc (off + j) (.inl (by have := (List.getElem?_eq_some_iff.1 hy).1; omega))).trans (h1 j y hy), OwC.read _ _ _ (OwC.agree v cs G1 ha.left h2), g7 w' x ds ha.right hc hr hx⟩
theorem OwfIn.hole {w : World} : ∀ (l : Fls) (p off n : Nat) (G : List Nat), OwfIn w l p off n G → G.Nodup → ∀ i, i < n → ∃ nm u us Gi Gr, l.list[i]? = some (nm, u) ∧ Row8 w p (off + i * 9 + 1) us ∧ OwC w u us Gi ∧ Gi.Nodup ∧ (∀ c ∈ Gi, c ∈ G ∧ c ∉ Gr) ∧ (∀ c ∈ Gr, c ∈ G) ∧
    ∀ w' x ds, Agree Gr w w' → (∀ j, (j < off + i * 9 + 1 ∨ off + i * 9 + 1 + 8 ≤ j) → w'.cell? ⟨p, j, none⟩ = w.cell? ⟨p, j, none⟩) → Row8 w' p (off + i * 9 + 1) ds → VlC w' x ds → FlsAt w' (Fls.of (l.list.modify i fun q => (q.1, x))) (some ⟨p, off, none⟩) n
  | .nil, p, off, n, G, h, hn, i, hi => by unfold OwfIn at h; omega
  | .cons nm v r, p, off, n, G, h, hn, i, hi => by
    unfold OwfIn at h
    obtain ⟨m, cs, G1, G2, rfl, h0, hz, h1, h2, h3, rfl⟩ := h
    rw [List.nodup_append] at hn
    obtain ⟨n1, n2, n3⟩ := hn
    match i with
    | 0 =>
      refine ⟨nm, v, cs, G1, G2, rfl, by simpa using h1, h2, n1, fun c hc => ⟨List.mem_append_left _ hc, fun hc' => n3 c hc c hc' rfl⟩, fun c hc => List.mem_append_right _ hc, ?_⟩
      intro w' x ds ha hc hr hx
      simp only [Fls.list, List.modify_zero_cons, Fls.of]
      unfold FlsAt
      refine ⟨p, off, m, ds, rfl, rfl, (hc off (.inl (by omega))).trans h0, hz, by simpa using hr, hx, ?_⟩
      rw [Fls.of_list]
      exact OwfIn.read _ _ _ _ _ (OwfIn.keepR r p (off + 9) m G2 ha (fun o h0 _ => hc o (.inr (by omega))) h3)
    | i + 1 =>
      obtain ⟨nm', u, us, Gi, Gr, g1, g2, g3, g4, g5, g6, g7⟩ := OwfIn.hole r p (off + 9) m G2 h3 n2 i (by omega)
      rw [show off + 9 + i * 9 + 1 = off + (i + 1) * 9 + 1 by omega] at g2 g7
      refine ⟨nm', u, us, Gi, G1 ++ Gr, by simpa [Fls.list] using g1, g2, g3, g4, fun c hc => ⟨List.mem_append_right _ (g5 c hc).1, fun hc' => ?_⟩, fun c hc => ?_, ?_⟩
      · rcases List.mem_append.1 hc' with h | h
        · exact n3 c h c (g5 c hc).1 rfl
        · exact (g5 c hc).2 h
      · rcases List.mem_append.1 hc with h | h
        · exact List.mem_append_left _ h
        · exact List.mem_append_right _ (g6 c h)
      · intro w' x ds ha hc hr hx
        simp only [Fls.list, List.modify_succ_cons, Fls.of]
        unfold FlsAt
        have h8 := (OwC.read v cs G1 h2).cells
        refine ⟨p, off, m, cs, rfl, rfl, (hc off (.inl (by omega))).trans h0, hz, fun j y hy => (hc (off + 1 + j) (.inl (by have := (List.getElem?_eq_some_iff.1 hy).1; omega))).trans (h1 j y hy), OwC.read _ _ _ (OwC.agree v cs G1 ha.left h2), g7 w' x ds ha.right hc hr hx⟩
end Go.Proofs.Ythpcpminikmcbaa.vl
namespace Go.Proofs.Ythpcpminikmcbaa.vl
open Go.ChangeShapes Go.WideShapes Go.ChangeAt Go.RowKit
open stp (St Pth St3)
set_option linter.unusedVariables false
set_option linter.unusedSimpArgs false
/-- two worlds that agree on these blocks but for eight cells -/
def AgreeBut (F : List Nat) (b o : Nat) (w w' : World) : Prop := ∀ c ∈ F, ∀ j, (c ≠ b ∨ j < o ∨ o + 8 ≤ j) → w'.cell? ⟨c, j, none⟩ = w.cell? ⟨c, j, none⟩
theorem AgreeBut.agree {F G : List Nat} {b o : Nat} {w w' : World} (h : AgreeBut F b o w w') (hs : ∀ c ∈ G, c ∈ F) (hb : b ∉ G) : Agree G w w' := fun c hc j => h c (hs c hc) j (.inl fun e => hb (e ▸ hc))
/-- one child of a value that is owned, and the value around it -/
theorem OwC.hole {w : World} {v : Vl} {cs : List Value} {F : List Nat} {s : St} {i b o : Nat} (h : OwC w v cs F) (hn : F.Nodup) (hi : chI v s = some i) (hl : Loc cs s i b o) :
    ∃ u us Fu Gr, getS v s = some u ∧ Row8 w b o us ∧ OwC w u us Fu ∧ Fu.Nodup ∧ (∀ c ∈ Fu, c ∈ F ∧ c ∉ Gr) ∧ (∀ c ∈ Gr, c ∈ F) ∧ b ∈ Gr ∧ ∀ w' x ds, AgreeBut Gr b o w w' → Row8 w' b o ds → VlC w' x ds → VlC w' (setS v s i x) cs := by
  obtain ⟨kd, bb, ni, f, tx, ty, its, fls⟩ := v
  have hg : getS (.mk kd bb ni f tx ty its fls) s = if s.it = true then its.list[i]? else (fls.list[i]?).map (·.2) := by simp only [getS, hi]
  have hset : ∀ x, setS (.mk kd bb ni f tx ty its fls) s i x = if s.it = true then .mk kd bb ni f tx ty (Vls.of (its.list.set i x)) fls else .mk kd bb ni f tx ty its (Fls.of (fls.list.modify i fun q => (q.1, x))) := fun x => rfl
  rw [chI_mk] at hi
  unfold OwC at h
  obtain ⟨ai, nI, ci, af, nf, cf, Fi, Ff, rfl, hI, hF, hni, hnf, hai, haf, hk1, hk2, hk3, hk4, hci, hcf, rfl⟩ := h
  rw [List.nodup_append] at hn
  obtain ⟨n1, n2, n3⟩ := hn
  obtain ⟨p, off, n, c, hl⟩ := hl
  by_cases ht : s.it = true
  · rw [if_pos ht] at hi hl hg
    obtain ⟨h6, rfl, rfl⟩ := hl
    simp at h6
    obtain ⟨rfl, rfl, rfl⟩ := h6
    by_cases hc : kd = 5 ∧ 0 ≤ s.ix ∧ s.ix < its.list.length
    · rw [if_pos hc] at hi
      obtain rfl := Option.some.inj hi
      rcases hI with ⟨h, _⟩ | ⟨p', G, e, rfl, hI⟩
      · cases h
      · simp only [Option.some.injEq, Addr.mk.injEq, and_true] at e
        obtain ⟨rfl, rfl⟩ := e
        have hlen := VlsAt.len its _ _ (OwsIn.read _ _ _ _ _ hI)
        rw [List.nodup_cons] at n1
        obtain ⟨u, us, Gi, Gr, g1, g2, g3, g4, g5, g6, g7⟩ := OwsIn.hole its b 0 nI G hI n1.2 s.ix.toNat (by omega)
        refine ⟨u, us, Gi, b :: (Gr ++ Ff), hg.trans g1, g2, g3, g4, fun x hx => ⟨?_, ?_⟩, fun x hx => ?_, List.mem_cons_self .., ?_⟩
        · exact List.mem_append_left _ (List.mem_cons_of_mem _ (g5 x hx).1)
        · intro hx'
          rcases List.mem_cons.1 hx' with rfl | hx'
          · exact n1.1 (g5 _ hx).1
          · rcases List.mem_append.1 hx' with hx' | hx'
            · exact (g5 x hx).2 hx'
            · exact n3 x (List.mem_cons_of_mem _ (g5 x hx).1) x hx' rfl
        · rcases List.mem_cons.1 hx with rfl | hx
          · exact List.mem_append_left _ (List.mem_cons_self ..)
          · rcases List.mem_append.1 hx with hx | hx
            · exact List.mem_append_left _ (List.mem_cons_of_mem _ (g6 x hx))
            · exact List.mem_append_right _ hx
        · intro w' x ds ha hr hx
          have a1 : Agree Gr w w' := ha.agree (fun c hc => List.mem_cons_of_mem _ (List.mem_append_left _ hc)) (fun h => n1.1 (g6 _ h))
          have a2 : Agree Ff w w' := ha.agree (fun c hc => List.mem_cons_of_mem _ (List.mem_append_right _ hc)) (fun h => n3 b (List.mem_cons_self ..) b h rfl)
          have hV := g7 w' x ds a1 (fun j hj => ha b (List.mem_cons_self ..) j (.inr hj)) hr hx
          rw [hset, if_pos ht]
          unfold VlC
          refine ⟨_, nI, ci, af, nf, cf, rfl, hV, ?_, hni, hnf, hai, haf, hk1, hk2, hk3, hk4, hci, hcf⟩
          rcases hF with ⟨rfl, rfl, rfl, _⟩ | ⟨p', G', rfl, rfl, hF⟩
          · unfold FlsAt; rfl
          · exact OwfIn.read _ _ _ _ _ (OwfIn.agree fls p' 0 nf G' a2 hF)
    · rw [if_neg hc] at hi
      cases hi
  · rw [if_neg ht] at hi hl hg
    obtain ⟨h7, rfl, rfl⟩ := hl
    simp at h7
    obtain ⟨rfl, rfl, rfl⟩ := h7
    by_cases hc : kd = 6
    · rw [if_pos hc] at hi
      rcases hF with ⟨h, _⟩ | ⟨p', G, e, rfl, hF⟩
      · cases h
      · simp only [Option.some.injEq, Addr.mk.injEq, and_true] at e
        obtain ⟨rfl, rfl⟩ := e
        have hlen := FlsAt.len fls _ _ (OwfIn.read _ _ _ _ _ hF)
        rw [List.nodup_cons] at n2
        obtain ⟨q, hq, _⟩ := findIdx_get hi
        obtain ⟨nm, u, us, Gi, Gr, g1, g2, g3, g4, g5, g6, g7⟩ := OwfIn.hole fls b 0 nf G hF n2.2 i (by rw [← hlen]; exact (List.getElem?_eq_some_iff.1 hq).1)
        refine ⟨u, us, Gi, b :: (Gr ++ Fi), hg.trans (by rw [g1]; rfl), g2, g3, g4, fun x hx => ⟨?_, ?_⟩, fun x hx => ?_, List.mem_cons_self .., ?_⟩
        · exact List.mem_append_right _ (List.mem_cons_of_mem _ (g5 x hx).1)
        · intro hx'
          rcases List.mem_cons.1 hx' with rfl | hx'
          · exact n2.1 (g5 _ hx).1
          · rcases List.mem_append.1 hx' with hx' | hx'
            · exact (g5 x hx).2 hx'
            · exact n3 x hx' x (List.mem_cons_of_mem _ (g5 x hx).1) rfl
        · rcases List.mem_cons.1 hx with rfl | hx
          · exact List.mem_append_right _ (List.mem_cons_self ..)
          · rcases List.mem_append.1 hx with hx | hx
            · exact List.mem_append_right _ (List.mem_cons_of_mem _ (g6 x hx))
            · exact List.mem_append_left _ hx
        · intro w' x ds ha hr hx
          have a1 : Agree Gr w w' := ha.agree (fun c hc => List.mem_cons_of_mem _ (List.mem_append_left _ hc)) (fun h => n2.1 (g6 _ h))
          have a2 : Agree Fi w w' := ha.agree (fun c hc => List.mem_cons_of_mem _ (List.mem_append_right _ hc)) (fun h => n3 b h b (List.mem_cons_self ..) rfl)
          have hV := g7 w' x ds a1 (fun j hj => ha b (List.mem_cons_self ..) j (.inr hj)) hr hx
          rw [hset, if_neg ht]
          unfold VlC
          refine ⟨ai, nI, ci, _, nf, cf, rfl, ?_, hV, hni, hnf, hai, haf, hk1, hk2, hk3, hk4, hci, hcf⟩
          rcases hI with ⟨rfl, rfl, rfl, _⟩ | ⟨p', G', rfl, rfl, hI⟩
          · unfold VlsAt; rfl
          · exact OwsIn.read _ _ _ _ _ (OwsIn.agree its p' 0 nI G' a2 hI)
    · rw [if_neg hc] at hi
      cases hi
/-- the way down from a value of the call's own: where it stands, and what a write there makes of the whole -/
structure Way (W : World) (lo b0 : Nat) (v : Vl) (ss : List St) (k b o : Nat) (u : Vl) (us : List Value) : Prop where
  got : getP v (ss.take k) = some u
  row : Row8 W b o us
  ctx : ∃ Fu G, OwC W u us Fu ∧ Fu.Nodup ∧ (∀ c ∈ Fu, c ≠ b0 ∧ c ∉ G) ∧ (b = b0 ∨ b ∈ G) ∧ (∀ c ∈ b0 :: G, lo ≤ c ∧ c < W.heap.size) ∧ (∀ c ∈ Fu, lo ≤ c ∧ c < W.heap.size) ∧ Fz W (b0 :: G) ∧ Fz W Fu ∧ ∃ R : Vl → Vl, (∀ x, setP v (ss.take k) x = some (R x)) ∧
    ∀ w' x ds, AgreeBut (b0 :: G) b o W w' → Row8 w' b o ds → VlC w' x ds → ∃ cs', Row8 w' b0 0 cs' ∧ VlC w' (R x) cs'
theorem Way.step {W : World} {lo b0 : Nat} {v : Vl} {ss : List St} {k b o : Nat} {u : Vl} {us : List Value} {s : St} {i b' o' : Nat} (h : Way W lo b0 v ss k b o u us) (hs : ss[k]? = some s) (hi : chI u s = some i) (hl : Loc us s i b' o') : ∃ u' us', Way W lo b0 v ss (k + 1) b' o' u' us' := by
  obtain ⟨got, row, Fu, G, hO, hnd, hd, hb, hlt, hlt', fz, fz', R, hR, hctx⟩ := h
  obtain ⟨u', us', Fu', Gr, g1, g2, g3, g4, g5, g6, g7, g8⟩ := hO.hole hnd hi hl
  have htk : ss.take (k + 1) = ss.take k ++ [s] := by rw [List.take_add_one, hs]; rfl
  refine ⟨u', us', by rw [getP_take got hs]; exact g1, g2, Fu', G ++ Gr, g3, g4, fun c hc => ⟨(hd c (g5 c hc).1).1, fun h' => ?_⟩, .inr (List.mem_append_right _ g7), fun c hc => ?_, fun c hc => hlt' c (g5 c hc).1, fun c hc => ?_, fun c hc => fz' c (g5 c hc).1, fun x => R (setS u s i x), fun x => ?_, ?_⟩
  · rcases List.mem_append.1 h' with h' | h'
    · exact (hd c (g5 c hc).1).2 h'
    · exact (g5 c hc).2 h'
  · rcases List.mem_cons.1 hc with rfl | hc
    · exact hlt _ (List.mem_cons_self ..)
    · rcases List.mem_append.1 hc with hc | hc
      · exact hlt c (List.mem_cons_of_mem _ hc)
      · exact hlt' c (g6 c hc)
  · rcases List.mem_cons.1 hc with rfl | hc
    · exact fz _ (List.mem_cons_self ..)
    · rcases List.mem_append.1 hc with hc | hc
      · exact fz c (List.mem_cons_of_mem _ hc)
      · exact fz' c (g6 c hc)
  · rw [htk, setP_snoc x got hi g1]
    exact hR _
  · intro w' x ds ha hr hx
    have hb' := hd b' (g6 b' g7)
    have ag : Agree (b0 :: G) W w' := ha.agree (fun c hc => by
      rcases List.mem_cons.1 hc with rfl | hc
      · exact List.mem_cons_self ..
      · exact List.mem_cons_of_mem _ (List.mem_append_left _ hc)) (fun h => by
      rcases List.mem_cons.1 h with h | h
      · exact hb'.1 h
      · exact hb'.2 h)
    have hbm : b ∈ b0 :: G := by
      rcases hb with rfl | hb
      · exact List.mem_cons_self ..
      · exact List.mem_cons_of_mem _ hb
    have hv := g8 w' x ds (fun c hc j hj => ha c (List.mem_cons_of_mem _ (List.mem_append_right _ hc)) j hj) hr hx
    exact hctx w' (setS u s i x) us (fun c hc j _ => ag c hc j) (row.agree hbm ag) hv
end Go.Proofs.Ythpcpminikmcbaa.vl
namespace Go.Proofs.Ythpcpminikmcbaa.vl
open Go.ChangeShapes Go.WideShapes Go.ChangeAt Go.RowKit
open stp (St Pth St3)
set_option linter.unusedVariables false
set_option linter.unusedSimpArgs false
theorem row_uniq {w : World} {b o : Nat} {l l' : List Value} (h : Row8 w b o l) (h' : Row8 w b o l') (hl : l.length = l'.length) : l = l' := by
  apply List.ext_getElem? 
  intro i
  by_cases hi : i < l.length
  · have h1 := h i _ (List.getElem?_eq_getElem hi)
    have h2 := h' i _ (List.getElem?_eq_getElem (hl ▸ hi))
    rw [List.getElem?_eq_getElem hi, List.getElem?_eq_getElem (hl ▸ hi)]
    exact h1.symm.trans h2
  · rw [List.getElem?_eq_none (by omega), List.getElem?_eq_none (by omega)]
end Go.Proofs.Ythpcpminikmcbaa.vl
namespace Go.Proofs.Ythpcpminikmcbaa.vl
open Go.ChangeShapes Go.WideShapes Go.ChangeAt Go.RowKit
open stp (St Pth St3)
set_option linter.unusedVariables false
set_option linter.unusedSimpArgs false
/-- what is known of a kind -/
def kOf (k : Int) : Vl → Prop
  | .mk kd b n f tx ty its fls => (k = 5 ↔ kd = 5) ∧ (k = 6 ↔ kd = 6)
set_option maxHeartbeats 4000000 in
theorem kind_ok (v : Vl) (cs : List Value) (w : World) (hv : VlC w v cs) : Calls Try.prog 88 #[.agg cs.toArray] w fun e w' => Below w.heap.size w w' ∧ ∃ k : Int, e = .returned (.int .i64 k) ∧ kOf k v := by
  obtain ⟨kd, bb, ni, f, tx, ty, its, fls⟩ := v
  have h8 := hv.cells
  have hw : (Lit.int .i64 kd).wf = true := by unfold VlC at hv; obtain ⟨_, _, _, _, _, _, _, _, _, _, _, _, _, h, _⟩ := hv; exact h
  have h0 : cs[0]? = some (.int .i64 kd) := by unfold VlC at hv; obtain ⟨_, _, _, _, _, _, rfl, _⟩ := hv; rfl
  have x0 : (w.alloc (.cells cs.toArray 27)).cell? ⟨w.heap.size, 0, none⟩ = some (.int .i64 kd) := by rw [World.cell?_alloc_at _ _ _ _ rfl]; simpa using h0
  have hB : Below w.heap.size w (w.alloc (.cells cs.toArray 27)) := (Below.refl _ _).alloc (Nat.le_refl _) _
  clear hv
  go_enter Try.func88, Try.ntmps88
  go_wp2
  all_goals
    go_ret
    refine ⟨hB, _, rfl, ?_⟩
    unfold kOf
    omega
end Go.Proofs.Ythpcpminikmcbaa.vl
