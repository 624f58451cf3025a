import Derived.Test.YtjlaoeigfokkiaaGreatDoorNsh1
import Derived.Test.YtjlaoeigfokkiaaGreatDoorNsh25
import Derived.Test.YtjlaoeigfokkiaaGreatDoorBs30
import Derived.Test.YtjlaoeigfokkiaaGreatDoorBs29
import Derived.Deep.RegionHeld3
namespace Go.Proofs.YtjlaoeigfokkiaaGreatDoor.fto
open Go.ChangeShapes Go.WideShapes Go.ChangeAt Go.RowKit
open mem Go.Sort
open ints (hide unhide)
set_option linter.unusedVariables false
set_option linter.unusedSimpArgs false
theorem mixedS : Tryz.prog.follows .mixedOrders = true := by kernel_rfl
/-- what is asked of the float's own text -/
structure SP (f : Nat) (t : ByteArray) (b : Nat) : Prop where
  rd : RdF f t
  wt : wt (bytZ t) 0 0 ≤ b
  sz : t.size ≤ 1100000
set_option maxHeartbeats 1000000 in
set_option maxRecDepth 100000 in
/-- the law at a text that reads as no float -/
theorem short_no (s : ByteArray) (k i : Int) (f : Nat) (e0 : Int) (w : World) (hW : dcm.Fz w) (hne : (e0 != 0) = true ∨ ((e0 != 0) = false ∧ (k != 3) = true))
    (RD : ∀ W, dcm.Fz W → Calls Tryz.prog 8 #[.string s] W fun x w' => x = .returned (.tuple #[.agg #[.int .i64 k, .int .i64 i, .float .f64 f], .int .i64 e0]) ∧ Below W.heap.size W w') :
    Calls Tryz.prog 4 #[.string s] w fun e w' => e = .returned (.bool true) ∧ Below w.heap.size w w' := by
  have A1 := hide (fixed_ok w hW.fy)
  have HR := hide RD
  have HF := hide hW
  have hsf := fun (a : Addr) (n : Nat) (w : World) => run_store Tryz.prog w a (.float .f64 n) .plain rfl
  clear RD hW
  go_enter Tryz.func4, Tryz.ntmps4
  go_wp2_with fail
  refine (unhide A1).mono ?_
  rintro e w1 ⟨rfl, b1⟩
  have B1 := hide b1
  clear b1 A1
  go_wp2_with fail
  refine (unhide HR w1 ((unhide HF).below (unhide B1))).mono ?_
  rintro e w2 ⟨rfl, b2⟩
  have B2 := hide ((unhide B1).trans (b2.mono (unhide B1).size))
  clear b2 HR B1
  rcases hne with h1 | ⟨h1, h2⟩
  · go_wp2
    go_ret
    exact ⟨rfl, (unhide B2).alloc (unhide B2).size _⟩
  · go_wp2
    go_ret
    exact ⟨rfl, (unhide B2).alloc (unhide B2).size _⟩
set_option maxHeartbeats 1000000 in
set_option maxRecDepth 100000 in
/-- the law at a text that reads as a float -/
theorem short_in (s : ByteArray) (f b : Nat) (w : World) (hW : dcm.Fz w) (hf : f < 18446744073709551616)
    (RD : ∀ W, dcm.Fz W → Calls Tryz.prog 8 #[.string s] W fun x w' => x = .returned (.tuple #[.agg #[.int .i64 3, .int .i64 0, .float .f64 f], .int .i64 0]) ∧ Below W.heap.size W w')
    (FT : ∀ W, dcm.Fz W → Calls Tryz.prog 11 #[.float .f64 f] W fun x w' => ∃ t, x = .returned (.string t) ∧ SP f t b ∧ Below W.heap.size W w')
    (WS : ∀ W, Calls Tryz.prog 13 #[.string s] W fun x w' => x = .returned (.int .i64 (b : Nat)) ∧ Below W.heap.size W w') :
    Calls Tryz.prog 4 #[.string s] w fun e w' => e = .returned (.bool true) ∧ Below w.heap.size w w' := by
  have A1 := hide (fixed_ok w hW.fy)
  have HR := hide RD
  have HT := hide FT
  have HWS := hide WS
  have HF := hide hW
  have FB := fun W => run_tobits f W
  have hsf := fun (a : Addr) (n : Nat) (w : World) => run_store Tryz.prog w a (.float .f64 n) .plain rfl
  clear RD FT WS hW
  go_enter Tryz.func4, Tryz.ntmps4
  go_wp2_with fail
  refine (unhide A1).mono ?_
  rintro e w1 ⟨rfl, b1⟩
  have B1 := hide b1
  clear b1 A1
  go_wp2_with fail
  refine (unhide HR w1 ((unhide HF).below (unhide B1))).mono ?_
  rintro e w2 ⟨rfl, b2⟩
  have B2 := hide ((unhide B1).trans (b2.mono (unhide B1).size))
  clear b2 HR B1
  obtain ⟨U, hU⟩ : ∃ U, U = w2.alloc (.cells #[.int .i64 3, .int .i64 0, .float .f64 f] 27) := ⟨_, rfl⟩
  have u0 : U.cell? ⟨w2.heap.size, 0, none⟩ = some (.int .i64 3) := by rw [hU]; exact cell_of (heap_alloc_new _ _) _
  have u2 : U.cell? ⟨w2.heap.size, 2, none⟩ = some (.float .f64 f) := by rw [hU]; exact cell_of (heap_alloc_new _ _) _
  have BU := hide (show Below w.heap.size w U by rw [hU]; exact (unhide B2).alloc (unhide B2).size _)
  have hUs : w2.heap.size < U.heap.size := by rw [hU]; simp
  have HU := hide hU
  clear hU
  go_wp2_with fail
  rw [← unhide HU]
  refine (unhide HT U ((unhide HF).below (unhide BU))).mono ?_
  rintro e w3 ⟨t, rfl, hsp, b3⟩
  have v2 : w3.cell? ⟨w2.heap.size, 2, none⟩ = some (.float .f64 f) := (b3.cell (p := ⟨w2.heap.size, 2, none⟩) hUs).trans u2
  have h3s : w2.heap.size < w3.heap.size := Nat.lt_of_lt_of_le hUs b3.size
  have B3 := hide ((unhide BU).trans (b3.mono (unhide BU).size))
  have R2 := hide (hsp.rd w3 ((unhide HF).below (unhide B3)).fy)
  have WT := hide (fun W => weight_ok t W hsp.sz)
  have hle : ((wt (bytZ t) 0 0 : Nat) : Int) ≤ (b : Int) := by have := hsp.wt; omega
  generalize wt (bytZ t) 0 0 = a at *
  clear hsp b3 HT u0 u2 BU B2 hUs HU
  go_wp2_with fail
  refine (unhide R2).mono ?_
  rintro e w4 ⟨rfl, b4⟩
  have x2 : w4.cell? ⟨w2.heap.size, 2, none⟩ = some (.float .f64 f) := (b4.cell (p := ⟨w2.heap.size, 2, none⟩) h3s).trans v2
  have h4s : w2.heap.size < w4.heap.size := Nat.lt_of_lt_of_le h3s b4.size
  have B4 := hide ((unhide B3).trans (b4.mono (unhide B3).size))
  obtain ⟨WN, hWN⟩ : ∃ WN, WN = w4.alloc (.cells #[.int .i64 3, .int .i64 0, .float .f64 f] 27) := ⟨_, rfl⟩
  have hNs : w4.heap.size < WN.heap.size := by rw [hWN]; simp
  have bN : Below w4.heap.size w4 WN := by rw [hWN]; exact (Below.refl _ _).alloc (Nat.le_refl _) _
  have d0 : WN.cell? ⟨w4.heap.size, 0, none⟩ = some (.int .i64 3) := by rw [hWN]; exact cell_of (heap_alloc_new _ _) _
  have d2 : WN.cell? ⟨w4.heap.size, 2, none⟩ = some (.float .f64 f) := by rw [hWN]; exact cell_of (heap_alloc_new _ _) _
  have e2 : WN.cell? ⟨w2.heap.size, 2, none⟩ = some (.float .f64 f) := (bN.cell (p := ⟨w2.heap.size, 2, none⟩) h4s).trans x2
  have h2N : w2.heap.size < WN.heap.size := Nat.lt_trans h4s hNs
  have BN := hide ((unhide B4).trans (bN.mono (unhide B4).size))
  have HWN := hide hWN
  clear b4 R2 B3 v2 x2 h3s h4s hWN bN B4
  go_wp2_with fail
  rw [← unhide HWN]
  refine wp_region_noPanic ?_
  refine wp_region_held (S := fun w' => w'.cell? ⟨w4.heap.size, 0, none⟩ = some (.int .i64 3) ∧ w'.cell? ⟨w4.heap.size, 2, none⟩ = some (.float .f64 f) ∧ w'.cell? ⟨w2.heap.size, 2, none⟩ = some (.float .f64 f)) mixedS ?_
  have hS0 : WN.drew.cell? ⟨w4.heap.size, 0, none⟩ = some (.int .i64 3) ∧ WN.drew.cell? ⟨w4.heap.size, 2, none⟩ = some (.float .f64 f) ∧ WN.drew.cell? ⟨w2.heap.size, 2, none⟩ = some (.float .f64 f) := ⟨d0, d2, e2⟩
  refine wpAnyH_take (i := 0) (v := ?v1) rfl (by kernel_rfl) (by kernel_rfl) (by kernel_rfl) (fun _ _ _ h => h) (Or.inl ⟨by rfl, ?hy1⟩) hS0 ?_
  case hy1 => (intro w' hw'; obtain ⟨q0, q1, q2⟩ := hw'; go_simp; try with_reducible rfl)
  simp only [List.getElem_toArray, List.getElem_cons_zero, List.getElem_cons_succ, Act.put, List.setIfInBounds_toArray, List.set_cons_zero, List.set_cons_succ]
  refine wpAnyH_take (i := 1) (v := ?v2) rfl (by kernel_rfl) (by kernel_rfl) (by kernel_rfl) (fun _ _ _ h => h) (Or.inl ⟨by rfl, ?hy2⟩) hS0 ?_
  case hy2 => (intro w' hw'; obtain ⟨q0, q1, q2⟩ := hw'; go_simp; try with_reducible rfl)
  simp only [List.getElem_toArray, List.getElem_cons_zero, List.getElem_cons_succ, Act.put, List.setIfInBounds_toArray, List.set_cons_zero, List.set_cons_succ]
  refine wpAnyH_take (i := 2) (v := ?v3) rfl (by kernel_rfl) (by kernel_rfl) (by kernel_rfl) (fun _ _ _ h => h) (Or.inl ⟨by rfl, ?hy3⟩) hS0 ?_
  case hy3 => (intro w' hw'; obtain ⟨q0, q1, q2⟩ := hw'; go_simp; try with_reducible rfl)
  simp only [List.getElem_toArray, List.getElem_cons_zero, List.getElem_cons_succ, Act.put, List.setIfInBounds_toArray, List.set_cons_zero, List.set_cons_succ]
  refine wpAnyH_take (i := 3) (v := ?v4) rfl (by kernel_rfl) (by kernel_rfl) (by kernel_rfl) (fun _ _ _ h => h) (Or.inl ⟨by rfl, ?hy4⟩) hS0 ?_
  case hy4 => (intro w' hw'; obtain ⟨q0, q1, q2⟩ := hw'; go_simp; try with_reducible rfl)
  simp only [List.getElem_toArray, List.getElem_cons_zero, List.getElem_cons_succ, Act.put, List.setIfInBounds_toArray, List.set_cons_zero, List.set_cons_succ]
  refine wpAnyH_take (i := 4) (v := ?v5) rfl (by kernel_rfl) (by kernel_rfl) (by kernel_rfl) (fun _ _ _ h => h) (Or.inl ⟨by rfl, ?hy5⟩) hS0 ?_
  case hy5 => (intro w' hw'; obtain ⟨q0, q1, q2⟩ := hw'; go_simp; try with_reducible rfl)
  simp only [List.getElem_toArray, List.getElem_cons_zero, List.getElem_cons_succ, Act.put, List.setIfInBounds_toArray, List.set_cons_zero, List.set_cons_succ]
  refine wpAnyH_take (i := 5) (v := ?v6) rfl (by kernel_rfl) (by kernel_rfl) (by kernel_rfl) (fun _ _ _ h => h) (Or.inl ⟨by rfl, ?hy6⟩) hS0 ?_
  case hy6 => (intro w' hw'; obtain ⟨q0, q1, q2⟩ := hw'; go_simp; try with_reducible rfl)
  simp only [List.getElem_toArray, List.getElem_cons_zero, List.getElem_cons_succ, Act.put, List.setIfInBounds_toArray, List.set_cons_zero, List.set_cons_succ]
  refine wpAnyH_take (i := 6) (v := ?v7) rfl (by kernel_rfl) (by kernel_rfl) (by kernel_rfl) (fun _ _ _ h => h) (Or.inl ⟨by rfl, ?hy7⟩) hS0 ?_
  case hy7 => (intro w' hw'; obtain ⟨q0, q1, q2⟩ := hw'; go_simp; try with_reducible rfl)
  simp only [List.getElem_toArray, List.getElem_cons_zero, List.getElem_cons_succ, Act.put, List.setIfInBounds_toArray, List.set_cons_zero, List.set_cons_succ]
  refine wpAnyH_take (i := 7) (v := ?v8) rfl (by kernel_rfl) (by kernel_rfl) (by kernel_rfl) (fun _ _ _ h => h) (Or.inl ⟨by rfl, ?hy8⟩) hS0 ?_
  case hy8 => (intro w' hw'; obtain ⟨q0, q1, q2⟩ := hw'; go_simp; try with_reducible rfl)
  simp only [List.getElem_toArray, List.getElem_cons_zero, List.getElem_cons_succ, Act.put, List.setIfInBounds_toArray, List.set_cons_zero, List.set_cons_succ]
  refine wpAnyH_take (i := 8) (v := ?v9) rfl (by kernel_rfl) (by kernel_rfl) (by kernel_rfl) (fun _ _ _ h => h) (Or.inl ⟨by rfl, ?hy9⟩) hS0 ?_
  case hy9 => (intro w' hw'; obtain ⟨q0, q1, q2⟩ := hw'; go_simp; try with_reducible rfl)
  simp only [List.getElem_toArray, List.getElem_cons_zero, List.getElem_cons_succ, Act.put, List.setIfInBounds_toArray, List.set_cons_zero, List.set_cons_succ]
  refine wpAnyH_take (i := 9) (v := ?v10) rfl (by kernel_rfl) (by kernel_rfl) (by kernel_rfl) (fun _ _ _ h => h) (Or.inl ⟨by rfl, ?hy10⟩) hS0 ?_
  case hy10 => (intro w' hw'; obtain ⟨q0, q1, q2⟩ := hw'; go_simp; try with_reducible rfl)
  simp only [List.getElem_toArray, List.getElem_cons_zero, List.getElem_cons_succ, Act.put, List.setIfInBounds_toArray, List.set_cons_zero, List.set_cons_succ]
  refine wpAnyH_take (i := 10) (v := ?v11) rfl (by kernel_rfl) (by kernel_rfl) (by kernel_rfl) (fun _ _ _ h => h) (Or.inl ⟨by rfl, ?hy11⟩) hS0 ?_
  case hy11 => (intro w' hw'; obtain ⟨q0, q1, q2⟩ := hw'; go_simp; try with_reducible rfl)
  simp only [List.getElem_toArray, List.getElem_cons_zero, List.getElem_cons_succ, Act.put, List.setIfInBounds_toArray, List.set_cons_zero, List.set_cons_succ]
  refine wpAnyH_take (i := 11) (v := ?v12) rfl (by kernel_rfl) (by kernel_rfl) (by kernel_rfl) (fun _ _ _ h => h) (Or.inl ⟨by rfl, ?hy12⟩) hS0 ?_
  case hy12 => (intro w' hw'; obtain ⟨q0, q1, q2⟩ := hw'; go_simp; try with_reducible rfl)
  simp only [List.getElem_toArray, List.getElem_cons_zero, List.getElem_cons_succ, Act.put, List.setIfInBounds_toArray, List.set_cons_zero, List.set_cons_succ]
  refine wpAnyH_take (i := 12) (v := ?v13) rfl (by kernel_rfl) (by kernel_rfl) (by kernel_rfl) (fun _ _ _ h => h) (Or.inl ⟨by rfl, ?hy13⟩) hS0 ?_
  case hy13 => (intro w' hw'; obtain ⟨q0, q1, q2⟩ := hw'; go_simp; try with_reducible rfl)
  simp only [List.getElem_toArray, List.getElem_cons_zero, List.getElem_cons_succ, Act.put, List.setIfInBounds_toArray, List.set_cons_zero, List.set_cons_succ]
  refine wpAnyH_take (i := 13) (v := ?v14) rfl (by kernel_rfl) (by kernel_rfl) (by kernel_rfl) (fun _ _ _ h => h) (Or.inl ⟨by rfl, ?hy14⟩) hS0 ?_
  case hy14 => (intro w' hw'; obtain ⟨q0, q1, q2⟩ := hw'; go_simp; try with_reducible rfl)
  simp only [List.getElem_toArray, List.getElem_cons_zero, List.getElem_cons_succ, Act.put, List.setIfInBounds_toArray, List.set_cons_zero, List.set_cons_succ]
  refine wpAnyH_take (i := 14) (v := ?v15) rfl (by kernel_rfl) (by kernel_rfl) (by kernel_rfl) (fun _ _ _ h => h) (Or.inl ⟨by rfl, ?hy15⟩) hS0 ?_
  case hy15 => (intro w' hw'; obtain ⟨q0, q1, q2⟩ := hw'; go_simp; try with_reducible rfl)
  simp only [List.getElem_toArray, List.getElem_cons_zero, List.getElem_cons_succ, Act.put, List.setIfInBounds_toArray, List.set_cons_zero, List.set_cons_succ]
  refine wpAnyH_take (i := 15) (v := ?v16) rfl (by kernel_rfl) (by kernel_rfl) (by kernel_rfl) (fun _ _ _ h => h) (Or.inl ⟨by rfl, ?hy16⟩) hS0 ?_
  case hy16 => (intro w' hw'; obtain ⟨q0, q1, q2⟩ := hw'; go_simp; try with_reducible rfl)
  simp only [List.getElem_toArray, List.getElem_cons_zero, List.getElem_cons_succ, Act.put, List.setIfInBounds_toArray, List.set_cons_zero, List.set_cons_succ]
  refine wpAnyH_take (i := 16) (v := ?v17) rfl (by kernel_rfl) (by kernel_rfl) (by kernel_rfl) (fun _ _ _ h => h) (Or.inl ⟨by rfl, ?hy17⟩) hS0 ?_
  case hy17 => (intro w' hw'; obtain ⟨q0, q1, q2⟩ := hw'; go_simp; try with_reducible rfl)
  simp only [List.getElem_toArray, List.getElem_cons_zero, List.getElem_cons_succ, Act.put, List.setIfInBounds_toArray, List.set_cons_zero, List.set_cons_succ]
  refine wpAnyH_take (i := 17) (v := ?v18) rfl (by kernel_rfl) (by kernel_rfl) (by kernel_rfl) (fun _ _ _ h => h) (Or.inl ⟨by rfl, ?hy18⟩) hS0 ?_
  case hy18 => (intro w' hw'; obtain ⟨q0, q1, q2⟩ := hw'; go_simp; try with_reducible rfl)
  simp only [List.getElem_toArray, List.getElem_cons_zero, List.getElem_cons_succ, Act.put, List.setIfInBounds_toArray, List.set_cons_zero, List.set_cons_succ]
  refine wpAnyH_take (i := 19) (v := ?v19) rfl (by kernel_rfl) (by kernel_rfl) (by kernel_rfl) (fun _ _ _ h => h) (Or.inl ⟨by rfl, ?hy19⟩) hS0 ?_
  case hy19 => (intro w' hw'; obtain ⟨q0, q1, q2⟩ := hw'; go_simp; try with_reducible rfl)
  simp only [List.getElem_toArray, List.getElem_cons_zero, List.getElem_cons_succ, Act.put, List.setIfInBounds_toArray, List.set_cons_zero, List.set_cons_succ]
  refine rgn.one (i := 18) _ rfl (by kernel_rfl) (by rfl) ?_
  simp only [List.getElem_toArray, List.getElem_cons_zero, List.getElem_cons_succ, Act.put, List.setIfInBounds_toArray, List.set_cons_zero, List.set_cons_succ]
  refine callW _ _ _ _ rfl Tryz.func13 (by kernel_rfl) (by kernel_rfl) #[.string t] (by first | kernel_rfl | (simp only [List.map_toArray, List.map_cons, List.map_nil]; rfl)) ?_
  refine (unhide WT _).mono ?_
  rintro e w5 ⟨rfl, b5⟩
  have b5' : Below WN.heap.size WN w5 := ((Below.refl _ _).drew : Below WN.heap.size WN WN.drew).trans b5
  have hS5 : w5.cell? ⟨w4.heap.size, 0, none⟩ = some (.int .i64 3) ∧ w5.cell? ⟨w4.heap.size, 2, none⟩ = some (.float .f64 f) ∧ w5.cell? ⟨w2.heap.size, 2, none⟩ = some (.float .f64 f) := ⟨(b5'.cell (p := ⟨w4.heap.size, 0, none⟩) hNs).trans d0, (b5'.cell (p := ⟨w4.heap.size, 2, none⟩) hNs).trans d2, (b5'.cell (p := ⟨w2.heap.size, 2, none⟩) h2N).trans e2⟩
  refine ⟨_, rfl, hS5, ?_⟩
  have hS0 := hS5
  try simp only [List.getElem_toArray, List.getElem_cons_zero, List.getElem_cons_succ, Act.put, List.setIfInBounds_toArray, List.set_cons_zero, List.set_cons_succ]
  refine rgn.one (i := 20) _ rfl (by kernel_rfl) (by rfl) ?_
  simp only [List.getElem_toArray, List.getElem_cons_zero, List.getElem_cons_succ, Act.put, List.setIfInBounds_toArray, List.set_cons_zero, List.set_cons_succ]
  refine callW _ _ _ _ rfl Tryz.func13 (by kernel_rfl) (by kernel_rfl) #[.string s] (by first | kernel_rfl | (simp only [List.map_toArray, List.map_cons, List.map_nil]; rfl)) ?_
  refine (unhide HWS _).mono ?_
  rintro e w6 ⟨rfl, b6⟩
  have b6' : Below WN.heap.size WN w6 := b5'.trans (b6.mono b5'.size)
  have hS6 : w6.cell? ⟨w4.heap.size, 0, none⟩ = some (.int .i64 3) ∧ w6.cell? ⟨w4.heap.size, 2, none⟩ = some (.float .f64 f) ∧ w6.cell? ⟨w2.heap.size, 2, none⟩ = some (.float .f64 f) := ⟨(b6'.cell (p := ⟨w4.heap.size, 0, none⟩) hNs).trans d0, (b6'.cell (p := ⟨w4.heap.size, 2, none⟩) hNs).trans d2, (b6'.cell (p := ⟨w2.heap.size, 2, none⟩) h2N).trans e2⟩
  refine ⟨_, rfl, hS6, ?_⟩
  have hS0 := hS6
  try simp only [List.getElem_toArray, List.getElem_cons_zero, List.getElem_cons_succ, Act.put, List.setIfInBounds_toArray, List.set_cons_zero, List.set_cons_succ]
  refine wpAnyH_take (i := 21) (v := ?v20) rfl (by kernel_rfl) (by kernel_rfl) (by kernel_rfl) (fun _ _ _ h => h) (Or.inl ⟨by rfl, ?hy20⟩) hS0 ?_
  case hy20 => (intro w' hw'; skip; go_simp; try with_reducible rfl)
  simp only [List.getElem_toArray, List.getElem_cons_zero, List.getElem_cons_succ, Act.put, List.setIfInBounds_toArray, List.set_cons_zero, List.set_cons_succ]
  refine wpAnyH_take (i := 22) (v := ?v21) rfl (by kernel_rfl) (by kernel_rfl) (by kernel_rfl) (fun _ _ _ h => h) (Or.inl ⟨by rfl, ?hy21⟩) hS0 ?_
  case hy21 => (intro w' hw'; skip; go_simp; try with_reducible rfl)
  simp only [List.getElem_toArray, List.getElem_cons_zero, List.getElem_cons_succ, Act.put, List.setIfInBounds_toArray, List.set_cons_zero, List.set_cons_succ]
  refine wpAnyH_take (i := 23) (v := ?v22) rfl (by kernel_rfl) (by kernel_rfl) (by kernel_rfl) (fun _ _ _ h => h) (Or.inl ⟨by rfl, ?hy22⟩) hS0 ?_
  case hy22 => (intro w' hw'; skip; go_simp; try with_reducible rfl)
  simp only [List.getElem_toArray, List.getElem_cons_zero, List.getElem_cons_succ, Act.put, List.setIfInBounds_toArray, List.set_cons_zero, List.set_cons_succ]
  refine wpAnyH_done (by kernel_rfl) ?_ _; refine NoPanic.normal ?_
  have B6 := hide ((unhide BN).trans (b6'.mono (unhide BN).size))
  clear hS0 hS5 hS6 b5 b6 b5' b6' d0 d2 e2 WT HWS
  go_wp2
  go_ret
  exact ⟨rfl, unhide B6⟩
theorem exL_exA (E : Option (Bool × List Int)) : exL E = exA (E.map fun q => (101, (if q.1 then some true else none), q.2)) := by
  rcases E with _ | ⟨g, X⟩
  · rfl
  · cases g <;> rfl
theorem rnd_of {P B lo R : Nat} (h : dcm.cpR (roundR P B lo) = R) (hR : R < infR) : roundR P B lo = R := by
  unfold dcm.cpR at h
  split at h
  · exact h
  · omega
/-- NumberShortest -/
theorem law_shortest (s : ByteArray) (w : World) (hW : dcm.Fz w) (hs : s.size ≤ 1050000) :
    Calls Tryz.prog 4 #[.string s] w fun e w' => e = .returned (.bool true) ∧ Below w.heap.size w w' := by
  obtain ⟨k, i, f, e, hv, RD⟩ := read_any s hs
  cases hv with
  | none h => exact short_no s _ _ _ _ w hW (Or.inl rfl) RD
  | int ng A h hr => exact short_no s _ _ _ _ w hW (Or.inr ⟨rfl, rfl⟩) RD
  | big ng A F E h hn hR => exact short_no s _ _ _ _ w hW (Or.inl rfl) RD
  | flt ng A F E R h hn hR hi =>
    have hi' : R < 9218868437227405312 := hi
    have hng := Bool.toNat_le ng
    have hx : ng.toNat * 9223372036854775808 + R < 18446744073709551616 := by omega
    have hxm : (ng.toNat * 9223372036854775808 + R) % 9223372036854775808 = R := by omega
    have hbx := bad_fin ng hi
    generalize ng.toNat * 9223372036854775808 + R = x at *
    refine short_in s _ (wt (bytZ s) 0 0) w hW hx RD (fun W hW' => ?_) (fun W => weight_ok s W (by omega))
    by_cases h0 : R = 0
    · refine (ftext_nought _ W hx (by rw [hxm]; exact h0)).mono ?_
      rintro e w1 ⟨rfl, b1⟩
      have e1 := read_nought (decide (9223372036854775808 ≤ x))
      have e2 := sg_part x hx
      rw [hxm, h0, Nat.add_zero] at e2
      rw [e2, ← str_app, ← sgB_sgL] at e1
      refine ⟨_, rfl, ⟨e1, ?_, ?_⟩, b1⟩
      · rw [sgB_sgL, show (⟨#[48, 46, 48]⟩ : ByteArray) = strOfNums [48, 46, 48] from rfl, str_app, bytZ_str _ ((sg_bt _).app (.cons (by omega) (.cons (by omega) (.cons (by omega) Bt.nil))))]
        have h48 : Dg [48] := fun z hz => by simp at hz; omega
        have := wt_num (decide (9223372036854775808 ≤ x)) [48] [48] none h48 h48 (fun q hq => by cases hq)
        have e3 : sgL (decide (9223372036854775808 ≤ x)) ++ ([48] ++ (frL [48] ++ exA none)) = sgL (decide (9223372036854775808 ≤ x)) ++ [48, 46, 48] := by simp [frL, exA]
        rw [e3] at this
        rw [this]
        exact Nat.zero_le _
      · rw [sgB_sgL, show (⟨#[48, 46, 48]⟩ : ByteArray) = strOfNums [48, 46, 48] from rfl, str_app, str_size, List.length_append]
        have : (sgL (decide (9223372036854775808 ≤ x))).length ≤ 1 := by unfold sgL; split <;> simp
        simp
        omega
    · obtain ⟨d, q, hc, H⟩ := ftext_any _ hx (hbx) (by rw [hxm]; exact h0)
      refine (H W hW'.fy.fx).mono ?_
      rintro e w1 ⟨k, hk, rfl, b1⟩
      have hrd := ft_read _ d k q hx (hbx) (by rw [hxm]; exact h0) hc hk
      rw [hxm] at hc
      obtain ⟨r1, d1, d2, q1, q2⟩ := hc.rng
      have n4 : Lib.nDigits d ≤ 18 := nd_le d1 (Nat.lt_of_le_of_lt d2 (by decide))
      have hKl := dgs_len d k
      have k1 := hk.1
      have k2 := hk.2.1
      obtain ⟨A', F', E', j, e1, hA, hA0, hA1, hF, hE, hX, lA, lF, ht, hp, hFE⟩ := lay_text (dgs d k) ((Lib.nDigits d : Int) + q) (dgs_rng d k) (dgs_first d k d1 k1) (by omega) (by omega) (by omega) (by omega)
      have hbt : Bt (sgL (decide (9223372036854775808 ≤ x)) ++ (A' ++ (frL F' ++ exL E'))) := by
        refine (sg_bt _).app (hA.bt.app (Bt.app ?_ ?_))
        · unfold frL
          split
          · exact Bt.nil
          · exact .cons (by omega) hF.bt
        · cases E' with
          | none => exact Bt.nil
          | some q => exact .cons (by omega) ((sg_bt q.1).app hE.1.bt)
      have et : ftB x d k q = strOfNums (sgL (decide (9223372036854775808 ≤ x)) ++ (A' ++ (frL F' ++ exL E'))) := by
        unfold ftB
        rw [sgB_sgL, e1, str_app]
      refine ⟨_, rfl, ⟨hrd, ?_, ?_⟩, b1⟩
      · rw [et, bytZ_str _ hbt, exL_exA, wt_num _ A' F' _ hA hF (fun q hq => by cases E' <;> simp at hq; subst hq; exact Or.inl rfl)]
        have hk1 := wt_le (A' ++ F') (dgs d k) j (hA.app hF) (dgs_rng d k) ht
        rw [hKl] at hk1
        refine Nat.le_trans hk1 ?_
        rw [h.eq, wt_num ng A F E h.wh.dg h.fr (fun q hq => (h.ex q hq).1)]
        obtain ⟨q', j', hq1, hq2⟩ := wt_val (A ++ F) 0 0 0 0 (h.wh.dg.app h.fr) (Nat.le_refl _) (by decide) rfl (fun _ => rfl)
        rw [Nat.zero_mul, Nat.zero_add] at hq1
        obtain ⟨lo, hlo, hR2⟩ := hR
        have hro := rnd_of hR2 hi
        have hin : Rd (dv (trm (A ++ F))) (exX E - F.length) R := (round_iff (Nat.pow_pos (by decide)) (by omega) hlo).1 hro
        rw [dv_trm, hq1, rd_scale] at hin
        refine kept_least (by omega) hi' hc hk _ ?_ q' _ hq2 hin
        rcases Nat.eq_zero_or_pos (wt (A ++ F) 0 0) with g | g
        · exfalso
          rw [g, Nat.pow_zero] at hq2
          have hq0 : q' = 0 := by omega
          rw [hq0] at hin
          have h1 := hin.1
          rw [Nat.zero_mul, Nat.zero_mul] at h1
          have h2 : 0 < midR (R - 1) := by have := Nat.two_pow_pos (exR (R - 1)); unfold midR; omega
          have h3 := Nat.mul_pos (Nat.pow_pos (a := 10) (n := (-(exX E - F.length + j')).toNat) (by decide)) h2
          omega
        · exact g
      · rw [et, str_size]
        have l1 : (frL F').length ≤ F'.length + 1 := by unfold frL; split <;> simp
        have l2 : (exL E').length ≤ 12 := by
          cases E' with
          | none => simp [exL]
          | some q =>
            obtain ⟨g, X⟩ := q
            have : X.length ≤ 10 := hX
            cases g <;> simp [exL, sgL] <;> omega
        have l3 : (sgL (decide (9223372036854775808 ≤ x))).length ≤ 1 := by unfold sgL; split <;> simp
        simp only [List.length_append]
        omega
end Go.Proofs.YtjlaoeigfokkiaaGreatDoor.fto
