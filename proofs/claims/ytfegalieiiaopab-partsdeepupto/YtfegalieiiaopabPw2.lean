import Derived.Test.YtfegalieiiaopabPw1
namespace Go.Proofs.Ytfegalieiiaopab.cu
open Go.ChangeShapes Go.WideShapes Go.ChangeAt Go.RowKit
open ints (hide unhide)
open dt (Dt Kp RowAt Ow)
set_option linter.unusedVariables false
set_option linter.unusedSimpArgs false
theorem litA_ok (ct : Bool) (W : World) (N : Nat) (hN : N = W.heap.size) : Calls Try.prog 6 #[.slice (some ⟨N, 0, none⟩) 12 12, .bool ct, .int .i64 2] (W.alloc (.cells #[Value.int .u8 91, Value.int .u8 49, Value.int .u8 44, Value.int .u8 32, Value.int .u8 123, Value.int .u8 97, Value.int .u8 58, Value.int .u8 32, Value.int .u8 36, Value.int .u8 98, Value.int .u8 125, Value.int .u8 93] 5 (12, 13))) fun e w' => ∃ cs F fs, e = .returned (.tuple #[.agg cs.toArray, .agg fs.toArray]) ∧ LitPost ((readL sA ct 2).1.getD zeroD) (W.alloc (.cells #[Value.int .u8 91, Value.int .u8 49, Value.int .u8 44, Value.int .u8 32, Value.int .u8 123, Value.int .u8 97, Value.int .u8 58, Value.int .u8 32, Value.int .u8 36, Value.int .u8 98, Value.int .u8 125, Value.int .u8 93] 5 (12, 13))) w' cs F ∧ FltAt (W.alloc (.cells #[Value.int .u8 91, Value.int .u8 49, Value.int .u8 44, Value.int .u8 32, Value.int .u8 123, Value.int .u8 97, Value.int .u8 58, Value.int .u8 32, Value.int .u8 36, Value.int .u8 98, Value.int .u8 125, Value.int .u8 93] 5 (12, 13))).heap.size w' (readL sA ct 2).2 fs ∧ Below (W.alloc (.cells #[Value.int .u8 91, Value.int .u8 49, Value.int .u8 44, Value.int .u8 32, Value.int .u8 123, Value.int .u8 97, Value.int .u8 58, Value.int .u8 32, Value.int .u8 36, Value.int .u8 98, Value.int .u8 125, Value.int .u8 93] 5 (12, 13))).heap.size (W.alloc (.cells #[Value.int .u8 91, Value.int .u8 49, Value.int .u8 44, Value.int .u8 32, Value.int .u8 123, Value.int .u8 97, Value.int .u8 58, Value.int .u8 32, Value.int .u8 36, Value.int .u8 98, Value.int .u8 125, Value.int .u8 93] 5 (12, 13))) w' := by
  subst hN
  exact readLit_ok (some ⟨W.heap.size, 0, none⟩) 12 12 sA ct 2 (W.alloc (.cells #[Value.int .u8 91, Value.int .u8 49, Value.int .u8 44, Value.int .u8 32, Value.int .u8 123, Value.int .u8 97, Value.int .u8 58, Value.int .u8 32, Value.int .u8 36, Value.int .u8 98, Value.int .u8 125, Value.int .u8 93] 5 (12, 13))) (row_new W sA 5 (12, 13)) (by decide) sA_plain (by rfl)
theorem typB_ok (W : World) (N : Nat) (hN : N = W.heap.size) : Calls Try.prog 8 #[.slice (some ⟨N, 0, none⟩) 9 9, .int .i64 2] (W.alloc (.cells #[Value.int .u8 91, Value.int .u8 91, Value.int .u8 73, Value.int .u8 110, Value.int .u8 116, Value.int .u8 33, Value.int .u8 93, Value.int .u8 93, Value.int .u8 33] 5 (9, 10))) fun e w' => e = .returned (.tuple #[.agg #[Value.string ⟨#[73, 110, 116]⟩, .string ⟨#[33, 93, 93, 33]⟩], .agg #[Value.int .i64 0, .slice none 0 0, .slice none 0 0]]) ∧ Below (W.alloc (.cells #[Value.int .u8 91, Value.int .u8 91, Value.int .u8 73, Value.int .u8 110, Value.int .u8 116, Value.int .u8 33, Value.int .u8 93, Value.int .u8 93, Value.int .u8 33] 5 (9, 10))).heap.size (W.alloc (.cells #[Value.int .u8 91, Value.int .u8 91, Value.int .u8 73, Value.int .u8 110, Value.int .u8 116, Value.int .u8 33, Value.int .u8 93, Value.int .u8 93, Value.int .u8 33] 5 (9, 10))) w' := by
  subst hN
  have h := readType_ok (some ⟨W.heap.size, 0, none⟩) 9 9 sB 2 (W.alloc (.cells #[Value.int .u8 91, Value.int .u8 91, Value.int .u8 73, Value.int .u8 110, Value.int .u8 116, Value.int .u8 33, Value.int .u8 93, Value.int .u8 93, Value.int .u8 33] 5 (9, 10))) (row_new W sB 5 (9, 10)) (by decide) sB_plain (by rfl)
  refine h.mono ?_
  rintro e w2 ⟨fs, rfl, hfl, b2⟩
  rw [fx4]
  unfold FltAt at hfl
  rw [if_pos fx5] at hfl
  subst hfl
  exact ⟨rfl, b2⟩
/-- the first fixed answers, in plain words -/
theorem litA1 (W : World) (N : Nat) (hN : N = W.heap.size) : Calls Try.prog 6 #[.slice (some ⟨N, 0, none⟩) 12 12, .bool false, .int .i64 2] (W.alloc (.cells #[Value.int .u8 91, Value.int .u8 49, Value.int .u8 44, Value.int .u8 32, Value.int .u8 123, Value.int .u8 97, Value.int .u8 58, Value.int .u8 32, Value.int .u8 36, Value.int .u8 98, Value.int .u8 125, Value.int .u8 93] 5 (12, 13))) fun e w' => ∃ p1 c1 p2 c2 af nf cf ln co, e = .returned (.tuple #[.agg #[Value.int .i64 8, .string em, .bool false, .slice (some ⟨p1, 0, none⟩) 2 c1, .slice af nf cf, .int .i64 ln, .int .i64 co], .agg #[Value.int .i64 0, .slice none 0 0, .slice none 0 0]]) ∧ p1 < w'.heap.size ∧ p2 < w'.heap.size ∧
    w'.cell? ⟨p1, 1, none⟩ = some (.string ⟨#[49]⟩) ∧ w'.cell? ⟨p1, 7, none⟩ = some (.int .i64 9) ∧ w'.cell? ⟨p1, 11, none⟩ = some (.slice (some ⟨p2, 0, none⟩) 1 c2) ∧ w'.cell? ⟨p2, 1, none⟩ = some (.int .i64 1) ∧ Below (W.alloc (.cells #[Value.int .u8 91, Value.int .u8 49, Value.int .u8 44, Value.int .u8 32, Value.int .u8 123, Value.int .u8 97, Value.int .u8 58, Value.int .u8 32, Value.int .u8 36, Value.int .u8 98, Value.int .u8 125, Value.int .u8 93] 5 (12, 13))).heap.size (W.alloc (.cells #[Value.int .u8 91, Value.int .u8 49, Value.int .u8 44, Value.int .u8 32, Value.int .u8 123, Value.int .u8 97, Value.int .u8 58, Value.int .u8 32, Value.int .u8 36, Value.int .u8 98, Value.int .u8 125, Value.int .u8 93] 5 (12, 13))) w' := by
  refine (litA_ok false W N hN).mono ?_
  rintro e w1 ⟨cs, F, fs, rfl, hpo, hfl, b1⟩
  rw [fx1] at hpo
  obtain ⟨p1, c1, p2, c2, af, nf, cf, ln, co, rfl, hp1, hp2, z1, z2, z3, z4⟩ := dA_cells hpo.shape hpo.own
  unfold FltAt at hfl
  rw [if_pos fx2] at hfl
  subst hfl
  exact ⟨p1, c1, p2, c2, af, nf, cf, ln, co, rfl, (hpo.rng p1 hp1).2, (hpo.rng p2 hp2).2, z1, z2, z3, z4, b1⟩
theorem litA2 (W : World) (N : Nat) (hN : N = W.heap.size) : Calls Try.prog 6 #[.slice (some ⟨N, 0, none⟩) 12 12, .bool true, .int .i64 2] (W.alloc (.cells #[Value.int .u8 91, Value.int .u8 49, Value.int .u8 44, Value.int .u8 32, Value.int .u8 123, Value.int .u8 97, Value.int .u8 58, Value.int .u8 32, Value.int .u8 36, Value.int .u8 98, Value.int .u8 125, Value.int .u8 93] 5 (12, 13))) fun e w' => ∃ b k tx bl ai ni ci af nf cf ln co, e = .returned (.tuple #[.agg #[.int .i64 k, .string tx, .bool bl, .slice ai ni ci, .slice af nf cf, .int .i64 ln, .int .i64 co], .agg #[.int .i64 70, .slice (some ⟨b, 0, none⟩) 1 1, .slice none 0 0]]) ∧ b < w'.heap.size ∧ w'.cell? ⟨b, 1, none⟩ = some (.int .i64 9) ∧ Below (W.alloc (.cells #[Value.int .u8 91, Value.int .u8 49, Value.int .u8 44, Value.int .u8 32, Value.int .u8 123, Value.int .u8 97, Value.int .u8 58, Value.int .u8 32, Value.int .u8 36, Value.int .u8 98, Value.int .u8 125, Value.int .u8 93] 5 (12, 13))).heap.size (W.alloc (.cells #[Value.int .u8 91, Value.int .u8 49, Value.int .u8 44, Value.int .u8 32, Value.int .u8 123, Value.int .u8 97, Value.int .u8 58, Value.int .u8 32, Value.int .u8 36, Value.int .u8 98, Value.int .u8 125, Value.int .u8 93] 5 (12, 13))) w' := by
  refine (litA_ok true W N hN).mono ?_
  rintro e w1 ⟨cs, F, fs, rfl, hpo, hfl, b1⟩
  obtain ⟨k, tx, bl, ai, ni, ci, af, nf, cf, ln, co, rfl⟩ := hpo.shape
  unfold FltAt at hfl
  rw [if_neg (by rw [fx3.1]; decide), fx3.1, fx3.2.1, fx3.2.2.1] at hfl
  obtain ⟨b, h1, h2, rfl, h4, h5⟩ := hfl
  exact ⟨b, k, tx, bl, ai, ni, ci, af, nf, cf, ln, co, rfl, h2, h5, b1⟩
set_option maxRecDepth 10000 in
set_option maxHeartbeats 4000000 in
theorem fixed_ok (w : World) : Calls Try.prog 5 #[] w fun e w' => e = .returned (.bool true) ∧ Below w.heap.size w w' := by
  have kc := fun (w : World) (C : Array Value) (n c : Nat) => Lib.run_convert_bytes_const (P := Try.prog) w 22 5 C n c Try.underlying22 Try.underlying5
  go_enter Try.func5, Try.ntmps5
  go_wp2_with fail
  refine (litA1 w w.heap.size rfl).mono ?_
  rintro e w1 ⟨p1, c1, p2, c2, af, nf, cf, ln, co, rfl, hq1, hq2, z1, z2, z3, z4, b1⟩
  have bw1 : Below w.heap.size w w1 := ((Below.refl _ _).alloc (Nat.le_refl _) _).trans (b1.mono (by simp))
  clear b1
  have kc1 := fun (o o' : Obj) (C : Array Value) (n c : Nat) => by simpa using kc ((w1.alloc o).alloc o') C n c
  go_wp2_with fail
  have hX1 : ((w1.alloc (.cells #[Value.int .i64 8, .string em, .bool false, .slice (some ⟨p1, 0, none⟩) 2 c1, .slice af nf cf, .int .i64 ln, .int .i64 co] 32)).alloc (.cells #[Value.int .i64 0, .slice none 0 0, .slice none 0 0] 37)).heap[w1.heap.size]? = some (.cells #[Value.int .i64 8, .string em, .bool false, .slice (some ⟨p1, 0, none⟩) 2 c1, .slice af nf cf, .int .i64 ln, .int .i64 co] 32 (0, 0)) := (Below.heap_alloc _ _ w1.heap.size (by simp)).trans (heap_alloc_new w1 _)
  have hX2 : ((w1.alloc (.cells #[Value.int .i64 8, .string em, .bool false, .slice (some ⟨p1, 0, none⟩) 2 c1, .slice af nf cf, .int .i64 ln, .int .i64 co] 32)).alloc (.cells #[Value.int .i64 0, .slice none 0 0, .slice none 0 0] 37)).heap[w1.heap.size + 1]? = some (.cells #[Value.int .i64 0, .slice none 0 0, .slice none 0 0] 37 (0, 0)) := by
    have := heap_alloc_new (w1.alloc (.cells #[Value.int .i64 8, .string em, .bool false, .slice (some ⟨p1, 0, none⟩) 2 c1, .slice af nf cf, .int .i64 ln, .int .i64 co] 32)) (.cells #[Value.int .i64 0, .slice none 0 0, .slice none 0 0] 37)
    simpa using this
  have hX0 : w1.heap.size + 1 + 1 = ((w1.alloc (.cells #[Value.int .i64 8, .string em, .bool false, .slice (some ⟨p1, 0, none⟩) 2 c1, .slice af nf cf, .int .i64 ln, .int .i64 co] 32)).alloc (.cells #[Value.int .i64 0, .slice none 0 0, .slice none 0 0] 37)).heap.size := by simp
  have bX : Below w1.heap.size w1 ((w1.alloc (.cells #[Value.int .i64 8, .string em, .bool false, .slice (some ⟨p1, 0, none⟩) 2 c1, .slice af nf cf, .int .i64 ln, .int .i64 co] 32)).alloc (.cells #[Value.int .i64 0, .slice none 0 0, .slice none 0 0] 37)) := ((Below.refl _ _).alloc (Nat.le_refl _) _).alloc (by simp) _
  obtain ⟨X1, e1⟩ : ∃ X1, X1 = (w1.alloc (.cells #[Value.int .i64 8, .string em, .bool false, .slice (some ⟨p1, 0, none⟩) 2 c1, .slice af nf cf, .int .i64 ln, .int .i64 co] 32)).alloc (.cells #[Value.int .i64 0, .slice none 0 0, .slice none 0 0] 37) := ⟨_, rfl⟩
  rw [← e1] at hX1 hX2 hX0 bX ⊢
  clear e1 kc1
  refine (typB_ok X1 _ hX0).mono ?_
  rintro e w2 ⟨rfl, b2⟩
  have b12 : Below X1.heap.size X1 w2 := ((Below.refl _ _).alloc (Nat.le_refl _) _).trans (b2.mono (by simp))
  have kc2 := fun (o o' : Obj) (C : Array Value) (n c : Nat) => by simpa using kc ((w2.alloc o).alloc o') C n c
  have hX0' : w1.heap.size + 1 < X1.heap.size := by omega
  have hX0h := hide hX0
  clear hX0 b2
  go_wp2_with fail
  have hY1 : ((w2.alloc (.cells #[Value.string ⟨#[73, 110, 116]⟩, .string ⟨#[33, 93, 93, 33]⟩] 48)).alloc (.cells #[Value.int .i64 0, .slice none 0 0, .slice none 0 0] 37)).heap[w2.heap.size]? = some (.cells #[Value.string ⟨#[73, 110, 116]⟩, .string ⟨#[33, 93, 93, 33]⟩] 48 (0, 0)) := (Below.heap_alloc _ _ w2.heap.size (by simp)).trans (heap_alloc_new w2 _)
  have hY2 : ((w2.alloc (.cells #[Value.string ⟨#[73, 110, 116]⟩, .string ⟨#[33, 93, 93, 33]⟩] 48)).alloc (.cells #[Value.int .i64 0, .slice none 0 0, .slice none 0 0] 37)).heap[w2.heap.size + 1]? = some (.cells #[Value.int .i64 0, .slice none 0 0, .slice none 0 0] 37 (0, 0)) := by
    have := heap_alloc_new (w2.alloc (.cells #[Value.string ⟨#[73, 110, 116]⟩, .string ⟨#[33, 93, 93, 33]⟩] 48)) (.cells #[Value.int .i64 0, .slice none 0 0, .slice none 0 0] 37)
    simpa using this
  have hY0 : w2.heap.size + 1 + 1 = ((w2.alloc (.cells #[Value.string ⟨#[73, 110, 116]⟩, .string ⟨#[33, 93, 93, 33]⟩] 48)).alloc (.cells #[Value.int .i64 0, .slice none 0 0, .slice none 0 0] 37)).heap.size := by simp
  have bY : Below w2.heap.size w2 ((w2.alloc (.cells #[Value.string ⟨#[73, 110, 116]⟩, .string ⟨#[33, 93, 93, 33]⟩] 48)).alloc (.cells #[Value.int .i64 0, .slice none 0 0, .slice none 0 0] 37)) := ((Below.refl _ _).alloc (Nat.le_refl _) _).alloc (by simp) _
  obtain ⟨Y1, e1⟩ : ∃ Y1, Y1 = (w2.alloc (.cells #[Value.string ⟨#[73, 110, 116]⟩, .string ⟨#[33, 93, 93, 33]⟩] 48)).alloc (.cells #[Value.int .i64 0, .slice none 0 0, .slice none 0 0] 37) := ⟨_, rfl⟩
  rw [← e1] at hY1 hY2 hY0 bY ⊢
  clear e1 kc2 kc
  refine (litA2 Y1 _ hY0).mono ?_
  rintro e w3 ⟨b, k3, tx3, bl3, ai3, ni3, ci3, af3, nf3, cf3, ln3, co3, rfl, hb3, z5, b3⟩
  have b23 : Below Y1.heap.size Y1 w3 := ((Below.refl _ _).alloc (Nat.le_refl _) _).trans (b3.mono (by simp))
  have hY0' : w2.heap.size + 1 < Y1.heap.size := by omega
  have hY0h := hide hY0
  clear hY0 b3
  -- every block stands
  have g1 : ∀ (b' : Nat), b' < w1.heap.size → ∀ o o', ((w3.alloc o).alloc o').heap[b']? = w1.heap[b']? := fun b' h' o o' => by
    have s1 : w1.heap.size ≤ X1.heap.size := by omega
    have s2 := b12.size
    have s3 : w2.heap.size ≤ Y1.heap.size := by omega
    have s4 := b23.size
    rw [Below.heap_alloc (w3.alloc o) o' b' (by simp; omega), Below.heap_alloc w3 o b' (by omega), b23.block b' (by omega), bY.block b' (by omega), b12.block b' (by omega), bX.block b' h']
  have g2 : ∀ (b' : Nat), b' < X1.heap.size → ∀ o o', ((w3.alloc o).alloc o').heap[b']? = X1.heap[b']? := fun b' h' o o' => by
    have s2 := b12.size
    have s3 : w2.heap.size ≤ Y1.heap.size := by omega
    have s4 := b23.size
    rw [Below.heap_alloc (w3.alloc o) o' b' (by simp; omega), Below.heap_alloc w3 o b' (by omega), b23.block b' (by omega), bY.block b' (by omega), b12.block b' (by omega)]
  have g3 : ∀ (b' : Nat), b' < Y1.heap.size → ∀ o o', ((w3.alloc o).alloc o').heap[b']? = Y1.heap[b']? := fun b' h' o o' => by
    have s4 := b23.size
    rw [Below.heap_alloc (w3.alloc o) o' b' (by simp; omega), Below.heap_alloc w3 o b' (by omega), b23.block b' (by omega)]
  have f0 : ∀ o o', ((w3.alloc o).alloc o').cell? ⟨w1.heap.size + 1, 0, none⟩ = some (.int .i64 0) := fun o o' => (dt.cell_cells ((g2 _ hX0' o o').trans hX2) 0).trans rfl
  have v0 : ∀ o o', ((w3.alloc o).alloc o').cell? ⟨w1.heap.size, 0, none⟩ = some (.int .i64 8) := fun o o' => (dt.cell_cells ((g2 _ (by omega) o o').trans hX1) 0).trans rfl
  have v3 : ∀ o o', ((w3.alloc o).alloc o').cell? ⟨w1.heap.size, 3, none⟩ = some (.slice (some ⟨p1, 0, none⟩) 2 c1) := fun o o' => (dt.cell_cells ((g2 _ (by omega) o o').trans hX1) 3).trans rfl
  have y1 : ∀ o o', ((w3.alloc o).alloc o').cell? ⟨p1, 1, none⟩ = some (.string ⟨#[49]⟩) := fun o o' => (dt.cell_blk (g1 p1 hq1 o o') 1).trans z1
  have y2 : ∀ o o', ((w3.alloc o).alloc o').cell? ⟨p1, 7, none⟩ = some (.int .i64 9) := fun o o' => (dt.cell_blk (g1 p1 hq1 o o') 7).trans z2
  have y3 : ∀ o o', ((w3.alloc o).alloc o').cell? ⟨p1, 11, none⟩ = some (.slice (some ⟨p2, 0, none⟩) 1 c2) := fun o o' => (dt.cell_blk (g1 p1 hq1 o o') 11).trans z3
  have y4 : ∀ o o', ((w3.alloc o).alloc o').cell? ⟨p2, 1, none⟩ = some (.int .i64 1) := fun o o' => (dt.cell_blk (g1 p2 hq2 o o') 1).trans z4
  have gk : ∀ o o', ((w3.alloc o).alloc o').cell? ⟨w2.heap.size + 1, 0, none⟩ = some (.int .i64 0) := fun o o' => (dt.cell_cells ((g3 _ hY0' o o').trans hY2) 0).trans rfl
  have r0 : ∀ o o', ((w3.alloc o).alloc o').cell? ⟨w2.heap.size, 0, none⟩ = some (.string ⟨#[73, 110, 116]⟩) := fun o o' => (dt.cell_cells ((g3 _ (by omega) o o').trans hY1) 0).trans rfl
  have r1 : ∀ o o', ((w3.alloc o).alloc o').cell? ⟨w2.heap.size, 1, none⟩ = some (.string ⟨#[33, 93, 93, 33]⟩) := fun o o' => (dt.cell_cells ((g3 _ (by omega) o o').trans hY1) 1).trans rfl
  have y5 : ∀ o o', ((w3.alloc o).alloc o').cell? ⟨b, 1, none⟩ = some (.int .i64 9) := fun o o' => ((((Below.refl w3.heap.size w3).alloc (Nat.le_refl _) o).alloc (by simp) o').cell (p := ⟨b, 1, none⟩) hb3).trans z5
  have hfin : Below w.heap.size w w3 := bw1.trans ((bX.trans ((b12.mono bX.size).trans ((bY.mono (Nat.le_trans bX.size b12.size)).trans (b23.mono (Nat.le_trans (Nat.le_trans bX.size b12.size) bY.size))))).mono bw1.size)
  have HF := hide hfin
  clear g1 g2 g3 z1 z2 z3 z4 z5 hX1 hX2 hY1 hY2 bX bY b12 b23 hfin bw1
  go_wp2_with fail
  go_ret
  exact ⟨rfl, ((unhide HF).alloc (unhide HF).size _).alloc (Nat.le_trans (unhide HF).size (by simp)) _⟩
end Go.Proofs.Ytfegalieiiaopab.cu
