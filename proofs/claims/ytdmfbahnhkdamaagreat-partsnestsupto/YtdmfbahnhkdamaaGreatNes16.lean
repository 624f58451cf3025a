import Derived.Test.YtdmfbahnhkdamaaGreatNes6
import Derived.Lib.SlBytesConst
import Derived.Test.YtdmfbahnhkdamaaGreatNes5
import Derived.Test.YtdmfbahnhkdamaaGreatNes7
namespace Go.Proofs.YtdmfbahnhkdamaaGreat.cu
open Go.ChangeShapes Go.WideShapes Go.ChangeAt Go.RowKit
open ints (hide unhide)
open dt (Dt Kp RowAt Ow)
set_option linter.unusedVariables false
set_option linter.unusedSimpArgs false
def sA : List Int := [91, 49, 44, 32, 123, 97, 58, 32, 36, 98, 125, 93]
def sB : List Int := [91, 91, 73, 110, 116, 33, 93, 93, 33]
def dA : Dt := litD 8 em false (Dt.of [litD 2 ⟨#[49]⟩ false .nil .nil 1 2, litD 9 em false .nil (Dt.of [fldD ⟨#[97]⟩ (litD 1 ⟨#[98]⟩ false .nil .nil 1 9) 1 6]) 1 5]) .nil 1 1
theorem fx1 : (readL sA false 2).1 = some dA := by kernel_rfl
theorem fx2 : (readL sA false 2).2.kd = 0 := by kernel_rfl
theorem fx3 : (readL sA true 2).2.kd = 70 ∧ (readL sA true 2).2.tok.ln = 1 ∧ (readL sA true 2).2.tok.co = 9 ∧ (readL sA true 2).1.isSome = false := by
  refine ⟨?_, ?_, ?_, ?_⟩ <;> kernel_rfl
theorem fx4 : (readT sB 2).1 = some (⟨#[73, 110, 116]⟩, ⟨#[33, 93, 93, 33]⟩) := by kernel_rfl
theorem fx5 : (readT sB 2).2.kd = 0 := by kernel_rfl
theorem sA_plain : lx.Plain sA := by unfold lx.Plain; decide
theorem sB_plain : lx.Plain sB := by unfold lx.Plain; decide
/-- a row of bytes that has just been laid -/
theorem row_new (w : World) (l : List Int) (t : TypeId) (fr : Nat × Nat) : mem.Row .u8 (w.alloc (.cells (l.map (Value.int .u8)).toArray t fr)) (some ⟨w.heap.size, 0, none⟩) l.length l.length l := by
  refine ⟨rfl, Nat.le_refl _, (fun e => by cases e), ?_⟩
  refine .inr ⟨w.heap.size, 0, rfl, by simp, fun i hi => ?_⟩
  rw [dt.cell_cells (heap_alloc_new w _)]
  simp [hi]
/-- what is read of the first fixed source -/
theorem dA_cells {w : World} {cs : List Value} {F : List Nat} (hs : LShape cs) (h : Ow w dA cs F) : ∃ p1 c1 p2 c2 af nf cf ln co, cs = [.int .i64 8, .string em, .bool false, .slice (some ⟨p1, 0, none⟩) 2 c1, .slice af nf cf, .int .i64 ln, .int .i64 co] ∧ p1 ∈ F ∧ p2 ∈ F ∧
    w.cell? ⟨p1, 1, none⟩ = some (.string ⟨#[49]⟩) ∧ w.cell? ⟨p1, 7, none⟩ = some (.int .i64 9) ∧ w.cell? ⟨p1, 11, none⟩ = some (.slice (some ⟨p2, 0, none⟩) 1 c2) ∧ w.cell? ⟨p2, 1, none⟩ = some (.int .i64 1) := by
  obtain ⟨k, tx, bl, ai, ni, ci, af, nf, cf, ln, co, rfl⟩ := hs
  unfold dA litD at h
  unfold Ow at h
  obtain ⟨ds, e, -, h⟩ := h
  obtain ⟨e1, rfl⟩ := List.cons.inj e
  simp only [Value.int.injEq, true_and] at e1
  subst e1
  unfold Ow at h
  obtain ⟨ds, e, -, h⟩ := h
  obtain ⟨e1, rfl⟩ := List.cons.inj e
  simp only [Value.string.injEq, true_and] at e1
  subst e1
  unfold Ow at h
  obtain ⟨ds, e, -, h⟩ := h
  obtain ⟨e1, rfl⟩ := List.cons.inj e
  simp only [Value.bool.injEq, true_and] at e1
  subst e1
  unfold Ow at h
  obtain ⟨a, n, c, ds, F1, F2, e, hn, hc, ha, h4, h5, rfl⟩ := h
  obtain ⟨e1, rfl⟩ := List.cons.inj e
  simp only [Value.slice.injEq] at e1
  obtain ⟨rfl, rfl, rfl⟩ := e1
  clear h5 ha hc hn
  rcases h4 with ⟨-, e, -⟩ | ⟨p1, G1, rfl, rfl, h4⟩
  · cases e
  obtain ⟨l1, l2⟩ := dt.OwIn.get _ 7 p1 0 ni G1 h4
  obtain rfl : ni = 2 := l1.symm
  obtain ⟨r0, g0, s0, s0l, o0, -⟩ := l2 0 _ rfl
  obtain ⟨r1, g1, s1, s1l, o1, sub1⟩ := l2 1 _ rfl
  unfold Ow at o0
  obtain ⟨ds0, rfl, -, o0⟩ := o0
  unfold Ow at o0
  obtain ⟨ds1, rfl, -, o0⟩ := o0
  unfold Ow at o1
  obtain ⟨es0, rfl, -, o1⟩ := o1
  unfold Ow at o1
  obtain ⟨es1, rfl, -, o1⟩ := o1
  unfold Ow at o1
  obtain ⟨es2, rfl, -, o1⟩ := o1
  unfold Ow at o1
  obtain ⟨b1, m1, k1, es3, H1, H2, rfl, -, -, -, -, o1, rfl⟩ := o1
  unfold Ow at o1
  obtain ⟨b2, m2, k2, es4, H3, H4, rfl, -, -, -, o2, o3, rfl⟩ := o1
  rcases o2 with ⟨-, e, -⟩ | ⟨p2, G2, rfl, rfl, o2⟩
  · cases e
  obtain ⟨m1', m2'⟩ := dt.OwIn.get _ 10 p2 0 m2 G2 o2
  obtain rfl : m2 = 1 := m1'.symm
  obtain ⟨f0, g2, s2, s2l, o4, -⟩ := m2' 0 _ rfl
  unfold fldD at o4
  unfold Ow at o4
  obtain ⟨fs0, rfl, -, o4⟩ := o4
  unfold app at o4
  unfold Ow at o4
  obtain ⟨fs1, rfl, -, o4⟩ := o4
  refine ⟨p1, ci, p2, k2, af, nf, cf, ln, co, rfl, by simp, ?_, ?_, ?_, ?_, ?_⟩
  · have := sub1 p2 (by simp); simp [this]
  · have := s0 1 _ rfl; simpa using this
  · have := s1 0 _ rfl; simpa using this
  · have := s1 4 _ rfl; simpa using this
  · have := s2 1 _ rfl; simpa using this
end Go.Proofs.YtdmfbahnhkdamaaGreat.cu
namespace Go.Proofs.YtdmfbahnhkdamaaGreat.cu
open Go.ChangeShapes Go.WideShapes Go.ChangeAt Go.RowKit
open ints (hide unhide)
open dt (Dt Kp RowAt Ow)
set_option linter.unusedVariables false
set_option linter.unusedSimpArgs false
theorem litA_ok (ct : Bool) (W : World) (N : Nat) (hN : N = W.heap.size) : Calls Tryz.prog 5 #[.slice (some ⟨N, 0, none⟩) 12 12, .bool ct, .int .i64 2] (W.alloc (.cells #[Value.int .u8 91, Value.int .u8 49, Value.int .u8 44, Value.int .u8 32, Value.int .u8 123, Value.int .u8 97, Value.int .u8 58, Value.int .u8 32, Value.int .u8 36, Value.int .u8 98, Value.int .u8 125, Value.int .u8 93] 5 (12, 13))) fun e w' => ∃ cs F fs, e = .returned (.tuple #[.agg cs.toArray, .agg fs.toArray]) ∧ LitPost ((readL sA ct 2).1.getD zeroD) (W.alloc (.cells #[Value.int .u8 91, Value.int .u8 49, Value.int .u8 44, Value.int .u8 32, Value.int .u8 123, Value.int .u8 97, Value.int .u8 58, Value.int .u8 32, Value.int .u8 36, Value.int .u8 98, Value.int .u8 125, Value.int .u8 93] 5 (12, 13))) w' cs F ∧ FltAt (W.alloc (.cells #[Value.int .u8 91, Value.int .u8 49, Value.int .u8 44, Value.int .u8 32, Value.int .u8 123, Value.int .u8 97, Value.int .u8 58, Value.int .u8 32, Value.int .u8 36, Value.int .u8 98, Value.int .u8 125, Value.int .u8 93] 5 (12, 13))).heap.size w' (readL sA ct 2).2 fs ∧ Below (W.alloc (.cells #[Value.int .u8 91, Value.int .u8 49, Value.int .u8 44, Value.int .u8 32, Value.int .u8 123, Value.int .u8 97, Value.int .u8 58, Value.int .u8 32, Value.int .u8 36, Value.int .u8 98, Value.int .u8 125, Value.int .u8 93] 5 (12, 13))).heap.size (W.alloc (.cells #[Value.int .u8 91, Value.int .u8 49, Value.int .u8 44, Value.int .u8 32, Value.int .u8 123, Value.int .u8 97, Value.int .u8 58, Value.int .u8 32, Value.int .u8 36, Value.int .u8 98, Value.int .u8 125, Value.int .u8 93] 5 (12, 13))) w' := by
  subst hN
  exact readLit_ok (some ⟨W.heap.size, 0, none⟩) 12 12 sA ct 2 (W.alloc (.cells #[Value.int .u8 91, Value.int .u8 49, Value.int .u8 44, Value.int .u8 32, Value.int .u8 123, Value.int .u8 97, Value.int .u8 58, Value.int .u8 32, Value.int .u8 36, Value.int .u8 98, Value.int .u8 125, Value.int .u8 93] 5 (12, 13))) (row_new W sA 5 (12, 13)) (by decide) sA_plain (by rfl)
theorem typB_ok (W : World) (N : Nat) (hN : N = W.heap.size) : Calls Tryz.prog 10 #[.slice (some ⟨N, 0, none⟩) 9 9, .int .i64 2] (W.alloc (.cells #[Value.int .u8 91, Value.int .u8 91, Value.int .u8 73, Value.int .u8 110, Value.int .u8 116, Value.int .u8 33, Value.int .u8 93, Value.int .u8 93, Value.int .u8 33] 5 (9, 10))) fun e w' => e = .returned (.tuple #[.agg #[Value.string ⟨#[73, 110, 116]⟩, .string ⟨#[33, 93, 93, 33]⟩], .agg #[Value.int .i64 0, .slice none 0 0, .slice none 0 0]]) ∧ Below (W.alloc (.cells #[Value.int .u8 91, Value.int .u8 91, Value.int .u8 73, Value.int .u8 110, Value.int .u8 116, Value.int .u8 33, Value.int .u8 93, Value.int .u8 93, Value.int .u8 33] 5 (9, 10))).heap.size (W.alloc (.cells #[Value.int .u8 91, Value.int .u8 91, Value.int .u8 73, Value.int .u8 110, Value.int .u8 116, Value.int .u8 33, Value.int .u8 93, Value.int .u8 93, Value.int .u8 33] 5 (9, 10))) w' := by
  subst hN
  have h := readType_ok (some ⟨W.heap.size, 0, none⟩) 9 9 sB 2 (W.alloc (.cells #[Value.int .u8 91, Value.int .u8 91, Value.int .u8 73, Value.int .u8 110, Value.int .u8 116, Value.int .u8 33, Value.int .u8 93, Value.int .u8 93, Value.int .u8 33] 5 (9, 10))) (row_new W sB 5 (9, 10)) (by decide) sB_plain (by rfl)
  refine h.mono ?_
  rintro e w2 ⟨fs, rfl, hfl, b2⟩
  rw [fx4]
  unfold FltAt at hfl
  rw [if_pos fx5] at hfl
  subst hfl
  exact ⟨rfl, b2⟩
/-- the first fixed answers, in plain words -/
theorem litA1 (W : World) (N : Nat) (hN : N = W.heap.size) : Calls Tryz.prog 5 #[.slice (some ⟨N, 0, none⟩) 12 12, .bool false, .int .i64 2] (W.alloc (.cells #[Value.int .u8 91, Value.int .u8 49, Value.int .u8 44, Value.int .u8 32, Value.int .u8 123, Value.int .u8 97, Value.int .u8 58, Value.int .u8 32, Value.int .u8 36, Value.int .u8 98, Value.int .u8 125, Value.int .u8 93] 5 (12, 13))) fun e w' => ∃ p1 c1 p2 c2 af nf cf ln co, e = .returned (.tuple #[.agg #[Value.int .i64 8, .string em, .bool false, .slice (some ⟨p1, 0, none⟩) 2 c1, .slice af nf cf, .int .i64 ln, .int .i64 co], .agg #[Value.int .i64 0, .slice none 0 0, .slice none 0 0]]) ∧ p1 < w'.heap.size ∧ p2 < w'.heap.size ∧
    w'.cell? ⟨p1, 1, none⟩ = some (.string ⟨#[49]⟩) ∧ w'.cell? ⟨p1, 7, none⟩ = some (.int .i64 9) ∧ w'.cell? ⟨p1, 11, none⟩ = some (.slice (some ⟨p2, 0, none⟩) 1 c2) ∧ w'.cell? ⟨p2, 1, none⟩ = some (.int .i64 1) ∧ Below (W.alloc (.cells #[Value.int .u8 91, Value.int .u8 49, Value.int .u8 44, Value.int .u8 32, Value.int .u8 123, Value.int .u8 97, Value.int .u8 58, Value.int .u8 32, Value.int .u8 36, Value.int .u8 98, Value.int .u8 125, Value.int .u8 93] 5 (12, 13))).heap.size (W.alloc (.cells #[Value.int .u8 91, Value.int .u8 49, Value.int .u8 44, Value.int .u8 32, Value.int .u8 123, Value.int .u8 97, Value.int .u8 58, Value.int .u8 32, Value.int .u8 36, Value.int .u8 98, Value.int .u8 125, Value.int .u8 93] 5 (12, 13))) w' := by
  refine (litA_ok false W N hN).mono ?_
  rintro e w1 ⟨cs, F, fs, rfl, hpo, hfl, b1⟩
  rw [fx1] at hpo
  obtain ⟨p1, c1, p2, c2, af, nf, cf, ln, co, rfl, hp1, hp2, z1, z2, z3, z4⟩ := dA_cells hpo.shape hpo.own
  unfold FltAt at hfl
  rw [if_pos fx2] at hfl
  subst hfl
  exact ⟨p1, c1, p2, c2, af, nf, cf, ln, co, rfl, (hpo.rng p1 hp1).2, (hpo.rng p2 hp2).2, z1, z2, z3, z4, b1⟩
theorem litA2 (W : World) (N : Nat) (hN : N = W.heap.size) : Calls Tryz.prog 5 #[.slice (some ⟨N, 0, none⟩) 12 12, .bool true, .int .i64 2] (W.alloc (.cells #[Value.int .u8 91, Value.int .u8 49, Value.int .u8 44, Value.int .u8 32, Value.int .u8 123, Value.int .u8 97, Value.int .u8 58, Value.int .u8 32, Value.int .u8 36, Value.int .u8 98, Value.int .u8 125, Value.int .u8 93] 5 (12, 13))) fun e w' => ∃ b k tx bl ai ni ci af nf cf ln co, e = .returned (.tuple #[.agg #[.int .i64 k, .string tx, .bool bl, .slice ai ni ci, .slice af nf cf, .int .i64 ln, .int .i64 co], .agg #[.int .i64 70, .slice (some ⟨b, 0, none⟩) 1 1, .slice none 0 0]]) ∧ b < w'.heap.size ∧ w'.cell? ⟨b, 1, none⟩ = some (.int .i64 9) ∧ Below (W.alloc (.cells #[Value.int .u8 91, Value.int .u8 49, Value.int .u8 44, Value.int .u8 32, Value.int .u8 123, Value.int .u8 97, Value.int .u8 58, Value.int .u8 32, Value.int .u8 36, Value.int .u8 98, Value.int .u8 125, Value.int .u8 93] 5 (12, 13))).heap.size (W.alloc (.cells #[Value.int .u8 91, Value.int .u8 49, Value.int .u8 44, Value.int .u8 32, Value.int .u8 123, Value.int .u8 97, Value.int .u8 58, Value.int .u8 32, Value.int .u8 36, Value.int .u8 98, Value.int .u8 125, Value.int .u8 93] 5 (12, 13))) w' := by
  refine (litA_ok true W N hN).mono ?_
  rintro e w1 ⟨cs, F, fs, rfl, hpo, hfl, b1⟩
  obtain ⟨k, tx, bl, ai, ni, ci, af, nf, cf, ln, co, rfl⟩ := hpo.shape
  unfold FltAt at hfl
  rw [if_neg (by rw [fx3.1]; decide), fx3.1, fx3.2.1, fx3.2.2.1] at hfl
  obtain ⟨b, h1, h2, rfl, h4, h5⟩ := hfl
  exact ⟨b, k, tx, bl, ai, ni, ci, af, nf, cf, ln, co, rfl, h2, h5, b1⟩
set_option maxRecDepth 10000 in
set_option maxHeartbeats 4000000 in
theorem fixed_ok (w : World) : Calls Tryz.prog 4 #[] w fun e w' => e = .returned (.bool true) ∧ Below w.heap.size w w' := by
  have kc := fun (w : World) (C : Array Value) (n c : Nat) => Lib.run_convert_bytes_const (P := Tryz.prog) w 22 5 C n c Tryz.underlying22 Tryz.underlying5
  go_enter Tryz.func4, Tryz.ntmps4
  go_wp2_with fail
  refine (litA1 w w.heap.size rfl).mono ?_
  rintro e w1 ⟨p1, c1, p2, c2, af, nf, cf, ln, co, rfl, hq1, hq2, z1, z2, z3, z4, b1⟩
  have bw1 : Below w.heap.size w w1 := ((Below.refl _ _).alloc (Nat.le_refl _) _).trans (b1.mono (by simp))
  clear b1
  have kc1 := fun (o o' : Obj) (C : Array Value) (n c : Nat) => by simpa using kc ((w1.alloc o).alloc o') C n c
  go_wp2_with fail
  have hX1 : ((w1.alloc (.cells #[Value.int .i64 8, .string em, .bool false, .slice (some ⟨p1, 0, none⟩) 2 c1, .slice af nf cf, .int .i64 ln, .int .i64 co] 32)).alloc (.cells #[Value.int .i64 0, .slice none 0 0, .slice none 0 0] 37)).heap[w1.heap.size]? = some (.cells #[Value.int .i64 8, .string em, .bool false, .slice (some ⟨p1, 0, none⟩) 2 c1, .slice af nf cf, .int .i64 ln, .int .i64 co] 32 (0, 0)) := (Below.heap_alloc _ _ w1.heap.size (by simp)).trans (heap_alloc_new w1 _)
  have hX2 : ((w1.alloc (.cells #[Value.int .i64 8, .string em, .bool false, .slice (some ⟨p1, 0, none⟩) 2 c1, .slice af nf cf, .int .i64 ln, .int .i64 co] 32)).alloc (.cells #[Value.int .i64 0, .slice none 0 0, .slice none 0 0] 37)).heap[w1.heap.size + 1]? = some (.cells #[Value.int .i64 0, .slice none 0 0, .slice none 0 0] 37 (0, 0)) := by
    have := heap_alloc_new (w1.alloc (.cells #[Value.int .i64 8, .string em, .bool false, .slice (some ⟨p1, 0, none⟩) 2 c1, .slice af nf cf, .int .i64 ln, .int .i64 co] 32)) (.cells #[Value.int .i64 0, .slice none 0 0, .slice none 0 0] 37)
    simpa using this
  have hX0 : w1.heap.size + 1 + 1 = ((w1.alloc (.cells #[Value.int .i64 8, .string em, .bool false, .slice (some ⟨p1, 0, none⟩) 2 c1, .slice af nf cf, .int .i64 ln, .int .i64 co] 32)).alloc (.cells #[Value.int .i64 0, .slice none 0 0, .slice none 0 0] 37)).heap.size := by simp
  have bX : Below w1.heap.size w1 ((w1.alloc (.cells #[Value.int .i64 8, .string em, .bool false, .slice (some ⟨p1, 0, none⟩) 2 c1, .slice af nf cf, .int .i64 ln, .int .i64 co] 32)).alloc (.cells #[Value.int .i64 0, .slice none 0 0, .slice none 0 0] 37)) := ((Below.refl _ _).alloc (Nat.le_refl _) _).alloc (by simp) _
  obtain ⟨X1, e1⟩ : ∃ X1, X1 = (w1.alloc (.cells #[Value.int .i64 8, .string em, .bool false, .slice (some ⟨p1, 0, none⟩) 2 c1, .slice af nf cf, .int .i64 ln, .int .i64 co] 32)).alloc (.cells #[Value.int .i64 0, .slice none 0 0, .slice none 0 0] 37) := ⟨_, rfl⟩
  rw [← e1] at hX1 hX2 hX0 bX ⊢
  clear e1 kc1
  refine (typB_ok X1 _ hX0).mono ?_
  rintro e w2 ⟨rfl, b2⟩
  have b12 : Below X1.heap.size X1 w2 := ((Below.refl _ _).alloc (Nat.le_refl _) _).trans (b2.mono (by simp))
  have kc2 := fun (o o' : Obj) (C : Array Value) (n c : Nat) => by simpa using kc ((w2.alloc o).alloc o') C n c
  have hX0' : w1.heap.size + 1 < X1.heap.size := by omega
  have hX0h := hide hX0
  clear hX0 b2
  go_wp2_with fail
  have hY1 : ((w2.alloc (.cells #[Value.string ⟨#[73, 110, 116]⟩, .string ⟨#[33, 93, 93, 33]⟩] 54)).alloc (.cells #[Value.int .i64 0, .slice none 0 0, .slice none 0 0] 37)).heap[w2.heap.size]? = some (.cells #[Value.string ⟨#[73, 110, 116]⟩, .string ⟨#[33, 93, 93, 33]⟩] 54 (0, 0)) := (Below.heap_alloc _ _ w2.heap.size (by simp)).trans (heap_alloc_new w2 _)
  have hY2 : ((w2.alloc (.cells #[Value.string ⟨#[73, 110, 116]⟩, .string ⟨#[33, 93, 93, 33]⟩] 54)).alloc (.cells #[Value.int .i64 0, .slice none 0 0, .slice none 0 0] 37)).heap[w2.heap.size + 1]? = some (.cells #[Value.int .i64 0, .slice none 0 0, .slice none 0 0] 37 (0, 0)) := by
    have := heap_alloc_new (w2.alloc (.cells #[Value.string ⟨#[73, 110, 116]⟩, .string ⟨#[33, 93, 93, 33]⟩] 54)) (.cells #[Value.int .i64 0, .slice none 0 0, .slice none 0 0] 37)
    simpa using this
  have hY0 : w2.heap.size + 1 + 1 = ((w2.alloc (.cells #[Value.string ⟨#[73, 110, 116]⟩, .string ⟨#[33, 93, 93, 33]⟩] 54)).alloc (.cells #[Value.int .i64 0, .slice none 0 0, .slice none 0 0] 37)).heap.size := by simp
  have bY : Below w2.heap.size w2 ((w2.alloc (.cells #[Value.string ⟨#[73, 110, 116]⟩, .string ⟨#[33, 93, 93, 33]⟩] 54)).alloc (.cells #[Value.int .i64 0, .slice none 0 0, .slice none 0 0] 37)) := ((Below.refl _ _).alloc (Nat.le_refl _) _).alloc (by simp) _
  obtain ⟨Y1, e1⟩ : ∃ Y1, Y1 = (w2.alloc (.cells #[Value.string ⟨#[73, 110, 116]⟩, .string ⟨#[33, 93, 93, 33]⟩] 54)).alloc (.cells #[Value.int .i64 0, .slice none 0 0, .slice none 0 0] 37) := ⟨_, rfl⟩
  rw [← e1] at hY1 hY2 hY0 bY ⊢
  clear e1 kc2 kc
  refine (litA2 Y1 _ hY0).mono ?_
  rintro e w3 ⟨b, k3, tx3, bl3, ai3, ni3, ci3, af3, nf3, cf3, ln3, co3, rfl, hb3, z5, b3⟩
  have b23 : Below Y1.heap.size Y1 w3 := ((Below.refl _ _).alloc (Nat.le_refl _) _).trans (b3.mono (by simp))
  have hY0' : w2.heap.size + 1 < Y1.heap.size := by omega
  have hY0h := hide hY0
  clear hY0 b3
  -- every block stands
  have g1 : ∀ (b' : Nat), b' < w1.heap.size → ∀ o o', ((w3.alloc o).alloc o').heap[b']? = w1.heap[b']? := fun b' h' o o' => by
    have s1 : w1.heap.size ≤ X1.heap.size := by omega
    have s2 := b12.size
    have s3 : w2.heap.size ≤ Y1.heap.size := by omega
    have s4 := b23.size
    rw [Below.heap_alloc (w3.alloc o) o' b' (by simp; omega), Below.heap_alloc w3 o b' (by omega), b23.block b' (by omega), bY.block b' (by omega), b12.block b' (by omega), bX.block b' h']
  have g2 : ∀ (b' : Nat), b' < X1.heap.size → ∀ o o', ((w3.alloc o).alloc o').heap[b']? = X1.heap[b']? := fun b' h' o o' => by
    have s2 := b12.size
    have s3 : w2.heap.size ≤ Y1.heap.size := by omega
    have s4 := b23.size
    rw [Below.heap_alloc (w3.alloc o) o' b' (by simp; omega), Below.heap_alloc w3 o b' (by omega), b23.block b' (by omega), bY.block b' (by omega), b12.block b' (by omega)]
  have g3 : ∀ (b' : Nat), b' < Y1.heap.size → ∀ o o', ((w3.alloc o).alloc o').heap[b']? = Y1.heap[b']? := fun b' h' o o' => by
    have s4 := b23.size
    rw [Below.heap_alloc (w3.alloc o) o' b' (by simp; omega), Below.heap_alloc w3 o b' (by omega), b23.block b' (by omega)]
  have f0 : ∀ o o', ((w3.alloc o).alloc o').cell? ⟨w1.heap.size + 1, 0, none⟩ = some (.int .i64 0) := fun o o' => (dt.cell_cells ((g2 _ hX0' o o').trans hX2) 0).trans rfl
  have v0 : ∀ o o', ((w3.alloc o).alloc o').cell? ⟨w1.heap.size, 0, none⟩ = some (.int .i64 8) := fun o o' => (dt.cell_cells ((g2 _ (by omega) o o').trans hX1) 0).trans rfl
  have v3 : ∀ o o', ((w3.alloc o).alloc o').cell? ⟨w1.heap.size, 3, none⟩ = some (.slice (some ⟨p1, 0, none⟩) 2 c1) := fun o o' => (dt.cell_cells ((g2 _ (by omega) o o').trans hX1) 3).trans rfl
  have y1 : ∀ o o', ((w3.alloc o).alloc o').cell? ⟨p1, 1, none⟩ = some (.string ⟨#[49]⟩) := fun o o' => (dt.cell_blk (g1 p1 hq1 o o') 1).trans z1
  have y2 : ∀ o o', ((w3.alloc o).alloc o').cell? ⟨p1, 7, none⟩ = some (.int .i64 9) := fun o o' => (dt.cell_blk (g1 p1 hq1 o o') 7).trans z2
  have y3 : ∀ o o', ((w3.alloc o).alloc o').cell? ⟨p1, 11, none⟩ = some (.slice (some ⟨p2, 0, none⟩) 1 c2) := fun o o' => (dt.cell_blk (g1 p1 hq1 o o') 11).trans z3
  have y4 : ∀ o o', ((w3.alloc o).alloc o').cell? ⟨p2, 1, none⟩ = some (.int .i64 1) := fun o o' => (dt.cell_blk (g1 p2 hq2 o o') 1).trans z4
  have gk : ∀ o o', ((w3.alloc o).alloc o').cell? ⟨w2.heap.size + 1, 0, none⟩ = some (.int .i64 0) := fun o o' => (dt.cell_cells ((g3 _ hY0' o o').trans hY2) 0).trans rfl
  have r0 : ∀ o o', ((w3.alloc o).alloc o').cell? ⟨w2.heap.size, 0, none⟩ = some (.string ⟨#[73, 110, 116]⟩) := fun o o' => (dt.cell_cells ((g3 _ (by omega) o o').trans hY1) 0).trans rfl
  have r1 : ∀ o o', ((w3.alloc o).alloc o').cell? ⟨w2.heap.size, 1, none⟩ = some (.string ⟨#[33, 93, 93, 33]⟩) := fun o o' => (dt.cell_cells ((g3 _ (by omega) o o').trans hY1) 1).trans rfl
  have y5 : ∀ o o', ((w3.alloc o).alloc o').cell? ⟨b, 1, none⟩ = some (.int .i64 9) := fun o o' => ((((Below.refl w3.heap.size w3).alloc (Nat.le_refl _) o).alloc (by simp) o').cell (p := ⟨b, 1, none⟩) hb3).trans z5
  have hfin : Below w.heap.size w w3 := bw1.trans ((bX.trans ((b12.mono bX.size).trans ((bY.mono (Nat.le_trans bX.size b12.size)).trans (b23.mono (Nat.le_trans (Nat.le_trans bX.size b12.size) bY.size))))).mono bw1.size)
  have HF := hide hfin
  clear g1 g2 g3 z1 z2 z3 z4 z5 hX1 hX2 hY1 hY2 bX bY b12 b23 hfin bw1
  go_wp2_with fail
  go_ret
  exact ⟨rfl, ((unhide HF).alloc (unhide HF).size _).alloc (Nat.le_trans (unhide HF).size (by simp)) _⟩
end Go.Proofs.YtdmfbahnhkdamaaGreat.cu
namespace Go.Proofs.YtdmfbahnhkdamaaGreat.cu
open Go.ChangeShapes Go.WideShapes Go.ChangeAt Go.RowKit
set_option linter.unusedVariables false
theorem two_alloc (w : World) (o o' : Obj) : Below w.heap.size w ((w.alloc o).alloc o') := ((Below.refl _ _).alloc (Nat.le_refl _) o).alloc (by simp) o'
theorem two_at (w : World) (cs ds : Array Value) (t u : TypeId) : ((w.alloc (.cells cs t)).alloc (.cells ds u)).heap[w.heap.size]? = some (.cells cs t (0, 0)) ∧ ((w.alloc (.cells cs t)).alloc (.cells ds u)).heap[w.heap.size + 1]? = some (.cells ds u (0, 0)) := by
  refine ⟨(Below.heap_alloc _ _ w.heap.size (by simp)).trans (heap_alloc_new w _), ?_⟩
  have := heap_alloc_new (w.alloc (.cells cs t)) (.cells ds u)
  simpa using this
end Go.Proofs.YtdmfbahnhkdamaaGreat.cu
namespace Go.Proofs.YtdmfbahnhkdamaaGreat.cu
open Go.ChangeShapes Go.WideShapes Go.ChangeAt Go.RowKit
open ints (hide unhide)
open dt (Dt Kp RowAt Ow Grow OwIn)
set_option linter.unusedVariables false
set_option linter.unusedSimpArgs false
/-- a list that is done, its blocks between lo and hi -/
structure Sh (w : World) (k : Nat) (l : List Dt) (lo hi : Nat) (a : Option Addr) (n c : Nat) (F : List Nat) : Prop where
  nc : n ≤ c
  cm : c ≤ maxLen
  no : a = none → c = 0
  nd : F.Nodup
  rng : ∀ b ∈ F, lo ≤ b ∧ b < hi
  hi : hi ≤ w.heap.size
  len : n = l.length
  at_ : (a = none ∧ Dt.of l = .nil ∧ n = 0 ∧ F = []) ∨ ∃ p G', a = some ⟨p, 0, none⟩ ∧ F = p :: G' ∧ OwIn w (Dt.of l) k p 0 n G'
theorem Sh.of {t : TypeId} {k : Nat} {w : World} {lo : Nat} {l : List Dt} {sl : Value} {G : List Nat} (h : Grow t k w lo l sl G) : ∃ a n c F, sl = .slice a n c ∧ Sh w k l lo w.heap.size a n c F := by
  obtain ⟨a, n, c, F, rfl, h1, h2, h3, h4, h5, h6, h7⟩ := h.shut
  exact ⟨a, n, c, F, rfl, h1, h2, h3, h4, h5, Nat.le_refl _, h6, h7⟩
theorem Sh.nil {w : World} {k lo hi : Nat} (h : hi ≤ w.heap.size) : Sh w k [] lo hi none 0 0 [] := ⟨Nat.le_refl _, Nat.zero_le _, fun _ => rfl, List.nodup_nil, by simp, h, rfl, .inl ⟨rfl, rfl, rfl, rfl⟩⟩
theorem Sh.agree {w w' : World} {k : Nat} {l : List Dt} {lo hi : Nat} {a : Option Addr} {n c : Nat} {F : List Nat} (h : Sh w k l lo hi a n c F) (hs : w.heap.size ≤ w'.heap.size) (ha : dt.Agree F w w') : Sh w' k l lo hi a n c F := by
  refine ⟨h.nc, h.cm, h.no, h.nd, h.rng, Nat.le_trans h.hi hs, h.len, ?_⟩
  rcases h.at_ with x | ⟨p, G, e, rfl, x⟩
  · exact .inl x
  · exact .inr ⟨p, G, e, rfl, OwIn.agree _ k p 0 n G ha x⟩
def selC (k : Int) (al nm on : ByteArray) (a1 : Option Addr) (n1 c1 : Nat) (a2 : Option Addr) (n2 c2 : Nat) (a3 : Option Addr) (n3 c3 : Nat) (ln co : Int) : List Value := [.int .i64 k, .string al, .string nm, .string on, .slice a1 n1 c1, .slice a2 n2 c2, .slice a3 n3 c3, .int .i64 ln, .int .i64 co]
structure SelPost (r : Option Dt) (w w' : World) (cs : List Value) (F : List Nat) : Prop where
  shape : ∃ k al nm on a1 n1 c1 a2 n2 c2 a3 n3 c3 ln co, cs = selC k al nm on a1 n1 c1 a2 n2 c2 a3 n3 c3 ln co
  own : ∀ d, r = some d → Ow w' d cs F ∧ F.Nodup ∧ ∀ b ∈ F, w.heap.size ≤ b ∧ b < w'.heap.size
/-- a list that is done, if it is there -/
def ShO (w : World) (k : Nat) (r : Option (List Dt)) (lo hi : Nat) (a : Option Addr) (n c : Nat) : Prop := ∀ l, r = some l → ∃ F, Sh w k l lo hi a n c F
theorem brkD_full {r : Option (List Dt)} {lo : Nat} {w : World} {sl : Value} (h : BrkPD r lo w sl) : ∃ a n c F, sl = .slice a n c ∧ Sh w 4 (r.getD []) lo w.heap.size a n c F := by
  unfold BrkPD at h
  cases r with
  | none => subst h; exact ⟨none, 0, 0, [], rfl, Sh.nil (Nat.le_refl _)⟩
  | some l =>
    obtain ⟨G, hg⟩ := h
    obtain ⟨a, n, c, F, rfl, hs⟩ := Sh.of hg
    exact ⟨a, n, c, F, rfl, hs⟩
theorem Sh.below {w w' : World} {k : Nat} {l : List Dt} {lo hi : Nat} {a : Option Addr} {n c : Nat} {F : List Nat} (h : Sh w k l lo hi a n c F) (hb : Below w.heap.size w w') : Sh w' k l lo hi a n c F := h.agree hb.size (fun b hx j => dt.cell_blk (hb.block b (Nat.lt_of_lt_of_le (h.rng b hx).2 h.hi)) j)
theorem Sh.kp {w w' : World} {k : Nat} {l : List Dt} {lo hi B : Nat} {a : Option Addr} {n c : Nat} {F : List Nat} (h : Sh w k l lo hi a n c F) (hk : Kp B w w') (hB : B < lo) : Sh w' k l lo hi a n c F :=
  h.agree hk.size (fun b hb j => dt.cell_blk (hk.block b (Nat.lt_of_lt_of_le (h.rng b hb).2 h.hi) (by have := (h.rng b hb).1; omega)) j)
theorem ShO.kp {w w' : World} {k : Nat} {r : Option (List Dt)} {lo hi B : Nat} {a : Option Addr} {n c : Nat} (h : ShO w k r lo hi a n c) (hk : Kp B w w') (hB : B < lo) : ShO w' k r lo hi a n c := fun l e => let ⟨F, x⟩ := h l e; ⟨F, x.kp hk hB⟩
theorem ShO.below {w w' : World} {k : Nat} {r : Option (List Dt)} {lo hi : Nat} {a : Option Addr} {n c : Nat} (h : ShO w k r lo hi a n c) (hb : Below w.heap.size w w') : ShO w' k r lo hi a n c := fun l e => let ⟨F, x⟩ := h l e; ⟨F, x.below hb⟩
theorem args_all (ct : Bool) (N : Nat) (c : Cu) (hc : c.Ok) (hlen : c.ts.length ≤ 1099511627777) (hN : c.ts.length ≤ N) : ArgsAt (argsS (litF ct N)) ct c :=
  args_ok (litF ct N) ct c hc hlen (litF_goes ct N) (fun cc h1 h2 h3 => arg_ok (litF ct N) ct cc h1 (litF_ok ct N _ (want_stp (name_stp h1).ok bCol).ok (by rw [((name_stp h1).trans (want_stp (name_stp h1).ok bCol)).ts, h2]; exact hlen) (by rw [((name_stp h1).trans (want_stp (name_stp h1).ok bCol)).ts, h2]; omega)) (name_dead ct N cc))
theorem dirs_all (ct : Bool) (N : Nat) (c : Cu) (hc : c.Ok) (hlen : c.ts.length ≤ 1099511627777) (hN : c.ts.length ≤ N) : DirsAt (dirs (litF ct N)) ct c :=
  dirs_ok (litF ct N) ct c hc hlen (litF_goes ct N) (fun cc h1 h2 h3 h4 => dir_ok (litF ct N) ct cc h1 (isP_more h1 h4) (args_all ct N _ (name_stp (takeP h1 h4).ok).ok (by rw [((takeP h1 h4).trans (name_stp (takeP h1 h4).ok)).ts, h2]; exact hlen) (by rw [((takeP h1 h4).trans (name_stp (takeP h1 h4).ok)).ts, h2]; exact hN)))
end Go.Proofs.YtdmfbahnhkdamaaGreat.cu
