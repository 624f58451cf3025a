import Derived.Test.YtfegalieiiaopabCw7
import Derived.Lib.SlBytesConst
namespace Go.Proofs.Ytfegalieiiaopab.cu
open Go.ChangeShapes Go.WideShapes Go.ChangeAt Go.RowKit
open ints (hide unhide)
open dt (Dt Kp RowAt Ow)
set_option linter.unusedVariables false
set_option linter.unusedSimpArgs false
def sA : List Int := [91, 49, 44, 32, 123, 97, 58, 32, 36, 98, 125, 93]
def sB : List Int := [91, 91, 73, 110, 116, 33, 93, 93, 33]
def dA : Dt := litD 8 em false (Dt.of [litD 2 ⟨#[49]⟩ false .nil .nil 1 2, litD 9 em false .nil (Dt.of [fldD ⟨#[97]⟩ (litD 1 ⟨#[98]⟩ false .nil .nil 1 9) 1 6]) 1 5]) .nil 1 1
theorem fx1 : (readL sA false 2).1 = some dA := by kernel_rfl
theorem fx2 : (readL sA false 2).2.kd = 0 := by kernel_rfl
theorem fx3 : (readL sA true 2).2.kd = 70 ∧ (readL sA true 2).2.tok.ln = 1 ∧ (readL sA true 2).2.tok.co = 9 ∧ (readL sA true 2).1.isSome = false := by
  refine ⟨?_, ?_, ?_, ?_⟩ <;> kernel_rfl
theorem fx4 : (readT sB 2).1 = some (⟨#[73, 110, 116]⟩, ⟨#[33, 93, 93, 33]⟩) := by kernel_rfl
theorem fx5 : (readT sB 2).2.kd = 0 := by kernel_rfl
theorem sA_plain : lx.Plain sA := by unfold lx.Plain; decide
theorem sB_plain : lx.Plain sB := by unfold lx.Plain; decide
/-- a row of bytes that has just been laid -/
theorem row_new (w : World) (l : List Int) (t : TypeId) (fr : Nat × Nat) : mem.Row .u8 (w.alloc (.cells (l.map (Value.int .u8)).toArray t fr)) (some ⟨w.heap.size, 0, none⟩) l.length l.length l := by
  refine ⟨rfl, Nat.le_refl _, (fun e => by cases e), ?_⟩
  refine .inr ⟨w.heap.size, 0, rfl, by simp, fun i hi => ?_⟩
  rw [dt.cell_cells (heap_alloc_new w _)]
  simp [hi]
/-- what is read of the first fixed source -/
theorem dA_cells {w : World} {cs : List Value} {F : List Nat} (hs : LShape cs) (h : Ow w dA cs F) : ∃ p1 c1 p2 c2 af nf cf ln co, cs = [.int .i64 8, .string em, .bool false, .slice (some ⟨p1, 0, none⟩) 2 c1, .slice af nf cf, .int .i64 ln, .int .i64 co] ∧ p1 ∈ F ∧ p2 ∈ F ∧
    w.cell? ⟨p1, 1, none⟩ = some (.string ⟨#[49]⟩) ∧ w.cell? ⟨p1, 7, none⟩ = some (.int .i64 9) ∧ w.cell? ⟨p1, 11, none⟩ = some (.slice (some ⟨p2, 0, none⟩) 1 c2) ∧ w.cell? ⟨p2, 1, none⟩ = some (.int .i64 1) := by
  obtain ⟨k, tx, bl, ai, ni, ci, af, nf, cf, ln, co, rfl⟩ := hs
  unfold dA litD at h
  unfold Ow at h
  obtain ⟨ds, e, -, h⟩ := h
  obtain ⟨e1, rfl⟩ := List.cons.inj e
  simp only [Value.int.injEq, true_and] at e1
  subst e1
  unfold Ow at h
  obtain ⟨ds, e, -, h⟩ := h
  obtain ⟨e1, rfl⟩ := List.cons.inj e
  simp only [Value.string.injEq, true_and] at e1
  subst e1
  unfold Ow at h
  obtain ⟨ds, e, -, h⟩ := h
  obtain ⟨e1, rfl⟩ := List.cons.inj e
  simp only [Value.bool.injEq, true_and] at e1
  subst e1
  unfold Ow at h
  obtain ⟨a, n, c, ds, F1, F2, e, hn, hc, ha, h4, h5, rfl⟩ := h
  obtain ⟨e1, rfl⟩ := List.cons.inj e
  simp only [Value.slice.injEq] at e1
  obtain ⟨rfl, rfl, rfl⟩ := e1
  clear h5 ha hc hn
  rcases h4 with ⟨-, e, -⟩ | ⟨p1, G1, rfl, rfl, h4⟩
  · cases e
  obtain ⟨l1, l2⟩ := dt.OwIn.get _ 7 p1 0 ni G1 h4
  obtain rfl : ni = 2 := l1.symm
  obtain ⟨r0, g0, s0, s0l, o0, -⟩ := l2 0 _ rfl
  obtain ⟨r1, g1, s1, s1l, o1, sub1⟩ := l2 1 _ rfl
  unfold Ow at o0
  obtain ⟨ds0, rfl, -, o0⟩ := o0
  unfold Ow at o0
  obtain ⟨ds1, rfl, -, o0⟩ := o0
  unfold Ow at o1
  obtain ⟨es0, rfl, -, o1⟩ := o1
  unfold Ow at o1
  obtain ⟨es1, rfl, -, o1⟩ := o1
  unfold Ow at o1
  obtain ⟨es2, rfl, -, o1⟩ := o1
  unfold Ow at o1
  obtain ⟨b1, m1, k1, es3, H1, H2, rfl, -, -, -, -, o1, rfl⟩ := o1
  unfold Ow at o1
  obtain ⟨b2, m2, k2, es4, H3, H4, rfl, -, -, -, o2, o3, rfl⟩ := o1
  rcases o2 with ⟨-, e, -⟩ | ⟨p2, G2, rfl, rfl, o2⟩
  · cases e
  obtain ⟨m1', m2'⟩ := dt.OwIn.get _ 10 p2 0 m2 G2 o2
  obtain rfl : m2 = 1 := m1'.symm
  obtain ⟨f0, g2, s2, s2l, o4, -⟩ := m2' 0 _ rfl
  unfold fldD at o4
  unfold Ow at o4
  obtain ⟨fs0, rfl, -, o4⟩ := o4
  unfold app at o4
  unfold Ow at o4
  obtain ⟨fs1, rfl, -, o4⟩ := o4
  refine ⟨p1, ci, p2, k2, af, nf, cf, ln, co, rfl, by simp, ?_, ?_, ?_, ?_, ?_⟩
  · have := sub1 p2 (by simp); simp [this]
  · have := s0 1 _ rfl; simpa using this
  · have := s1 0 _ rfl; simpa using this
  · have := s1 4 _ rfl; simpa using this
  · have := s2 1 _ rfl; simpa using this
end Go.Proofs.Ytfegalieiiaopab.cu
