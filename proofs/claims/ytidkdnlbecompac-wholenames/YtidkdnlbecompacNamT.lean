import Derived.Test.YtidkdnlbecompacNamE1
import Derived.Test.YtidkdnlbecompacNamE2
namespace Go.Proofs.Ytidkdnlbecompac.mem
open Go.ChangeShapes Go.WideShapes Go.ChangeAt Go.RowKit
open ints (hide unhide)
set_option linter.unusedVariables false

/-- A table of rows in memory: what a reader finds, and that each row's word is Word's. -/
def Tab (w : World) (b n : Nat) : Prop :=
  b < w.heap.size ∧ ∀ j, j < n → ∃ (x : Int), w.cell? ⟨b, j * 3, none⟩ = some (.int .i64 x) ∧ w.cell? ⟨b, j * 3 + 1, none⟩ = some (.int .i64 x) ∧ w.cell? ⟨b, j * 3 + 2, none⟩ = some (.string (wordF x))
theorem Tab.below {w w' : World} {b n : Nat} (h : Tab w b n) (hb : Below w.heap.size w w') : Tab w' b n := by
  refine ⟨Nat.lt_of_lt_of_le h.1 hb.size, fun j hj => ?_⟩
  obtain ⟨x, h1, h2, h3⟩ := h.2 j hj
  exact ⟨x, (hb.cell (by exact h.1)).trans h1, (hb.cell (by exact h.1)).trans h2, (hb.cell (by exact h.1)).trans h3⟩
theorem tab_new (w : World) (rs : List (Int × ByteArray)) (t : TypeId) (hw : ∀ k (h : k < rs.length), wordF (rs[k]).1 = (rs[k]).2) : Tab (w.alloc (.cells (namCells rs).toArray t)) w.heap.size rs.length := by
  refine ⟨by simp, fun j hj => ⟨(rs[j]).1, ?_⟩⟩
  obtain ⟨h1, h2, h3⟩ := nam_get rs j hj
  rw [hw j hj]
  refine ⟨?_, ?_, ?_⟩
  · simp [go_sem, h1]
  · simp [go_sem, h2]
  · simp [go_sem, h3]
theorem len1 : rows1.length = 43 := rfl
theorem len2 : rows2.length = 41 := rfl
theorem tabs (w : World) (t u : TypeId) : ∃ W : World, W = (((w.alloc (.cells (namCells rows1).toArray t)).alloc (.cells (namCells rows2).toArray t)).alloc (.cells #[.slice (some ⟨w.heap.size, 0, none⟩) 43 43, .slice (some ⟨w.heap.size + 1, 0, none⟩) 41 41] u)) ∧ Below w.heap.size w W ∧ w.heap.size + 1 + 1 < W.heap.size ∧
    ∀ k, k < 2 → ∃ b n : Nat, n ≤ 43 ∧ W.cell? ⟨w.heap.size + 1 + 1, k, none⟩ = some (.slice (some ⟨b, 0, none⟩) n n) ∧ Tab W b n := by
  have t1 := tab_new w rows1 t words1
  have t2 := tab_new (w.alloc (.cells (namCells rows1).toArray t)) rows2 t words2
  rw [len1] at t1
  rw [len2] at t2
  have a1 : Below w.heap.size w (w.alloc (.cells (namCells rows1).toArray t)) := (Below.refl _ _).alloc (Nat.le_refl _) _
  generalize hA : w.alloc (.cells (namCells rows1).toArray t) = A at *
  have e1 : A.heap.size = w.heap.size + 1 := by rw [← hA]; simp
  have a2 : Below A.heap.size A (A.alloc (.cells (namCells rows2).toArray t)) := (Below.refl _ _).alloc (Nat.le_refl _) _
  generalize hB : A.alloc (.cells (namCells rows2).toArray t) = B at *
  have e2 : B.heap.size = w.heap.size + 1 + 1 := by rw [← hB]; simp [e1]
  have a3 : Below B.heap.size B (B.alloc (.cells #[.slice (some ⟨w.heap.size, 0, none⟩) 43 43, .slice (some ⟨w.heap.size + 1, 0, none⟩) 41 41] u)) := (Below.refl _ _).alloc (Nat.le_refl _) _
  refine ⟨_, rfl, ?_, by simp [e2], fun k hk => ?_⟩
  · exact (a1.trans (a2.mono a1.size)).trans (a3.mono (by omega))
  · have hk2 : k = 0 ∨ k = 1 := by omega
    rcases hk2 with rfl | rfl
    · refine ⟨w.heap.size, 43, by omega, ?_, (t1.below a2).below a3⟩
      rw [← e2]
      simp [go_sem]
    · refine ⟨w.heap.size + 1, 41, by omega, ?_, ?_⟩
      · rw [← e2]
        simp [go_sem]
      · rw [e1] at t2
        exact t2.below a3
end Go.Proofs.Ytidkdnlbecompac.mem
