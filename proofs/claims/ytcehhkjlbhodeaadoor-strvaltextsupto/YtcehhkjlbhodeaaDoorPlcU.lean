import Derived.Test.YtcehhkjlbhodeaaDoorPlc
namespace Go.Proofs.YtcehhkjlbhodeaaDoor.mem
open Go.ChangeShapes Go.WideShapes Go.ChangeAt Go.RowKit
open ints (hide unhide)
set_option linter.unusedVariables false

def posT (l : List Int) : Nat → Int × Int
  | 0 => (1, 1)
  | k + 1 => (if enB l k then (posT l k).1 + 1 else (posT l k).1, if enB l k then 1 else (posT l k).2 + 1)
theorem posT_bd (l : List Int) (k : Nat) : 1 ≤ (posT l k).1 ∧ (posT l k).1 ≤ k + 1 ∧ 1 ≤ (posT l k).2 ∧ (posT l k).2 ≤ k + 1 := by
  induction k with
  | zero => simp [posT]
  | succ k ih => simp only [posT]; split <;> omega
def posCells (ps : List (Int × Int)) : List Value := ps.flatMap fun p => [.int .i64 p.1, .int .i64 p.2]
theorem posCells_len (ps : List (Int × Int)) : (posCells ps).length = ps.length * 2 := by
  induction ps with
  | nil => rfl
  | cons p ps ih => simp only [posCells, List.flatMap_cons, List.length_append, List.length_cons] at *; simp at *; omega
def plist (l : List Int) (k : Nat) : List (Int × Int) := (List.range k).map (posT l)
theorem plist_succ (l : List Int) (k : Nat) : posCells (plist l (k + 1)) = posCells (plist l k) ++ [.int .i64 (posT l k).1, .int .i64 (posT l k).2] := by
  unfold plist posCells
  rw [List.range_succ, List.map_append, List.flatMap_append]
  simp
theorem plist_len (l : List Int) (k : Nat) : (plist l k).length = k := by simp [plist]
theorem cell_two (w : World) (x y : Value) (t : TypeId) : ∀ j u, [x, y][j]? = some u → (w.alloc (.cells #[x, y] t)).cell? ((⟨w.heap.size, 0, none⟩ : Addr).add j) = some u := by
  intro j u hj
  match j, hj with
  | 0, hj => simp at hj; subst hj; simp [Addr.add]
  | 1, hj => simp at hj; subst hj; simp [Addr.add]
  | (j + 2), hj => simp at hj
theorem one_two (x y : Int) : ∀ u ∈ [Value.int .i64 x, Value.int .i64 y], u.oneCell' = true := by
  intro u hu; simp at hu; rcases hu with rfl | rfl <;> rfl
end Go.Proofs.YtcehhkjlbhodeaaDoor.mem
