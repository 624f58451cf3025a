import Derived.Test.YtfegalieiiaopabDt
import Derived.Test.YtfegalieiiaopabRgn
namespace Go.Proofs.Ytfegalieiiaopab.dt
open Go.ChangeShapes Go.WideShapes Go.ChangeAt Go.RowKit
set_option linter.unusedVariables false
set_option linter.unusedSimpArgs false
theorem there_cells {w : World} {b : Nat} {arr : Array Value} {t : TypeId} (h : w.heap[b]? = some (.cells arr t (0, 0))) {o n : Nat} (hn : o + n ≤ arr.size) : w.there b o n := fun j hj => by
  refine ⟨?_, ?_⟩
  · simp [World.cell?, h]; omega
  · simp [World.frozen?, h]
theorem cell_cells {w : World} {b : Nat} {arr : Array Value} {t : TypeId} {fr : Nat × Nat} (h : w.heap[b]? = some (.cells arr t fr)) (o : Nat) : w.cell? ⟨b, o, none⟩ = arr[o]? := by
  simp [World.cell?, h]
theorem frozen_cells {w : World} {b : Nat} {arr : Array Value} {t : TypeId} (h : w.heap[b]? = some (.cells arr t (0, 0))) (o : Nat) : w.frozen? ⟨b, o, none⟩ = false := by
  simp [World.frozen?, h]
theorem below_setCells {B : Nat} {w : World} (b : Nat) : ∀ (vs : List Value) (o : Nat) (w1 : World), Below B w w1 → B ≤ b → Below B w (w1.setCells b o vs)
  | [], o, w1, h, hb => h
  | v :: r, o, w1, h, hb => below_setCells b r (o + 1) _ (h.setCell (p := ⟨b, o, none⟩) hb v) hb
theorem size_setCells (b : Nat) : ∀ (vs : List Value) (o : Nat) (w : World), (w.setCells b o vs).heap.size = w.heap.size
  | [], o, w => rfl
  | v :: r, o, w => by rw [World.setCells, size_setCells b r (o + 1)]; simp
theorem heap_setCells (b : Nat) (c : Nat) (h : c ≠ b) : ∀ (vs : List Value) (o : Nat) (w : World), (w.setCells b o vs).heap[c]? = w.heap[c]?
  | [], o, w => rfl
  | v :: r, o, w => by rw [World.setCells, heap_setCells b c h r (o + 1)]; exact Below.heap_setCell w ⟨b, o, none⟩ v c h
theorem one_cells {cs : List Value} (h : cs.all (·.oneCell') = true) : cs.toArray.all (·.oneCell') = true := by simpa using h
theorem heap_setCell_at {w : World} {b : Nat} {arr : Array Value} {t : TypeId} {fr : Nat × Nat} (h : w.heap[b]? = some (.cells arr t fr)) (o : Nat) (v : Value) : (w.setCell ⟨b, o, none⟩ v).heap[b]? = some (.cells (arr.setIfInBounds o v) t fr) := by
  simp [World.setCell, Array.getElem?_modify, h]
def setL (arr : Array Value) : Nat → List Value → Array Value
  | _, [] => arr
  | o, v :: r => setL (arr.setIfInBounds o v) (o + 1) r
theorem setCells_at {b : Nat} {t : TypeId} {fr : Nat × Nat} : ∀ (vs : List Value) (o : Nat) (w : World) (arr : Array Value), w.heap[b]? = some (.cells arr t fr) → (w.setCells b o vs).heap[b]? = some (.cells (setL arr o vs) t fr)
  | [], o, w, arr, h => h
  | v :: r, o, w, arr, h => setCells_at r (o + 1) _ _ (heap_setCell_at h o v)
theorem range_cells {w : World} {b : Nat} {arr : Array Value} {t : TypeId} {fr : Nat × Nat} (h : w.heap[b]? = some (.cells arr t fr)) (o : Nat) (cs : List Value) (hc : ∀ j u, cs[j]? = some u → arr[o + j]? = some u) : w.rangeAt b o cs := fun j u hu => by
  rw [cell_cells h]; exact hc j u hu
/-- all old blocks but one stay as they are -/
structure Kp (B : Nat) (w w' : World) : Prop where
  os : w'.os = w.os
  tape : w'.tape = w.tape
  output : w'.output = w.output
  size : w.heap.size ≤ w'.heap.size
  block : ∀ k, k < w.heap.size → k ≠ B → w'.heap[k]? = w.heap[k]?
theorem Kp.refl (B : Nat) (w : World) : Kp B w w := ⟨rfl, rfl, rfl, Nat.le_refl _, fun _ _ _ => rfl⟩
theorem Kp.trans {B : Nat} {a b c : World} (h : Kp B a b) (k : Kp B b c) : Kp B a c :=
  ⟨k.os.trans h.os, k.tape.trans h.tape, k.output.trans h.output, Nat.le_trans h.size k.size, fun i hi hB => (k.block i (Nat.lt_of_lt_of_le hi h.size) hB).trans (h.block i hi hB)⟩
theorem Kp.of {B : Nat} {w w' : World} (h : Below w.heap.size w w') : Kp B w w' := ⟨h.os, h.tape, h.output, h.size, fun k hk _ => h.block k hk⟩
theorem Kp.below {B lo : Nat} {w w' : World} (h : Kp B w w') (h1 : lo ≤ B) (h2 : lo ≤ w.heap.size) : Below lo w w' := ⟨h.os, h.tape, h.output, h.size, fun k hk => h.block k (by omega) (by omega)⟩
theorem Kp.set {B : Nat} {w w1 : World} (h : Kp B w w1) (o : Nat) (v : Value) : Kp B w (w1.setCell ⟨B, o, none⟩ v) :=
  ⟨h.os, h.tape, h.output, by simpa using h.size, fun k hk hB => (Below.heap_setCell w1 ⟨B, o, none⟩ v k hB).trans (h.block k hk hB)⟩
theorem Kp.cell {B : Nat} {w w' : World} (h : Kp B w w') {b o : Nat} (hb : b < w.heap.size) (hB : b ≠ B) : w'.cell? ⟨b, o, none⟩ = w.cell? ⟨b, o, none⟩ := World.cell?_of_block (w := w) (a := ⟨b, o, none⟩) (h.block b hb hB)
end Go.Proofs.Ytfegalieiiaopab.dt
