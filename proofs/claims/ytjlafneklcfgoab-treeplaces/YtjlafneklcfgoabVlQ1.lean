import Derived.Test.YtjlafneklcfgoabVlG2
namespace Go.Proofs.Ytjlafneklcfgoab.vl
open Go.ChangeShapes Go.WideShapes Go.ChangeAt Go.RowKit
set_option linter.unusedVariables false
set_option linter.unusedSimpArgs false
theorem storeF (f : Nat) (a : Addr) (w : World) (m : Mode) : (store a (.float .f64 f) m).run Try.prog w = stored Try.prog w a (.float .f64 f) m := run_store _ _ _ _ _ rfl
def RCopyAt (v : Vl) : Prop := ∀ (cs : List Value) (w : World), VlC w v cs → Calls Try.prog 33 #[.agg cs.toArray] w fun e w' => ∃ (ds : List Value) (F : List Nat), e = .returned (.agg ds.toArray) ∧ OwC w' v ds F ∧ F.Nodup ∧ (∀ b ∈ F, w.heap.size ≤ b ∧ b < w'.heap.size) ∧ Below w.heap.size w w' ∧ Fz w' F
/-- the call's own variables: v's two lists, the result, and w -/
structure Vars (w0 : World) (kd : Int) (bb : Bool) (ni : Int) (f : Nat) (tx ty : ByteArray) (ai : Option Addr) (nI ci : Nat) (af : Option Addr) (nf cf : Nat) (s6 s7 : Value) (w : World) : Prop where
  x6 : w.cell? ⟨w0.heap.size, 6, none⟩ = some (.slice ai nI ci)
  x7 : w.cell? ⟨w0.heap.size, 7, none⟩ = some (.slice af nf cf)
  res : w.there (w0.heap.size + 1) 0 8
  row : w.rangeAt (w0.heap.size + 1 + 1) 0 [.int .i64 kd, .bool bb, .int .i64 ni, .float .f64 f, .string tx, .string ty, s6, s7]
  may : w.there (w0.heap.size + 1 + 1) 0 8
  bel : Below w0.heap.size w0 w
  siz : w0.heap.size + 3 ≤ w.heap.size
theorem Vars.below {w0 : World} {kd : Int} {bb : Bool} {ni : Int} {f : Nat} {tx ty : ByteArray} {ai : Option Addr} {nI ci : Nat} {af : Option Addr} {nf cf : Nat} {s6 s7 : Value} {w w' : World} (h : Vars w0 kd bb ni f tx ty ai nI ci af nf cf s6 s7 w) (hb : Below (w0.heap.size + 3) w w') : Vars w0 kd bb ni f tx ty ai nI ci af nf cf s6 s7 w' :=
  ⟨(hb.cell (p := ⟨w0.heap.size, 6, none⟩) (by show w0.heap.size < _; omega)).trans h.x6, (hb.cell (p := ⟨w0.heap.size, 7, none⟩) (by show w0.heap.size < _; omega)).trans h.x7, there_below h.res hb (by omega), fun j u hu => (hb.cell (p := ⟨w0.heap.size + 1 + 1, 0 + j, none⟩) (by show w0.heap.size + 1 + 1 < _; omega)).trans (h.row j u hu), there_below h.may hb (by omega), h.bel.trans (hb.mono (by omega)), Nat.le_trans h.siz hb.size⟩
theorem Vars.put6 {w0 : World} {kd : Int} {bb : Bool} {ni : Int} {f : Nat} {tx ty : ByteArray} {ai : Option Addr} {nI ci : Nat} {af : Option Addr} {nf cf : Nat} {s6 s7 : Value} {w : World} (h : Vars w0 kd bb ni f tx ty ai nI ci af nf cf s6 s7 w) (s : Value) : Vars w0 kd bb ni f tx ty ai nI ci af nf cf s s7 (w.setCells (w0.heap.size + 1 + 1) 6 [s]) := by
  have out : ∀ c j, (c ≠ w0.heap.size + 1 + 1 ∨ j ≠ 6) → (w.setCells (w0.heap.size + 1 + 1) 6 [s]).cell? ⟨c, j, none⟩ = w.cell? ⟨c, j, none⟩ := fun c j hc => World.cell?_setCells_out _ _ _ _ _ (fun e _ => by
    have e : c = w0.heap.size + 1 + 1 := e
    show j < 6 ∨ 6 + 1 ≤ j
    omega)
  refine ⟨(out _ _ (.inl (by omega))).trans h.x6, (out _ _ (.inl (by omega))).trans h.x7, World.there_setCells h.res _ _ _, ?_, World.there_setCells h.may _ _ _, below_setCells _ _ _ _ h.bel (by omega), by rw [size_setCells]; exact h.siz⟩
  intro j u hu
  by_cases h6 : j = 6
  · subst h6
    simp at hu
    rw [← hu]
    exact World.cell?_setCell_same _ _ _ (h.row 6 _ rfl)
  · rw [out _ _ (.inr (by omega))]
    refine h.row j u ?_
    have hj : j < 8 := by have := (List.getElem?_eq_some_iff.1 hu).1; simpa using this
    rcases (by omega : j = 0 ∨ j = 1 ∨ j = 2 ∨ j = 3 ∨ j = 4 ∨ j = 5 ∨ j = 7) with rfl | rfl | rfl | rfl | rfl | rfl | rfl <;> exact hu
theorem Vars.put7 {w0 : World} {kd : Int} {bb : Bool} {ni : Int} {f : Nat} {tx ty : ByteArray} {ai : Option Addr} {nI ci : Nat} {af : Option Addr} {nf cf : Nat} {s6 s7 : Value} {w : World} (h : Vars w0 kd bb ni f tx ty ai nI ci af nf cf s6 s7 w) (s : Value) : Vars w0 kd bb ni f tx ty ai nI ci af nf cf s6 s (w.setCells (w0.heap.size + 1 + 1) 7 [s]) := by
  have out : ∀ c j, (c ≠ w0.heap.size + 1 + 1 ∨ j ≠ 7) → (w.setCells (w0.heap.size + 1 + 1) 7 [s]).cell? ⟨c, j, none⟩ = w.cell? ⟨c, j, none⟩ := fun c j hc => World.cell?_setCells_out _ _ _ _ _ (fun e _ => by
    have e : c = w0.heap.size + 1 + 1 := e
    show j < 7 ∨ 7 + 1 ≤ j
    omega)
  refine ⟨(out _ _ (.inl (by omega))).trans h.x6, (out _ _ (.inl (by omega))).trans h.x7, World.there_setCells h.res _ _ _, ?_, World.there_setCells h.may _ _ _, below_setCells _ _ _ _ h.bel (by omega), by rw [size_setCells]; exact h.siz⟩
  intro j u hu
  by_cases h6 : j = 7
  · subst h6
    simp at hu
    rw [← hu]
    exact World.cell?_setCell_same _ _ _ (h.row 7 _ rfl)
  · rw [out _ _ (.inr (by omega))]
    refine h.row j u ?_
    have hj : j < 8 := by have := (List.getElem?_eq_some_iff.1 hu).1; simpa using this
    rcases (by omega : j = 0 ∨ j = 1 ∨ j = 2 ∨ j = 3 ∨ j = 4 ∨ j = 5 ∨ j = 6) with rfl | rfl | rfl | rfl | rfl | rfl | rfl <;> exact hu
end Go.Proofs.Ytjlafneklcfgoab.vl
