import Derived.Test.YtfegalieiiaopabMem
import Derived.SizedLaws
import Derived.Deep.Matrix
namespace Go.Proofs.Ytfegalieiiaopab.mem
open Go.ChangeShapes Go.WideShapes Go.ChangeAt Go.RowKit
open ints (hide unhide)
set_option linter.unusedVariables false

theorem row_of_cells {k : IntKind} {w : World} {A : Option Addr} {L C : Nat} {Z : List Int} (h1 : L ≤ C) (h2 : Z.length = C) (h3 : A = none → C = 0) (h4 : ∀ a', A = some a' → ∀ c, c < C → w.cell? (a'.add c) = some (.int k (Z.getD c 0))) :
    Row k w A L C (Z.take L) := by
  refine ⟨by simp; omega, h1, h3, ?_⟩
  by_cases h0 : L = 0
  · exact .inl h0
  · right
    cases A with
    | none => have := h3 rfl; omega
    | some a' =>
      obtain ⟨b, off, spot⟩ := a'
      have hc := h4 _ rfl 0 (by omega)
      have hspot : spot = none := by simpa [Addr.add] using World.cell?_spot hc
      subst hspot
      refine ⟨b, off, rfl, ?_, fun i hi => ?_⟩
      · exact World.block_lt_of_cell? w _ hc
      · have := h4 _ rfl i (by omega)
        rw [Addr.add_lit] at this
        rw [this]
        simp [List.getD, hi]

/-- What is known of a slice of slices that is only read; N: no inner one is longer. -/
structure Rows2 (k : IntKind) (w : World) (a : Option Addr) (n N : Nat) (zss : List (List Int)) : Prop where
  len : zss.length = n
  at_ : n = 0 ∨ ∃ b off, a = some ⟨b, off, none⟩ ∧ b < w.heap.size ∧ ∀ i, i < n → ∃ ai ni ci, w.cell? ⟨b, off + i, none⟩ = some (.slice ai ni ci) ∧ Row k w ai ni ci (zss.getD i []) ∧ ni ≤ N

theorem weights_mem_all {H : Type} {P : Program} {e : TypeId} : ∀ {ds : List (DataW H)} {d : DataW H}, d ∈ ds → ∀ n ∈ d.weights P e, n ∈ DataW.weightsAll P e ds
  | d0 :: ds, d, hd, n, hn => by
    simp only [DataW.weightsAll, List.mem_append]
    rcases List.mem_cons.1 hd with rfl | hd
    · exact .inl hn
    · exact .inr (weights_mem_all hd n hn)

/-- The reading of a slice of slices of integers, opened. 'N': a bound that every inner slice's length keeps, out of the reach. -/
theorem rows2_of {H : Type} {enc : TypeId × Value → H} {P : Program} {w : World} {base : Nat} {held : Bool} {t e q : TypeId} {k : IntKind} {fuel : Nat} {a0 : Option Addr} {len0 cap0 : Nat} {d : DataW H} {p : List MemPlace}
    (ht : P.underlying t = some (.slice e)) (he : P.underlying e = some (.slice q)) (hq : P.underlying q = some (.int k)) (ce : P.cellsOf e = 1) (cq : P.cellsOf q = 1)
    (h : DataW.trod enc P w base (fun _ => true) held fuel t [.slice a0 len0 cap0] = some (d, p)) (N : Nat)
    (hN : ∀ n, n ∈ d.weights P t → n ≤ N * P.bytesOf q) (hb : 0 < P.bytesOf q) : ∃ zss, Rows2 k w a0 len0 N zss ∧ len0 ≤ maxLen := by
  rcases Go.Deep.open_int_rows ht he hq ce cq h with ⟨hcs, _⟩ | ⟨a, len, cap, A, L, C, Z, hcs, _, hl, hm, hx, hcell⟩
  · simp at hcs
    obtain ⟨rfl, rfl, rfl⟩ := hcs
    exact ⟨[], ⟨rfl, .inl rfl⟩, by unfold maxLen; omega⟩
  · simp at hcs
    obtain ⟨rfl, rfl, rfl⟩ := hcs
    simp only [Prod.mk.injEq] at hx
    obtain ⟨hd, _⟩ := hx
    refine ⟨(List.range len0).map fun r => (Z r).take (L r), ⟨by simp, ?_⟩, by omega⟩
    by_cases h0 : len0 = 0
    · exact .inl h0
    · right
      obtain ⟨b, off, spot⟩ := a
      have hc := (hcell 0 (by omega)).1
      have hspot : spot = none := by simpa [Addr.add] using World.cell?_spot hc
      subst hspot
      refine ⟨b, off, rfl, World.block_lt_of_cell? w _ hc, fun i hi => ?_⟩
      obtain ⟨c1, c2, c3, c4, c5, c6, c7⟩ := hcell i (by omega)
      rw [Addr.add_lit] at c1
      have hrow := row_of_cells (k := k) (w := w) c2 c4 c6 (fun a' ha c hc => (c7 a' ha).2 c hc)
      refine ⟨A i, L i, C i, c1, by simpa [List.getD, hi] using hrow, ?_⟩
      cases hA : A i with
      | none => have := c6 hA; omega
      | some a' =>
        have hmem : (C i) * P.bytesOf q ∈ d.weights P t := by
          rw [hd]
          simp only [DataW.weights, ht]
          refine List.mem_cons_of_mem _ (List.mem_append_left _ ?_)
          refine weights_mem_all (d := Go.Deep.intRow k (A i) (L i) (Z i)) (List.mem_map.2 ⟨i, by simp [hi], rfl⟩) _ ?_
          simp only [Go.Deep.intRow, hA, DataW.weights, he]
          refine List.mem_cons.2 (.inl ?_)
          simp only [lits, List.length_map, List.length_take, List.length_drop]
          rw [show min (L i) (Z i).length + ((Z i).length - L i) = C i from by omega]
        have := hN _ hmem
        have := Nat.le_of_mul_le_mul_right this hb
        omega
end Go.Proofs.Ytfegalieiiaopab.mem
