import Derived.Test.YtjlafneklcfgoabVlO
namespace Go.Proofs.Ytjlafneklcfgoab.vl
open Go.ChangeShapes Go.WideShapes Go.ChangeAt Go.RowKit
set_option linter.unusedVariables false
def Vls.list : Vls → List Vl
  | .nil => []
  | .cons v r => v :: r.list
def Fls.list : Fls → List (ByteArray × Vl)
  | .nil => []
  | .cons nm v r => (nm, v) :: r.list
theorem VlsAt.len {w : World} : ∀ (l : Vls) (a : Option Addr) (n : Nat), VlsAt w l a n → l.list.length = n
  | .nil, a, n, h => by unfold VlsAt at h; rw [h]; rfl
  | .cons v r, a, n, h => by
    unfold VlsAt at h
    obtain ⟨b, off, m, cs, _, rfl, _, _, h3⟩ := h
    have := VlsAt.len r _ m h3
    simp [Vls.list, this]
theorem FlsAt.len {w : World} : ∀ (l : Fls) (a : Option Addr) (n : Nat), FlsAt w l a n → l.list.length = n
  | .nil, a, n, h => by unfold FlsAt at h; rw [h]; rfl
  | .cons nm v r, a, n, h => by
    unfold FlsAt at h
    obtain ⟨b, off, m, cs, _, rfl, _, _, _, _, h3⟩ := h
    have := FlsAt.len r _ m h3
    simp [Fls.list, this]
/-- the i-th value of a list lies in the i-th eight cells -/
theorem VlsAt.get {w : World} : ∀ (l : Vls) (a : Option Addr) (n : Nat), VlsAt w l a n → ∀ i, i < n → ∃ (b off : Nat) (v : Vl) (cs : List Value), a = some ⟨b, off, none⟩ ∧ l.list[i]? = some v ∧ Row8 w b (off + i * 8) cs ∧ VlC w v cs
  | .nil, a, n, h, i, hi => by unfold VlsAt at h; omega
  | .cons v r, a, n, h, i, hi => by
    unfold VlsAt at h
    obtain ⟨b, off, m, cs, rfl, rfl, h1, h2, h3⟩ := h
    match i with
    | 0 => exact ⟨b, off, v, cs, rfl, rfl, by simpa using h1, h2⟩
    | i + 1 =>
      obtain ⟨b', off', v', cs', e, g, r1, r2⟩ := VlsAt.get r _ m h3 i (by omega)
      simp only [Option.some.injEq, Addr.mk.injEq, and_true] at e
      obtain ⟨rfl, rfl⟩ := e
      exact ⟨b, off, v', cs', rfl, by simpa [Vls.list] using g, by rw [show off + (i + 1) * 8 = off + 8 + i * 8 by omega]; exact r1, r2⟩
/-- the i-th member: its name, then its value's eight cells -/
theorem FlsAt.get {w : World} : ∀ (l : Fls) (a : Option Addr) (n : Nat), FlsAt w l a n → ∀ i, i < n → ∃ (b off : Nat) (nm : ByteArray) (v : Vl) (cs : List Value), a = some ⟨b, off, none⟩ ∧ l.list[i]? = some (nm, v) ∧ w.cell? ⟨b, off + i * 9, none⟩ = some (.string nm) ∧ nm.size ≤ maxLen ∧ Row8 w b (off + i * 9 + 1) cs ∧ VlC w v cs
  | .nil, a, n, h, i, hi => by unfold FlsAt at h; omega
  | .cons nm v r, a, n, h, i, hi => by
    unfold FlsAt at h
    obtain ⟨b, off, m, cs, rfl, rfl, h0, hz, h1, h2, h3⟩ := h
    match i with
    | 0 => exact ⟨b, off, nm, v, cs, rfl, rfl, by simpa using h0, hz, by simpa using h1, h2⟩
    | i + 1 =>
      obtain ⟨b', off', nm', v', cs', e, g, r0, rz, r1, r2⟩ := FlsAt.get r _ m h3 i (by omega)
      simp only [Option.some.injEq, Addr.mk.injEq, and_true] at e
      obtain ⟨rfl, rfl⟩ := e
      exact ⟨b, off, nm', v', cs', rfl, by simpa [Fls.list] using g, by rw [show off + (i + 1) * 9 = off + 9 + i * 9 by omega]; exact r0, rz, by rw [show off + (i + 1) * 9 + 1 = off + 9 + i * 9 + 1 by omega]; exact r1, r2⟩
/-- a value handed over whole: its eight cells in one row -/
theorem VlC.cells {w : World} {v : Vl} {cs : List Value} (h : VlC w v cs) : cs.length = 8 := by
  cases v
  unfold VlC at h
  obtain ⟨_, _, _, _, _, _, rfl, _⟩ := h
  rfl
/-- eight cells of a row, one by one -/
theorem Row8.eight {w : World} {b off : Nat} {c0 c1 c2 c3 c4 c5 c6 c7 : Value} (h : Row8 w b off [c0, c1, c2, c3, c4, c5, c6, c7]) :
    w.cell? ⟨b, off, none⟩ = some c0 ∧ w.cell? ⟨b, off + 1, none⟩ = some c1 ∧ w.cell? ⟨b, off + 2, none⟩ = some c2 ∧ w.cell? ⟨b, off + 3, none⟩ = some c3 ∧ w.cell? ⟨b, off + 4, none⟩ = some c4 ∧ w.cell? ⟨b, off + 5, none⟩ = some c5 ∧ w.cell? ⟨b, off + 6, none⟩ = some c6 ∧ w.cell? ⟨b, off + 7, none⟩ = some c7 :=
  ⟨h 0 c0 rfl, h 1 c1 rfl, h 2 c2 rfl, h 3 c3 rfl, h 4 c4 rfl, h 5 c5 rfl, h 6 c6 rfl, h 7 c7 rfl⟩
end Go.Proofs.Ytjlafneklcfgoab.vl
