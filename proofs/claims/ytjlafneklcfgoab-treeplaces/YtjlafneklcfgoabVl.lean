import Derived.Test.YtjlafneklcfgoabRows
import Derived.WalkKit
import Derived.ProofKit
import Derived.OpenShut
import Derived.ShutString
import Derived.Below
import Derived.SizedLaws
import Derived.Deep.Strs
namespace Go.Proofs.Ytjlafneklcfgoab.vl
open Go.ChangeShapes Go.WideShapes Go.ChangeAt Go.RowKit
set_option linter.unusedVariables false
mutual
/-- an api.Value -/
inductive Vl where
  | mk (kd : Int) (b : Bool) (n : Int) (f : Nat) (tx ty : ByteArray) (its : Vls) (fls : Fls)
/-- a list of values -/
inductive Vls where
  | nil
  | cons (v : Vl) (r : Vls)
/-- a list of members -/
inductive Fls where
  | nil
  | cons (nm : ByteArray) (v : Vl) (r : Fls)
end
def Row8 (w : World) (b off : Nat) (cs : List Value) : Prop := ∀ i u, cs[i]? = some u → w.cell? ⟨b, off + i, none⟩ = some u
mutual
/-- these eight cells are the value v -/
def VlC (w : World) : Vl → List Value → Prop
  | .mk kd b n f tx ty its fls, cs => ∃ (ai : Option Addr) (ni ci : Nat) (af : Option Addr) (nf cf : Nat), cs = [.int .i64 kd, .bool b, .int .i64 n, .float .f64 f, .string tx, .string ty, .slice ai ni ci, .slice af nf cf] ∧
      VlsAt w its ai ni ∧ FlsAt w fls af nf ∧ ni ≤ ci ∧ nf ≤ cf ∧ (ai = none → ci = 0) ∧ (af = none → cf = 0) ∧ (Lit.int .i64 kd).wf = true ∧ (Lit.int .i64 n).wf = true ∧ tx.size ≤ maxLen ∧ ty.size ≤ maxLen ∧ ci ≤ maxLen ∧ cf ≤ maxLen
def VlsAt (w : World) : Vls → Option Addr → Nat → Prop
  | .nil, _, n => n = 0
  | .cons v r, a, n => ∃ (b off m : Nat) (cs : List Value), a = some ⟨b, off, none⟩ ∧ n = m + 1 ∧ Row8 w b off cs ∧ VlC w v cs ∧ VlsAt w r (some ⟨b, off + 8, none⟩) m
def FlsAt (w : World) : Fls → Option Addr → Nat → Prop
  | .nil, _, n => n = 0
  | .cons nm v r, a, n => ∃ (b off m : Nat) (cs : List Value), a = some ⟨b, off, none⟩ ∧ n = m + 1 ∧ w.cell? ⟨b, off, none⟩ = some (.string nm) ∧ nm.size ≤ maxLen ∧ Row8 w b (off + 1) cs ∧ VlC w v cs ∧ FlsAt w r (some ⟨b, off + 9, none⟩) m
end
theorem Row8.below {w w' : World} {b off : Nat} {cs : List Value} (h : Row8 w b off cs) (hb : Below w.heap.size w w') : Row8 w' b off cs := by
  intro i u hu
  have h1 := h i u hu
  exact (hb.cell (World.block_lt_of_cell? w _ h1)).trans h1
mutual
theorem VlC.below {w w' : World} (hb : Below w.heap.size w w') : ∀ (v : Vl) (cs : List Value), VlC w v cs → VlC w' v cs
  | .mk kd b n f tx ty its fls, cs, h => by
    unfold VlC at h ⊢
    obtain ⟨ai, ni, ci, af, nf, cf, rfl, h1, h2, r⟩ := h
    exact ⟨ai, ni, ci, af, nf, cf, rfl, VlsAt.below hb its ai ni h1, FlsAt.below hb fls af nf h2, r⟩
theorem VlsAt.below {w w' : World} (hb : Below w.heap.size w w') : ∀ (l : Vls) (a : Option Addr) (n : Nat), VlsAt w l a n → VlsAt w' l a n
  | .nil, a, n, h => by unfold VlsAt at h ⊢; exact h
  | .cons v r, a, n, h => by
    unfold VlsAt at h ⊢
    obtain ⟨b, off, m, cs, rfl, rfl, h1, h2, h3⟩ := h
    exact ⟨b, off, m, cs, rfl, rfl, h1.below hb, VlC.below hb v cs h2, VlsAt.below hb r _ m h3⟩
theorem FlsAt.below {w w' : World} (hb : Below w.heap.size w w') : ∀ (l : Fls) (a : Option Addr) (n : Nat), FlsAt w l a n → FlsAt w' l a n
  | .nil, a, n, h => by unfold FlsAt at h ⊢; exact h
  | .cons nm v r, a, n, h => by
    unfold FlsAt at h ⊢
    obtain ⟨b, off, m, cs, rfl, rfl, h0, hz, h1, h2, h3⟩ := h
    exact ⟨b, off, m, cs, rfl, rfl, (hb.cell (World.block_lt_of_cell? w _ h0)).trans h0, hz, h1.below hb, VlC.below hb v cs h2, FlsAt.below hb r _ m h3⟩
end
theorem vls_of (w : World) (b : Nat) : ∀ (n off : Nat), (∀ i, i < n → ∃ cs v, Row8 w b (off + i * 8) cs ∧ VlC w v cs) → ∃ l, VlsAt w l (some ⟨b, off, none⟩) n
  | 0, off, _ => ⟨.nil, by unfold VlsAt; rfl⟩
  | n + 1, off, h => by
    obtain ⟨cs, v, h1, h2⟩ := h 0 (by omega)
    obtain ⟨l, hl⟩ := vls_of w b n (off + 8) (fun i hi => by
      obtain ⟨cs, v, h1, h2⟩ := h (i + 1) (by omega)
      exact ⟨cs, v, by rw [show off + 8 + i * 8 = off + (i + 1) * 8 by omega]; exact h1, h2⟩)
    refine ⟨.cons v l, ?_⟩
    unfold VlsAt
    exact ⟨b, off, n, cs, rfl, rfl, by simpa using h1, h2, hl⟩
theorem fls_of (w : World) (b : Nat) : ∀ (n off : Nat), (∀ i, i < n → ∃ nm cs v, w.cell? ⟨b, off + i * 9, none⟩ = some (.string nm) ∧ nm.size ≤ maxLen ∧ Row8 w b (off + i * 9 + 1) cs ∧ VlC w v cs) → ∃ l, FlsAt w l (some ⟨b, off, none⟩) n
  | 0, off, _ => ⟨.nil, by unfold FlsAt; rfl⟩
  | n + 1, off, h => by
    obtain ⟨nm, cs, v, h0, hz, h1, h2⟩ := h 0 (by omega)
    obtain ⟨l, hl⟩ := fls_of w b n (off + 9) (fun i hi => by
      obtain ⟨nm, cs, v, h0, hz, h1, h2⟩ := h (i + 1) (by omega)
      exact ⟨nm, cs, v, by rw [show off + 9 + i * 9 = off + (i + 1) * 9 by omega]; exact h0, hz, by rw [show off + 9 + i * 9 = off + (i + 1) * 9 by omega]; exact h1, h2⟩)
    refine ⟨.cons nm v l, ?_⟩
    unfold FlsAt
    exact ⟨b, off, n, cs, rfl, rfl, by simpa using h0, hz, by simpa using h1, h2, hl⟩
end Go.Proofs.Ytjlafneklcfgoab.vl
