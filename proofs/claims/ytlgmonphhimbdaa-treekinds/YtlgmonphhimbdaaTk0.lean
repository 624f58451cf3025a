import Derived.Test.YtlgmonphhimbdaaRows
import Derived.WalkKit
import Derived.ProofKit
import Derived.OpenShut
import Derived.Below
import Derived.Outline
import Derived.Defers
import Derived.Recover
import Derived.Laws.Pointers
import Derived.Maps.OwnSet
import Derived.DeepKeys4
namespace Go.Proofs.Ytlgmonphhimbdaa.knd
open Go.ChangeShapes Go.WideShapes Go.ChangeAt Go.RowKit Go.Maps
set_option linter.unusedVariables false
theorem hide {p : Prop} (h : p) : Hid p := h
theorem unhide {p : Prop} (h : Hid p) : p := h
/-- a byte as a signed one -/
def b8 (n : Nat) : Int := if n % 256 < 128 then ((n % 256 : Nat) : Int) else ((n % 256 : Nat) : Int) - 256
theorem b8_in (n : Nat) : -128 ≤ b8 n ∧ b8 n ≤ 127 := by
  unfold b8
  split <;> omega
theorem b8_inj {m n : Nat} (h : b8 m = b8 n) : m % 256 = n % 256 := by
  unfold b8 at h
  split at h <;> split at h <;> omega
def p0 (s : Fin 65536) : Int := b8 s.val
def p1 (s : Fin 65536) : Int := b8 (s.val / 256)
def p2 (s : Fin 65536) : Bool := s.val % 2 == 1
/-- the key of a number -/
def pv (s : Fin 65536) : Value := .agg #[.int .i8 (p0 s), .int .i8 (p1 s), .bool (p2 s)]
def kl (s : Fin 65536) : Lit := .string (keyBytes [.int .i8 (p0 s), .int .i8 (p1 s), .bool (p2 s)])
theorem wf8 {a : Int} (h : -128 ≤ a ∧ a ≤ 127) : (Lit.int .i8 a).wf = true := by
  simp [Lit.wf, IntKind.min, IntKind.max, IntKind.signed, IntKind.bits]
  omega
theorem laidOut : laidOutB Try.prog = true := by kernel_rfl
theorem law : Keyed Try.prog 30 := Keyed.of_law (deep_law_laid laidOut (m := 3) (by decide) (of_decide_eq_true (by kernel_rfl)) (by kernel_rfl) (by kernel_rfl))
theorem key_ty : Try.prog.keyType 30 = true := by kernel_rfl
theorem key_mk (s : Fin 65536) : keyOf Try.prog 30 (pv s) = some (kl s) := by
  have h0 := wf8 (b8_in s.val)
  have h1 := wf8 (b8_in (s.val / 256))
  unfold keyOf
  rw [Try.underlying30]
  simp only [key_ty]
  have hf : (pv s).formed Try.prog 30 = true := by kernel_rfl
  have hl : Try.prog.keyLits (Try.prog.types.size + 1) 30 (pv s).cells.toList = some [.int .i8 (p0 s), .int .i8 (p1 s), .bool (p2 s)] := by
    have e : ∀ n a b c, (Lit.int .i8 a).wf = true → (Lit.int .i8 b).wf = true → Try.prog.keyLits (n + 2) 30 [.int .i8 a, .int .i8 b, .bool c] = some [.int .i8 a, .int .i8 b, .bool c] := by
      intro n a b c ha hb
      have c1 : Try.prog.cellsOf 30 = 3 := by kernel_rfl
      have c2 : Try.prog.cellsOf 28 = 1 := by kernel_rfl
      have c3 : Try.prog.cellsOf 4 = 1 := by kernel_rfl
      simp [Program.keyLits, Try.underlying30, Try.underlying28, Try.underlying4, c1, c2, c3, ha, hb]
    obtain ⟨n, hn⟩ : ∃ n, Try.prog.types.size + 1 = n + 2 := ⟨Try.prog.types.size - 1, by have : 0 < Try.prog.types.size := of_decide_eq_true (by kernel_rfl); omega⟩
    rw [hn]
    exact e n _ _ _ h0 h1
  rw [hf, hl]
  rfl
theorem key_mk2 (s : Fin 65536) : keyOf Try.prog 30 (.agg #[.int .i8 (p0 s), .int .i8 (p1 s), .bool (p2 s)]) = some (kl s) := key_mk s
theorem pv_inj {s t : Fin 65536} (h : pv s = pv t) : s = t := by
  simp only [pv, Value.agg.injEq, Array.mk.injEq, List.cons.injEq, Value.int.injEq, true_and, and_true] at h
  have h0 := b8_inj h.1
  have h1 := b8_inj h.2.1
  have := s.isLt
  have := t.isLt
  apply Fin.ext
  omega
theorem kl_inj {s t : Fin 65536} (h : kl s = kl t) : s = t := pv_inj (law.inj (key_mk s) (h ▸ key_mk t))
end Go.Proofs.Ytlgmonphhimbdaa.knd
