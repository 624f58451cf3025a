import Derived.Test.YtjlaoeigfokkiaaGreatDoorBs30
import Derived.Test.YtjlaoeigfokkiaaGreatDoorBs29
import Derived.Deep.QuietTactic
import Derived.BigQuiet
import Derived.Outline
import Derived.WalkSmall
import Derived.Laws.BytesArg
import Derived.Laws.CopyOwn
import Derived.Maps.AppendAt
import Derived.ArgAppend
import Derived.Laws.AppendOwnNone
import Derived.Test.YtjlaoeigfokkiaaGreatDoorRows
import Derived.Deep.RegionHeld3
import Derived.OneCell
namespace Go.Proofs.YtjlaoeigfokkiaaGreatDoor.mem
open Go.ChangeShapes Go.WideShapes Go.ChangeAt Go.RowKit
open ints (hide unhide)
set_option linter.unusedVariables false
end Go.Proofs.YtjlaoeigfokkiaaGreatDoor.mem


namespace Go.Proofs.YtjlaoeigfokkiaaGreatDoor.mem
set_option linter.unusedVariables false

/-- Words of 32 bits, the lowest first, as one number: the first k of them. -/
def vT (zs : List Int) : Nat → Nat
  | 0 => 0
  | k + 1 => vT zs k + (zs.getD k 0).toNat * 2 ^ (32 * k)
def val (zs : List Int) : Nat := vT zs zs.length
def wds (zs : List Int) : Prop := ∀ z ∈ zs, 0 ≤ z ∧ z < 4294967296
def nrm (zs : List Int) : Prop := zs = [] ∨ zs.getD (zs.length - 1) 0 ≠ 0

end Go.Proofs.YtjlaoeigfokkiaaGreatDoor.mem


namespace Go.Proofs.YtjlaoeigfokkiaaGreatDoor.mem
open Go.ChangeShapes Go.WideShapes Go.ChangeAt Go.RowKit
open ints (hide unhide)
set_option linter.unusedVariables false

/-- A number of any size, as its words lie in a row. -/
def Big (w : World) (a : Option Addr) (n c N : Nat) : Prop := ∃ zs, Row .u32 w a n c zs ∧ wds zs ∧ nrm zs ∧ val zs = N
end Go.Proofs.YtjlaoeigfokkiaaGreatDoor.mem


namespace Go.Proofs.YtjlaoeigfokkiaaGreatDoor.mem
open Go.ChangeShapes Go.WideShapes Go.ChangeAt Go.RowKit
open ints (hide unhide)
set_option linter.unusedVariables false

end Go.Proofs.YtjlaoeigfokkiaaGreatDoor.mem


namespace Go.Proofs.YtjlaoeigfokkiaaGreatDoor.mem
open Go.ChangeShapes Go.WideShapes Go.ChangeAt Go.RowKit
open ints (hide unhide)
set_option linter.unusedVariables false

end Go.Proofs.YtjlaoeigfokkiaaGreatDoor.mem


namespace Go.Proofs.YtjlaoeigfokkiaaGreatDoor.mem
open Go.ChangeShapes Go.WideShapes Go.ChangeAt Go.RowKit
open ints (hide unhide)
set_option linter.unusedVariables false

end Go.Proofs.YtjlaoeigfokkiaaGreatDoor.mem


namespace Go.Proofs.YtjlaoeigfokkiaaGreatDoor.mem
open Go.ChangeShapes Go.WideShapes Go.ChangeAt Go.RowKit
open ints (hide unhide)
set_option linter.unusedVariables false

end Go.Proofs.YtjlaoeigfokkiaaGreatDoor.mem


namespace Go.Proofs.YtjlaoeigfokkiaaGreatDoor.mem
open Go.ChangeShapes Go.WideShapes Go.ChangeAt Go.RowKit
open ints (hide unhide)
set_option linter.unusedVariables false

end Go.Proofs.YtjlaoeigfokkiaaGreatDoor.mem


namespace Go.Proofs.YtjlaoeigfokkiaaGreatDoor.mem
set_option linter.unusedVariables false

end Go.Proofs.YtjlaoeigfokkiaaGreatDoor.mem


namespace Go.Proofs.YtjlaoeigfokkiaaGreatDoor.mem
open Go.ChangeShapes Go.WideShapes Go.ChangeAt Go.RowKit
open ints (hide unhide)
set_option linter.unusedVariables false

/-- What Digits writes: n digits, and no fewer would do. -/
structure Dec10 (u n : Nat) : Prop where
  pos : 0 < n
  le : n ≤ 20
  lt : u < 10 ^ n
  low : n = 1 ∨ 10 ^ (n - 1) ≤ u
end Go.Proofs.YtjlaoeigfokkiaaGreatDoor.mem


namespace Go.Proofs.YtjlaoeigfokkiaaGreatDoor.mem
open Go.ChangeShapes Go.WideShapes Go.ChangeAt Go.RowKit
open ints (hide unhide)
set_option linter.unusedVariables false

end Go.Proofs.YtjlaoeigfokkiaaGreatDoor.mem


namespace Go.Proofs.YtjlaoeigfokkiaaGreatDoor.mem
open Go.ChangeShapes Go.WideShapes Go.ChangeAt Go.RowKit
open ints (hide unhide)
set_option linter.unusedVariables false

end Go.Proofs.YtjlaoeigfokkiaaGreatDoor.mem


namespace Go.Proofs.YtjlaoeigfokkiaaGreatDoor.mem
open Go.ChangeShapes Go.WideShapes Go.ChangeAt Go.RowKit
open ints (hide unhide)
set_option linter.unusedVariables false

def Box2 (w : World) (B : Nat) (x y : Value) (t : TypeId) : Prop := w.heap[B]? = some (.cells #[x, y] t (0, 0))
end Go.Proofs.YtjlaoeigfokkiaaGreatDoor.mem


namespace Go.Proofs.YtjlaoeigfokkiaaGreatDoor.mem
open Go.ChangeShapes Go.WideShapes Go.ChangeAt Go.RowKit
open ints (hide unhide)
set_option linter.unusedVariables false
/-- what the loops of dec keep -/
structure DcI (w wr : World) (T : Nat) (x : Int) (D : Nat) (aB : Option Addr) (nB cB nT : Nat) (y : Int) (a : Option Addr) (n c : Nat) : Prop where
  y0 : 0 ≤ y
  yx : y ≤ x
  bx : Box2 wr D (.slice a n c) (.slice aB nB cB) 88
  top : Big wr a n c (T * 10 ^ (x - y).toNat)
  bot : Big wr aB nB cB 1
  out : Box2 wr w.heap.size (.slice none 0 0) (.slice none 0 0) 88
  len : n ≤ nT + (x - y).toNat
  bel : Below w.heap.size w wr
end Go.Proofs.YtjlaoeigfokkiaaGreatDoor.mem


namespace Go.Proofs.YtjlaoeigfokkiaaGreatDoor.mem
open Go.ChangeShapes Go.WideShapes Go.ChangeAt Go.RowKit
open ints (hide unhide)
set_option linter.unusedVariables false
end Go.Proofs.YtjlaoeigfokkiaaGreatDoor.mem


namespace Go.Proofs.YtjlaoeigfokkiaaGreatDoor.mem
open Go.ChangeShapes Go.WideShapes Go.ChangeAt Go.RowKit
open ints (hide unhide)
set_option linter.unusedVariables false
/-- is the float a the nearest one? -/
noncomputable def rdB (q : Nat) (x : Int) (a : Nat) : Bool := @decide (Rd q x a) (Classical.propDecidable _)
end Go.Proofs.YtjlaoeigfokkiaaGreatDoor.mem


namespace Go.Proofs.YtjlaoeigfokkiaaGreatDoor.mem
open Go.ChangeShapes Go.WideShapes Go.ChangeAt Go.RowKit
open ints (hide unhide)
set_option linter.unusedVariables false
/-- ten to the power of m is above the float a -/
def pwG (a : Nat) (m : Int) : Prop := 10 ^ (-m).toNat * vR a < 1 * 10 ^ m.toNat * k74
theorem ten_step (m : Int) : 10 * 10 ^ m.toNat * 10 ^ (-(m + 1)).toNat = 10 ^ (m + 1).toNat * 10 ^ (-m).toNat := by
  have e : 10 * 10 ^ m.toNat = 10 ^ (m.toNat + 1) := by rw [Nat.pow_succ, Nat.mul_comm]
  rw [e, ← Nat.pow_add, ← Nat.pow_add]
  congr 1
  omega
theorem pwG_succ {a : Nat} {m : Int} (h : pwG a m) : pwG a (m + 1) := by
  unfold pwG at *
  have hs := ten_step m
  have hA : 0 < 10 ^ (-m).toNat := Nat.pow_pos (by decide)
  have hA' : 0 < 10 ^ (-(m + 1)).toNat := Nat.pow_pos (by decide)
  generalize 10 ^ (-m).toNat = A at *
  generalize 10 ^ (-(m + 1)).toNat = A' at *
  generalize 10 ^ m.toNat = C at *
  generalize 10 ^ (m + 1).toNat = C' at *
  generalize vR a = v at *
  generalize k74 = k at *
  rw [Nat.one_mul] at *
  have h1 : A * v * A' < C * k * A' := Nat.mul_lt_mul_of_pos_right h hA'
  have h2 : C * k * A' ≤ C' * A * k := by
    rw [← hs, Nat.mul_right_comm C k A']
    exact Nat.mul_le_mul_right _ (Nat.mul_le_mul_right _ (by omega))
  have h3 : A' * v * A < C' * k * A := by
    rw [Nat.mul_right_comm C' k A]
    have : A' * v * A = A * v * A' := by rw [Nat.mul_comm A' v, Nat.mul_comm A v, Nat.mul_right_comm]
    omega
  exact Nat.lt_of_mul_lt_mul_right h3
theorem pwG_mono {a : Nat} {m : Int} (h : pwG a m) (j : Nat) : pwG a (m + j) := by
  induction j with
  | zero => simpa using h
  | succ j ih => have := pwG_succ ih; rw [show m + ((j + 1 : Nat) : Int) = m + (j : Int) + 1 by omega]; exact this
def e310 : Nat := 310
def e330 : Nat := 330
theorem top310 : pwG 9218868437227405312 310 := by
  unfold pwG
  rw [show (-(310 : Int)).toNat = 0 from rfl, show (310 : Int).toNat = e310 from rfl, Nat.pow_zero]
  decide +kernel
theorem low330 (a : Nat) (ha : 0 < a) : ¬ pwG a (-330) := by
  unfold pwG
  have h1 : 1 ≤ vR a := by have := vR_mono ha; omega
  have h2 : k74 < 10 ^ e330 := by decide +kernel
  have h3 : 10 ^ e330 * 1 ≤ 10 ^ e330 * vR a := Nat.mul_le_mul_left _ h1
  have e1 : (-(-330 : Int)).toNat = e330 := rfl
  have e2 : (-330 : Int).toNat = 0 := rfl
  rw [e1, e2, Nat.pow_zero]
  omega
theorem pwG_top (a : Nat) (hai : a < 9218868437227405312) : pwG a 310 := by
  have h1 := top310
  unfold pwG at *
  have h2 := Nat.mul_le_mul_left (10 ^ (-(310 : Int)).toNat) (vR_mono_le (Nat.le_of_lt hai))
  omega
end Go.Proofs.YtjlaoeigfokkiaaGreatDoor.mem


namespace Go.Proofs.YtjlaoeigfokkiaaGreatDoor.fto
open Go.ChangeShapes Go.WideShapes Go.ChangeAt Go.RowKit
open mem
open ints (hide unhide)
set_option linter.unusedVariables false
set_option linter.unusedSimpArgs false
theorem tenc (q : Int) (j : Nat) : 10 ^ j * 10 ^ q.toNat * 10 ^ (-(q + j)).toNat = 10 ^ (q + j).toNat * 10 ^ (-q).toNat := by
  rw [← Nat.pow_add, ← Nat.pow_add, ← Nat.pow_add]
  congr 1
  omega
theorem ten_scale (q : Int) (j v k : Nat) : 10 ^ j * 10 ^ q.toNat * k ≤ 10 ^ (-q).toNat * v ↔ 1 * 10 ^ (q + j).toNat * k ≤ 10 ^ (-(q + j)).toNat * v := by
  have h := tenc q j
  have hA : 0 < 10 ^ (-q).toNat := Nat.pow_pos (by decide)
  have hA' : 0 < 10 ^ (-(q + j)).toNat := Nat.pow_pos (by decide)
  generalize 10 ^ (-(q + (j : Int))).toNat = A' at *
  generalize 10 ^ (q + (j : Int)).toNat = C' at *
  generalize 10 ^ (-q).toNat = A at *
  generalize 10 ^ q.toNat = C at *
  generalize 10 ^ j = J at *
  rw [Nat.one_mul]
  have e1 : J * C * k ≤ A * v ↔ J * C * k * A' ≤ A * v * A' := (Nat.mul_le_mul_right_iff hA').symm
  have e2 : C' * k ≤ A' * v ↔ C' * k * A ≤ A' * v * A := (Nat.mul_le_mul_right_iff hA).symm
  rw [e1, e2, Nat.mul_right_comm (J * C) k A', h, Nat.mul_right_comm C' A k, Nat.mul_comm A' v, Nat.mul_comm A v, Nat.mul_right_comm v A A']
/-- q times ten to the power of p - 17 is at most the float a -/
def svG (a : Nat) (p : Int) (q : Nat) : Prop := 1 * 10 ^ (p - 17).toNat * q * k74 ≤ 10 ^ (-(p - 17)).toNat * vR a
theorem sv_low {a : Nat} {p : Int} (h : ¬ pwG a (p - 1)) : svG a p 10000000000000000 := by
  have := ten_scale (p - 17) 16 (vR a) k74
  rw [show p - 17 + ((16 : Nat) : Int) = p - 1 by omega] at this
  unfold svG
  unfold pwG at h
  have h2 := this.2 (by omega)
  rw [show (10000000000000000 : Nat) = 10 ^ 16 from rfl, Nat.one_mul, Nat.mul_comm (10 ^ (p - 17).toNat)]
  exact h2
theorem sv_high {a : Nat} {p : Int} (h : pwG a p) : ¬ svG a p 100000000000000000 := by
  have := ten_scale (p - 17) 17 (vR a) k74
  rw [show p - 17 + ((17 : Nat) : Int) = p by omega] at this
  unfold svG
  unfold pwG at h
  intro h3
  rw [show (100000000000000000 : Nat) = 10 ^ 17 from rfl, Nat.one_mul, Nat.mul_comm (10 ^ (p - 17).toNat)] at h3
  have := this.1 h3
  omega
end Go.Proofs.YtjlaoeigfokkiaaGreatDoor.fto


namespace Go.Proofs.YtjlaoeigfokkiaaGreatDoor.fto
open Go.ChangeShapes Go.WideShapes Go.ChangeAt Go.RowKit
open mem
open ints (hide unhide)
set_option linter.unusedVariables false
set_option linter.unusedSimpArgs false
/-- the lower one of two is the nearer one -/
def hfG (q : Nat) (x : Int) (a : Nat) : Prop := 10 ^ (-x).toNat * (2 * vR a) < (2 * q + 1) * 10 ^ x.toNat * k74 ∨ ((2 * q + 1) * 10 ^ x.toNat * k74 = 10 ^ (-x).toNat * (2 * vR a) ∧ q % 2 = 0)
/-- with n digits none is found -/
def NoR (a : Nat) (p : Int) (Q n : Nat) : Prop := rdB (Q / 10 ^ (17 - n)) (p - n) a = false ∧ rdB (Q / 10 ^ (17 - n) + 1) (p - n) a = false
/-- what the reference picks with n digits -/
def Pick (a : Nat) (p : Int) (Q n N : Nat) : Prop :=
  ((N = Q / 10 ^ (17 - n) ∧ rdB (Q / 10 ^ (17 - n)) (p - n) a = true) ∨ (N = Q / 10 ^ (17 - n) + 1 ∧ rdB (Q / 10 ^ (17 - n) + 1) (p - n) a = true)) ∧
  (rdB (Q / 10 ^ (17 - n)) (p - n) a = true → rdB (Q / 10 ^ (17 - n) + 1) (p - n) a = true → (N = Q / 10 ^ (17 - n) ↔ hfG (Q / 10 ^ (17 - n)) (p - n) a))
end Go.Proofs.YtjlaoeigfokkiaaGreatDoor.fto


namespace Go.Proofs.YtjlaoeigfokkiaaGreatDoor.fto
open Go.ChangeShapes Go.WideShapes Go.ChangeAt Go.RowKit
open mem Go.Sort
open ints (hide unhide)
set_option linter.unusedVariables false
set_option linter.unusedSimpArgs false
end Go.Proofs.YtjlaoeigfokkiaaGreatDoor.fto


namespace Go.Proofs.YtjlaoeigfokkiaaGreatDoor.fto
open Go.ChangeShapes Go.WideShapes Go.ChangeAt Go.RowKit
open mem Go.Sort
open ints (hide unhide)
set_option linter.unusedVariables false
set_option linter.unusedSimpArgs false
/-- digits as a number and back -/
theorem dz_back_n : ∀ (n : Nat) (l : List Int), l.length = n → Dg l → l ≠ [] → (∀ r, l = 48 :: r → r = []) → dz (dv l) = l := by
  intro n
  induction n with
  | zero => intro l h _ h0; exact absurd (List.eq_nil_of_length_eq_zero h) h0
  | succ n ih =>
    intro l hlen hD _ hf
    obtain ⟨l', z, rfl⟩ : ∃ l' z, l = l' ++ [z] := by
      refine ⟨l.dropLast, l.getLast (fun h => by rw [h] at hlen; simp at hlen), (List.dropLast_concat_getLast _).symm⟩
    have hz := hD z (by simp)
    by_cases hl : l' = []
    · subst hl
      rw [List.nil_append, dv_cons]
      simp only [List.length_nil, Nat.pow_zero, Nat.mul_one]
      rw [show (z - 48).toNat + dv [] = (z - 48).toNat from rfl, dz_small (by omega)]
      congr 1
      omega
    · have ih' := ih l' (by simp at hlen; exact hlen) hD.left hl (fun r h => by
        have := hf (r ++ [z]) (by rw [h]; rfl)
        simp at this)
      have hv : dv (l' ++ [z]) = dv l' * 10 + (z - 48).toNat := by
        rw [dv_app, dv_cons]; simp [dv]
      have hpos : 1 ≤ dv l' := by
        rcases Nat.eq_zero_or_pos (dv l') with h | h
        · exfalso
          rw [h, dz_small (by decide)] at ih'
          have h48 : l' = [48] := by rw [← ih']; rfl
          have := hf [z] (by rw [h48]; rfl)
          simp at this
        · exact h
      rw [hv, dz_big (by omega), show (dv l' * 10 + (z - 48).toNat) / 10 = dv l' by omega, ih']
      congr 2
      omega
theorem dz_back (l : List Int) (h1 : Dg l) (h2 : l ≠ []) (h3 : ∀ r, l = 48 :: r → r = []) : dz (dv l) = l := dz_back_n _ l rfl h1 h2 h3
end Go.Proofs.YtjlaoeigfokkiaaGreatDoor.fto


