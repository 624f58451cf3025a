import Derived.Test.YtechaplindbfoaaGreatDoorRows
import GoSem.Core.Float
import Derived.Test.YtechaplindbfoaaGreatDoorJpa1
import GoSem.PinnedTables
namespace Go.Proofs.YtechaplindbfoaaGreatDoor.mem
set_option linter.unusedVariables false

def b52 : Nat := 4503599627370496
def b53 : Nat := 9007199254740992
def infR : Nat := 9218868437227405312
def sgnR : Nat := 9223372036854775808
/-- The unit, and what is left of it above 52 bits: two to the power of 1074 and of 1022. -/
def e22 : Nat := 1022
theorem e22_eq : e22 = 1022 := rfl
def k22 : Nat := 2 ^ e22
def k74 : Nat := 2 ^ (52 + e22)
theorem k22_pos : 0 < k22 := Nat.two_pow_pos e22
theorem b52_eq : b52 = 2 ^ 52 := rfl
theorem k74_eq : k74 = b52 * k22 := by
  unfold k74 k22
  rw [Nat.pow_add, b52_eq]
/-- A float without its sign, by its bits, is mantR times two to the power of exR, in units of the least float. -/
def mantR (r : Nat) : Nat := if r < b52 then r else b52 + r % b52
def exR (r : Nat) : Nat := r / b52 - 1
def vR (r : Nat) : Nat := mantR r * 2 ^ exR r
theorem vR_succ (r : Nat) : vR (r + 1) = vR r + 2 ^ exR r := by
  unfold vR mantR exR b52
  by_cases h : r < 4503599627370496
  · have e0 : r / 4503599627370496 - 1 = 0 := by omega
    rw [if_pos h, e0]
    by_cases h1 : r + 1 < 4503599627370496
    · have e1 : (r + 1) / 4503599627370496 - 1 = 0 := by omega
      rw [if_pos h1, e1]; simp
    · have e1 : (r + 1) / 4503599627370496 - 1 = 0 := by omega
      rw [if_neg h1, e1]; simp; omega
  · rw [if_neg h, if_neg (by omega)]
    by_cases h1 : (r + 1) % 4503599627370496 = 0
    · have e1 : (r + 1) / 4503599627370496 - 1 = (r / 4503599627370496 - 1) + 1 := by omega
      have e2 : r % 4503599627370496 = 4503599627370495 := by omega
      rw [h1, e1, e2, Nat.pow_succ]
      generalize 2 ^ (r / 4503599627370496 - 1) = p
      omega
    · have e1 : (r + 1) / 4503599627370496 = r / 4503599627370496 := by omega
      have e2 : (r + 1) % 4503599627370496 = r % 4503599627370496 + 1 := by omega
      rw [e1, e2, ← Nat.add_assoc, Nat.add_mul _ 1, Nat.one_mul]
theorem vR_mono {a b : Nat} (h : a < b) : vR a < vR b := by
  induction b with
  | zero => omega
  | succ b ih =>
    rw [vR_succ]
    have := Nat.two_pow_pos (exR b)
    by_cases e : a = b
    · rw [e]; omega
    · have := ih (by omega); omega
theorem vR_mono_le {a b : Nat} (h : a ≤ b) : vR a ≤ vR b := by
  rcases Nat.lt_or_ge a b with h1 | h1
  · exact Nat.le_of_lt (vR_mono h1)
  · rw [show a = b by omega]; exact Nat.le_refl _

/-- lo is the greatest float not above P over B (P in units of the least float). -/
def Lo (P B lo : Nat) : Prop := B * vR lo ≤ P ∧ P < B * vR (lo + 1)
theorem Lo.unique {P B a b : Nat} (h : Lo P B a) (h' : Lo P B b) : a = b := by
  rcases Nat.lt_trichotomy a b with hl | hl | hl
  · have := Nat.mul_le_mul_left B (vR_mono_le (show a + 1 ≤ b by omega))
    have := h.2; have := h'.1; omega
  · exact hl
  · have := Nat.mul_le_mul_left B (vR_mono_le (show b + 1 ≤ a by omega))
    have := h'.2; have := h.1; omega
def roundR (P B lo : Nat) : Nat := if B * (2 * vR lo + 2 ^ exR lo) < 2 * P ∨ (2 * P = B * (2 * vR lo + 2 ^ exR lo) ∧ lo % 2 = 1) then lo + 1 else lo

/-- The whole numbers' floats. -/
def loN (n : Nat) : Nat := (n.log2 + e22) * b52 + n * b52 / 2 ^ n.log2
theorem q_bd {n : Nat} (h : n ≠ 0) : b52 ≤ n * b52 / 2 ^ n.log2 ∧ n * b52 / 2 ^ n.log2 < b53 := by
  have h1 := Nat.log2_self_le h
  have h2 := Nat.lt_log2_self (n := n)
  have hp := Nat.two_pow_pos n.log2
  constructor
  · rw [Nat.le_div_iff_mul_le hp, Nat.mul_comm]
    exact Nat.mul_le_mul_right _ h1
  · rw [Nat.div_lt_iff_lt_mul hp]
    rw [Nat.pow_succ] at h2
    unfold b52 b53
    omega
theorem loN_parts {n : Nat} (h : n ≠ 0) : exR (loN n) = n.log2 + e22 ∧ mantR (loN n) = n * b52 / 2 ^ n.log2 ∧ loN n % 2 = (n * b52 / 2 ^ n.log2) % 2 := by
  obtain ⟨h1, h2⟩ := q_bd h
  unfold exR mantR loN
  generalize n * b52 / 2 ^ n.log2 = q at *
  generalize n.log2 = L at *
  unfold b52 b53 at *
  refine ⟨by omega, ?_, by omega⟩
  rw [if_neg (by omega)]
  omega
theorem loN_lo {n : Nat} (h : n ≠ 0) : Lo (n * k74) 1 (loN n) := by
  obtain ⟨h1, h2, -⟩ := loN_parts h
  have hp := Nat.two_pow_pos n.log2
  have hd := Nat.div_add_mod (n * b52) (2 ^ n.log2)
  have hm := Nat.mod_lt (n * b52) hp
  have hk := k22_pos
  have e : n * k74 = n * b52 * k22 := by rw [k74_eq, Nat.mul_assoc]
  unfold Lo
  rw [vR_succ, Nat.one_mul, Nat.one_mul]
  unfold vR
  rw [h1, h2, e, Nat.pow_add, show 2 ^ e22 = k22 from rfl]
  generalize n * b52 / 2 ^ n.log2 = q at *
  generalize n * b52 % 2 ^ n.log2 = t at *
  generalize n * b52 = m at *
  generalize 2 ^ n.log2 = g at *
  generalize k22 = k at *
  have e2 : q * (g * k) = (g * q) * k := by rw [← Nat.mul_assoc, Nat.mul_comm q g]
  rw [e2, ← Nat.add_mul]
  constructor
  · exact Nat.mul_le_mul_right _ (by omega)
  · exact Nat.mul_lt_mul_of_pos_right (by omega) hk

theorem cut_none (neg : Bool) (n : Nat) : Ieee.Toward.even.cut neg n 0 = n := by
  unfold Ieee.Toward.cut
  simp [Nat.mod_one]
theorem cut_some (neg : Bool) {n d : Nat} (h : d ≤ n.log2 + 2) : Ieee.Toward.even.cut neg n d = n / 2 ^ d + (decide (2 ^ d < 2 * (n % 2 ^ d)) || (2 ^ d == 2 * (n % 2 ^ d) && (n / 2 ^ d) % 2 == 1)).toNat := by
  unfold Ieee.Toward.cut
  simp only [Nat.min_eq_left h, Nat.shiftLeft_eq, Nat.one_mul]
theorem round_exact {P lo : Nat} (h : P = vR lo) : roundR P 1 lo = lo := by
  unfold roundR
  have := Nat.two_pow_pos (exR lo)
  rw [if_neg]
  omega
theorem min_small {L q : Nat} (hL : L < 64) (hq : q ≤ b53) : min ((L + e22) * b52 + q) infR = (L + e22) * b52 + q := by
  have := e22_eq
  unfold b52 b53 infR at *
  omega
theorem nearest_int (neg : Bool) {n : Nat} (h : n ≠ 0) (hn : n < 2 ^ 64) : Ieee.double.nearest neg n 0 = Ieee.double.word neg (roundR (n * k74) 1 (loN n)) := by
  have hL : n.log2 < 64 := (Nat.log2_lt h).2 hn
  obtain ⟨p1, p2, p3⟩ := loN_parts h
  obtain ⟨b1, b2⟩ := q_bd h
  have hp := Nat.two_pow_pos n.log2
  have hk := k22_pos
  have e : n * k74 = n * b52 * k22 := by rw [k74_eq, Nat.mul_assoc]
  unfold Ieee.Format.nearest
  rw [if_neg h]
  have hlast : max ((0 : Int) + n.log2 - Ieee.double.fractionBits) (-1074) = (n.log2 : Int) - 52 := by
    unfold Ieee.double
    simp only
    omega
  have hlp : Ieee.double.leastPlace = -1074 := by rfl
  have hbn : Ieee.double.binade = b52 := by rfl
  have hinf : Ieee.double.infRung = infR := by rfl
  simp only [hlp, hlast, hbn, hinf]
  refine congrArg (Ieee.double.word neg) ?_
  have hT : ((n.log2 : Int) - 52 - -1074).toNat = n.log2 + e22 := by rw [e22_eq]; omega
  rw [hT]
  by_cases h52 : n.log2 ≤ 52
  · have e1 : ((n.log2 : Int) - 52 - 0).toNat = 0 := by omega
    have e2 : ((0 : Int) - ((n.log2 : Int) - 52)).toNat = 52 - n.log2 := by omega
    rw [e1, e2, cut_none, Nat.shiftLeft_eq]
    have eb : b52 = 2 ^ (52 - n.log2) * 2 ^ n.log2 := by rw [← Nat.pow_add, show 52 - n.log2 + n.log2 = 52 by omega]; rfl
    have eq : n * b52 / 2 ^ n.log2 = n * 2 ^ (52 - n.log2) := by
      rw [eb, ← Nat.mul_assoc, Nat.mul_div_cancel _ hp]
    have ev : n * k74 = vR (loN n) := by
      unfold vR
      rw [p1, p2, eq, e, eb, Nat.pow_add, show 2 ^ e22 = k22 from rfl]
      rw [← Nat.mul_assoc, ← Nat.mul_assoc]
    rw [round_exact ev]
    unfold loN
    rw [eq] at b1 b2 ⊢
    exact min_small hL (Nat.le_of_lt b2)
  · have hLL : n.log2 = (n.log2 - 52) + 52 := by omega
    have e1 : ((n.log2 : Int) - 52 - 0).toNat = n.log2 - 52 := by omega
    have e2 : ((0 : Int) - ((n.log2 : Int) - 52)).toNat = 0 := by omega
    rw [e1, e2, Nat.shiftLeft_zero, cut_some neg (by omega)]
    have hg := Nat.two_pow_pos (n.log2 - 52)
    have eL : 2 ^ n.log2 = 2 ^ (n.log2 - 52) * b52 := by
      conv => lhs; rw [hLL]
      rw [Nat.pow_add]; rfl
    have eq : n * b52 / 2 ^ n.log2 = n / 2 ^ (n.log2 - 52) := by
      rw [eL]
      exact Nat.mul_div_mul_right _ _ (by decide)
    have hdm := Nat.div_add_mod n (2 ^ (n.log2 - 52))
    have hml := Nat.mod_lt n hg
    have hr : roundR (n * k74) 1 (loN n) = loN n + (decide (2 ^ (n.log2 - 52) < 2 * (n % 2 ^ (n.log2 - 52))) || (2 ^ (n.log2 - 52) == 2 * (n % 2 ^ (n.log2 - 52)) && (n / 2 ^ (n.log2 - 52)) % 2 == 1)).toNat := by
      unfold roundR vR
      rw [p1, p2, p3, eq, e, Nat.pow_add, eL, show 2 ^ e22 = k22 from rfl]
      generalize n / 2 ^ (n.log2 - 52) = q at *
      generalize n % 2 ^ (n.log2 - 52) = t at *
      generalize 2 ^ (n.log2 - 52) = g at *
      generalize k22 = k at *
      have f1 : 1 * (2 * (q * (g * b52 * k)) + g * b52 * k) = (2 * (g * q) + g) * (b52 * k) := by
        rw [Nat.one_mul, Nat.add_mul, Nat.mul_assoc g b52 k, Nat.mul_assoc 2 (g * q), ← Nat.mul_assoc q g, Nat.mul_comm q g]
      have f2 : 2 * (n * b52 * k) = (2 * n) * (b52 * k) := by rw [Nat.mul_assoc n, Nat.mul_assoc 2]
      have hbk : 0 < b52 * k := Nat.mul_pos (by decide) hk
      rw [f1, f2]
      generalize b52 * k = j at *
      have g1 : (2 * (g * q) + g) * j < 2 * n * j ↔ g < 2 * t := by
        rw [Nat.mul_lt_mul_right hbk]; omega
      have g2 : 2 * n * j = (2 * (g * q) + g) * j ↔ g = 2 * t := by
        rw [Nat.mul_right_cancel_iff hbk]; omega
      simp only [g1, g2]
      by_cases c1 : g < 2 * t
      · simp [c1]
      · by_cases c2 : g = 2 * t
        · by_cases c3 : q % 2 = 1
          · simp [c2, c3]
          · have : ¬ (g < 2 * t ∨ g = 2 * t ∧ q % 2 = 1) := by omega
            rw [if_neg this]
            simp [c2, c3]
        · have : ¬ (g < 2 * t ∨ g = 2 * t ∧ q % 2 = 1) := by omega
          rw [if_neg this]
          simp [c1, c2]
    rw [hr]
    unfold loN
    rw [eq] at b1 b2 ⊢
    generalize (decide (2 ^ (n.log2 - 52) < 2 * (n % 2 ^ (n.log2 - 52))) || (2 ^ (n.log2 - 52) == 2 * (n % 2 ^ (n.log2 - 52)) && (n / 2 ^ (n.log2 - 52)) % 2 == 1)) = bb at *
    have hb1 := Bool.toNat_le bb
    rw [Nat.add_assoc]
    exact min_small hL (by unfold b53 at b2 ⊢; omega)
end Go.Proofs.YtechaplindbfoaaGreatDoor.mem
namespace Go.Proofs.YtechaplindbfoaaGreatDoor.mem
set_option linter.unusedVariables false

/-- X over D, rounded to the nearest, of two equally near the even one. -/
def rne (X D : Nat) : Nat := if D < 2 * (X % D) ∨ (2 * (X % D) = D ∧ X / D % 2 = 1) then X / D + 1 else X / D
theorem or_one (F : Nat) : F ||| 1 = F / 2 * 2 + 1 := by
  have h := Nat.or_mod_two_eq_one (a := F) (b := 1)
  have h1 : (F ||| 1) % 2 = 1 := by
    rw [Nat.or_mod_two_eq_one]; right; rfl
  have h2 : (F ||| 1) / 2 = F / 2 := by
    rw [Nat.or_div_two]
    simp
  omega
theorem un_parts (X W : Nat) : un X W / 2 = X / W / 2 ∧ (un X W % 2 = 1 ↔ (X / W % 2 = 1 ∨ X % W ≠ 0)) := by
  unfold un
  by_cases h : X % W = 0
  · rw [if_pos h, Nat.or_zero]
    exact ⟨rfl, by omega⟩
  · rw [if_neg h, or_one]
    exact ⟨by omega, by omega⟩
/-- round of an unrounded number. -/
theorem un_round (X W : Nat) (hW : 0 < W) : (un X W + 1 + un X W / 4 % 2) / 4 = rne X (4 * W) := by
  obtain ⟨h1, h2⟩ := un_parts X W
  have hdm := Nat.div_add_mod X W
  have hml := Nat.mod_lt X hW
  generalize un X W = u at *
  obtain ⟨F, hF⟩ : ∃ F, F = X / W := ⟨_, rfl⟩
  obtain ⟨r, hr⟩ : ∃ r, r = X % W := ⟨_, rfl⟩
  rw [← hF] at h1 h2 hdm
  rw [← hr] at h2 hdm hml
  have hq : X / (4 * W) = F / 4 := by rw [Nat.mul_comm, ← Nat.div_div_eq_div_mul, ← hF]
  have hm : X % (4 * W) = F % 4 * W + r := by
    have e : X = W * (4 * (F / 4) + F % 4) + r := by rw [Nat.div_add_mod]; omega
    have e2 : X = 4 * W * (F / 4) + (F % 4 * W + r) := by
      rw [e, Nat.mul_add, ← Nat.mul_assoc, Nat.mul_comm W 4, Nat.mul_comm W (F % 4)]; omega
    rw [e2, Nat.mul_add_mod]
    refine Nat.mod_eq_of_lt ?_
    have h4 : F % 4 < 4 := Nat.mod_lt _ (by decide)
    have := Nat.mul_le_mul_right W (show F % 4 ≤ 3 by omega)
    omega
  unfold rne
  rw [hq, hm]
  clear hq hm hF hr hdm
  have h4 : F % 4 < 4 := Nat.mod_lt _ (by decide)
  rcases (show F % 4 = 0 ∨ F % 4 = 1 ∨ F % 4 = 2 ∨ F % 4 = 3 by omega) with c | c | c | c
  · rw [c, Nat.zero_mul, Nat.zero_add, if_neg (by omega)]
    by_cases hr0 : r = 0 <;> omega
  · rw [c, Nat.one_mul, if_neg (by omega)]
    omega
  · rw [c]
    by_cases hr0 : r = 0
    · by_cases ho : F / 4 % 2 = 1
      · rw [if_pos (by omega)]; omega
      · rw [if_neg (by omega)]; omega
    · rw [if_pos (by omega)]; omega
  · rw [c, if_pos (by omega)]; omega
/-- half of an unrounded number. -/
theorem un_half (X W : Nat) (hW : 0 < W) : (un X W / 2) ||| (un X W % 2) = un X (2 * W) := by
  obtain ⟨h1, h2⟩ := un_parts X W
  have hdm := Nat.div_add_mod X W
  have hml := Nat.mod_lt X hW
  have hq : X / (2 * W) = X / W / 2 := by rw [Nat.mul_comm, ← Nat.div_div_eq_div_mul]
  have hm : X % (2 * W) = X / W % 2 * W + X % W := by
    generalize hF : X / W = F at *
    generalize hr : X % W = r at *
    have e2 : X = 2 * W * (F / 2) + (F % 2 * W + r) := by
      have : F = 2 * (F / 2) + F % 2 := (Nat.div_add_mod F 2).symm
      rw [← hdm]
      conv => lhs; rw [this, Nat.mul_add, ← Nat.mul_assoc, Nat.mul_comm W 2, Nat.mul_comm W (F % 2)]
      omega
    rw [e2, Nat.mul_add_mod]
    refine Nat.mod_eq_of_lt ?_
    have := Nat.mul_le_mul_right W (show F % 2 ≤ 1 by omega)
    omega
  conv => rhs; unfold un
  rw [hq, hm, h1]
  by_cases hs : X / W % 2 = 1 ∨ X % W ≠ 0
  · rw [h2.2 hs, if_neg]
    rcases hs with hs | hs
    · rw [hs]; omega
    · omega
  · have : un X W % 2 = 0 := by
      have : ¬ un X W % 2 = 1 := fun e => hs (h2.1 e)
      omega
    rw [this, if_pos]
    have : X / W % 2 = 0 := by omega
    rw [this]; omega
/-- The rounding of Rnd, where the number is X over D times two to the power of k units, and its whole part is a float's mantissa. -/
theorem rung_of {P Bn X D k q : Nat} (hD : 0 < D) (hBn : 0 < Bn) (hid : P * D = X * Bn * 2 ^ k) (hq : q = X / D) (hm : mantR (q + k * b52) = q) (he : exR (q + k * b52) = k) (hb : q % 2 = (q + k * b52) % 2) :
    Lo P Bn (q + k * b52) ∧ roundR P Bn (q + k * b52) = rne X D + k * b52 := by
  have hdm := Nat.div_add_mod X D
  have hml := Nat.mod_lt X hD
  rw [← hq] at hdm
  have hv : vR (q + k * b52) = q * 2 ^ k := by unfold vR; rw [hm, he]
  have hkp := Nat.two_pow_pos k
  have hCp : 0 < Bn * 2 ^ k := Nat.mul_pos hBn hkp
  have hid2 : P * D = X * (Bn * 2 ^ k) := by rw [hid, Nat.mul_assoc]
  -- everything over D, by C = Bn * 2 ^ k
  have e1 : Bn * (q * 2 ^ k) = q * (Bn * 2 ^ k) := by rw [← Nat.mul_assoc, Nat.mul_comm Bn q, Nat.mul_assoc]
  have e2 : Bn * (q * 2 ^ k + 2 ^ k) = (q + 1) * (Bn * 2 ^ k) := by rw [Nat.mul_add, e1, Nat.add_mul, Nat.one_mul]
  have e3 : Bn * (2 * (q * 2 ^ k) + 2 ^ k) = (2 * q + 1) * (Bn * 2 ^ k) := by
    rw [Nat.mul_add, Nat.add_mul, Nat.one_mul, Nat.mul_assoc 2 q, ← e1]
    rw [← Nat.mul_assoc, Nat.mul_comm Bn 2, Nat.mul_assoc]
  generalize Bn * 2 ^ k = C at *
  have hXq : X = D * q + X % D := by omega
  constructor
  · unfold Lo
    rw [vR_succ, hv, he, e1, e2]
    constructor
    · have : q * C * D ≤ P * D := by
        rw [hid2, Nat.mul_right_comm]
        refine Nat.mul_le_mul_right _ ?_
        rw [Nat.mul_comm]; omega
      exact Nat.le_of_mul_le_mul_right this hD
    · have : P * D < (q + 1) * C * D := by
        rw [hid2, Nat.mul_right_comm]
        refine Nat.mul_lt_mul_of_pos_right ?_ hCp
        rw [Nat.add_mul, Nat.one_mul, Nat.mul_comm]; omega
      exact Nat.lt_of_mul_lt_mul_right this
  · unfold roundR rne
    rw [hv, he, e3, ← hb, ← hq]
    have k1 : (2 * q + 1) * C < 2 * P ↔ D < 2 * (X % D) := by
      have a1 : (2 * q + 1) * C < 2 * P ↔ (2 * q + 1) * C * D < 2 * P * D := (Nat.mul_lt_mul_right hD).symm
      have a2 : 2 * P * D = 2 * X * C := by rw [Nat.mul_assoc, hid2, Nat.mul_assoc]
      have a3 : (2 * q + 1) * C * D = (2 * q + 1) * D * C := Nat.mul_right_comm _ _ _
      rw [a1, a2, a3, Nat.mul_lt_mul_right hCp, Nat.add_mul, Nat.one_mul, Nat.mul_assoc, Nat.mul_comm q D]
      omega
    have k2 : 2 * P = (2 * q + 1) * C ↔ 2 * (X % D) = D := by
      have a1 : 2 * P = (2 * q + 1) * C ↔ 2 * P * D = (2 * q + 1) * C * D := (Nat.mul_right_cancel_iff hD).symm
      have a2 : 2 * P * D = 2 * X * C := by rw [Nat.mul_assoc, hid2, Nat.mul_assoc]
      have a3 : (2 * q + 1) * C * D = (2 * q + 1) * D * C := Nat.mul_right_comm _ _ _
      rw [a1, a2, a3, Nat.mul_right_cancel_iff hCp, Nat.add_mul, Nat.one_mul, Nat.mul_assoc, Nat.mul_comm q D]
      omega
    simp only [k1, k2]
    split <;> omega
end Go.Proofs.YtechaplindbfoaaGreatDoor.mem
namespace Go.Proofs.YtechaplindbfoaaGreatDoor.mem
set_option linter.unusedVariables false

/-- Twice the middle of the rungs r and r + 1. -/
def midR (r : Nat) : Nat := 2 * vR r + 2 ^ exR r
theorem midR_eq (r : Nat) : midR r = vR r + vR (r + 1) := by
  unfold midR; rw [vR_succ]; omega
/-- P over B lies where the float a is the nearest. -/
def InR (P B a : Nat) : Prop := (B * midR (a - 1) < 2 * P ∨ (B * midR (a - 1) = 2 * P ∧ a % 2 = 0)) ∧ (2 * P < B * midR a ∨ (2 * P = B * midR a ∧ a % 2 = 0))
theorem round_iff {P B a lo : Nat} (hB : 0 < B) (ha : 0 < a) (hlo : Lo P B lo) : roundR P B lo = a ↔ InR P B a := by
  have m1 : 2 * (B * vR (a - 1)) < B * midR (a - 1) := by
    rw [← Nat.mul_assoc, Nat.mul_comm 2 B, Nat.mul_assoc]
    refine Nat.mul_lt_mul_of_pos_left ?_ hB
    have := Nat.two_pow_pos (exR (a - 1))
    unfold midR; omega
  have m2 : B * midR (a - 1) < 2 * (B * vR a) := by
    rw [← Nat.mul_assoc, Nat.mul_comm 2 B, Nat.mul_assoc]
    refine Nat.mul_lt_mul_of_pos_left ?_ hB
    rw [midR_eq, Nat.sub_add_cancel ha]
    have := vR_mono (show a - 1 < a by omega)
    omega
  have m3 : 2 * (B * vR a) < B * midR a := by
    rw [← Nat.mul_assoc, Nat.mul_comm 2 B, Nat.mul_assoc]
    refine Nat.mul_lt_mul_of_pos_left ?_ hB
    have := Nat.two_pow_pos (exR a)
    unfold midR; omega
  have m4 : B * midR a < 2 * (B * vR (a + 1)) := by
    rw [← Nat.mul_assoc, Nat.mul_comm 2 B, Nat.mul_assoc]
    refine Nat.mul_lt_mul_of_pos_left ?_ hB
    rw [midR_eq]
    have := vR_mono (show a < a + 1 by omega)
    omega
  constructor
  · intro h
    obtain ⟨l1, l2⟩ := hlo
    unfold roundR at h
    change (if B * midR lo < 2 * P ∨ (2 * P = B * midR lo ∧ lo % 2 = 1) then lo + 1 else lo) = a at h
    split at h
    · rename_i hc
      have e : lo = a - 1 := by omega
      subst e
      rw [Nat.sub_add_cancel ha] at l2
      refine ⟨?_, Or.inl (by omega)⟩
      rcases hc with hc | ⟨hc, ho⟩
      · left; exact hc
      · right; exact ⟨hc.symm, by omega⟩
    · rename_i hc
      subst h
      refine ⟨Or.inl (by omega), ?_⟩
      by_cases h2 : 2 * P < B * midR lo
      · left; exact h2
      · right
        have : ¬ B * midR lo < 2 * P := fun h => hc (Or.inl h)
        have h3 : 2 * P = B * midR lo := by omega
        refine ⟨h3, ?_⟩
        have : ¬ lo % 2 = 1 := fun h => hc (Or.inr ⟨h3, h⟩)
        omega
  · rintro ⟨i1, i2⟩
    by_cases hp : B * vR a ≤ P
    · have : lo = a := hlo.unique ⟨hp, by omega⟩
      subst this
      unfold roundR
      change (if B * midR lo < 2 * P ∨ (2 * P = B * midR lo ∧ lo % 2 = 1) then lo + 1 else lo) = lo
      rw [if_neg]
      omega
    · have : lo = a - 1 := hlo.unique ⟨by omega, by rw [Nat.sub_add_cancel ha]; omega⟩
      subst this
      unfold roundR
      change (if B * midR (a - 1) < 2 * P ∨ (2 * P = B * midR (a - 1) ∧ (a - 1) % 2 = 1) then a - 1 + 1 else a - 1) = a
      rw [if_pos (by omega)]
      omega
/-- floor, ceil and nudge of an unrounded number. -/
theorem un_mod (X W : Nat) (hW : 0 < W) : un X W / 4 = X / (4 * W) ∧ (un X W % 4 = 0 ↔ X % (4 * W) = 0) := by
  obtain ⟨h1, h2⟩ := un_parts X W
  have hdm := Nat.div_add_mod X W
  have hml := Nat.mod_lt X hW
  have hq4 : X / (4 * W) = X / W / 4 := by rw [Nat.mul_comm, ← Nat.div_div_eq_div_mul]
  have hm : X % (4 * W) = X / W % 4 * W + X % W := by
    generalize hF : X / W = F at *
    generalize hr : X % W = r at *
    have e2 : X = 4 * W * (F / 4) + (F % 4 * W + r) := by
      have : F = 4 * (F / 4) + F % 4 := (Nat.div_add_mod F 4).symm
      rw [← hdm]
      conv => lhs; rw [this, Nat.mul_add, ← Nat.mul_assoc, Nat.mul_comm W 4, Nat.mul_comm W (F % 4)]
      omega
    rw [e2, Nat.mul_add_mod]
    refine Nat.mod_eq_of_lt ?_
    have := Nat.mul_le_mul_right W (show F % 4 ≤ 3 by omega)
    omega
  refine ⟨by omega, ?_⟩
  rw [hm]
  constructor
  · intro h
    have hs : ¬ (X / W % 2 = 1 ∨ X % W ≠ 0) := fun h' => by have := h2.2 h'; omega
    have : X / W % 4 = 0 := by omega
    rw [this]; omega
  · intro h
    have a1 : X % W = 0 := by omega
    have a2 : X / W % 4 = 0 := by
      have : X / W % 4 * W = 0 := by omega
      rcases Nat.mul_eq_zero.1 this with h | h <;> omega
    have : ¬ un X W % 2 = 1 := fun h' => by have := h2.1 h'; omega
    omega
theorem un_floor (X W c : Nat) (hW : 0 < W) : c ≤ un X W / 4 ↔ c * (4 * W) ≤ X := by
  rw [(un_mod X W hW).1, Nat.le_div_iff_mul_le (by omega)]
theorem un_ceil (X W c : Nat) (hW : 0 < W) : (un X W + 3) / 4 ≤ c ↔ X ≤ c * (4 * W) := by
  obtain ⟨h1, h2⟩ := un_mod X W hW
  have hdm := Nat.div_add_mod X (4 * W)
  have hml := Nat.mod_lt X (show 0 < 4 * W by omega)
  have key : c ≤ X / (4 * W) ↔ c * (4 * W) ≤ X := Nat.le_div_iff_mul_le (by omega)
  have key2 : c + 1 ≤ X / (4 * W) ↔ (c + 1) * (4 * W) ≤ X := Nat.le_div_iff_mul_le (by omega)
  by_cases h0 : X % (4 * W) = 0
  · have := h2.2 h0
    constructor
    · intro h
      have : X / (4 * W) ≤ c := by omega
      have := Nat.mul_le_mul_left (4 * W) this
      rw [Nat.mul_comm c]; omega
    · intro h
      have : X / (4 * W) ≤ c := by
        have := Nat.div_le_div_right (c := 4 * W) h
        rwa [Nat.mul_div_cancel _ (by omega)] at this
      omega
  · have : un X W % 4 ≠ 0 := fun h => h0 (h2.1 h)
    constructor
    · intro h
      have h' : X / (4 * W) + 1 ≤ c := by omega
      have := Nat.mul_le_mul_left (4 * W) h'
      rw [Nat.mul_add, Nat.mul_one] at this
      rw [Nat.mul_comm c]; omega
    · intro h
      have : ¬ c ≤ X / (4 * W) := by
        intro hc
        have h3 := key.1 hc
        have : X = c * (4 * W) := by omega
        rw [this, Nat.mul_mod_left] at h0
        exact h0 rfl
      omega
theorem un_ceil_odd (X W c : Nat) (hW : 0 < W) : (un X W + 1 + 3) / 4 ≤ c ↔ X < c * (4 * W) := by
  have h := un_floor X W c hW
  omega
theorem un_floor_odd (X W c : Nat) (hW : 0 < W) (hX : 0 < X) : c ≤ (un X W - 1) / 4 ↔ c = 0 ∨ c * (4 * W) < X := by
  have h := un_ceil X W c hW
  obtain ⟨h1, h2⟩ := un_mod X W hW
  omega
end Go.Proofs.YtechaplindbfoaaGreatDoor.mem
namespace Go.Proofs.YtechaplindbfoaaGreatDoor.mem
set_option linter.unusedVariables false
set_option maxRecDepth 4000

def nbP0 : List (Nat × Nat × Nat × Nat) := [(53331094750955795, 13949077156089401696, 18898505783596806, 4943020887555831205), (35953796540349934, 15046300004533642259, 9449252891798403, 3954416710044664964), (42060834256381894, 14081626789031790351, 47246264458992015, 15817666840178659856), (55168757921782428, 14776042809490538153, 60354188124392549, 16164874850408033757), (22398948758281093, 9598702982124437556, 23280999321973471, 9976691318428319375), (33818935778344734, 11594041245810101431, 23280999321973471, 7981353054742655500), (53914169383917653, 14786582467707163631, 23280999321973471, 6385082443794124400), (36606480780195217, 16063598956465988511, 23280999321973471, 10216131910070599040), (51578350805737389, 18106825338480108319, 23280999321973471, 8172905528056479232), (32863513273809674, 9229514097476769145, 60710674385828901, 17050216769059818406), (16431756636904837, 7383611277981415316, 38916890549250243, 17487308162661452351), (46700675070348444, 16787961932898838039, 11242566956172703, 4041478753872014814), (58375843837935555, 16787961932898838039, 22917735723759814, 6590775389677379459), (23188111855893819, 10669650006965962891, 34106227453505716, 15693451551743554945), (47728104372457663, 17569077545074163652, 8526556863376429, 3138690310348710989), (53707001208046333, 15815963887006056230, 48169892762464239, 14185362564200450093), (16887443080500392, 7956986877608028629, 36819558127545941, 17348555341601661339), (21109303850625490, 7956986877608028629, 41041418897671039, 15470241648802934797), (52773259626563725, 15913973755216057258, 15243383486179147, 4596699283999568193), (18764938070192289, 9053819576973191252, 23745463875272006, 11456853462242434199), (3446103066278143, 1330157138340789661, 45579247423067443, 17593078371121709754), (20871595288031754, 6444961378574079205, 45384270532704547, 14014255582359078971), (10435797644015877, 5155969102859263364, 28031894644837022, 13849596131855183691), (22661670127233071, 8957082149802152775, 38467692288852899, 15204452187771557644), (22661670127233071, 7165665719841722220, 42419197829257856, 13413035757811127089), (22661670127233071, 11465065151746755552, 26511998643286160, 13413035757811127089), (9405670805589991, 3806837818272953606, 42545669109697691, 17219873576084080695), (43666340339260757, 14138761963923402023, 42545669109697691, 13775898860867264556), (65779678316281902, 17039086977319309921, 20992666747458079, 5437786923735678329), (38838425363482387, 16096674833794629242, 23966959850128797, 9933161703946675979), (53709890876835977, 17808150370914066004, 8265613546726001, 2740562055609079739), (11361069332527494, 3013517663060997253, 64050206398684993, 16989283548558313462), (40154823931292173, 17041673473830716045, 11752150599973438, 4987602821586727033), (34767600215612884, 11804272211119013451, 29380376499933595, 9975205643173454066), (43459500269516105, 11804272211119013451, 38072276553836816, 10341018956762565943), (38700465700286503, 16818631746437908333, 23795172846148010, 10341018956762565943), (52101905338892752, 18114154304372976811, 37196612484754259, 12932064072632702899), (65127381673615940, 18114154304372976811, 24171136150031071, 6722820397231566957), (12337200052590442, 5490236264838532521, 32060426881658157, 14267363549391823538), (43788913559157573, 15589370696466087953, 12945913427681468, 4608898166789022911), (53498348629918674, 15236835457246284109, 16182391784601835, 4608898166789022911), (16016282790069044, 7298542007632161301, 37648174834382421, 17156089783192168630), (20020353487586305, 7298542007632161301, 37648174834382421, 13724871826553734904), (35633751638473581, 10392401248427143361, 28834264160984363, 8409365533674358482), (27575249663541338, 12867488641063129009, 12717260211119877, 5934278141038372834), (27040067353215942, 10094204441053226539, 39222145254010423, 14641840482086648138), (41229078917730658, 12312831801061148515, 26371089465309197, 7875577081045304563), (20614539458865329, 9850265440848918812, 27810226966920164, 13288587801878379423), (13661982717135288, 5222494792303459165, 34762783708650205, 13288587801878379423), (3415495679283822, 1044498958460691833, 57687065447601077, 17641386619849995370), (8538739198209555, 4177995833842767332, 33633929557871768, 16457045274086224645), (42693695991047775, 16711983335371069328, 8408482389467942, 3291409054817244929), (44470174566560728, 13925893254746366575, 21021205973669855, 6582818109634489858), (5558771820820091, 2785178650949273315, 32841996197688092, 16455222414735365769), (5558771820820091, 2228142920759418652, 41052495247110115, 16455222414735365769), (27793859104100455, 8912571683037674608, 42226061781493052, 13540501918440398953), (62268546421554839, 15973971271914259478, 38350374549473718, 9838157730118219477), (2371492298672131, 973387741389544210, 44380729738833951, 18216233848152122639)]
def nbP1 : List (Nat × Nat × Nat × Nat) := [(2371492298672131, 778710193111635368, 54883039098874406, 18021556299874213797), (17277998222726798, 4538763491708805201, 57254531397546537, 15040213194388679332), (43194995556816995, 18155053966835220804, 16473382627227484, 6923837976097232773), (34958304243203253, 11754507983029283534, 20591728284034355, 6923837976097232773), (62733320506822057, 16874944770074033350, 6704220152224953, 1803401189052482957), (27715132785198867, 11928368051096902967, 20412077848774544, 8785192521172255541), (37921171709586139, 13056771449346424590, 25515097310968180, 8785192521172255541), (37921171709586139, 10445417159477139672, 31893871638710225, 8785192521172255541), (10233705436256024, 4510211791451832695, 36100277004090335, 15910160404039626951), (2558426359064006, 902042358290366539, 50021640708187369, 17636481343349814315), (6396065897660015, 1804084716580733078, 60189182791223767, 16977058478533957655), (31980329488300075, 14432677732645864624, 19516271407015499, 8807665845448990765), (35096344008621219, 12671144563556066471, 19516271407015499, 7046132676359192612), (31201325858219789, 9011913273405478405, 42927560964432428, 12398814659614082951), (31201325858219789, 14419061237448765448, 11229062673660373, 5189284040889700227), (46180523246639351, 17073115307894451491, 21215194265940081, 7843338111335386270), (41814258358844128, 12367112441093219729, 21215194265940081, 6274670489068309016), (36895541150506629, 17459740247165226263, 10761629676229049, 5092627806072006534), (32667389342846975, 12367112441093219729, 17295107544798444, 6547524733076249173), (45638720001445808, 13822204792720325287, 21618884430998055, 6547524733076249173), (28524200000903630, 13822204792720325287, 10209204430636603, 4947157655833868562), (26497752215996024, 10272185937965742597, 34680508861725021, 13444334166422319814), (33122190269995030, 10272185937965742597, 47929384969723033, 14864341708324152890), (32683715161177652, 16217922621295403753, 15245669808545381, 7565024112023240871), (40854643951472065, 16217922621295403753, 31587527389134207, 12539188338136754198), (4633558281168929, 1471493713263459822, 53484247926406408, 16985161253324479375), (29853322396645446, 15168981956772574451, 6685530990800801, 3397032250664895875), (40659418491207208, 16527794857038532801, 6685530990800801, 2717625800531916700), (50824273114009010, 16527794857038532801, 6685530990800801, 2174100640425533360), (66873106887911663, 17397435113208746145, 6685530990800801, 1739280512340426688), (20898958213716373, 8699180555584820999, 25075190460478917, 10437535069964351834), (54380004107431337, 18108518884295787980, 1044058061690636, 347670902875906167), (68735802455677582, 18311195039071598221, 1305072577113295, 347670902875906167), (30887212673608993, 13165349183943862894, 18706287779587734, 7973358203475556115), (53835171959537815, 18357340164412169673, 9353143889793867, 3189343281390222446), (42714664942101828, 11652272754925346293, 29826794797023721, 8136548626828745359), (30931396751800046, 13500602554418204063, 39400859077772853, 17197262153403919603), (34429514776763654, 12021938714823917847, 42898977102736461, 14979266394012490279), (30056867245559144, 8396094300569779681, 64210549285886585, 17936594073201062711), (18785542028474465, 8396094300569779681, 34153682040327441, 15264799636210052848), (11101472022547977, 3969393306199714478, 41413119059912174, 14807491948039702123), (36610575306208119, 10472252491303707065, 30311647037364197, 8670478913471990116), (36610575306208119, 16755603986085931304, 23521101311628638, 10764929411732731529), (49035587631405019, 17953738900956571259, 35946113636825538, 13161199241474011439), (13089473994579481, 3834031727586047856, 51477379043321663, 15078215105267035367), (5018617364841838, 2352001397567059925, 35335665783846377, 16560245435286023298), (2509308682420919, 940800559026823970, 46935571199670779, 17597281646629451091), (2509308682420919, 752640447221459176, 60551445511404163, 18161761982045545473), (16037847492096122, 7696610811404988645, 35566999064183771, 17068708856443292527), (8018923746048061, 3078644324561995458, 44813417057195092, 17204873927795610035), (40094618730240305, 12314577298247981832, 51297972994539078, 15755552083807103839), (7222816116485383, 3549441005075543930, 31619793718989624, 15538619644774259993), (7222816116485383, 2839552804060435144, 46747558265222413, 18378172448834695137), (48653635540310047, 15302016830903096458, 54923413019251613, 17273919638233774399), (11379686700209816, 5726426170895102995, 27054130397563731, 13614037400217814759), (2844921675052454, 1145285234179020599, 44233158386140127, 17807022107142599868), (7112304187631135, 2290570468358041198, 51277026362357717, 16514147763125008859), (35561520938155675, 9162281873432164792, 43046549388021753, 11090769145042341845)]
def nbP2 : List (Nat × Nat × Nat × Nat) := [(27606769259850016, 11380435702440633161, 43046549388021753, 17745230632067746952), (34508461574812520, 11380435702440633161, 22341472443134241, 7367923084189817665), (43135576968515650, 11380435702440633161, 65477049411649891, 17274774169792487293), (42942155978796546, 18127048877452398037, 21954630463696033, 9267645054857736570), (42700379741647666, 14419990855509303409, 21954630463696033, 7414116043886189256), (64655010205343699, 17467285519516394132, 43607040630955966, 11780937423765287789), (10712872472466429, 4630726723053500095, 34027494270124912, 14708662633686650491), (10712872472466429, 3704581378442800076, 53247240310122569, 18413244012129450567), (53564362362332145, 14818325513771200304, 21346464431880464, 5905397629491570159), (32217897930451681, 14260684614847408232, 13341540269925290, 5905397629491570159), (12773563897744518, 4523194320040649261, 46127414572557743, 16333989579023789579), (58900978470302261, 16685747119251551072, 13483534362970483, 3819679239585126275), (31756786157824982, 14393939575500475307, 13483534362970483, 6111486783336202040), (46437749878766469, 16838534288834956123, 13483534362970483, 4889189426668961632), (52424896668621489, 15207600238130421880, 14980321060434238, 4345544743100783551), (22468924829926771, 10428584838352952303, 37450802651085595, 17382178972403134204), (33705333195795889, 12515024351112470983, 18727347276448530, 6953594134050181901), (12170829778785812, 3615290913634952013, 58989197969907137, 17522479181735315815), (15213537223482265, 7230581827269904026, 37101367596694701, 17633274259023204665), (9741579630179156, 3703926975465263093, 46842947226873857, 17810546382683826825), (59019921764597802, 17952364081612324553, 46842947226873857, 14248437106147061460), (25176714296155162, 12252989239153499969, 21666232930718695, 10544510130681798367), (44786034175105677, 17437153660538922526, 4538937891320557, 1767206204442019353), (14600711962266837, 4547754454772996117, 51896113381136459, 16164333727314069646), (35490032718875099, 17686803746492968209, 2023494373583987, 1008428145198032518), (27123398132552321, 10813767876935387429, 39537021466043073, 15762928029511226596), (33330209799297697, 10630678362578645610, 48847238966161137, 15579838515154484777), (33330209799297697, 17009085380125832976, 9698143229289650, 4949160152575839167), (14240569092326436, 5813802121535165357, 38485927165550561, 15712122426686843691), (17800711365408045, 5813802121535165357, 49166353984795388, 16057979214270574167), (30092299861606892, 7862637540082247119, 61457942480994235, 16057979214270574167), (37615374827008615, 15725275080164494238, 42013583688599702, 17563965895465807605), (41521457456771910, 13886584264863180871, 21006791844299851, 7025586358186323042), (20883760286342903, 5587551396247165391, 63266438648813449, 16927242640250961386), (31402535153237447, 13443041041295089981, 21191339181235273, 9071752995203036796), (5105597986001087, 1748515218436821274, 50425548960087639, 17269248381187662955), (31752379687525986, 8699395331547996413, 37976769445046537, 10404729789348707730), (10351044943442107, 4537503415808513321, 37976769445046537, 16647567662957932368), (51755224717210535, 18150013663234053284, 1730908653680054, 607011483106478481), (62140676639290859, 17433666049498339336, 33233974136745497, 9323844507855648149), (24211546781177158, 10868140971814584877, 23843662694009089, 10703004222941594994), (17974718042298834, 6454829883539554973, 47319441300850109, 16992697357608160084), (44936795105747085, 12909659767079109946, 64102836245597431, 18415772733414462985), (36098351471791607, 16592814313762002543, 28004484773805824, 12872422059701138233), (43099472665243063, 15848735862949829681, 35005605967257280, 12872422059701138233), (16845268189800103, 4955535454539180805, 60602275648871703, 17827957514240319038), (16845268189800103, 7928856727262689288, 27348129661919750, 12872422059701138233), (47364601210560081, 17835139587500758154, 28933731341339864, 10894995926725758655), (55987185169426255, 16865578716374239341, 7233432835334966, 2178999185345151731), (34792915693944591, 16769627739137393699, 18083582088337415, 8715996741380606924), (4177333401401794, 1610726199551357355, 44467243026267341, 17145998770457496791), (2088666700700897, 644290479820542942, 57907106697795479, 17862590305491148561), (32563472083222811, 16071753369616762787, 22120138579718326, 10917429531052419251), (21811770686540987, 8612187254057188965, 33488575762754828, 13222671808047649537), (21811770686540987, 6889749803245751172, 41860719703443535, 13222671808047649537), (31974359072337101, 16159739604339587631, 5012237254225637, 2533168801920759346), (6740530454527866, 2725314160483765657, 45282777634711783, 18308617689134334355), (31067051885515724, 10048761236137499399, 45282777634711783, 14646894151307467484)]
def nbP3 : List (Nat × Nat × Nat × Nat) := [(38833814856894655, 10048761236137499399, 53049540606090714, 13727267568273473867), (16339646289985003, 6764958008109694533, 34585973775316767, 14319322224435728270), (11778064418652062, 3901093563222548879, 46364038193968829, 15356551342771131495), (37904599620299492, 10043714100331001477, 46364038193968829, 12285241074216905196), (9984505570777641, 4233006881089877911, 37396243954596724, 15854421319572125043), (28682627548076003, 9728174032700752346, 46745304943245905, 15854421319572125043), (9825644425245526, 2666020155706026399, 64807982338415807, 17584534885154798192), (39537901094562076, 17164690545744819593, 14973790031448261, 6500609922920713997), (49422376368202595, 17164690545744819593, 5089314757807742, 1767549829187607279), (25983516873553233, 7219386184135449293, 64690320641625821, 17973872026646113144), (34136924839320776, 15175629673422945533, 27506809849803837, 12228200452814757745), (42671156049150970, 15175629673422945533, 27506809849803837, 9782560362251806196), (24421193937189661, 6948150079585311585, 64270467437450202, 18285791210251290029), (24421193937189661, 11117040127336498536, 34063743664108961, 15506531178417165395), (22010556505459836, 8015733891653065457, 34063743664108961, 12405224942733732316), (27513195631824795, 8015733891653065457, 50571661043203838, 14733620289178825127), (28626878186936233, 13344313224295827046, 25842671799157638, 12046465730168521259), (49400985230193759, 18422469015188696707, 5068564755900112, 1890154148382781937), (57003832364043927, 17006160190210295690, 6335705944875140, 1890154148382781937), (24542099966475001, 11714774003785454615, 32461732397568926, 15495082300551018489), (24542099966475001, 9371819203028363692, 28306115513723657, 10809172699036836643), (26424107740099329, 8072396760826080134, 57553234914259478, 17582147017660633219), (12623926440792062, 6170446709459169517, 31129127174160149, 15215600410935284936), (31559816101980155, 12340893418918339034, 43968398078862214, 17193044241400619105), (45923241695803727, 14365960292996306605, 21984199039431107, 6877217696560247642), (29923803320465775, 14977485192872117926, 7999719187668976, 4004025637960986321), (41923382101969239, 16786818919850877926, 9999648984586220, 4004025637960986321), (56922855578848569, 18234285901433885926, 12499561230732775, 4004025637960986321), (64566373837918783, 16546207434005712405, 42354726663860886, 10854103328616552563), (43906152427052067, 18002691184380604646, 10330110705433358, 4235620355014267601), (29700659242601052, 9742448686760802419, 55525936006184447, 18213689396789337621), (37125824053251315, 9742448686760802419, 48100771195534184, 12622461780079309613), (43138420452693088, 18112410254833145793, 30062981997208865, 12622461780079309613), (53923025565866360, 18112410254833145793, 40847587110382137, 13720451475030076849), (67403781957332950, 18112410254833145793, 13886074327448957, 3731397078090803162), (21804899652137617, 9374887321663566211, 37680056980506673, 16200317089351185906), (53461447611396389, 18388345937128929698, 3968789332092264, 1365085953537523939), (65367815607673181, 17986883038193201212, 4960986665115330, 1365085953537523939), (28124297231567204, 12382079838719871453, 40526763894355529, 17842423652869967209), (35155371539459005, 12382079838719871453, 26464615278571927, 9321106986808025186), (54905746374410277, 15470690376846214997, 11059618574064194, 3116248224340840821), (30217777830721187, 13623051591213308326, 28933412132940836, 13044022244288335805), (49821946688313009, 17968944080845893050, 7233353033235209, 2608804448857667161), (39580560546710286, 11420202162742180093, 36166765166176045, 10435217795430668644), (37193337013772181, 17170264268612865869, 8188242446410451, 3780093371247662878), (3157152418635207, 1165996830973975447, 47255517069322669, 17452367146938602406), (44123806953238821, 13036613316305907427, 53569821906593083, 15827488647109242640), (7488696130801857, 3540120128040361843, 38592429644989369, 18243741579294064538), (45219414032556163, 17101204802412187911, 7775933378546878, 2940724290250740539), (36217590428735118, 10957495927315911919, 55657423875102313, 16838944507817392997), (35884830870735209, 17370913236968049023, 18774314330367377, 9088157235327549630), (40162460005827167, 15553281789902539097, 18774314330367377, 7270525788262039704), (57510484934968216, 17817171118257714789, 4040120746318741, 1251659114976716003), (32795363213802849, 16256391478568917436, 29646673343250563, 14695611838880120083), (17184854074539496, 6814712519365326445, 43682837547237773, 17322578278718384629), (4296213518634874, 1362942503873065289, 55158074028063653, 17498497967697057534), (10740533796587185, 5451770015492261156, 26141132373091176, 13268934704894923343), (38756884483034349, 15738034978160411443, 23811099983132773, 9668989894351778262)]
def nbP4 : List (Nat × Nat × Nat × Nat) := [(31283992233083561, 10162809949004875882, 43885753841290152, 14256574814201118583), (20312553772761023, 5278932996363676989, 54857192301612690, 14256574814201118583), (41886331459345905, 17417023163980943351, 3558021189022661, 1479483528589505842), (49002373837391227, 16300792176927964028, 16698119945626133, 5554681572821496849), (49548366837134813, 13185934758156981830, 66519483282632739, 17702330524721484613), (26554327349414906, 11306725943223875413, 22994039487719907, 9790769669827295515), (44689928930628586, 15223033811154793619, 22994039487719907, 7832615735861836412), (67587720802989713, 18418291254836072862, 324537511202807, 88439532113775841), (27687802448240761, 12072299610387303886, 14655245002127398, 6389907933648755307), (10180089973588531, 3550938257425170493, 46818202478907026, 16330754124722681107), (26974685580109553, 7527276733854740813, 56998292452495557, 15905353905718281280), (9734391931006526, 4346205952711084557, 37529508590482505, 16756154343727080934), (45534332105509199, 16264114833455218399, 21198352277992884, 7571702928033049285), (63384430373101144, 18111901180015968029, 5299588069498221, 1514340585606609857), (13222641866135864, 6045325172973769377, 39720582213626969, 18160049857826648233), (16528302332669830, 6045325172973769377, 36414921747093003, 13318974851666564711), (55396141122053619, 16209175252019410763, 14075385290379044, 4118524906071872009), (22419801077134668, 10496225257972405405, 17594231612973805, 8237049812143744018), (5604950269283667, 2099245051594481081, 48736506179883356, 18253483887413608505), (40208877891389174, 12047676983860646025, 52393004436360013, 15698373761343367726), (20104438945694587, 9638141587088516820, 30308487390484489, 14529999745281831017), (20104438945694587, 7710513269670813456, 42911718974529258, 16457628062699534381), (19428728674909566, 5961090311065069271, 42236008703744237, 12958782145488046011), (35689550858054293, 17520334089668519934, 29248415443444482, 14358320512372641359), (46222222426220319, 18152736805127695649, 39781087011610508, 15623125943290992789), (56167494179122946, 17646814632760355077, 49726358764513135, 15623125943290992789), (23703576666695453, 11915578707830611522, 19452526463518652, 9778613303868468131), (33429839898454779, 13443908287811876470, 24315658079398315, 9778613303868468131), (55466952523088978, 17844958276555594013, 22037112624634199, 7089831646306092837), (30581658079999634, 7871042307410919273, 46922407067723543, 12076789630878430207), (44694066781345302, 18405222613160394293, 262479986931023, 108090467904820519), (18916676309801504, 6231979565185843107, 39145752554258123, 12896321001990968290), (62791597941510003, 16549036366778617739, 39145752554258123, 10317056801592774632), (14778653367032425, 6231979565185843107, 30278560534038668, 12768103143436933547), (22348293500542092, 7539204280836061195, 37848200667548335, 12768103143436933547), (5587073375135523, 1507840856167212239, 66325389084760169, 17899913738069064930), (27935366875677615, 12062726849337697912, 39717961370732338, 17150550453118723137), (31973559970833338, 11045162128581492867, 43756154465888061, 15115421011606313047), (45858247211069034, 12673265681791420939, 57640841706123757, 15929472788211277083), (37180317685921724, 16440089111940046857, 40284982655829137, 17812884503285590042), (49580062077309568, 17538325425016481405, 3104664969907413, 1098236313076434548), (12395015519327392, 3507665085003296281, 65103386926846633, 18423605592318923316), (7746884699579620, 3507665085003296281, 37214602008360001, 16850174641698410694), (9683605874474525, 3507665085003296281, 44961486707939621, 16286271781361365580), (48418029372372625, 14030660340013185124, 47553893706264374, 13780249611282161959), (30369285315996422, 14080742485759389757, 29505149649888171, 13680085319789752693), (8024389162053231, 2976411363539732777, 43825656641778131, 16255839517359848406), (24999095194037687, 7418143812427595569, 59874434965884593, 17766929795551451168), (14389903924047402, 6832015378288343563, 38656052425904023, 18353058229690703174), (35974759810118505, 13664030756576687126, 15730550231940161, 5974820216218612557), (30913707415573919, 9393382497189734787, 36522152858424908, 11097554454021395005), (36196846573206776, 17597931971520428139, 9130538214606227, 4439021781608558002), (27310288072514148, 10622021244877778431, 45652691073031135, 17756087126434232008), (34137860090642685, 10622021244877778431, 31997547036774061, 9956061203196274234), (34405399222376263, 17128426000140746329, 33067703563708373, 16462465958459242132), (17537123525855104, 6984562408392599371, 31730007905040483, 12637204733422190348), (21921404407318880, 6984562408392599371, 44882850549431811, 14300501231773311901), (13700877754574300, 6984562408392599371, 22961446142112931, 11705502117409140048)]
def nbP5 : List (Nat × Nat × Nat × Nat) := [(17126097193217875, 6984562408392599371, 33237104458043656, 13555139138962871661), (25435373307728789, 8298677754506653829, 41546380572554570, 13555139138962871661), (48539655104731826, 12669441133200558927, 66981753880283359, 17483053514775620392), (25726759746569508, 10743996180570534341, 44168858522121041, 18445775991090632685), (32158449683211885, 10743996180570534341, 44168858522121041, 14756620792872506148), (67319501576151059, 17992918811373249307, 41166256312393752, 11002771711837610557), (26153245263757307, 11184235359257022000, 25728910195246095, 11002771711837610557), (51776071691875599, 17713312927391823757, 25622826428118292, 8765924639986206157), (58181778298905172, 15923835269910700237, 32028533035147865, 8765924639986206157), (26153245263757307, 11452657007879190528, 23286988804937079, 10197506765971104973), (716564114705057, 251030048381617111, 51944173701230265, 18197322709538879902), (31437569378962784, 8810683538569088467, 59292318184400283, 16617246883611708490), (19648480861851740, 8810683538569088467, 39643837322548543, 17776911475209645117), (24560601077314675, 8810683538569088467, 44555957538011478, 15983665887881533787), (25701912231469143, 7376087068706599403, 45697268692165946, 13114472948156555659), (12137636644388029, 5573329417113950893, 29279715219698662, 13444585872828566385), (37664020415894738, 13835576008793615063, 14639857609849331, 5377834349131426554), (2096076299049019, 615981462106152391, 62718906554001560, 18431430085994944261), (14128092216397252, 6642997035308520329, 31903895153946661, 15001139409076341859), (17660115270496565, 6642997035308520329, 35435918208045974, 13329510934322777553), (61287506095643751, 18443038001002429330, 28921916763211, 8703372741147379), (22082374567311509, 10632276605590091478, 33195866642875291, 15983228399349726733), (46870817361605936, 18053982134924401803, 5556746037781891, 2140380717503854102), (46266605096768234, 14256998428960807645, 40105646794148641, 12358506575979010566), (23133302548384117, 11405598743168646116, 21215430307205655, 10460014722997213487), (45307668976179003, 17870724381001260734, 10128247093308212, 3994889085164598869), (47839730749506056, 15095557321833928361, 12660308866635265, 3994889085164598869), (29899831718441285, 15095557321833928361, 30600207897700036, 15449156929363715207), (0, 0, 0, 0), (0, 0, 0, 0), (0, 0, 0, 0), (0, 0, 0, 0), (0, 0, 0, 0), (0, 0, 0, 0), (0, 0, 0, 0), (0, 0, 0, 0), (0, 0, 0, 0), (0, 0, 0, 0), (0, 0, 0, 0), (0, 0, 0, 0), (0, 0, 0, 0), (0, 0, 0, 0), (0, 0, 0, 0), (0, 0, 0, 0), (0, 0, 0, 0), (0, 0, 0, 0), (0, 0, 0, 0), (0, 0, 0, 0), (0, 0, 0, 0), (0, 0, 0, 0), (0, 0, 0, 0), (0, 0, 0, 0), (0, 0, 0, 0), (0, 0, 0, 0), (0, 0, 0, 0), (0, 0, 0, 0), (0, 0, 0, 0), (0, 0, 0, 0)]
def nbP6 : List (Nat × Nat × Nat × Nat) := [(0, 0, 0, 0), (0, 0, 0, 0), (0, 0, 0, 0), (0, 0, 0, 0), (0, 0, 0, 0), (0, 0, 0, 0), (0, 0, 0, 0), (0, 0, 0, 0), (0, 0, 0, 0), (0, 0, 0, 0), (0, 0, 0, 0), (0, 0, 0, 0), (0, 0, 0, 0), (0, 0, 0, 0), (0, 0, 0, 0), (0, 0, 0, 0), (0, 0, 0, 0), (0, 0, 0, 0), (0, 0, 0, 0), (0, 0, 0, 0), (0, 0, 0, 0), (0, 0, 0, 0), (0, 0, 0, 0), (0, 0, 0, 0), (0, 0, 0, 0), (0, 0, 0, 0), (0, 0, 0, 0), (0, 0, 0, 0), (10740610678981295, 5446136629611347657, 28063059048330888, 14229661458742757737), (35946677953842458, 14581704923007760955, 17756375441064017, 7202841595437629673), (17973338976921229, 5832681969203104382, 53377608091120657, 17322024175476811537), (63313493048956574, 16437122553048193235, 8851067278549857, 2297868441254741431), (18978020729306893, 7883161393119121509, 44255336392749285, 18382947530037931448), (44295404356199483, 14719672888718367646, 25297349645167491, 8406486341879059195), (49044918033957481, 13038375620342555807, 25297349645167491, 6725189073503247356), (15229675557088119, 6477987557504884013, 32009132370553739, 13615179157672070274), (34654215317542643, 11792218412041251673, 27814268167187334, 9464705006104218967), (66002076951349156, 17967474373362407223, 3533593466619179, 961935638846030711), (22983982123446344, 10010936112940619765, 36534631942293757, 15913076520843574916), (5745995530861586, 2002187222588123953, 50515262501652307, 17601999963847448745), (14364988827153965, 4004374445176247906, 61170103318711066, 17051736098479599263), (24674961946257538, 11005400782938572609, 22475020243254749, 10024193995532838030), (42081212554449297, 15015078381151707821, 22475020243254749, 8019355196426270424), (32278116398852023, 9213773431031191298, 40048492408710861, 11431823677336945199), (7098232098480651, 3241899323151325739, 33622404221608397, 15355999631525667082), (38573087473944866, 14093657625019640929, 41655014455486477, 15219717957433978902), (62880012607091099, 18379848276130291733, 11184235359257022, 3269155657969663375), (38057162581557169, 17798593736036535891, 5592117679628511, 2615324526375730700), (48969482646853589, 18321658641311682031, 5592117679628511, 2092259621100584560), (57017765048845603, 17066302868651331295, 5592117679628511, 1673807696880467648), (35224882560818317, 16869367328743338406, 31592735479480436, 15129914451893539795), (41855287016299732, 16035760178535318321, 7898183869870109, 3025982890378707959), (42056557233555369, 12890297284918929133, 39490919349350545, 12103931561514831836), (1603523677628015, 786365723404097297, 36604576729620118, 17950832196296355803), (11556429698847052, 4533805307344187917, 38208100407248133, 14989758335760362480), (52653637530806948, 16525611975952477901, 38208100407248133, 11991806668608289984), (28250010376689091, 14186255132816546581, 12522345512273198, 6288322939696136407), (10994418810276246, 4416837465187391351, 42300282590959241, 16993483344579664165)]
def nbP7 : List (Nat × Nat × Nat × Nat) := [(34893164808324928, 11214230803019257017, 42300282590959241, 13594786675663731332), (43616456010406160, 11214230803019257017, 51023573793040473, 13118675501134836469), (27260285006503850, 11214230803019257017, 18311231785235853, 7532803838192629930), (43230972150747739, 14227352338296308989, 18311231785235853, 6026243070554103944), (12459870182755943, 3280443707096882018, 64467884737223547, 16973151701753530915), (43595746686576664, 18364671962261188759, 271066727930479, 114186633253824165), (54494683358220830, 18364671962261188759, 271066727930479, 91349306603059332), (59439083381903434, 16024745179204364649, 20264805673851943, 5463380801872200659), (39174277708051491, 16898183003731462384, 7768718832651028, 3351107926405767861), (46942996540702519, 16199432744109784196, 9710898540813785, 3351107926405767861), (18616048999944367, 5139329927081606534, 52201319851951013, 14411210743433945523), (36776244606403473, 16244499959098966093, 17248488819488584, 7618860460644046007), (32464122401531327, 11471827875150363673, 21560611024360730, 7618860460644046007), (54024733425892057, 15272550668635527744, 53963130493396941, 15255135794961809879), (15400733123779, 6965949469487146, 40770845014393215, 18441177047607059591), (33751982749699229, 12213164370279781193, 33674979084080334, 12185300572401832609), (42286233019147655, 12241028168157729777, 25294736145869698, 7322325862592278999), (39028136418890324, 18076597819929194109, 24208703945783921, 11212705630439921887), (48785170523612905, 18076597819929194109, 4694635736338759, 1739525376380259866), (56746530708233701, 16821246330050305306, 13369951564987916, 3963224639261890795), (36577958196304414, 17348354865501397207, 3342487891246979, 1585289855704756318), (47583100298416362, 18054337645584037567, 16712439456234895, 6341159422819025272), (57216429061677971, 17367590134744055462, 13172884109748252, 3998523778266022813), (26961604017120454, 13094367352142039807, 16466105137185315, 7997047556532045626), (46506888142425519, 18069496973702335568, 1492651564312544, 579945552184410289), (58448100656925871, 18167249112942094304, 1865814455390680, 579945552184410289), (36758007613009216, 18280611310077319511, 1166134034619175, 579945552184410289), (33538746256553883, 13343678266748794810, 19684708214824879, 7831730237743217983), (33538746256553883, 10674942613399035848, 49759944960946511, 15837937197792494869), (25428146904357569, 12949512513923690140, 22852322642424177, 11637750841355304091), (25428146904357569, 10359610011138952112, 22208366576940829, 9047848338570566063), (23818256740649199, 7762983339883807270, 43611788072027473, 14214205007199228491), (23818256740649199, 6210386671907045816, 60469299275196641, 15766801675175989945), (37100568979317668, 15477799680685939459, 7789576765292991, 3249694333198548151), (44890145744610659, 14981995211107590088, 43404580265074233, 14486190741529240717), (47861276703683511, 12778883320211431064, 22073681502421223, 5893637190527366161), (34967479103052367, 14938016408591037780, 18850232102263437, 8052770278906972877), (34967479103052367, 11950413126872830224, 32304659903592388, 11040373560625180433), (59195974030746658, 16184554637873372439, 40380824879490485, 11040373560625180433), (34989405947431907, 15306120703649493322, 13478547330146445, 5896192483376988427), (10755429308642731, 3763971288109001958, 49829512288330209, 17438341898917479791), (47412523325171428, 13273993728866901049, 41047900107129201, 11492102305297794266), (30070884880627941, 13470221260804091692, 14597384637918172, 6538883098464855203), (44668269518546113, 16007283487415157516, 18246730797397715, 6538883098464855203), (49704230955369629, 14249573113123889250, 20764711515809473, 5952979640367765781), (36174399299450195, 16593186945512246938, 6764915827959717, 3103065017742987931), (49704230955369629, 18239453584798578240, 45734318001476868, 16782655206341921611), (49704230955369629, 14591562867838862592, 57167897501846085, 16782655206341921611), (36642814499035831, 17211442040733614894, 4664791591547785, 2191092338503059019), (35645496159485497, 13394394498344451563, 19656484705741474, 7386254617452229213), (48554123062792877, 14596022474522896033, 32565111609048854, 9789510569809118153), (32344953345963551, 15557324855465651609, 16355941892219528, 7866905807923607001), (28255967872908669, 10872478722787799887, 20444927365274410, 7866905807923607001), (19239215777772937, 5922372650699841355, 51112318413186025, 15733811615847214002), (19239215777772937, 9475796241119746168, 19920689147133180, 9811438965147372647), (14259043490989642, 5618349199866322405, 39159904924906117, 15429788165013695052), (7129521745494821, 2247339679946528962, 51557870966548956, 16251868410374951851), (35647608727474105, 17978717439572231696, 17139016489060851, 8643988913946659879)]
def nbP8 : List (Nat × Nat × Nat × Nat) := [(13196656304133739, 5324541270703778315, 32908457228769299, 13277790572971526256), (13196656304133739, 4259633016563022652, 51033063764061928, 16472515335393793245), (65983281520668695, 17038532066252090608, 12758265941015482, 3294503067078758649), (18090603622794109, 7474313439916587973, 31895664852538705, 13178012268315034596), (21541868930230258, 7120190517612959703, 38798195467411003, 12823889346011406326), (53854672325575645, 14240381035225919406, 24784564966263066, 6553593841927154471), (29070107359312579, 12298859509278023896, 22757879943742561, 9628308719246660445), (42027104185076364, 14224521253127355985, 22757879943742561, 7702646975397328356), (10506776046269091, 2844904250625471197, 61255519487367350, 16586066648461957439), (42473388382638163, 18400730746119363558, 5030245924353646, 2179251629442203009), (22494255672407493, 7796142624336186025, 35069870483291608, 12154645883220592043), (66331593776522003, 18391559982689540863, 43837338104114510, 12154645883220592043), (33021900233173442, 14649411523008171571, 10527644560765949, 4670348963857853459), (19502602894497107, 6921507328261761559, 43549544793939391, 15455808389492820024), (61442601623322109, 17444868039569776078, 6011735474860571, 1706860212246211693), (14443527612133406, 6561321989957136263, 30058677374302855, 13654881697969693544), (36108819030333515, 13122643979914272526, 47527275814451591, 17272332261110722691), (60650298918427777, 17633194357606908718, 2854614196029519, 829937656239290033), (25065799315484276, 11660027902666424067, 39338870295631871, 18299529152580744331), (31332249144355345, 11660027902666424067, 26805970637889733, 9975612160998025838), (34726958024204554, 10338671767134178191, 29069109891122539, 8654256025465779962), (11608147225806204, 5529436763613147623, 29264077197550655, 13939680567594763466), (14510184032257755, 5529436763613147623, 35068150810453757, 13363519159521069822), (60156336450610897, 18339155869825747003, 12394583710677878, 3778591184626843489), (16588407076487459, 8091380584855667499, 30986459276694695, 15114364738507373956), (29577301102923109, 11541612105038726707, 23787433176591077, 9282298129345216582), (1447466981583008, 451862795138702025, 58143552656469049, 18150955121555381278), (180933372697876, 90372559027740405, 36868241387225217, 18414940656523262009), (45233343174469, 18074511805548081, 46153343538123290, 18442129060143660581), (226166715872345, 72298047222192324, 57608495907727499, 18415538031189308515), (1130833579361725, 578384377777538592, 35613255669929278, 18215015097898518827), (29823735135674232, 12203091810687274927, 24169567238865607, 9889554299577120559), (39081434806702723, 12792880163936606418, 40883200693812656, 13382668517185937909), (67942069439952282, 17792074558861382687, 59523035153609051, 15587371538023660298), (10597517251579843, 4440296120107365493, 42684966580922589, 17884744794157144832), (52987586257899215, 17761184480429461972, 13320620958125608, 4465008182852902065), (68458772157143357, 18357641364053603521, 3330155239531402, 893001636570580413), (38344432691298527, 16451673238641361621, 8325388098828505, 3572006546282321652), (48311074691549031, 16582287625047045274, 44969007592845778, 15435156905088165941), (64566427237815355, 17729418345005924607, 9571218348859818, 2628179093034081455), (38833953771007490, 17061583038773279029, 4785609174429909, 2102543274427265164), (26458120553256554, 9299437776150998265, 50386166425406099, 17709610873860058921), (13229060276628277, 3719775110460399306, 53205584542059724, 14960458640187921659), (40972422490585793, 18433139673874833096, 36167929443327, 16271639669264887), (49455262337221899, 17799596955334416053, 16545367328146178, 5954894504670491867), (53682023992866761, 15456691088672455035, 41363418320365445, 11909789009340983734), (34540140541746703, 15912254950269435329, 19141883451120058, 8818450791606492727), (22055541133653366, 8128592138429072677, 47854708627800145, 17636901583212985454), (55138852834133415, 16257184276858145354, 29441239597313414, 8680479060971008717), (34929736316395061, 16477939045874919770, 19336681338444237, 9121988599004557549), (34929736316395061, 13182351236699935816, 15438417593956531, 5826400789829573595), (47521774793982959, 14347631394665850535, 15438417593956531, 4661120631863658876), (36395407353058073, 17581427172673894549, 3708789146974962, 1791594352930488769), (20979295536760258, 8107527480827851081, 30251268404197663, 11690716186688828619), (51839401391429283, 16026824947834522961, 51230563940957921, 15838594934013343760), (26376328783568163, 13047335974853033410, 12427117578694879, 6147207959784158303), (35316143561044721, 13975609544695978349, 44255958338521279, 17513350309509529970), (10953210697414942, 3467599358990260367, 55209169035936221, 17478279606597884343)]
def nbP9 : List (Nat × Nat × Nat × Nat) := [(27383026743537355, 13870397435961041468, 9694838247453452, 4910752227244997517), (37077864990990807, 15024919730564831188, 12118547809316815, 4910752227244997517), (24598206400153811, 7974268783123931482, 42595472723368943, 13808638846051960775), (62694362542718971, 16259452090755107947, 42595472723368943, 11046911076841568620), (33859542498778239, 14050069875386794223, 42595472723368943, 17675057722946509792), (27307594830335211, 9065063191773606037, 38227507611073591, 12690051039333321606), (35497529415888996, 9427043261954714171, 49147420391811971, 13052031109514429740), (41984157458885882, 17839504898252598721, 2387754310975363, 1014581625656829621), (32681995249652093, 11109535589214291081, 25767587351393667, 8759132560351966882), (50751594849042746, 13801523312829614137, 61906786550174973, 16835095731197936050), (16243050143107973, 7067485020350439717, 29420686263959027, 12801183129215818246), (4827116041341223, 1680254386367100181, 52252554467492527, 18188413763199157782), (16683475647879049, 4645835384460091665, 59281798032689130, 16508159376832057601), (16683475647879049, 7433336615136146664, 32880254858460944, 14649825223048020935), (50537123380934301, 18013486282106169908, 8220063714615236, 2929965044609604187), (58757187095549537, 16754761061372619276, 10275079643269045, 2929965044609604187), (23318330116239707, 10638849645745492403, 32670686149608213, 14905806549455939434), (9321076049777727, 3402148477556107555, 42023042182976719, 15338210762533109172), (9321076049777727, 2721718782044886044, 59519609766054194, 17379499849066773705), (19091296282978933, 8919337533903126829, 29759804883027097, 13903599879253418964), (47448192714677927, 17734005692351455630, 2667127150012041, 996852469070058427), (28531592866244738, 8531063483820583261, 41867228616304943, 12518473360100816969), (232540170765541, 111248746252023169, 38540818087670564, 18438180713747066215), (36710921851250857, 14050197060620216626, 17774110498711576, 6802601037806061975), (59135835765273253, 18106222430766919444, 4443527624677894, 1360520207561212395), (36705250849914204, 17981474080213592795, 2221763812338947, 1088416166048969916), (42502769897562756, 16657288808630357551, 11108819061694735, 4353664664195879664), (55060968721169629, 17263184687152886435, 55544095308473675, 17414658656783518656), (26926576126454757, 13507599810461044706, 14067196297357436, 7056747844491786795), (43196104699450451, 17335310450486887490, 3516799074339359, 1411349568898357359), (41571018075332004, 13346509072385879011, 17583995371696795, 5645398275593429436), (51963772594165005, 13346509072385879011, 27976749890529796, 7185620434951919351), (29478980033398727, 12114331344899087079, 34970937363162245, 14371240869903838702), (13366500684258484, 4394350632958684507, 53829395377184247, 17696870948885556767), (16708125855323105, 4394350632958684507, 57171020548248868, 15036366885700182315), (34623937069776654, 14570129154694701565, 14292755137062217, 6014546754280072926), (44387872110099706, 14943119339499086165, 27075903575211379, 9115067677621205539), (22193936055049853, 5977247735799634466, 56592790910503521, 15241511487342593845), (6797111170593218, 2928945438331115697, 36201457398723867, 15599582064754803061), (50387006759679719, 17369825491560160873, 33394228833196674, 11511934614897929479), (33542060588139028, 9250317119603650245, 49943511494852657, 13773552110192208713), (8385515147034757, 3700126847841460098, 36810869693266694, 16242876538433503823), (41927575735173785, 14800507391365840392, 38552020437938323, 13608930481642789039), (63735252427069543, 17998924251583618741, 18432121394660296, 5205256810712505345), (39890426041110738, 18024179193426320579, 2304015174332537, 1041051362142501069), (41076811363766934, 14848190549824275661, 11520075871662685, 4164205448570004276), (43578557425208837, 12602004937641717106, 50589468391761131, 14629413365960867105), (8265547743845099, 3824356918065196843, 34058372904070933, 15758347549406993682), (41327738719225495, 15297427672260787372, 10580980161979008, 3916540893494438105), (61150216368916115, 18107760860604330333, 2645245040494752, 783308178698887621), (38334977894648879, 18162764510922279363, 1653278150309220, 783308178698887621), (47841327258926894, 18133429230752706547, 2066597687886525, 783308178698887621), (52258986728518961, 15846293433853188197, 10332988439432625, 3133232714795550484), (15573738225568417, 7555784487484408317, 36091203971594708, 17510077230879995555), (41777487156247377, 16215076165233636824, 9022800992898677, 3502015446175999111), (25400144074573027, 7886836644563854374, 35257074519533206, 10947449214633925409), (29285947481976239, 14549428261099680334, 19571438963468209, 9723204186605896995), (41500294093337351, 16494069098420859733, 19571438963468209, 7778563349284717596)]
def nbP10 : List (Nat × Nat × Nat × Nat) := [(54822137824672855, 17431011498272284274, 4303505699266819, 1368324189886658611), (29562821761969837, 15039468550527154308, 12770087564575983, 6496515517405105799), (33936542227848893, 13811606041096988682, 14956947797515511, 6087228014261717257), (9489797215166691, 3089751210734108570, 51627065316538814, 16809082844624597369), (9489797215166691, 2471800968587286856, 69278730253256863, 18044983328918240797), (12218515237344617, 5092077246936020273, 38080620585578864, 15870132979853847063), (39353905802983752, 13120620594224495461, 21738670383739333, 7247688393519585631), (31577146834485271, 8422274833660567597, 45539058249726123, 12146203906757207330), (14043334490337529, 5993034052309126131, 31495723759388594, 13440892198502405597), (54023662252798349, 18443804652476721851, 852263694678384, 290964818776830667), (67446815443982897, 18421200438569443885, 1065329618347980, 290964818776830667), (35720900756393911, 15609854807186047109, 37052562779328886, 16191784444739708443), (8597309683364734, 3005585033926477155, 49644858531498545, 17355643719847031111), (4298654841682367, 1202234013570590862, 61781651124352041, 17278894242920494723), (21493274208411835, 9617872108564726896, 29753312454166136, 13314097759862944013), (36369930435494903, 13019936790796959122, 37191640567707670, 13314097759862944013), (63852805795169272, 18286743700928939749, 9708765208033301, 2780483939598982759), (39908003621980795, 18286743700928939749, 25671966656825619, 11763471783729948314), (3559009241288794, 1304654383439798287, 50061629975774627, 18351490699244230942), (8897523103221985, 2609308766879596574, 54392641228519864, 15951315210400361071), (24594126360008953, 11540051096094781251, 29294763563916934, 13745683153247571161), (34268135852942177, 12863430330386455197, 38968773056850158, 14627935976108687125), (56443759839717824, 16950099075107698119, 19484386528425079, 5851174390443474850), (35277349899823640, 16950099075107698119, 19484386528425079, 9361879024709559760), (44096687374779550, 16950099075107698119, 19484386528425079, 7489503219767647808), (20766365107907427, 6385821102928598747, 55889202426310541, 17186370673213393738), (36758203947096413, 18085500336830000497, 9581945941777246, 4714438355228398497), (25565561429881141, 10062863147869039297, 23954864854443115, 9428876710456796994), (50325774572043269, 15846986461625565954, 11574758283362051, 3644753396700270337), (34850641358191939, 17558482395270571010, 3837191676436386, 1933257463055265281), (34850641358191939, 14046785916216456808, 22221810274641452, 8956650421163493685), (52033250280431709, 16777881811746455018, 5555452568660363, 1791330084232698737), (69951701398876648, 18044483053057420647, 27777262843301815, 7165320336930794948), (43719813374297905, 18044483053057420647, 10289337493582653, 4246719317866303658), (41788094850894065, 13797763735191116989, 27004575433940279, 8916480948369489722), (61400910576357451, 16218882632119834462, 36810983296671972, 9723520580679062213), (26099082376094729, 11030401989560055127, 19914646744745236, 8416639171798069299), (16141759003722111, 5457665922928816382, 41035067434653656, 13874305094726885681), (36659292721048939, 9915854776233807378, 51293834293317070, 13874305094726885681), (2753093893597601, 1191480891548145815, 40135581138169443, 17369831849366876644), (2753093893597601, 953184713238516652, 50857749896111204, 17608128027676505807), (56763939771589417, 15722389934988314307, 42998470303601412, 11909651082034247699), (35264704619788711, 15628103030353904732, 9241691629856527, 4095599566857295333), (22253198124822619, 7889481038884480026, 34230828137052627, 12135939653156830679), (41511988746587736, 11773877939360697911, 28242013130937623, 8010168276816524282), (25944992966617335, 11773877939360697911, 23053014537614156, 10461493655034299269), (20181739332213796, 7326803620481698475, 48998007504231491, 17788297275515997744), (5045434833053449, 1465360724096339695, 63354383531233291, 18400203034595761956), (5045434833053449, 2344577158554143512, 35181734228099039, 16348698020860886383), (25227174165267245, 9378308634216574048, 35283966430555367, 13116963670099580027), (15127785148955653, 4499054460863230815, 55397550961131611, 16475418993492473588), (15127785148955653, 7198487137381169304, 28950549919848887, 13775986316974535099), (34363771679665824, 13081474438843665449, 41275154065112441, 15712474110681011767), (42954714599582280, 13081474438843665449, 24093268225279529, 7337389513007343234), (26846696624738925, 13081474438843665449, 34831946875175099, 16972412996349215354), (45157303373147834, 17602884051175121107, 3992625125218087, 1556375423002219962), (55827415718560354, 17409782291914840497, 25263513781550263, 7878427994641240115), (15944499487937524, 7955668698345352359, 25263513781550263, 12605484791425984184)]
def nbP11 : List (Nat × Nat × Nat × Nat) := [(19930624359921905, 7955668698345352359, 29249638653534644, 11675521572809857819), (27243034023305566, 8699639273238253451, 36562048316918305, 11675521572809857819), (1075625679510011, 549574934819008943, 35838814672963585, 18311309048382745514), (32440354009866941, 13259932915398394790, 13531112806158443, 5530816588061179509), (32440354009866941, 10607946332318715832, 25023979510164789, 8182803171140858467), (1854093624925538, 485028632235571473, 69497088803057805, 18180353717496289678), (41245727621680753, 17263731311051288215, 36610493559366908, 15323616782109002323), (41245727621680753, 13810985048841030572, 45763116949208635, 15323616782109002323), (21752211142722347, 5826920366190006579, 54797895604264399, 14679104198915956660), (6745395013668417, 2891099526406815247, 41307105576927565, 17704367665451900162), (42367402709156872, 14527051733436277971, 51007830349971659, 17489705361245294954), (52959253386446090, 14527051733436277971, 40415979672682441, 11086353942308980369), (19511450203493347, 8563378926276349270, 36931891427817592, 16209035077458032037), (19511450203493347, 6850703141021079416, 46164864284771990, 16209035077458032037), (65418413567432903, 18375348900587174126, 1785490969446324, 501525759083174641), (39627984290320957, 17809738826785422075, 2231863711807905, 1003051518166349282), (25393651424680241, 9129998567046867394, 43670136416540124, 15701100886902999655), (61463052498591019, 17678673203903869990, 10917534104135031, 3140220177380599931), (859422747239483, 395514463400174067, 39977483817603944, 18398015541241840309), (27723546633957319, 10206910352977989406, 39436763082837271, 14519336602666635975), (24795242521737331, 7303043032444662211, 39436763082837271, 11615469282133308780), (10567431190731173, 4979949176018000455, 28869331892106098, 13604801675395293593), (10567431190731173, 3983959340814400364, 41370380460498209, 15596781345802493775), (47103768207077037, 14206631219949798238, 44237074333787623, 13342028148295896629), (12134278785930436, 5855573102310699617, 29236101674567773, 14108307020316492415), (15167848482413045, 5855573102310699617, 44403950156980818, 17142218718563893549), (58253925921871815, 17991219895300304153, 3517063298038682, 1086214502788498863), (20278709339780812, 10020645665370218705, 29071367584877517, 14365503676524214157), (5069677334945203, 2004129133074043741, 43963291225483525, 17379432044615981808), (25348386674726015, 8016516532296174964, 57885338154614009, 18306441993671120045), (34428297609508033, 17420912534247803820, 5864260136276494, 2967348663906497063), (34428297609508033, 13936730027398243056, 24544473975099634, 9935713677605618591), (35622504286078742, 11536120217522668377, 25738680651670343, 8335307137688568805), (31658790031763256, 8201997362447240855, 57397470683433599, 14870243072598095899), (3957348753970407, 1640399472489448171, 41631730671002761, 17257177286438980590), (19786743769852035, 6561597889957792684, 54928106149917769, 18215030709692829657), (1108031289909584, 293952592036109679, 69016874021701407, 18309671574856209403), (692519556193490, 293952592036109679, 43255146531303579, 18360438096026654986), (47077666955762547, 15986381444272286557, 45346368065278822, 15398476260200067199), (12202241461561568, 3314857325668901183, 64556954316950783, 17537523217724529666), (7626400913475980, 3314857325668901183, 40152471393827647, 17452493706218763680), (9533001141844975, 3314857325668901183, 49685472535672622, 17276852290643912127), (47665005709224875, 13259429302675604732, 26720869846685618, 7433199248931463845), (36200496020681178, 16112379656847160081, 13360434923342809, 5946559399145171076), (44821117857026207, 15959446901371137754, 10990528379843919, 3913395347604773275), (53278765226321779, 15176767831850183099, 64269293606165698, 18307484109934001719), (31925412218970622, 14550624576233419375, 10990528379843919, 5009146044934109792), (15962706109485311, 5820249830493367750, 35457674004352453, 12928417005114903459), (15962706109485311, 4656199864394694200, 48312769032811894, 14092466971213577009), (15962706109485311, 7449919783031510720, 26204804118136106, 12229987025455699329), (15962706109485311, 5959935826425208576, 40737358202412788, 15209954938668303617), (42109751769573819, 12577888310013994445, 46515724761294902, 13893921624341149031), (23564861736157960, 11261854995686839859, 18544890033415859, 8862766300335551253), (29456077170197450, 11261854995686839859, 30327320901494839, 11594955038543176946), (59783398071692289, 18285448027384013444, 52855000644791621, 16166317045389180307), (35954046784384229, 17595141796699977147, 27293550000758394, 13356879832710310873), (45795623026505856, 17929119036904860761, 2493139108376681, 976071180946195665), (57244528783132320, 17929119036904860761, 2493139108376681, 780856944756956532)]
def nbF0 : List (Nat × Nat × Nat × Nat) := [(195214236189239133, 12465695541883405, 384310333877450371, 24540708245641438), (195214236189239133, 19945112867013448, 166988620102441807, 17061290920511395), (404541280421876929, 33065709365822338, 285764950262159368, 23357371051115727), (333100042856337087, 21781093282434725, 357206187827699210, 23357371051115727), (306528878106396278, 32069808364089617, 279957713356455469, 29289867476283674), (333100042856337087, 27879799401516448, 216611076204826804, 18129908663331393), (387252811907543788, 25929821253879437, 270763845256033505, 18129908663331393), (310115372605282177, 33223717147980420, 86975321139573779, 9317962679889227), (310115372605282177, 26578973718384336, 186247994575787768, 15962706109485311), (356677371249229119, 24455720196604531, 232809993219734710, 15962706109485311), (176473090269707796, 19359911744332999, 229078802509921183, 25131000949275246), (220591362837134745, 19359911744332999, 405551892779628979, 35592730154886596), (156535813904190931, 10990528379843919, 462401324856235585, 32465636821107194), (157436578511233082, 17686035071435183, 310369333987255409, 34866121824445803), (393591446278082705, 35372070142870366, 273262100877052516, 24558069772639431), (461906971497345834, 33209270068824179, 341577626096315645, 24558069772639431), (175641415574851553, 20204668264477470, 138280175434553410, 15906869476454683), (175641415574851553, 16163734611581976, 260670927080617539, 23988736782245671), (460360916813570379, 33892469657296691, 42514755752882993, 3130000868265478), (167320999335978518, 19709481620724919, 293952592036109679, 34625977809674500), (356127545188027987, 33559872744594719, 293952592036109679, 27700782247739600), (371671283476007564, 28019716295046799, 293952592036109679, 22160625798191680), (85318256154449888, 10291215656493455, 293952592036109679, 35457001277106688), (21329564038612472, 2058243131298691, 360625630172699851, 34799362280894820), (26661955048265590, 2058243131298691, 440611495317496621, 34014219218611929), (66654887620663975, 8232972525194764, 233464415927602509, 28836686859055085), (141684713507730596, 14000309897005781, 233464415927602509, 23069349487244068), (177105891884663245, 14000309897005781, 339727951058400456, 26855665527998723), (269279796004726376, 17029362729609505, 346969867413863473, 21942514128804114), (33659974500590797, 3405872545921901, 354790382545094688, 35899338647634971), (168299872502953985, 13623490183687604, 290657442639818454, 23528055949952119), (481928466325817197, 31208806673881014, 302143018231340833, 19566229643446313), (218491052151099053, 22638529933017871, 212250294184102651, 21991905805166340), (326176388734899479, 27036911094051139, 212250294184102651, 17593524644133072), (383139436010297893, 25406883455208138, 240731817821801858, 15963497005290071), (65693381774849241, 6970053981025241, 339056017455107681, 35973772097059320), (331114186019461574, 28104916362487587, 333761463164676943, 28329616800874210), (247012000941988496, 16773069642137903, 333761463164676943, 22663693440699368), (154382500588742810, 16773069642137903, 241131962811431257, 26198067719836247), (390735357436015546, 33961524586927563, 395514463400174067, 34376909889579320), (290661965094932399, 20210760631095835, 395514463400174067, 27501527911663456), (290661965094932399, 32337217009753336, 210863793988242242, 23459375785444289), (398990855533450785, 35511364897236188, 12816862943715482, 1140738667365239), (501525759083174641, 35709819388926480, 266783958221231673, 18995648361828479), (146713625538714355, 16714171027098001, 208098508005745931, 23707368968086366), (380605053508140213, 34687973579845525, 15346220616757894, 1398639588197673), (401313060234491149, 29260224902112613, 439678611776385884, 32057504078507959), (35777050701100868, 4173677474585315, 299158909812776279, 34899265834918713), (8944262675275217, 834735494917063, 377761714654479270, 35255126475041977), (44721313376376085, 3338941979668252, 465627329687541323, 34764243726254887), (108514893759365761, 12962944308653831, 210453008155582619, 25140241397269308), (28772918280628666, 2749718305738437, 369936959113056809, 35353467400184702), (278480463968571569, 21290654554993817, 206548168266999904, 15791217943516943), (226843421901821593, 27748560110583330, 129092605166874940, 15791217943516943), (226843421901821593, 22198848088466664, 161365756458593675, 15791217943516943), (420948011082029227, 32955104883566774, 64313461868489858, 5034961148416833), (194395640073892149, 12175049723743343, 549574934819008943, 34420021744320352), (185992643723225273, 18638028587225478, 350977796569783356, 35170929747541279)]
def nbF1 : List (Nat × Nat × Nat × Nat) := [(284240838304004707, 22786659790052509, 361481542008116951, 28978794768796894), (552246274848760790, 35417424351510571, 19310175926028061, 1238426995748877), (170409207967742419, 17486271634592681, 266960087597882724, 27393687600583697), (407558437834955519, 33456772135465029, 370629273666154462, 30425229868024363), (111121900500939144, 7297662880581139, 482085582161629579, 31659808213724170), (69451187813086965, 7297662880581139, 273732018722368684, 28762704500215255), (415688943746026996, 34943192422367607, 68433004680592171, 5752540900043051), (519611179682533745, 34943192422367607, 380199712490112418, 25567948173455005), (221789298051790711, 23864078132516205, 190099856245056209, 20454358538764004), (221789298051790711, 19091262506012964, 293072144819267939, 25227174165267245), (497040731179189343, 34227567005173311, 293072144819267939, 20181739332213796), (50992146589980351, 5618331069183806, 299247116033336864, 32971143240792833), (227788218778275269, 20078223214199701, 200615704606648783, 17683122151664178), (120687237932044256, 8510309498186985, 414817666299110809, 29251035867676894), (15085904741505532, 1702061899637397, 309037476739406801, 34867044683839703), (18857380926881915, 1702061899637397, 380695524261558078, 34361470965693871), (94286904634409575, 6808247598549588, 481750190066468777, 34786109347192085), (116569172431209356, 13467520926210347, 238296178309629163, 27530938935976010), (384007643848640858, 35492272074991155, 238296178309629163, 22024751148780808), (192003821924320429, 14196908829996462, 307734712887592264, 22754139052566923), (115070143702422363, 13613398506967570, 192334195554745165, 22754139052566923), (115070143702422363, 10890718805574056, 269185280369037047, 25476818753960437), (153598927869076034, 11629795034136521, 346242848702344389, 26215894982522902), (86238081677124441, 10447273068436577, 211521156318441203, 25624633999672930), (160677891176015852, 15572199868371163, 211521156318441203, 20499707199738344), (332029574700453092, 25743085680813373, 463211785430886369, 35913971493255583), (141927378822566544, 17606377030859605, 273109589552999821, 33879794330767141), (35481844705641636, 3521275406171921, 336574451301391661, 33402190544082855), (44352305882052045, 3521275406171921, 425279063065495751, 33764303247610126), (221761529410260225, 14085101624687684, 427873983411251264, 27176258005319167), (168277281483853817, 17100910998436461, 267421239632032040, 27176258005319167), (368843211207877847, 29986483601940669, 334276549540040050, 27176258005319167), (267990742988948936, 17429845041840101, 299709887872202253, 19492825926958132), (167494214368093085, 17429845041840101, 266211044998583636, 27702552474764991), (234046975617738994, 19484386528425079, 332763806248229545, 27702552474764991), (9153328589189473, 609610927149051, 539350796098400120, 35920718421104903), (220563205715278991, 23503186019539905, 278828726638389533, 29711952220322404), (220563205715278991, 18802548815631924, 403676709726806664, 34412589424230385), (497300963986184959, 33915087953451234, 100919177431701666, 6882517884846077), (136940138175508948, 14942538758349709, 252297943579254165, 27530071539384308), (171175172719386185, 14942538758349709, 320768012667008639, 28001072734847330), (294160969065984891, 20542753305319175, 320768012667008639, 22400858187877864), (294160969065984891, 32868405288510680, 163709886783632288, 18292307526814029), (294160969065984891, 26294724230808544, 204637358479540360, 18292307526814029), (345320308685869981, 24694240890009641, 255796698099425450, 18292307526814029), (290964818776830667, 33291550573374375, 310152188008464764, 35486926893543497), (290964818776830667, 26633240458699500, 387690235010580955, 35486926893543497), (290964818776830667, 21306592366959600, 411871589069018527, 30160278801803597), (290964818776830667, 34090547787135360, 221049140821032746, 25898960328411677), (290964818776830667, 27272438229708288, 130829016637875599, 12262741213557533), (40033950534738767, 3001939403230151, 453975330515684160, 34041267838079377), (296950619522893122, 35626871838625325, 96780866849199287, 11611356612784117), (148475309761446561, 14250748735450130, 316189822003721498, 30348087593293299), (148475309761446561, 11400598988360104, 320999622623928592, 24647788099113247), (108350356933455487, 13311400761553517, 200624764139955370, 24647788099113247), (317013095936888659, 31157356458130926, 204643751571694271, 20113233164089355), (345105432028187256, 27134709825313055, 204643751571694271, 16090586531271484), (86276358007046814, 5426941965062611, 505560609816190471, 31800694334710270)]
def nbF2 : List (Nat × Nat × Nat × Nat) := [(215690895017617035, 21707767860250444, 288158323717260394, 29001103629071941), (395575923455740651, 31849542158114921, 108273295279136778, 8717555033342987), (170719637908086131, 10996305856577371, 441402876105928076, 28431415923263345), (261273016230492299, 26926373872351477, 110350719026482019, 11372566369305338), (368782731380448627, 30404920786942039, 182970863751961468, 15085344690279313), (277297299504467893, 18289798753441906, 506010879194419728, 33375143443721219), (150794579705862961, 15913620628018562, 316256799496512330, 33375143443721219), (423950996621620625, 35792243133760538, 3666910021196602, 309580437536819), (387070451822948058, 26142869967410701, 396237726875939563, 26762030842484339), (46091987714620631, 4980909643452685, 322388301552681311, 34838744861305214), (46091987714620631, 3984727714762148, 391462380012196481, 33842562932614677), (339848530504807433, 23504368988523957, 449237122436511711, 31069827117999322), (274401349224915909, 30364730092202111, 54694295965852139, 6052366503580292), (356210325824780314, 31534044363197909, 328630710492940441, 29092518246905662), (438949171820299933, 31086898169659720, 75262773790275142, 5330198426122683), (156776526573996947, 17764957693986571, 188156934475687855, 21320793704490732), (164621628549419674, 14923133357290089, 368468766975952983, 33402102725084339), (411554071373549185, 29846266714580178, 307700604900041247, 22314721104407789), (231740402305151577, 26889631615733098, 217793770365842443, 25271356203254869), (119356859137403072, 11079507728788885, 323203997563936381, 30001972361410197), (29839214784350768, 2215901545757777, 482129826014352721, 35803630706845262), (18649509240219230, 2215901545757777, 303094537308248113, 36013154291677760), (46623773100548075, 4431803091515554, 361354247606590394, 34348375628491097), (233118865502740375, 17727212366062216, 346769313954662011, 26369608728366657), (130765738807860392, 15910249165310661, 272828799372762437, 33195041889919543), (163457173509825490, 15910249165310661, 207445929968832241, 20191933845811370), (408642933774563725, 31820498330621322, 308044431871697983, 23987022703635209), (251496254757164355, 31333902507944452, 64436295230066278, 8028113956056861), (302947939261264442, 30195411706502875, 161090738075165695, 16056227912113722), (151473969630632221, 12078164682601150, 326989860372598127, 26073373482926869), (151473969630632221, 9662531746080920, 446605817873405714, 28489006419447099), (151473969630632221, 15460050793729472, 241260143763220516, 24623993721014731), (272104041512242479, 22217638123389470, 301575179704025645, 24623993721014731), (272104041512242479, 17774110498711576, 444994985008092676, 29067521345692625), (290889491898525106, 30401912110876629, 111248746252023169, 11627008538277050), (419236237999167967, 35052715526187449, 111248746252023169, 9301606830621640), (440608737809942582, 29471751427814465, 111248746252023169, 7441285464497312), (220304368904971291, 23577401142251572, 194137025041271784, 20776921214557517), (268838625165289237, 23017305156712761, 242671281301589730, 20776921214557517), (73751492257247186, 5051537819773601, 459175218739479953, 31450766789567832), (216202106538584869, 23693689919329055, 248025482434051773, 27181228559563706), (216202106538584869, 18954951935463244, 255981326407918499, 22442490575697895), (334247964775210711, 23443450050602823, 255981326407918499, 17953992460558316), (255173950550809094, 28635783702562371, 157340652591693829, 17656868522473357), (142463813933549188, 12789904149501817, 359311821157821581, 32257761641387977), (178079767416936485, 12789904149501817, 394927774641208878, 28364190143010745), (271965681101321716, 31252646327605783, 197463887320604439, 22691352114408596), (339957101376652145, 31252646327605783, 333446727871265297, 30654140222569190), (341584694752998857, 25121818283091945, 333446727871265297, 24523312178055352), (5086229301083475, 598506105036593, 305981089645414532, 36005366517690961), (86667731013520583, 8158683071596741, 321239777548664957, 30240707866240592), (361980070181108134, 27260717559399645, 290621485294613353, 21886702832412326), (180990035090554067, 21808574047519716, 227534330300351141, 27416975129184865), (283121126438280369, 27291969073356689, 227534330300351141, 21933580103347892), (310914524507244983, 23976930846688870, 241431029334833448, 18618541876680073), (160020131172974078, 19744547478022119, 150894393334270905, 18618541876680073), (115452229460378972, 11396326246276453, 292663048829838637, 28888862521614480), (144315286825473715, 11396326246276453, 436978335655312352, 34507416263568037)]
def nbF3 : List (Nat × Nat × Nat × Nat) := [(35070702911645627, 2215577744307555, 546222919569140440, 34507416263568037), (35070702911645627, 3544924390892088, 341389324730712775, 34507416263568037), (370021778010882869, 29921253174460251, 188230013821179201, 15220936261784050), (415469719058308786, 26877065922103441, 188230013821179201, 12176749009427240), (212611070956148191, 22006366318332545, 188230013821179201, 19482798415083584), (212611070956148191, 17605093054666036, 288440285015511049, 23884071678750093), (87348231963233381, 5786241497049603, 538965963001340669, 35702923236366526), (200252664722760203, 21224659091006134, 282261081898817055, 29916681739316923), (220754769016774416, 18718131802467065, 323265290486845481, 27410154450777854), (55188692254193604, 3743626360493413, 512552607350355325, 34768090593243156), (68985865317742005, 7487252720986826, 304566409397597066, 33055549379285303), (344929326588710025, 29949010883947304, 110634535008270269, 9606010964251791), (292868489475549695, 20342999919695513, 227781930798490147, 15822008739279638), (16271639669264887, 1808396472166350, 317244412122619619, 35257889638540127), (16271639669264887, 1446717177733080, 392487605235958302, 34896210344106857), (16271639669264887, 1157373742186464, 498745326379580321, 35474897215200089), (242655719197065511, 27615494295443018, 80648760425370538, 9178252178975653), (343821388689255632, 31302942718736491, 181814429917560659, 16553149025562599), (429776735861569540, 31302942718736491, 95859082745246751, 6981930676702781), (232266019761003221, 27067486182144413, 101651633355319568, 11846133085109523), (384743469793982573, 35869348647846958, 127064541694149460, 11846133085109523), (416509605217519938, 31064705535299471, 158830677117686825, 11846133085109523), (12356031372768286, 1474487873016085, 299912130677702685, 35789549760232784), (6178015686384143, 589795149206434, 376010377668016061, 35896492993476311), (30890078431920715, 2359180596825736, 466228039521648631, 35607424790445381), (240476931488449756, 29385668903474731, 108834490272431979, 13299297677447858), (300596164360562195, 29385668903474731, 289192188888769296, 28270839484043125), (418510113469926115, 32730157161769549, 72298047222192324, 5654167896808625), (574291575683591771, 35930607980693296, 18074511805548081, 1130833579361725), (343117036972390286, 34347440969586881, 18074511805548081, 1809333726978760), (437933552118261898, 35071174460378385, 18074511805548081, 1447466981583008), (516159903654397297, 33068640560569821, 90372559027740405, 5789867926332032), (287191954212145033, 29439086417957618, 82335420463278496, 8439928496349319), (328359664443784281, 26927240532905822, 431278940022882401, 35367169029255141), (405549121128107871, 26605749524134249, 534198215601980521, 35045678020483568), (288080704036846822, 30238913729691235, 299261381419458423, 31412513814926582), (144040352018423411, 12095565491876494, 388052573502587530, 32586113900161929), (119047384651988234, 7997455810219407, 482106990788140587, 32387350347067162), (330339033883061469, 35506827249917018, 16360286126545442, 1758502004519695), (412750360012381262, 35491914008536197, 8180143063272721, 703400801807878), (197259235230731607, 13569670178339717, 435419185777826819, 29952943563910946), (266118859027710509, 29290553750901075, 187939599070526508, 20685700174014511), (266118859027710509, 23432443000720860, 234924498838158135, 20685700174014511), (266118859027710509, 18745954400576688, 360185338304625296, 25372188774158683), (131049357163476023, 14770213776427491, 225115836440390810, 25372188774158683), (121803637691835714, 10982523265402733, 319182315717305597, 28779331017511900), (304509094229589285, 21965046530805466, 311845704973447441, 22494255672407493), (155005776143741451, 17889562709605589, 164176539573564146, 18947980992809643), (36458753178479689, 3366228885280307, 373982595755430676, 34529733100338979), (348706921188215492, 25756828377637515, 166413155295817047, 12291912836516287), (87176730297053873, 10302731351055006, 285267792793961808, 33713554319482639), (15859782098563421, 1499474216947477, 372444523091015681, 35213028536430116), (404164087288142523, 30569581576260056, 283298337842902616, 21427711965247565), (285618117152934092, 34565075350654311, 35412292230362827, 4285542393049513), (319290574900773312, 30912052471208135, 177061461151814135, 17142169572198052), (79822643725193328, 6182410494241627, 406371443407910707, 31474215323342446), (49889152328245830, 6182410494241627, 266681816888822383, 33047995133471358), (124722880820614575, 12364820988483254, 345369805839455969, 34239393733810075)]
def nbF4 : List (Nat × Nat × Nat × Nat) := [(242246052485632211, 19212699735245269, 345369805839455969, 27391514987048060), (389150017066904256, 24691002732654881, 345369805839455969, 21913211989638448), (243218760666815160, 24691002732654881, 150794797306003841, 15308336997297612), (304023450833518950, 24691002732654881, 272404177639411421, 22123070690900042), (547850675555711927, 35594576642418769, 212207951528085448, 13787428822890993), (309116730086615798, 32133950746666243, 132629969705053405, 13787428822890993), (419818304453414709, 34913466415292086, 121665772035926158, 10118124438135943), (416812355617251287, 27730785484960183, 240325595235688894, 15989011453744023), (194325187117696157, 20685721066230487, 212163613853829921, 22584603682515118), (384190767551358873, 32717377182711853, 203244400485763039, 17308129899498242), (146858792009280478, 10005101416442019, 428786834391693283, 29212113932224892), (278307620426437934, 30336580376166523, 88839359596763261, 9683825289601553), (253150395118210081, 22075478341540535, 316832529406745489, 27628752613829094), (253150395118210081, 17660382673232428, 332753062978879341, 23213656945520987), (96724197111354068, 10796341575212807, 292951729048544711, 32699231695002732), (317132778326383228, 28318653671044747, 196227531937190643, 17522312095831940), (396415972907979035, 28318653671044747, 196227531937190643, 14017849676665552), (25023555121348549, 2860160798875839, 305501671409542392, 34918455843676763), (125117775606742745, 11440643195503356, 376658079308568186, 34441234837943407), (467560717914860355, 34202624335076729, 31605632023770674, 2311989689387339), (168249331517342434, 19692222926437773, 247263411576769119, 28940181683987129), (339053955884307134, 31746817764568249, 81569372909048951, 7637628088307297), (43978802516552308, 3294312317590731, 451825667061797063, 33844824670819919), (275388986362019878, 33005621908319251, 220415483216329493, 26416997273137789), (96333998163350162, 9236574235736435, 303136473251649047, 29064946873692762), (48166999081675081, 3694629694294574, 444755689098234591, 34114800734470793), (254283332349189033, 31207516129238347, 267731669290002661, 32857994704120102), (363653918241025275, 35704221473338618, 3362084235203407, 330095714976351), (315332602260083736, 24767955474404867, 332143023436100771, 26088338334310271), (394165752825104670, 24767955474404867, 568642475131163573, 35731443952091137), (202734414939175693, 20382560083330359, 174476722306058903, 17541581564298032), (108431630627867044, 8721219737138609, 363082290928676201, 29202921910489782), (135539538284833805, 8721219737138609, 444406013899576484, 28595069370674991), (12219017404969842, 1257961915575889, 347784221489983291, 35804786176559869), (305246547848417447, 25140386944576593, 274699004335992842, 22624463113424815), (419742614201052565, 27656310775728371, 137349502167996421, 9049785245369926), (35299139004132018, 3721305106071689, 333756120798661925, 35185230902242518), (88247847510330045, 7442610212143378, 352198540171024057, 29703573806398101), (154235520675503548, 10406280888565647, 484173886501371063, 32667244482820370), (192794400844379435, 20812561777131294, 145689742828495814, 15727514697690649), (252769165559445199, 21829571193019423, 205664507543561578, 17761533529466907), (486297470980955361, 33597975418461439, 514161268858903945, 35523067058933814), (324287640384915140, 35847714850534137, 3482974734743573, 385018328094475), (405359550481143925, 35847714850534137, 3482974734743573, 308014662475580), (505828694417744013, 35786111918039021, 3482974734743573, 246411729980464), (303118471657681592, 34311795027454937, 17414873673717865, 1971293839843712), (93194491588138263, 8439394077365957, 366657843133004114, 33203357591472719), (465972457940691315, 33757576309463828, 45067214989181897, 3264913887348161), (41346351621643203, 4792566929483869, 308028778189195891, 35704444957753026), (365397226412237328, 33883340991309875, 174687564905419547, 16198804754894758), (91349306603059332, 6776668198261975, 416691291511801075, 30911878028269157), (22837326650764833, 2710667279304790, 299515112629645615, 35550825535670953), (22837326650764833, 2168533823443832, 357265895798983394, 33924425168088079), (114186633253824165, 8674135293775328, 420457710385835927, 31939877385566067), (218636040179602901, 26573738639233033, 133661085909915023, 16245605071736558), (42487477134843939, 4131253426998590, 355396453342209527, 34556836856972411), (42487477134843939, 3305002741598872, 433623697394050924, 33730586171572693), (278355832887888487, 34644252014861858, 32959223606834396, 4102115041035441)]
def nbF5 : List (Nat × Nat × Nat × Nat) := [(344274280101557279, 34278785677546192, 41199029508542995, 4102115041035441), (116967842156796566, 9317026160130503, 439930831856308107, 35042512484402770), (292419605391991415, 18634052320261006, 366175218624149761, 23334031153891611), (337866151777929889, 34448117340343649, 36877806616079173, 3759983066904484), (75247086290462679, 6137626854687833, 410130291951783902, 33452812831681435), (290650288714102673, 18965816275711953, 495715434689994624, 32346941408384527), (166721430041604017, 17406529477785314, 309822146681246640, 32346941408384527), (321632503382227337, 26864000145582062, 387277683351558300, 32346941408384527), (418451924220116912, 27960588398142555, 484097104189447875, 32346941408384527), (52306490527514614, 5592117679628511, 328225899846654815, 35090824081935776), (130766226318786535, 11184235359257022, 334109044137749903, 28575835599808439), (472229200820405298, 32311233101512187, 181601930773527377, 12425708335515901), (13628167409168818, 1491963286096077, 321998455273377711, 35251245381995897), (34070418522922045, 2983926572192154, 409713282854019784, 35883162129801083), (170569157759349036, 11950914941467663, 511924538422785919, 35867953477102036), (213211447199186295, 23901829882935326, 191998835051637071, 21523813816801031), (5303153036887306, 475603213226859, 397859953348130919, 35681314665157070), (13257882592218265, 951206426453718, 497232334998976422, 35674670461271483), (275131932683924741, 31583596933669084, 52210629930708354, 5993486380509835), (387618709608238817, 35597156516992927, 26105314965354177, 2397394552203934), (415704532009629913, 30541145561783922, 273115553418200399, 20065361885299829), (228691489269908303, 26882555371791299, 100910532061242821, 11861976037646226), (82400505332787781, 7748906281887505, 339751649640638543, 31950091586809894), (82400505332787781, 6199125025510004, 445289688383995124, 33499872843187395), (261662474379968843, 31496474670677495, 111322422095998781, 13399949137274958), (261662474379968843, 25197179736541996, 204568646214990687, 19699244071410457), (318756302544946999, 24556092321338828, 247389017338724304, 19058156656207289), (287832675377606461, 35478116382900667, 154618135836702690, 19058156656207289), (105261803729627558, 10379615221918809, 281283535862129167, 27736698090495769), (0, 0, 0, 0), (0, 0, 0, 0), (0, 0, 0, 0), (0, 0, 0, 0), (0, 0, 0, 0), (0, 0, 0, 0), (0, 0, 0, 0), (0, 0, 0, 0), (0, 0, 0, 0), (0, 0, 0, 0), (0, 0, 0, 0), (0, 0, 0, 0), (0, 0, 0, 0), (0, 0, 0, 0), (0, 0, 0, 0), (0, 0, 0, 0), (0, 0, 0, 0), (0, 0, 0, 0), (0, 0, 0, 0), (0, 0, 0, 0), (0, 0, 0, 0), (0, 0, 0, 0), (0, 0, 0, 0), (0, 0, 0, 0), (0, 0, 0, 0), (0, 0, 0, 0), (0, 0, 0, 0), (0, 0, 0, 0), (0, 0, 0, 0)]
def nbF6 : List (Nat × Nat × Nat × Nat) := [(0, 0, 0, 0), (0, 0, 0, 0), (0, 0, 0, 0), (0, 0, 0, 0), (0, 0, 0, 0), (0, 0, 0, 0), (0, 0, 0, 0), (0, 0, 0, 0), (0, 0, 0, 0), (0, 0, 0, 0), (0, 0, 0, 0), (0, 0, 0, 0), (0, 0, 0, 0), (0, 0, 0, 0), (0, 0, 0, 0), (0, 0, 0, 0), (0, 0, 0, 0), (0, 0, 0, 0), (0, 0, 0, 0), (0, 0, 0, 0), (0, 0, 0, 0), (0, 0, 0, 0), (0, 0, 0, 0), (0, 0, 0, 0), (0, 0, 0, 0), (0, 0, 0, 0), (0, 0, 0, 0), (0, 0, 0, 0), (0, 0, 0, 0), (0, 0, 0, 0), (0, 0, 0, 0), (0, 0, 0, 0), (152465253249658312, 15461813583670269, 335723007172799381, 34046357724242024), (190581566562072890, 15461813583670269, 373839320485213959, 30329448896127673), (476453916405182225, 30923627167340538, 234565051883125202, 15224142275185123), (241888864522057023, 25119175827448664, 207075373557467507, 21503936232047289), (8703372741147379, 723047919080275, 426140775907021005, 35402390592569906), (8703372741147379, 578438335264220, 534851813069063101, 35547000176385961), (8703372741147379, 925501336422752, 331018618390234171, 35199937175227429), (219832775270629762, 18701304273972161, 396148686835522629, 33700603202253314), (516382176211785412, 35143149831426293, 33199761964788993, 2259458716518029), (210243197061814026, 22893456872070199, 195495067982524339, 21287527825428210), (165056462336005363, 14378445741898915, 360551530318529702, 31408468002241483), (165056462336005363, 11502756593519132, 368161181730159446, 25657089705481917), (179324558732811133, 19995356460696803, 203104719394154083, 22646932979140456), (263041797933880962, 23464112449147433, 370539197796293741, 33053200944492346), (406574446453085294, 29014122030668441, 251030048381617111, 17914102867626425), (191351516937774031, 21848480883617871, 251030048381617111, 28662564588202280), (176431884076813261, 16115967965977415, 251030048381617111, 22930051670561824), (176431884076813261, 12892774372781932, 357895531496224704, 26153245263757307), (265905766950869437, 31089737101954014, 223684707185140440, 26153245263757307), (377748120543439657, 35333087787066134, 279605883981425550, 26153245263757307), (258775531267076216, 19363884167577915, 440239178686487659, 32942606359936699), (32346941408384527, 3872776833515583, 292726350337751202, 35047017702074195), (161734707041922635, 15491107334062332, 315783648147321753, 30246064541508337), (442849002881156367, 33933206109613865, 77024470552699559, 5901982882978402), (228640332705285505, 28031223226635463, 214208670175870862, 26261906548746721), (60767998808675037, 5960107980904841, 353217679013652044, 34643489154778919)]
def nbF7 : List (Nat × Nat × Nat × Nat) := [(358912835932851133, 28161654816083186, 386449256877589107, 30322266262315097), (531485148663092206, 33361863490053441, 200108733674979047, 12561028794172421), (249334114167404339, 25041529611701033, 167291813346695519, 16801723709992434), (290355264577758749, 23329146050044266, 187802388551872724, 15089340148335667), (431207055991663292, 27716920929036813, 234752985689840905, 15089340148335667), (348581987451691492, 35849578059490113, 63475610845962541, 6528087932861171), (237766604571808287, 19562301570084982, 277572329400810496, 22837326650764833), (168373522221605663, 11082375925915019, 515338933972618783, 33919702576679852), (211744198690482303, 22299266811616997, 216853382344383200, 22837326650764833), (157530853104386503, 13271948119140631, 271066727930479000, 22837326650764833), (293064217069626003, 19752489155618438, 338833409913098750, 22837326650764833), (154559390141345785, 16667651660472043, 200328582984818532, 21603391652706275), (372139784737091861, 32105179997558132, 50082145746204633, 4320678330541255), (502736340231018301, 34697586995882885, 50082145746204633, 3456542664433004), (281951430168522557, 31135316050207605, 250410728731023165, 27652341315464032), (281951430168522557, 24908252840166084, 242525553371648317, 21425278105422511), (311520837766178237, 22016387112979011, 262238491770085437, 18533412378235438), (274559078269108637, 31046649699074130, 243757612021550637, 27563674964330557), (274559078269108637, 24837319759259304, 236057245459661137, 21354345024515731), (303435452876194262, 21959640648253587, 255308161864384887, 18476665913510014), (203512944151241009, 23565188990109446, 129488044282859695, 14993691178766441), (37012449934190657, 3428599124537202, 379238785608435223, 35130281044338685), (141075258819847127, 10454655333404939, 379238785608435223, 28104224835470948), (252380076791120742, 29924983166482603, 200616140516994151, 23787276334274306), (163403089456277261, 15499907167006243, 349468344759861711, 33149476669072252), (432361871619282076, 32809998366377875, 128217858554034743, 9729876767215699), (108090467904820519, 13123999346551150, 266499412432676598, 32357507395587221), (108090467904820519, 10499199477240920, 279079031588435488, 27107907656966761), (108090467904820519, 8399359581792736, 456939257390364879, 35507267238759497), (172574837123947993, 21456369130343403, 195302665276206609, 24282138393655082), (183938751200077301, 18295403009599394, 212348536390400571, 21121172272911073), (382082394995316237, 30402952520683702, 113276714492781103, 9013622761826765), (392645457874559469, 24994778863587643, 505922172367340572, 32205677073049055), (285970657681305386, 29126625893642651, 126480543091835143, 12882270829219622), (134732935966243918, 10978233510416379, 362936843526687879, 29572616296045730), (349884591721148837, 22807280028834671, 362936843526687879, 23658093036836584), (250992723461014966, 26177597823398927, 178205358811959179, 18586149226268502), (277347222001740814, 23141018384546757, 204559857352685027, 17067859506842417), (310290345177648124, 20711754833465021, 237502980528592337, 15853227731301549), (307897734354970002, 32883278448581807, 79965197117090153, 8540231218348235), (344889569385167426, 29467185961242513, 79965197117090153, 6832184974678588), (298649775597420646, 20413185566616943, 332375178926764019, 22718370343982746), (252887202815407222, 27656385882317399, 240850033362737171, 26339970501832974), (310090418792924002, 27129819730123629, 298053249340253951, 26076687425736089), (381594438764819977, 26708566808368613, 369557269312149926, 25866060964858581), (98407902054372507, 11020429060751458, 314334733558628647, 35201478338589975), (44426194178308472, 3980133393033463, 358760927736937119, 32141316063905443), (425400219004399827, 30489212922764510, 369867476281514237, 26509079529731047), (282116037905806901, 32351637124278534, 71642090549296463, 8215551776072341), (88439532113775841, 8113437780070175, 358210452746482315, 32862207104289364), (88439532113775841, 6490750224056140, 469872948961546854, 34484894660303399), (88439532113775841, 10385200358489824, 227340944015634903, 26695994391436031), (363252541536526519, 34124562483974125, 78945119032352686, 7416238949985171), (280307669558704117, 21066063943574821, 477670467139585832, 35898541843545163), (220598861166255888, 26525993941010681, 298544041962241145, 35898541843545163), (275748576457819860, 26525993941010681, 188244611379113201, 18108435898431858), (344685720572274825, 26525993941010681, 395056043722478096, 30402345083351895), (291350444367391027, 35874350044644457, 49382005465309762, 6080469016670379)]
def nbF8 : List (Nat × Nat × Nat × Nat) := [(256784734480642478, 25294584247864465, 123455013663274405, 12160938033340758), (372833717778346632, 29380792916254409, 244441350538025393, 19262959217108623), (466042147222933290, 29380792916254409, 430858209427198709, 27162684540188662), (324297540840471953, 32711612706999725, 49459283953933016, 4988915232824583), (386121645782888223, 31158205398424363, 61824104942416270, 4988915232824583), (548549426310337664, 35412292230362827, 154560262356040675, 9977830465649166), (342843391443961040, 35412292230362827, 223128940644832883, 23046987191111231), (428554239304951300, 35412292230362827, 51707244922852363, 4272672860743854), (535692799131189125, 35412292230362827, 265984364575328013, 17583055180740214), (168567771597413195, 17829237049622613, 299697918894810652, 31698735699108865), (393291979644849997, 33278465359559814, 74924479723702663, 6339747139821773), (416752033736948817, 28210833347305991, 374622398618513315, 25358988559287092), (282102878325736537, 30553832084297710, 88389395264823891, 9573226466111057), (181012463662463998, 15683992882970599, 260934512661655457, 22608912981473629), (452531159156159995, 31367985765941198, 266226604077675727, 18453960922371811), (202977510193269464, 22511583644039081, 173074326538433593, 19195117600939388), (253721887741586830, 22511583644039081, 325307459183385691, 28863044267174959), (27637686214497277, 1961732479553465, 496116288281480690, 35214504890310837), (27637686214497277, 3138771967285544, 303163258622301112, 34429811898489451), (234494687954642387, 21304977480881086, 282647816395720388, 25679922286750541), (305156642053572484, 22179966442054977, 353309770494650485, 25679922286750541), (291088626017414924, 33851917694633419, 200731449467864243, 23343902505156884), (363860782521768655, 33851917694633419, 273503605972217974, 25445505543052191), (474983195966032558, 35352184854302859, 23197313218279153, 1726536247977947), (218713996619250727, 26045612406919967, 111566854236882164, 13285967463581181), (135038855941589104, 12864909447387265, 274497423737691809, 26150876910968446), (33759713985397276, 2572981889477453, 460974841082732593, 35132996627982553), (42199642481746595, 5145963778954906, 276907027271287551, 33766957459236439), (185275773642625024, 18074511805548081, 344829108519142097, 33639680300824619), (231594717053281280, 18074511805548081, 298510165108485841, 23296841879550079), (144746698158300800, 18074511805548081, 240611485845165521, 30045142285060894), (180933372697876000, 18074511805548081, 204424811305590321, 20421211466939099), (226166715872345000, 18074511805548081, 385358184003466321, 30796578617989744), (282708394840431250, 18074511805548081, 328816505035380071, 21022360533282179), (23811521806316701, 2435762870015977, 349598160006327610, 35761604171952669), (194551388130007057, 15921067166448051, 270045167228430609, 22099082852832194), (370229331485408226, 24238104329040053, 232298277679218833, 15208060007712098), (196910568726832793, 20626086600508871, 255890083647476193, 26804102286893014), (379076258723504736, 31766135423537365, 226400326187154493, 18972075554960754), (94769064680876184, 6353227084707473, 468618178169639177, 31415712626890705), (59230665425547615, 6353227084707473, 290926181892996332, 31205458948902709), (296153327127738075, 25412908338829892, 250423541749891928, 21488836793078477), (358759212565211057, 24628094029679609, 313029427187364910, 21488836793078477), (128818481539723378, 14149004970487539, 267299641809518763, 29359327290363752), (322046203849308445, 28298009940975078, 101445200519828537, 8913929922047993), (55150250832369977, 3876816003785417, 507226002599142685, 35655719688191972), (194385096051771531, 21863044752022979, 307404033993464708, 34574606225785601), (117534087553405354, 10575514556461263, 384255042491830885, 34574606225785601), (293835218883513385, 21151029112922526, 221511043134266781, 15944945401606493), (210201263222347471, 24209340486180467, 119796043535789216, 13797173063548401), (270099284990242079, 24886341614363734, 149745054419736520, 13797173063548401), (419844339409978599, 30946811742329708, 187181318024670650, 13797173063548401), (163126840198821637, 19238580168444406, 152413227431427494, 17975056042874599), (315540067630249131, 29770908969055204, 348286568104408933, 32860510527402201), (416003725615594043, 31399648581180449, 165956658933664516, 12526283899291481), (187257280441088957, 22614462085086063, 207445823667080645, 25052567798582962), (197351552054084801, 19066811953467610, 222587231086574411, 21504917666964509), (197351552054084801, 15253449562774088, 327571926871739214, 25318280057658031)]
def nbF9 : List (Nat × Nat × Nat × Nat) := [(16782794309107597, 2075447627156058, 283593951271367040, 35070702911645627), (138029665054272148, 13655572989228511, 330175023617278459, 32664928459061301), (172537081317840185, 13655572989228511, 364682439880846496, 28863057365094743), (354878301258263433, 22469681337420706, 455853049851058120, 28863057365094743), (297896670026881168, 30178878666854181, 284908156156911325, 28863057365094743), (372370837533601460, 30178878666854181, 135959821143470741, 11018894425334122), (465463546917001825, 30178878666854181, 322145239910271471, 20886667007008970), (170110251856774339, 17646878462648799, 322145239910271471, 33418667211214352), (284136492896897188, 23580576019258371, 190043735066871415, 15771788748565553), (355170616121121485, 23580576019258371, 403146104739544306, 26765776610407465), (191996954689186665, 20395375428109277, 201573052369772153, 21412621288325972), (423723303333145997, 36008887174729172, 2394024420146372, 203449172043339), (527264859504476586, 35846451092482867, 2992530525182965, 203449172043339), (119025524260057202, 12947246704527401, 253013701146029229, 27522086785401514), (334801518028114718, 29134980100498967, 372039225406086431, 32375466791943132), (437120751224129254, 30431174777076633, 474358458602100967, 33023564130231965), (154610854864555542, 17221749124983847, 319747603737545425, 35615953483387297), (386527137161388855, 34443498249967694, 275831943017189369, 24579430868345227), (220937367116744299, 15750212776311571, 386074115989734182, 27522503565689779), (213962289836274997, 24404756044711841, 179086903433928487, 20426834057778478), (115699991518724126, 10557486815271409, 375611500069030229, 34274103287218910), (332430739432920272, 24267128130158973, 375611500069030229, 27419282629775128), (207769212145575170, 24267128130158973, 250949972781685127, 29310575329544821), (342005740936701569, 31956600502468223, 177417289427236356, 16577655757849723), (386360063293510658, 28880811553544523, 221771611784045445, 16577655757849723), (200327926681077858, 23959549235266603, 236067401852690503, 28234049197421526), (332704134106079929, 31833568944511275, 168115682596614716, 16085529526021931), (332704134106079929, 25466855155609020, 210144603245768395, 16085529526021931), (159775740314214691, 19568067691830697, 172928393791865238, 21178900557143735), (356207252337570418, 34900355272232647, 86464196895932619, 8471560222857494), (132283911532358914, 10368695143589527, 432320984479663095, 33886240891429976), (513799293187639104, 32218147615033139, 183089514356741819, 11480757327854085), (321124558242274440, 32218147615033139, 183089514356741819, 18369211724566536), (401405697802843050, 32218147615033139, 102808374796173209, 8251739856646601), (504214072599016259, 32375909977343792, 254563986644970576, 16345717350982549), (217829587623424361, 22379164731981479, 159102491653106610, 16345717350982549), (228241662551542138, 18759096303382121, 397756229132766525, 32691434701965098), (428786457450357617, 28193437986654627, 141817698928497728, 9324754620109615), (335756625913442053, 35322509643000870, 17727212366062216, 1864950924021923), (424392687743753133, 35717811410488388, 22159015457577770, 1864950924021923), (505803298684782019, 34055604358827739, 55397538643944425, 3729901848043846), (208643951275951868, 22476708633549701, 276987693219722125, 29839214784350768), (260804939094939835, 22476708633549701, 172665717581746191, 14880688374060734), (326909355229835068, 22538979062533141, 216735328338343013, 14942958803044174), (273628704506409589, 30184815665208860, 67503994765442123, 7446571229928711), (152787169583405051, 13483534362970483, 337519973827210615, 29786284919714844), (412178307689263762, 29099932359780287, 351757540227761493, 24834205092101645), (169672057248849478, 19166250322939629, 182085482978912015, 20568477824423003), (290719387320455318, 26271859451522131, 133460755801668377, 12060641194357127), (139410224730948018, 10078628368047277, 388483329546445849, 28085308041333954), (59715670435705058, 6907407845951517, 288809891391664987, 33407105626237591), (278765204176168874, 25796176373207767, 129476028086906229, 11981360681304733), (408241232263075103, 30222029643610000, 263905343174401562, 19536868092207233), (267001147549769752, 31625679949651233, 125761062836464401, 14896112469526466), (333751434437212190, 31625679949651233, 259261636611349277, 24567161955481666), (408241232263075103, 30947358355056640, 213068676914977686, 16152000772122913), (283810772238705991, 34423543647689596, 31107615006092278, 3773057430100257), (211897519883060621, 20560920833256301, 289666557398291316, 28107035693456815)]
def nbF10 : List (Nat × Nat × Nat × Nat) := [(407737845269147644, 31651019084802937, 72416639349572829, 5621407138691363), (14758910983857041, 1833078106007497, 288288641828578940, 35805866579493419), (101589982424858817, 10094098285510679, 332565374780150063, 33044080718012728), (413308786575828671, 32853471685930311, 318667661027363257, 25330550229817906), (47320562774232707, 3009168582444962, 536406057310128254, 34110673256188521), (197182304792905976, 20062476413995537, 157761795714648417, 16051604168431378), (246477880991132470, 20062476413995537, 354944100507554393, 28891264465941532), (362330460997126549, 23593991634773935, 470796680513548472, 30657022076330731), (68082535676158754, 7093364539307565, 294247925320967795, 30657022076330731), (34041267838079377, 2837345815723026, 412227768840665406, 34359258903292715), (358366450995761679, 23895926674996699, 188160111805364794, 12546543412104595), (283317965915007904, 30226692573046965, 94080055902682397, 10037234729683676), (70829491478751976, 6045338514609393, 399570788034660009, 34103600404125311), (523522398122475967, 35746354243753399, 434985533774035997, 29701015729144006), (230484571922613958, 25180151023798267, 239626982974127991, 26178947989158962), (292676920429024464, 25579669809942545, 301819331480538497, 26378707382231101), (73169230107256116, 5115933961988509, 484727435901106861, 33891754061085278), (91461537634070145, 10231867923977018, 306386794294402532, 34275710795652135), (380710989596750092, 34072329536777645, 76596698573600633, 6855142159130427), (95177747399187523, 6814465907355529, 478161240267190688, 34235034543877237), (35407592365788687, 4056138542993399, 298850775166994180, 34235034543877237), (184832979949285777, 16938924651945614, 373563468958742725, 34235034543877237), (90467735444557303, 6632695764783842, 416848582150935791, 30561501421499307), (289148253869597271, 33918521592898364, 40797605838297311, 4785761131343093), (347670902875906167, 32626814427832375, 203988029191486555, 19143044525372372), (347670902875906167, 26101451542265900, 168067310770381652, 12617681639805897), (68793382206464551, 8263479594006823, 278877520669441616, 33498842873618617), (347670902875906167, 33409857974100352, 348596900836802020, 33498842873618617), (434820128085106672, 33427654954004005, 435746126046002525, 33498842873618617), (54352516010638334, 6685530990800801, 276392569857670935, 33997158310920901), (135881290026595835, 13371061981601602, 314841961963410053, 30981243900450443), (454044824137976231, 35743325573585590, 112680812997501472, 8870461176410409), (454044824137976231, 28594660458868472, 140851016246876840, 8870461176410409), (295587430860239786, 29784626616650819, 88031885154298025, 8870461176410409), (323857485738715943, 26106588528916982, 382008455755103034, 30794216617279309), (66426628930582213, 4283792088110931, 556461365804264307, 35885680705893032), (343567515064184667, 35450163922710751, 11434370411273602, 1179827217823303), (174642350134910734, 14416031012648961, 377870626298005473, 31191716460944528), (436605875337276835, 28832062025297922, 145274725615275053, 9593480381848019), (195424622862919, 20648351901546, 340810694720383407, 36009685234665059), (272854244007940157, 23063584785048183, 363479950972482011, 30723915244195516), (386624939270774772, 26144235650228353, 204396402227376469, 13821632189507673), (332754855565933384, 36002318418804897, 150526318522535081, 16286152881651809), (316903746305501773, 27429849672843406, 217863923153586816, 18857380926881915), (495199115759574785, 34289874983845964, 54465980788396704, 3771476185376383), (297759935401636733, 32989238098970521, 34041237992747940, 3771476185376383), (399883649379880553, 35442933324079736, 42551547490934925, 3771476185376383), (344642310417845957, 24437377117547309, 212757737454674625, 15085904741505532), (287720156551697894, 32641963020496335, 122864440347733729, 13939018268412781), (143860078275848947, 13056785208198534, 379091140007258796, 34406429140924829), (238632863277663646, 17326713994743793, 473863925009073495, 34406429140924829), (242034664823917443, 28117940549290480, 88636873342560418, 10297228857421173), (231813424090159244, 21544405077137365, 221592183356401045, 20594457714842346), (57953356022539811, 4308881015427473, 470474000534067304, 34980139689667181), (289766780112699055, 34471048123419784, 116762606089298224, 13890237562617393), (377338734679672723, 35910981036306263, 145953257611622780, 13890237562617393), (413827049082578418, 31506832341568489, 182441572014528475, 13890237562617393), (255857429594810677, 31167637419388716, 97338774138954421, 11857461493360655)]
def nbF11 : List (Nat × Nat × Nat × Nat) := [(295487093458774741, 28796145120716585, 97338774138954421, 9485969194688524), (438892176385772764, 34217136608208889, 47801694308999341, 3726740170545207), (171644393883887041, 21410925013694780, 188485413299164457, 23511674101361499), (171644393883887041, 17128740010955824, 192695668152983811, 19229489098622543), (353814424902322467, 28246283652596006, 101610652643766098, 8111945456982361), (253115201933985807, 16165680735227819, 507141833543401052, 32389571649192541), (63164871774067772, 6454630258343747, 318102933058912455, 32505992006666347), (78956089717584715, 6454630258343747, 412850240720014113, 33750349915345574), (359819851762153852, 23532108654762857, 324859254936384129, 21245696276150726), (152412742823692556, 15948395095747419, 297362071878999759, 31115822213778295), (190515928529615695, 15948395095747419, 297362071878999759, 24892657771022636), (243939000204307727, 16336421146708022, 377496679391037807, 25280683821983239), (193854870509283947, 20771716229567705, 277328420000990247, 29715978904842922), (193854870509283947, 16617372983654164, 298196807373916822, 25561635658929381), (492051677883200769, 33743206914066836, 126720170275795643, 8690032201895963), (168679357921725833, 18507917708060909, 267426736433568016, 29342725107742871), (101822673813333829, 8937789144900153, 334283420541960020, 29342725107742871), (287216202762157663, 20169007653388819, 352535239219803844, 24755866380565845), (233304552978163872, 26213124576310417, 88133809804950961, 9902346552226338), (381053705903934819, 34250881555867378, 29807671560409993, 2679252326518987), (102715344366086203, 7386026776477273, 457184390900308574, 32875089635507767), (245207607556224567, 28211714094069622, 134184557137103224, 15438250058874281), (312299886124776179, 28744671298805410, 167730696421379030, 15438250058874281), (312299886124776179, 22995737039044328, 365813313589111877, 26936118578396445), (58007436232068158, 6834065892006461, 249798441124975561, 29429657941421390), (197408515852572978, 18605929068575017, 249798441124975561, 23543726353137112), (220565682179514931, 16630810154750179, 272955607451917514, 20581047982399855), (173348749929924596, 20912991520060445, 136477803725958757, 16464838385919884), (43337187482481149, 4182598304012089, 335691518769944593, 32398567111582824), (289774520234271606, 22373586977562503, 362863103056137467, 28016780739076650), (90393299382385387, 11166874681931843, 272469803673752080, 33659974500590797), (22275848463947367, 2201504845427315, 362863103056137467, 35861479346018112), (22275848463947367, 1761203876341852, 448009916704184992, 35421178376932649), (514837462096027093, 32563832004766564, 358283285992086111, 22661670127233071), (218280187022028301, 22090200852799854, 350007747425144525, 35421178376932649), (432763133094560385, 35036893314668236, 32931890100779056, 2666195504826559), (548024748447287081, 35494862065248954, 41164862625973820, 2666195504826559), (330614060334357543, 34261519762817593, 51456078282467275, 5332391009653118), (69789495512972567, 5785825750632895, 396859382438281509, 32901215539878262), (69789495512972567, 4628660600506316, 513521601926095028, 34058380690004841), (99084947997248162, 10514604618406021, 245562210418626137, 26058342906385598), (247712369993120405, 21029209236812042, 345722238203121433, 29349625475685077), (527990305443094572, 35858422761784565, 24502467052500257, 1664083247774607), (127254955811637464, 13828017543455341, 249767291074138749, 27140683525652197), (159068694764546830, 13828017543455341, 313394768979957481, 27243753837903894), (472463463744504311, 32857417105087388, 509859327161072929, 35458108114175741), (85394485446628537, 9501999429311261, 264278629434678619, 29406762894975934), (87418278720326789, 7781752464857439, 359792081249798416, 32027774466471907), (437091393601633945, 31127009859429756, 352202856473429971, 25081760808952235), (282212099646969953, 32155906748116830, 34995378413230009, 3987455273103373), (255403297751764976, 23280999321973471, 228594495856559999, 20837273245453478), (319254122189706220, 23280999321973471, 420146969170383731, 30638418189546865), (304210728787503473, 35494381576970753, 10539658216625478, 1229735229664021), (377988336303881819, 35282022547695120, 202168740922722757, 18870746503511581), (347208010229373901, 25927151013050605, 316427684154865983, 23628683987945114), (106039706353910924, 12669327430325733, 241168303875462977, 28814114190555235), (373717936817851632, 35720618782769921, 241168303875462977, 23051291352444188), (467147421022314540, 35720618782769921, 54309335466537161, 4152785568847382)]
end Go.Proofs.YtechaplindbfoaaGreatDoor.mem
namespace Go.Proofs.YtechaplindbfoaaGreatDoor.mem
set_option linter.unusedVariables false

def lpZ (p : Int) : Int := p * 108853 / 32768
/-- Ten to the power of p, times two to the power of 127 - lpZ p: eA over eB. -/
def eA (p : Int) : Nat := if 0 ≤ p then 5 ^ p.toNat * 2 ^ (p + 127 - lpZ p).toNat else 2 ^ (p + 127 - lpZ p).toNat
def eB (p : Int) : Nat := if 0 ≤ p then 2 ^ (-(p + 127 - lpZ p)).toNat else 5 ^ (-p).toNat
/-- The table's row is the power, rounded up; and so it is with the neighbours. -/
def rowT (p : Int) (t : Nat × Nat) : Bool :=
  decide (t.1 < q64) && decide (t.2 < q64) && decide (t.2 ≤ t.1 * q64) && decide (eA p ≤ (t.1 * q64 - t.2) * eB p) && decide ((t.1 * q64 - t.2) * eB p < eA p + eB p) && decide (0 < eB p)
def rowP (p : Int) (n : Nat × Nat × Nat × Nat) : Bool := okN (eA p) (q64 * q64 * eB p * 2 ^ 8) (eB p) (q64 - 1) 9223372036854775808 n
def rowF (p : Int) (n : Nat × Nat × Nat × Nat) : Bool := okN (512 * eA p) (q64 * q64 * eB p * 2 ^ 5) (eB p) 36028797018963967 1 n
def chkT (k : Nat) : Bool := (List.range 58).all fun i => rowT ((58 * k + i : Nat) - 348) (_root_.Go.Pinned.pow10Rows.getD (58 * k + i) (0, 0))
def chkP (k : Nat) (l : List (Nat × Nat × Nat × Nat)) : Bool := (List.range 58).all fun i => rowP ((58 * k + i : Nat) - 348) (l.getD i (0, 0, 0, 0))
def chkF (k : Nat) (l : List (Nat × Nat × Nat × Nat)) : Bool := (List.range 58).all fun i => rowF ((58 * k + i : Nat) - 348) (l.getD i (0, 0, 0, 0))
theorem okT0 : chkT 0 = true := by decide +kernel
theorem okP0 : chkP 0 nbP0 = true := by decide +kernel
theorem okF0 : chkF 0 nbF0 = true := by decide +kernel
theorem okT1 : chkT 1 = true := by decide +kernel
theorem okP1 : chkP 1 nbP1 = true := by decide +kernel
theorem okF1 : chkF 1 nbF1 = true := by decide +kernel
theorem okT2 : chkT 2 = true := by decide +kernel
theorem okP2 : chkP 2 nbP2 = true := by decide +kernel
theorem okF2 : chkF 2 nbF2 = true := by decide +kernel
theorem okT3 : chkT 3 = true := by decide +kernel
theorem okP3 : chkP 3 nbP3 = true := by decide +kernel
theorem okF3 : chkF 3 nbF3 = true := by decide +kernel
theorem okT4 : chkT 4 = true := by decide +kernel
theorem okP4 : chkP 4 nbP4 = true := by decide +kernel
theorem okF4 : chkF 4 nbF4 = true := by decide +kernel
theorem okT5 : chkT 5 = true := by decide +kernel
theorem okP5 : chkP 5 nbP5 = true := by decide +kernel
theorem okF5 : chkF 5 nbF5 = true := by decide +kernel
theorem okT6 : chkT 6 = true := by decide +kernel
theorem okP6 : chkP 6 nbP6 = true := by decide +kernel
theorem okF6 : chkF 6 nbF6 = true := by decide +kernel
theorem okT7 : chkT 7 = true := by decide +kernel
theorem okP7 : chkP 7 nbP7 = true := by decide +kernel
theorem okF7 : chkF 7 nbF7 = true := by decide +kernel
theorem okT8 : chkT 8 = true := by decide +kernel
theorem okP8 : chkP 8 nbP8 = true := by decide +kernel
theorem okF8 : chkF 8 nbF8 = true := by decide +kernel
theorem okT9 : chkT 9 = true := by decide +kernel
theorem okP9 : chkP 9 nbP9 = true := by decide +kernel
theorem okF9 : chkF 9 nbF9 = true := by decide +kernel
theorem okT10 : chkT 10 = true := by decide +kernel
theorem okP10 : chkP 10 nbP10 = true := by decide +kernel
theorem okF10 : chkF 10 nbF10 = true := by decide +kernel
theorem okT11 : chkT 11 = true := by decide +kernel
theorem okP11 : chkP 11 nbP11 = true := by decide +kernel
theorem okF11 : chkF 11 nbF11 = true := by decide +kernel
theorem at_chunk {f : Nat → Bool} (h : (List.range 58).all f = true) {i : Nat} (hi : i < 58) : f i = true := List.all_eq_true.1 h i (List.mem_range.2 hi)
theorem tab_ok (p : Int) (h0 : -348 ≤ p) (h1 : p ≤ 347) : rowT p (_root_.Go.Pinned.pow10Rows.getD (p + 348).toNat (0, 0)) = true := by
  obtain ⟨j, hj⟩ : ∃ j, j = (p + 348).toNat := ⟨_, rfl⟩
  have hp : p = (j : Int) - 348 := by omega
  have hk : chkT (j / 58) = true := by
    have : j / 58 < 12 := by omega
    generalize j / 58 = k at *
    match k, this with
    | 0, _ => exact okT0
    | 1, _ => exact okT1
    | 2, _ => exact okT2
    | 3, _ => exact okT3
    | 4, _ => exact okT4
    | 5, _ => exact okT5
    | 6, _ => exact okT6
    | 7, _ => exact okT7
    | 8, _ => exact okT8
    | 9, _ => exact okT9
    | 10, _ => exact okT10
    | 11, _ => exact okT11
  have := at_chunk hk (i := j % 58) (Nat.mod_lt _ (by decide))
  rw [Nat.div_add_mod, ← hp] at this
  rw [← hj]
  exact this
theorem nbP_ok (p : Int) (h0 : -348 ≤ p) (h1 : p ≤ 347) : ∃ n, rowP p n = true := by
  obtain ⟨j, hj⟩ : ∃ j, j = (p + 348).toNat := ⟨_, rfl⟩
  have hp : p = (j : Int) - 348 := by omega
  have hk : ∃ l, chkP (j / 58) l = true := by
    have : j / 58 < 12 := by omega
    generalize j / 58 = k at *
    match k, this with
    | 0, _ => exact ⟨_, okP0⟩
    | 1, _ => exact ⟨_, okP1⟩
    | 2, _ => exact ⟨_, okP2⟩
    | 3, _ => exact ⟨_, okP3⟩
    | 4, _ => exact ⟨_, okP4⟩
    | 5, _ => exact ⟨_, okP5⟩
    | 6, _ => exact ⟨_, okP6⟩
    | 7, _ => exact ⟨_, okP7⟩
    | 8, _ => exact ⟨_, okP8⟩
    | 9, _ => exact ⟨_, okP9⟩
    | 10, _ => exact ⟨_, okP10⟩
    | 11, _ => exact ⟨_, okP11⟩
  obtain ⟨l, hl⟩ := hk
  have := at_chunk hl (i := j % 58) (Nat.mod_lt _ (by decide))
  rw [Nat.div_add_mod, ← hp] at this
  exact ⟨_, this⟩
theorem nbF_ok (p : Int) (h0 : -348 ≤ p) (h1 : p ≤ 347) : ∃ n, rowF p n = true := by
  obtain ⟨j, hj⟩ : ∃ j, j = (p + 348).toNat := ⟨_, rfl⟩
  have hp : p = (j : Int) - 348 := by omega
  have hk : ∃ l, chkF (j / 58) l = true := by
    have : j / 58 < 12 := by omega
    generalize j / 58 = k at *
    match k, this with
    | 0, _ => exact ⟨_, okF0⟩
    | 1, _ => exact ⟨_, okF1⟩
    | 2, _ => exact ⟨_, okF2⟩
    | 3, _ => exact ⟨_, okF3⟩
    | 4, _ => exact ⟨_, okF4⟩
    | 5, _ => exact ⟨_, okF5⟩
    | 6, _ => exact ⟨_, okF6⟩
    | 7, _ => exact ⟨_, okF7⟩
    | 8, _ => exact ⟨_, okF8⟩
    | 9, _ => exact ⟨_, okF9⟩
    | 10, _ => exact ⟨_, okF10⟩
    | 11, _ => exact ⟨_, okF11⟩
  obtain ⟨l, hl⟩ := hk
  have := at_chunk hl (i := j % 58) (Nat.mod_lt _ (by decide))
  rw [Nat.div_add_mod, ← hp] at this
  exact ⟨_, this⟩
/-- The table's row of p. -/
def tabH (p : Int) : Nat := (_root_.Go.Pinned.pow10Rows.getD (p + 348).toNat (0, 0)).1
def tabL (p : Int) : Nat := (_root_.Go.Pinned.pow10Rows.getD (p + 348).toNat (0, 0)).2
theorem wide_s {a m c0 c1 : Nat} {s0 s : Nat} (hs : s0 ≤ s) {X W : Nat} (h : ∀ y : Nat, X = y * (W * 2 ^ s0) ∨ y * (W * 2 ^ s0) + c0 < X ∨ X + c1 ≤ y * (W * 2 ^ s0)) (y : Nat) : X = y * (W * 2 ^ s) ∨ y * (W * 2 ^ s) + c0 < X ∨ X + c1 ≤ y * (W * 2 ^ s) := by
  have e : y * (W * 2 ^ s) = y * 2 ^ (s - s0) * (W * 2 ^ s0) := by
    rw [show s = s0 + (s - s0) by omega, Nat.pow_add, show s0 + (s - s0) - s0 = s - s0 by omega]
    rw [← Nat.mul_assoc W, ← Nat.mul_assoc y]
    exact Nat.mul_right_comm _ _ _
  rw [e]
  exact h _
/-- uscale is right where a number is read: x has its highest bit set, and s is 8 or more. -/
theorem uscale_read (p : Int) (h0 : -348 ≤ p) (h1 : p ≤ 347) (x s : Nat) (hx0 : 9223372036854775808 ≤ x) (hx : x < q64) (hs : 8 ≤ s) :
    us x (tabH p) (tabL p) s = un (x * eA p) (q64 * q64 * eB p * 2 ^ s) := by
  have ht := tab_ok p h0 h1
  unfold rowT at ht
  simp only [Bool.and_eq_true, decide_eq_true_eq] at ht
  obtain ⟨⟨⟨⟨⟨t1, t2⟩, t3⟩, t4⟩, t5⟩, t6⟩ := ht
  obtain ⟨n, hn⟩ := nbP_ok p h0 h1
  refine us_eq hx t1 t2 t3 t6 t4 t5 (fun y => ?_)
  have := wide_s (a := 0) (m := 0) hs (fun y => nt_ok t6 hn x hx0 (by omega) (by omega) y) y
  omega
/-- uscale is right where a float is written: x is 512 times a number of at most 55 bits, and s is 5 or more. -/
theorem uscale_write (p : Int) (h0 : -348 ≤ p) (h1 : p ≤ 347) (x s : Nat) (hx0 : 0 < x) (hx : x < 36028797018963968) (hs : 5 ≤ s) :
    us (512 * x) (tabH p) (tabL p) s = un (512 * x * eA p) (q64 * q64 * eB p * 2 ^ s) := by
  have ht := tab_ok p h0 h1
  unfold rowT at ht
  simp only [Bool.and_eq_true, decide_eq_true_eq] at ht
  obtain ⟨⟨⟨⟨⟨t1, t2⟩, t3⟩, t4⟩, t5⟩, t6⟩ := ht
  obtain ⟨n, hn⟩ := nbF_ok p h0 h1
  refine us_eq (by unfold q64; omega) t1 t2 t3 t6 t4 t5 (fun y => ?_)
  have e : 512 * x * eA p = x * (512 * eA p) := by rw [Nat.mul_comm 512, Nat.mul_assoc]
  rw [e]
  have := wide_s (a := 0) (m := 0) hs (fun y => nt_ok t6 hn x (by omega) hx0 (by omega) y) y
  omega
end Go.Proofs.YtechaplindbfoaaGreatDoor.mem
namespace Go.Proofs.YtechaplindbfoaaGreatDoor.mem
set_option linter.unusedVariables false

def rowR (p : Int) : Bool := decide (2 ^ 127 * eB p ≤ eA p) && decide (eA p * 1000 ≤ 999 * (q64 * q64 * eB p))
def chkR (k : Nat) : Bool := (List.range 58).all fun i => rowR ((58 * k + i : Nat) - 348)
theorem okR0 : chkR 0 = true := by decide +kernel
theorem okR1 : chkR 1 = true := by decide +kernel
theorem okR2 : chkR 2 = true := by decide +kernel
theorem okR3 : chkR 3 = true := by decide +kernel
theorem okR4 : chkR 4 = true := by decide +kernel
theorem okR5 : chkR 5 = true := by decide +kernel
theorem okR6 : chkR 6 = true := by decide +kernel
theorem okR7 : chkR 7 = true := by decide +kernel
theorem okR8 : chkR 8 = true := by decide +kernel
theorem okR9 : chkR 9 = true := by decide +kernel
theorem okR10 : chkR 10 = true := by decide +kernel
theorem okR11 : chkR 11 = true := by decide +kernel
theorem row_range (p : Int) (h0 : -348 ≤ p) (h1 : p ≤ 347) : 2 ^ 127 * eB p ≤ eA p ∧ eA p * 1000 ≤ 999 * (q64 * q64 * eB p) := by
  obtain ⟨j, hj⟩ : ∃ j, j = (p + 348).toNat := ⟨_, rfl⟩
  have hp : p = (j : Int) - 348 := by omega
  have hk : chkR (j / 58) = true := by
    have : j / 58 < 12 := by omega
    generalize j / 58 = k at *
    match k, this with
    | 0, _ => exact okR0
    | 1, _ => exact okR1
    | 2, _ => exact okR2
    | 3, _ => exact okR3
    | 4, _ => exact okR4
    | 5, _ => exact okR5
    | 6, _ => exact okR6
    | 7, _ => exact okR7
    | 8, _ => exact okR8
    | 9, _ => exact okR9
    | 10, _ => exact okR10
    | 11, _ => exact okR11
  have := at_chunk hk (i := j % 58) (Nat.mod_lt _ (by decide))
  rw [Nat.div_add_mod, ← hp] at this
  unfold rowR at this
  simpa using this
theorem base_pow (p : Int) (i j : Nat) (h : (j : Int) - i = 127 - lpZ p) : eA p * 10 ^ (-p).toNat * 2 ^ i = eB p * 10 ^ p.toNat * 2 ^ j := by
  unfold eA eB
  by_cases hp : 0 ≤ p
  · rw [if_pos hp, if_pos hp, show (-p).toNat = 0 by omega, Nat.pow_zero, Nat.mul_one, show (10 : Nat) = 5 * 2 from rfl, Nat.mul_pow]
    have e1 : 5 ^ p.toNat * 2 ^ (p + 127 - lpZ p).toNat * 2 ^ i = 5 ^ p.toNat * 2 ^ ((p + 127 - lpZ p).toNat + i) := by rw [Nat.mul_assoc, ← Nat.pow_add]
    have e2 : 2 ^ (-(p + 127 - lpZ p)).toNat * (5 ^ p.toNat * 2 ^ p.toNat) * 2 ^ j = 5 ^ p.toNat * 2 ^ ((-(p + 127 - lpZ p)).toNat + p.toNat + j) := by
      rw [← Nat.mul_assoc, Nat.mul_comm (2 ^ (-(p + 127 - lpZ p)).toNat), Nat.mul_assoc, Nat.mul_assoc, ← Nat.pow_add, ← Nat.pow_add, Nat.add_assoc]
    rw [e1, e2, show (p + 127 - lpZ p).toNat + i = (-(p + 127 - lpZ p)).toNat + p.toNat + j by omega]
  · have hl : lpZ p ≤ p := by unfold lpZ; omega
    rw [if_neg hp, if_neg hp, show p.toNat = 0 by omega, Nat.pow_zero, Nat.mul_one, show (10 : Nat) = 5 * 2 from rfl, Nat.mul_pow]
    have e1 : 2 ^ (p + 127 - lpZ p).toNat * (5 ^ (-p).toNat * 2 ^ (-p).toNat) * 2 ^ i = 5 ^ (-p).toNat * 2 ^ ((p + 127 - lpZ p).toNat + (-p).toNat + i) := by
      rw [← Nat.mul_assoc, Nat.mul_comm (2 ^ (p + 127 - lpZ p).toNat), Nat.mul_assoc, Nat.mul_assoc, ← Nat.pow_add, ← Nat.pow_add, Nat.add_assoc]
    rw [e1, show (p + 127 - lpZ p).toNat + (-p).toNat + i = j by omega]
theorem q64_eq : q64 = 2 ^ 64 := rfl
/-- The number d times ten to the power of p, over the unrounded number's own parts. -/
theorem prs_id (d b s k c : Nat) (p e : Int) (hb : b ≤ 64) (hs : (s : Int) = 61 - b - e - lpZ p) (hk : (k : Int) = 1074 - e + c) :
    d * 10 ^ p.toNat * k74 * (4 * 2 ^ c * (q64 * q64 * eB p * 2 ^ s)) = d * 2 ^ (64 - b) * eA p * 10 ^ (-p).toNat * 2 ^ k := by
  have h := base_pow p (64 - b + k) (52 + e22 + 2 + c + 128 + s) (by rw [e22_eq]; omega)
  have e1 : d * 2 ^ (64 - b) * eA p * 10 ^ (-p).toNat * 2 ^ k = d * (eA p * 10 ^ (-p).toNat * 2 ^ (64 - b + k)) := by
    rw [Nat.pow_add]
    generalize 2 ^ (64 - b) = A1
    generalize 2 ^ k = A2
    generalize eA p = A3
    generalize 10 ^ (-p).toNat = A4
    rw [Nat.mul_assoc d A1, Nat.mul_assoc d, Nat.mul_assoc d]
    congr 1
    rw [Nat.mul_comm A1 A3, Nat.mul_assoc A3 A1, Nat.mul_assoc A3, Nat.mul_assoc A3, Nat.mul_comm A1 A4, Nat.mul_assoc A4]
  have e2 : d * 10 ^ p.toNat * k74 * (4 * 2 ^ c * (q64 * q64 * eB p * 2 ^ s)) = d * (eB p * 10 ^ p.toNat * 2 ^ (52 + e22 + 2 + c + 128 + s)) := by
    have e3 : 2 ^ (52 + e22 + 2 + c + 128 + s) = k74 * 4 * 2 ^ c * (q64 * q64) * 2 ^ s := by
      rw [Nat.pow_add, Nat.pow_add, Nat.pow_add, Nat.pow_add, show 2 ^ (52 + e22) = k74 from rfl, show (2 : Nat) ^ 2 = 4 from rfl, show (2 : Nat) ^ 128 = q64 * q64 from rfl]
    rw [e3]
    generalize k74 = A1
    generalize 2 ^ c = A2
    generalize q64 * q64 = A3
    generalize 2 ^ s = A4
    generalize eB p = A5
    generalize 10 ^ p.toNat = A6
    rw [Nat.mul_assoc d, Nat.mul_assoc d]
    congr 1
    rw [Nat.mul_comm A5 A6, Nat.mul_assoc A6, Nat.mul_assoc A6]
    congr 1
    rw [Nat.mul_comm A3 A5]
    simp only [Nat.mul_assoc, Nat.mul_left_comm]
  rw [e1, e2, h]
end Go.Proofs.YtechaplindbfoaaGreatDoor.mem
namespace Go.Proofs.YtechaplindbfoaaGreatDoor.mem
set_option linter.unusedVariables false

theorem eB_pos (p : Int) : 0 < eB p := by
  unfold eB
  split
  · exact Nat.two_pow_pos _
  · exact Nat.pow_pos (by decide)
/-- Two pairs in the same ratio compare alike. -/
theorem cmp_of {X V Y Z a b : Nat} (hY : 0 < Y) (hZ : 0 < Z) (h1 : X * Y = a * Z) (h2 : V * Y = b * Z) : (X < V ↔ a < b) ∧ (X = V ↔ a = b) := by
  constructor
  · rw [← Nat.mul_lt_mul_right hY, h1, h2, Nat.mul_lt_mul_right hZ]
  · rw [← Nat.mul_right_cancel_iff hY, h1, h2, Nat.mul_right_cancel_iff hZ]
/-- What shortFloat compares: x over its scale against c, and M (in half least units) against c times ten to the power of -p. -/
theorem sho_cmp (p : Int) (M x s t k c : Nat) (hs : 1 ≤ s) (hx : x * 2 ^ k = M * 2 ^ (s - 1)) (ht : (t : Int) = 1071 + s - k - lpZ p) :
    (x * eA p < c * (4 * (q64 * q64 * eB p * 2 ^ t)) ↔ 10 ^ p.toNat * M < 2 * (c * 10 ^ (-p).toNat * k74)) ∧ (x * eA p = c * (4 * (q64 * q64 * eB p * 2 ^ t)) ↔ 10 ^ p.toNat * M = 2 * (c * 10 ^ (-p).toNat * k74)) := by
  obtain ⟨i, hi⟩ : ∃ i, i = (lpZ p - 127).toNat := ⟨_, rfl⟩
  obtain ⟨j, hj⟩ : ∃ j, j = (127 - lpZ p).toNat := ⟨_, rfl⟩
  have hb := base_pow p i j (by omega)
  have hC : 0 < 10 ^ (-p).toNat := Nat.pow_pos (by decide)
  refine cmp_of (Y := 10 ^ (-p).toNat * 2 ^ i * 2 ^ k) (Z := eB p * (2 ^ (s - 1) * 2 ^ j)) (Nat.mul_pos (Nat.mul_pos hC (Nat.two_pow_pos _)) (Nat.two_pow_pos _)) (Nat.mul_pos (eB_pos p) (Nat.mul_pos (Nat.two_pow_pos _) (Nat.two_pow_pos _))) ?_ ?_
  · have e1 : x * eA p * (10 ^ (-p).toNat * 2 ^ i * 2 ^ k) = (x * 2 ^ k) * (eA p * 10 ^ (-p).toNat * 2 ^ i) := by
      generalize eA p = A1
      generalize 10 ^ (-p).toNat = A2
      generalize 2 ^ i = A3
      generalize 2 ^ k = A4
      ac_rfl
    rw [e1, hb, hx]
    generalize eB p = A1
    generalize 10 ^ p.toNat = A2
    generalize 2 ^ j = A3
    generalize 2 ^ (s - 1) = A4
    ac_rfl
  · have e3 : 4 * (q64 * q64) * 2 ^ t * 2 ^ i * 2 ^ k = 2 * k74 * (2 ^ (s - 1) * 2 ^ j) := by
      have a1 : 4 * (q64 * q64) * 2 ^ t * 2 ^ i * 2 ^ k = 2 ^ (130 + t + i + k) := by
        rw [Nat.pow_add, Nat.pow_add, Nat.pow_add, show (2 : Nat) ^ 130 = 4 * (q64 * q64) from rfl]
      have a2 : 2 * k74 * (2 ^ (s - 1) * 2 ^ j) = 2 ^ (1 + (52 + e22) + (s - 1 + j)) := by
        rw [Nat.pow_add, Nat.pow_add 2 1, Nat.pow_add 2 (s - 1), show 2 ^ (52 + e22) = k74 from rfl, show (2 : Nat) ^ 1 = 2 from rfl]
      rw [a1, a2, show 130 + t + i + k = 1 + (52 + e22) + (s - 1 + j) by rw [e22_eq]; omega]
    have e1 : c * (4 * (q64 * q64 * eB p * 2 ^ t)) * (10 ^ (-p).toNat * 2 ^ i * 2 ^ k) = c * 10 ^ (-p).toNat * eB p * (4 * (q64 * q64) * 2 ^ t * 2 ^ i * 2 ^ k) := by
      generalize eB p = A1
      generalize 10 ^ (-p).toNat = A2
      generalize 2 ^ i = A3
      generalize 2 ^ k = A4
      generalize 2 ^ t = A5
      generalize q64 * q64 = A6
      ac_rfl
    rw [e1, e3]
    generalize eB p = A1
    generalize 10 ^ (-p).toNat = A2
    generalize 2 ^ j = A3
    generalize 2 ^ (s - 1) = A4
    generalize k74 = A5
    ac_rfl
/-- c times ten to the power of -p reads as a if and only if c lies between shortFloat's dmin and dmax. -/
theorem sho_in (p : Int) (a x0 x1 s t k c : Nat) (hs : 1 ≤ s) (hc : 0 < c) (hx1p : 0 < x1) (hx0 : x0 * 2 ^ k = midR (a - 1) * 2 ^ (s - 1)) (hx1 : x1 * 2 ^ k = midR a * 2 ^ (s - 1)) (ht : (t : Int) = 1071 + s - k - lpZ p) (hA : 0 < eA p) :
    InR (c * 10 ^ (-p).toNat * k74) (10 ^ p.toNat) a ↔ (un (x0 * eA p) (q64 * q64 * eB p * 2 ^ t) + a % 2 + 3) / 4 ≤ c ∧ c ≤ (un (x1 * eA p) (q64 * q64 * eB p * 2 ^ t) - a % 2) / 4 := by
  obtain ⟨l1, l2⟩ := sho_cmp p (midR (a - 1)) x0 s t k c hs hx0 ht
  obtain ⟨g1, g2⟩ := sho_cmp p (midR a) x1 s t k c hs hx1 ht
  have hW : 0 < q64 * q64 * eB p * 2 ^ t := Nat.mul_pos (Nat.mul_pos (by decide) (eB_pos p)) (Nat.two_pow_pos _)
  have hX1 : 0 < x1 * eA p := Nat.mul_pos hx1p hA
  unfold InR
  rw [← l1, ← l2]
  have hg : 2 * (c * 10 ^ (-p).toNat * k74) < 10 ^ p.toNat * midR a ↔ c * (4 * (q64 * q64 * eB p * 2 ^ t)) < x1 * eA p := by
    omega
  rw [hg, eq_comm (a := 2 * (c * 10 ^ (-p).toNat * k74)), ← g2]
  generalize x1 * eA p = X1 at *
  generalize x0 * eA p = X0 at *
  generalize q64 * q64 * eB p * 2 ^ t = W at *
  have c1 := un_ceil X0 W c hW
  have c2 := un_ceil_odd X0 W c hW
  have f1 := un_floor X1 W c hW
  have f2 := un_floor_odd X1 W c hW hX1
  generalize c * (4 * W) = V at *
  rcases (show a % 2 = 0 ∨ a % 2 = 1 by omega) with h | h
  · rw [h]; simp only [Nat.add_zero, Nat.sub_zero]
    rw [c1, f1]
    clear hg l1 l2 g1 g2 c1 c2 f1 f2
    constructor
    · rintro ⟨a1, a2⟩
      exact ⟨by omega, by omega⟩
    · rintro ⟨a1, a2⟩
      refine ⟨?_, ?_⟩
      · rcases Nat.lt_or_eq_of_le a1 with a1 | a1
        · exact Or.inl a1
        · exact Or.inr ⟨a1, trivial⟩
      · rcases Nat.lt_or_eq_of_le a2 with a2 | a2
        · exact Or.inl a2
        · exact Or.inr ⟨a2.symm, trivial⟩
  · rw [h, c2, f2]
    clear hg l1 l2 g1 g2 c1 c2 f1 f2
    constructor
    · rintro ⟨a1 | ⟨_, a1⟩, a2 | ⟨_, a2⟩⟩
      · exact ⟨a1, Or.inr a2⟩
      all_goals exact absurd ‹1 = 0› (by decide)
    · rintro ⟨a1, a2⟩
      exact ⟨Or.inl a1, Or.inl (by omega)⟩
end Go.Proofs.YtechaplindbfoaaGreatDoor.mem
namespace Go.Proofs.YtechaplindbfoaaGreatDoor.mem
set_option linter.unusedVariables false

/-- log10Pow2 and skewed. -/
def lgZ (E : Int) : Int := E * 78913 / 262144
def skZ (E : Int) : Int := (E * 631305 - 261663) / 2097152
/-- The p of a float with the exponent k (in least units). -/
def pG (k : Nat) : Int := - lgZ ((k : Int) - 1074)
def pS (k : Nat) : Int := - skZ ((k : Int) - 1074)
def rowG (k : Nat) : Bool :=
  decide (-348 ≤ pG k) && decide (pG k ≤ 347) && decide (10 ^ (-(pG k)).toNat * k74 ≤ 2 ^ k * 10 ^ (pG k).toNat) && decide (2 ^ k * 10 ^ (pG k).toNat < 10 * (10 ^ (-(pG k)).toNat * k74))
  && (decide (10 ^ (-(pG k)).toNat * k74 < 2 ^ k * 10 ^ (pG k).toNat) || decide (pG k = 0)) && decide ((5 : Int) ≤ 1082 - k - lpZ (pG k)) && decide (1082 - k - lpZ (pG k) ≤ (11 : Int))
def tS (k : Nat) : Nat := (1082 - (k : Int) - lpZ (pS k)).toNat
def wS (k : Nat) : Nat := q64 * q64 * eB (pS k) * 2 ^ tS k
def minS (k : Nat) : Nat := (un (((4 * b52 - 1) * 512) * eA (pS k)) (wS k) + 3) / 4
def maxS (k : Nat) : Nat := un (((2 * b52 + 1) * 1024) * eA (pS k)) (wS k) / 4
def midS (k : Nat) : Nat := (un ((b52 * 2048) * eA (pS k)) (wS k) + 1 + un ((b52 * 2048) * eA (pS k)) (wS k) / 4 % 2) / 4
def rowS (k : Nat) : Bool :=
  decide (-348 ≤ pS k) && decide (pS k ≤ 347) && decide ((5 : Int) ≤ 1082 - k - lpZ (pS k)) && decide (1082 - k - lpZ (pS k) ≤ (63 : Int))
  && decide (0 < minS k) && decide (minS k ≤ maxS k) && decide (maxS k < minS k + 10) && (decide (minS k ≤ maxS k / 10 * 10) || decide (minS k = maxS k) || (decide (minS k ≤ midS k) && decide (midS k ≤ maxS k)))
theorem okG : (List.range 2046).all rowG = true := by decide +kernel
theorem okS : (List.range 2046).all rowS = true := by decide +kernel
end Go.Proofs.YtechaplindbfoaaGreatDoor.mem
namespace Go.Proofs.YtechaplindbfoaaGreatDoor.mem
set_option linter.unusedVariables false

theorem mant_of {q k : Nat} (h : q < b53) (h2 : b52 ≤ q ∨ k = 0) : mantR (q + k * b52) = q ∧ exR (q + k * b52) = k ∧ q % 2 = (q + k * b52) % 2 := by
  unfold mantR exR
  unfold b52 b53 at *
  rcases h2 with h2 | h2
  · rw [if_neg (by omega)]
    refine ⟨by omega, by omega, by omega⟩
  · subst h2
    split <;> refine ⟨by omega, by omega, by omega⟩
theorem rne_bd {X D : Nat} (hD : 0 < D) {M : Nat} (h : X < M * D) (h2 : 2 * X + D < 2 * (M * D)) : rne X D < M := by
  have hdm := Nat.div_add_mod X D
  have hml := Nat.mod_lt X hD
  have hq : X / D < M := Nat.div_lt_of_lt_mul (by rw [Nat.mul_comm]; exact h)
  unfold rne
  split
  · rename_i hc
    by_cases e : X / D + 1 = M
    · exfalso
      have : M * D = D * (X / D) + D := by rw [← e, Nat.add_mul, Nat.one_mul, Nat.mul_comm]
      omega
    · omega
  · exact hq
theorem rne_ge {X D M : Nat} (hD : 0 < D) (h : M * D ≤ X) : M ≤ rne X D := by
  have : M ≤ X / D := (Nat.le_div_iff_mul_le hD).2 h
  unfold rne
  split <;> omega
/-- What parseFloat64 answers is the right rounding: u the unrounded number X over W. -/
theorem prs_core {P Bn X W k : Nat} (hW : 0 < W) (hBn : 0 < Bn) (hid : P * (4 * W) = X * Bn * 2 ^ k)
    (hr : (4 * b52 * W ≤ X ∧ X * 1000 < 999 * (16 * b52 * W)) ∨ (k = 0 ∧ X * 1000 < 999 * (8 * b52 * W))) :
    ∃ lo, Lo P Bn lo ∧
      (un X W < 4 * b53 - 2 → roundR P Bn lo = (un X W + 1 + un X W / 4 % 2) / 4 + k * b52 ∧ (un X W + 1 + un X W / 4 % 2) / 4 < b53 ∧ (b52 ≤ (un X W + 1 + un X W / 4 % 2) / 4 ∨ k = 0)) ∧
      (4 * b53 - 2 ≤ un X W → roundR P Bn lo = (((un X W / 2) ||| (un X W % 2)) + 1 + ((un X W / 2) ||| (un X W % 2)) / 4 % 2) / 4 + (k + 1) * b52 ∧ b52 ≤ (((un X W / 2) ||| (un X W % 2)) + 1 + ((un X W / 2) ||| (un X W % 2)) / 4 % 2) / 4 ∧ (((un X W / 2) ||| (un X W % 2)) + 1 + ((un X W / 2) ||| (un X W % 2)) / 4 % 2) / 4 < b53) := by
  obtain ⟨h1, h2⟩ := un_parts X W
  rw [un_half X W hW, un_round X W hW, un_round X (2 * W) (by omega)]
  have e8 : 4 * (2 * W) = 8 * W := by omega
  rw [e8]
  have hid1 : P * (8 * W) = X * Bn * 2 ^ (k + 1) := by
    rw [Nat.pow_succ, ← Nat.mul_assoc (X * Bn), ← hid, Nat.mul_assoc P]
    congr 1
    omega
  have hdm := Nat.div_add_mod X W
  have hml := Nat.mod_lt X hW
  obtain ⟨F, hF⟩ : ∃ F, F = X / W := ⟨_, rfl⟩
  have hq4 : X / (4 * W) = F / 4 := by rw [Nat.mul_comm, ← Nat.div_div_eq_div_mul, ← hF]
  have hq8 : X / (8 * W) = F / 8 := by rw [Nat.mul_comm, ← Nat.div_div_eq_div_mul, ← hF]
  rw [← hF] at h1 h2 hdm
  have hFX : W * F ≤ X := by omega
  by_cases hu : un X W < 4 * b53 - 2
  · -- not halved
    have hF2 : F < 4 * b53 - 2 := by unfold b53 at *; omega
    have hXl : X < (4 * b53 - 2) * W := by
      have : W * (F + 1) ≤ W * (4 * b53 - 2) := Nat.mul_le_mul_left _ hF2
      rw [Nat.mul_add, Nat.mul_one] at this
      rw [Nat.mul_comm _ W]
      omega
    have hq : X / (4 * W) < b53 := by rw [hq4]; unfold b53 at *; omega
    have hlow : b52 ≤ X / (4 * W) ∨ k = 0 := by
      rcases hr with ⟨hr, _⟩ | ⟨hr, _⟩
      · left
        refine (Nat.le_div_iff_mul_le (by omega)).2 ?_
        rw [← Nat.mul_assoc, Nat.mul_comm b52 4]; exact hr
      · right; exact hr
    obtain ⟨m1, m2, m3⟩ := mant_of hq hlow
    obtain ⟨l1, l2⟩ := rung_of (by omega) hBn hid rfl m1 m2 m3
    refine ⟨_, l1, fun _ => ⟨l2, ?_, ?_⟩, fun h => absurd h (by omega)⟩
    · refine rne_bd (by omega) ?_ ?_
      · unfold b53 at *; omega
      · unfold b53 at *; omega
    · rcases hlow with hl | hl
      · left
        refine Nat.le_trans hl ?_
        unfold rne
        split <;> omega
      · right; exact hl
  · have hF2 : 4 * b53 - 2 ≤ F := by unfold b53 at *; omega
    have hXl : (4 * b53 - 2) * W ≤ X := by
      have : W * (4 * b53 - 2) ≤ W * F := Nat.mul_le_mul_left _ hF2
      rw [Nat.mul_comm _ W]
      omega
    have hr2 : X * 1000 < 999 * (16 * b52 * W) ∧ 4 * b52 * W ≤ X := by
      rcases hr with ⟨hr, hr2⟩ | ⟨_, hr⟩
      · exact ⟨hr2, hr⟩
      · exfalso
        unfold b52 b53 at *
        omega
    obtain ⟨hr3, hr4⟩ := hr2
    have hup : rne X (8 * W) < b53 := by
      refine rne_bd (by omega) ?_ ?_
      · unfold b52 b53 at *; omega
      · unfold b52 b53 at *; omega
    by_cases hF3 : 4 * b53 ≤ F
    · have hXl3 : 4 * b53 * W ≤ X := by
        have : W * (4 * b53) ≤ W * F := Nat.mul_le_mul_left _ hF3
        rw [Nat.mul_comm _ W]
        omega
      have hq : X / (8 * W) < b53 := Nat.div_lt_of_lt_mul (by unfold b52 b53 at *; omega)
      have hlow : b52 ≤ X / (8 * W) := by rw [hq8]; unfold b52 b53 at *; omega
      obtain ⟨m1, m2, m3⟩ := mant_of (k := k + 1) hq (Or.inl hlow)
      obtain ⟨l1, l2⟩ := rung_of (by omega) hBn hid1 rfl m1 m2 m3
      refine ⟨_, l1, fun h => absurd h hu, fun _ => ⟨l2, ?_, hup⟩⟩
      refine Nat.le_trans hlow ?_
      unfold rne
      split <;> omega
    · have hqe : X / (4 * W) = b53 - 1 := by rw [hq4]; unfold b53 at *; omega
      have hq8e : X / (8 * W) = b52 - 1 := by rw [hq8]; unfold b52 b53 at *; omega
      obtain ⟨m1, m2, m3⟩ := mant_of (q := X / (4 * W)) (k := k) (by rw [hqe]; unfold b53; omega) (Or.inl (by rw [hqe]; unfold b52 b53; omega))
      obtain ⟨l1, l2⟩ := rung_of (by omega) hBn hid rfl m1 m2 m3
      have r4 : rne X (4 * W) = b53 := by
        have hd4 := Nat.div_add_mod X (4 * W)
        unfold rne
        rw [hqe] at hd4 ⊢
        rw [if_pos]
        · unfold b53; omega
        · have : 4 * W * (b53 - 1) = (4 * b53 - 4) * W := by
            unfold b53; omega
          rw [this] at hd4
          by_cases hx : 4 * W < 2 * (X % (4 * W))
          · left; exact hx
          · right
            constructor
            · unfold b53 at *; omega
            · unfold b53; decide
      have r8 : rne X (8 * W) = b52 := by
        have hd8 := Nat.div_add_mod X (8 * W)
        unfold rne
        rw [hq8e] at hd8 ⊢
        rw [if_pos]
        · unfold b52; omega
        · left
          unfold b52 b53 at *
          omega
      refine ⟨_, l1, fun h => absurd h hu, fun _ => ⟨?_, ?_, hup⟩⟩
      · rw [l2, r4, r8]; unfold b52 b53; omega
      · rw [r8]; exact Nat.le_refl _
/-- x of 64 bits, its highest bit set, times the row p, over W: where it lies. -/
theorem prs_rng (p : Int) (h0 : -348 ≤ p) (h1 : p ≤ 347) (x s : Nat) (hx0 : 9223372036854775808 ≤ x) (hx : x < q64) :
    (s = 8 → 4 * b52 * (q64 * q64 * eB p * 2 ^ s) ≤ x * eA p ∧ x * eA p * 1000 < 999 * (16 * b52 * (q64 * q64 * eB p * 2 ^ s))) ∧ (9 ≤ s → x * eA p * 1000 < 999 * (8 * b52 * (q64 * q64 * eB p * 2 ^ s))) ∧ (64 ≤ s → x * eA p * 1000 < 999 * (q64 * q64 * eB p * 2 ^ s)) := by
  obtain ⟨r1, r2⟩ := row_range p h0 h1
  have hBp : 0 < eB p := by
    unfold eB
    split
    · exact Nat.two_pow_pos _
    · exact Nat.pow_pos (by decide)
  generalize eA p = A at *
  generalize eB p = B at *
  have hup : x * A * 1000 < 999 * (q64 * (q64 * q64 * B)) := by
    have a1 : x * A * 1000 ≤ x * (999 * (q64 * q64 * B)) := by
      rw [Nat.mul_assoc]; exact Nat.mul_le_mul_left _ r2
    have a2 : x * (999 * (q64 * q64 * B)) < q64 * (999 * (q64 * q64 * B)) := by
      refine Nat.mul_lt_mul_of_pos_right hx ?_
      unfold q64
      omega
    have a3 : q64 * (999 * (q64 * q64 * B)) = 999 * (q64 * (q64 * q64 * B)) := Nat.mul_left_comm _ _ _
    omega
  have grow : ∀ s0, s0 ≤ s → q64 * q64 * B * 2 ^ s0 ≤ q64 * q64 * B * 2 ^ s := fun s0 h => Nat.mul_le_mul_left _ (Nat.pow_le_pow_right (by decide) h)
  refine ⟨fun h => ?_, fun h => ?_, fun h => ?_⟩
  · subst h
    have a1 : 9223372036854775808 * (2 ^ 127 * B) ≤ x * A := Nat.mul_le_mul hx0 r1
    constructor
    · refine Nat.le_trans ?_ a1
      unfold b52 q64
      omega
    · refine Nat.lt_of_lt_of_le hup ?_
      unfold b52 q64
      omega
  · refine Nat.lt_of_lt_of_le hup ?_
    have g := grow 9 h
    generalize q64 * q64 * B * 2 ^ s = W at *
    unfold b52
    unfold q64 at *
    omega
  · refine Nat.lt_of_lt_of_le hup ?_
    have g := grow 64 h
    generalize q64 * q64 * B * 2 ^ s = W at *
    unfold q64 at *
    omega
/-- parseFloat64: d times ten to the power of p, b the bits of d. -/
theorem prs_ok (d b s k : Nat) (p e : Int) (h0 : -348 ≤ p) (h1 : p ≤ 347) (hb : b ≤ 64) (hx0 : 9223372036854775808 ≤ d * 2 ^ (64 - b)) (hx : d * 2 ^ (64 - b) < q64)
    (he : e = min 1074 (53 - b - lpZ p)) (hs : (s : Int) = 61 - b - e - lpZ p) (hk : (k : Int) = 1074 - e) (u : Nat) (hu : u = un (d * 2 ^ (64 - b) * eA p) (q64 * q64 * eB p * 2 ^ s)) :
    ∃ lo, Lo (d * 10 ^ p.toNat * k74) (10 ^ (-p).toNat) lo ∧
      (u < 4 * b53 - 2 → roundR (d * 10 ^ p.toNat * k74) (10 ^ (-p).toNat) lo = (u + 1 + u / 4 % 2) / 4 + k * b52 ∧ (u + 1 + u / 4 % 2) / 4 < b53 ∧ (b52 ≤ (u + 1 + u / 4 % 2) / 4 ∨ k = 0)) ∧
      (4 * b53 - 2 ≤ u → roundR (d * 10 ^ p.toNat * k74) (10 ^ (-p).toNat) lo = (((u / 2) ||| (u % 2)) + 1 + ((u / 2) ||| (u % 2)) / 4 % 2) / 4 + (k + 1) * b52 ∧ b52 ≤ (((u / 2) ||| (u % 2)) + 1 + ((u / 2) ||| (u % 2)) / 4 % 2) / 4 ∧ (((u / 2) ||| (u % 2)) + 1 + ((u / 2) ||| (u % 2)) / 4 % 2) / 4 < b53) ∧
      (64 ≤ s → roundR (d * 10 ^ p.toNat * k74) (10 ^ (-p).toNat) lo = 0) := by
  subst hu
  obtain ⟨g1, g2, g3⟩ := prs_rng p h0 h1 (d * 2 ^ (64 - b)) s hx0 hx
  have hBp : 0 < eB p := by
    unfold eB
    split
    · exact Nat.two_pow_pos _
    · exact Nat.pow_pos (by decide)
  have hid := prs_id d b s k 0 p e hb hs (by omega)
  rw [Nat.pow_zero, Nat.mul_one] at hid
  have hW : 0 < q64 * q64 * eB p * 2 ^ s := Nat.mul_pos (Nat.mul_pos (by decide) hBp) (Nat.two_pow_pos _)
  have hTen : 0 < 10 ^ (-p).toNat := Nat.pow_pos (by decide)
  have hcase : s = 8 ∨ (9 ≤ s ∧ k = 0) := by
    by_cases h : (53 : Int) - b - lpZ p ≤ 1074
    · left; omega
    · right; omega
  have hr : (4 * b52 * (q64 * q64 * eB p * 2 ^ s) ≤ d * 2 ^ (64 - b) * eA p ∧ d * 2 ^ (64 - b) * eA p * 1000 < 999 * (16 * b52 * (q64 * q64 * eB p * 2 ^ s))) ∨ (k = 0 ∧ d * 2 ^ (64 - b) * eA p * 1000 < 999 * (8 * b52 * (q64 * q64 * eB p * 2 ^ s))) := by
    rcases hcase with h | ⟨h, hk0⟩
    · left; exact g1 h
    · right; exact ⟨hk0, g2 h⟩
  generalize d * 2 ^ (64 - b) * eA p = X at *
  generalize q64 * q64 * eB p * 2 ^ s = W at *
  generalize d * 10 ^ p.toNat * k74 = P at *
  generalize 10 ^ (-p).toNat = Bn at *
  obtain ⟨lo, l1, l2, l3⟩ := prs_core hW hTen hid hr
  refine ⟨lo, l1, l2, l3, fun h64 => ?_⟩
  have g := g3 h64
  have hk0 : k = 0 := by omega
  have hXW : X < W := by omega
  have hun : un X W ≤ 1 := by
    obtain ⟨p1, _⟩ := un_parts X W
    rw [Nat.div_eq_of_lt hXW] at p1
    omega
  have hlt : un X W < 4 * b53 - 2 := by unfold b53; omega
  rw [(l2 hlt).1, hk0]
  omega
end Go.Proofs.YtechaplindbfoaaGreatDoor.mem
