import Derived.Test.YtjlaoeigfokkiaaGreatDoorNsh24
import Derived.Test.YtjlaoeigfokkiaaGreatDoorBs30
import Derived.Test.YtjlaoeigfokkiaaGreatDoorBs29
namespace Go.Proofs.YtjlaoeigfokkiaaGreatDoor.fto
open Go.ChangeShapes Go.WideShapes Go.ChangeAt Go.RowKit
open mem
open ints (hide unhide)
set_option linter.unusedVariables false
set_option linter.unusedSimpArgs false
theorem mid_below {a : Nat} (ha : 0 < a) : midR (a - 1) < 2 * vR a := by
  have h := vR_succ (a - 1)
  rw [show a - 1 + 1 = a by omega] at h
  have hp := Nat.two_pow_pos (exR (a - 1))
  unfold midR
  omega
theorem mid_above (a : Nat) : 2 * vR a < midR a := by
  have hp := Nat.two_pow_pos (exR a)
  unfold midR
  omega
/-- nearer to the float from below -/
theorem InR_up {P B P' B' a : Nat} (hB : 0 < B) (hB' : 0 < B') (h : InR P B a) (hle : P * B' ≤ P' * B) (hv : P' ≤ B' * vR a) : InR P' B' a := by
  obtain ⟨h1, -⟩ := h
  refine ⟨?_, Or.inl ?_⟩
  · generalize midR (a - 1) = m at *
    have e1 : B * m * B' = B' * m * B := by rw [Nat.mul_right_comm, Nat.mul_comm B B', Nat.mul_right_comm]
    have h2 : 2 * P * B' ≤ 2 * P' * B := by rw [Nat.mul_assoc, Nat.mul_assoc]; exact Nat.mul_le_mul_left 2 hle
    rcases h1 with c | ⟨c, ev⟩
    · left
      have h3 := Nat.mul_lt_mul_of_pos_right c hB'
      exact Nat.lt_of_mul_lt_mul_right (a := B) (by omega)
    · have h3 : B' * m * B ≤ 2 * P' * B := by rw [← e1, c]; exact h2
      have h4 := Nat.le_of_mul_le_mul_right h3 hB
      rcases Nat.lt_or_ge (B' * m) (2 * P') with q | q
      · exact Or.inl q
      · exact Or.inr ⟨by omega, ev⟩
  · have := Nat.mul_lt_mul_of_pos_left (mid_above a) hB'
    rw [Nat.mul_left_comm] at this
    omega
/-- and from above -/
theorem InR_dn {P B P' B' a : Nat} (ha : 0 < a) (hB : 0 < B) (hB' : 0 < B') (h : InR P B a) (hle : P' * B ≤ P * B') (hv : B' * vR a ≤ P') : InR P' B' a := by
  obtain ⟨-, h1⟩ := h
  refine ⟨Or.inl ?_, ?_⟩
  · have := Nat.mul_lt_mul_of_pos_left (mid_below ha) hB'
    rw [Nat.mul_left_comm] at this
    omega
  · generalize midR a = m at *
    have e1 : B * m * B' = B' * m * B := by rw [Nat.mul_right_comm, Nat.mul_comm B B', Nat.mul_right_comm]
    have h2 : 2 * P' * B ≤ 2 * P * B' := by rw [Nat.mul_assoc, Nat.mul_assoc]; exact Nat.mul_le_mul_left 2 hle
    rcases h1 with c | ⟨c, ev⟩
    · left
      have h3 := Nat.mul_lt_mul_of_pos_right c hB'
      exact Nat.lt_of_mul_lt_mul_right (a := B) (by omega)
    · have h3 : 2 * P' * B ≤ B' * m * B := by rw [← e1, ← c]; exact h2
      have h4 := Nat.le_of_mul_le_mul_right h3 hB
      rcases Nat.lt_or_ge (2 * P') (B' * m) with q | q
      · exact Or.inl q
      · exact Or.inr ⟨by omega, ev⟩
theorem ten_scale3 (y : Int) (j c v : Nat) : c * 10 ^ j * 10 ^ y.toNat * k74 ≤ 10 ^ (-y).toNat * v ↔ c * 10 ^ (y + j).toNat * k74 ≤ 10 ^ (-(y + j)).toNat * v := by
  have h := ten_scale y j v (c * k74)
  have e1 : 10 ^ j * 10 ^ y.toNat * (c * k74) = c * 10 ^ j * 10 ^ y.toNat * k74 := by generalize 10 ^ j = A; generalize 10 ^ y.toNat = B; generalize k74 = K; ac_rfl
  have e2 : 1 * 10 ^ (y + j).toNat * (c * k74) = c * 10 ^ (y + j).toNat * k74 := by rw [Nat.one_mul]; generalize 10 ^ (y + j).toNat = B; generalize k74 = K; ac_rfl
  rw [e1, e2] at h
  exact h
/-- the first digits of a float, by their number -/
theorem first_le {a Q : Nat} {p : Int} (h3 : svG a p Q) (h4 : ¬ svG a p (Q + 1)) (w : Nat) (hw : w ≤ 17) (c : Nat) : c ≤ Q / 10 ^ (17 - w) ↔ c * 10 ^ (p - w).toNat * k74 ≤ 10 ^ (-(p - w)).toNat * vR a := by
  rw [Nat.le_div_iff_mul_le (Nat.pow_pos (by decide)), ← svG_le h3 h4]
  unfold svG
  have := ten_scale3 (p - 17) (17 - w) c (vR a)
  rw [show p - 17 + ((17 - w : Nat) : Int) = p - w by omega] at this
  have e1 : 1 * 10 ^ (p - 17).toNat * (c * 10 ^ (17 - w)) * k74 = c * 10 ^ (17 - w) * 10 ^ (p - 17).toNat * k74 := by
    rw [Nat.one_mul]; generalize 10 ^ (17 - w) = A; generalize 10 ^ (p - 17).toNat = B; generalize k74 = K; ac_rfl
  rw [e1]
  exact this
theorem cancel_le {P B P' B' v : Nat} (hB' : 0 < B') (h1 : P * B' ≤ P' * B) (h2 : P' ≤ B' * v) : P ≤ B * v := by
  have h3 : P' * B ≤ B' * v * B := Nat.mul_le_mul_right _ h2
  have e : B' * v * B = B * v * B' := by rw [Nat.mul_right_comm, Nat.mul_comm B' B, Nat.mul_right_comm]
  rw [e] at h3
  exact Nat.le_of_mul_le_mul_right (Nat.le_trans h1 h3) hB'
/-- where some number of w digits reads as the float, the reference finds one of w digits -/
theorem min_dig {a Q : Nat} {p : Int} (ha : 0 < a) (h2 : ¬ pwG a (p - 1)) (h3 : svG a p Q) (h4 : ¬ svG a p (Q + 1)) (w : Nat) (hw1 : 1 ≤ w) (hw : w ≤ 17) (q : Nat) (x : Int) (hqw : q < 10 ^ w) (hR : Rd q x a) : ¬ NoR a p Q w := by
  have fl := first_le h3 h4 w hw
  obtain ⟨y, hy⟩ : ∃ y, y = p - (w : Int) := ⟨_, rfl⟩
  obtain ⟨c0, hc0⟩ : ∃ c0, c0 = Q / 10 ^ (17 - w) := ⟨_, rfl⟩
  rw [← hy, ← hc0] at fl
  have low : 10 ^ (w - 1) ≤ c0 := by
    rw [fl]
    have := ten_scale3 y (w - 1) 1 (vR a)
    rw [show y + ((w - 1 : Nat) : Int) = p - 1 by omega, Nat.one_mul] at this
    rw [this]
    unfold pwG at h2
    omega
  have hBx : 0 < 10 ^ (-x).toNat := Nat.pow_pos (by decide)
  have hBy : 0 < 10 ^ (-y).toNat := Nat.pow_pos (by decide)
  have f0 := (fl c0).1 (Nat.le_refl _)
  have f1 : 10 ^ (-y).toNat * vR a ≤ (c0 + 1) * 10 ^ y.toNat * k74 := by
    have := fl (c0 + 1)
    omega
  have small : x < y → q * 10 ^ x.toNat * k74 * 10 ^ (-y).toNat ≤ c0 * 10 ^ y.toNat * k74 * 10 ^ (-x).toNat := by
    intro hxy
    obtain ⟨j, hj⟩ : ∃ j : Nat, y = x + (j : Int) := ⟨(y - x).toNat, by omega⟩
    have hj1 : 1 ≤ j := by omega
    rw [hj]
    refine dcm.cross_ge ?_
    have e1 : 10 ^ w ≤ c0 * 10 ^ j := by
      have e2 : 10 ^ w = 10 ^ (w - 1) * 10 := by rw [← Nat.pow_succ]; congr 1; omega
      have e3 : 10 ^ 1 ≤ 10 ^ j := Nat.pow_le_pow_right (by decide) hj1
      rw [e2]
      exact Nat.mul_le_mul low e3
    omega
  intro hno
  unfold NoR at hno
  rw [← hy, ← hc0, rdB_no, rdB_no] at hno
  by_cases hqa : q * 10 ^ x.toNat * k74 ≤ 10 ^ (-x).toNat * vR a
  · refine hno.1 (InR_up hBx hBy hR ?_ f0)
    rcases Int.lt_or_le x y with hxy | hxy
    · exact small hxy
    · obtain ⟨j, hj⟩ : ∃ j : Nat, x = y + (j : Int) := ⟨(x - y).toNat, by omega⟩
      rw [hj] at hqa ⊢
      refine dcm.cross_le ?_
      rw [fl, ten_scale3]
      exact hqa
  · refine hno.2 (InR_dn ha hBx hBy hR ?_ f1)
    rcases Int.lt_or_le x y with hxy | hxy
    · exact absurd (cancel_le hBy (small hxy) f0) hqa
    · obtain ⟨j, hj⟩ : ∃ j : Nat, x = y + (j : Int) := ⟨(x - y).toNat, by omega⟩
      rw [hj] at hqa ⊢
      refine dcm.cross_ge ?_
      have := fl (q * 10 ^ j)
      rw [ten_scale3] at this
      omega
/-- a property of the integers that turns true somewhere between turns true at a first one -/
theorem turn_at (G : Int → Prop) (lo : Int) (n : Nat) (h0 : ¬ G lo) (h1 : G (lo + n)) : ∃ m, G m ∧ ¬ G (m - 1) := by
  induction n with
  | zero => exact absurd (by simpa using h1) h0
  | succ n ih =>
    by_cases h : G (lo + n)
    · exact ih h
    · exact ⟨lo + (n + 1 : Nat), h1, by rw [show lo + ((n + 1 : Nat) : Int) - 1 = lo + (n : Int) by omega]; exact h⟩
theorem kept_len {N k n : Nat} (hk : Kept N k) (h : N ≤ 10 ^ n) (hn : 1 ≤ n) : k ≤ n := by
  have k2 := hk.2.1
  have hN := kept_pos hk
  obtain ⟨a1, a2, a3⟩ := nd_pow N hN
  rcases Nat.lt_or_ge N (10 ^ n) with g | g
  · have : Lib.nDigits N ≤ n := by
      rcases Nat.lt_or_ge n (Lib.nDigits N) with q | q
      · exfalso
        have : 10 ^ n ≤ 10 ^ (Lib.nDigits N - 1) := Nat.pow_le_pow_right (by decide) (by omega)
        omega
      · exact q
    omega
  · have hNe : N = 10 ^ n := by omega
    have v := kept_val hk
    have l := kept_last hk
    obtain ⟨s1, s2⟩ := strip_uniq (A := dv (dgs N k)) (B := 1) (m := Lib.nDigits N - k) (n := n) (by rw [← v, Nat.one_mul]; exact hNe) l (by decide)
    have ln : (dgs N k).length = k := dgs_len N k
    have hf := dgs_first N k hN hk.1
    have : 10 ^ (k - 1) ≤ dv (dgs N k) := by
      have := dv_ge (dgs_rng N k) (fun e => by rw [e] at ln; simp at ln; have := hk.1; omega) hf
      rw [ln] at this
      exact this
    rw [s1] at this
    have : k - 1 = 0 := by
      rcases Nat.eq_zero_or_pos (k - 1) with q | q
      · exact q
      · have h10 : 10 ^ 1 ≤ 10 ^ (k - 1) := Nat.pow_le_pow_right (by decide) q
        omega
    omega
theorem kept_ex (N : Nat) (h : 1 ≤ N) : ∃ k, Kept N k := by
  obtain ⟨a1, a2, a3⟩ := nd_pow N h
  have hf : dgt N (Lib.nDigits N) 0 ≠ 48 := by
    intro e
    refine dgs_first N 1 h (Nat.le_refl _) [] ?_
    simp [dgs, List.range_succ, e]
  have : ∀ m, m ≤ Lib.nDigits N → (∀ j, m ≤ j → j < Lib.nDigits N → dgt N (Lib.nDigits N) j = 48) → ∃ k, Kept N k := by
    intro m
    induction m with
    | zero => intro _ h0; exact absurd (h0 0 (Nat.le_refl _) (by omega)) hf
    | succ m ih =>
      intro hm h0
      by_cases g : dgt N (Lib.nDigits N) m = 48
      · refine ih (by omega) fun j j1 j2 => ?_
        by_cases e : j = m
        · rw [e]; exact g
        · exact h0 j (by omega) j2
      · exact ⟨m + 1, by omega, hm, h0, by rw [Nat.add_sub_cancel]; exact g⟩
  exact this (Lib.nDigits N) (Nat.le_refl _) (fun j j1 j2 => by omega)
/-- no number of fewer digits reads as the float -/
theorem kept_least {a d k : Nat} {q0 : Int} (ha : 0 < a) (hai : a < 9218868437227405312) (hc : Chosen a d q0) (hk : Kept d k) (w : Nat) (hw1 : 1 ≤ w) (q : Nat) (x : Int) (hqw : q < 10 ^ w) (hR : Rd q x a) : k ≤ w := by
  obtain ⟨p, g1, g2⟩ := turn_at (pwG a) (-330) 640 (low330 a ha) (pwG_top a hai)
  obtain ⟨Q, g3, g4⟩ : ∃ Q : Nat, svG a p Q ∧ ¬ svG a p (Q + 1) := by
    obtain ⟨m, m1, m2⟩ := turn_at (fun z => ¬ svG a p z.toNat) 10000000000000000 (100000000000000000 - 10000000000000000) (by simpa using sv_low g2) (by simpa using sv_high g1)
    have m2' : svG a p (m - 1).toNat := Classical.not_not.1 m2
    have hm : 0 < m.toNat := by
      rcases Nat.eq_zero_or_pos m.toNat with e | e
      · exfalso
        rw [e] at m1
        apply m1
        unfold svG
        rw [Nat.mul_zero, Nat.zero_mul]
        exact Nat.zero_le _
      · exact e
    refine ⟨(m - 1).toNat, m2', ?_⟩
    rw [show (m - 1).toNat + 1 = m.toNat by omega]
    exact m1
  obtain ⟨s1, s2⟩ := pick_same hc g1 g2 g3 g4
  obtain ⟨n, hn1, hn2, hno, hyes⟩ : ∃ n, 1 ≤ n ∧ n ≤ 17 ∧ (∀ i, 1 ≤ i → i < n → NoR a p Q i) ∧ ¬ NoR a p Q n := by
    obtain ⟨m, m1, m2⟩ : ∃ m, (¬ ∀ i, 1 ≤ i → i < m → NoR a p Q i) ∧ ∀ m', m' < m → ∀ i, 1 ≤ i → i < m' → NoR a p Q i := by
      have : ∀ m, (¬ ∀ i, 1 ≤ i → i < m → NoR a p Q i) → ∃ m, (¬ ∀ i, 1 ≤ i → i < m → NoR a p Q i) ∧ ∀ m', m' < m → ∀ i, 1 ≤ i → i < m' → NoR a p Q i := by
        intro m
        induction m with
        | zero => intro h; exact absurd (fun i _ hi => by omega) h
        | succ m ih =>
          intro h
          by_cases g : ∀ i, 1 ≤ i → i < m → NoR a p Q i
          · exact ⟨m + 1, h, fun m' hm' i i1 i2 => g i i1 (by omega)⟩
          · exact ih g
      exact this 18 s2
    have hm18 : m ≤ 18 := by
      rcases Nat.lt_or_ge 18 m with g | g
      · exact absurd (m2 18 g) s2
      · exact g
    have hm2 : 2 ≤ m := by
      rcases Nat.lt_or_ge m 2 with g | g
      · exact absurd (fun i i1 i2 => by omega) m1
      · exact g
    refine ⟨m - 1, by omega, by omega, fun i i1 i2 => m2 (m - 1) (by omega) i i1 i2, fun h => m1 fun i i1 i2 => ?_⟩
    by_cases e : i = m - 1
    · rw [e]; exact h
    · exact m2 (m - 1) (by omega) i i1 (by omega)
  have hnw : n ≤ w := by
    rcases Nat.lt_or_ge w n with g | g
    · exact absurd (hno w hw1 g) (min_dig ha g2 g3 g4 w hw1 (by omega) q x hqw hR)
    · exact g
  obtain ⟨N, hpk, hN⟩ : ∃ N, Pick a p Q n N ∧ N ≤ 10 ^ n := by
    have hc0 : Q / 10 ^ (17 - n) < 10 ^ n := by
      rcases Nat.lt_or_ge (Q / 10 ^ (17 - n)) (10 ^ n) with g | g
      · exact g
      · exfalso
        have h := (first_le g3 g4 n hn2 (10 ^ n)).1 g
        have h5 := ten_scale3 (p - n) n 1 (vR a)
        rw [show p - (n : Int) + (n : Int) = p by omega, Nat.one_mul] at h5
        rw [h5] at h
        unfold pwG at g1
        omega
    unfold NoR at hyes
    cases r1 : rdB (Q / 10 ^ (17 - n)) (p - n) a
    · have r2 : rdB (Q / 10 ^ (17 - n) + 1) (p - n) a = true := by
        cases r2 : rdB (Q / 10 ^ (17 - n) + 1) (p - n) a
        · exact absurd ⟨r1, r2⟩ hyes
        · rfl
      exact ⟨Q / 10 ^ (17 - n) + 1, ⟨Or.inr ⟨rfl, r2⟩, fun h => by rw [r1] at h; cases h⟩, hc0⟩
    · cases r2 : rdB (Q / 10 ^ (17 - n) + 1) (p - n) a
      · exact ⟨Q / 10 ^ (17 - n), ⟨Or.inl ⟨rfl, r1⟩, fun _ h => by rw [r2] at h; cases h⟩, by omega⟩
      · by_cases hh : hfG (Q / 10 ^ (17 - n)) (p - n) a
        · exact ⟨Q / 10 ^ (17 - n), ⟨Or.inl ⟨rfl, r1⟩, fun _ _ => ⟨fun _ => hh, fun _ => rfl⟩⟩, by omega⟩
        · exact ⟨Q / 10 ^ (17 - n) + 1, ⟨Or.inr ⟨rfl, r2⟩, fun _ _ => ⟨fun e => by omega, fun e => absurd e hh⟩⟩, hc0⟩
  obtain ⟨ee, j, t1, t2⟩ := s1 n N hn1 hn2 hno hpk
  have hN1 : 1 ≤ N := by
    rcases Nat.eq_zero_or_pos N with e | e
    · exfalso
      rw [e, Nat.zero_mul] at t1
      have := kept_pos hk
      have := Nat.mul_pos this (Nat.pow_pos (a := 10) (n := ee) (by decide))
      omega
    · exact e
  obtain ⟨k', hk'⟩ := kept_ex N hN1
  obtain ⟨u1, -⟩ := same_text hk hk' t1 t2
  have hkk : k = k' := by have := congrArg List.length u1; rw [dgs_len, dgs_len] at this; exact this
  have := kept_len hk' hN hn1
  omega
end Go.Proofs.YtjlaoeigfokkiaaGreatDoor.fto
