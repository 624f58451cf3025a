import Derived.Test.YtechaplindbfoaaGreatDoorJpa4
import Derived.Test.YtechaplindbfoaaGreatDoorJpa1
namespace Go.Proofs.YtechaplindbfoaaGreatDoor.mem
set_option linter.unusedVariables false

theorem row_g {k : Nat} (hk : k < 2046) : (-348 ≤ pG k ∧ pG k ≤ 347) ∧ 10 ^ (-(pG k)).toNat * k74 ≤ 2 ^ k * 10 ^ (pG k).toNat ∧ 2 ^ k * 10 ^ (pG k).toNat < 10 * (10 ^ (-(pG k)).toNat * k74) ∧ (5 : Int) ≤ 1082 - k - lpZ (pG k) ∧ 1082 - k - lpZ (pG k) ≤ (11 : Int) := by
  have h := List.all_eq_true.1 okG k (List.mem_range.2 hk)
  unfold rowG at h
  simp only [Bool.and_eq_true, decide_eq_true_eq] at h
  obtain ⟨⟨⟨⟨⟨⟨h1, h2⟩, h3⟩, h4⟩, _⟩, h5⟩, h6⟩ := h
  exact ⟨⟨h1, h2⟩, h3, h4, h5, h6⟩
theorem row_s {k : Nat} (hk : k < 2046) : (-348 ≤ pS k ∧ pS k ≤ 347) ∧ ((5 : Int) ≤ 1082 - k - lpZ (pS k) ∧ 1082 - k - lpZ (pS k) ≤ (63 : Int)) ∧ 0 < minS k ∧ minS k ≤ maxS k ∧ maxS k < minS k + 10 ∧ (minS k ≤ maxS k / 10 * 10 ∨ minS k = maxS k ∨ (minS k ≤ midS k ∧ midS k ≤ maxS k)) := by
  have h := List.all_eq_true.1 okS k (List.mem_range.2 hk)
  unfold rowS at h
  simp only [Bool.and_eq_true, Bool.or_eq_true, decide_eq_true_eq] at h
  obtain ⟨⟨⟨⟨⟨⟨⟨h1, h2⟩, h3⟩, h4⟩, h5⟩, h6⟩, h7⟩, h8⟩ := h
  refine ⟨⟨h1, h2⟩, ⟨h3, h4⟩, h5, h6, h7, ?_⟩
  rcases h8 with (h8 | h8) | h8
  · exact Or.inl h8
  · exact Or.inr (Or.inl h8)
  · exact Or.inr (Or.inr h8)
theorem rne_near (X D : Nat) (hD : 0 < D) : 2 * (rne X D * D) ≤ 2 * X + D ∧ 2 * X ≤ 2 * (rne X D * D) + D := by
  have hdm := Nat.div_add_mod X D
  have hml := Nat.mod_lt X hD
  have e1 : (X / D + 1) * D = D * (X / D) + D := by rw [Nat.add_mul, Nat.one_mul, Nat.mul_comm]
  have e2 : X / D * D = D * (X / D) := Nat.mul_comm _ _
  unfold rne
  split
  · rw [e1]; omega
  · rw [e2]; omega
theorem rne_mul (m D : Nat) (hD : 0 < D) : rne (m * D) D = m := by
  unfold rne
  rw [Nat.mul_mod_left, Nat.mul_div_cancel _ hD, if_neg (by omega)]
theorem un_pos {X W : Nat} (hX : 0 < X) : 0 < un X W := by
  obtain ⟨h1, h2⟩ := un_parts X W
  by_cases h : un X W = 0
  · exfalso
    have hn : ¬ (X / W % 2 = 1 ∨ X % W ≠ 0) := fun h' => by have := h2.2 h'; omega
    have a1 : X / W = 0 := by omega
    have a2 : X % W = 0 := by omega
    have := Nat.div_add_mod X W
    rw [a1, a2] at this
    omega
  · omega
/-- The middle way of shortFloat: its least and greatest number, and the rounded middle. -/
theorem sho_mid {Xv U h W o mant : Nat} (hW : 0 < W) (hm : 0 < mant) (ho : o < 2) (hU : U = 2 * h) (hXv : Xv = mant * U) (hlo : 4 * W ≤ U) (hhi : U < 10 * (4 * W)) :
    0 < (un (Xv - h) W + o + 3) / 4 ∧ (un (Xv + h) W - o) / 4 < (un (Xv - h) W + o + 3) / 4 + 10 ∧ (un (Xv - h) W + o + 3) / 4 ≤ (un Xv W + 1 + un Xv W / 4 % 2) / 4 ∧ (un Xv W + 1 + un Xv W / 4 % 2) / 4 ≤ (un (Xv + h) W - o) / 4 := by
  have hUX : U ≤ Xv := by rw [hXv]; exact Nat.le_mul_of_pos_left _ hm
  have hh : 0 < h := by omega
  have F1 : ∀ c, Xv - h < c * (4 * W) → (un (Xv - h) W + o + 3) / 4 ≤ c := by
    intro c hc
    have := (un_ceil_odd (Xv - h) W c hW).2 hc
    omega
  have F2 : ∀ c, c * (4 * W) < Xv + h → c ≤ (un (Xv + h) W - o) / 4 := by
    intro c hc
    have := (un_floor_odd (Xv + h) W c hW (by omega)).2 (Or.inr hc)
    omega
  have F3 : ∀ c, (un (Xv - h) W + o + 3) / 4 ≤ c → Xv - h ≤ c * (4 * W) := by
    intro c hc
    exact (un_ceil (Xv - h) W c hW).1 (by omega)
  have F4 : ∀ c, c ≤ (un (Xv + h) W - o) / 4 → c * (4 * W) ≤ Xv + h := by
    intro c hc
    exact (un_floor (Xv + h) W c hW).1 (by omega)
  refine ⟨?_, ?_, ?_, ?_⟩
  · have := un_pos (X := Xv - h) (W := W) (by omega)
    omega
  · have a1 := F3 _ (Nat.le_refl _)
    have a2 := F4 _ (Nat.le_refl _)
    generalize (un (Xv - h) W + o + 3) / 4 = d0 at *
    generalize (un (Xv + h) W - o) / 4 = d1 at *
    have : d1 * (4 * W) < (d0 + 10) * (4 * W) := by
      rw [Nat.add_mul d0 10]; omega
    exact Nat.lt_of_mul_lt_mul_right this
  · rw [un_round Xv W hW]
    refine F1 _ ?_
    by_cases e : U = 4 * W
    · rw [hXv, e, rne_mul _ _ (by omega), ← e, ← hXv]; omega
    · have := (rne_near Xv (4 * W) (by omega)).2
      omega
  · rw [un_round Xv W hW]
    refine F2 _ ?_
    by_cases e : U = 4 * W
    · rw [hXv, e, rne_mul _ _ (by omega), ← e, ← hXv]; omega
    · have := (rne_near Xv (4 * W) (by omega)).1
      omega
theorem mid_pre {a : Nat} (ha : 0 < a) : midR (a - 1) + 2 ^ exR (a - 1) = 2 * vR a := by
  have h := vR_succ (a - 1)
  rw [Nat.sub_add_cancel ha] at h
  unfold midR
  omega
/-- shortFloat chooses so. -/
theorem sho_pick {dmin dmax r : Nat} (hp : 0 < dmin) (hne : dmin ≤ dmax) (hw : dmax < dmin + 10) (hr : ¬ dmin ≤ dmax / 10 * 10 → dmin < dmax → dmin ≤ r ∧ r ≤ dmax) {c : Nat} (hc : c = if dmin ≤ dmax / 10 * 10 then dmax / 10 * 10 else if dmin < dmax then r else dmin) :
    dmin ≤ c ∧ c ≤ dmax ∧ (∀ c', dmin ≤ c' → c' ≤ dmax → c' % 10 = 0 → c' = c) ∧ (c % 10 = 0 ∨ ((∀ c', dmin ≤ c' → c' ≤ dmax → c' % 10 ≠ 0) ∧ (c = r ∨ dmin = dmax))) := by
  by_cases h : dmin ≤ dmax / 10 * 10
  · rw [if_pos h] at hc
    refine ⟨by omega, by omega, fun c' _ _ _ => by omega, Or.inl (by omega)⟩
  · rw [if_neg h] at hc
    have hno : ∀ c', dmin ≤ c' → c' ≤ dmax → c' % 10 ≠ 0 := fun c' _ _ => by omega
    by_cases h2 : dmin < dmax
    · rw [if_pos h2] at hc
      obtain ⟨r1, r2⟩ := hr h h2
      exact ⟨by omega, by omega, fun c' a b d => absurd d (hno c' a b), Or.inr ⟨hno, Or.inl hc⟩⟩
    · rw [if_neg h2] at hc
      exact ⟨by omega, by omega, fun c' a b d => absurd d (hno c' a b), Or.inr ⟨hno, Or.inr (by omega)⟩⟩
end Go.Proofs.YtechaplindbfoaaGreatDoor.mem
namespace Go.Proofs.YtechaplindbfoaaGreatDoor.mem
set_option linter.unusedVariables false

theorem mant_rng {a : Nat} (ha : 0 < a) (hai : a < infR) : 0 < mantR a ∧ mantR a < b53 ∧ exR a < 2046 ∧ mantR a % 2 = a % 2 := by
  unfold mantR exR
  unfold b52 b53 infR at *
  split <;> refine ⟨by omega, by omega, by omega, by omega⟩
theorem ex_pre {a : Nat} (ha : 0 < a) : (¬ (mantR a = b52 ∧ 0 < exR a) → exR (a - 1) = exR a) ∧ (mantR a = b52 ∧ 0 < exR a → exR (a - 1) + 1 = exR a ∧ a % 2 = 0) := by
  unfold mantR exR
  unfold b52 at *
  split
  · refine ⟨fun h => by omega, fun h => by omega⟩
  · refine ⟨fun h => by omega, fun h => by omega⟩
theorem eA_pos {p : Int} (h0 : -348 ≤ p) (h1 : p ≤ 347) : 0 < eA p := by
  have := (row_range p h0 h1).1
  have h2 : 0 < 2 ^ 127 * eB p := Nat.mul_pos (by decide) (eB_pos p)
  omega
theorem s_rng {a s : Nat} (h0 : 0 < mantR a) (h1 : mantR a < b53) (hs0 : 9223372036854775808 ≤ mantR a * 2 ^ s) (hs1 : mantR a * 2 ^ s < q64) : 11 ≤ s ∧ s < 64 := by
  constructor
  · by_cases h : s ≤ 10
    · exfalso
      have a1 : 2 ^ s ≤ 2 ^ 10 := Nat.pow_le_pow_right (by decide) h
      have a2 : mantR a * 2 ^ s ≤ mantR a * 2 ^ 10 := Nat.mul_le_mul_left _ a1
      unfold b53 at h1
      omega
    · omega
  · by_cases h : 64 ≤ s
    · exfalso
      have a1 : 2 ^ 64 ≤ 2 ^ s := Nat.pow_le_pow_right (by decide) h
      have a2 : 1 * 2 ^ s ≤ mantR a * 2 ^ s := Nat.mul_le_mul_right _ h0
      unfold q64 at hs1
      omega
    · omega
/-- What shortFloat works with, at the rung a. -/
theorem sho_sym (a s t : Nat) (p : Int) (ha : 0 < a) (hai : a < infR) (hs0 : 9223372036854775808 ≤ mantR a * 2 ^ s) (hs1 : mantR a * 2 ^ s < q64) (hsk : ¬ (mantR a = b52 ∧ 0 < exR a)) (hp : p = pG (exR a)) (ht : t = (1071 + s - exR a - lpZ p).toNat)
    {dmin dmax r W : Nat} (hW : W = q64 * q64 * eB p * 2 ^ t) (hmin : dmin = (un ((mantR a * 2 ^ s - 2 ^ (s - 1)) * eA p) W + a % 2 + 3) / 4) (hmax : dmax = (un ((mantR a * 2 ^ s + 2 ^ (s - 1)) * eA p) W - a % 2) / 4)
    (hr : r = (un (mantR a * 2 ^ s * eA p) W + 1 + un (mantR a * 2 ^ s * eA p) W / 4 % 2) / 4) :
    (-348 ≤ p ∧ p ≤ 347) ∧ ((t : Int) = 1071 + s - exR a - lpZ p ∧ 5 ≤ t ∧ t < 64) ∧ 0 < dmin ∧ dmin ≤ dmax ∧ dmax < dmin + 10 ∧ (dmin ≤ r ∧ r ≤ dmax) ∧ r = rne (mantR a * 2 ^ s * eA p) (4 * W) ∧ ∀ c, 0 < c → (InR (c * 10 ^ (-p).toNat * k74) (10 ^ p.toNat) a ↔ dmin ≤ c ∧ c ≤ dmax) := by
  obtain ⟨m0, m1, hk, hodd⟩ := mant_rng ha hai
  obtain ⟨hs11, hs64⟩ := s_rng m0 m1 hs0 hs1
  obtain ⟨hp2, g1, g2, g3, g4⟩ := row_g hk
  rw [← hp] at hp2 g1 g2 g3 g4
  have htI : (t : Int) = 1071 + s - exR a - lpZ p := by omega
  have hWp : 0 < W := by rw [hW]; exact Nat.mul_pos (Nat.mul_pos (by decide) (eB_pos p)) (Nat.two_pow_pos _)
  have hA := eA_pos hp2.1 hp2.2
  have hs2 : 2 ^ s = 2 * 2 ^ (s - 1) := by
    rw [← Nat.pow_succ']; congr 1; omega
  have hex := (ex_pre ha).1 hsk
  have hmp := mid_pre ha
  rw [hex] at hmp
  have hv : vR a = mantR a * 2 ^ exR a := rfl
  -- the ends
  have hkp := Nat.two_pow_pos (exR a)
  have hx0 : (mantR a * 2 ^ s - 2 ^ (s - 1)) * 2 ^ exR a = midR (a - 1) * 2 ^ (s - 1) := by
    have e1 : midR (a - 1) = (2 * mantR a - 1) * 2 ^ exR a := by
      rw [Nat.sub_mul, Nat.one_mul, Nat.mul_assoc, ← hv]; omega
    have e2 : mantR a * 2 ^ s - 2 ^ (s - 1) = (2 * mantR a - 1) * 2 ^ (s - 1) := by
      rw [hs2, Nat.sub_mul, Nat.one_mul, Nat.mul_left_comm, Nat.mul_assoc]
    rw [e1, e2]; exact Nat.mul_right_comm _ _ _
  have hx1 : (mantR a * 2 ^ s + 2 ^ (s - 1)) * 2 ^ exR a = midR a * 2 ^ (s - 1) := by
    have e1 : midR a = (2 * mantR a + 1) * 2 ^ exR a := by
      unfold midR
      rw [Nat.add_mul, Nat.one_mul, Nat.mul_assoc, ← hv]
    have e2 : mantR a * 2 ^ s + 2 ^ (s - 1) = (2 * mantR a + 1) * 2 ^ (s - 1) := by
      rw [hs2, Nat.add_mul, Nat.one_mul, Nat.mul_left_comm, Nat.mul_assoc]
    rw [e1, e2]; exact Nat.mul_right_comm _ _ _
  -- the width
  have hxu : 2 ^ s * 2 ^ exR a = (2 * 2 ^ exR a) * 2 ^ (s - 1) := by rw [hs2]; exact Nat.mul_right_comm _ _ _
  obtain ⟨w1, w2⟩ := sho_cmp p (2 * 2 ^ exR a) (2 ^ s) s t (exR a) 1 (by omega) hxu htI
  obtain ⟨w3, _⟩ := sho_cmp p (2 * 2 ^ exR a) (2 ^ s) s t (exR a) 10 (by omega) hxu htI
  rw [← hW, Nat.one_mul, Nat.one_mul] at w1
  rw [← hW] at w3
  have hlo : 4 * W ≤ 2 ^ s * eA p := by
    refine Nat.le_of_not_lt fun h => ?_
    have := w1.1 h
    rw [Nat.mul_left_comm, Nat.mul_comm (10 ^ p.toNat)] at this
    omega
  have hhi : 2 ^ s * eA p < 10 * (4 * W) := by
    refine w3.2 ?_
    rw [Nat.mul_left_comm, Nat.mul_comm (10 ^ p.toNat), Nat.mul_assoc 10]
    omega
  have hmid := sho_mid (Xv := mantR a * 2 ^ s * eA p) (U := 2 ^ s * eA p) (h := 2 ^ (s - 1) * eA p) (W := W) (o := a % 2) (mant := mantR a) hWp m0 (Nat.mod_lt _ (by decide)) (by rw [hs2, Nat.mul_assoc]) (Nat.mul_assoc _ _ _) hlo hhi
  rw [← Nat.sub_mul, ← Nat.add_mul, ← hmin, ← hmax, ← hr] at hmid
  obtain ⟨q1, q2, q3, q4⟩ := hmid
  refine ⟨hp2, ⟨htI, by omega, by omega⟩, q1, by omega, q2, ⟨q3, q4⟩, by rw [hr, un_round _ _ hWp], fun c hc => ?_⟩
  have := sho_in p a (mantR a * 2 ^ s - 2 ^ (s - 1)) (mantR a * 2 ^ s + 2 ^ (s - 1)) s t (exR a) c (by omega) hc (Nat.add_pos_right _ (Nat.two_pow_pos _)) hx0 hx1 htI hA
  rw [← hW, ← hmin, ← hmax] at this
  exact this
/-- The same where the float below is nearer: a power of two. -/
theorem sho_skew (a t : Nat) (p : Int) (ha : 0 < a) (hai : a < infR) (hsk : mantR a = b52 ∧ 0 < exR a) (hp : p = pS (exR a)) (ht : t = (1082 - exR a - lpZ p).toNat)
    {dmin dmax r W : Nat} (hW : W = q64 * q64 * eB p * 2 ^ t) (hmin : dmin = (un ((mantR a * 2048 - 512) * eA p) W + a % 2 + 3) / 4) (hmax : dmax = (un ((mantR a * 2048 + 1024) * eA p) W - a % 2) / 4)
    (hr : r = (un (mantR a * 2048 * eA p) W + 1 + un (mantR a * 2048 * eA p) W / 4 % 2) / 4) :
    (-348 ≤ p ∧ p ≤ 347) ∧ ((t : Int) = 1082 - exR a - lpZ p ∧ 5 ≤ t ∧ t < 64) ∧ 0 < dmin ∧ dmin ≤ dmax ∧ dmax < dmin + 10 ∧ (¬ dmin ≤ dmax / 10 * 10 → dmin < dmax → dmin ≤ r ∧ r ≤ dmax) ∧ r = rne (mantR a * 2048 * eA p) (4 * W) ∧ ∀ c, 0 < c → (InR (c * 10 ^ (-p).toNat * k74) (10 ^ p.toNat) a ↔ dmin ≤ c ∧ c ≤ dmax) := by
  obtain ⟨m0, m1, hk, hodd⟩ := mant_rng ha hai
  obtain ⟨hp2, ⟨g3, g4⟩, g5, g6, g7, g8⟩ := row_s hk
  have hev := ((ex_pre ha).2 hsk).2
  have hex := ((ex_pre ha).2 hsk).1
  obtain ⟨hm, hk0⟩ := hsk
  have htS : tS (exR a) = t := by unfold tS; rw [ht, hp]
  have hWS : wS (exR a) = W := by unfold wS; rw [htS, hW, hp]
  have e0 : mantR a * 2048 - 512 = (4 * b52 - 1) * 512 := by rw [hm]; rfl
  have e1 : mantR a * 2048 + 1024 = (2 * b52 + 1) * 1024 := by rw [hm]; rfl
  have d0 : minS (exR a) = dmin := by unfold minS; rw [hWS, hmin, hev, e0, hp]
  have d1 : maxS (exR a) = dmax := by unfold maxS; rw [hWS, hmax, hev, e1, hp, Nat.sub_zero]
  have d2 : midS (exR a) = r := by unfold midS; rw [hWS, hr, hm, hp]
  rw [d0] at g5
  rw [d0, d1] at g6 g7
  rw [d0, d1, d2] at g8
  rw [← hp] at hp2 g3 g4
  have htI : (t : Int) = 1071 + (11 : Nat) - exR a - lpZ p := by omega
  have hWp : 0 < W := by rw [hW]; exact Nat.mul_pos (Nat.mul_pos (by decide) (eB_pos p)) (Nat.two_pow_pos _)
  have hA := eA_pos hp2.1 hp2.2
  have hmp := mid_pre ha
  have hv : vR a = mantR a * 2 ^ exR a := rfl
  have h2 : 2 ^ exR a = 2 * 2 ^ exR (a - 1) := by rw [← Nat.pow_succ', ← hex]
  have hx0 : (mantR a * 2048 - 512) * 2 ^ exR a = midR (a - 1) * 2 ^ (11 - 1) := by
    rw [hv, h2, hm] at hmp
    rw [e0, h2]
    unfold b52 at *
    omega
  have hx1 : (mantR a * 2048 + 1024) * 2 ^ exR a = midR a * 2 ^ (11 - 1) := by
    unfold midR
    rw [e1, hv, hm]
    unfold b52
    omega
  refine ⟨hp2, ⟨by omega, by omega, by omega⟩, g5, g6, g7, fun h1 h3 => ?_, by rw [hr, un_round _ _ hWp], fun c hc => ?_⟩
  · rcases g8 with h | h | h
    · exact absurd h h1
    · omega
    · exact h
  have := sho_in p a (mantR a * 2048 - 512) (mantR a * 2048 + 1024) 11 t (exR a) c (by omega) hc (by omega) hx0 hx1 htI hA
  rw [← hW, ← hmin, ← hmax] at this
  exact this
end Go.Proofs.YtechaplindbfoaaGreatDoor.mem
namespace Go.Proofs.YtechaplindbfoaaGreatDoor.mem
set_option linter.unusedVariables false

/-- At the last step one of the two neighbours is taken. -/
theorem ref_ends {Q dmin dmax c : Nat} (hlo : dmin ≤ Q + 1) (hhi : Q ≤ dmax) (c1 : dmin ≤ c) (c2 : c ≤ dmax) : dmin ≤ Q ∨ Q + 1 ≤ dmax := by omega
/-- The reference's way, from the highest power of ten down to the one that shortFloat starts with, comes to the number that shortFloat chooses. -/
theorem ref_pick {Q dmin dmax r c J j N : Nat} (hQ0 : 10 ^ J ≤ Q) (hlo : dmin ≤ Q + 1) (hhi : Q ≤ dmax) (hr : r = Q ∨ r = Q + 1)
    (c1 : dmin ≤ c) (c2 : c ≤ dmax) (c3 : ∀ c', dmin ≤ c' → c' ≤ dmax → c' % 10 = 0 → c' = c) (c4 : c % 10 = 0 ∨ ((∀ c', dmin ≤ c' → c' ≤ dmax → c' % 10 ≠ 0) ∧ (c = r ∨ dmin = dmax)))
    (hsm : Q < 10 → c % 10 = 0 → c = r) (hQ1 : Q < 10 ^ (J + 1)) (hj : j ≤ J)
    (hfirst : ∀ i, j < i → i ≤ J → ¬ (dmin ≤ Q / 10 ^ i * 10 ^ i) ∧ ¬ ((Q / 10 ^ i + 1) * 10 ^ i ≤ dmax))
    (hN : (N = Q / 10 ^ j * 10 ^ j ∧ dmin ≤ Q / 10 ^ j * 10 ^ j) ∨ (N = (Q / 10 ^ j + 1) * 10 ^ j ∧ (Q / 10 ^ j + 1) * 10 ^ j ≤ dmax))
    (hN0 : j = 0 → dmin ≤ Q → Q + 1 ≤ dmax → N = r) : N = c := by
  have hfl : Q / 10 ^ j * 10 ^ j ≤ Q := Nat.div_mul_le_self _ _
  have hcl : Q < (Q / 10 ^ j + 1) * 10 ^ j := by
    rw [Nat.mul_comm]
    exact Nat.lt_mul_div_succ _ (Nat.pow_pos (by decide))
  have hin : dmin ≤ N ∧ N ≤ dmax := by
    rcases hN with ⟨h, h2⟩ | ⟨h, h2⟩
    · rw [h]; omega
    · rw [h]; omega
  by_cases h0 : j = 0
  · subst h0
    rw [Nat.pow_zero, Nat.div_one, Nat.mul_one, Nat.mul_one] at hN
    rcases c4 with c4 | ⟨hno, hc⟩
    · by_cases hJ : J = 0
      · subst hJ
        have hQ10 : Q < 10 := by simpa using hQ1
        have hQ1' : 1 ≤ Q := by simpa using hQ0
        have hcr := hsm hQ10 c4
        have hcQ : c = Q + 1 := by omega
        by_cases hl : dmin ≤ Q
        · have := hN0 rfl hl (by omega); omega
        · omega
      · exfalso
        obtain ⟨f1, f2⟩ := hfirst 1 (by omega) (by omega)
        rw [Nat.pow_one] at f1 f2
        omega
    · by_cases hb : dmin ≤ Q ∧ Q + 1 ≤ dmax
      · have := hN0 rfl hb.1 hb.2
        rcases hc with hc | hc <;> omega
      · rcases hc with hc | hc
        · subst hc
          omega
        · omega
  · refine c3 N hin.1 hin.2 ?_
    obtain ⟨i, hi⟩ : ∃ i, j = i + 1 := ⟨j - 1, by omega⟩
    have hp : 10 ^ j = 10 * 10 ^ i := by rw [hi, Nat.pow_succ, Nat.mul_comm]
    rcases hN with ⟨h, _⟩ | ⟨h, _⟩
    · rw [h, hp, Nat.mul_left_comm]; exact Nat.mul_mod_right _ _
    · rw [h, hp, Nat.mul_left_comm]; exact Nat.mul_mod_right _ _
/-- The middle lies between the ends. -/
theorem sho_q {Xv X0 X1 W o : Nat} (hW : 0 < W) (ho : o < 2) (h0 : X0 < Xv) (h1 : Xv < X1) : (un X0 W + o + 3) / 4 ≤ Xv / (4 * W) + 1 ∧ Xv / (4 * W) ≤ (un X1 W - o) / 4 := by
  have hdm := Nat.div_add_mod Xv (4 * W)
  have hml := Nat.mod_lt Xv (show 0 < 4 * W by omega)
  constructor
  · have := (un_ceil_odd X0 W (Xv / (4 * W) + 1) hW).2 (by rw [Nat.add_mul, Nat.one_mul, Nat.mul_comm (Xv / (4 * W))]; omega)
    omega
  · have := (un_floor_odd X1 W (Xv / (4 * W)) hW (by omega)).2 (Or.inr (by rw [Nat.mul_comm (Xv / (4 * W))]; omega))
    omega
theorem rne_or (X D : Nat) : rne X D = X / D ∨ rne X D = X / D + 1 := by
  unfold rne
  split
  · right; rfl
  · left; rfl
/-- Two pairs in the same ratio lie alike. -/
theorem InR_scale {P B P2 B2 a Y Z : Nat} (hY : 0 < Y) (hZ : 0 < Z) (hP : P * Y = P2 * Z) (hB : B * Y = B2 * Z) : InR P B a ↔ InR P2 B2 a := by
  unfold InR
  have h1 : B * midR (a - 1) * Y = B2 * midR (a - 1) * Z := by rw [Nat.mul_right_comm, hB, Nat.mul_right_comm]
  have h2 : B * midR a * Y = B2 * midR a * Z := by rw [Nat.mul_right_comm, hB, Nat.mul_right_comm]
  have h3 : 2 * P * Y = 2 * P2 * Z := by rw [Nat.mul_assoc, hP, Nat.mul_assoc]
  obtain ⟨l1, l2⟩ := cmp_of hY hZ h1 h3
  obtain ⟨g1, g2⟩ := cmp_of hY hZ h3 h2
  rw [l1, l2, g1, g2]
/-- q times ten to the power of j - p, and q times ten to the power of j, at the scale p. -/
theorem InR_ten (q j a : Nat) (p x : Int) (hx : x = j - p) : InR (q * 10 ^ x.toNat * k74) (10 ^ (-x).toNat) a ↔ InR (q * 10 ^ j * 10 ^ (-p).toNat * k74) (10 ^ p.toNat) a := by
  have ht : ∀ n : Nat, 0 < 10 ^ n := fun n => Nat.pow_pos (by decide)
  obtain ⟨u, hu⟩ : ∃ u, u = j + (-p).toNat - x.toNat := ⟨_, rfl⟩
  obtain ⟨v, hv⟩ : ∃ v, v = x.toNat - (j + (-p).toNat) := ⟨_, rfl⟩
  refine InR_scale (Y := 10 ^ u) (Z := 10 ^ v) (ht _) (ht _) ?_ ?_
  · have e : 10 ^ x.toNat * 10 ^ u = 10 ^ j * 10 ^ (-p).toNat * 10 ^ v := by
      rw [← Nat.pow_add, ← Nat.pow_add, ← Nat.pow_add]
      congr 1
      omega
    calc q * 10 ^ x.toNat * k74 * 10 ^ u = q * k74 * (10 ^ x.toNat * 10 ^ u) := by
          generalize 10 ^ x.toNat = A1
          generalize 10 ^ u = A2
          generalize k74 = A3
          ac_rfl
      _ = q * 10 ^ j * 10 ^ (-p).toNat * k74 * 10 ^ v := by
          rw [e]
          generalize 10 ^ (-p).toNat = A1
          generalize 10 ^ v = A2
          generalize k74 = A3
          generalize 10 ^ j = A4
          ac_rfl
  · rw [← Nat.pow_add, ← Nat.pow_add]
    congr 1
    omega
/-- A float's last place, at the scale that shortFloat takes: from one to ten. -/
theorem sho_unit (a s t : Nat) (p : Int) (ha : 0 < a) (hai : a < infR) (hs0 : 9223372036854775808 ≤ mantR a * 2 ^ s) (hs1 : mantR a * 2 ^ s < q64) (hp : p = pG (exR a)) (ht : t = (1071 + s - exR a - lpZ p).toNat)
    {W : Nat} (hW : W = q64 * q64 * eB p * 2 ^ t) : 4 * W ≤ 2 ^ s * eA p ∧ 2 ^ s * eA p < 10 * (4 * W) := by
  obtain ⟨m0, m1, hk, hodd⟩ := mant_rng ha hai
  obtain ⟨hs11, hs64⟩ := s_rng m0 m1 hs0 hs1
  obtain ⟨hp2, g1, g2, g3, g4⟩ := row_g hk
  rw [← hp] at hp2 g1 g2 g3 g4
  have htI : (t : Int) = 1071 + s - exR a - lpZ p := by omega
  have hs2 : 2 ^ s = 2 * 2 ^ (s - 1) := by
    rw [← Nat.pow_succ']; congr 1; omega
  have hxu : 2 ^ s * 2 ^ exR a = (2 * 2 ^ exR a) * 2 ^ (s - 1) := by rw [hs2]; exact Nat.mul_right_comm _ _ _
  obtain ⟨w1, w2⟩ := sho_cmp p (2 * 2 ^ exR a) (2 ^ s) s t (exR a) 1 (by omega) hxu htI
  obtain ⟨w3, _⟩ := sho_cmp p (2 * 2 ^ exR a) (2 ^ s) s t (exR a) 10 (by omega) hxu htI
  rw [← hW, Nat.one_mul, Nat.one_mul] at w1
  rw [← hW] at w3
  constructor
  · refine Nat.le_of_not_lt fun h => ?_
    have := w1.1 h
    rw [Nat.mul_left_comm, Nat.mul_comm (10 ^ p.toNat)] at this
    omega
  · refine w3.2 ?_
    rw [Nat.mul_left_comm, Nat.mul_comm (10 ^ p.toNat), Nat.mul_assoc 10]
    omega
def w9 (s : Nat) : Nat := q64 * q64 * eB (pG 0) * 2 ^ (1071 + s - lpZ (pG 0)).toNat
def min9 (a s : Nat) : Nat := (un ((a * 2 ^ s - 2 ^ (s - 1)) * eA (pG 0)) (w9 s) + a % 2 + 3) / 4
def max9 (a s : Nat) : Nat := (un ((a * 2 ^ s + 2 ^ (s - 1)) * eA (pG 0)) (w9 s) - a % 2) / 4
def mid9 (a s : Nat) : Nat := (un (a * 2 ^ s * eA (pG 0)) (w9 s) + 1 + un (a * 2 ^ s * eA (pG 0)) (w9 s) / 4 % 2) / 4
def ok9 (a s : Nat) : Bool := !decide (9223372036854775808 ≤ a * 2 ^ s) || !decide (a * 2 ^ s < q64) || !decide (a * 2 ^ s * eA (pG 0) / (4 * w9 s) < 10) || !decide (min9 a s ≤ max9 a s / 10 * 10) || decide (max9 a s / 10 * 10 = mid9 a s)
theorem ok9_all : ((List.range 10).all fun a => (List.range 64).all fun s => ok9 a s) = true := by decide +kernel
/-- The first floats of all: where the whole part has one digit. -/
theorem sho_small (a s t : Nat) (p : Int) (ha : 0 < a) (hai : a < infR) (hs0 : 9223372036854775808 ≤ mantR a * 2 ^ s) (hs1 : mantR a * 2 ^ s < q64) (hsk : ¬ (mantR a = b52 ∧ 0 < exR a)) (hp : p = pG (exR a)) (ht : t = (1071 + s - exR a - lpZ p).toNat)
    {dmin dmax r W c : Nat} (hW : W = q64 * q64 * eB p * 2 ^ t) (hmin : dmin = (un ((mantR a * 2 ^ s - 2 ^ (s - 1)) * eA p) W + a % 2 + 3) / 4) (hmax : dmax = (un ((mantR a * 2 ^ s + 2 ^ (s - 1)) * eA p) W - a % 2) / 4)
    (hr : r = (un (mantR a * 2 ^ s * eA p) W + 1 + un (mantR a * 2 ^ s * eA p) W / 4 % 2) / 4) (hc : dmin ≤ dmax / 10 * 10) : mantR a * 2 ^ s * eA p / (4 * W) < 10 → dmax / 10 * 10 = r := by
  intro hQ
  obtain ⟨m0, m1, hk, hodd⟩ := mant_rng ha hai
  obtain ⟨hs11, hs64⟩ := s_rng m0 m1 hs0 hs1
  obtain ⟨u1, u2⟩ := sho_unit a s t p ha hai hs0 hs1 hp ht hW
  have hWp : 0 < W := by rw [hW]; exact Nat.mul_pos (Nat.mul_pos (by decide) (eB_pos p)) (Nat.two_pow_pos _)
  have hm10 : mantR a < 10 := by
    refine Nat.lt_of_le_of_lt ?_ hQ
    refine (Nat.le_div_iff_mul_le (by omega)).2 ?_
    rw [Nat.mul_assoc]
    exact Nat.mul_le_mul_left _ u1
  have hab : a < b52 := by
    refine Nat.lt_of_not_le fun h => ?_
    unfold mantR at hm10
    rw [if_neg (by omega)] at hm10
    unfold b52 at *
    omega
  have hma : mantR a = a := by unfold mantR; rw [if_pos hab]
  have hke : exR a = 0 := by unfold exR; rw [Nat.div_eq_of_lt hab]
  rw [hma] at hm10 hs0 hs1 hmin hmax hr hQ
  rw [hke] at hp ht
  have hch := List.all_eq_true.1 (List.all_eq_true.1 ok9_all a (List.mem_range.2 hm10)) s (List.mem_range.2 hs64)
  have ew : w9 s = W := by unfold w9; rw [hW, ht, hp]; simp
  have e0 : min9 a s = dmin := by unfold min9; rw [ew, hmin, hp]
  have e1 : max9 a s = dmax := by unfold max9; rw [ew, hmax, hp]
  have e2 : mid9 a s = r := by unfold mid9; rw [ew, hr, hp]
  unfold ok9 at hch
  rw [e0, e1, e2, ew, ← hp] at hch
  simp only [Bool.or_eq_true, Bool.not_eq_true', decide_eq_true_eq, decide_eq_false_iff_not] at hch
  rcases hch with (((h | h) | h) | h) | h
  · exact absurd hs0 h
  · exact absurd hs1 h
  · exact absurd hQ h
  · exact absurd hc h
  · exact h
end Go.Proofs.YtechaplindbfoaaGreatDoor.mem
namespace Go.Proofs.YtechaplindbfoaaGreatDoor.mem
set_option linter.unusedVariables false

/-- q times ten to the power of x reads as a. -/
def Rd (q : Nat) (x : Int) (a : Nat) : Prop := InR (q * 10 ^ x.toNat * k74) (10 ^ (-x).toNat) a
theorem rne_low (X D : Nat) (hD : 0 < D) : (2 * X < (2 * (X / D) + 1) * D ∨ (2 * X = (2 * (X / D) + 1) * D ∧ X / D % 2 = 0)) ↔ rne X D = X / D := by
  have hdm := Nat.div_add_mod X D
  have hml := Nat.mod_lt X hD
  have e : (2 * (X / D) + 1) * D = 2 * (D * (X / D)) + D := by
    rw [Nat.add_mul, Nat.one_mul, Nat.mul_assoc, Nat.mul_comm (X / D)]
  rw [e]
  unfold rne
  split
  · omega
  · omega
/-- shortFloat's number is the reference's: c at the scale p, and what the loop takes at its first step that reads. -/
theorem sho_all {a Xv W dmin dmax r c J j N : Nat} {p : Int} (hW : 0 < W) (hQ0 : 10 ^ J ≤ Xv / (4 * W)) (hQ1 : Xv / (4 * W) < 10 ^ (J + 1)) (hlo : dmin ≤ Xv / (4 * W) + 1) (hhi : Xv / (4 * W) ≤ dmax) (hr : r = rne Xv (4 * W))
    (d0 : 0 < dmin) (hne : dmin ≤ dmax) (hw : dmax < dmin + 10) (hpk : ¬ dmin ≤ dmax / 10 * 10 → dmin < dmax → dmin ≤ r ∧ r ≤ dmax)
    (hc : c = if dmin ≤ dmax / 10 * 10 then dmax / 10 * 10 else if dmin < dmax then r else dmin) (hsm : dmin ≤ dmax / 10 * 10 → Xv / (4 * W) < 10 → dmax / 10 * 10 = r)
    (hin : ∀ c, 0 < c → (InR (c * 10 ^ (-p).toNat * k74) (10 ^ p.toNat) a ↔ dmin ≤ c ∧ c ≤ dmax))
    (hj : j ≤ J) (hfirst : ∀ i : Nat, j < i → i ≤ J → ¬ Rd (Xv / (4 * W) / 10 ^ i) (i - p) a ∧ ¬ Rd (Xv / (4 * W) / 10 ^ i + 1) (i - p) a)
    (hN : (N = Xv / (4 * W) / 10 ^ j ∧ Rd (Xv / (4 * W) / 10 ^ j) (j - p) a) ∨ (N = Xv / (4 * W) / 10 ^ j + 1 ∧ Rd (Xv / (4 * W) / 10 ^ j + 1) (j - p) a))
    (hN0 : j = 0 → Rd (Xv / (4 * W)) (j - p) a → Rd (Xv / (4 * W) + 1) (j - p) a → (N = Xv / (4 * W) ↔ 2 * Xv < (2 * (Xv / (4 * W)) + 1) * (4 * W) ∨ (2 * Xv = (2 * (Xv / (4 * W)) + 1) * (4 * W) ∧ Xv / (4 * W) % 2 = 0))) :
    N * 10 ^ j = c := by
  obtain ⟨p1, p2, p3, p4⟩ := sho_pick d0 hne hw hpk hc
  have hlow := rne_low Xv (4 * W) (by omega)
  have hror := rne_or Xv (4 * W)
  rw [← hr] at hlow hror
  generalize hQ : Xv / (4 * W) = Q at *
  have ht : ∀ n : Nat, 0 < 10 ^ n := fun n => Nat.pow_pos (by decide)
  have fl : ∀ i, Q / 10 ^ i * 10 ^ i ≤ Q := fun i => Nat.div_mul_le_self _ _
  have cl : ∀ i, Q < (Q / 10 ^ i + 1) * 10 ^ i := fun i => by
    rw [Nat.mul_comm]; exact Nat.lt_mul_div_succ _ (ht i)
  have low : ∀ i : Nat, i ≤ J → (Rd (Q / 10 ^ i) (i - p) a ↔ dmin ≤ Q / 10 ^ i * 10 ^ i) := by
    intro i hi
    unfold Rd
    rw [InR_ten _ i a p _ rfl, hin]
    · have := fl i; omega
    · refine Nat.mul_pos ?_ (ht i)
      exact Nat.div_pos (Nat.le_trans (Nat.pow_le_pow_right (by decide) hi) hQ0) (ht i)
  have high : ∀ i : Nat, (Rd (Q / 10 ^ i + 1) (i - p) a ↔ (Q / 10 ^ i + 1) * 10 ^ i ≤ dmax) := by
    intro i
    unfold Rd
    rw [InR_ten _ i a p _ rfl, hin]
    · have := cl i; omega
    · exact Nat.mul_pos (Nat.succ_pos _) (ht i)
  refine ref_pick (Q := Q) (dmin := dmin) (dmax := dmax) (r := r) (J := J) (j := j) hQ0 hlo hhi hror p1 p2 p3 p4 ?_ hQ1 hj ?_ ?_ ?_
  · intro h10 hcm
    have hd : dmin ≤ dmax / 10 * 10 := by omega
    rw [if_pos hd] at hc
    rw [hc]; exact hsm hd h10
  · intro i h1 h2
    rw [← low i h2, ← high i]
    exact hfirst i h1 h2
  · rcases hN with ⟨h1, h2⟩ | ⟨h1, h2⟩
    · left
      rw [h1]
      exact ⟨rfl, (low j hj).1 h2⟩
    · right
      rw [h1]
      exact ⟨rfl, (high j).1 h2⟩
  · intro h0 h1 h2
    subst h0
    have l0 := low 0 (Nat.zero_le _)
    have g0 := high 0
    rw [Nat.pow_zero, Nat.div_one, Nat.mul_one] at l0 g0
    rw [Nat.pow_zero, Nat.div_one] at hN
    have h3 := hN0 rfl (l0.2 h1) (g0.2 h2)
    rw [hlow] at h3
    rw [Nat.pow_zero, Nat.mul_one]
    rcases hN with ⟨h4, _⟩ | ⟨h4, _⟩
    · rw [h4, h3.1 h4]
    · have : ¬ N = Q := by omega
      have : ¬ r = Q := fun h => this (h3.2 h)
      omega
def rowS2 (k : Nat) : Bool := decide (100 ≤ minS k) && decide (maxS k < 100000000000000000)
theorem okS2 : (List.range 2046).all rowS2 = true := by decide +kernel
theorem row_s2 {k : Nat} (hk : k < 2046) : 100 ≤ minS k ∧ maxS k < 100000000000000000 := by
  have h := List.all_eq_true.1 okS2 k (List.mem_range.2 hk)
  unfold rowS2 at h
  simpa using h
/-- The whole part has at most seventeen digits. -/
theorem q_17 {Xv U W mant : Nat} (hW : 0 < W) (hm : mant < b53) (hXv : Xv = mant * U) (hhi : U < 10 * (4 * W)) : Xv / (4 * W) < 100000000000000000 := by
  refine Nat.div_lt_of_lt_mul ?_
  have h1 : mant * U ≤ mant * (10 * (4 * W)) := Nat.mul_le_mul_left _ (Nat.le_of_lt hhi)
  have h2 : mant * (10 * (4 * W)) ≤ b53 * (10 * (4 * W)) := Nat.mul_le_mul_right _ (Nat.le_of_lt hm)
  rw [hXv]
  unfold b53 at h2
  omega
end Go.Proofs.YtechaplindbfoaaGreatDoor.mem
namespace Go.Proofs.YtechaplindbfoaaGreatDoor.mem
set_option linter.unusedVariables false
theorem tab_hi (p : Int) (h0 : -348 ≤ p) (h1 : p ≤ 347) : 9223372036854775808 ≤ tabH p ∧ tabH p < q64 ∧ tabL p < q64 := by
  have ht := tab_ok p h0 h1
  unfold rowT at ht
  simp only [Bool.and_eq_true, decide_eq_true_eq] at ht
  obtain ⟨⟨⟨⟨⟨t1, t2⟩, t3⟩, t4⟩, t5⟩, t6⟩ := ht
  refine ⟨?_, t1, t2⟩
  have hr := (row_range p h0 h1).1
  have h2 : 2 ^ 127 * eB p ≤ (tabH p * q64 - tabL p) * eB p := Nat.le_trans hr t4
  have h3 : 2 ^ 127 ≤ tabH p * q64 - tabL p := Nat.le_of_mul_le_mul_right h2 t6
  have h4 : (170141183460469231731687303715884105728 : Nat) ≤ tabH p * q64 := by
    have : (2 : Nat) ^ 127 = 170141183460469231731687303715884105728 := by decide
    omega
  unfold q64 at h4
  omega
theorem un_up (X W : Nat) : un X W ≤ X / W + 1 := by
  have := (un_parts X W).1
  omega
theorem un_small {p : Int} (h0 : -348 ≤ p) (h1 : p ≤ 347) {x t W : Nat} (hx : x < q64) (ht : 5 ≤ t) (hW : W = q64 * q64 * eB p * 2 ^ t) : un (x * eA p) W + 8 < 18446744073709551616 := by
  have hr := (row_range p h0 h1).2
  have hB := eB_pos p
  have hWp : 0 < W := by rw [hW]; exact Nat.mul_pos (Nat.mul_pos (by decide) hB) (Nat.two_pow_pos _)
  have hA : eA p ≤ q64 * q64 * eB p := by omega
  have h5 : (32 : Nat) ≤ 2 ^ t := by
    have := Nat.pow_le_pow_right (n := 2) (by decide) ht
    simpa using this
  have hX : x * eA p ≤ 576460752303423488 * W := by
    have e1 : x * eA p ≤ q64 * (q64 * q64 * eB p) := Nat.mul_le_mul (by omega) hA
    have e2 : q64 * (q64 * q64 * eB p) = 576460752303423488 * (q64 * q64 * eB p * 32) := by
      generalize q64 * q64 * eB p = Z
      unfold q64
      omega
    have e3 : q64 * q64 * eB p * 32 ≤ W := by rw [hW]; exact Nat.mul_le_mul_left _ h5
    exact Nat.le_trans e1 (by rw [e2]; exact Nat.mul_le_mul_left _ e3)
  have hd : x * eA p / W ≤ 576460752303423488 := by
    have := Nat.div_le_div_right (c := W) hX
    rwa [Nat.mul_div_cancel _ hWp] at this
  have := un_up (x * eA p) W
  omega
/-- what is known of the numbers out of which the digits of a are chosen -/
structure ShF (a s t : Nat) (p : Int) (Xv W dmin dmax r : Nat) : Prop where
  xv : Xv = mantR a * 2 ^ s * eA p
  wv : W = q64 * q64 * eB p * 2 ^ t
  tv : (t : Int) = 1071 + s - exR a - lpZ p
  pv : -348 ≤ p ∧ p ≤ 347
  wp : 0 < W
  q0 : 1 ≤ Xv / (4 * W)
  q17 : Xv / (4 * W) < 100000000000000000
  lo : dmin ≤ Xv / (4 * W) + 1
  hi : Xv / (4 * W) ≤ dmax
  re : r = rne Xv (4 * W)
  d0 : 0 < dmin
  ne : dmin ≤ dmax
  wd : dmax < dmin + 10
  pk : ¬ dmin ≤ dmax / 10 * 10 → dmin < dmax → dmin ≤ r ∧ r ≤ dmax
  sm : dmin ≤ dmax / 10 * 10 → Xv / (4 * W) < 10 → dmax / 10 * 10 = r
  cin : ∀ c, 0 < c → (InR (c * 10 ^ (-p).toNat * k74) (10 ^ p.toNat) a ↔ dmin ≤ c ∧ c ≤ dmax)
/-- what the code chooses -/
def chD (dmin dmax r : Nat) : Nat := if dmin ≤ dmax / 10 * 10 then dmax / 10 else if dmin < dmax then r else dmin
def chQ (dmin dmax : Nat) (p : Int) : Int := if dmin ≤ dmax / 10 * 10 then -(p - 1) else -p
theorem ch_or (dmin dmax r : Nat) (p : Int) : (dmin ≤ dmax / 10 * 10 ∧ chD dmin dmax r = dmax / 10 ∧ chQ dmin dmax p = -(p - 1)) ∨ (¬ dmin ≤ dmax / 10 * 10 ∧ dmin < dmax ∧ chD dmin dmax r = r ∧ chQ dmin dmax p = -p) ∨ (¬ dmin ≤ dmax / 10 * 10 ∧ ¬ dmin < dmax ∧ chD dmin dmax r = dmin ∧ chQ dmin dmax p = -p) := by
  unfold chD chQ
  by_cases h1 : dmin ≤ dmax / 10 * 10
  · rw [if_pos h1, if_pos h1]; exact .inl ⟨h1, rfl, rfl⟩
  · rw [if_neg h1, if_neg h1]
    by_cases h2 : dmin < dmax
    · rw [if_pos h2]; exact .inr (.inl ⟨h1, h2, rfl, rfl⟩)
    · rw [if_neg h2]; exact .inr (.inr ⟨h1, h2, rfl, rfl⟩)
theorem ShF.rd {a s t : Nat} {p : Int} {Xv W dmin dmax r : Nat} (h : ShF a s t p Xv W dmin dmax r) : Rd (chD dmin dmax r) (chQ dmin dmax p) a ∧ 0 < chD dmin dmax r := by
  have key : ∀ (d j : Nat) (x : Int), 0 < d → dmin ≤ d * 10 ^ j → d * 10 ^ j ≤ dmax → x = j - p → Rd d x a := fun d j x hd h1 h2 hx => by
    unfold Rd
    rw [InR_ten d j a p x hx]
    exact (h.cin (d * 10 ^ j) (Nat.mul_pos hd (Nat.pow_pos (by decide)))).2 ⟨h1, h2⟩
  rcases ch_or dmin dmax r p with ⟨h1, e1, e2⟩ | ⟨h1, h2, e1, e2⟩ | ⟨h1, h2, e1, e2⟩ <;> rw [e1, e2]
  · have d0 := h.d0
    have hp : 0 < dmax / 10 := by
      rcases Nat.eq_zero_or_pos (dmax / 10) with h3 | h3
      · rw [h3] at h1; omega
      · exact h3
    exact ⟨key (dmax / 10) 1 _ hp (by rw [Nat.pow_one]; exact h1) (by rw [Nat.pow_one]; omega) (by omega), hp⟩
  · obtain ⟨p1, p2⟩ := h.pk h1 h2
    have := h.d0
    exact ⟨key r 0 _ (by omega) (by simpa using p1) (by simpa using p2) (by simp), by omega⟩
  · have := h.d0
    have := h.ne
    exact ⟨key dmin 0 _ (by omega) (by simp) (by simpa using h.ne) (by simp), by omega⟩
theorem ShF.d17 {a s t : Nat} {p : Int} {Xv W dmin dmax r : Nat} (h : ShF a s t p Xv W dmin dmax r) : chD dmin dmax r ≤ 100000000000000010 ∧ -347 ≤ chQ dmin dmax p ∧ chQ dmin dmax p ≤ 349 := by
  have q1 := h.q17
  have l1 := h.lo
  have w1 := h.wd
  have hp := h.pv
  rcases ch_or dmin dmax r p with ⟨h1, e1, e2⟩ | ⟨h1, h2, e1, e2⟩ | ⟨h1, h2, e1, e2⟩ <;> rw [e1, e2]
  · omega
  · have := h.pk h1 h2; omega
  · omega
/-- all floats but the powers of two -/
theorem sho_facts (a s t : Nat) (p : Int) (ha : 0 < a) (hai : a < infR) (hs0 : 9223372036854775808 ≤ mantR a * 2 ^ s) (hs1 : mantR a * 2 ^ s < q64) (hsk : ¬ (mantR a = b52 ∧ 0 < exR a)) (hp : p = pG (exR a)) (ht : t = (1071 + s - exR a - lpZ p).toNat)
    {dmin dmax r W : Nat} (hW : W = q64 * q64 * eB p * 2 ^ t) (hmin : dmin = (un ((mantR a * 2 ^ s - 2 ^ (s - 1)) * eA p) W + a % 2 + 3) / 4) (hmax : dmax = (un ((mantR a * 2 ^ s + 2 ^ (s - 1)) * eA p) W - a % 2) / 4)
    (hr : r = (un (mantR a * 2 ^ s * eA p) W + 1 + un (mantR a * 2 ^ s * eA p) W / 4 % 2) / 4) : ShF a s t p (mantR a * 2 ^ s * eA p) W dmin dmax r ∧ 5 ≤ t ∧ t < 64 := by
  obtain ⟨f1, ⟨f2, f3, f4⟩, f5, f6, f7, f8, f9, f10⟩ := sho_sym a s t p ha hai hs0 hs1 hsk hp ht hW hmin hmax hr
  obtain ⟨u1, u2⟩ := sho_unit a s t p ha hai hs0 hs1 hp ht hW
  obtain ⟨m0, m1, -, -⟩ := mant_rng ha hai
  obtain ⟨hs11, hs64⟩ := s_rng m0 m1 hs0 hs1
  have hWp : 0 < W := by rw [hW]; exact Nat.mul_pos (Nat.mul_pos (by decide) (eB_pos p)) (Nat.two_pow_pos _)
  have hA := eA_pos f1.1 f1.2
  have h2s : 2 ^ (s - 1) < mantR a * 2 ^ s := by
    have e : 2 ^ s = 2 * 2 ^ (s - 1) := by rw [← Nat.pow_succ']; congr 1; omega
    have : 1 * 2 ^ s ≤ mantR a * 2 ^ s := Nat.mul_le_mul_right _ m0
    have := Nat.two_pow_pos (s - 1)
    omega
  have hp1 := Nat.two_pow_pos (s - 1)
  have hXv : mantR a * 2 ^ s * eA p = mantR a * (2 ^ s * eA p) := Nat.mul_assoc _ _ _
  obtain ⟨l1, l2⟩ := sho_q (Xv := mantR a * 2 ^ s * eA p) (X0 := (mantR a * 2 ^ s - 2 ^ (s - 1)) * eA p) (X1 := (mantR a * 2 ^ s + 2 ^ (s - 1)) * eA p) (o := a % 2) hWp (Nat.mod_lt _ (by decide)) (Nat.mul_lt_mul_of_pos_right (by omega) hA) (Nat.mul_lt_mul_of_pos_right (by omega) hA)
  refine ⟨⟨rfl, hW, f2, f1, hWp, ?_, q_17 hWp m1 hXv u2, by rw [hmin]; exact l1, by rw [hmax]; exact l2, f9, f5, f6, f7, fun _ _ => f8, fun hc => sho_small (c := 0) a s t p ha hai hs0 hs1 hsk hp ht hW hmin hmax hr hc, f10⟩, f3, f4⟩
  refine (Nat.le_div_iff_mul_le (by omega)).2 ?_
  rw [Nat.one_mul, hXv]
  exact Nat.le_trans u1 (Nat.le_mul_of_pos_left _ m0)
/-- the powers of two -/
theorem skew_facts (a t : Nat) (p : Int) (ha : 0 < a) (hai : a < infR) (hsk : mantR a = b52 ∧ 0 < exR a) (hp : p = pS (exR a)) (ht : t = (1082 - exR a - lpZ p).toNat)
    {dmin dmax r W : Nat} (hW : W = q64 * q64 * eB p * 2 ^ t) (hmin : dmin = (un ((mantR a * 2048 - 512) * eA p) W + a % 2 + 3) / 4) (hmax : dmax = (un ((mantR a * 2048 + 1024) * eA p) W - a % 2) / 4)
    (hr : r = (un (mantR a * 2048 * eA p) W + 1 + un (mantR a * 2048 * eA p) W / 4 % 2) / 4) : ShF a 11 t p (mantR a * 2 ^ 11 * eA p) W dmin dmax r ∧ 5 ≤ t ∧ t < 64 := by
  obtain ⟨f1, ⟨f2, f3, f4⟩, f5, f6, f7, f8, f9, f10⟩ := sho_skew a t p ha hai hsk hp ht hW hmin hmax hr
  obtain ⟨m0, m1, hk, hodd⟩ := mant_rng ha hai
  have hev := ((ex_pre ha).2 hsk).2
  obtain ⟨hm, hk0⟩ := hsk
  have hWp : 0 < W := by rw [hW]; exact Nat.mul_pos (Nat.mul_pos (by decide) (eB_pos p)) (Nat.two_pow_pos _)
  have hA := eA_pos f1.1 f1.2
  have htS : tS (exR a) = t := by unfold tS; rw [ht, hp]
  have hwS : wS (exR a) = W := by unfold wS; rw [htS, hW, hp]
  have e1 : minS (exR a) = dmin := by unfold minS; rw [hwS, hmin, hev, hm, ← hp, show (4 * b52 - 1) * 512 = b52 * 2048 - 512 from rfl]
  have e2 : maxS (exR a) = dmax := by unfold maxS; rw [hwS, hmax, hev, hm, ← hp, show (2 * b52 + 1) * 1024 = b52 * 2048 + 1024 from rfl]; simp
  obtain ⟨g1, g2⟩ := row_s2 hk
  rw [e1] at g1
  rw [e2] at g2
  have hb : 512 < mantR a * 2048 := by rw [hm]; decide
  obtain ⟨l1, l2⟩ := sho_q (Xv := mantR a * 2048 * eA p) (X0 := (mantR a * 2048 - 512) * eA p) (X1 := (mantR a * 2048 + 1024) * eA p) (o := a % 2) hWp (Nat.mod_lt _ (by decide)) (Nat.mul_lt_mul_of_pos_right (by omega) hA) (Nat.mul_lt_mul_of_pos_right (by omega) hA)
  rw [← hmin] at l1
  rw [← hmax] at l2
  refine ⟨⟨rfl, hW, by omega, f1, hWp, ?_, ?_, l1, l2, f9, f5, f6, f7, f8, fun _ h => ?_, f10⟩, f3, f4⟩
  · show 1 ≤ mantR a * 2048 * eA p / (4 * W); omega
  · show mantR a * 2048 * eA p / (4 * W) < _; omega
  · have h' : mantR a * 2048 * eA p / (4 * W) < 10 := h
    omega
end Go.Proofs.YtechaplindbfoaaGreatDoor.mem
namespace Go.Proofs.YtechaplindbfoaaGreatDoor.fto
open Go.ChangeShapes Go.WideShapes Go.ChangeAt Go.RowKit
open mem
open ints (hide unhide)
set_option linter.unusedVariables false
theorem Sca.below {w w' : World} {B h l s : Nat} (hc : Sca w B h l s) (hb : Below w.heap.size w w') : Sca w' B h l s :=
  ⟨(hb.cell (World.block_lt_of_cell? w _ hc.hi)).trans hc.hi, (hb.cell (World.block_lt_of_cell? w _ hc.lo)).trans hc.lo, (hb.cell (World.block_lt_of_cell? w _ hc.sh)).trans hc.sh⟩
set_option maxHeartbeats 8000000 in
set_option maxRecDepth 100000 in
theorem sf_b (m M1 mn mx : Nat) (e L p lp : Int) (i s od : Nat) (w : World) (hT : PT w) (hm : 9223372036854775808 ≤ m) (hm2 : m < 18446744073709550592) (eM : ((m : Int) == 9223372036854775808) = false) (he : -1085 ≤ e) (he2 : e ≤ 1000)
    (hL : L = (e + 11) * 78913 / 262144) (hp : -L = p) (hlp : lp = p * 108853 / 32768) (hi : (i : Int) = p + 348) (hi2 : i < 696) (hs : -(e + lp + 3) = (s : Int)) (hs2 : s < 64) (hM1 : M1 = m / 2048) (a2 : bits .and .i64 (M1 : Int) 1 = (od : Int)) (hmn : (mn : Int) = (m : Int) - 1024) (hmx : (mx : Int) = (m : Int) + 1024)
    (hod : od ≤ 1) (hg : 10 < w.heap.size) (U1 U2 U3 D1 D2 : Nat) (hU1 : U1 = us mn (rowH i) (rowL i) s) (hU2 : U2 = us mx (rowH i) (rowL i) s) (hU3 : U3 = us m (rowH i) (rowL i) s) (hD1 : D1 = (U1 + od + 3) / 4) (hD2 : D2 = (U2 - od) / 4)
    (bU1 : U1 + 8 < 18446744073709551616) (bU2 : U2 + 8 < 18446744073709551616) (bU3 : U3 + 8 < 18446744073709551616) (oU2 : od ≤ U2) (hh : rowH i < 18446744073709551616) (hl : rowL i < 18446744073709551616)
    (k1 : 1 ≤ mn * rowH i / 18446744073709551616) (k2 : 1 ≤ mx * rowH i / 18446744073709551616) (k3 : 1 ≤ m * rowH i / 18446744073709551616) (d : Nat) (q : Int)
    (hd : (D1 ≤ D2 / 10 * 10 ∧ d = D2 / 10 ∧ q = -(p - 1)) ∨ (¬ D1 ≤ D2 / 10 * 10 ∧ D1 < D2 ∧ d = (U3 + 1 + U3 / 4 % 2) / 4 ∧ q = -p) ∨ (¬ D1 ≤ D2 / 10 * 10 ∧ ¬ D1 < D2 ∧ d = D1 ∧ q = -p)) :
    Calls Tryz.prog 181 #[.int .u64 m, .int .i64 e] w fun ed w' => ed = .returned (.tuple #[.int .u64 d, .int .i64 q]) ∧ Below w.heap.size w w' := by
  have C1 := hide (fun W => lg_ok (e + 11) W (by omega))
  rw [← hL] at C1
  have pb : -348 ≤ p ∧ p ≤ 347 := by omega
  have C2 := hide (fun W => l2_ok p W (by omega))
  rw [← hlp] at C2
  have w1 : (m : Int) - 1024 = (mn : Int) := by omega
  have w2 : (m : Int) + 1024 = (mx : Int) := by omega
  clear hmn hmx
  have o1 : (m : Int) / 2048 = (M1 : Int) := by omega
  have o2 : (M1 : Int) ≤ 9007199254740992 := by omega
  have lpb : -100000 ≤ lp ∧ lp ≤ 100000 := by omega
  have T1 := hide (fun W B hc => uscale_ok mn (rowH i) (rowL i) s B W (by omega) hh hl hs2 k1 hc)
  have T2 := hide (fun W B hc => uscale_ok mx (rowH i) (rowL i) s B W (by omega) hh hl hs2 k2 hc)
  have T3 := hide (fun W B hc => uscale_ok m (rowH i) (rowL i) s B W (by omega) hh hl hs2 k3 hc)
  rw [← hU1] at T1
  rw [← hU2] at T2
  rw [← hU3] at T3
  have N1 := hide (fun W => up_ok U1 od W (by omega) hod)
  have N2 := hide (fun W => ceil_ok (U1 + od) W (by omega))
  have N3 := hide (fun W => dn_ok U2 od W (by omega) hod oU2)
  have N4 := hide (fun W => floor_ok (U2 - od) W (by omega))
  have N5 := hide (fun W => round_ok U3 W (by omega))
  rw [← hD1] at N2
  rw [← hD2] at N4
  have bD1 : D1 < 4611686018427387904 := by omega
  have bD2 : D2 < 4611686018427387904 := by omega
  obtain ⟨V1, hV1⟩ : ∃ V1, V1 = U1 + od := ⟨_, rfl⟩
  rw [← hV1] at N1 N2
  obtain ⟨V2, hV2⟩ : ∃ V2, V2 = U2 - od := ⟨_, rfl⟩
  rw [← hV2] at N3 N4
  have HD := hide hd
  clear hU1 hU2 hU3 hD1 hD2 bU1 bU2 bU3 oU2 k1 k2 k3 hV1 hV2 hd hh hl
  have HL := hide hL
  have HI := hide hi
  have HS := hide hs
  have HLP := hide hlp
  clear hL hi hs hlp hM1
  go_enter Tryz.func181, Tryz.ntmps181
  go_wp2_with fail
  refine (unhide C1 _).mono ?_
  rintro ed w1' ⟨rfl, rfl⟩
  clear C1
  go_wp2_with fail
  refine (unhide C2 _).mono ?_
  rintro ed w2' ⟨rfl, rfl⟩
  clear C2
  have HB := hide (heap_alloc_new w1' (.cells #[.int .u64 0, .int .u64 0, .int .i64 0] 236))
  have HT := hide (fun j (hj : j < 696) => (⟨(((Below.refl w1'.heap.size w1').alloc (Nat.le_refl _) (.cells #[.int .u64 0, .int .u64 0, .int .i64 0] 236)).cell (p := ⟨10, 2 * j, none⟩) hg).trans (hT j hj).1, (((Below.refl w1'.heap.size w1').alloc (Nat.le_refl _) (.cells #[.int .u64 0, .int .u64 0, .int .i64 0] 236)).cell (p := ⟨10, 2 * j + 1, none⟩) hg).trans (hT j hj).2⟩ : _ ∧ _))
  have b0 := (Below.refl w1'.heap.size w1').alloc (Nat.le_refl _) (.cells #[.int .u64 0, .int .u64 0, .int .i64 0] 236)
  have hne : w1'.heap.size ≠ 10 := by omega
  clear hT
  go_wp2_with fail
  refine (prescale_ok w1'.heap.size _ _ _ _ e p lp i s _ (unhide HB) (unhide HT) hne (unhide HI) hi2 (unhide HS) (by omega) lpb).mono ?_
  rintro ed w3 ⟨rfl, hB3, b3⟩
  have S3 := Sca.of_heap hB3
  have b3' := b0.trans b3
  clear HB HT hB3 b0 b3
  have hsz3 : w1'.heap.size ≤ w3.heap.size := b3'.size
  go_wp2_with fail
  refine (unhide T1 _ _ S3).mono ?_
  rintro ed w4 ⟨rfl, b4⟩
  have S4 := S3.below b4
  have b4' := hide (b3'.trans (b4.mono hsz3))
  clear T1 S3 b4 b3' hsz3
  go_wp2_with fail
  refine (unhide N1 _).mono ?_
  rintro ed w5 ⟨rfl, rfl⟩
  clear N1
  go_wp2_with fail
  refine (unhide N2 _).mono ?_
  rintro ed w6 ⟨rfl, rfl⟩
  clear N2
  go_wp2_with fail
  refine (unhide T2 _ _ S4).mono ?_
  rintro ed w7 ⟨rfl, b7⟩
  have S7 := S4.below b7
  have b7' := hide ((unhide b4').trans (b7.mono (unhide b4').size))
  clear T2 S4 b7 b4'
  go_wp2_with fail
  refine (unhide N3 _).mono ?_
  rintro ed w8 ⟨rfl, rfl⟩
  clear N3
  go_wp2_with fail
  refine (unhide N4 _).mono ?_
  rintro ed w9 ⟨rfl, rfl⟩
  clear N4
  obtain ⟨Qd, hQd⟩ : ∃ Qd, Qd = D2 / 10 := ⟨_, rfl⟩
  have hd := unhide HD
  rw [← hQd] at hd
  have q1 : (D2 : Int) / 10 = (Qd : Int) := by omega
  have q2 : (Qd : Int) ≤ 461168601842738790 := by omega
  clear HD hQd
  rcases hd with ⟨h1, rfl, hq⟩ | ⟨h1, h2, hd, hq⟩ | ⟨h1, h2, hd, hq⟩
  · have g1 : (D1 : Int) ≤ (d : Int) * 10 := by omega
    have Hq := hide hq
    clear hq T3 N5
    go_wp2
    go_ret2
    refine ⟨?_, unhide b7'⟩
    rw [unhide Hq]
    rfl
  · have g1 : ¬ (D1 : Int) ≤ (Qd : Int) * 10 := by omega
    have g2 : (D1 : Int) < (D2 : Int) := by omega
    have Hq := hide hq
    have Hd := hide hd
    rw [← hd] at N5
    clear hq hd
    go_wp2_with fail
    refine (unhide T3 _ _ S7).mono ?_
    rintro ed wa ⟨rfl, ba⟩
    have ba' := hide ((unhide b7').trans (ba.mono (unhide b7').size))
    clear T3 S7 ba b7'
    go_wp2_with fail
    refine (unhide N5 _).mono ?_
    rintro ed wb ⟨rfl, rfl⟩
    clear N5
    go_wp2
    go_ret2
    refine ⟨?_, unhide ba'⟩
    rw [unhide Hq]
    rfl
  · have g1 : ¬ (D1 : Int) ≤ (Qd : Int) * 10 := by omega
    have g2 : ¬ (D1 : Int) < (D2 : Int) := by omega
    subst hd
    have Hq := hide hq
    clear hq T3 N5
    go_wp2
    go_ret2
    refine ⟨?_, unhide b7'⟩
    rw [unhide Hq]
    rfl
end Go.Proofs.YtechaplindbfoaaGreatDoor.fto
namespace Go.Proofs.YtechaplindbfoaaGreatDoor.fto
open Go.ChangeShapes Go.WideShapes Go.ChangeAt Go.RowKit
open mem
open ints (hide unhide)
set_option linter.unusedVariables false
set_option maxHeartbeats 8000000 in
set_option maxRecDepth 100000 in
theorem sf_a (m mn mx : Nat) (hmc : m = 9223372036854775808) (e L p lp : Int) (i s od : Nat) (hod0 : od = 0) (w : World) (hT : PT w) (he : -1085 < e) (he2 : e ≤ 1000)
    (hL : L = ((e + 11) * 631305 - 261663) / 2097152) (hp : -L = p) (hlp : lp = p * 108853 / 32768) (hi : (i : Int) = p + 348) (hi2 : i < 696) (hs : -(e + lp + 3) = (s : Int)) (hs2 : s < 64) (hmn : mn = 9223372036854775296) (hmx : mx = 9223372036854776832)
    (hod : od ≤ 1) (hg : 10 < w.heap.size) (U1 U2 U3 D1 D2 : Nat) (hU1 : U1 = us mn (rowH i) (rowL i) s) (hU2 : U2 = us mx (rowH i) (rowL i) s) (hU3 : U3 = us m (rowH i) (rowL i) s) (hD1 : D1 = (U1 + od + 3) / 4) (hD2 : D2 = (U2 - od) / 4)
    (bU1 : U1 + 8 < 18446744073709551616) (bU2 : U2 + 8 < 18446744073709551616) (bU3 : U3 + 8 < 18446744073709551616) (oU2 : od ≤ U2) (hh : rowH i < 18446744073709551616) (hl : rowL i < 18446744073709551616)
    (k1 : 1 ≤ mn * rowH i / 18446744073709551616) (k2 : 1 ≤ mx * rowH i / 18446744073709551616) (k3 : 1 ≤ m * rowH i / 18446744073709551616) (d : Nat) (q : Int)
    (hd : (D1 ≤ D2 / 10 * 10 ∧ d = D2 / 10 ∧ q = -(p - 1)) ∨ (¬ D1 ≤ D2 / 10 * 10 ∧ D1 < D2 ∧ d = (U3 + 1 + U3 / 4 % 2) / 4 ∧ q = -p) ∨ (¬ D1 ≤ D2 / 10 * 10 ∧ ¬ D1 < D2 ∧ d = D1 ∧ q = -p)) :
    Calls Tryz.prog 181 #[.int .u64 m, .int .i64 e] w fun ed w' => ed = .returned (.tuple #[.int .u64 d, .int .i64 q]) ∧ Below w.heap.size w w' := by
  have C1 := hide (fun W => sk_ok (e + 11) W (by omega))
  rw [← hL] at C1
  have pb : -348 ≤ p ∧ p ≤ 347 := by omega
  have C2 := hide (fun W => l2_ok p W (by omega))
  rw [← hlp] at C2
  have lpb : -100000 ≤ lp ∧ lp ≤ 100000 := by omega
  have T1 := hide (fun W B hc => uscale_ok mn (rowH i) (rowL i) s B W (by omega) hh hl hs2 k1 hc)
  have T2 := hide (fun W B hc => uscale_ok mx (rowH i) (rowL i) s B W (by omega) hh hl hs2 k2 hc)
  have T3 := hide (fun W B hc => uscale_ok m (rowH i) (rowL i) s B W (by omega) hh hl hs2 k3 hc)
  rw [← hU1] at T1
  rw [← hU2] at T2
  rw [← hU3] at T3
  have N1 := hide (fun W => up_ok U1 od W (by omega) hod)
  have N2 := hide (fun W => ceil_ok (U1 + od) W (by omega))
  have N3 := hide (fun W => dn_ok U2 od W (by omega) hod oU2)
  have N4 := hide (fun W => floor_ok (U2 - od) W (by omega))
  have N5 := hide (fun W => round_ok U3 W (by omega))
  rw [← hD1] at N2
  rw [← hD2] at N4
  have bD1 : D1 < 4611686018427387904 := by omega
  have bD2 : D2 < 4611686018427387904 := by omega
  obtain ⟨V1, hV1⟩ : ∃ V1, V1 = U1 + od := ⟨_, rfl⟩
  rw [← hV1] at N1 N2
  obtain ⟨V2, hV2⟩ : ∃ V2, V2 = U2 - od := ⟨_, rfl⟩
  rw [← hV2] at N3 N4
  have HD := hide hd
  clear hU1 hU2 hU3 hD1 hD2 bU1 bU2 bU3 oU2 k1 k2 k3 hV1 hV2 hd hh hl
  have HL := hide hL
  have HI := hide hi
  have HS := hide hs
  have HLP := hide hlp
  clear hL hi hs hlp
  subst hmc hod0 hmn hmx
  have a3 : bits .and .i64 4503599627370496 1 = (0 : Int) := by decide
  go_enter Tryz.func181, Tryz.ntmps181
  go_wp2_with fail
  refine (unhide C1 _).mono ?_
  rintro ed w1' ⟨rfl, rfl⟩
  clear C1
  go_wp2_with fail
  refine (unhide C2 _).mono ?_
  rintro ed w2' ⟨rfl, rfl⟩
  clear C2
  have HB := hide (heap_alloc_new w1' (.cells #[.int .u64 0, .int .u64 0, .int .i64 0] 236))
  have HT := hide (fun j (hj : j < 696) => (⟨(((Below.refl w1'.heap.size w1').alloc (Nat.le_refl _) (.cells #[.int .u64 0, .int .u64 0, .int .i64 0] 236)).cell (p := ⟨10, 2 * j, none⟩) hg).trans (hT j hj).1, (((Below.refl w1'.heap.size w1').alloc (Nat.le_refl _) (.cells #[.int .u64 0, .int .u64 0, .int .i64 0] 236)).cell (p := ⟨10, 2 * j + 1, none⟩) hg).trans (hT j hj).2⟩ : _ ∧ _))
  have b0 := (Below.refl w1'.heap.size w1').alloc (Nat.le_refl _) (.cells #[.int .u64 0, .int .u64 0, .int .i64 0] 236)
  have hne : w1'.heap.size ≠ 10 := by omega
  clear hT
  go_wp2_with fail
  refine (prescale_ok w1'.heap.size _ _ _ _ e p lp i s _ (unhide HB) (unhide HT) hne (unhide HI) hi2 (unhide HS) (by omega) lpb).mono ?_
  rintro ed w3 ⟨rfl, hB3, b3⟩
  have S3 := Sca.of_heap hB3
  have b3' := b0.trans b3
  clear HB HT hB3 b0 b3
  have hsz3 : w1'.heap.size ≤ w3.heap.size := b3'.size
  go_wp2_with fail
  refine (unhide T1 _ _ S3).mono ?_
  rintro ed w4 ⟨rfl, b4⟩
  have S4 := S3.below b4
  have b4' := hide (b3'.trans (b4.mono hsz3))
  clear T1 S3 b4 b3' hsz3
  go_wp2_with fail
  refine (unhide N1 _).mono ?_
  rintro ed w5 ⟨rfl, rfl⟩
  clear N1
  go_wp2_with fail
  refine (unhide N2 _).mono ?_
  rintro ed w6 ⟨rfl, rfl⟩
  clear N2
  go_wp2_with fail
  refine (unhide T2 _ _ S4).mono ?_
  rintro ed w7 ⟨rfl, b7⟩
  have S7 := S4.below b7
  have b7' := hide ((unhide b4').trans (b7.mono (unhide b4').size))
  clear T2 S4 b7 b4'
  go_wp2_with fail
  refine (unhide N3 _).mono ?_
  rintro ed w8 ⟨rfl, rfl⟩
  clear N3
  go_wp2_with fail
  refine (unhide N4 _).mono ?_
  rintro ed w9 ⟨rfl, rfl⟩
  clear N4
  obtain ⟨Qd, hQd⟩ : ∃ Qd, Qd = D2 / 10 := ⟨_, rfl⟩
  have hd := unhide HD
  rw [← hQd] at hd
  have q1 : (D2 : Int) / 10 = (Qd : Int) := by omega
  have q2 : (Qd : Int) ≤ 461168601842738790 := by omega
  clear HD hQd
  rcases hd with ⟨h1, rfl, hq⟩ | ⟨h1, h2, hd, hq⟩ | ⟨h1, h2, hd, hq⟩
  · have g1 : (D1 : Int) ≤ (d : Int) * 10 := by omega
    have Hq := hide hq
    clear hq T3 N5
    go_wp2
    go_ret2
    refine ⟨?_, unhide b7'⟩
    rw [unhide Hq]
    rfl
  · have g1 : ¬ (D1 : Int) ≤ (Qd : Int) * 10 := by omega
    have g2 : (D1 : Int) < (D2 : Int) := by omega
    have Hq := hide hq
    have Hd := hide hd
    rw [← hd] at N5
    clear hq hd
    go_wp2_with fail
    refine (unhide T3 _ _ S7).mono ?_
    rintro ed wa ⟨rfl, ba⟩
    have ba' := hide ((unhide b7').trans (ba.mono (unhide b7').size))
    clear T3 S7 ba b7'
    go_wp2_with fail
    refine (unhide N5 _).mono ?_
    rintro ed wb ⟨rfl, rfl⟩
    clear N5
    go_wp2
    go_ret2
    refine ⟨?_, unhide ba'⟩
    rw [unhide Hq]
    rfl
  · have g1 : ¬ (D1 : Int) ≤ (Qd : Int) * 10 := by omega
    have g2 : ¬ (D1 : Int) < (D2 : Int) := by omega
    subst hd
    have Hq := hide hq
    clear hq T3 N5
    go_wp2
    go_ret2
    refine ⟨?_, unhide b7'⟩
    rw [unhide Hq]
    rfl
end Go.Proofs.YtechaplindbfoaaGreatDoor.fto
namespace Go.Proofs.YtechaplindbfoaaGreatDoor.fto
open Go.ChangeShapes Go.WideShapes Go.ChangeAt Go.RowKit
open mem
open ints (hide unhide)
set_option linter.unusedVariables false
set_option maxHeartbeats 8000000 in
set_option maxRecDepth 100000 in
theorem sf_b0 (m mn mx : Nat) (hmc : m = 9223372036854775808) (e L p lp : Int) (he : -1085 ≤ e) (he2 : ¬ -1085 < e) (i s od : Nat) (hod0 : od = 0) (w : World) (hT : PT w) 
    (hL : L = (e + 11) * 78913 / 262144) (hp : -L = p) (hlp : lp = p * 108853 / 32768) (hi : (i : Int) = p + 348) (hi2 : i < 696) (hs : -(e + lp + 3) = (s : Int)) (hs2 : s < 64) (hmn : mn = 9223372036854774784) (hmx : mx = 9223372036854776832)
    (hod : od ≤ 1) (hg : 10 < w.heap.size) (U1 U2 U3 D1 D2 : Nat) (hU1 : U1 = us mn (rowH i) (rowL i) s) (hU2 : U2 = us mx (rowH i) (rowL i) s) (hU3 : U3 = us m (rowH i) (rowL i) s) (hD1 : D1 = (U1 + od + 3) / 4) (hD2 : D2 = (U2 - od) / 4)
    (bU1 : U1 + 8 < 18446744073709551616) (bU2 : U2 + 8 < 18446744073709551616) (bU3 : U3 + 8 < 18446744073709551616) (oU2 : od ≤ U2) (hh : rowH i < 18446744073709551616) (hl : rowL i < 18446744073709551616)
    (k1 : 1 ≤ mn * rowH i / 18446744073709551616) (k2 : 1 ≤ mx * rowH i / 18446744073709551616) (k3 : 1 ≤ m * rowH i / 18446744073709551616) (d : Nat) (q : Int)
    (hd : (D1 ≤ D2 / 10 * 10 ∧ d = D2 / 10 ∧ q = -(p - 1)) ∨ (¬ D1 ≤ D2 / 10 * 10 ∧ D1 < D2 ∧ d = (U3 + 1 + U3 / 4 % 2) / 4 ∧ q = -p) ∨ (¬ D1 ≤ D2 / 10 * 10 ∧ ¬ D1 < D2 ∧ d = D1 ∧ q = -p)) :
    Calls Tryz.prog 181 #[.int .u64 m, .int .i64 e] w fun ed w' => ed = .returned (.tuple #[.int .u64 d, .int .i64 q]) ∧ Below w.heap.size w w' := by
  have C1 := hide (fun W => lg_ok (e + 11) W (by omega))
  rw [← hL] at C1
  have pb : -348 ≤ p ∧ p ≤ 347 := by omega
  have C2 := hide (fun W => l2_ok p W (by omega))
  rw [← hlp] at C2
  have lpb : -100000 ≤ lp ∧ lp ≤ 100000 := by omega
  have T1 := hide (fun W B hc => uscale_ok mn (rowH i) (rowL i) s B W (by omega) hh hl hs2 k1 hc)
  have T2 := hide (fun W B hc => uscale_ok mx (rowH i) (rowL i) s B W (by omega) hh hl hs2 k2 hc)
  have T3 := hide (fun W B hc => uscale_ok m (rowH i) (rowL i) s B W (by omega) hh hl hs2 k3 hc)
  rw [← hU1] at T1
  rw [← hU2] at T2
  rw [← hU3] at T3
  have N1 := hide (fun W => up_ok U1 od W (by omega) hod)
  have N2 := hide (fun W => ceil_ok (U1 + od) W (by omega))
  have N3 := hide (fun W => dn_ok U2 od W (by omega) hod oU2)
  have N4 := hide (fun W => floor_ok (U2 - od) W (by omega))
  have N5 := hide (fun W => round_ok U3 W (by omega))
  rw [← hD1] at N2
  rw [← hD2] at N4
  have bD1 : D1 < 4611686018427387904 := by omega
  have bD2 : D2 < 4611686018427387904 := by omega
  obtain ⟨V1, hV1⟩ : ∃ V1, V1 = U1 + od := ⟨_, rfl⟩
  rw [← hV1] at N1 N2
  obtain ⟨V2, hV2⟩ : ∃ V2, V2 = U2 - od := ⟨_, rfl⟩
  rw [← hV2] at N3 N4
  have HD := hide hd
  clear hU1 hU2 hU3 hD1 hD2 bU1 bU2 bU3 oU2 k1 k2 k3 hV1 hV2 hd hh hl
  have HL := hide hL
  have HI := hide hi
  have HS := hide hs
  have HLP := hide hlp
  clear hL hi hs hlp
  subst hmc hod0 hmn hmx
  have a3 : bits .and .i64 4503599627370496 1 = (0 : Int) := by decide
  go_enter Tryz.func181, Tryz.ntmps181
  go_wp2_with fail
  refine (unhide C1 _).mono ?_
  rintro ed w1' ⟨rfl, rfl⟩
  clear C1
  go_wp2_with fail
  refine (unhide C2 _).mono ?_
  rintro ed w2' ⟨rfl, rfl⟩
  clear C2
  have HB := hide (heap_alloc_new w1' (.cells #[.int .u64 0, .int .u64 0, .int .i64 0] 236))
  have HT := hide (fun j (hj : j < 696) => (⟨(((Below.refl w1'.heap.size w1').alloc (Nat.le_refl _) (.cells #[.int .u64 0, .int .u64 0, .int .i64 0] 236)).cell (p := ⟨10, 2 * j, none⟩) hg).trans (hT j hj).1, (((Below.refl w1'.heap.size w1').alloc (Nat.le_refl _) (.cells #[.int .u64 0, .int .u64 0, .int .i64 0] 236)).cell (p := ⟨10, 2 * j + 1, none⟩) hg).trans (hT j hj).2⟩ : _ ∧ _))
  have b0 := (Below.refl w1'.heap.size w1').alloc (Nat.le_refl _) (.cells #[.int .u64 0, .int .u64 0, .int .i64 0] 236)
  have hne : w1'.heap.size ≠ 10 := by omega
  clear hT
  go_wp2_with fail
  refine (prescale_ok w1'.heap.size _ _ _ _ e p lp i s _ (unhide HB) (unhide HT) hne (unhide HI) hi2 (unhide HS) (by omega) lpb).mono ?_
  rintro ed w3 ⟨rfl, hB3, b3⟩
  have S3 := Sca.of_heap hB3
  have b3' := b0.trans b3
  clear HB HT hB3 b0 b3
  have hsz3 : w1'.heap.size ≤ w3.heap.size := b3'.size
  go_wp2_with fail
  refine (unhide T1 _ _ S3).mono ?_
  rintro ed w4 ⟨rfl, b4⟩
  have S4 := S3.below b4
  have b4' := hide (b3'.trans (b4.mono hsz3))
  clear T1 S3 b4 b3' hsz3
  go_wp2_with fail
  refine (unhide N1 _).mono ?_
  rintro ed w5 ⟨rfl, rfl⟩
  clear N1
  go_wp2_with fail
  refine (unhide N2 _).mono ?_
  rintro ed w6 ⟨rfl, rfl⟩
  clear N2
  go_wp2_with fail
  refine (unhide T2 _ _ S4).mono ?_
  rintro ed w7 ⟨rfl, b7⟩
  have S7 := S4.below b7
  have b7' := hide ((unhide b4').trans (b7.mono (unhide b4').size))
  clear T2 S4 b7 b4'
  go_wp2_with fail
  refine (unhide N3 _).mono ?_
  rintro ed w8 ⟨rfl, rfl⟩
  clear N3
  go_wp2_with fail
  refine (unhide N4 _).mono ?_
  rintro ed w9 ⟨rfl, rfl⟩
  clear N4
  obtain ⟨Qd, hQd⟩ : ∃ Qd, Qd = D2 / 10 := ⟨_, rfl⟩
  have hd := unhide HD
  rw [← hQd] at hd
  have q1 : (D2 : Int) / 10 = (Qd : Int) := by omega
  have q2 : (Qd : Int) ≤ 461168601842738790 := by omega
  clear HD hQd
  rcases hd with ⟨h1, rfl, hq⟩ | ⟨h1, h2, hd, hq⟩ | ⟨h1, h2, hd, hq⟩
  · have g1 : (D1 : Int) ≤ (d : Int) * 10 := by omega
    have Hq := hide hq
    clear hq T3 N5
    go_wp2
    go_ret2
    refine ⟨?_, unhide b7'⟩
    rw [unhide Hq]
    rfl
  · have g1 : ¬ (D1 : Int) ≤ (Qd : Int) * 10 := by omega
    have g2 : (D1 : Int) < (D2 : Int) := by omega
    have Hq := hide hq
    have Hd := hide hd
    rw [← hd] at N5
    clear hq hd
    go_wp2_with fail
    refine (unhide T3 _ _ S7).mono ?_
    rintro ed wa ⟨rfl, ba⟩
    have ba' := hide ((unhide b7').trans (ba.mono (unhide b7').size))
    clear T3 S7 ba b7'
    go_wp2_with fail
    refine (unhide N5 _).mono ?_
    rintro ed wb ⟨rfl, rfl⟩
    clear N5
    go_wp2
    go_ret2
    refine ⟨?_, unhide ba'⟩
    rw [unhide Hq]
    rfl
  · have g1 : ¬ (D1 : Int) ≤ (Qd : Int) * 10 := by omega
    have g2 : ¬ (D1 : Int) < (D2 : Int) := by omega
    subst hd
    have Hq := hide hq
    clear hq T3 N5
    go_wp2
    go_ret2
    refine ⟨?_, unhide b7'⟩
    rw [unhide Hq]
    rfl
end Go.Proofs.YtechaplindbfoaaGreatDoor.fto
namespace Go.Proofs.YtechaplindbfoaaGreatDoor.fto
open Go.ChangeShapes Go.WideShapes Go.ChangeAt Go.RowKit
open mem
open ints (hide unhide)
set_option linter.unusedVariables false
set_option maxHeartbeats 8000000 in
set_option maxRecDepth 100000 in
theorem sf_c (m M1 mn mx z : Nat) (e L p lp : Int) (i s od : Nat) (w : World) (hT : PT w) (hm : 9223372036854775808 ≤ m) (hm2 : m < 18446744073709550592) (he : e < -1085) (he2 : -1137 ≤ e) (eM : ((m : Int) == 9223372036854775808) = false) (hz : 11 + (-1085 - e) = (z : Int)) (A : Nat) (hA : A = 2 ^ (z - 1))
    (hL : L = -1074 * 78913 / 262144) (hp : -L = p) (hlp : lp = p * 108853 / 32768) (hi : (i : Int) = p + 348) (hi2 : i < 696) (hs : -(e + lp + 3) = (s : Int)) (hs2 : s < 64) (hM1 : M1 = m / 2 ^ z) (o2 : M1 ≤ 9007199254740992) (a2 : bits .and .i64 (M1 : Int) 1 = (od : Int)) (hA1 : 1 ≤ A) (hA2 : A ≤ m) (hmn : mn = m - A) (hmx : mx = m + A) (hmx2 : m + A < 18446744073709551616)
    (hod : od ≤ 1) (hg : 10 < w.heap.size) (U1 U2 U3 D1 D2 : Nat) (hU1 : U1 = us mn (rowH i) (rowL i) s) (hU2 : U2 = us mx (rowH i) (rowL i) s) (hU3 : U3 = us m (rowH i) (rowL i) s) (hD1 : D1 = (U1 + od + 3) / 4) (hD2 : D2 = (U2 - od) / 4)
    (bU1 : U1 + 8 < 18446744073709551616) (bU2 : U2 + 8 < 18446744073709551616) (bU3 : U3 + 8 < 18446744073709551616) (oU2 : od ≤ U2) (hh : rowH i < 18446744073709551616) (hl : rowL i < 18446744073709551616)
    (k1 : 1 ≤ mn * rowH i / 18446744073709551616) (k2 : 1 ≤ mx * rowH i / 18446744073709551616) (k3 : 1 ≤ m * rowH i / 18446744073709551616) (d : Nat) (q : Int)
    (hd : (D1 ≤ D2 / 10 * 10 ∧ d = D2 / 10 ∧ q = -(p - 1)) ∨ (¬ D1 ≤ D2 / 10 * 10 ∧ D1 < D2 ∧ d = (U3 + 1 + U3 / 4 % 2) / 4 ∧ q = -p) ∨ (¬ D1 ≤ D2 / 10 * 10 ∧ ¬ D1 < D2 ∧ d = D1 ∧ q = -p)) :
    Calls Tryz.prog 181 #[.int .u64 m, .int .i64 e] w fun ed w' => ed = .returned (.tuple #[.int .u64 d, .int .i64 q]) ∧ Below w.heap.size w w' := by
  have C1 := hide (fun W => lg_ok (-1074) W (by omega))
  rw [← hL] at C1
  have pb : -348 ≤ p ∧ p ≤ 347 := by omega
  have C2 := hide (fun W => l2_ok p W (by omega))
  rw [← hlp] at C2
  have hz12 : 12 ≤ z ∧ z ≤ 63 := by omega
  have hez : e + (z : Int) = -1074 := by omega
  have x1 : IntKind.u64.wrap ((2 : Int) ^ (z - 1)) = (A : Int) := by
    have e1 : ((2 : Int) ^ (z - 1)) = (A : Int) := by rw [hA]; simp
    rw [e1, IntKind.wrap_u64]; omega
  have x2 : IntKind.u64.wrap ((m : Int) - (A : Int)) = (mn : Int) := by rw [IntKind.wrap_u64]; omega
  have x3 : IntKind.u64.wrap ((m : Int) + (A : Int)) = (mx : Int) := by rw [IntKind.wrap_u64]; omega
  have x4 : (m : Int) / 2 ^ z = (M1 : Int) := by rw [hM1]; simp
  have lpb : -100000 ≤ lp ∧ lp ≤ 100000 := by omega
  have T1 := hide (fun W B hc => uscale_ok mn (rowH i) (rowL i) s B W (by omega) hh hl hs2 k1 hc)
  have T2 := hide (fun W B hc => uscale_ok mx (rowH i) (rowL i) s B W (by omega) hh hl hs2 k2 hc)
  have T3 := hide (fun W B hc => uscale_ok m (rowH i) (rowL i) s B W (by omega) hh hl hs2 k3 hc)
  rw [← hU1] at T1
  rw [← hU2] at T2
  rw [← hU3] at T3
  have N1 := hide (fun W => up_ok U1 od W (by omega) hod)
  have N2 := hide (fun W => ceil_ok (U1 + od) W (by omega))
  have N3 := hide (fun W => dn_ok U2 od W (by omega) hod oU2)
  have N4 := hide (fun W => floor_ok (U2 - od) W (by omega))
  have N5 := hide (fun W => round_ok U3 W (by omega))
  rw [← hD1] at N2
  rw [← hD2] at N4
  have bD1 : D1 < 4611686018427387904 := by omega
  have bD2 : D2 < 4611686018427387904 := by omega
  obtain ⟨V1, hV1⟩ : ∃ V1, V1 = U1 + od := ⟨_, rfl⟩
  rw [← hV1] at N1 N2
  obtain ⟨V2, hV2⟩ : ∃ V2, V2 = U2 - od := ⟨_, rfl⟩
  rw [← hV2] at N3 N4
  have HD := hide hd
  clear hU1 hU2 hU3 hD1 hD2 bU1 bU2 bU3 oU2 k1 k2 k3 hV1 hV2 hd hh hl
  have HL := hide hL
  have HI := hide hi
  have HS := hide hs
  have HLP := hide hlp
  clear hL hi hs hlp hM1 hA hmn hmx hmx2
  go_enter Tryz.func181, Tryz.ntmps181
  go_wp2_with fail
  refine (unhide C1 _).mono ?_
  rintro ed w1' ⟨rfl, rfl⟩
  clear C1
  go_wp2_with fail
  refine (unhide C2 _).mono ?_
  rintro ed w2' ⟨rfl, rfl⟩
  clear C2
  have HB := hide (heap_alloc_new w1' (.cells #[.int .u64 0, .int .u64 0, .int .i64 0] 236))
  have HT := hide (fun j (hj : j < 696) => (⟨(((Below.refl w1'.heap.size w1').alloc (Nat.le_refl _) (.cells #[.int .u64 0, .int .u64 0, .int .i64 0] 236)).cell (p := ⟨10, 2 * j, none⟩) hg).trans (hT j hj).1, (((Below.refl w1'.heap.size w1').alloc (Nat.le_refl _) (.cells #[.int .u64 0, .int .u64 0, .int .i64 0] 236)).cell (p := ⟨10, 2 * j + 1, none⟩) hg).trans (hT j hj).2⟩ : _ ∧ _))
  have b0 := (Below.refl w1'.heap.size w1').alloc (Nat.le_refl _) (.cells #[.int .u64 0, .int .u64 0, .int .i64 0] 236)
  have hne : w1'.heap.size ≠ 10 := by omega
  clear hT
  go_wp2_with fail
  refine (prescale_ok w1'.heap.size _ _ _ _ e p lp i s _ (unhide HB) (unhide HT) hne (unhide HI) hi2 (unhide HS) (by omega) lpb).mono ?_
  rintro ed w3 ⟨rfl, hB3, b3⟩
  have S3 := Sca.of_heap hB3
  have b3' := b0.trans b3
  clear HB HT hB3 b0 b3
  have hsz3 : w1'.heap.size ≤ w3.heap.size := b3'.size
  go_wp2_with fail
  refine (unhide T1 _ _ S3).mono ?_
  rintro ed w4 ⟨rfl, b4⟩
  have S4 := S3.below b4
  have b4' := hide (b3'.trans (b4.mono hsz3))
  clear T1 S3 b4 b3' hsz3
  go_wp2_with fail
  refine (unhide N1 _).mono ?_
  rintro ed w5 ⟨rfl, rfl⟩
  clear N1
  go_wp2_with fail
  refine (unhide N2 _).mono ?_
  rintro ed w6 ⟨rfl, rfl⟩
  clear N2
  go_wp2_with fail
  refine (unhide T2 _ _ S4).mono ?_
  rintro ed w7 ⟨rfl, b7⟩
  have S7 := S4.below b7
  have b7' := hide ((unhide b4').trans (b7.mono (unhide b4').size))
  clear T2 S4 b7 b4'
  go_wp2_with fail
  refine (unhide N3 _).mono ?_
  rintro ed w8 ⟨rfl, rfl⟩
  clear N3
  go_wp2_with fail
  refine (unhide N4 _).mono ?_
  rintro ed w9 ⟨rfl, rfl⟩
  clear N4
  obtain ⟨Qd, hQd⟩ : ∃ Qd, Qd = D2 / 10 := ⟨_, rfl⟩
  have hd := unhide HD
  rw [← hQd] at hd
  have q1 : (D2 : Int) / 10 = (Qd : Int) := by omega
  have q2 : (Qd : Int) ≤ 461168601842738790 := by omega
  clear HD hQd
  rcases hd with ⟨h1, rfl, hq⟩ | ⟨h1, h2, hd, hq⟩ | ⟨h1, h2, hd, hq⟩
  · have g1 : (D1 : Int) ≤ (d : Int) * 10 := by omega
    have Hq := hide hq
    clear hq T3 N5
    go_wp2
    go_ret2
    refine ⟨?_, unhide b7'⟩
    rw [unhide Hq]
    rfl
  · have g1 : ¬ (D1 : Int) ≤ (Qd : Int) * 10 := by omega
    have g2 : (D1 : Int) < (D2 : Int) := by omega
    have Hq := hide hq
    have Hd := hide hd
    rw [← hd] at N5
    clear hq hd
    go_wp2_with fail
    refine (unhide T3 _ _ S7).mono ?_
    rintro ed wa ⟨rfl, ba⟩
    have ba' := hide ((unhide b7').trans (ba.mono (unhide b7').size))
    clear T3 S7 ba b7'
    go_wp2_with fail
    refine (unhide N5 _).mono ?_
    rintro ed wb ⟨rfl, rfl⟩
    clear N5
    go_wp2
    go_ret2
    refine ⟨?_, unhide ba'⟩
    rw [unhide Hq]
    rfl
  · have g1 : ¬ (D1 : Int) ≤ (Qd : Int) * 10 := by omega
    have g2 : ¬ (D1 : Int) < (D2 : Int) := by omega
    subst hd
    have Hq := hide hq
    clear hq T3 N5
    go_wp2
    go_ret2
    refine ⟨?_, unhide b7'⟩
    rw [unhide Hq]
    rfl
set_option maxHeartbeats 8000000 in
set_option maxRecDepth 100000 in
theorem sf_c0 (m M1 mn mx z : Nat) (e L p lp : Int) (i s od : Nat) (w : World) (hT : PT w) (hm : 9223372036854775808 ≤ m) (hm2 : m < 18446744073709550592) (he : e < -1085) (he2 : -1137 ≤ e) (eM : ((m : Int) == 9223372036854775808) = true) (hz : 11 + (-1085 - e) = (z : Int)) (A : Nat) (hA : A = 2 ^ (z - 1))
    (hL : L = -1074 * 78913 / 262144) (hp : -L = p) (hlp : lp = p * 108853 / 32768) (hi : (i : Int) = p + 348) (hi2 : i < 696) (hs : -(e + lp + 3) = (s : Int)) (hs2 : s < 64) (hM1 : M1 = m / 2 ^ z) (o2 : M1 ≤ 9007199254740992) (a2 : bits .and .i64 (M1 : Int) 1 = (od : Int)) (hA1 : 1 ≤ A) (hA2 : A ≤ m) (hmn : mn = m - A) (hmx : mx = m + A) (hmx2 : m + A < 18446744073709551616)
    (hod : od ≤ 1) (hg : 10 < w.heap.size) (U1 U2 U3 D1 D2 : Nat) (hU1 : U1 = us mn (rowH i) (rowL i) s) (hU2 : U2 = us mx (rowH i) (rowL i) s) (hU3 : U3 = us m (rowH i) (rowL i) s) (hD1 : D1 = (U1 + od + 3) / 4) (hD2 : D2 = (U2 - od) / 4)
    (bU1 : U1 + 8 < 18446744073709551616) (bU2 : U2 + 8 < 18446744073709551616) (bU3 : U3 + 8 < 18446744073709551616) (oU2 : od ≤ U2) (hh : rowH i < 18446744073709551616) (hl : rowL i < 18446744073709551616)
    (k1 : 1 ≤ mn * rowH i / 18446744073709551616) (k2 : 1 ≤ mx * rowH i / 18446744073709551616) (k3 : 1 ≤ m * rowH i / 18446744073709551616) (d : Nat) (q : Int)
    (hd : (D1 ≤ D2 / 10 * 10 ∧ d = D2 / 10 ∧ q = -(p - 1)) ∨ (¬ D1 ≤ D2 / 10 * 10 ∧ D1 < D2 ∧ d = (U3 + 1 + U3 / 4 % 2) / 4 ∧ q = -p) ∨ (¬ D1 ≤ D2 / 10 * 10 ∧ ¬ D1 < D2 ∧ d = D1 ∧ q = -p)) :
    Calls Tryz.prog 181 #[.int .u64 m, .int .i64 e] w fun ed w' => ed = .returned (.tuple #[.int .u64 d, .int .i64 q]) ∧ Below w.heap.size w w' := by
  have C1 := hide (fun W => lg_ok (-1074) W (by omega))
  rw [← hL] at C1
  have pb : -348 ≤ p ∧ p ≤ 347 := by omega
  have C2 := hide (fun W => l2_ok p W (by omega))
  rw [← hlp] at C2
  have hz12 : 12 ≤ z ∧ z ≤ 63 := by omega
  have hez : e + (z : Int) = -1074 := by omega
  have x1 : IntKind.u64.wrap ((2 : Int) ^ (z - 1)) = (A : Int) := by
    have e1 : ((2 : Int) ^ (z - 1)) = (A : Int) := by rw [hA]; simp
    rw [e1, IntKind.wrap_u64]; omega
  have x2 : IntKind.u64.wrap ((m : Int) - (A : Int)) = (mn : Int) := by rw [IntKind.wrap_u64]; omega
  have x3 : IntKind.u64.wrap ((m : Int) + (A : Int)) = (mx : Int) := by rw [IntKind.wrap_u64]; omega
  have x4 : (m : Int) / 2 ^ z = (M1 : Int) := by rw [hM1]; simp
  have lpb : -100000 ≤ lp ∧ lp ≤ 100000 := by omega
  have T1 := hide (fun W B hc => uscale_ok mn (rowH i) (rowL i) s B W (by omega) hh hl hs2 k1 hc)
  have T2 := hide (fun W B hc => uscale_ok mx (rowH i) (rowL i) s B W (by omega) hh hl hs2 k2 hc)
  have T3 := hide (fun W B hc => uscale_ok m (rowH i) (rowL i) s B W (by omega) hh hl hs2 k3 hc)
  rw [← hU1] at T1
  rw [← hU2] at T2
  rw [← hU3] at T3
  have N1 := hide (fun W => up_ok U1 od W (by omega) hod)
  have N2 := hide (fun W => ceil_ok (U1 + od) W (by omega))
  have N3 := hide (fun W => dn_ok U2 od W (by omega) hod oU2)
  have N4 := hide (fun W => floor_ok (U2 - od) W (by omega))
  have N5 := hide (fun W => round_ok U3 W (by omega))
  rw [← hD1] at N2
  rw [← hD2] at N4
  have bD1 : D1 < 4611686018427387904 := by omega
  have bD2 : D2 < 4611686018427387904 := by omega
  obtain ⟨V1, hV1⟩ : ∃ V1, V1 = U1 + od := ⟨_, rfl⟩
  rw [← hV1] at N1 N2
  obtain ⟨V2, hV2⟩ : ∃ V2, V2 = U2 - od := ⟨_, rfl⟩
  rw [← hV2] at N3 N4
  have HD := hide hd
  clear hU1 hU2 hU3 hD1 hD2 bU1 bU2 bU3 oU2 k1 k2 k3 hV1 hV2 hd hh hl
  have HL := hide hL
  have HI := hide hi
  have HS := hide hs
  have HLP := hide hlp
  clear hL hi hs hlp hM1 hA hmn hmx hmx2
  go_enter Tryz.func181, Tryz.ntmps181
  go_wp2_with fail
  refine (unhide C1 _).mono ?_
  rintro ed w1' ⟨rfl, rfl⟩
  clear C1
  go_wp2_with fail
  refine (unhide C2 _).mono ?_
  rintro ed w2' ⟨rfl, rfl⟩
  clear C2
  have HB := hide (heap_alloc_new w1' (.cells #[.int .u64 0, .int .u64 0, .int .i64 0] 236))
  have HT := hide (fun j (hj : j < 696) => (⟨(((Below.refl w1'.heap.size w1').alloc (Nat.le_refl _) (.cells #[.int .u64 0, .int .u64 0, .int .i64 0] 236)).cell (p := ⟨10, 2 * j, none⟩) hg).trans (hT j hj).1, (((Below.refl w1'.heap.size w1').alloc (Nat.le_refl _) (.cells #[.int .u64 0, .int .u64 0, .int .i64 0] 236)).cell (p := ⟨10, 2 * j + 1, none⟩) hg).trans (hT j hj).2⟩ : _ ∧ _))
  have b0 := (Below.refl w1'.heap.size w1').alloc (Nat.le_refl _) (.cells #[.int .u64 0, .int .u64 0, .int .i64 0] 236)
  have hne : w1'.heap.size ≠ 10 := by omega
  clear hT
  go_wp2_with fail
  refine (prescale_ok w1'.heap.size _ _ _ _ e p lp i s _ (unhide HB) (unhide HT) hne (unhide HI) hi2 (unhide HS) (by omega) lpb).mono ?_
  rintro ed w3 ⟨rfl, hB3, b3⟩
  have S3 := Sca.of_heap hB3
  have b3' := b0.trans b3
  clear HB HT hB3 b0 b3
  have hsz3 : w1'.heap.size ≤ w3.heap.size := b3'.size
  go_wp2_with fail
  refine (unhide T1 _ _ S3).mono ?_
  rintro ed w4 ⟨rfl, b4⟩
  have S4 := S3.below b4
  have b4' := hide (b3'.trans (b4.mono hsz3))
  clear T1 S3 b4 b3' hsz3
  go_wp2_with fail
  refine (unhide N1 _).mono ?_
  rintro ed w5 ⟨rfl, rfl⟩
  clear N1
  go_wp2_with fail
  refine (unhide N2 _).mono ?_
  rintro ed w6 ⟨rfl, rfl⟩
  clear N2
  go_wp2_with fail
  refine (unhide T2 _ _ S4).mono ?_
  rintro ed w7 ⟨rfl, b7⟩
  have S7 := S4.below b7
  have b7' := hide ((unhide b4').trans (b7.mono (unhide b4').size))
  clear T2 S4 b7 b4'
  go_wp2_with fail
  refine (unhide N3 _).mono ?_
  rintro ed w8 ⟨rfl, rfl⟩
  clear N3
  go_wp2_with fail
  refine (unhide N4 _).mono ?_
  rintro ed w9 ⟨rfl, rfl⟩
  clear N4
  obtain ⟨Qd, hQd⟩ : ∃ Qd, Qd = D2 / 10 := ⟨_, rfl⟩
  have hd := unhide HD
  rw [← hQd] at hd
  have q1 : (D2 : Int) / 10 = (Qd : Int) := by omega
  have q2 : (Qd : Int) ≤ 461168601842738790 := by omega
  clear HD hQd
  rcases hd with ⟨h1, rfl, hq⟩ | ⟨h1, h2, hd, hq⟩ | ⟨h1, h2, hd, hq⟩
  · have g1 : (D1 : Int) ≤ (d : Int) * 10 := by omega
    have Hq := hide hq
    clear hq T3 N5
    go_wp2
    go_ret2
    refine ⟨?_, unhide b7'⟩
    rw [unhide Hq]
    rfl
  · have g1 : ¬ (D1 : Int) ≤ (Qd : Int) * 10 := by omega
    have g2 : (D1 : Int) < (D2 : Int) := by omega
    have Hq := hide hq
    have Hd := hide hd
    rw [← hd] at N5
    clear hq hd
    go_wp2_with fail
    refine (unhide T3 _ _ S7).mono ?_
    rintro ed wa ⟨rfl, ba⟩
    have ba' := hide ((unhide b7').trans (ba.mono (unhide b7').size))
    clear T3 S7 ba b7'
    go_wp2_with fail
    refine (unhide N5 _).mono ?_
    rintro ed wb ⟨rfl, rfl⟩
    clear N5
    go_wp2
    go_ret2
    refine ⟨?_, unhide ba'⟩
    rw [unhide Hq]
    rfl
  · have g1 : ¬ (D1 : Int) ≤ (Qd : Int) * 10 := by omega
    have g2 : ¬ (D1 : Int) < (D2 : Int) := by omega
    subst hd
    have Hq := hide hq
    clear hq T3 N5
    go_wp2
    go_ret2
    refine ⟨?_, unhide b7'⟩
    rw [unhide Hq]
    rfl
end Go.Proofs.YtechaplindbfoaaGreatDoor.fto
