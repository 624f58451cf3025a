import Derived.Test.YtechaplindbfoaaGreatDoorJsi19
namespace Go.Proofs.YtechaplindbfoaaGreatDoor.fto
open Go.ChangeShapes Go.WideShapes Go.ChangeAt Go.RowKit
open mem Go.Sort
open ints (hide unhide)
set_option linter.unusedVariables false
theorem rdB_iff (q : Nat) (x : Int) (a : Nat) : rdB q x a = true ↔ Rd q x a := by unfold rdB; exact @decide_eq_true_iff _ (Classical.propDecidable _)
theorem rdB_no (q : Nat) (x : Int) (a : Nat) : rdB q x a = false ↔ ¬ Rd q x a := by rw [← rdB_iff]; simp
theorem shf_cmp {a s t : Nat} {p : Int} {Xv W dmin dmax r : Nat} (h : ShF a s t p Xv W dmin dmax r) (c : Nat) :
    (Xv < c * (4 * W) ↔ 10 ^ p.toNat * vR a < c * 10 ^ (-p).toNat * k74) ∧ (2 * Xv < c * (4 * W) ↔ 10 ^ p.toNat * (2 * vR a) < c * 10 ^ (-p).toNat * k74) ∧ (2 * Xv = c * (4 * W) ↔ 10 ^ p.toNat * (2 * vR a) = c * 10 ^ (-p).toNat * k74) := by
  have hx := h.xv
  have hw := h.wv
  have ht := h.tv
  have a1 := (sho_cmp p (2 * vR a) (mantR a * 2 ^ (s + 1)) (s + 1) (t + 1) (exR a) c (by omega) (by
    unfold vR
    rw [Nat.add_sub_cancel, Nat.pow_succ]
    generalize 2 ^ s = A
    generalize 2 ^ exR a = B
    ac_rfl) (by omega)).1
  have a2 := sho_cmp p (4 * vR a) (mantR a * 2 ^ (s + 2)) (s + 1) (t + 1) (exR a) c (by omega) (by
    unfold vR
    rw [Nat.add_sub_cancel, Nat.pow_add]
    generalize 2 ^ s = A
    generalize 2 ^ exR a = B
    rw [show (2 : Nat) ^ 2 = 4 from rfl]
    ac_rfl) (by omega)
  have e1 : mantR a * 2 ^ (s + 1) * eA p = 2 * Xv := by rw [hx, Nat.pow_succ]; generalize 2 ^ s = A; ac_rfl
  have e2 : mantR a * 2 ^ (s + 2) * eA p = 4 * Xv := by rw [hx, Nat.pow_add, show (2 : Nat) ^ 2 = 4 from rfl]; generalize 2 ^ s = A; ac_rfl
  have e3 : c * (4 * (q64 * q64 * eB p * 2 ^ (t + 1))) = 2 * (c * (4 * W)) := by rw [hw, Nat.pow_succ]; generalize 2 ^ t = A; generalize q64 * q64 = B; ac_rfl
  rw [e1, e3] at a1
  rw [e2, e3] at a2
  have e4 : 10 ^ p.toNat * (2 * vR a) = 2 * (10 ^ p.toNat * vR a) := by rw [Nat.mul_left_comm]
  have e5 : 10 ^ p.toNat * (4 * vR a) = 2 * (2 * (10 ^ p.toNat * vR a)) := by rw [Nat.mul_left_comm]; omega
  rw [e4] at a1 ⊢
  rw [e5] at a2
  generalize c * 10 ^ (-p).toNat * k74 = Y at *
  generalize 10 ^ p.toNat * vR a = Z at *
  generalize c * (4 * W) = V at *
  obtain ⟨a2, a3⟩ := a2
  refine ⟨?_, ?_, ?_⟩
  · constructor <;> intro g
    · have := a1.1 (by omega); omega
    · have := a1.2 (by omega); omega
  · constructor <;> intro g
    · have := a2.1 (by omega); omega
    · have := a2.2 (by omega); omega
  · constructor <;> intro g
    · have := a3.1 (by omega); omega
    · have := a3.2 (by omega); omega
theorem pwG_uniq {a : Nat} {p m : Int} (h1 : pwG a p) (h2 : ¬ pwG a (p - 1)) (h3 : pwG a m) (h4 : ¬ pwG a (m - 1)) : p = m := by
  have key : ∀ x y : Int, pwG a x → ¬ pwG a (y - 1) → y ≤ x := fun x y g1 g2 => by
    rcases Int.lt_or_le x y with g | g
    · exfalso
      obtain ⟨j, hj⟩ : ∃ j : Nat, y - 1 = x + j := ⟨(y - 1 - x).toNat, by omega⟩
      exact g2 (by rw [hj]; exact pwG_mono g1 j)
    · exact g
  have := key p m h1 h4
  have := key m p h3 h2
  omega
theorem svG_le {a Q : Nat} {p : Int} (h1 : svG a p Q) (h2 : ¬ svG a p (Q + 1)) (c : Nat) : svG a p c ↔ c ≤ Q := by
  have mono : ∀ x y, x ≤ y → svG a p y → svG a p x := fun x y hxy hy => by
    unfold svG at *
    exact Nat.le_trans (Nat.mul_le_mul_right _ (Nat.mul_le_mul_left _ hxy)) hy
  constructor
  · intro h
    rcases Nat.lt_or_ge Q c with g | g
    · exact absurd (mono (Q + 1) c g h) h2
    · exact g
  · intro h
    exact mono c Q h h1
/-- the reference and the program choose the same number -/
theorem pick_same {a d Q : Nat} {q0 p : Int} (hc : Chosen a d q0) (h1 : pwG a p) (h2 : ¬ pwG a (p - 1)) (h3 : svG a p Q) (h4 : ¬ svG a p (Q + 1)) :
    (∀ n N, 1 ≤ n → n ≤ 17 → (∀ i, 1 ≤ i → i < n → NoR a p Q i) → Pick a p Q n N → ∃ e j : Nat, d * 10 ^ e = N * 10 ^ j ∧ q0 - e = p - n - j) ∧ ¬ (∀ i, 1 ≤ i → i < 18 → NoR a p Q i) := by
  obtain ⟨s, t, p', Xv, W, dmin, dmax, r, F, hd, hq0⟩ := hc
  obtain ⟨Q', hQ'⟩ : ∃ Q', Q' = Xv / (4 * W) := ⟨_, rfl⟩
  have hW := F.wp
  have hq1 : 1 ≤ Q' := by rw [hQ']; exact F.q0
  have hq17 : Q' < 100000000000000000 := by rw [hQ']; exact F.q17
  obtain ⟨n1, n2, n3⟩ := nd_pow Q' hq1
  obtain ⟨J, hJ⟩ : ∃ J, Lib.nDigits Q' = J + 1 := ⟨Lib.nDigits Q' - 1, by omega⟩
  rw [hJ] at n1 n2
  rw [Nat.add_sub_cancel] at n1
  have hJ16 : J ≤ 16 := by
    rcases Nat.lt_or_ge 16 J with g | g
    · exfalso
      have : 10 ^ 17 ≤ 10 ^ J := Nat.pow_le_pow_right (by decide) g
      have e : (10 : Nat) ^ 17 = 100000000000000000 := rfl
      omega
    · exact g
  have fl : ∀ c, c ≤ Q' ↔ c * 10 ^ (-p').toNat * k74 ≤ 10 ^ p'.toNat * vR a := fun c => by
    have := (shf_cmp F c).1
    rw [hQ', Nat.le_div_iff_mul_le (by omega)]
    omega
  have tsc : ∀ j c : Nat, (10 ^ j * c) ≤ Q' ↔ 1 * 10 ^ (-p' + j).toNat * (c * k74) ≤ 10 ^ (-(-p' + j)).toNat * vR a := fun j c => by
    rw [fl, ← ten_scale (-p') j (vR a) (c * k74), Int.neg_neg]
    have : 10 ^ j * c * 10 ^ (-p').toNat * k74 = 10 ^ j * 10 ^ (-p').toNat * (c * k74) := by
      generalize 10 ^ j = A; generalize 10 ^ (-p').toNat = B; generalize k74 = K; ac_rfl
    rw [this]
  have hp : p = -p' + ((J + 1 : Nat) : Int) := by
    refine pwG_uniq h1 h2 ?_ ?_
    · have := tsc (J + 1) 1
      unfold pwG
      rw [Nat.mul_one, Nat.one_mul k74] at this
      omega
    · have := tsc J 1
      rw [show -p' + ((J + 1 : Nat) : Int) - 1 = -p' + (J : Int) by omega]
      unfold pwG
      rw [Nat.mul_one, Nat.one_mul k74] at this
      omega
  have hQQ : Q' = Q / 10 ^ (16 - J) := by
    have key : ∀ c, c ≤ Q / 10 ^ (16 - J) ↔ c ≤ Q' := fun c => by
      rw [Nat.le_div_iff_mul_le (Nat.pow_pos (by decide)), ← svG_le h3 h4, fl]
      unfold svG
      have := ten_scale (p - 17) (16 - J) (vR a) (c * k74)
      rw [show p - 17 + ((16 - J : Nat) : Int) = -p' by omega, Int.neg_neg] at this
      have e1 : 1 * 10 ^ (p - 17).toNat * (c * 10 ^ (16 - J)) * k74 = 10 ^ (16 - J) * 10 ^ (p - 17).toNat * (c * k74) := by
        rw [Nat.one_mul]; generalize 10 ^ (16 - J) = A; generalize 10 ^ (p - 17).toNat = B; generalize k74 = K; ac_rfl
      have e2 : c * 10 ^ (-p').toNat * k74 = 1 * 10 ^ (-p').toNat * (c * k74) := by rw [Nat.one_mul]; generalize 10 ^ (-p').toNat = B; generalize k74 = K; ac_rfl
      rw [e1, e2]
      exact this
    exact Nat.le_antisymm ((key Q').2 (Nat.le_refl _)) ((key _).1 (Nat.le_refl _))
  have hdv : ∀ n, 1 ≤ n → n ≤ J + 1 → Q / 10 ^ (17 - n) = Q' / 10 ^ (J + 1 - n) := fun n g1 g2 => by
    rw [hQQ, Nat.div_div_eq_div_mul, ← Nat.pow_add]
    congr 2
    omega
  have hpn : ∀ n : Nat, n ≤ J + 1 → p - (n : Int) = ((J + 1 - n : Nat) : Int) - p' := fun n g => by omega
  -- with all digits of the program's quotient one is found
  have hfound : ¬ NoR a p Q (J + 1) := by
    intro h
    unfold NoR at h
    rw [hdv (J + 1) (by omega) (by omega), hpn (J + 1) (by omega), rdB_no, rdB_no, Nat.sub_self, Nat.pow_zero, Nat.div_one] at h
    have e0 : ((0 : Nat) : Int) - p' = -p' := by omega
    rw [e0] at h
    have rd : ∀ c, 0 < c → (Rd c (-p') a ↔ dmin ≤ c ∧ c ≤ dmax) := fun c hc => by
      have := F.cin c hc
      unfold Rd
      rw [Int.neg_neg]
      exact this
    have hlo := F.lo
    have hhi := F.hi
    rw [← hQ'] at hlo hhi
    rcases Nat.lt_or_ge Q' dmin with g | g
    · exact h.2 ((rd (Q' + 1) (by omega)).2 ⟨hlo, by have := F.ne; omega⟩)
    · exact h.1 ((rd Q' hq1).2 ⟨g, hhi⟩)
  refine ⟨fun n N g1 g17 hno hpk => ?_, fun h => hfound (h (J + 1) (by omega) (by omega))⟩
  have hnJ : n ≤ J + 1 := by
    rcases Nat.lt_or_ge (J + 1) n with g | g
    · exact absurd (hno (J + 1) (by omega) g) hfound
    · exact g
  obtain ⟨j, hj⟩ : ∃ j, j = J + 1 - n := ⟨_, rfl⟩
  obtain ⟨c, hcc⟩ : ∃ c, c = if dmin ≤ dmax / 10 * 10 then dmax / 10 * 10 else if dmin < dmax then r else dmin := ⟨_, rfl⟩
  unfold Pick at hpk
  rw [hdv n g1 hnJ, hpn n hnJ, ← hj] at hpk
  simp only [rdB_iff] at hpk
  have hall := sho_all (a := a) (Xv := Xv) (W := W) (dmin := dmin) (dmax := dmax) (r := r) (c := c) (J := J) (j := j) (N := N) (p := p') hW (by rw [← hQ']; exact n1) (by rw [← hQ']; exact n2) F.lo F.hi F.re F.d0 F.ne F.wd F.pk hcc F.sm F.cin (by omega) (fun i i1 i2 => by
      have := hno (J + 1 - i) (by omega) (by omega)
      unfold NoR at this
      rw [hdv (J + 1 - i) (by omega) (by omega), hpn (J + 1 - i) (by omega), rdB_no, rdB_no, show J + 1 - (J + 1 - i) = i by omega] at this
      rw [← hQ']
      exact this) (by rw [← hQ']; exact hpk.1) (fun j0 r1 r2 => by
      rw [← hQ'] at r1 r2 ⊢
      subst j0
      rw [Nat.pow_zero, Nat.div_one] at hpk
      have hh := hpk.2 r1 r2
      rw [hh]
      unfold hfG
      have e0 : -(((0 : Nat) : Int) - p') = p' := by omega
      have e1 : ((0 : Nat) : Int) - p' = -p' := by omega
      rw [e0, e1]
      obtain ⟨-, b1, b2⟩ := shf_cmp F (2 * Q' + 1)
      rw [b1, b2]
      exact Iff.intro (fun h => h.imp id (fun h => ⟨h.1.symm, h.2⟩)) (fun h => h.imp id (fun h => ⟨h.1.symm, h.2⟩)))
  have hx : p - (n : Int) - (j : Int) = -p' := by omega
  rcases ch_or dmin dmax r p' with ⟨c1, c2, c3⟩ | ⟨c1, c1', c2, c3⟩ | ⟨c1, c1', c2, c3⟩
  · refine ⟨1, j, ?_, ?_⟩
    · rw [hall, hcc, if_pos c1, hd, c2]
    · rw [hx, hq0, c3]; omega
  · refine ⟨0, j, ?_, ?_⟩
    · rw [hall, hcc, if_neg c1, if_pos c1', hd, c2, Nat.pow_zero, Nat.mul_one]
    · rw [hx, hq0, c3]; omega
  · refine ⟨0, j, ?_, ?_⟩
    · rw [hall, hcc, if_neg c1, if_neg c1', hd, c2, Nat.pow_zero, Nat.mul_one]
    · rw [hx, hq0, c3]; omega
end Go.Proofs.YtechaplindbfoaaGreatDoor.fto
