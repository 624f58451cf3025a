import Derived.Test.YtechaplindbfoaaGreatDoorJsi13
namespace Go.Proofs.YtechaplindbfoaaGreatDoor.mem
open Go.ChangeShapes Go.WideShapes Go.ChangeAt Go.RowKit
open ints (hide unhide)
set_option linter.unusedVariables false
theorem topD_byt (u n : Nat) : Byt (topD u n) := fun z hz => by have := topD_dig u n z hz; omega
theorem str_len (zs : List Int) : (strOfNums zs).size = zs.length := by
  show (zs.map fun n => UInt8.ofNat n.toNat).toArray.size = _
  simp
/-- dec of a number's digits -/
theorem decD (u n : Nat) (x : Int) (w : World) (hu : u < 18446744073709551616) (hd : Dec10 u n) (hx0 : -10000 ≤ x) (hx1 : x ≤ 10000) :
    Calls Tryz.prog 120 #[.string (strOfNums (topD u n)), .int .i64 x] w fun e w' => ∃ aT nT cT aB nB cB, e = .returned (.agg #[.slice aT nT cT, .slice aB nB cB]) ∧ Big w' aT nT cT (u * 10 ^ x.toNat) ∧ nT ≤ 20000 ∧ Big w' aB nB cB (10 ^ (-x).toNat) ∧ nB ≤ 20000 ∧ Below w.heap.size w w' := by
  have e1 : bytesZ (strOfNums (topD u n)) = topD u n := bytesZ_str _ (topD_byt u n)
  have e2 : (strOfNums (topD u n)).size = n := by rw [str_len, topD_len]
  refine dec_any _ u x w (by rw [e2]; have := hd.le; omega) (by rw [e1]; exact topD_dig u n) (by rw [e1, e2]; exact dT_all u n hd.lt) ?_ hx0 hx1
  exact Nat.lt_of_lt_of_le hu (by decide)
/-- is the float a the nearest one? -/
noncomputable def rdB (q : Nat) (x : Int) (a : Nat) : Bool := @decide (Rd q x a) (Classical.propDecidable _)
theorem rdB_of (q : Nat) (x : Int) (a lo L : Nat) (ha : 0 < a) (hai : a < 9218868437227405312) (hlo : Lo (q * 10 ^ x.toNat * k74) (10 ^ (-x).toNat) lo) (hL : L = min lo 9218868437227405311) :
    (decide (roundR (q * 10 ^ x.toNat * k74) (10 ^ (-x).toNat) L < 9218868437227405312) && decide (roundR (q * 10 ^ x.toNat * k74) (10 ^ (-x).toNat) L = a)) = rdB q x a := by
  have hB : 0 < 10 ^ (-x).toNat := Nat.pow_pos (by decide)
  have hi := round_iff hB ha hlo
  have hge : lo ≤ roundR (q * 10 ^ x.toNat * k74) (10 ^ (-x).toNat) lo := by unfold roundR; split <;> omega
  unfold rdB Rd
  generalize q * 10 ^ x.toNat * k74 = P at *
  generalize 10 ^ (-x).toNat = B at *
  rcases Nat.lt_or_ge lo 9218868437227405312 with h | h
  · rw [show L = lo by omega]
    rw [Bool.eq_iff_iff]
    simp only [Bool.and_eq_true, decide_eq_true_eq, ← hi]
    constructor
    · exact fun h => h.2
    · exact fun h => ⟨by omega, h⟩
  · have hLe : L = 9218868437227405311 := by omega
    subst hLe
    have h1 : B * (2 * vR 9218868437227405311 + 2 ^ exR 9218868437227405311) < 2 * P := by
      have h2 : B * vR 9218868437227405312 ≤ P := Nat.le_trans (Nat.mul_le_mul_left B (vR_mono_le h)) hlo.1
      have h3 : 2 * vR 9218868437227405311 + 2 ^ exR 9218868437227405311 < 2 * vR 9218868437227405312 := by
        have := vR_succ 9218868437227405311
        have hp := Nat.two_pow_pos (exR 9218868437227405311)
        rw [show 9218868437227405311 + 1 = 9218868437227405312 from rfl] at this
        omega
      have h4 := Nat.mul_lt_mul_of_pos_left h3 hB
      rw [Nat.mul_left_comm] at h4
      omega
    have h5 : roundR P B 9218868437227405311 = 9218868437227405312 := by
      unfold roundR
      rw [if_pos (Or.inl h1)]
    rw [h5]
    have : ¬ InR P B a := by rw [← hi]; omega
    simp [this]
set_option maxHeartbeats 1000000 in
set_option maxRecDepth 100000 in
/-- the reference's reads -/
theorem reads_ok (q a : Nat) (x : Int) (w : World) (hq : q < 18446744073709551616) (hx0 : -1000 ≤ x) (hx1 : x ≤ 1000) (ha : 0 < a) (hai : a < 9218868437227405312) :
    Calls Tryz.prog 119 #[.int .u64 (q : Int), .int .i64 x, .int .u64 (a : Int)] w fun e w' => e = .returned (.bool (rdB q x a)) ∧ Below w.heap.size w w' := by
  have D1 := hide (digits_any q w hq)
  have HD := hide (fun n W hd => decD q n x W hq hd (by omega) (by omega))
  obtain ⟨lo, hlo⟩ := lo_ex (q * 10 ^ x.toNat * k74) (10 ^ (-x).toNat) (Nat.pow_pos (by decide))
  obtain ⟨L, hL⟩ : ∃ L, L = min lo 9218868437227405311 := ⟨_, rfl⟩
  have hR := rdB_of q x a lo L ha hai hlo hL
  obtain ⟨T, hT⟩ : ∃ T, T = q * 10 ^ x.toNat := ⟨_, rfl⟩
  obtain ⟨B, hB⟩ : ∃ B, B = 10 ^ (-x).toNat := ⟨_, rfl⟩
  rw [← hT, ← hB] at hR hlo HD
  have HG := hide (fun aT aB nT cT nB cB W (h1 : Big W aT nT cT T) (h2 : Big W aB nB cB B) (l1 : nT ≤ 20000) (l2 : nB ≤ 20000) => bits_gen aT aB nT cT nB cB T B W h1 h2 (by omega) (by omega) L (fun mid hm => by rw [lo_iff hlo]; omega) (by omega))
  obtain ⟨R, hRR⟩ : ∃ R, R = roundR (T * k74) B L := ⟨_, rfl⟩
  rw [← hRR] at HG hR
  obtain ⟨V, hV⟩ : ∃ V, V = rdB q x a := ⟨_, rfl⟩
  rw [← hV] at hR ⊢
  clear hlo hL hT hB hRR hV hq hai
  have HRR := hide hR
  clear hR
  go_enter Tryz.func119, Tryz.ntmps119
  go_wp2_with fail
  refine (unhide D1).mono ?_
  rintro e w1 ⟨n, hd, rfl, b1⟩
  have H2 := hide (unhide HD n w1 hd)
  have B1 := hide b1
  clear b1 hd HD D1
  generalize strOfNums (topD q n) = s at *
  go_wp2_with fail
  refine (unhide H2).mono ?_
  rintro e w2 ⟨aT, nT, cT, aB, nB, cB, rfl, g1, l1, g2, l2, b2⟩
  have H3 := hide (unhide HG aT aB nT cT nB cB w2 g1 g2 l1 l2)
  have B2 := hide ((unhide B1).trans (b2.mono (unhide B1).size))
  clear b2 g1 g2 l1 l2 H2 HG B1
  go_wp2_with fail
  refine (unhide H3).mono ?_
  rintro e w3 ⟨rfl, b3⟩
  have B3 := hide ((unhide B2).trans (b3.mono (unhide B2).size))
  clear b3 B2 H3
  by_cases hRi : R < 9218868437227405312
  · rw [decide_eq_true hRi] at HRR ⊢
    by_cases hRa : R = a
    · have hv : V = true := by rw [← unhide HRR, decide_eq_true hRa]; rfl
      subst hRa
      subst hv
      go_wp2
      go_ret
      exact ⟨rfl, unhide B3⟩
    · have hv : V = false := by rw [← unhide HRR, decide_eq_false hRa]; rfl
      have hne : ((R : Int) == (a : Int)) = false := by rw [beq_eq_false_iff_ne]; omega
      subst hv
      go_wp2
      go_ret
      exact ⟨rfl, unhide B3⟩
  · rw [decide_eq_false hRi] at HRR ⊢
    have hv : V = false := by rw [← unhide HRR]; rfl
    subst hv
    go_wp2
    go_ret
    exact ⟨rfl, unhide B3⟩
end Go.Proofs.YtechaplindbfoaaGreatDoor.mem
