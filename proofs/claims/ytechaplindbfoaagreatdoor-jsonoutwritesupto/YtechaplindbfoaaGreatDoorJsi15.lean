import Derived.Test.YtechaplindbfoaaGreatDoorJsi14
namespace Go.Proofs.YtechaplindbfoaaGreatDoor.mem
open Go.ChangeShapes Go.WideShapes Go.ChangeAt Go.RowKit
open ints (hide unhide)
set_option linter.unusedVariables false
/-- ten to the power of m is above the float a -/
def pwG (a : Nat) (m : Int) : Prop := 10 ^ (-m).toNat * vR a < 1 * 10 ^ m.toNat * k74
theorem ten_step (m : Int) : 10 * 10 ^ m.toNat * 10 ^ (-(m + 1)).toNat = 10 ^ (m + 1).toNat * 10 ^ (-m).toNat := by
  have e : 10 * 10 ^ m.toNat = 10 ^ (m.toNat + 1) := by rw [Nat.pow_succ, Nat.mul_comm]
  rw [e, ← Nat.pow_add, ← Nat.pow_add]
  congr 1
  omega
theorem pwG_succ {a : Nat} {m : Int} (h : pwG a m) : pwG a (m + 1) := by
  unfold pwG at *
  have hs := ten_step m
  have hA : 0 < 10 ^ (-m).toNat := Nat.pow_pos (by decide)
  have hA' : 0 < 10 ^ (-(m + 1)).toNat := Nat.pow_pos (by decide)
  generalize 10 ^ (-m).toNat = A at *
  generalize 10 ^ (-(m + 1)).toNat = A' at *
  generalize 10 ^ m.toNat = C at *
  generalize 10 ^ (m + 1).toNat = C' at *
  generalize vR a = v at *
  generalize k74 = k at *
  rw [Nat.one_mul] at *
  have h1 : A * v * A' < C * k * A' := Nat.mul_lt_mul_of_pos_right h hA'
  have h2 : C * k * A' ≤ C' * A * k := by
    rw [← hs, Nat.mul_right_comm C k A']
    exact Nat.mul_le_mul_right _ (Nat.mul_le_mul_right _ (by omega))
  have h3 : A' * v * A < C' * k * A := by
    rw [Nat.mul_right_comm C' k A]
    have : A' * v * A = A * v * A' := by rw [Nat.mul_comm A' v, Nat.mul_comm A v, Nat.mul_right_comm]
    omega
  exact Nat.lt_of_mul_lt_mul_right h3
theorem pwG_mono {a : Nat} {m : Int} (h : pwG a m) (j : Nat) : pwG a (m + j) := by
  induction j with
  | zero => simpa using h
  | succ j ih => have := pwG_succ ih; rw [show m + ((j + 1 : Nat) : Int) = m + (j : Int) + 1 by omega]; exact this
theorem one_dig : dig (bytesZ ⟨#[49]⟩) ∧ dT (bytesZ ⟨#[49]⟩) (⟨#[49]⟩ : ByteArray).size = 1 := by
  refine ⟨fun z hz => ?_, rfl⟩
  have : bytesZ ⟨#[49]⟩ = [49] := rfl
  rw [this] at hz
  simp at hz
  omega
def e310 : Nat := 310
def e330 : Nat := 330
theorem top310 : pwG 9218868437227405312 310 := by
  unfold pwG
  rw [show (-(310 : Int)).toNat = 0 from rfl, show (310 : Int).toNat = e310 from rfl, Nat.pow_zero]
  decide +kernel
theorem low330 (a : Nat) (ha : 0 < a) : ¬ pwG a (-330) := by
  unfold pwG
  have h1 : 1 ≤ vR a := by have := vR_mono ha; omega
  have h2 : k74 < 10 ^ e330 := by decide +kernel
  have h3 : 10 ^ e330 * 1 ≤ 10 ^ e330 * vR a := Nat.mul_le_mul_left _ h1
  have e1 : (-(-330 : Int)).toNat = e330 := rfl
  have e2 : (-330 : Int).toNat = 0 := rfl
  rw [e1, e2, Nat.pow_zero]
  omega
theorem pwG_top (a : Nat) (hai : a < 9218868437227405312) : pwG a 310 := by
  have h1 := top310
  unfold pwG at *
  have h2 := Nat.mul_le_mul_left (10 ^ (-(310 : Int)).toNat) (vR_mono_le (Nat.le_of_lt hai))
  omega
set_option maxHeartbeats 1000000 in
set_option maxRecDepth 100000 in
/-- the reference's power -/
theorem power_ok (a : Nat) (w : World) (ha : 0 < a) (hai : a < 9218868437227405312) :
    Calls Tryz.prog 116 #[.int .u64 (a : Int)] w fun e w' => ∃ p : Int, e = .returned (.int .i64 p) ∧ pwG a p ∧ ¬ pwG a (p - 1) ∧ -330 < p ∧ p ≤ 310 ∧ Below w.heap.size w w' := by
  have S1 := hide (split_any a w (by omega))
  have HD := hide (fun (x : Int) W (h0 : -10000 ≤ x) (h1 : x ≤ 10000) => dec_any ⟨#[49]⟩ 1 x W (by decide) one_dig.1 one_dig.2 (by decide) h0 h1)
  have HA := hide (fun aT aB nT cT nB cB T B W (h1 : Big W aT nT cT T) (h2 : Big W aB nB cB B) (l1 : nT ≤ 20000) (l2 : nB ≤ 20000) => against_at aT aB nT cT nB cB T B a W h1 h2 (by omega) (by omega) (by omega))
  have HT := hide (pwG_top a hai)
  have HLo := hide (low330 a ha)
  generalize hM : mantR a = M at *
  generalize hE : exR a = E at *
  clear ha hai hM hE
  go_enter Tryz.func116, Tryz.ntmps116
  go_wp2_with fail
  refine (unhide S1).mono ?_
  rintro e w1 ⟨rfl, hw⟩
  subst w1
  clear S1
  go_wp2
  go_loopw [5, 6] (fun l h wr => ∃ (x y : Int), l = .int .i64 x ∧ h = .int .i64 y ∧ -330 ≤ x ∧ x ≤ y ∧ y ≤ 310 ∧ pwG a y ∧ (x = -330 ∨ ¬ pwG a (x - 1)) ∧ Below w.heap.size w wr) (fun l h _ => (intOf h - intOf l).toNat)
  case atStart => exact ⟨-330, 310, rfl, rfl, by omega, by omega, by omega, unhide HT, Or.inl rfl, Below.refl _ _⟩
  case round =>
    obtain ⟨x, y, rfl, rfl, x0, xy, y1, gy, gx, hbel⟩ := hrel
    have GY := hide gy
    have GX := hide gx
    have HB := hide hbel
    clear gy gx hbel
    by_cases hxy : x < y
    · obtain ⟨d, hd⟩ : ∃ d : Int, d = (y - x) / 2 := ⟨_, rfl⟩
      have hd1 : (y - x).tdiv 2 = d := by rw [Int.tdiv_eq_ediv_of_nonneg (by omega)]; exact hd.symm
      have hd2 : (y - x) / 2 = d := hd.symm
      have hb1 : 0 ≤ d := by omega
      have hb2 : x + d < y := by omega
      have D1 := hide (unhide HD (x + d) wr (by omega) (by omega))
      clear hd
      go_wp2_with fail
      refine (unhide D1).mono ?_
      rintro e w2 ⟨aT, nT, cT, aB, nB, cB, rfl, g1, l1, g2, l2, b2⟩
      have A1 := hide (unhide HA aT aB nT cT nB cB _ _ w2 g1 g2 l1 l2)
      have hcm := cmpN_iff (1 * 10 ^ (x + d).toNat * k74) (10 ^ (-(x + d)).toNat * vR a)
      obtain ⟨cc, hcc⟩ : ∃ cc, cc = cmpN (1 * 10 ^ (x + d).toNat * k74) (10 ^ (-(x + d)).toNat * vR a) := ⟨_, rfl⟩
      rw [← hcc] at hcm A1
      have hci := hide (show cc = 1 ↔ pwG a (x + d) from hcm.2.1)
      have hcb := hcm.2.2.2.2
      have B2 := hide ((unhide HB).trans (b2.mono (unhide HB).size))
      clear hcc hcm g1 g2 l1 l2 b2 D1 HB
      go_wp2_with fail
      refine (unhide A1).mono ?_
      rintro e w3 ⟨rfl, b3⟩
      have B3 := hide ((unhide B2).trans (b3.mono (unhide B2).size))
      clear b3 B2 A1
      by_cases hc : cc = 1
      · have hg := hide ((unhide hci).1 hc)
        have hc0 : 0 < cc := by omega
        clear hci hc
        go_wp2
        go_roundw
        case rel => exact ⟨x, x + d, rfl, rfl, x0, by omega, by omega, unhide hg, unhide GX, unhide B3⟩
        case measure => simp [intOf]; omega
      · have hg := hide (fun h => hc ((unhide hci).2 h))
        have hc0 : ¬ 0 < cc := by omega
        clear hci hc
        go_wp2
        go_roundw
        case rel => exact ⟨x + d + 1, y, by go_num, rfl, by omega, by omega, by omega, unhide GY, Or.inr (by rw [show x + d + 1 - 1 = x + d by omega]; exact unhide hg), unhide B3⟩
        case measure => simp [intOf]; omega
    · have e : y = x := by omega
      subst e
      go_wp2
      go_ret
      refine ⟨_, rfl, unhide GY, ?_, ?_, by omega, unhide HB⟩
      · rcases unhide GX with h | h
        · exfalso
          rw [h] at GY
          exact unhide HLo (unhide GY)
        · exact h
      · rcases Int.lt_or_le (-330) y with h | h
        · exact h
        · exfalso
          have : y = -330 := by omega
          rw [this] at GY
          exact unhide HLo (unhide GY)
end Go.Proofs.YtechaplindbfoaaGreatDoor.mem
