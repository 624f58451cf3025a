import Derived.Test.YtdfdicgfldcngaaSplR
namespace Go.Proofs.Ytdfdicgfldcngaa.mem
open Go.ChangeShapes Go.WideShapes Go.ChangeAt Go.RowKit
open ints (hide unhide)
set_option linter.unusedVariables false

/-- Is the float with the sign ng and the rung r a whole number within int64, and which? -/
def okW (ng : Bool) (r : Nat) : Bool := decide (r < 9218868437227405312 ∧ vR r % k74 = 0 ∧ (if ng then vR r / k74 ≤ 9223372036854775808 else vR r / k74 < 9223372036854775808))
def valW (ng : Bool) (r : Nat) : Int := if ng then -((vR r / k74 : Nat) : Int) else ((vR r / k74 : Nat) : Int)
theorem k74_pos : 0 < k74 := by unfold k74; exact Nat.two_pow_pos _
theorem k74_split {E : Nat} (h : E ≤ 1074) : k74 = 2 ^ E * 2 ^ (1074 - E) := by
  unfold k74
  rw [← Nat.pow_add, show E + (1074 - E) = 52 + e22 from by rw [e22_eq]; omega]
theorem odd_no {M E V : Nat} (hV : M * 2 ^ E = V) (hM : M % 2 = 1) (hE : E < 1074) : V % k74 ≠ 0 := by
  intro h
  obtain ⟨q, hq⟩ := Nat.dvd_of_mod_eq_zero h
  rw [← hV, k74_split (E := E) (by omega), Nat.mul_assoc, Nat.mul_comm M] at hq
  have h2 := Nat.eq_of_mul_eq_mul_left (Nat.two_pow_pos E) hq
  rw [show 1074 - E = (1074 - E - 1) + 1 by omega, Nat.pow_succ] at h2
  have : M = 2 * (2 ^ (1074 - E - 1) * q) := by rw [h2, Nat.mul_comm _ 2, Nat.mul_assoc]
  omega
theorem big_no {M E V : Nat} (hV : M * 2 ^ E = V) (hM : 9223372036854775808 ≤ M) (hE : 1074 < E) : 18446744073709551616 ≤ V / k74 := by
  rw [Nat.le_div_iff_mul_le k74_pos, ← hV]
  have e : 2 ^ E = 2 ^ (E - 1074 - 1) * 2 * k74 := by
    unfold k74
    rw [← Nat.pow_succ, ← Nat.pow_add, show (E - 1074 - 1).succ + (52 + e22) = E from by rw [e22_eq]; omega]
  rw [e, ← Nat.mul_assoc]
  refine Nat.mul_le_mul_right _ ?_
  have h1 := Nat.two_pow_pos (E - 1074 - 1)
  have h2 : 1 * 2 ≤ 2 ^ (E - 1074 - 1) * 2 := Nat.mul_le_mul_right _ h1
  have h3 := Nat.mul_le_mul hM h2
  omega
theorem whole_end {M E V : Nat} (hV : M * 2 ^ E = V) (h : M = 0 ∨ E = 1074) : V % k74 = 0 ∧ V / k74 = M := by
  rcases h with rfl | h
  · rw [Nat.zero_mul] at hV
    rw [← hV]; simp
  · have : 2 ^ E = k74 := by unfold k74; rw [show E = 52 + e22 from by rw [e22_eq]; omega]
    rw [this] at hV
    rw [← hV]
    exact ⟨Nat.mul_mod_left _ _, Nat.mul_div_cancel _ k74_pos⟩
theorem andSign (b : Nat) (h : b < 18446744073709551616) : (bits .and .u64 (b : Int) 9223372036854775808 != 0) = decide (9223372036854775808 ≤ b) := by
  have := u64_and_nat b 9223372036854775808 (by omega) (by omega)
  rw [nat_bit63] at this
  rw [show ((9223372036854775808 : Nat) : Int) = 9223372036854775808 from rfl] at this
  rw [this]
  by_cases hb : 9223372036854775808 ≤ b
  · rw [decide_eq_true hb]
    have : b / 9223372036854775808 % 2 = 1 := by omega
    rw [this]; rfl
  · rw [decide_eq_false hb]
    have : b / 9223372036854775808 % 2 = 0 := by omega
    rw [this]; rfl
theorem andNotSign (b : Nat) (h : b < 18446744073709551616) : bits .andNot .u64 (b : Int) 9223372036854775808 = ((b % 9223372036854775808 : Nat) : Int) := by
  have := u64_andNot_nat b 9223372036854775808 (by omega) (by omega)
  rw [show 18446744073709551615 - 9223372036854775808 = 9223372036854775807 from rfl, nat_mask63] at this
  exact this
set_option maxRecDepth 4000 in
set_option maxHeartbeats 2000000 in
theorem wholeBits_any (b : Nat) (w : World) (hb : b < 18446744073709551616) (ng : Bool) (r : Nat) (hng : ng = decide (9223372036854775808 ≤ b)) (hr : r = b % 9223372036854775808) :
    Calls Try.prog 12 #[.int .u64 (b : Int)] w fun e w' => (∃ v : Int, e = .returned (.tuple #[.int .i64 v, .bool (okW ng r)]) ∧ (okW ng r = true → v = valW ng r)) ∧ Below w.heap.size w w' := by
  have e1 := andSign b hb
  have e2 := andNotSign b hb
  rw [← hng] at e1
  rw [← hr] at e2
  have hrl : r < 9223372036854775808 := by omega
  clear hng hr
  by_cases hin : r < 9218868437227405312
  · have hini : ¬ (9218868437227405312 : Int) ≤ (r : Int) := by omega
    have SP := hide (fun W => split_any r W hrl)
    have hV0 : mantR r * 2 ^ exR r = vR r := rfl
    have hm0 : mantR r < 9007199254740992 := by unfold mantR b52; split; omega; have := Nat.mod_lt r (show 4503599627370496 > 0 by decide); omega
    have he0 : exR r ≤ 2047 := by unfold exR b52; omega
    have HOK := hide (show okW ng r = decide (vR r % k74 = 0 ∧ (if ng then vR r / k74 ≤ 9223372036854775808 else vR r / k74 < 9223372036854775808)) from by unfold okW; simp only [hin, true_and])
    have HVA := hide (show valW ng r = if ng then -((vR r / k74 : Nat) : Int) else ((vR r / k74 : Nat) : Int) from rfl)
    generalize mantR r = m0 at *
    generalize exR r = x0 at *
    have HV0 := hide hV0
    go_enter Try.func12, Try.ntmps12
    go_wp2_with fail
    refine (unhide SP w).mono ?_
    rintro e w1 ⟨rfl, rfl⟩
    clear hV0 SP
    go_wp2
    go_loopw [6, 7] (fun m e wr => ∃ (M E : Nat), m = .int .u64 M ∧ e = .int .i64 ((E : Int) - 1074) ∧ M < 9007199254740992 ∧ E ≤ 2047 ∧ Hid (M * 2 ^ E = vR r) ∧ Below w1.heap.size w1 wr) (fun _ e _ => (-(intOf e)).toNat)
    case atStart => exact ⟨m0, x0, rfl, rfl, hm0, he0, HV0, Below.refl _ _⟩
    case round =>
      obtain ⟨M, E, rfl, rfl, hM, hE, HV, hbel⟩ := hrel
      clear HV0 hm0 he0
      by_cases hgo : E < 1074 ∧ 0 < M
      · obtain ⟨hE1, hM1⟩ := hgo
        have g1 : (E : Int) - 1074 < 0 := by omega
        have g2 : (0 : Int) < (M : Int) := by omega
        by_cases hodd : M % 2 = 1
        · have ho : (M : Int) % 2 = 1 := by omega
          have HF := hide (show okW ng r = false from by
            rw [unhide HOK, decide_eq_false_iff_not]
            rintro ⟨h1, _⟩
            exact odd_no (unhide HV) hodd hE1 h1)
          go_wp2
          go_ret2
          exact ⟨⟨0, by rw [unhide HF]; rfl, fun h => by rw [unhide HF] at h; cases h⟩, hbel⟩
        · have ho : (M : Int) % 2 = 0 := by omega
          have HN := hide (show M / 2 * 2 ^ (E + 1) = vR r from by
            rw [← unhide HV, Nat.pow_succ, Nat.mul_comm (2 ^ E) 2, ← Nat.mul_assoc, show M / 2 * 2 = M by omega])
          go_wp2
          go_roundw
          case rel => exact ⟨M / 2, E + 1, by go_num, by go_num, by omega, by omega, hide (unhide HN), hbel⟩
          case measure => simp [intOf]; omega
      · have HV9 := hide (show M * 2 ^ ((E : Int) - 1074 + 1074).toNat = vR r from by rw [show ((E : Int) - 1074 + 1074).toNat = E by omega]; exact unhide HV)
        by_cases hE1 : E < 1074
        · have g1 : (E : Int) - 1074 < 0 := by omega
          obtain rfl : M = 0 := by omega
          clear hgo
          go_wp2
          go_loopw [6, 7] (fun m e wr => ∃ (M : Nat) (x : Int), m = .int .u64 M ∧ e = .int .i64 x ∧ M < 18446744073709551616 ∧ x ≤ 1000 ∧ -2000 ≤ x ∧ Hid (M = 0 ∨ 0 ≤ x) ∧ Hid (M * 2 ^ (x + 1074).toNat = vR r) ∧ Below w1.heap.size w1 wr) (fun _ e _ => (intOf e).toNat)
          case atStart => exact ⟨0, (E : Int) - 1074, rfl, rfl, by omega, by omega, by omega, hide (.inl rfl), hide (unhide HV9), hbel⟩
          case round =>
            clear HV HV9 hbel hE g1 hE1
            obtain ⟨M, x, rfl, rfl, hM, hx1, hx2, hME, HV, hbel⟩ := hrel
            by_cases hgo : 0 < x ∧ 0 < M
            · obtain ⟨hxp, hM1⟩ := hgo
              have g2 : (0 : Int) < (M : Int) := by omega
              obtain ⟨E, hEx⟩ : ∃ E : Nat, E = (x + 1074).toNat := ⟨_, rfl⟩
              rw [← hEx] at HV
              have HEX := hide hEx
              clear hEx
              by_cases hbig : 9223372036854775808 ≤ M
              · have g3 : (9223372036854775808 : Int) ≤ (M : Int) := by omega
                have HF := hide (show okW ng r = false from by
                  rw [unhide HOK, decide_eq_false_iff_not]
                  rintro ⟨_, h2⟩
                  have := big_no (unhide HV) hbig (by have := unhide HEX; omega)
                  cases ng
                  · simp at h2; omega
                  · simp at h2; omega)
                clear hbig
                go_wp2
                go_ret2
                exact ⟨⟨0, by rw [unhide HF]; rfl, fun h => by rw [unhide HF] at h; cases h⟩, hbel⟩
              · have g3 : ¬ (9223372036854775808 : Int) ≤ (M : Int) := by omega
                have HN := hide (show M * 2 * 2 ^ (x - 1 + 1074).toNat = vR r from by
                  rw [← unhide HV, Nat.mul_assoc, Nat.mul_comm 2, ← Nat.pow_succ, show (x - 1 + 1074).toNat.succ = E by have := unhide HEX; omega])
                clear hbig
                go_wp2
                go_roundw
                case rel => exact ⟨M * 2, x - 1, by go_num, by go_num, by omega, by omega, by omega, hide (.inr (by omega)), hide (unhide HN), hbel⟩
                case measure => simp [intOf]; omega
            · obtain ⟨q1, q2⟩ := whole_end (unhide HV) (by have := unhide hME; omega)
              have HO2 := hide (show okW ng r = decide (if ng then M ≤ 9223372036854775808 else M < 9223372036854775808) from by rw [unhide HOK, q2]; simp [q1])
              have HV2 := hide (show valW ng r = if ng then -(M : Int) else (M : Int) from by rw [unhide HVA, q2])
              clear q1 q2 HOK HVA HV
              by_cases hxp : 0 < x
              · obtain rfl : M = 0 := by omega
                clear hgo
                cases ng
                · have HF := hide (show okW false r = true from by rw [unhide HO2]; rfl)
                  go_wp2
                  go_ret2
                  exact ⟨⟨0, by rw [unhide HF]; rfl, fun h => (unhide HV2).symm⟩, hbel⟩
                · have HF := hide (show okW true r = true from by rw [unhide HO2]; rfl)
                  go_wp2
                  go_ret2
                  exact ⟨⟨0, by rw [unhide HF]; rfl, fun h => (unhide HV2).symm⟩, hbel⟩
              · clear hgo
                cases ng
                · by_cases hbig : 9223372036854775808 ≤ M
                  · have g3 : (9223372036854775808 : Int) ≤ (M : Int) := by omega
                    have HF := hide (show okW false r = false from by rw [unhide HO2]; simpa using hbig)
                    clear hbig
                    go_wp2
                    go_ret2
                    exact ⟨⟨0, by rw [unhide HF]; rfl, fun h => by rw [unhide HF] at h; cases h⟩, hbel⟩
                  · have g3 : ¬ (9223372036854775808 : Int) ≤ (M : Int) := by omega
                    have HF := hide (show okW false r = true from by rw [unhide HO2]; simp; omega)
                    clear hbig
                    go_wp2
                    go_ret2
                    exact ⟨⟨(M : Int), by rw [unhide HF]; rfl, fun h => (unhide HV2).symm⟩, hbel⟩
                · have hd := hide (show decide ((M : Int) ≤ 9223372036854775808) = okW true r from by rw [unhide HO2]; exact decide_eq_decide.2 (by simp; omega))
                  go_wp2
                  go_ret2
                  refine ⟨⟨_, by rw [← unhide hd]; rfl, fun h => ?_⟩, hbel⟩
                  rw [unhide HV2]
                  simp only [if_true]
                  rw [← unhide hd] at h
                  have := of_decide_eq_true h
                  show wrap64 (-(wrap64 (M : Int))) = _
                  unfold wrap64
                  omega
        · have g1 : ¬ (E : Int) - 1074 < 0 := by omega
          clear hgo
          go_wp2
          go_loopw [6, 7] (fun m e wr => ∃ (M : Nat) (x : Int), m = .int .u64 M ∧ e = .int .i64 x ∧ M < 18446744073709551616 ∧ x ≤ 1000 ∧ -2000 ≤ x ∧ Hid (M = 0 ∨ 0 ≤ x) ∧ Hid (M * 2 ^ (x + 1074).toNat = vR r) ∧ Below w1.heap.size w1 wr) (fun _ e _ => (intOf e).toNat)
          case atStart => exact ⟨M, (E : Int) - 1074, rfl, rfl, by omega, by omega, by omega, hide (.inr (by omega)), hide (unhide HV9), hbel⟩
          case round =>
            clear HV HV9 hbel hE g1 hE1 hM
            obtain ⟨M, x, rfl, rfl, hM, hx1, hx2, hME, HV, hbel⟩ := hrel
            by_cases hgo : 0 < x ∧ 0 < M
            · obtain ⟨hxp, hM1⟩ := hgo
              have g2 : (0 : Int) < (M : Int) := by omega
              obtain ⟨E, hEx⟩ : ∃ E : Nat, E = (x + 1074).toNat := ⟨_, rfl⟩
              rw [← hEx] at HV
              have HEX := hide hEx
              clear hEx
              by_cases hbig : 9223372036854775808 ≤ M
              · have g3 : (9223372036854775808 : Int) ≤ (M : Int) := by omega
                have HF := hide (show okW ng r = false from by
                  rw [unhide HOK, decide_eq_false_iff_not]
                  rintro ⟨_, h2⟩
                  have := big_no (unhide HV) hbig (by have := unhide HEX; omega)
                  cases ng
                  · simp at h2; omega
                  · simp at h2; omega)
                clear hbig
                go_wp2
                go_ret2
                exact ⟨⟨0, by rw [unhide HF]; rfl, fun h => by rw [unhide HF] at h; cases h⟩, hbel⟩
              · have g3 : ¬ (9223372036854775808 : Int) ≤ (M : Int) := by omega
                have HN := hide (show M * 2 * 2 ^ (x - 1 + 1074).toNat = vR r from by
                  rw [← unhide HV, Nat.mul_assoc, Nat.mul_comm 2, ← Nat.pow_succ, show (x - 1 + 1074).toNat.succ = E by have := unhide HEX; omega])
                clear hbig
                go_wp2
                go_roundw
                case rel => exact ⟨M * 2, x - 1, by go_num, by go_num, by omega, by omega, by omega, hide (.inr (by omega)), hide (unhide HN), hbel⟩
                case measure => simp [intOf]; omega
            · obtain ⟨q1, q2⟩ := whole_end (unhide HV) (by have := unhide hME; omega)
              have HO2 := hide (show okW ng r = decide (if ng then M ≤ 9223372036854775808 else M < 9223372036854775808) from by rw [unhide HOK, q2]; simp [q1])
              have HV2 := hide (show valW ng r = if ng then -(M : Int) else (M : Int) from by rw [unhide HVA, q2])
              clear q1 q2 HOK HVA HV
              by_cases hxp : 0 < x
              · obtain rfl : M = 0 := by omega
                clear hgo
                cases ng
                · have HF := hide (show okW false r = true from by rw [unhide HO2]; rfl)
                  go_wp2
                  go_ret2
                  exact ⟨⟨0, by rw [unhide HF]; rfl, fun h => (unhide HV2).symm⟩, hbel⟩
                · have HF := hide (show okW true r = true from by rw [unhide HO2]; rfl)
                  go_wp2
                  go_ret2
                  exact ⟨⟨0, by rw [unhide HF]; rfl, fun h => (unhide HV2).symm⟩, hbel⟩
              · clear hgo
                cases ng
                · by_cases hbig : 9223372036854775808 ≤ M
                  · have g3 : (9223372036854775808 : Int) ≤ (M : Int) := by omega
                    have HF := hide (show okW false r = false from by rw [unhide HO2]; simpa using hbig)
                    clear hbig
                    go_wp2
                    go_ret2
                    exact ⟨⟨0, by rw [unhide HF]; rfl, fun h => by rw [unhide HF] at h; cases h⟩, hbel⟩
                  · have g3 : ¬ (9223372036854775808 : Int) ≤ (M : Int) := by omega
                    have HF := hide (show okW false r = true from by rw [unhide HO2]; simp; omega)
                    clear hbig
                    go_wp2
                    go_ret2
                    exact ⟨⟨(M : Int), by rw [unhide HF]; rfl, fun h => (unhide HV2).symm⟩, hbel⟩
                · have hd := hide (show decide ((M : Int) ≤ 9223372036854775808) = okW true r from by rw [unhide HO2]; exact decide_eq_decide.2 (by simp; omega))
                  go_wp2
                  go_ret2
                  refine ⟨⟨_, by rw [← unhide hd]; rfl, fun h => ?_⟩, hbel⟩
                  rw [unhide HV2]
                  simp only [if_true]
                  rw [← unhide hd] at h
                  have := of_decide_eq_true h
                  show wrap64 (-(wrap64 (M : Int))) = _
                  unfold wrap64
                  omega
  · have hini : (9218868437227405312 : Int) ≤ (r : Int) := by omega
    have HF := hide (show okW ng r = false from by unfold okW; simp [hin])
    go_enter Try.func12, Try.ntmps12
    go_wp2
    go_ret2
    exact ⟨⟨0, by rw [unhide HF]; rfl, fun h => by rw [unhide HF] at h; cases h⟩, Below.refl _ _⟩
end Go.Proofs.Ytdfdicgfldcngaa.mem
