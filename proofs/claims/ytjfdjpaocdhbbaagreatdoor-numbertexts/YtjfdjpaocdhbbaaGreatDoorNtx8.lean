import Derived.Test.YtjfdjpaocdhbbaaGreatDoorNtx6
import Derived.Test.YtjfdjpaocdhbbaaGreatDoorNtx7
namespace Go.Proofs.YtjfdjpaocdhbbaaGreatDoor.mem
open Go.ChangeShapes Go.WideShapes Go.ChangeAt Go.RowKit
open ints (hide unhide)
set_option linter.unusedVariables false

theorem cmpN_mul (a b k : Nat) (hk : 0 < k) : cmpN (a * k) (b * k) = cmpN a b := by
  unfold cmpN
  simp only [Nat.mul_lt_mul_right hk]
theorem mantR_lt (r : Nat) : mantR r < 9007199254740992 := by
  unfold mantR b52
  split
  · omega
  · have := Nat.mod_lt r (show 4503599627370496 > 0 by decide)
    omega
/-- against, at a float's own bits: the decimal held against the float (in units of the least one). -/
theorem against_at (aT aB : Option Addr) (nT cT nB cB T B r : Nat) (w : World) (hT : Big w aT nT cT T) (hB : Big w aB nB cB B) (hnT : nT ≤ 50000) (hnB : nB ≤ 50000) (hr : r < 9223372036854775808) :
    Calls Tryz.prog 41 #[.agg #[.slice aT nT cT, .slice aB nB cB], .int .u64 (mantR r : Nat), .int .i64 ((exR r : Int) - 1074)] w fun x w' => x = .returned (.int .i64 (cmpN (T * k74) (B * vR r))) ∧ Below w.heap.size w w' := by
  have hm := mantR_lt r
  have he : exR r ≤ 2047 := by unfold exR b52; omega
  by_cases h : 1074 ≤ exR r
  · have e1 : (exR r : Int) - 1074 = ((exR r - 1074 : Nat) : Int) := by omega
    rw [e1]
    refine (against_pos aT aB nT cT nB cB T B (mantR r) (exR r - 1074) w hT hB (by omega) (by omega) (by omega) (by omega)).mono ?_
    rintro x w' ⟨rfl, b⟩
    refine ⟨?_, b⟩
    have e2 : B * vR r = B * mantR r * 2 ^ (exR r - 1074) * k74 := by
      unfold vR k74
      rw [Nat.mul_assoc (B * mantR r), ← Nat.pow_add, show exR r - 1074 + (52 + e22) = exR r from by rw [e22_eq]; omega, Nat.mul_assoc]
    rw [e2, cmpN_mul _ _ _ (by unfold k74; exact Nat.two_pow_pos _)]
  · have e1 : (exR r : Int) - 1074 = -((1074 - exR r : Nat) : Int) := by omega
    rw [e1]
    refine (against_neg aT aB nT cT nB cB T B (mantR r) (1074 - exR r) w hT hB (by omega) (by omega) (by omega) (by omega) (by omega)).mono ?_
    rintro x w' ⟨rfl, b⟩
    refine ⟨?_, b⟩
    have e2 : T * k74 = T * 2 ^ (1074 - exR r) * 2 ^ exR r := by
      unfold k74
      rw [Nat.mul_assoc, ← Nat.pow_add, show 1074 - exR r + exR r = 52 + e22 from by rw [e22_eq]; omega]
    have e3 : B * vR r = B * mantR r * 2 ^ exR r := by unfold vR; rw [Nat.mul_assoc]
    rw [e2, e3, cmpN_mul _ _ _ (Nat.two_pow_pos _)]
/-- .. and at the middle between a float and the next. -/
theorem against_half (aT aB : Option Addr) (nT cT nB cB T B r : Nat) (w : World) (hT : Big w aT nT cT T) (hB : Big w aB nB cB B) (hnT : nT ≤ 50000) (hnB : nB ≤ 50000) (hr : r < 9223372036854775808) :
    Calls Tryz.prog 41 #[.agg #[.slice aT nT cT, .slice aB nB cB], .int .u64 ((2 * mantR r + 1 : Nat) : Int), .int .i64 ((exR r : Int) - 1075)] w fun x w' => x = .returned (.int .i64 (cmpN (2 * (T * k74)) (B * (2 * vR r + 2 ^ exR r)))) ∧ Below w.heap.size w w' := by
  have hm := mantR_lt r
  have he : exR r ≤ 2047 := by unfold exR b52; omega
  have e5 : B * (2 * vR r + 2 ^ exR r) = B * (2 * mantR r + 1) * 2 ^ exR r := by
    unfold vR
    rw [Nat.mul_assoc B, Nat.add_mul (2 * mantR r), Nat.one_mul, Nat.mul_assoc 2]
  by_cases h : 1075 ≤ exR r
  · have e1 : (exR r : Int) - 1075 = ((exR r - 1075 : Nat) : Int) := by omega
    rw [e1]
    refine (against_pos aT aB nT cT nB cB T B (2 * mantR r + 1) (exR r - 1075) w hT hB (by omega) (by omega) (by omega) (by omega)).mono ?_
    rintro x w' ⟨rfl, b⟩
    refine ⟨?_, b⟩
    have e2 : 2 * (T * k74) = T * 2 ^ (52 + e22 + 1) := by
      have : 2 ^ (52 + e22 + 1) = k74 * 2 := by unfold k74; rw [← Nat.pow_succ]
      rw [this, ← Nat.mul_assoc T k74 2, Nat.mul_comm 2]
    have e3 : B * (2 * mantR r + 1) * 2 ^ exR r = B * (2 * mantR r + 1) * 2 ^ (exR r - 1075) * 2 ^ (52 + e22 + 1) := by
      rw [Nat.mul_assoc _ (2 ^ (exR r - 1075)), ← Nat.pow_add, show exR r - 1075 + (52 + e22 + 1) = exR r from by rw [e22_eq]; omega]
    rw [e5, e2, e3, cmpN_mul _ _ _ (Nat.two_pow_pos _)]
  · have e1 : (exR r : Int) - 1075 = -((1075 - exR r : Nat) : Int) := by omega
    rw [e1]
    refine (against_neg aT aB nT cT nB cB T B (2 * mantR r + 1) (1075 - exR r) w hT hB (by omega) (by omega) (by omega) (by omega) (by omega)).mono ?_
    rintro x w' ⟨rfl, b⟩
    refine ⟨?_, b⟩
    have e2 : 2 * (T * k74) = T * 2 ^ (1075 - exR r) * 2 ^ exR r := by
      have : 2 ^ (1075 - exR r) * 2 ^ exR r = k74 * 2 := by unfold k74; rw [← Nat.pow_add, ← Nat.pow_succ, show 1075 - exR r + exR r = 52 + e22 + 1 from by rw [e22_eq]; omega]
      rw [Nat.mul_assoc, this, ← Nat.mul_assoc T, Nat.mul_comm 2]
    rw [e5, e2, cmpN_mul _ _ _ (Nat.two_pow_pos _)]
theorem lo_iff {P B lo mid : Nat} (h : Lo P B lo) : B * vR mid ≤ P ↔ mid ≤ lo := by
  constructor
  · intro h1
    rcases Nat.lt_or_ge lo mid with h2 | h2
    · have h3 := Nat.mul_le_mul_left B (vR_mono_le (show lo + 1 ≤ mid from h2))
      have := h.2
      omega
    · exact h2
  · intro h1
    exact Nat.le_trans (Nat.mul_le_mul_left B (vR_mono_le h1)) h.1
theorem mantR_odd (r : Nat) : mantR r % 2 = r % 2 := by
  unfold mantR b52
  split <;> omega
theorem splitq (r : Nat) (q : Int) (hq : q = (r : Int)) (w : World) (h : r < 9223372036854775808) :
    Calls Tryz.prog 38 #[.int .u64 q] w fun e w' => e = .returned (.tuple #[.int .u64 (mantR r : Nat), .int .i64 ((exR r : Int) - 1074)]) ∧ w' = w := by
  subst hq; exact split_any r w h
theorem halfq (aT aB : Option Addr) (nT cT nB cB T B r : Nat) (q e : Int) (hq : q = ((2 * mantR r + 1 : Nat) : Int)) (he : e = (exR r : Int) - 1075) (w : World) (hT : Big w aT nT cT T) (hB : Big w aB nB cB B) (hnT : nT ≤ 50000) (hnB : nB ≤ 50000) (hr : r < 9223372036854775808) :
    Calls Tryz.prog 41 #[.agg #[.slice aT nT cT, .slice aB nB cB], .int .u64 q, .int .i64 e] w fun x w' => x = .returned (.int .i64 (cmpN (2 * (T * k74)) (B * (2 * vR r + 2 ^ exR r)))) ∧ Below w.heap.size w w' := by
  subst hq he; exact against_half aT aB nT cT nB cB T B r w hT hB hnT hnB hr
set_option maxRecDepth 4000 in
set_option maxHeartbeats 2000000 in
theorem bits_any (aT aB : Option Addr) (nT cT nB cB T B : Nat) (w : World) (hT : Big w aT nT cT T) (hB : Big w aB nB cB B) (hnT : nT ≤ 50000) (hnB : nB ≤ 50000) (lo : Nat) (hlo : Lo (T * k74) B lo) (hl : lo < 9218868437227405312) :
    Calls Tryz.prog 69 #[.agg #[.slice aT nT cT, .slice aB nB cB]] w fun x w' => x = .returned (.tuple #[.int .u64 (roundR (T * k74) B lo : Nat), .bool (decide (roundR (T * k74) B lo < 9218868437227405312))]) ∧ Below w.heap.size w w' := by
  obtain ⟨W1, HW⟩ : ∃ W1, W1 = w.alloc (.cells #[.slice aT nT cT, .slice aB nB cB] 74) := ⟨_, rfl⟩
  have BW : Below w.heap.size w W1 := by rw [HW]; exact (Below.refl _ _).alloc (Nat.le_refl _) _
  have k0 : W1.cell? ⟨w.heap.size, 0, none⟩ = some (.slice aT nT cT) := by rw [HW]; simp
  have k1 : W1.cell? ⟨w.heap.size, 1, none⟩ = some (.slice aB nB cB) := by rw [HW]; simp
  have hs1 : W1.heap.size = w.heap.size + 1 := by rw [HW]; simp
  have HK := hide (show ∀ w', Below (w.heap.size + 1) W1 w' → (w'.cell? ⟨w.heap.size, 0, none⟩ = some (.slice aT nT cT) ∧ w'.cell? ⟨w.heap.size, 1, none⟩ = some (.slice aB nB cB)) ∧ Big w' aT nT cT T ∧ Big w' aB nB cB B ∧ Below w.heap.size w w' ∧ w.heap.size + 1 ≤ w'.heap.size from fun w' h =>
    ⟨⟨(h.cell (by simp)).trans k0, (h.cell (by simp)).trans k1⟩, hT.below (BW.trans (h.mono (by omega))), hB.below (BW.trans (h.mono (by omega))), BW.trans (h.mono (by omega)), by have := h.size; omega⟩)
  have H0 := hide (show Below (w.heap.size + 1) W1 (w.alloc (.cells #[.slice aT nT cT, .slice aB nB cB] 74)) from by rw [← HW]; exact Below.refl _ _)
  clear HW k0 k1 BW
  go_enter Tryz.func69, Tryz.ntmps69
  go_wp2
  go_loopw [4, 5] (fun l h wr => ∃ (a b : Nat), l = .int .u64 a ∧ h = .int .u64 b ∧ a ≤ lo ∧ lo ≤ b ∧ b ≤ 9218868437227405311 ∧ Below (w.heap.size + 1) W1 wr) (fun l h _ => (intOf h - intOf l).toNat)
  case atStart => exact ⟨0, 9218868437227405311, rfl, rfl, Nat.zero_le _, by omega, by omega, unhide H0⟩
  case round =>
    obtain ⟨a, b, rfl, rfl, ha, hb, hb2, hbel⟩ := hrel
    obtain ⟨⟨c0, c1⟩, rT, rB, bw, sz⟩ := unhide HK wr hbel
    by_cases hab : a < b
    · have hai : (a : Int) < (b : Int) := by omega
      have hbi : (b : Int) ≤ 9218868437227405311 := by omega
      obtain ⟨mid, hmid⟩ : ∃ mid, mid = a + (b - a + 1) / 2 := ⟨_, rfl⟩
      have hm1 : a < mid := by omega
      have hm2 : mid ≤ b := by omega
      have hme : (a : Int) + ((b : Int) - (a : Int) + 1) / 2 = (mid : Int) := by omega
      clear hmid
      go_wp2_with fail
      refine (splitq mid _ (by omega) wr (by omega)).mono ?_
      rintro e w1 ⟨rfl, rfl⟩
      have A := hide (against_at aT aB nT cT nB cB T B mid w1 rT rB hnT hnB (by omega))
      have hcm := cmpN_iff (T * k74) (B * vR mid)
      have HI := hide (lo_iff (mid := mid) hlo)
      obtain ⟨c, hc⟩ : ∃ c, c = cmpN (T * k74) (B * vR mid) := ⟨_, rfl⟩
      rw [← hc] at hcm A
      have hci : 0 ≤ c ↔ mid ≤ lo := by rw [hcm.2.2.2.1]; exact unhide HI
      have hcb := hcm.2.2.2.2
      clear hc hcm HI
      generalize mantR mid = M at *
      generalize exR mid = E at *
      go_wp2_with fail
      refine (unhide A).mono ?_
      rintro e w2 ⟨rfl, b2⟩
      have hbel2 := hbel.trans (b2.mono sz)
      clear A rT rB c0 c1 bw b2
      by_cases hc0 : 0 ≤ c
      · have hml := hci.1 hc0
        clear hci
        go_wp2
        go_roundw
        case rel => exact ⟨mid, b, by go_num, rfl, hml, hb, hb2, hbel2⟩
        case measure => simp [intOf]; omega
      · have hml : lo < mid := by
          rcases Nat.lt_or_ge lo mid with h2 | h2
          · exact h2
          · exact absurd (hci.2 h2) hc0
        clear hci
        go_wp2
        go_roundw
        case rel => exact ⟨a, mid - 1, rfl, by go_num, ha, by omega, by omega, hbel2⟩
        case measure => simp [intOf]; omega
    · have hai : ¬ (a : Int) < (b : Int) := by omega
      have eab : lo = a := by omega
      have ebb : b = a := by omega
      subst eab
      subst ebb
      obtain ⟨P, hP⟩ : ∃ P, P = T * k74 := ⟨_, rfl⟩
      have HR := hide (show roundR P B b = if B * (2 * vR b + 2 ^ exR b) < 2 * P ∨ (2 * P = B * (2 * vR b + 2 ^ exR b) ∧ b % 2 = 1) then b + 1 else b from rfl)
      have A := hide (fun q e hq he => halfq aT aB nT cT nB cB T B b q e hq he wr rT rB hnT hnB (by omega))
      rw [← hP] at A
      have hmt := mantR_lt b
      have hod := mantR_odd b
      have hxr : exR b ≤ 2047 := by unfold exR b52; omega
      have hcm := cmpN_iff (2 * P) (B * (2 * vR b + 2 ^ exR b))
      obtain ⟨Y, hY⟩ : ∃ Y, Y = B * (2 * vR b + 2 ^ exR b) := ⟨_, rfl⟩
      rw [← hY] at HR A hcm
      obtain ⟨c, hc⟩ : ∃ c, c = cmpN (2 * P) Y := ⟨_, rfl⟩
      rw [← hc] at hcm A
      obtain ⟨q1, q2, q3, q4, q5, q6⟩ := hcm
      have HRR := hide (show roundR (T * k74) B b = if c = 1 ∨ (c = 0 ∧ b % 2 = 1) then b + 1 else b from by
        rw [← hP, unhide HR]
        simp only [q2, q3])
      clear hY hc hP q1 q2 q3 q4 hlo HR H0
      have HOD := hide hod
      clear hod
      go_wp2_with fail
      refine (splitq b _ rfl wr (by omega)).mono ?_
      rintro e w1 ⟨rfl, rfl⟩
      generalize mantR b = M at *
      generalize exR b = E at *
      go_wp2_with fail
      refine (unhide A _ _ (by omega) (by omega)).mono ?_
      rintro e w2 ⟨rfl, b2⟩
      have bw2 := bw.trans (b2.mono bw.size)
      clear A rT rB c0 c1 bw b2
      have hMi : (M : Int) % 2 = ((b % 2 : Nat) : Int) := by have := unhide HOD; omega
      have hd := hide (show decide ((b : Int) + 1 < 9218868437227405312) = decide (b + 1 < 9218868437227405312) from decide_eq_decide.2 (by omega))
      by_cases hc1 : c = 1
      · subst hc1
        have HQ := hide (show roundR (T * k74) B b = b + 1 from by rw [unhide HRR]; simp)
        clear HRR hMi
        go_wp2
        go_ret2
        refine ⟨?_, bw2⟩
        rw [unhide HQ]
        show Ending.returned (Value.tuple #[Value.int .u64 ((b : Int) + 1), Value.bool (decide ((b : Int) + 1 < 9218868437227405312))]) = _
        rw [unhide hd, Int.natCast_add]
        rfl
      · by_cases hc0 : c = 0
        · subst hc0
          by_cases hodd : b % 2 = 1
          · have HQ := hide (show roundR (T * k74) B b = b + 1 from by rw [unhide HRR]; simp [hodd])
            rw [hodd] at hMi
            clear HRR
            go_wp2
            go_ret2
            refine ⟨?_, bw2⟩
            rw [unhide HQ]
            show Ending.returned (Value.tuple #[Value.int .u64 ((b : Int) + 1), Value.bool (decide ((b : Int) + 1 < 9218868437227405312))]) = _
            rw [unhide hd, Int.natCast_add]
            rfl
          · have HQ := hide (show roundR (T * k74) B b = b from by rw [unhide HRR]; simp [hodd])
            rw [show b % 2 = 0 by omega] at hMi
            clear HRR
            have hini : (b : Int) < 9218868437227405312 := by omega
            go_wp2
            go_ret2
            exact ⟨by rw [unhide HQ, decide_eq_true hl]; rfl, bw2⟩
        · have hc2 : c = -1 := by omega
          subst hc2
          have HQ := hide (show roundR (T * k74) B b = b from by rw [unhide HRR]; simp)
          clear HRR hMi
          have hini : (b : Int) < 9218868437227405312 := by omega
          go_wp2
          go_ret2
          exact ⟨by rw [unhide HQ, decide_eq_true hl]; rfl, bw2⟩
end Go.Proofs.YtjfdjpaocdhbbaaGreatDoor.mem
