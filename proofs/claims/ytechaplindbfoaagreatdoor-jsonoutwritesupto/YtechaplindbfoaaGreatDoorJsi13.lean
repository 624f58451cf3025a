import Derived.Test.YtechaplindbfoaaGreatDoorJsi12
namespace Go.Proofs.YtechaplindbfoaaGreatDoor.mem
open Go.ChangeShapes Go.WideShapes Go.ChangeAt Go.RowKit
open ints (hide unhide)
set_option linter.unusedVariables false
set_option maxRecDepth 4000 in
set_option maxHeartbeats 2000000 in
theorem bits_gen (aT aB : Option Addr) (nT cT nB cB T B : Nat) (w : World) (hT : Big w aT nT cT T) (hB : Big w aB nB cB B) (hnT : nT ≤ 50000) (hnB : nB ≤ 50000) (lo : Nat) (hlo : ∀ mid, mid ≤ 9218868437227405311 → (B * vR mid ≤ T * k74 ↔ mid ≤ lo)) (hl : lo < 9218868437227405312) :
    Calls Tryz.prog 142 #[.agg #[.slice aT nT cT, .slice aB nB cB]] w fun x w' => x = .returned (.tuple #[.int .u64 (roundR (T * k74) B lo : Nat), .bool (decide (roundR (T * k74) B lo < 9218868437227405312))]) ∧ Below w.heap.size w w' := by
  obtain ⟨W1, HW⟩ : ∃ W1, W1 = w.alloc (.cells #[.slice aT nT cT, .slice aB nB cB] 160) := ⟨_, rfl⟩
  have BW : Below w.heap.size w W1 := by rw [HW]; exact (Below.refl _ _).alloc (Nat.le_refl _) _
  have k0 : W1.cell? ⟨w.heap.size, 0, none⟩ = some (.slice aT nT cT) := by rw [HW]; simp
  have k1 : W1.cell? ⟨w.heap.size, 1, none⟩ = some (.slice aB nB cB) := by rw [HW]; simp
  have hs1 : W1.heap.size = w.heap.size + 1 := by rw [HW]; simp
  have HK := hide (show ∀ w', Below (w.heap.size + 1) W1 w' → (w'.cell? ⟨w.heap.size, 0, none⟩ = some (.slice aT nT cT) ∧ w'.cell? ⟨w.heap.size, 1, none⟩ = some (.slice aB nB cB)) ∧ Big w' aT nT cT T ∧ Big w' aB nB cB B ∧ Below w.heap.size w w' ∧ w.heap.size + 1 ≤ w'.heap.size from fun w' h =>
    ⟨⟨(h.cell (by simp)).trans k0, (h.cell (by simp)).trans k1⟩, hT.below (BW.trans (h.mono (by omega))), hB.below (BW.trans (h.mono (by omega))), BW.trans (h.mono (by omega)), by have := h.size; omega⟩)
  have H0 := hide (show Below (w.heap.size + 1) W1 (w.alloc (.cells #[.slice aT nT cT, .slice aB nB cB] 160)) from by rw [← HW]; exact Below.refl _ _)
  clear HW k0 k1 BW
  go_enter Tryz.func142, Tryz.ntmps142
  go_wp2
  go_loopw [4, 5] (fun l h wr => ∃ (a b : Nat), l = .int .u64 a ∧ h = .int .u64 b ∧ a ≤ lo ∧ lo ≤ b ∧ b ≤ 9218868437227405311 ∧ Below (w.heap.size + 1) W1 wr) (fun l h _ => (intOf h - intOf l).toNat)
  case atStart => exact ⟨0, 9218868437227405311, rfl, rfl, Nat.zero_le _, by omega, by omega, unhide H0⟩
  case round =>
    obtain ⟨a, b, rfl, rfl, ha, hb, hb2, hbel⟩ := hrel
    obtain ⟨⟨c0, c1⟩, rT, rB, bw, sz⟩ := unhide HK wr hbel
    by_cases hab : a < b
    · have hai : (a : Int) < (b : Int) := by omega
      have hbi : (b : Int) ≤ 9218868437227405311 := by omega
      obtain ⟨mid, hmid⟩ : ∃ mid, mid = a + (b - a + 1) / 2 := ⟨_, rfl⟩
      have hm1 : a < mid := by omega
      have hm2 : mid ≤ b := by omega
      have hme : (a : Int) + ((b : Int) - (a : Int) + 1) / 2 = (mid : Int) := by omega
      clear hmid
      go_wp2_with fail
      refine (splitq mid _ (by omega) wr (by omega)).mono ?_
      rintro e w1 ⟨rfl, rfl⟩
      have A := hide (against_at aT aB nT cT nB cB T B mid w1 rT rB hnT hnB (by omega))
      have hcm := cmpN_iff (T * k74) (B * vR mid)
      have HI := hide (hlo mid (by omega))
      obtain ⟨c, hc⟩ : ∃ c, c = cmpN (T * k74) (B * vR mid) := ⟨_, rfl⟩
      rw [← hc] at hcm A
      have hci : 0 ≤ c ↔ mid ≤ lo := by rw [hcm.2.2.2.1]; exact unhide HI
      have hcb := hcm.2.2.2.2
      clear hc hcm HI
      generalize mantR mid = M at *
      generalize exR mid = E at *
      go_wp2_with fail
      refine (unhide A).mono ?_
      rintro e w2 ⟨rfl, b2⟩
      have hbel2 := hbel.trans (b2.mono sz)
      clear A rT rB c0 c1 bw b2
      by_cases hc0 : 0 ≤ c
      · have hml := hci.1 hc0
        clear hci
        go_wp2
        go_roundw
        case rel => exact ⟨mid, b, by go_num, rfl, hml, hb, hb2, hbel2⟩
        case measure => simp [intOf]; omega
      · have hml : lo < mid := by
          rcases Nat.lt_or_ge lo mid with h2 | h2
          · exact h2
          · exact absurd (hci.2 h2) hc0
        clear hci
        go_wp2
        go_roundw
        case rel => exact ⟨a, mid - 1, rfl, by go_num, ha, by omega, by omega, hbel2⟩
        case measure => simp [intOf]; omega
    · have hai : ¬ (a : Int) < (b : Int) := by omega
      have eab : lo = a := by omega
      have ebb : b = a := by omega
      subst eab
      subst ebb
      obtain ⟨P, hP⟩ : ∃ P, P = T * k74 := ⟨_, rfl⟩
      have HR := hide (show roundR P B b = if B * (2 * vR b + 2 ^ exR b) < 2 * P ∨ (2 * P = B * (2 * vR b + 2 ^ exR b) ∧ b % 2 = 1) then b + 1 else b from rfl)
      have A := hide (fun q e hq he => halfq aT aB nT cT nB cB T B b q e hq he wr rT rB hnT hnB (by omega))
      rw [← hP] at A
      have hmt := mantR_lt b
      have hod := mantR_odd b
      have hxr : exR b ≤ 2047 := by unfold exR b52; omega
      have hcm := cmpN_iff (2 * P) (B * (2 * vR b + 2 ^ exR b))
      obtain ⟨Y, hY⟩ : ∃ Y, Y = B * (2 * vR b + 2 ^ exR b) := ⟨_, rfl⟩
      rw [← hY] at HR A hcm
      obtain ⟨c, hc⟩ : ∃ c, c = cmpN (2 * P) Y := ⟨_, rfl⟩
      rw [← hc] at hcm A
      obtain ⟨q1, q2, q3, q4, q5, q6⟩ := hcm
      have HRR := hide (show roundR (T * k74) B b = if c = 1 ∨ (c = 0 ∧ b % 2 = 1) then b + 1 else b from by
        rw [← hP, unhide HR]
        simp only [q2, q3])
      clear hY hc hP q1 q2 q3 q4 hlo HR H0
      have HOD := hide hod
      clear hod
      go_wp2_with fail
      refine (splitq b _ rfl wr (by omega)).mono ?_
      rintro e w1 ⟨rfl, rfl⟩
      generalize mantR b = M at *
      generalize exR b = E at *
      go_wp2_with fail
      refine (unhide A _ _ (by omega) (by omega)).mono ?_
      rintro e w2 ⟨rfl, b2⟩
      have bw2 := bw.trans (b2.mono bw.size)
      clear A rT rB c0 c1 bw b2
      have hMi : (M : Int) % 2 = ((b % 2 : Nat) : Int) := by have := unhide HOD; omega
      have hd := hide (show decide ((b : Int) + 1 < 9218868437227405312) = decide (b + 1 < 9218868437227405312) from decide_eq_decide.2 (by omega))
      by_cases hc1 : c = 1
      · subst hc1
        have HQ := hide (show roundR (T * k74) B b = b + 1 from by rw [unhide HRR]; simp)
        clear HRR hMi
        go_wp2
        go_ret2
        refine ⟨?_, bw2⟩
        rw [unhide HQ]
        show Ending.returned (Value.tuple #[Value.int .u64 ((b : Int) + 1), Value.bool (decide ((b : Int) + 1 < 9218868437227405312))]) = _
        rw [unhide hd, Int.natCast_add]
        rfl
      · by_cases hc0 : c = 0
        · subst hc0
          by_cases hodd : b % 2 = 1
          · have HQ := hide (show roundR (T * k74) B b = b + 1 from by rw [unhide HRR]; simp [hodd])
            rw [hodd] at hMi
            clear HRR
            go_wp2
            go_ret2
            refine ⟨?_, bw2⟩
            rw [unhide HQ]
            show Ending.returned (Value.tuple #[Value.int .u64 ((b : Int) + 1), Value.bool (decide ((b : Int) + 1 < 9218868437227405312))]) = _
            rw [unhide hd, Int.natCast_add]
            rfl
          · have HQ := hide (show roundR (T * k74) B b = b from by rw [unhide HRR]; simp [hodd])
            rw [show b % 2 = 0 by omega] at hMi
            clear HRR
            have hini : (b : Int) < 9218868437227405312 := by omega
            go_wp2
            go_ret2
            exact ⟨by rw [unhide HQ, decide_eq_true hl]; rfl, bw2⟩
        · have hc2 : c = -1 := by omega
          subst hc2
          have HQ := hide (show roundR (T * k74) B b = b from by rw [unhide HRR]; simp)
          clear HRR hMi
          have hini : (b : Int) < 9218868437227405312 := by omega
          go_wp2
          go_ret2
          exact ⟨by rw [unhide HQ, decide_eq_true hl]; rfl, bw2⟩
theorem vR_ge (r : Nat) : r ≤ vR r := by
  induction r with
  | zero => exact Nat.zero_le _
  | succ r ih => rw [vR_succ]; have := Nat.two_pow_pos (exR r); omega
theorem lo_ex (P B : Nat) (hB : 0 < B) : ∃ lo, Lo P B lo := by
  have key : ∀ n, P < B * vR n → ∃ lo, Lo P B lo := by
    intro n
    induction n with
    | zero => intro h; have : vR 0 = 0 := rfl; rw [this, Nat.mul_zero] at h; omega
    | succ n ih =>
      intro h
      rcases Nat.lt_or_ge P (B * vR n) with g | g
      · exact ih g
      · exact ⟨n, g, h⟩
  refine key (P + 1) ?_
  have h1 := vR_ge (P + 1)
  have h2 : 1 * (P + 1) ≤ B * vR (P + 1) := Nat.mul_le_mul hB h1
  omega
/-- the reference's dec at any power that occurs -/
theorem dec_anyM (s : ByteArray) (T : Nat) (x : Int) (w : World) (hs : s.size ≤ 100000) (hd : dig (bytesZ s)) (hT : dT (bytesZ s) s.size = T) (M : Nat) (hM : M ≤ 100) (hTl : T < 2 ^ (32 * M)) (hx0 : -10000 ≤ x) (hx1 : x ≤ 10000) :
    Calls Tryz.prog 120 #[.string s, .int .i64 x] w fun e w' => ∃ aT nT cT aB nB cB, e = .returned (.agg #[.slice aT nT cT, .slice aB nB cB]) ∧ Big w' aT nT cT (T * 10 ^ x.toNat) ∧ nT ≤ 20000 ∧ Big w' aB nB cB (10 ^ (-x).toNat) ∧ nB ≤ 20000 ∧ Below w.heap.size w w' := by
  by_cases hx : 0 < x
  · refine (dec_pos s T x w hs hd hT M hM hTl hx hx1).mono ?_
    rintro e w1 ⟨aT, nT, cT, aB, nB, cB, rfl, B1, l1, B2, l2, b⟩
    refine ⟨aT, nT, cT, aB, nB, cB, rfl, B1, by omega, ?_, by omega, b⟩
    rw [show (-x).toNat = 0 by omega, Nat.pow_zero]
    exact B2
  · refine (dec_neg s x w hs hd (by omega) hx0).mono ?_
    rintro e w1 ⟨aT, nT, cT, aB, nB, cB, rfl, B1, B2, l2, b⟩
    rw [hT] at B1
    refine ⟨aT, nT, cT, aB, nB, cB, rfl, ?_, by have := B1.len hTl; omega, B2, by omega, b⟩
    rw [show x.toNat = 0 by omega, Nat.pow_zero, Nat.mul_one]
    exact B1
theorem dec_any (s : ByteArray) (T : Nat) (x : Int) (w : World) (hs : s.size ≤ 100000) (hd : dig (bytesZ s)) (hT : dT (bytesZ s) s.size = T) (hTl : T < 2 ^ (32 * 3)) (hx0 : -10000 ≤ x) (hx1 : x ≤ 10000) :
    Calls Tryz.prog 120 #[.string s, .int .i64 x] w fun e w' => ∃ aT nT cT aB nB cB, e = .returned (.agg #[.slice aT nT cT, .slice aB nB cB]) ∧ Big w' aT nT cT (T * 10 ^ x.toNat) ∧ nT ≤ 20000 ∧ Big w' aB nB cB (10 ^ (-x).toNat) ∧ nB ≤ 20000 ∧ Below w.heap.size w w' :=
  dec_anyM s T x w hs hd hT 3 (by decide) hTl hx0 hx1
end Go.Proofs.YtechaplindbfoaaGreatDoor.mem
