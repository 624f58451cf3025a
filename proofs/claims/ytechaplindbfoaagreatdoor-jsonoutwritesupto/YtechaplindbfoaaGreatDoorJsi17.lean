import Derived.Test.YtechaplindbfoaaGreatDoorJsi16
namespace Go.Proofs.YtechaplindbfoaaGreatDoor.fto
open Go.ChangeShapes Go.WideShapes Go.ChangeAt Go.RowKit
open mem
open ints (hide unhide)
set_option linter.unusedVariables false
set_option linter.unusedSimpArgs false
/-- the lower one of two is the nearer one -/
def hfG (q : Nat) (x : Int) (a : Nat) : Prop := 10 ^ (-x).toNat * (2 * vR a) < (2 * q + 1) * 10 ^ x.toNat * k74 ∨ ((2 * q + 1) * 10 ^ x.toNat * k74 = 10 ^ (-x).toNat * (2 * vR a) ∧ q % 2 = 0)
/-- with n digits none is found -/
def NoR (a : Nat) (p : Int) (Q n : Nat) : Prop := rdB (Q / 10 ^ (17 - n)) (p - n) a = false ∧ rdB (Q / 10 ^ (17 - n) + 1) (p - n) a = false
/-- what the reference picks with n digits -/
def Pick (a : Nat) (p : Int) (Q n N : Nat) : Prop :=
  ((N = Q / 10 ^ (17 - n) ∧ rdB (Q / 10 ^ (17 - n)) (p - n) a = true) ∨ (N = Q / 10 ^ (17 - n) + 1 ∧ rdB (Q / 10 ^ (17 - n) + 1) (p - n) a = true)) ∧
  (rdB (Q / 10 ^ (17 - n)) (p - n) a = true → rdB (Q / 10 ^ (17 - n) + 1) (p - n) a = true → (N = Q / 10 ^ (17 - n) ↔ hfG (Q / 10 ^ (17 - n)) (p - n) a))
theorem split_half (aT aB : Option Addr) (nT cT nB cB T B r : Nat) (w : World) (hT : Big w aT nT cT T) (hB : Big w aB nB cB B) (hnT : nT ≤ 50000) (hnB : nB ≤ 50000) (hr : r < 9223372036854775808) :
    Calls Tryz.prog 121 #[.agg #[.slice aT nT cT, .slice aB nB cB], .int .u64 (mantR r : Nat), .int .i64 ((exR r : Int) - 1074 + 1)] w fun x w' => x = .returned (.int .i64 (cmpN (T * k74) (B * (2 * vR r)))) ∧ Below w.heap.size w w' := by
  have hm := mantR_lt r
  have he : exR r ≤ 2047 := by unfold exR b52; omega
  by_cases h : 1073 ≤ exR r
  · obtain ⟨f, hf⟩ : ∃ f, exR r = 1073 + f := ⟨exR r - 1073, by omega⟩
    have e1 : (exR r : Int) - 1074 + 1 = (f : Int) := by omega
    rw [e1]
    refine (against_pos aT aB nT cT nB cB T B (mantR r) f w hT hB (by omega) (by omega) (by omega) (by omega)).mono ?_
    rintro x w1 ⟨rfl, b⟩
    refine ⟨?_, b⟩
    have e2 : B * (2 * vR r) = B * mantR r * 2 ^ f * k74 := by
      unfold vR
      have : 2 * 2 ^ exR r = 2 ^ f * k74 := by
        have hk : k74 = 2 ^ (52 + e22) := rfl
        have h22 := e22_eq
        have hE : exR r + 1 = f + (52 + e22) := by omega
        rw [hk, ← Nat.pow_add, ← hE, Nat.pow_succ, Nat.mul_comm]
      rw [Nat.mul_left_comm 2 (mantR r), this, ← Nat.mul_assoc, ← Nat.mul_assoc]
    rw [e2, cmpN_mul _ _ _ (by rw [show k74 = 2 ^ (52 + e22) from rfl]; exact Nat.two_pow_pos _)]
  · obtain ⟨f, hf⟩ : ∃ f, exR r + f = 1073 := ⟨1073 - exR r, by omega⟩
    have e1 : (exR r : Int) - 1074 + 1 = -(f : Int) := by omega
    rw [e1]
    refine (against_neg aT aB nT cT nB cB T B (mantR r) f w hT hB (by omega) (by omega) (by omega) (by omega) (by omega)).mono ?_
    rintro x w1 ⟨rfl, b⟩
    refine ⟨?_, b⟩
    have hk : k74 = 2 ^ f * (2 * 2 ^ exR r) := by
      have h22 := e22_eq
      have hE : 52 + e22 = f + (exR r + 1) := by omega
      rw [show k74 = 2 ^ (52 + e22) from rfl, hE, Nat.pow_add, Nat.pow_succ, Nat.mul_comm (2 ^ exR r) 2]
    have e2 : B * (2 * vR r) = B * mantR r * (2 * 2 ^ exR r) := by unfold vR; rw [Nat.mul_left_comm 2 (mantR r), ← Nat.mul_assoc]
    rw [e2, hk, ← Nat.mul_assoc T, cmpN_mul _ _ _ (Nat.mul_pos (by decide) (Nat.two_pow_pos _))]
theorem split_halfq (aT aB : Option Addr) (nT cT nB cB T B r : Nat) (ee : Int) (w : World) (hT : Big w aT nT cT T) (hB : Big w aB nB cB B) (hnT : nT ≤ 50000) (hnB : nB ≤ 50000) (hr : r < 9223372036854775808) (he : ee = (exR r : Int) - 1073) :
    Calls Tryz.prog 121 #[.agg #[.slice aT nT cT, .slice aB nB cB], .int .u64 (mantR r : Nat), .int .i64 ee] w fun x w' => x = .returned (.int .i64 (cmpN (T * k74) (B * (2 * vR r)))) ∧ Below w.heap.size w w' := by
  have e : ee = (exR r : Int) - 1074 + 1 := by omega
  rw [e]
  exact split_half aT aB nT cT nB cB T B r w hT hB hnT hnB hr
set_option maxHeartbeats 4000000 in
set_option maxRecDepth 100000 in
/-- the reference's Shortest, by what bare answers -/
theorem shortest_ref (a : Nat) (w : World) (ha : 0 < a) (hai : a < 9218868437227405312) (Res : Nat → Int → ByteArray → Int → Prop)
    (HBare : ∀ (N : Nat) (x : Int) (m : Nat) (W : World), 1 ≤ N → N ≤ 100000000000000000 → Dec10 N m → -1000 ≤ x → x ≤ 1000 → Calls Tryz.prog 122 #[.string (strOfNums (topD N m)), .int .i64 x] W fun e w' => ∃ D P, e = .returned (.tuple #[.string D, .int .i64 P]) ∧ Res N x D P ∧ Below W.heap.size W w') :
    Calls Tryz.prog 100 #[.int .u64 (a : Int)] w fun e w' => ∃ (p : Int) (Q : Nat), pwG a p ∧ ¬ pwG a (p - 1) ∧ 10000000000000000 ≤ Q ∧ Q ≤ 99999999999999999 ∧ svG a p Q ∧ ¬ svG a p (Q + 1) ∧ (∃ D P, e = .returned (.tuple #[.string D, .int .i64 P]) ∧
      ((∃ n N : Nat, 1 ≤ n ∧ n ≤ 17 ∧ (∀ i, 1 ≤ i → i < n → NoR a p Q i) ∧ Pick a p Q n N ∧ Res N (p - n) D P) ∨ ((∀ i, 1 ≤ i → i < 18 → NoR a p Q i) ∧ Res Q (p - 17) D P))) ∧ Below w.heap.size w w' := by
  have P1 := hide (power_ok a w ha hai)
  have S7 := hide (fun p W h1 h2 h3 h4 => seventeen_ok a p W hai h1 h2 h3 h4)
  have SP := hide (fun W => split_any a W (show a < 9223372036854775808 by omega))
  have RD := hide (fun q x W hq h0 h1 => reads_ok q a x W hq h0 h1 ha hai)
  have DG := hide (fun q W hq => digits_any q W hq)
  have DD := hide (fun u n x W hu hd h0 h1 => decD u n x W hu hd h0 h1)
  have AG := hide (fun aT aB nT cT nB cB T B W (h1 : Big W aT nT cT T) (h2 : Big W aB nB cB B) (l1 : nT ≤ 20000) (l2 : nB ≤ 20000) ee he => split_halfq aT aB nT cT nB cB T B a ee W h1 h2 (by omega) (by omega) (by omega) he)
  have HB := hide HBare
  have hEb : exR a ≤ 2047 := by unfold exR b52; omega
  generalize hM : mantR a = M at *
  generalize hE : exR a = E at *
  clear ha hai hM hE HBare
  go_enter Tryz.func100, Tryz.ntmps100
  go_wp2_with fail
  refine (unhide P1).mono ?_
  rintro e w1 ⟨p, rfl, g1, g2, p0, p1, b1⟩
  have S8 := hide (unhide S7 p w1 g1 g2 p0 p1)
  have G := hide (And.intro g1 (And.intro g2 b1))
  clear P1 S7 g1 g2 b1
  go_wp2_with fail
  refine (unhide S8).mono ?_
  rintro e w2 ⟨Q, rfl, Q0, Q1, v1, v2, b2⟩
  have B2 := hide ((unhide G).2.2.trans (b2.mono (unhide G).2.2.size))
  have V := hide (And.intro v1 v2)
  clear v1 v2 b2 S8
  go_wp2_with fail
  refine (unhide SP _).mono ?_
  rintro e w3 ⟨rfl, hw⟩
  subst w3
  clear SP
  go_wp2
  go_loopw [8, 9] (fun c k wr => ∃ n C : Nat, 1 ≤ n ∧ n ≤ 18 ∧ (n ≤ 17 → C = 10 ^ (17 - n)) ∧ c = .int .u64 (C : Int) ∧ k = .int .i64 (n : Int) ∧ (∀ i, 1 ≤ i → i < n → NoR a p Q i) ∧ Below w.heap.size w wr) (fun _ k _ => 18 - (intOf k).toNat)
  case atStart => exact ⟨1, 10000000000000000, by omega, by omega, fun _ => rfl, rfl, rfl, fun i h1 h2 => by omega, unhide B2⟩
  case round =>
    obtain ⟨n, C, n1, n18, hCe, rfl, rfl, hno, hbel⟩ := hrel
    have HN := hide hno
    have HBL := hide hbel
    clear hno hbel B2
    by_cases h17 : n ≤ 17
    · have h17i : (n : Int) ≤ 17 := by omega
      have hC := hCe h17
      have hC0 : 0 < C := by rw [hC]; exact Nat.pow_pos (by decide)
      obtain ⟨q, hq⟩ : ∃ q, q = Q / C := ⟨_, rfl⟩
      have hq1 : (Q : Int) / (C : Int) = (q : Int) := by rw [hq]; exact (Int.natCast_ediv Q C).symm
      have hq2 : Int.tdiv (Q : Int) (C : Int) = (q : Int) := by rw [Int.tdiv_eq_ediv_of_nonneg (by omega)]; exact hq1
      have hqQ : q ≤ Q := by rw [hq]; exact Nat.div_le_self _ _
      have hqn : 1 ≤ q := by
        rw [hq, Nat.le_div_iff_mul_le hC0, Nat.one_mul, hC]
        have : 10 ^ (17 - n) ≤ 10 ^ 16 := Nat.pow_le_pow_right (by decide) (by omega)
        have e16 : (10 : Nat) ^ 16 = 10000000000000000 := rfl
        omega
      have hqe := hide (show Q / 10 ^ (17 - n) = q by rw [hq, hC])
      have HCE := hide hC
      have hCm : C ≤ 10000000000000000 := by
        rw [hC]
        have : 10 ^ (17 - n) ≤ 10 ^ 16 := Nat.pow_le_pow_right (by decide) (by omega)
        have e16 : (10 : Nat) ^ 16 = 10000000000000000 := rfl
        omega
      have hCi : ¬ (C : Int) = 0 := by omega
      have hCn : ¬ C = 0 := by omega
      have hCb : ((C : Int) == 0) = false := by rw [beq_eq_false_iff_ne]; omega
      have hwq : IntKind.u64.wrap (q : Int) = (q : Int) := IntWalk.u64_in _ ⟨by omega, by omega⟩
      have R1 := hide (fun W => unhide RD q (p - n) W (by omega) (by omega) (by omega))
      have R2 := hide (fun W => unhide RD (q + 1) (p - n) W (by omega) (by omega) (by omega))
      obtain ⟨L, hL⟩ : ∃ L, rdB q (p - n) a = L := ⟨_, rfl⟩
      obtain ⟨H, hH⟩ : ∃ H, rdB (q + 1) (p - n) a = H := ⟨_, rfl⟩
      rw [hL] at R1
      rw [hH] at R2
      have HLL := hide hL
      have HHH := hide hH
      rw [show ((q + 1 : Nat) : Int) = (q : Int) + 1 from rfl] at R2
      clear hq hC hCe hL hH RD
      go_wp2_with fail
      refine (unhide R1 _).mono ?_
      rintro e w4 ⟨rfl, b4⟩
      have B4 := hide ((unhide HBL).trans (b4.mono (unhide HBL).size))
      clear b4 HBL
      go_wp2_with fail
      refine (unhide R2 _).mono ?_
      rintro e w5 ⟨rfl, b5⟩
      have B5 := hide ((unhide B4).trans (b5.mono (unhide B4).size))
      clear b5 B4 R1 R2
      cases L
      · cases H
        · clear hq1 hq2 hwq hCi hCn hCb
          go_wp2
          go_roundw
          case rel => exact ⟨n + 1, C / 10, by omega, by omega, fun h => by
            rw [unhide HCE, show 17 - n = (17 - (n + 1)) + 1 by omega, Nat.pow_succ, Nat.mul_div_cancel _ (by decide)], by go_num, by go_num, fun i h1 h2 => by
            rcases Nat.lt_or_ge i n with g | g
            · exact unhide HN i h1 g
            · obtain rfl : i = n := by omega
              exact ⟨by rw [unhide hqe]; exact unhide HLL, by rw [unhide hqe]; exact unhide HHH⟩, unhide B5⟩
          case measure => simp [intOf]; omega
        · clear hq1 hq2 hwq hCi hCn hCb
          have HP : Pick a p Q n (q + 1) := ⟨Or.inr ⟨by rw [unhide hqe], by rw [unhide hqe]; exact unhide HHH⟩, fun h => by rw [unhide hqe, unhide HLL] at h; cases h⟩
          have HPK := hide HP
          clear HP
          go_wp2_with fail
          refine (unhide DG (q + 1) _ (by omega)).mono ?_
          rintro e w6 ⟨m, hd, rfl, b6⟩
          have B6 := hide ((unhide B5).trans (b6.mono (unhide B5).size))
          have BB := hide (unhide HB (q + 1) (p - n) m w6 (by omega) (by omega) hd (by omega) (by omega))
          clear hd b6
          generalize strOfNums (topD ((q + 1)) m) = ss at *
          go_wp2_with fail
          refine (unhide BB).mono ?_
          rintro e w7 ⟨D, P, rfl, hres, b7⟩
          have B7 := hide ((unhide B6).trans (b7.mono (unhide B6).size))
          have HRES := hide hres
          clear hres b7 B6 BB
          go_wp2
          go_ret2
          exact ⟨p, Q, (unhide G).1, (unhide G).2.1, Q0, Q1, (unhide V).1, (unhide V).2, ⟨D, P, rfl, Or.inl ⟨n, (q + 1), n1, h17, unhide HN, unhide HPK, unhide HRES⟩⟩, unhide B7⟩
      · cases H
        · clear hq1 hq2 hwq hCi hCn hCb
          have HP : Pick a p Q n q := ⟨Or.inl ⟨by rw [unhide hqe], by rw [unhide hqe]; exact unhide HLL⟩, fun _ h => by rw [unhide hqe, unhide HHH] at h; cases h⟩
          have HPK := hide HP
          clear HP
          go_wp2_with fail
          refine (unhide DG q _ (by omega)).mono ?_
          rintro e w6 ⟨m, hd, rfl, b6⟩
          have B6 := hide ((unhide B5).trans (b6.mono (unhide B5).size))
          have BB := hide (unhide HB q (p - n) m w6 (by omega) (by omega) hd (by omega) (by omega))
          clear hd b6
          generalize strOfNums (topD (q) m) = ss at *
          go_wp2_with fail
          refine (unhide BB).mono ?_
          rintro e w7 ⟨D, P, rfl, hres, b7⟩
          have B7 := hide ((unhide B6).trans (b7.mono (unhide B6).size))
          have HRES := hide hres
          clear hres b7 B6 BB
          go_wp2
          go_ret2
          exact ⟨p, Q, (unhide G).1, (unhide G).2.1, Q0, Q1, (unhide V).1, (unhide V).2, ⟨D, P, rfl, Or.inl ⟨n, q, n1, h17, unhide HN, unhide HPK, unhide HRES⟩⟩, unhide B7⟩
        · clear hq1 hq2 hwq hCi hCn hCb
          have D1 := hide (fun W => unhide DG (2 * q + 1) W (by omega))
          rw [show ((2 * q + 1 : Nat) : Int) = 2 * (q : Int) + 1 by omega] at D1
          go_wp2_with fail
          refine (unhide D1 _).mono ?_
          rintro e u1 ⟨m0, hd0, rfl, c1⟩
          have E1 := hide (unhide DD (2 * q + 1) m0 (p - n) u1 (by omega) hd0 (by omega) (by omega))
          have C1 := hide ((unhide B5).trans (c1.mono (unhide B5).size))
          clear hd0 c1 D1 B5
          generalize strOfNums (topD (2 * q + 1) m0) = s0 at *
          go_wp2_with fail
          refine (unhide E1).mono ?_
          rintro e u2 ⟨aT, nT, cT, aB, nB, cB, rfl, t1, l1, t2, l2, c2⟩
          have A1 := hide (unhide AG aT aB nT cT nB cB _ _ u2 t1 t2 l1 l2)
          have hcm := cmpN_iff ((2 * q + 1) * 10 ^ (p - (n : Int)).toNat * k74) (10 ^ (-(p - (n : Int))).toNat * (2 * vR a))
          obtain ⟨cc, hcc⟩ : ∃ cc, cc = cmpN ((2 * q + 1) * 10 ^ (p - (n : Int)).toNat * k74) (10 ^ (-(p - (n : Int))).toNat * (2 * vR a)) := ⟨_, rfl⟩
          rw [← hcc] at hcm A1
          have hhf := hide (show hfG q (p - n) a ↔ cc = 1 ∨ (cc = 0 ∧ q % 2 = 0) by unfold hfG; rw [← hcm.2.1, ← hcm.2.2.1])
          have hcb := hcm.2.2.2.2
          have C2 := hide ((unhide C1).trans (c2.mono (unhide C1).size))
          clear hcc hcm t1 t2 l1 l2 c2 E1 C1 AG DD
          go_wp2_with fail
          refine (unhide A1 _ (by omega)).mono ?_
          rintro e u3 ⟨rfl, c3⟩
          have C3 := hide ((unhide C2).trans (c3.mono (unhide C2).size))
          clear c3 C2 A1
          by_cases hc1 : cc = 1
          · have HP : Pick a p Q n q := ⟨Or.inl ⟨by rw [unhide hqe], by rw [unhide hqe]; exact unhide HLL⟩, fun _ _ => by rw [unhide hqe]; exact ⟨fun _ => (unhide hhf).2 (Or.inl hc1), fun _ => rfl⟩⟩
            have HPK := hide HP
            clear HP hhf
            subst hc1
            go_wp2_with fail
            refine (unhide DG q _ (by omega)).mono ?_
            rintro e w6 ⟨m, hd, rfl, b6⟩
            have B6 := hide ((unhide C3).trans (b6.mono (unhide C3).size))
            have BB := hide (unhide HB q (p - n) m w6 (by omega) (by omega) hd (by omega) (by omega))
            clear hd b6
            generalize strOfNums (topD (q) m) = ss at *
            go_wp2_with fail
            refine (unhide BB).mono ?_
            rintro e w7 ⟨D, P, rfl, hres, b7⟩
            have B7 := hide ((unhide B6).trans (b7.mono (unhide B6).size))
            have HRES := hide hres
            clear hres b7 B6 BB
            go_wp2
            go_ret2
            exact ⟨p, Q, (unhide G).1, (unhide G).2.1, Q0, Q1, (unhide V).1, (unhide V).2, ⟨D, P, rfl, Or.inl ⟨n, q, n1, h17, unhide HN, unhide HPK, unhide HRES⟩⟩, unhide B7⟩
          · by_cases hc0 : cc = 0
            · by_cases hev : q % 2 = 0
              · have HP : Pick a p Q n q := ⟨Or.inl ⟨by rw [unhide hqe], by rw [unhide hqe]; exact unhide HLL⟩, fun _ _ => by rw [unhide hqe]; exact ⟨fun _ => (unhide hhf).2 (Or.inr ⟨hc0, hev⟩), fun _ => rfl⟩⟩
                have HPK := hide HP
                have hevi : (q : Int) % 2 = 0 := by omega
                have hevt : Int.tmod (q : Int) 2 = 0 := by rw [Int.tmod_eq_emod_of_nonneg (by omega)]; exact hevi
                clear HP hhf hc1
                subst hc0
                go_wp2_with fail
                refine (unhide DG q _ (by omega)).mono ?_
                rintro e w6 ⟨m, hd, rfl, b6⟩
                have B6 := hide ((unhide C3).trans (b6.mono (unhide C3).size))
                have BB := hide (unhide HB q (p - n) m w6 (by omega) (by omega) hd (by omega) (by omega))
                clear hd b6
                generalize strOfNums (topD (q) m) = ss at *
                go_wp2_with fail
                refine (unhide BB).mono ?_
                rintro e w7 ⟨D, P, rfl, hres, b7⟩
                have B7 := hide ((unhide B6).trans (b7.mono (unhide B6).size))
                have HRES := hide hres
                clear hres b7 B6 BB
                go_wp2
                go_ret2
                exact ⟨p, Q, (unhide G).1, (unhide G).2.1, Q0, Q1, (unhide V).1, (unhide V).2, ⟨D, P, rfl, Or.inl ⟨n, q, n1, h17, unhide HN, unhide HPK, unhide HRES⟩⟩, unhide B7⟩
              · have HP : Pick a p Q n (q + 1) := ⟨Or.inr ⟨by rw [unhide hqe], by rw [unhide hqe]; exact unhide HHH⟩, fun _ _ => by rw [unhide hqe]; exact ⟨fun h => by omega, fun h => by rcases (unhide hhf).1 h with h | h; exact absurd h hc1; exact absurd h.2 hev⟩⟩
                have HPK := hide HP
                have hevi : (q : Int) % 2 = 1 := by omega
                have hevt : Int.tmod (q : Int) 2 = 1 := by rw [Int.tmod_eq_emod_of_nonneg (by omega)]; exact hevi
                clear HP hhf hc1 hev
                subst hc0
                go_wp2_with fail
                refine (unhide DG (q + 1) _ (by omega)).mono ?_
                rintro e w6 ⟨m, hd, rfl, b6⟩
                have B6 := hide ((unhide C3).trans (b6.mono (unhide C3).size))
                have BB := hide (unhide HB (q + 1) (p - n) m w6 (by omega) (by omega) hd (by omega) (by omega))
                clear hd b6
                generalize strOfNums (topD ((q + 1)) m) = ss at *
                go_wp2_with fail
                refine (unhide BB).mono ?_
                rintro e w7 ⟨D, P, rfl, hres, b7⟩
                have B7 := hide ((unhide B6).trans (b7.mono (unhide B6).size))
                have HRES := hide hres
                clear hres b7 B6 BB
                go_wp2
                go_ret2
                exact ⟨p, Q, (unhide G).1, (unhide G).2.1, Q0, Q1, (unhide V).1, (unhide V).2, ⟨D, P, rfl, Or.inl ⟨n, (q + 1), n1, h17, unhide HN, unhide HPK, unhide HRES⟩⟩, unhide B7⟩
            · have HP : Pick a p Q n (q + 1) := ⟨Or.inr ⟨by rw [unhide hqe], by rw [unhide hqe]; exact unhide HHH⟩, fun _ _ => by rw [unhide hqe]; exact ⟨fun h => by omega, fun h => by rcases (unhide hhf).1 h with h | h; exact absurd h hc1; exact absurd h.1 hc0⟩⟩
              have HPK := hide HP
              have hcm1 : cc = -1 := by omega
              clear HP hhf hc1 hc0
              subst hcm1
              go_wp2_with fail
              refine (unhide DG (q + 1) _ (by omega)).mono ?_
              rintro e w6 ⟨m, hd, rfl, b6⟩
              have B6 := hide ((unhide C3).trans (b6.mono (unhide C3).size))
              have BB := hide (unhide HB (q + 1) (p - n) m w6 (by omega) (by omega) hd (by omega) (by omega))
              clear hd b6
              generalize strOfNums (topD ((q + 1)) m) = ss at *
              go_wp2_with fail
              refine (unhide BB).mono ?_
              rintro e w7 ⟨D, P, rfl, hres, b7⟩
              have B7 := hide ((unhide B6).trans (b7.mono (unhide B6).size))
              have HRES := hide hres
              clear hres b7 B6 BB
              go_wp2
              go_ret2
              exact ⟨p, Q, (unhide G).1, (unhide G).2.1, Q0, Q1, (unhide V).1, (unhide V).2, ⟨D, P, rfl, Or.inl ⟨n, (q + 1), n1, h17, unhide HN, unhide HPK, unhide HRES⟩⟩, unhide B7⟩
    · have h17i : ¬ (n : Int) ≤ 17 := by omega
      have e18 : n = 18 := by omega
      subst e18
      go_wp2_with fail
      refine (unhide DG Q _ (by omega)).mono ?_
      rintro e w6 ⟨m, hd, rfl, b6⟩
      have B6 := hide ((unhide HBL).trans (b6.mono (unhide HBL).size))
      have BB := hide (unhide HB Q (p - 17) m w6 (by omega) (by omega) hd (by omega) (by omega))
      clear hd b6
      generalize strOfNums (topD Q m) = ss at *
      go_wp2_with fail
      refine (unhide BB).mono ?_
      rintro e w7 ⟨D, P, rfl, hres, b7⟩
      have B7 := hide ((unhide B6).trans (b7.mono (unhide B6).size))
      have HRES := hide hres
      clear hres b7 B6 BB
      go_wp2
      go_ret2
      exact ⟨p, Q, (unhide G).1, (unhide G).2.1, Q0, Q1, (unhide V).1, (unhide V).2, ⟨D, P, rfl, Or.inr ⟨unhide HN, unhide HRES⟩⟩, unhide B7⟩
end Go.Proofs.YtechaplindbfoaaGreatDoor.fto
