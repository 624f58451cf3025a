import Derived.Test.YtechaplindbfoaaGreatDoorJsi20
namespace Go.Proofs.YtechaplindbfoaaGreatDoor.fto
open Go.ChangeShapes Go.WideShapes Go.ChangeAt Go.RowKit
open mem Go.Sort
open ints (hide unhide)
set_option linter.unusedVariables false
theorem strip_uniq {A B m n : Nat} (h : A * 10 ^ m = B * 10 ^ n) (hA : A % 10 ≠ 0) (hB : B % 10 ≠ 0) : A = B ∧ m = n := by
  have key : ∀ A B m n : Nat, A * 10 ^ m = B * 10 ^ n → A % 10 ≠ 0 → n ≤ m → A = B ∧ m = n ∨ B % 10 = 0 := fun A B m n h hA hnm => by
    obtain ⟨j, rfl⟩ : ∃ j, m = n + j := ⟨m - n, by omega⟩
    rw [Nat.pow_add, Nat.mul_comm (10 ^ n), ← Nat.mul_assoc] at h
    have h2 := Nat.eq_of_mul_eq_mul_right (Nat.pow_pos (by decide)) h
    cases j with
    | zero => left; exact ⟨by simpa using h2, rfl⟩
    | succ j => right; rw [← h2, Nat.pow_succ, ← Nat.mul_assoc]; omega
  rcases Nat.le_total n m with g | g
  · rcases key A B m n h hA g with r | r
    · exact r
    · exact absurd r hB
  · rcases key B A n m h.symm hB g with r | r
    · exact ⟨r.1.symm, r.2.symm⟩
    · exact absurd r hA
theorem kept_last {d k : Nat} (h : Kept d k) : dv (dgs d k) % 10 ≠ 0 := by
  obtain ⟨k1, k2, k3, k4⟩ := h
  obtain ⟨j, rfl⟩ : ∃ j, k = j + 1 := ⟨k - 1, by omega⟩
  have e : dgs d (j + 1) = dgs d j ++ [dgt d (Lib.nDigits d) j] := by simp [dgs, List.range_succ]
  have hr := dgt_rng d (Lib.nDigits d) j
  rw [Nat.add_sub_cancel] at k4
  rw [e, dv_app, dv_cons]
  simp only [List.length_nil, List.length_singleton, Nat.pow_zero, Nat.pow_one, Nat.mul_one]
  rw [show dv [] = 0 from rfl]
  omega
theorem kept_pos {d k : Nat} (h : Kept d k) : 1 ≤ d := by
  rcases Nat.eq_zero_or_pos d with g | g
  · exfalso
    subst g
    have h1 := kept_val h
    have h2 := kept_last h
    rcases Nat.eq_zero_or_pos (dv (dgs 0 k)) with e | e
    · rw [e] at h2; exact h2 rfl
    · have := Nat.mul_pos e (Nat.pow_pos (n := Lib.nDigits 0 - k) (by decide : 0 < 10))
      omega
  · exact g
theorem same_text {d N k k' e f : Nat} {q x : Int} (hk : Kept d k) (hk' : Kept N k') (h : d * 10 ^ e = N * 10 ^ f) (hq : q - e = x - f) : dgs d k = dgs N k' ∧ (Lib.nDigits d : Int) + q = (Lib.nDigits N : Int) + x := by
  have hd := kept_pos hk
  have hN := kept_pos hk'
  have v1 := kept_val hk
  have v2 := kept_val hk'
  have l1 := kept_last hk
  have l2 := kept_last hk'
  have h2 : dv (dgs d k) * 10 ^ (Lib.nDigits d - k + e) = dv (dgs N k') * 10 ^ (Lib.nDigits N - k' + f) := by
    rw [Nat.pow_add, ← Nat.mul_assoc, ← v1, Nat.pow_add, ← Nat.mul_assoc, ← v2]
    exact h
  obtain ⟨s1, s2⟩ := strip_uniq h2 l1 l2
  have b1 := dz_back (dgs d k) (dgs_rng d k) (fun g => by have h5 := congrArg List.length g; rw [dgs_len, List.length_nil] at h5; have := hk.1; omega) (fun r g => absurd g (dgs_first d k hd hk.1 r))
  have b2 := dz_back (dgs N k') (dgs_rng N k') (fun g => by have h5 := congrArg List.length g; rw [dgs_len, List.length_nil] at h5; have := hk'.1; omega) (fun r g => absurd g (dgs_first N k' hN hk'.1 r))
  have e1 : dgs d k = dgs N k' := by rw [← b1, ← b2, s1]
  have e2 : k = k' := by have := congrArg List.length e1; rw [dgs_len, dgs_len] at this; exact this
  have k2 := hk.2.1
  have k2' := hk'.2.1
  exact ⟨e1, by omega⟩
/-- the reference's Shortest chooses the program's digits -/
theorem shortest_same (a d k : Nat) (q : Int) (w : World) (ha : 0 < a) (hai : a < 9218868437227405312) (hc : Chosen a d q) (hk : Kept d k) :
    Calls Tryz.prog 100 #[.int .u64 (a : Int)] w fun e w' => e = .returned (.tuple #[.string (strOfNums (dgs d k)), .int .i64 ((Lib.nDigits d : Int) + q)]) ∧ Below w.heap.size w w' := by
  refine (shortest_ref a w ha hai Res (fun N x m W h1 h2 h3 h4 h5 => bare_ok N x m W h1 h2 h3 h4 h5)).mono ?_
  rintro e w1 ⟨p, Q, g1, g2, -, -, g3, g4, ⟨D, P, rfl, hp⟩, b⟩
  obtain ⟨s1, s2⟩ := pick_same hc g1 g2 g3 g4
  rcases hp with ⟨n, N, n1, n2, hno, hpk, k', hk', hD, hP⟩ | ⟨hno, -⟩
  · obtain ⟨ee, j, t1, t2⟩ := s1 n N n1 n2 hno hpk
    obtain ⟨u1, u2⟩ := same_text hk hk' t1 t2
    refine ⟨?_, b⟩
    rw [hD, hP, u1, u2]
  · exact absurd hno s2
theorem tb_any (b d k : Nat) (q : Int) (w : World) (hb : b < 18446744073709551616) (hbad : badF b = false) (h0 : b % 9223372036854775808 ≠ 0) (hc : Chosen (b % 9223372036854775808) d q) (hk : Kept d k) :
    Calls Tryz.prog 87 #[.int .u64 (b : Int)] w fun e w' => e = .returned (.string (ftB b d k q)) ∧ Below w.heap.size w w' := by
  have hi : b % 9223372036854775808 < 9218868437227405312 := by unfold badF at hbad; have := of_decide_eq_false hbad; omega
  obtain ⟨-, d1, d2, q1, q2⟩ := hc.rng
  have n4 : Lib.nDigits d ≤ 18 := nd_le d1 (Nat.lt_of_le_of_lt d2 (by decide))
  have SH := shortest_same (b % 9223372036854775808) d k q w (by omega) hi hc hk
  have hsz : (strOfNums (dgs d k)).size = k := by rw [str_size, dgs_len]
  have k1 := hk.1
  have k2 := hk.2.1
  unfold ftB
  have hS : sgB b = if decide (9223372036854775808 ≤ b) = true then (⟨#[45]⟩ : ByteArray) else ⟨#[]⟩ := by
    unfold sgB
    by_cases g : 9223372036854775808 ≤ b <;> simp [g]
  obtain ⟨D, hD⟩ : ∃ D, D = strOfNums (dgs d k) := ⟨_, rfl⟩
  obtain ⟨P, hP⟩ : ∃ P, P = (Lib.nDigits d : Int) + q := ⟨_, rfl⟩
  rw [← hD] at hsz SH ⊢
  rw [← hP] at SH ⊢
  by_cases c1 : P < -5
  · by_cases c2 : 1 < D.size
    · exact tb_el b _ _ D P w hb rfl hS h0 hi (fun _ _ => True) SH (by omega) (by omega) c1 (by omega) (by omega) c2
    · exact tb_fl b _ _ D P w hb rfl hS h0 hi (fun _ _ => True) SH (by omega) (by omega) c1 (by omega) (by omega) (by omega)
  · by_cases c3 : 21 < P
    · by_cases c2 : 1 < D.size
      · exact tb_eh b _ _ D P w hb rfl hS h0 hi (fun _ _ => True) SH (by omega) (by omega) c3 (by omega) (by omega) c2
      · exact tb_fh b _ _ D P w hb rfl hS h0 hi (fun _ _ => True) SH (by omega) (by omega) c3 (by omega) (by omega) (by omega)
    · by_cases c4 : P ≤ 0
      · exact tb_c b _ _ D P w hb rfl hS h0 hi (fun _ _ => True) SH (by omega) (by omega) (by omega) c4
      · by_cases c5 : (D.size : Int) ≤ P
        · exact tb_a b _ _ D P w hb rfl hS h0 hi (fun _ _ => True) SH (by omega) (by omega) (by omega) (by omega) c5
        · exact tb_b b _ _ D P w hb rfl hS h0 hi (fun _ _ => True) SH (by omega) (by omega) (by omega) (by omega) c5
set_option maxRecDepth 100000 in
theorem tb_bad (b : Nat) (w : World) (hb : b < 18446744073709551616) (hbad : badF b = true) :
    Calls Tryz.prog 87 #[.int .u64 (b : Int)] w fun e w' => e = .returned (.string ⟨#[]⟩) ∧ Below w.heap.size w w' := by
  obtain ⟨sg, hs⟩ : ∃ sg, decide (9223372036854775808 ≤ b) = sg := ⟨_, rfl⟩
  have a1 := andSignN b hb sg hs
  have a2 := andNotSign b hb
  have hi : 9218868437227405312 ≤ b % 9223372036854775808 := by unfold badF at hbad; exact of_decide_eq_true hbad
  obtain ⟨a, ha⟩ : ∃ a, a = b % 9223372036854775808 := ⟨_, rfl⟩
  rw [← ha] at hi a2
  have i1 : (9218868437227405312 : Int) ≤ (a : Int) := by omega
  clear ha hi hs hbad
  cases sg
  all_goals
    go_enter Tryz.func87, Tryz.ntmps87
    go_wp2
    go_ret
    exact ⟨rfl, Below.refl _ _⟩
set_option maxRecDepth 100000 in
theorem tb_nought (b : Nat) (w : World) (hb : b < 18446744073709551616) (h0 : b % 9223372036854775808 = 0) :
    Calls Tryz.prog 87 #[.int .u64 (b : Int)] w fun e w' => e = .returned (.string (sgB b ++ ⟨#[48, 46, 48]⟩)) ∧ Below w.heap.size w w' := by
  obtain ⟨sg, hs⟩ : ∃ sg, decide (9223372036854775808 ≤ b) = sg := ⟨_, rfl⟩
  have a1 := andSignN b hb sg hs
  have a2 := andNotSign b hb
  rw [h0] at a2
  have a3 : bits .andNot .u64 (b : Int) 9223372036854775808 = 0 := a2
  have HS := hide (show sgB b = if sg = true then (⟨#[45]⟩ : ByteArray) else ⟨#[]⟩ by
    unfold sgB
    rw [← hs]
    by_cases g : 9223372036854775808 ≤ b <;> simp [g])
  clear h0 hs a2
  cases sg
  all_goals
    go_enter Tryz.func87, Tryz.ntmps87
    go_wp2
    go_ret
    refine ⟨?_, Below.refl _ _⟩
    rw [unhide HS]
    rfl
end Go.Proofs.YtechaplindbfoaaGreatDoor.fto
