import Derived.Test.YtechaplindbfoaaGreatDoorJsi18
namespace Go.Proofs.YtechaplindbfoaaGreatDoor.fto
open Go.ChangeShapes Go.WideShapes Go.ChangeAt Go.RowKit
open mem Go.Sort
open ints (hide unhide)
set_option linter.unusedVariables false
set_option linter.unusedSimpArgs false
theorem andSignN (b : Nat) (h : b < 18446744073709551616) (sg : Bool) (hs : decide (9223372036854775808 ≤ b) = sg) : (bits .and .u64 (b : Int) 9223372036854775808 != 0) = sg := by
  have := u64_and_nat b 9223372036854775808 (by omega) (by omega)
  rw [nat_bit63] at this
  rw [show ((9223372036854775808 : Nat) : Int) = 9223372036854775808 from rfl] at this
  rw [this, ← hs]
  by_cases hb : 9223372036854775808 ≤ b
  · rw [decide_eq_true hb]
    have : b / 9223372036854775808 % 2 = 1 := by omega
    rw [this]; rfl
  · rw [decide_eq_false hb]
    have : b / 9223372036854775808 % 2 = 0 := by omega
    rw [this]; rfl
theorem ap (a b c : ByteArray) : a ++ b ++ c = a ++ (b ++ c) := ByteArray.append_assoc
theorem em_app (a : ByteArray) : (⟨#[]⟩ : ByteArray) ++ a = a := by
  apply ByteArray.ext
  rw [ByteArray.data_append]
  simp
/-- digits as a number and back -/
theorem dz_back_n : ∀ (n : Nat) (l : List Int), l.length = n → Dg l → l ≠ [] → (∀ r, l = 48 :: r → r = []) → dz (dv l) = l := by
  intro n
  induction n with
  | zero => intro l h _ h0; exact absurd (List.eq_nil_of_length_eq_zero h) h0
  | succ n ih =>
    intro l hlen hD _ hf
    obtain ⟨l', z, rfl⟩ : ∃ l' z, l = l' ++ [z] := by
      refine ⟨l.dropLast, l.getLast (fun h => by rw [h] at hlen; simp at hlen), (List.dropLast_concat_getLast _).symm⟩
    have hz := hD z (by simp)
    by_cases hl : l' = []
    · subst hl
      rw [List.nil_append, dv_cons]
      simp only [List.length_nil, Nat.pow_zero, Nat.mul_one]
      rw [show (z - 48).toNat + dv [] = (z - 48).toNat from rfl, dz_small (by omega)]
      congr 1
      omega
    · have ih' := ih l' (by simp at hlen; exact hlen) hD.left hl (fun r h => by
        have := hf (r ++ [z]) (by rw [h]; rfl)
        simp at this)
      have hv : dv (l' ++ [z]) = dv l' * 10 + (z - 48).toNat := by
        rw [dv_app, dv_cons]; simp [dv]
      have hpos : 1 ≤ dv l' := by
        rcases Nat.eq_zero_or_pos (dv l') with h | h
        · exfalso
          rw [h, dz_small (by decide)] at ih'
          have h48 : l' = [48] := by rw [← ih']; rfl
          have := hf [z] (by rw [h48]; rfl)
          simp at this
        · exact h
      rw [hv, dz_big (by omega), show (dv l' * 10 + (z - 48).toNat) / 10 = dv l' by omega, ih']
      congr 2
      omega
theorem dz_back (l : List Int) (h1 : Dg l) (h2 : l ≠ []) (h3 : ∀ r, l = 48 :: r → r = []) : dz (dv l) = l := dz_back_n _ l rfl h1 h2 h3
theorem dgs_dz (N : Nat) (hN : 1 ≤ N) : dgs N (Lib.nDigits N) = dz N := by
  have h1 := dv_dgs N (Lib.nDigits N) (Nat.le_refl _)
  rw [Nat.sub_self, Nat.pow_zero, Nat.div_one] at h1
  have hp := (nd_pow N hN).2.2
  have := dz_back (dgs N (Lib.nDigits N)) (dgs_rng N _) (fun h => by have := congrArg List.length h; rw [dgs_len] at this; simp at this; omega) (fun r h => absurd h (dgs_first N _ hN hp r))
  rw [h1] at this
  exact this.symm
/-- the reference's text of a whole number is the program's -/
theorem refWhole (n : Int) (w : World) (h0 : -9223372036854775808 ≤ n) (h1 : n ≤ 9223372036854775807) : Calls Tryz.prog 64 #[.int .i64 n] w fun e w' => e = .returned (.string (itB n)) ∧ Below w.heap.size w w' := by
  refine (wholeText_any n w h0 h1).mono ?_
  rintro e w1 ⟨k, hd, rfl, b⟩
  refine ⟨?_, b⟩
  rw [itB_itZ]
  unfold itZ
  have e1 : signL n = sgL (decide (n < 0)) := by
    unfold signL
    by_cases h : n < 0
    · rw [if_pos h, decide_eq_true h]; rfl
    · rw [if_neg h, decide_eq_false h]; rfl
  have e2 : topD n.natAbs k = dz n.natAbs := by
    by_cases h : n.natAbs = 0
    · rw [h] at hd ⊢
      have hk : k = 1 := by
        rcases hd.low with h2 | h2
        · exact h2
        · have : 0 < 10 ^ (k - 1) := Nat.pow_pos (by decide)
          omega
      subst hk
      rw [dz_small (by decide)]
      rfl
    · have hn := dec10_nd hd (by omega)
      have h3 := topD_dgs hd (by omega) k (Nat.le_refl _)
      rw [List.take_of_length_le (by rw [topD_len]; exact Nat.le_refl _)] at h3
      rw [h3, ← hn]
      exact dgs_dz _ (by omega)
  rw [e1, e2]
set_option maxHeartbeats 1000000 in
set_option maxRecDepth 100000 in
theorem tb_a (b : Nat) (sg : Bool) (S D : ByteArray) (P : Int) (w : World) (hb : b < 18446744073709551616) (hs : decide (9223372036854775808 ≤ b) = sg) (hS : S = if sg then ⟨#[45]⟩ else ⟨#[]⟩) (h0 : b % 9223372036854775808 ≠ 0) (hi : b % 9223372036854775808 < 9218868437227405312) (Pr : ByteArray → Int → Prop)
    (SH : Calls Tryz.prog 100 #[.int .u64 ((b % 9223372036854775808 : Nat) : Int)] w fun e w' => e = .returned (.tuple #[.string D, .int .i64 P]) ∧ Below w.heap.size w w') (D1 : 1 ≤ D.size) (D2 : D.size ≤ 30) (p1 : 1 ≤ P) (p2 : P ≤ 21) (p3 : (D.size : Int) ≤ P) :
    Calls Tryz.prog 87 #[.int .u64 (b : Int)] w fun e w' => e = .returned (.string (S ++ layB D P)) ∧ Below w.heap.size w w' := by
  have a1 := andSignN b hb sg hs
  have a2 := andNotSign b hb
  obtain ⟨a, ha⟩ : ∃ a, a = b % 9223372036854775808 := ⟨_, rfl⟩
  rw [← ha] at h0 hi SH a2
  have i1 : ¬ (9218868437227405312 : Int) ≤ (a : Int) := by omega
  have i2 : ((a : Int) == 0) = false := by rw [beq_eq_false_iff_ne]; omega
  have HSH := hide SH
  clear SH ha h0 hi hs
  obtain ⟨n, hn⟩ : ∃ n : Nat, P - (D.size : Int) = n := ⟨(P - D.size).toNat, by omega⟩
  have NG := hide (fun W => noughts_ok n W (by omega))
  have HE := hide (show layB D P = D ++ rpB n ++ ⟨#[46, 48]⟩ by unfold layB; rw [if_neg (by omega), if_neg (by omega), if_pos p3, show P.toNat - D.size = n by omega])
  have hl : (rpB n).size ≤ 30 := by rw [rpB_size]; omega
  generalize rpB n = R at *
  cases sg
  all_goals
    simp only [if_true, Bool.false_eq_true, if_false] at hS
    subst hS
    go_enter Tryz.func87, Tryz.ntmps87
    go_wp2_with fail
    refine (unhide HSH).mono ?_
    rintro e w1 ⟨rfl, b1⟩
    have B1 := hide b1
    clear b1
    go_wp2_with fail
    refine (unhide NG _).mono ?_
    rintro e w2 ⟨rfl, hw⟩
    subst w2
    go_wp2
    go_ret
    refine ⟨?_, unhide B1⟩
    rw [unhide HE, ← ap, ← ap]
    first
      | (rw [em_app]; rfl)
      | rfl
set_option maxHeartbeats 1000000 in
set_option maxRecDepth 100000 in
theorem tb_c (b : Nat) (sg : Bool) (S D : ByteArray) (P : Int) (w : World) (hb : b < 18446744073709551616) (hs : decide (9223372036854775808 ≤ b) = sg) (hS : S = if sg then ⟨#[45]⟩ else ⟨#[]⟩) (h0 : b % 9223372036854775808 ≠ 0) (hi : b % 9223372036854775808 < 9218868437227405312) (Pr : ByteArray → Int → Prop)
    (SH : Calls Tryz.prog 100 #[.int .u64 ((b % 9223372036854775808 : Nat) : Int)] w fun e w' => e = .returned (.tuple #[.string D, .int .i64 P]) ∧ Below w.heap.size w w') (D1 : 1 ≤ D.size) (D2 : D.size ≤ 30) (p1 : -5 ≤ P) (p2 : P ≤ 0) :
    Calls Tryz.prog 87 #[.int .u64 (b : Int)] w fun e w' => e = .returned (.string (S ++ layB D P)) ∧ Below w.heap.size w w' := by
  have a1 := andSignN b hb sg hs
  have a2 := andNotSign b hb
  obtain ⟨a, ha⟩ : ∃ a, a = b % 9223372036854775808 := ⟨_, rfl⟩
  rw [← ha] at h0 hi SH a2
  have i1 : ¬ (9218868437227405312 : Int) ≤ (a : Int) := by omega
  have i2 : ((a : Int) == 0) = false := by rw [beq_eq_false_iff_ne]; omega
  have HSH := hide SH
  clear SH ha h0 hi hs
  obtain ⟨n, hn⟩ : ∃ n : Nat, -P = n := ⟨(-P).toNat, by omega⟩
  have NG := hide (fun W => noughts_ok n W (by omega))
  rw [← hn] at NG
  have HE := hide (show layB D P = ⟨#[48, 46]⟩ ++ rpB n ++ D by unfold layB; rw [if_neg (by omega), if_pos p2, hn, Int.toNat_natCast])
  have hl : (rpB n).size ≤ 30 := by rw [rpB_size]; omega
  have q1 : decide ((1 : Int) ≤ P) = false := by rw [decide_eq_false_iff_not]; omega
  have q2 : decide ((-5 : Int) ≤ P) = true := by rw [decide_eq_true_eq]; omega
  have q3 : decide (P ≤ 0) = true := by rw [decide_eq_true_eq]; omega
  have hwr : wrap64 (-P) = -P := IntWalk.wrap64_in _ ⟨by omega, by omega⟩
  generalize rpB n = R at *
  clear hn
  clear p1 p2
  cases sg
  all_goals
    simp only [if_true, Bool.false_eq_true, if_false] at hS
    subst hS
    go_enter Tryz.func87, Tryz.ntmps87
    go_wp2_with fail
    refine (unhide HSH).mono ?_
    rintro e w1 ⟨rfl, b1⟩
    have B1 := hide b1
    clear b1
    go_wp2_with fail
    refine (unhide NG _).mono ?_
    rintro e w2 ⟨rfl, hw⟩
    subst w2
    go_wp2
    go_ret
    refine ⟨?_, unhide B1⟩
    rw [unhide HE, ← ap, ← ap]
    first
      | (rw [em_app]; rfl)
      | rfl
set_option maxHeartbeats 1000000 in
set_option maxRecDepth 100000 in
theorem tb_b (b : Nat) (sg : Bool) (S D : ByteArray) (P : Int) (w : World) (hb : b < 18446744073709551616) (hs : decide (9223372036854775808 ≤ b) = sg) (hS : S = if sg then ⟨#[45]⟩ else ⟨#[]⟩) (h0 : b % 9223372036854775808 ≠ 0) (hi : b % 9223372036854775808 < 9218868437227405312) (Pr : ByteArray → Int → Prop)
    (SH : Calls Tryz.prog 100 #[.int .u64 ((b % 9223372036854775808 : Nat) : Int)] w fun e w' => e = .returned (.tuple #[.string D, .int .i64 P]) ∧ Below w.heap.size w w') (D1 : 1 ≤ D.size) (D2 : D.size ≤ 30) (p1 : 1 ≤ P) (p2 : P ≤ 21) (p3 : ¬ (D.size : Int) ≤ P) :
    Calls Tryz.prog 87 #[.int .u64 (b : Int)] w fun e w' => e = .returned (.string (S ++ layB D P)) ∧ Below w.heap.size w w' := by
  have a1 := andSignN b hb sg hs
  have a2 := andNotSign b hb
  obtain ⟨a, ha⟩ : ∃ a, a = b % 9223372036854775808 := ⟨_, rfl⟩
  rw [← ha] at h0 hi SH a2
  have i1 : ¬ (9218868437227405312 : Int) ≤ (a : Int) := by omega
  have i2 : ((a : Int) == 0) = false := by rw [beq_eq_false_iff_ne]; omega
  have HSH := hide SH
  clear SH ha h0 hi hs
  have HE := hide (show layB D P = D.extract 0 P.toNat ++ ⟨#[46]⟩ ++ D.extract P.toNat D.size by unfold layB; rw [if_neg (by omega), if_neg (by omega), if_neg p3])
  have e1 := sz_ext D 0 P.toNat
  have e2 := sz_ext D P.toNat D.size
  have hn : P ≤ D.size := by omega
  have hn0 : 0 ≤ P := by omega
  have q1 : decide ((1 : Int) ≤ P) = true := by rw [decide_eq_true_eq]; omega
  have q2 : decide (P ≤ 21) = true := by rw [decide_eq_true_eq]; omega
  have q3 : decide ((D.size : Int) ≤ P) = false := by rw [decide_eq_false_iff_not]; omega
  clear p1 p2 p3
  cases sg
  all_goals
    simp only [if_true, Bool.false_eq_true, if_false] at hS
    subst hS
    go_enter Tryz.func87, Tryz.ntmps87
    go_wp2_with fail
    refine (unhide HSH).mono ?_
    rintro e w1 ⟨rfl, b1⟩
    have B1 := hide b1
    clear b1
    go_wp2_with fail
    go_region
    all_goals go_wp2
    all_goals go_ret
    all_goals refine ⟨?_, (unhide B1).drew⟩
    all_goals rw [unhide HE, ← ap, ← ap]
    all_goals first
      | (rw [em_app]; rfl)
      | rfl
set_option maxHeartbeats 1000000 in
set_option maxRecDepth 100000 in
theorem tb_fl (b : Nat) (sg : Bool) (S D : ByteArray) (P : Int) (w : World) (hb : b < 18446744073709551616) (hs : decide (9223372036854775808 ≤ b) = sg) (hS : S = if sg then ⟨#[45]⟩ else ⟨#[]⟩) (h0 : b % 9223372036854775808 ≠ 0) (hi : b % 9223372036854775808 < 9218868437227405312) (Pr : ByteArray → Int → Prop)
    (SH : Calls Tryz.prog 100 #[.int .u64 ((b % 9223372036854775808 : Nat) : Int)] w fun e w' => e = .returned (.tuple #[.string D, .int .i64 P]) ∧ Below w.heap.size w w') (D1 : 1 ≤ D.size) (D2 : D.size ≤ 30) (p1 : P < -5) (P0 : -1000 ≤ P) (P1 : P ≤ 1000) (hd1 : D.size = 1) :
    Calls Tryz.prog 87 #[.int .u64 (b : Int)] w fun e w' => e = .returned (.string (S ++ layB D P)) ∧ Below w.heap.size w w' := by
  have a1 := andSignN b hb sg hs
  have a2 := andNotSign b hb
  obtain ⟨a, ha⟩ : ∃ a, a = b % 9223372036854775808 := ⟨_, rfl⟩
  rw [← ha] at h0 hi SH a2
  have i1 : ¬ (9218868437227405312 : Int) ≤ (a : Int) := by omega
  have i2 : ((a : Int) == 0) = false := by rw [beq_eq_false_iff_ne]; omega
  have HSH := hide SH
  clear SH ha h0 hi hs
  have WT := hide (fun W => refWhole (P - 1) W (by omega) (by omega))
  have hl := itB_size (P - 1) (by omega) (by omega)
  have hwr : wrap64 (P - 1) = P - 1 := IntWalk.wrap64_in _ ⟨by omega, by omega⟩
  have hwr2 : IntKind.i64.wrap (P - 1) = P - 1 := IntWalk.i64_in _ ⟨by omega, by omega⟩
  have HE := hide (show layB D P = D ++ ⟨#[101]⟩ ++ itB (P - 1) by
    unfold layB expB
    rw [if_pos (by omega), if_neg (by omega)]
    congr 2
    apply ByteArray.ext
    rw [ByteArray.data_extract]
    have : D.data.size = 1 := hd1
    simp [this])
  have i3 : ¬ (1 : Int) < (D.size : Int) := by omega
  have q1 : decide ((1 : Int) ≤ P) = false := by rw [decide_eq_false_iff_not]; omega
  have q2 : decide ((-5 : Int) ≤ P) = false := by rw [decide_eq_false_iff_not]; omega
  generalize itB (P - 1) = I at *
  clear p1 P0 P1
  cases sg
  all_goals
    simp only [if_true, Bool.false_eq_true, if_false] at hS
    subst hS
    go_enter Tryz.func87, Tryz.ntmps87
    go_wp2_with fail
    refine (unhide HSH).mono ?_
    rintro e w1 ⟨rfl, b1⟩
    have B1 := hide b1
    clear b1
    go_wp2_with fail
    refine (unhide WT _).mono ?_
    rintro e w2 ⟨rfl, b2⟩
    have B2 := hide ((unhide B1).trans (b2.mono (unhide B1).size))
    clear b2
    go_wp2
    go_ret
    refine ⟨?_, unhide B2⟩
    rw [unhide HE, ← ap, ← ap]
    first
      | (rw [em_app]; rfl)
      | rfl
set_option maxHeartbeats 1000000 in
set_option maxRecDepth 100000 in
theorem tb_el (b : Nat) (sg : Bool) (S D : ByteArray) (P : Int) (w : World) (hb : b < 18446744073709551616) (hs : decide (9223372036854775808 ≤ b) = sg) (hS : S = if sg then ⟨#[45]⟩ else ⟨#[]⟩) (h0 : b % 9223372036854775808 ≠ 0) (hi : b % 9223372036854775808 < 9218868437227405312) (Pr : ByteArray → Int → Prop)
    (SH : Calls Tryz.prog 100 #[.int .u64 ((b % 9223372036854775808 : Nat) : Int)] w fun e w' => e = .returned (.tuple #[.string D, .int .i64 P]) ∧ Below w.heap.size w w') (D1 : 1 ≤ D.size) (D2 : D.size ≤ 30) (p1 : P < -5) (P0 : -1000 ≤ P) (P1 : P ≤ 1000) (hd1 : 1 < D.size) :
    Calls Tryz.prog 87 #[.int .u64 (b : Int)] w fun e w' => e = .returned (.string (S ++ layB D P)) ∧ Below w.heap.size w w' := by
  have a1 := andSignN b hb sg hs
  have a2 := andNotSign b hb
  obtain ⟨a, ha⟩ : ∃ a, a = b % 9223372036854775808 := ⟨_, rfl⟩
  rw [← ha] at h0 hi SH a2
  have i1 : ¬ (9218868437227405312 : Int) ≤ (a : Int) := by omega
  have i2 : ((a : Int) == 0) = false := by rw [beq_eq_false_iff_ne]; omega
  have HSH := hide SH
  clear SH ha h0 hi hs
  have WT := hide (fun W => refWhole (P - 1) W (by omega) (by omega))
  have hl := itB_size (P - 1) (by omega) (by omega)
  have hwr : wrap64 (P - 1) = P - 1 := IntWalk.wrap64_in _ ⟨by omega, by omega⟩
  have hwr2 : IntKind.i64.wrap (P - 1) = P - 1 := IntWalk.i64_in _ ⟨by omega, by omega⟩
  have HE := hide (show layB D P = D.extract 0 1 ++ (⟨#[46]⟩ ++ D.extract 1 D.size) ++ ⟨#[101]⟩ ++ itB (P - 1) by
    unfold layB expB
    rw [if_pos (by omega), if_pos hd1])
  have e1 := sz_ext D 0 1
  have e2 := sz_ext D 1 D.size
  have i3 : (1 : Int) < (D.size : Int) := by omega
  have i4 : (1 : Int) ≤ (D.size : Int) := by omega
  have q1 : decide ((1 : Int) ≤ P) = false := by rw [decide_eq_false_iff_not]; omega
  have q2 : decide ((-5 : Int) ≤ P) = false := by rw [decide_eq_false_iff_not]; omega
  generalize itB (P - 1) = I at *
  have HST := hide (show ∀ S : ByteArray, S ++ layB D P = S ++ D.extract 0 1 ++ ⟨#[46]⟩ ++ D.extract 1 D.size ++ ⟨#[101]⟩ ++ I from fun S => by rw [unhide HE]; simp only [ap])
  clear p1 P0 P1
  cases sg
  · skip
    simp only [if_true, Bool.false_eq_true, if_false] at hS
    subst hS
    go_enter Tryz.func87, Tryz.ntmps87
    go_wp2_with fail
    refine (unhide HSH).mono ?_
    rintro e w1 ⟨rfl, b1⟩
    have B1 := hide b1
    clear b1
    go_wp2_with fail
    refine wp_region_noPanic ?_
    refine wp_region_held (S := fun _ => True) mixed ?_
    have hS0 : True := trivial
    have z1 : ∀ k : Nat, k ≤ 1000 → ¬ 9223372036854775807 < k + (D.size - 1) := fun k h => by omega
    have z2 : ∀ k j : Nat, k ≤ 1000 → j ≤ 1000 → ¬ 9223372036854775807 < k + (D.size - 1) + j := fun k j h h' => by omega
    have z3 : ∀ k : Nat, k ≤ 1000 → ¬ 9223372036854775807 < k + (D.size - 1) + I.size := fun k h => by omega
    have z4 : ∀ k j : Nat, k ≤ 1000 → j ≤ 1000 → ¬ 9223372036854775807 < k + (D.size - 1) + j + I.size := fun k j h h' => by omega
    refine wpAnyH_take (i := 0) (v := ?v1) rfl (by kernel_rfl) (by kernel_rfl) (by kernel_rfl) (fun _ _ _ h => h) (Or.inl ⟨by rfl, ?hy1⟩) hS0 ?_
    case hy1 => (intro w' hw'; skip; go_simp; try with_reducible rfl)
    simp only [List.getElem_toArray, List.getElem_cons_zero, List.getElem_cons_succ, Act.put, List.setIfInBounds_toArray, List.set_cons_zero, List.set_cons_succ]
    refine wpAnyH_take (i := 1) (v := ?v2) rfl (by kernel_rfl) (by kernel_rfl) (by kernel_rfl) (fun _ _ _ h => h) (Or.inl ⟨by rfl, ?hy2⟩) hS0 ?_
    case hy2 => (intro w' hw'; skip; go_simp; try with_reducible rfl)
    simp only [List.getElem_toArray, List.getElem_cons_zero, List.getElem_cons_succ, Act.put, List.setIfInBounds_toArray, List.set_cons_zero, List.set_cons_succ]
    refine wpAnyH_take (i := 2) (v := ?v3) rfl (by kernel_rfl) (by kernel_rfl) (by kernel_rfl) (fun _ _ _ h => h) (Or.inl ⟨by rfl, ?hy3⟩) hS0 ?_
    case hy3 => (intro w' hw'; skip; go_simp; try with_reducible rfl)
    simp only [List.getElem_toArray, List.getElem_cons_zero, List.getElem_cons_succ, Act.put, List.setIfInBounds_toArray, List.set_cons_zero, List.set_cons_succ]
    refine wpAnyH_take (i := 3) (v := ?v4) rfl (by kernel_rfl) (by kernel_rfl) (by kernel_rfl) (fun _ _ _ h => h) (Or.inl ⟨by rfl, ?hy4⟩) hS0 ?_
    case hy4 => (intro w' hw'; skip; go_simp; try with_reducible rfl)
    simp only [List.getElem_toArray, List.getElem_cons_zero, List.getElem_cons_succ, Act.put, List.setIfInBounds_toArray, List.set_cons_zero, List.set_cons_succ]
    refine wpAnyH_take (i := 4) (v := ?v5) rfl (by kernel_rfl) (by kernel_rfl) (by kernel_rfl) (fun _ _ _ h => h) (Or.inl ⟨by rfl, ?hy5⟩) hS0 ?_
    case hy5 => (intro w' hw'; skip; go_simp; try with_reducible rfl)
    simp only [List.getElem_toArray, List.getElem_cons_zero, List.getElem_cons_succ, Act.put, List.setIfInBounds_toArray, List.set_cons_zero, List.set_cons_succ]
    refine wpAnyH_take (i := 5) (v := ?v6) rfl (by kernel_rfl) (by kernel_rfl) (by kernel_rfl) (fun _ _ _ h => h) (Or.inl ⟨by rfl, ?hy6⟩) hS0 ?_
    case hy6 => (intro w' hw'; skip; go_simp; try with_reducible rfl)
    simp only [List.getElem_toArray, List.getElem_cons_zero, List.getElem_cons_succ, Act.put, List.setIfInBounds_toArray, List.set_cons_zero, List.set_cons_succ]
    refine wpAnyH_take (i := 6) (v := ?v7) rfl (by kernel_rfl) (by kernel_rfl) (by kernel_rfl) (fun _ _ _ h => h) (Or.inl ⟨by rfl, ?hy7⟩) hS0 ?_
    case hy7 => (intro w' hw'; skip; go_simp; try with_reducible rfl)
    simp only [List.getElem_toArray, List.getElem_cons_zero, List.getElem_cons_succ, Act.put, List.setIfInBounds_toArray, List.set_cons_zero, List.set_cons_succ]
    refine wpAnyH_take (i := 7) (v := ?v8) rfl (by kernel_rfl) (by kernel_rfl) (by kernel_rfl) (fun _ _ _ h => h) (Or.inl ⟨by rfl, ?hy8⟩) hS0 ?_
    case hy8 => (intro w' hw'; skip; go_simp; try with_reducible rfl)
    simp only [List.getElem_toArray, List.getElem_cons_zero, List.getElem_cons_succ, Act.put, List.setIfInBounds_toArray, List.set_cons_zero, List.set_cons_succ]
    refine wpAnyH_take (i := 8) (v := ?v9) rfl (by kernel_rfl) (by kernel_rfl) (by kernel_rfl) (fun _ _ _ h => h) (Or.inl ⟨by rfl, ?hy9⟩) hS0 ?_
    case hy9 => (intro w' hw'; skip; go_simp; try with_reducible rfl)
    simp only [List.getElem_toArray, List.getElem_cons_zero, List.getElem_cons_succ, Act.put, List.setIfInBounds_toArray, List.set_cons_zero, List.set_cons_succ]
    refine wpAnyH_take (i := 9) (v := ?v10) rfl (by kernel_rfl) (by kernel_rfl) (by kernel_rfl) (fun _ _ _ h => h) (Or.inl ⟨by rfl, ?hy10⟩) hS0 ?_
    case hy10 => (intro w' hw'; skip; go_simp; try with_reducible rfl)
    simp only [List.getElem_toArray, List.getElem_cons_zero, List.getElem_cons_succ, Act.put, List.setIfInBounds_toArray, List.set_cons_zero, List.set_cons_succ]
    refine wpAnyH_take (i := 10) (v := ?v11) rfl (by kernel_rfl) (by kernel_rfl) (by kernel_rfl) (fun _ _ _ h => h) (Or.inl ⟨by rfl, ?hy11⟩) hS0 ?_
    case hy11 => (intro w' hw'; skip; go_simp; try with_reducible rfl)
    simp only [List.getElem_toArray, List.getElem_cons_zero, List.getElem_cons_succ, Act.put, List.setIfInBounds_toArray, List.set_cons_zero, List.set_cons_succ]
    refine rgn.one (i := 11) _ rfl (by kernel_rfl) (by rfl) ?_
    simp only [List.getElem_toArray, List.getElem_cons_zero, List.getElem_cons_succ, Act.put, List.setIfInBounds_toArray, List.set_cons_zero, List.set_cons_succ]
    refine callW _ _ _ _ rfl Tryz.func64 (by kernel_rfl) (by kernel_rfl) #[.int .i64 (P - 1)] (by simp only [List.map_toArray, List.map_cons, List.map_nil]; rfl) ?_
    refine (unhide WT _).mono ?_
    rintro e w2 ⟨rfl, b2⟩
    have B2 := hide ((unhide B1).trans ((((Below.refl _ _).drew : Below w1.heap.size w1 w1.drew).trans b2).mono (unhide B1).size))
    clear b2
    refine ⟨_, rfl, trivial, ?_⟩
    try simp only [List.getElem_toArray, List.getElem_cons_zero, List.getElem_cons_succ, Act.put, List.setIfInBounds_toArray, List.set_cons_zero, List.set_cons_succ]
    refine wpAnyH_take (i := 12) (v := ?v12) rfl (by kernel_rfl) (by kernel_rfl) (by kernel_rfl) (fun _ _ _ h => h) (Or.inl ⟨by rfl, ?hy12⟩) hS0 ?_
    case hy12 => (intro w' hw'; skip; go_simp; try with_reducible rfl)
    simp only [List.getElem_toArray, List.getElem_cons_zero, List.getElem_cons_succ, Act.put, List.setIfInBounds_toArray, List.set_cons_zero, List.set_cons_succ]
    refine wpAnyH_take (i := 13) (v := ?v13) rfl (by kernel_rfl) (by kernel_rfl) (by kernel_rfl) (fun _ _ _ h => h) (Or.inl ⟨by rfl, ?hy13⟩) hS0 ?_
    case hy13 => (intro w' hw'; skip; go_simp; try with_reducible rfl)
    simp only [List.getElem_toArray, List.getElem_cons_zero, List.getElem_cons_succ, Act.put, List.setIfInBounds_toArray, List.set_cons_zero, List.set_cons_succ]
    refine wpAnyH_done (by kernel_rfl) ?_ _; refine NoPanic.normal ?_
    go_wp2
    go_ret
    refine ⟨?_, unhide B2⟩
    rw [unhide HST]
    rfl
  · skip
    simp only [if_true, Bool.false_eq_true, if_false] at hS
    subst hS
    go_enter Tryz.func87, Tryz.ntmps87
    go_wp2_with fail
    refine (unhide HSH).mono ?_
    rintro e w1 ⟨rfl, b1⟩
    have B1 := hide b1
    clear b1
    go_wp2_with fail
    refine wp_region_noPanic ?_
    refine wp_region_held (S := fun _ => True) mixed ?_
    have hS0 : True := trivial
    have z1 : ∀ k : Nat, k ≤ 1000 → ¬ 9223372036854775807 < k + (D.size - 1) := fun k h => by omega
    have z2 : ∀ k j : Nat, k ≤ 1000 → j ≤ 1000 → ¬ 9223372036854775807 < k + (D.size - 1) + j := fun k j h h' => by omega
    have z3 : ∀ k : Nat, k ≤ 1000 → ¬ 9223372036854775807 < k + (D.size - 1) + I.size := fun k h => by omega
    have z4 : ∀ k j : Nat, k ≤ 1000 → j ≤ 1000 → ¬ 9223372036854775807 < k + (D.size - 1) + j + I.size := fun k j h h' => by omega
    refine wpAnyH_take (i := 0) (v := ?v14) rfl (by kernel_rfl) (by kernel_rfl) (by kernel_rfl) (fun _ _ _ h => h) (Or.inl ⟨by rfl, ?hy14⟩) hS0 ?_
    case hy14 => (intro w' hw'; skip; go_simp; try with_reducible rfl)
    simp only [List.getElem_toArray, List.getElem_cons_zero, List.getElem_cons_succ, Act.put, List.setIfInBounds_toArray, List.set_cons_zero, List.set_cons_succ]
    refine wpAnyH_take (i := 1) (v := ?v15) rfl (by kernel_rfl) (by kernel_rfl) (by kernel_rfl) (fun _ _ _ h => h) (Or.inl ⟨by rfl, ?hy15⟩) hS0 ?_
    case hy15 => (intro w' hw'; skip; go_simp; try with_reducible rfl)
    simp only [List.getElem_toArray, List.getElem_cons_zero, List.getElem_cons_succ, Act.put, List.setIfInBounds_toArray, List.set_cons_zero, List.set_cons_succ]
    refine wpAnyH_take (i := 2) (v := ?v16) rfl (by kernel_rfl) (by kernel_rfl) (by kernel_rfl) (fun _ _ _ h => h) (Or.inl ⟨by rfl, ?hy16⟩) hS0 ?_
    case hy16 => (intro w' hw'; skip; go_simp; try with_reducible rfl)
    simp only [List.getElem_toArray, List.getElem_cons_zero, List.getElem_cons_succ, Act.put, List.setIfInBounds_toArray, List.set_cons_zero, List.set_cons_succ]
    refine wpAnyH_take (i := 3) (v := ?v17) rfl (by kernel_rfl) (by kernel_rfl) (by kernel_rfl) (fun _ _ _ h => h) (Or.inl ⟨by rfl, ?hy17⟩) hS0 ?_
    case hy17 => (intro w' hw'; skip; go_simp; try with_reducible rfl)
    simp only [List.getElem_toArray, List.getElem_cons_zero, List.getElem_cons_succ, Act.put, List.setIfInBounds_toArray, List.set_cons_zero, List.set_cons_succ]
    refine wpAnyH_take (i := 4) (v := ?v18) rfl (by kernel_rfl) (by kernel_rfl) (by kernel_rfl) (fun _ _ _ h => h) (Or.inl ⟨by rfl, ?hy18⟩) hS0 ?_
    case hy18 => (intro w' hw'; skip; go_simp; try with_reducible rfl)
    simp only [List.getElem_toArray, List.getElem_cons_zero, List.getElem_cons_succ, Act.put, List.setIfInBounds_toArray, List.set_cons_zero, List.set_cons_succ]
    refine wpAnyH_take (i := 5) (v := ?v19) rfl (by kernel_rfl) (by kernel_rfl) (by kernel_rfl) (fun _ _ _ h => h) (Or.inl ⟨by rfl, ?hy19⟩) hS0 ?_
    case hy19 => (intro w' hw'; skip; go_simp; try with_reducible rfl)
    simp only [List.getElem_toArray, List.getElem_cons_zero, List.getElem_cons_succ, Act.put, List.setIfInBounds_toArray, List.set_cons_zero, List.set_cons_succ]
    refine wpAnyH_take (i := 6) (v := ?v20) rfl (by kernel_rfl) (by kernel_rfl) (by kernel_rfl) (fun _ _ _ h => h) (Or.inl ⟨by rfl, ?hy20⟩) hS0 ?_
    case hy20 => (intro w' hw'; skip; go_simp; try with_reducible rfl)
    simp only [List.getElem_toArray, List.getElem_cons_zero, List.getElem_cons_succ, Act.put, List.setIfInBounds_toArray, List.set_cons_zero, List.set_cons_succ]
    refine wpAnyH_take (i := 7) (v := ?v21) rfl (by kernel_rfl) (by kernel_rfl) (by kernel_rfl) (fun _ _ _ h => h) (Or.inl ⟨by rfl, ?hy21⟩) hS0 ?_
    case hy21 => (intro w' hw'; skip; go_simp; try with_reducible rfl)
    simp only [List.getElem_toArray, List.getElem_cons_zero, List.getElem_cons_succ, Act.put, List.setIfInBounds_toArray, List.set_cons_zero, List.set_cons_succ]
    refine wpAnyH_take (i := 8) (v := ?v22) rfl (by kernel_rfl) (by kernel_rfl) (by kernel_rfl) (fun _ _ _ h => h) (Or.inl ⟨by rfl, ?hy22⟩) hS0 ?_
    case hy22 => (intro w' hw'; skip; go_simp; try with_reducible rfl)
    simp only [List.getElem_toArray, List.getElem_cons_zero, List.getElem_cons_succ, Act.put, List.setIfInBounds_toArray, List.set_cons_zero, List.set_cons_succ]
    refine wpAnyH_take (i := 9) (v := ?v23) rfl (by kernel_rfl) (by kernel_rfl) (by kernel_rfl) (fun _ _ _ h => h) (Or.inl ⟨by rfl, ?hy23⟩) hS0 ?_
    case hy23 => (intro w' hw'; skip; go_simp; try with_reducible rfl)
    simp only [List.getElem_toArray, List.getElem_cons_zero, List.getElem_cons_succ, Act.put, List.setIfInBounds_toArray, List.set_cons_zero, List.set_cons_succ]
    refine wpAnyH_take (i := 10) (v := ?v24) rfl (by kernel_rfl) (by kernel_rfl) (by kernel_rfl) (fun _ _ _ h => h) (Or.inl ⟨by rfl, ?hy24⟩) hS0 ?_
    case hy24 => (intro w' hw'; skip; go_simp; try with_reducible rfl)
    simp only [List.getElem_toArray, List.getElem_cons_zero, List.getElem_cons_succ, Act.put, List.setIfInBounds_toArray, List.set_cons_zero, List.set_cons_succ]
    refine rgn.one (i := 11) _ rfl (by kernel_rfl) (by rfl) ?_
    simp only [List.getElem_toArray, List.getElem_cons_zero, List.getElem_cons_succ, Act.put, List.setIfInBounds_toArray, List.set_cons_zero, List.set_cons_succ]
    refine callW _ _ _ _ rfl Tryz.func64 (by kernel_rfl) (by kernel_rfl) #[.int .i64 (P - 1)] (by simp only [List.map_toArray, List.map_cons, List.map_nil]; rfl) ?_
    refine (unhide WT _).mono ?_
    rintro e w2 ⟨rfl, b2⟩
    have B2 := hide ((unhide B1).trans ((((Below.refl _ _).drew : Below w1.heap.size w1 w1.drew).trans b2).mono (unhide B1).size))
    clear b2
    refine ⟨_, rfl, trivial, ?_⟩
    try simp only [List.getElem_toArray, List.getElem_cons_zero, List.getElem_cons_succ, Act.put, List.setIfInBounds_toArray, List.set_cons_zero, List.set_cons_succ]
    refine wpAnyH_take (i := 12) (v := ?v25) rfl (by kernel_rfl) (by kernel_rfl) (by kernel_rfl) (fun _ _ _ h => h) (Or.inl ⟨by rfl, ?hy25⟩) hS0 ?_
    case hy25 => (intro w' hw'; skip; go_simp; try with_reducible rfl)
    simp only [List.getElem_toArray, List.getElem_cons_zero, List.getElem_cons_succ, Act.put, List.setIfInBounds_toArray, List.set_cons_zero, List.set_cons_succ]
    refine wpAnyH_take (i := 13) (v := ?v26) rfl (by kernel_rfl) (by kernel_rfl) (by kernel_rfl) (fun _ _ _ h => h) (Or.inl ⟨by rfl, ?hy26⟩) hS0 ?_
    case hy26 => (intro w' hw'; skip; go_simp; try with_reducible rfl)
    simp only [List.getElem_toArray, List.getElem_cons_zero, List.getElem_cons_succ, Act.put, List.setIfInBounds_toArray, List.set_cons_zero, List.set_cons_succ]
    refine wpAnyH_done (by kernel_rfl) ?_ _; refine NoPanic.normal ?_
    go_wp2
    go_ret
    refine ⟨?_, unhide B2⟩
    rw [unhide HST]
    rfl
set_option maxHeartbeats 1000000 in
set_option maxRecDepth 100000 in
theorem tb_fh (b : Nat) (sg : Bool) (S D : ByteArray) (P : Int) (w : World) (hb : b < 18446744073709551616) (hs : decide (9223372036854775808 ≤ b) = sg) (hS : S = if sg then ⟨#[45]⟩ else ⟨#[]⟩) (h0 : b % 9223372036854775808 ≠ 0) (hi : b % 9223372036854775808 < 9218868437227405312) (Pr : ByteArray → Int → Prop)
    (SH : Calls Tryz.prog 100 #[.int .u64 ((b % 9223372036854775808 : Nat) : Int)] w fun e w' => e = .returned (.tuple #[.string D, .int .i64 P]) ∧ Below w.heap.size w w') (D1 : 1 ≤ D.size) (D2 : D.size ≤ 30) (p1 : 21 < P) (P0 : -1000 ≤ P) (P1 : P ≤ 1000) (hd1 : D.size = 1) :
    Calls Tryz.prog 87 #[.int .u64 (b : Int)] w fun e w' => e = .returned (.string (S ++ layB D P)) ∧ Below w.heap.size w w' := by
  have a1 := andSignN b hb sg hs
  have a2 := andNotSign b hb
  obtain ⟨a, ha⟩ : ∃ a, a = b % 9223372036854775808 := ⟨_, rfl⟩
  rw [← ha] at h0 hi SH a2
  have i1 : ¬ (9218868437227405312 : Int) ≤ (a : Int) := by omega
  have i2 : ((a : Int) == 0) = false := by rw [beq_eq_false_iff_ne]; omega
  have HSH := hide SH
  clear SH ha h0 hi hs
  have WT := hide (fun W => refWhole (P - 1) W (by omega) (by omega))
  have hl := itB_size (P - 1) (by omega) (by omega)
  have hwr : wrap64 (P - 1) = P - 1 := IntWalk.wrap64_in _ ⟨by omega, by omega⟩
  have hwr2 : IntKind.i64.wrap (P - 1) = P - 1 := IntWalk.i64_in _ ⟨by omega, by omega⟩
  have HE := hide (show layB D P = D ++ ⟨#[101]⟩ ++ itB (P - 1) by
    unfold layB expB
    rw [if_pos (by omega), if_neg (by omega)]
    congr 2
    apply ByteArray.ext
    rw [ByteArray.data_extract]
    have : D.data.size = 1 := hd1
    simp [this])
  have i3 : ¬ (1 : Int) < (D.size : Int) := by omega
  have q1 : decide ((1 : Int) ≤ P) = true := by rw [decide_eq_true_eq]; omega
  have q2 : decide ((-5 : Int) ≤ P) = true := by rw [decide_eq_true_eq]; omega
  have q3 : decide (P ≤ 21) = false := by rw [decide_eq_false_iff_not]; omega
  have q4 : decide (P ≤ 0) = false := by rw [decide_eq_false_iff_not]; omega
  generalize itB (P - 1) = I at *
  clear p1 P0 P1
  cases sg
  all_goals
    simp only [if_true, Bool.false_eq_true, if_false] at hS
    subst hS
    go_enter Tryz.func87, Tryz.ntmps87
    go_wp2_with fail
    refine (unhide HSH).mono ?_
    rintro e w1 ⟨rfl, b1⟩
    have B1 := hide b1
    clear b1
    go_wp2_with fail
    refine (unhide WT _).mono ?_
    rintro e w2 ⟨rfl, b2⟩
    have B2 := hide ((unhide B1).trans (b2.mono (unhide B1).size))
    clear b2
    go_wp2
    go_ret
    refine ⟨?_, unhide B2⟩
    rw [unhide HE, ← ap, ← ap]
    first
      | (rw [em_app]; rfl)
      | rfl
set_option maxHeartbeats 1000000 in
set_option maxRecDepth 100000 in
theorem tb_eh (b : Nat) (sg : Bool) (S D : ByteArray) (P : Int) (w : World) (hb : b < 18446744073709551616) (hs : decide (9223372036854775808 ≤ b) = sg) (hS : S = if sg then ⟨#[45]⟩ else ⟨#[]⟩) (h0 : b % 9223372036854775808 ≠ 0) (hi : b % 9223372036854775808 < 9218868437227405312) (Pr : ByteArray → Int → Prop)
    (SH : Calls Tryz.prog 100 #[.int .u64 ((b % 9223372036854775808 : Nat) : Int)] w fun e w' => e = .returned (.tuple #[.string D, .int .i64 P]) ∧ Below w.heap.size w w') (D1 : 1 ≤ D.size) (D2 : D.size ≤ 30) (p1 : 21 < P) (P0 : -1000 ≤ P) (P1 : P ≤ 1000) (hd1 : 1 < D.size) :
    Calls Tryz.prog 87 #[.int .u64 (b : Int)] w fun e w' => e = .returned (.string (S ++ layB D P)) ∧ Below w.heap.size w w' := by
  have a1 := andSignN b hb sg hs
  have a2 := andNotSign b hb
  obtain ⟨a, ha⟩ : ∃ a, a = b % 9223372036854775808 := ⟨_, rfl⟩
  rw [← ha] at h0 hi SH a2
  have i1 : ¬ (9218868437227405312 : Int) ≤ (a : Int) := by omega
  have i2 : ((a : Int) == 0) = false := by rw [beq_eq_false_iff_ne]; omega
  have HSH := hide SH
  clear SH ha h0 hi hs
  have WT := hide (fun W => refWhole (P - 1) W (by omega) (by omega))
  have hl := itB_size (P - 1) (by omega) (by omega)
  have hwr : wrap64 (P - 1) = P - 1 := IntWalk.wrap64_in _ ⟨by omega, by omega⟩
  have hwr2 : IntKind.i64.wrap (P - 1) = P - 1 := IntWalk.i64_in _ ⟨by omega, by omega⟩
  have HE := hide (show layB D P = D.extract 0 1 ++ (⟨#[46]⟩ ++ D.extract 1 D.size) ++ ⟨#[101]⟩ ++ itB (P - 1) by
    unfold layB expB
    rw [if_pos (by omega), if_pos hd1])
  have e1 := sz_ext D 0 1
  have e2 := sz_ext D 1 D.size
  have i3 : (1 : Int) < (D.size : Int) := by omega
  have i4 : (1 : Int) ≤ (D.size : Int) := by omega
  have q1 : decide ((1 : Int) ≤ P) = true := by rw [decide_eq_true_eq]; omega
  have q2 : decide ((-5 : Int) ≤ P) = true := by rw [decide_eq_true_eq]; omega
  have q3 : decide (P ≤ 21) = false := by rw [decide_eq_false_iff_not]; omega
  have q4 : decide (P ≤ 0) = false := by rw [decide_eq_false_iff_not]; omega
  generalize itB (P - 1) = I at *
  have HST := hide (show ∀ S : ByteArray, S ++ layB D P = S ++ D.extract 0 1 ++ ⟨#[46]⟩ ++ D.extract 1 D.size ++ ⟨#[101]⟩ ++ I from fun S => by rw [unhide HE]; simp only [ap])
  clear p1 P0 P1
  cases sg
  · skip
    simp only [if_true, Bool.false_eq_true, if_false] at hS
    subst hS
    go_enter Tryz.func87, Tryz.ntmps87
    go_wp2_with fail
    refine (unhide HSH).mono ?_
    rintro e w1 ⟨rfl, b1⟩
    have B1 := hide b1
    clear b1
    go_wp2_with fail
    refine wp_region_noPanic ?_
    refine wp_region_held (S := fun _ => True) mixed ?_
    have hS0 : True := trivial
    have z1 : ∀ k : Nat, k ≤ 1000 → ¬ 9223372036854775807 < k + (D.size - 1) := fun k h => by omega
    have z2 : ∀ k j : Nat, k ≤ 1000 → j ≤ 1000 → ¬ 9223372036854775807 < k + (D.size - 1) + j := fun k j h h' => by omega
    have z3 : ∀ k : Nat, k ≤ 1000 → ¬ 9223372036854775807 < k + (D.size - 1) + I.size := fun k h => by omega
    have z4 : ∀ k j : Nat, k ≤ 1000 → j ≤ 1000 → ¬ 9223372036854775807 < k + (D.size - 1) + j + I.size := fun k j h h' => by omega
    refine wpAnyH_take (i := 0) (v := ?v27) rfl (by kernel_rfl) (by kernel_rfl) (by kernel_rfl) (fun _ _ _ h => h) (Or.inl ⟨by rfl, ?hy27⟩) hS0 ?_
    case hy27 => (intro w' hw'; skip; go_simp; try with_reducible rfl)
    simp only [List.getElem_toArray, List.getElem_cons_zero, List.getElem_cons_succ, Act.put, List.setIfInBounds_toArray, List.set_cons_zero, List.set_cons_succ]
    refine wpAnyH_take (i := 1) (v := ?v28) rfl (by kernel_rfl) (by kernel_rfl) (by kernel_rfl) (fun _ _ _ h => h) (Or.inl ⟨by rfl, ?hy28⟩) hS0 ?_
    case hy28 => (intro w' hw'; skip; go_simp; try with_reducible rfl)
    simp only [List.getElem_toArray, List.getElem_cons_zero, List.getElem_cons_succ, Act.put, List.setIfInBounds_toArray, List.set_cons_zero, List.set_cons_succ]
    refine wpAnyH_take (i := 2) (v := ?v29) rfl (by kernel_rfl) (by kernel_rfl) (by kernel_rfl) (fun _ _ _ h => h) (Or.inl ⟨by rfl, ?hy29⟩) hS0 ?_
    case hy29 => (intro w' hw'; skip; go_simp; try with_reducible rfl)
    simp only [List.getElem_toArray, List.getElem_cons_zero, List.getElem_cons_succ, Act.put, List.setIfInBounds_toArray, List.set_cons_zero, List.set_cons_succ]
    refine wpAnyH_take (i := 3) (v := ?v30) rfl (by kernel_rfl) (by kernel_rfl) (by kernel_rfl) (fun _ _ _ h => h) (Or.inl ⟨by rfl, ?hy30⟩) hS0 ?_
    case hy30 => (intro w' hw'; skip; go_simp; try with_reducible rfl)
    simp only [List.getElem_toArray, List.getElem_cons_zero, List.getElem_cons_succ, Act.put, List.setIfInBounds_toArray, List.set_cons_zero, List.set_cons_succ]
    refine wpAnyH_take (i := 4) (v := ?v31) rfl (by kernel_rfl) (by kernel_rfl) (by kernel_rfl) (fun _ _ _ h => h) (Or.inl ⟨by rfl, ?hy31⟩) hS0 ?_
    case hy31 => (intro w' hw'; skip; go_simp; try with_reducible rfl)
    simp only [List.getElem_toArray, List.getElem_cons_zero, List.getElem_cons_succ, Act.put, List.setIfInBounds_toArray, List.set_cons_zero, List.set_cons_succ]
    refine wpAnyH_take (i := 5) (v := ?v32) rfl (by kernel_rfl) (by kernel_rfl) (by kernel_rfl) (fun _ _ _ h => h) (Or.inl ⟨by rfl, ?hy32⟩) hS0 ?_
    case hy32 => (intro w' hw'; skip; go_simp; try with_reducible rfl)
    simp only [List.getElem_toArray, List.getElem_cons_zero, List.getElem_cons_succ, Act.put, List.setIfInBounds_toArray, List.set_cons_zero, List.set_cons_succ]
    refine wpAnyH_take (i := 6) (v := ?v33) rfl (by kernel_rfl) (by kernel_rfl) (by kernel_rfl) (fun _ _ _ h => h) (Or.inl ⟨by rfl, ?hy33⟩) hS0 ?_
    case hy33 => (intro w' hw'; skip; go_simp; try with_reducible rfl)
    simp only [List.getElem_toArray, List.getElem_cons_zero, List.getElem_cons_succ, Act.put, List.setIfInBounds_toArray, List.set_cons_zero, List.set_cons_succ]
    refine wpAnyH_take (i := 7) (v := ?v34) rfl (by kernel_rfl) (by kernel_rfl) (by kernel_rfl) (fun _ _ _ h => h) (Or.inl ⟨by rfl, ?hy34⟩) hS0 ?_
    case hy34 => (intro w' hw'; skip; go_simp; try with_reducible rfl)
    simp only [List.getElem_toArray, List.getElem_cons_zero, List.getElem_cons_succ, Act.put, List.setIfInBounds_toArray, List.set_cons_zero, List.set_cons_succ]
    refine wpAnyH_take (i := 8) (v := ?v35) rfl (by kernel_rfl) (by kernel_rfl) (by kernel_rfl) (fun _ _ _ h => h) (Or.inl ⟨by rfl, ?hy35⟩) hS0 ?_
    case hy35 => (intro w' hw'; skip; go_simp; try with_reducible rfl)
    simp only [List.getElem_toArray, List.getElem_cons_zero, List.getElem_cons_succ, Act.put, List.setIfInBounds_toArray, List.set_cons_zero, List.set_cons_succ]
    refine wpAnyH_take (i := 9) (v := ?v36) rfl (by kernel_rfl) (by kernel_rfl) (by kernel_rfl) (fun _ _ _ h => h) (Or.inl ⟨by rfl, ?hy36⟩) hS0 ?_
    case hy36 => (intro w' hw'; skip; go_simp; try with_reducible rfl)
    simp only [List.getElem_toArray, List.getElem_cons_zero, List.getElem_cons_succ, Act.put, List.setIfInBounds_toArray, List.set_cons_zero, List.set_cons_succ]
    refine wpAnyH_take (i := 10) (v := ?v37) rfl (by kernel_rfl) (by kernel_rfl) (by kernel_rfl) (fun _ _ _ h => h) (Or.inl ⟨by rfl, ?hy37⟩) hS0 ?_
    case hy37 => (intro w' hw'; skip; go_simp; try with_reducible rfl)
    simp only [List.getElem_toArray, List.getElem_cons_zero, List.getElem_cons_succ, Act.put, List.setIfInBounds_toArray, List.set_cons_zero, List.set_cons_succ]
    refine rgn.one (i := 11) _ rfl (by kernel_rfl) (by rfl) ?_
    simp only [List.getElem_toArray, List.getElem_cons_zero, List.getElem_cons_succ, Act.put, List.setIfInBounds_toArray, List.set_cons_zero, List.set_cons_succ]
    refine callW _ _ _ _ rfl Tryz.func64 (by kernel_rfl) (by kernel_rfl) #[.int .i64 (P - 1)] (by simp only [List.map_toArray, List.map_cons, List.map_nil]; rfl) ?_
    refine (unhide WT _).mono ?_
    rintro e w2 ⟨rfl, b2⟩
    have B2 := hide ((unhide B1).trans ((((Below.refl _ _).drew : Below w1.heap.size w1 w1.drew).trans b2).mono (unhide B1).size))
    clear b2
    refine ⟨_, rfl, trivial, ?_⟩
    try simp only [List.getElem_toArray, List.getElem_cons_zero, List.getElem_cons_succ, Act.put, List.setIfInBounds_toArray, List.set_cons_zero, List.set_cons_succ]
    refine wpAnyH_take (i := 12) (v := ?v38) rfl (by kernel_rfl) (by kernel_rfl) (by kernel_rfl) (fun _ _ _ h => h) (Or.inl ⟨by rfl, ?hy38⟩) hS0 ?_
    case hy38 => (intro w' hw'; skip; go_simp; try with_reducible rfl)
    simp only [List.getElem_toArray, List.getElem_cons_zero, List.getElem_cons_succ, Act.put, List.setIfInBounds_toArray, List.set_cons_zero, List.set_cons_succ]
    refine wpAnyH_take (i := 13) (v := ?v39) rfl (by kernel_rfl) (by kernel_rfl) (by kernel_rfl) (fun _ _ _ h => h) (Or.inl ⟨by rfl, ?hy39⟩) hS0 ?_
    case hy39 => (intro w' hw'; skip; go_simp; try with_reducible rfl)
    simp only [List.getElem_toArray, List.getElem_cons_zero, List.getElem_cons_succ, Act.put, List.setIfInBounds_toArray, List.set_cons_zero, List.set_cons_succ]
    refine wpAnyH_done (by kernel_rfl) ?_ _; refine NoPanic.normal ?_
    go_wp2
    go_ret
    refine ⟨?_, unhide B2⟩
    rw [unhide HST]
    rfl
  · skip
    simp only [if_true, Bool.false_eq_true, if_false] at hS
    subst hS
    go_enter Tryz.func87, Tryz.ntmps87
    go_wp2_with fail
    refine (unhide HSH).mono ?_
    rintro e w1 ⟨rfl, b1⟩
    have B1 := hide b1
    clear b1
    go_wp2_with fail
    refine wp_region_noPanic ?_
    refine wp_region_held (S := fun _ => True) mixed ?_
    have hS0 : True := trivial
    have z1 : ∀ k : Nat, k ≤ 1000 → ¬ 9223372036854775807 < k + (D.size - 1) := fun k h => by omega
    have z2 : ∀ k j : Nat, k ≤ 1000 → j ≤ 1000 → ¬ 9223372036854775807 < k + (D.size - 1) + j := fun k j h h' => by omega
    have z3 : ∀ k : Nat, k ≤ 1000 → ¬ 9223372036854775807 < k + (D.size - 1) + I.size := fun k h => by omega
    have z4 : ∀ k j : Nat, k ≤ 1000 → j ≤ 1000 → ¬ 9223372036854775807 < k + (D.size - 1) + j + I.size := fun k j h h' => by omega
    refine wpAnyH_take (i := 0) (v := ?v40) rfl (by kernel_rfl) (by kernel_rfl) (by kernel_rfl) (fun _ _ _ h => h) (Or.inl ⟨by rfl, ?hy40⟩) hS0 ?_
    case hy40 => (intro w' hw'; skip; go_simp; try with_reducible rfl)
    simp only [List.getElem_toArray, List.getElem_cons_zero, List.getElem_cons_succ, Act.put, List.setIfInBounds_toArray, List.set_cons_zero, List.set_cons_succ]
    refine wpAnyH_take (i := 1) (v := ?v41) rfl (by kernel_rfl) (by kernel_rfl) (by kernel_rfl) (fun _ _ _ h => h) (Or.inl ⟨by rfl, ?hy41⟩) hS0 ?_
    case hy41 => (intro w' hw'; skip; go_simp; try with_reducible rfl)
    simp only [List.getElem_toArray, List.getElem_cons_zero, List.getElem_cons_succ, Act.put, List.setIfInBounds_toArray, List.set_cons_zero, List.set_cons_succ]
    refine wpAnyH_take (i := 2) (v := ?v42) rfl (by kernel_rfl) (by kernel_rfl) (by kernel_rfl) (fun _ _ _ h => h) (Or.inl ⟨by rfl, ?hy42⟩) hS0 ?_
    case hy42 => (intro w' hw'; skip; go_simp; try with_reducible rfl)
    simp only [List.getElem_toArray, List.getElem_cons_zero, List.getElem_cons_succ, Act.put, List.setIfInBounds_toArray, List.set_cons_zero, List.set_cons_succ]
    refine wpAnyH_take (i := 3) (v := ?v43) rfl (by kernel_rfl) (by kernel_rfl) (by kernel_rfl) (fun _ _ _ h => h) (Or.inl ⟨by rfl, ?hy43⟩) hS0 ?_
    case hy43 => (intro w' hw'; skip; go_simp; try with_reducible rfl)
    simp only [List.getElem_toArray, List.getElem_cons_zero, List.getElem_cons_succ, Act.put, List.setIfInBounds_toArray, List.set_cons_zero, List.set_cons_succ]
    refine wpAnyH_take (i := 4) (v := ?v44) rfl (by kernel_rfl) (by kernel_rfl) (by kernel_rfl) (fun _ _ _ h => h) (Or.inl ⟨by rfl, ?hy44⟩) hS0 ?_
    case hy44 => (intro w' hw'; skip; go_simp; try with_reducible rfl)
    simp only [List.getElem_toArray, List.getElem_cons_zero, List.getElem_cons_succ, Act.put, List.setIfInBounds_toArray, List.set_cons_zero, List.set_cons_succ]
    refine wpAnyH_take (i := 5) (v := ?v45) rfl (by kernel_rfl) (by kernel_rfl) (by kernel_rfl) (fun _ _ _ h => h) (Or.inl ⟨by rfl, ?hy45⟩) hS0 ?_
    case hy45 => (intro w' hw'; skip; go_simp; try with_reducible rfl)
    simp only [List.getElem_toArray, List.getElem_cons_zero, List.getElem_cons_succ, Act.put, List.setIfInBounds_toArray, List.set_cons_zero, List.set_cons_succ]
    refine wpAnyH_take (i := 6) (v := ?v46) rfl (by kernel_rfl) (by kernel_rfl) (by kernel_rfl) (fun _ _ _ h => h) (Or.inl ⟨by rfl, ?hy46⟩) hS0 ?_
    case hy46 => (intro w' hw'; skip; go_simp; try with_reducible rfl)
    simp only [List.getElem_toArray, List.getElem_cons_zero, List.getElem_cons_succ, Act.put, List.setIfInBounds_toArray, List.set_cons_zero, List.set_cons_succ]
    refine wpAnyH_take (i := 7) (v := ?v47) rfl (by kernel_rfl) (by kernel_rfl) (by kernel_rfl) (fun _ _ _ h => h) (Or.inl ⟨by rfl, ?hy47⟩) hS0 ?_
    case hy47 => (intro w' hw'; skip; go_simp; try with_reducible rfl)
    simp only [List.getElem_toArray, List.getElem_cons_zero, List.getElem_cons_succ, Act.put, List.setIfInBounds_toArray, List.set_cons_zero, List.set_cons_succ]
    refine wpAnyH_take (i := 8) (v := ?v48) rfl (by kernel_rfl) (by kernel_rfl) (by kernel_rfl) (fun _ _ _ h => h) (Or.inl ⟨by rfl, ?hy48⟩) hS0 ?_
    case hy48 => (intro w' hw'; skip; go_simp; try with_reducible rfl)
    simp only [List.getElem_toArray, List.getElem_cons_zero, List.getElem_cons_succ, Act.put, List.setIfInBounds_toArray, List.set_cons_zero, List.set_cons_succ]
    refine wpAnyH_take (i := 9) (v := ?v49) rfl (by kernel_rfl) (by kernel_rfl) (by kernel_rfl) (fun _ _ _ h => h) (Or.inl ⟨by rfl, ?hy49⟩) hS0 ?_
    case hy49 => (intro w' hw'; skip; go_simp; try with_reducible rfl)
    simp only [List.getElem_toArray, List.getElem_cons_zero, List.getElem_cons_succ, Act.put, List.setIfInBounds_toArray, List.set_cons_zero, List.set_cons_succ]
    refine wpAnyH_take (i := 10) (v := ?v50) rfl (by kernel_rfl) (by kernel_rfl) (by kernel_rfl) (fun _ _ _ h => h) (Or.inl ⟨by rfl, ?hy50⟩) hS0 ?_
    case hy50 => (intro w' hw'; skip; go_simp; try with_reducible rfl)
    simp only [List.getElem_toArray, List.getElem_cons_zero, List.getElem_cons_succ, Act.put, List.setIfInBounds_toArray, List.set_cons_zero, List.set_cons_succ]
    refine rgn.one (i := 11) _ rfl (by kernel_rfl) (by rfl) ?_
    simp only [List.getElem_toArray, List.getElem_cons_zero, List.getElem_cons_succ, Act.put, List.setIfInBounds_toArray, List.set_cons_zero, List.set_cons_succ]
    refine callW _ _ _ _ rfl Tryz.func64 (by kernel_rfl) (by kernel_rfl) #[.int .i64 (P - 1)] (by simp only [List.map_toArray, List.map_cons, List.map_nil]; rfl) ?_
    refine (unhide WT _).mono ?_
    rintro e w2 ⟨rfl, b2⟩
    have B2 := hide ((unhide B1).trans ((((Below.refl _ _).drew : Below w1.heap.size w1 w1.drew).trans b2).mono (unhide B1).size))
    clear b2
    refine ⟨_, rfl, trivial, ?_⟩
    try simp only [List.getElem_toArray, List.getElem_cons_zero, List.getElem_cons_succ, Act.put, List.setIfInBounds_toArray, List.set_cons_zero, List.set_cons_succ]
    refine wpAnyH_take (i := 12) (v := ?v51) rfl (by kernel_rfl) (by kernel_rfl) (by kernel_rfl) (fun _ _ _ h => h) (Or.inl ⟨by rfl, ?hy51⟩) hS0 ?_
    case hy51 => (intro w' hw'; skip; go_simp; try with_reducible rfl)
    simp only [List.getElem_toArray, List.getElem_cons_zero, List.getElem_cons_succ, Act.put, List.setIfInBounds_toArray, List.set_cons_zero, List.set_cons_succ]
    refine wpAnyH_take (i := 13) (v := ?v52) rfl (by kernel_rfl) (by kernel_rfl) (by kernel_rfl) (fun _ _ _ h => h) (Or.inl ⟨by rfl, ?hy52⟩) hS0 ?_
    case hy52 => (intro w' hw'; skip; go_simp; try with_reducible rfl)
    simp only [List.getElem_toArray, List.getElem_cons_zero, List.getElem_cons_succ, Act.put, List.setIfInBounds_toArray, List.set_cons_zero, List.set_cons_succ]
    refine wpAnyH_done (by kernel_rfl) ?_ _; refine NoPanic.normal ?_
    go_wp2
    go_ret
    refine ⟨?_, unhide B2⟩
    rw [unhide HST]
    rfl
end Go.Proofs.YtechaplindbfoaaGreatDoor.fto
