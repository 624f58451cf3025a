import Derived.Test.YtechaplindbfoaaGreatDoorJpa5
import Derived.Test.YtechaplindbfoaaGreatDoorJpa3
import Derived.Lib.ItoaLen
import Derived.Lib.AppendIntMem
import Derived.Shelf.Strconv.Atoi
import Derived.Shelf.Strconv.Itoa0
import Derived.Shelf.Strconv.Itoa1
import Derived.Shelf.Strconv.Itoa2
import Derived.Shelf.Strconv.Itoa3
import Derived.Shelf.Strings.Cut
import Derived.Shelf.Strings.Shaped
import Derived.Shelf.Strings.Replace
import Derived.Shelf.Strings.Repeat
import Derived.Test.YtechaplindbfoaaGreatDoorProg
import Derived.Lib.AtoiErrMem
import Derived.Test.YtechaplindbfoaaGreatDoorJpa4
namespace Go.Proofs.YtechaplindbfoaaGreatDoor.fto
open Go.ChangeShapes Go.WideShapes Go.ChangeAt Go.RowKit
open mem
open ints (hide unhide)
set_option linter.unusedVariables false
theorem ofI64 (a : Nat) (ha : a < 18446744073709551616) : (BitVec.ofInt 64 (a : Int)).toNat = a := by
  rw [BitVec.ofInt_natCast, BitVec.toNat_ofNat]; exact Nat.mod_eq_of_lt (by omega)
theorem iand1 (a : Nat) (ha : a < 9223372036854775808) : bits .and .i64 (a : Int) 1 = ((a % 2 : Nat) : Int) := by
  have e : bits .and .i64 (a : Int) 1 = IntKind.i64.wrap ((BitVec.ofInt 64 (a : Int) &&& BitVec.ofInt 64 (1 : Int)).toNat : Int) := rfl
  rw [e, BitVec.toNat_and, ofI64 a (by omega), show (BitVec.ofInt 64 (1 : Int)).toNat = 1 from by decide, Nat.and_one_is_mod, IntKind.wrap_i64]
  omega
theorem rows_at {p : Int} (h0 : -348 ≤ p) : rowH (p + 348).toNat = tabH p ∧ rowL (p + 348).toNat = tabL p := ⟨rfl, rfl⟩
/-- uscale at what shortFloat asks -/
theorem us_at {p : Int} (h0 : -348 ≤ p) (h1 : p ≤ 347) {x y t W : Nat} (hx : x = 512 * y) (hy0 : 0 < y) (hy : y < 36028797018963968) (ht : 5 ≤ t) (hW : W = q64 * q64 * eB p * 2 ^ t) : us x (rowH (p + 348).toNat) (rowL (p + 348).toNat) t = un (x * eA p) W := by
  rw [(rows_at h0).1, (rows_at h0).2, hx, uscale_write p h0 h1 y t hy0 hy ht, hW]
theorem k_at {p : Int} (h0 : -348 ≤ p) (h1 : p ≤ 347) {x : Nat} (hx : 2 ≤ x) : 1 ≤ x * rowH (p + 348).toNat / 18446744073709551616 := by
  obtain ⟨h, -, -⟩ := tab_hi p h0 h1
  rw [(rows_at h0).1]
  refine (Nat.le_div_iff_mul_le (by decide)).2 ?_
  have : 2 * 9223372036854775808 ≤ x * tabH p := Nat.mul_le_mul hx h
  omega
set_option maxRecDepth 100000 in
theorem sf_norm (a : Nat) (hb : b52 ≤ a) (hai : a < infR) : ∃ (t : Nat) (p : Int) (W dmin dmax r : Nat), ShF a 11 t p (mantR a * 2 ^ 11 * eA p) W dmin dmax r ∧
    ∀ w, PT w → 10 < w.heap.size → Calls Tryz.prog 181 #[.int .u64 ((mantR a * 2048 : Nat) : Int), .int .i64 ((exR a : Int) - 1085)] w fun ed w' => ed = .returned (.tuple #[.int .u64 (chD dmin dmax r : Nat), .int .i64 (chQ dmin dmax p)]) ∧ Below w.heap.size w w' := by
  have ha : 0 < a := by unfold b52 at hb; omega
  obtain ⟨m0, m1, hk, hodd⟩ := mant_rng ha hai
  have hm52 : b52 ≤ mantR a := by unfold mantR; rw [if_neg (by omega)]; omega
  unfold b53 at m1
  have hm52' : 4503599627370496 ≤ mantR a := hm52
  have hs0 : 9223372036854775808 ≤ mantR a * 2 ^ 11 := by omega
  have hs1 : mantR a * 2 ^ 11 < q64 := by unfold q64; omega
  by_cases hsk : mantR a = b52 ∧ 0 < exR a
  · obtain ⟨p, hp⟩ : ∃ p, p = pS (exR a) := ⟨_, rfl⟩
    obtain ⟨t, ht⟩ : ∃ t, t = (1082 - (exR a : Int) - lpZ p).toNat := ⟨_, rfl⟩
    obtain ⟨W, hW⟩ : ∃ W, W = q64 * q64 * eB p * 2 ^ t := ⟨_, rfl⟩
    obtain ⟨F, t5, t64⟩ := skew_facts a t p ha hai hsk hp ht hW rfl rfl rfl
    refine ⟨t, p, W, _, _, _, F, fun w hT hg => ?_⟩
    obtain ⟨p1, p2⟩ := F.pv
    have hev := ((ex_pre ha).2 hsk).2
    obtain ⟨hm, hk0⟩ := hsk
    have hm' : mantR a = 4503599627370496 := hm
    have hh := tab_hi p p1 p2
    have e1 : mantR a * 2048 - 512 = 9223372036854775296 := by omega
    have e2 : mantR a * 2048 + 1024 = 9223372036854776832 := by omega
    have e3 : mantR a * 2048 = 9223372036854775808 := by omega
    have tv := F.tv
    have hd := ch_or ((un ((mantR a * 2048 - 512) * eA p) W + a % 2 + 3) / 4) ((un ((mantR a * 2048 + 1024) * eA p) W - a % 2) / 4) ((un (mantR a * 2048 * eA p) W + 1 + un (mantR a * 2048 * eA p) W / 4 % 2) / 4) p
    rw [hev] at hd ⊢
    exact sf_a (mantR a * 2048) (mantR a * 2048 - 512) (mantR a * 2048 + 1024) e3 ((exR a : Int) - 1085) _ p (lpZ p) (p + 348).toNat t 0 rfl w hT (by omega) (by omega) rfl (by rw [hp]; unfold pS skZ; rw [show (exR a : Int) - 1085 + 11 = (exR a : Int) - 1074 by omega]) rfl (by omega) (by omega) (by omega) t64 e1 e2 (by decide) hg _ _ _ _ _ (us_at p1 p2 (y := 18014398509481983) (by omega) (by decide) (by decide) t5 hW).symm (us_at p1 p2 (y := 18014398509481986) (by omega) (by decide) (by decide) t5 hW).symm (us_at p1 p2 (y := 18014398509481984) (by omega) (by decide) (by decide) t5 hW).symm rfl rfl (un_small p1 p2 (by unfold q64; omega) t5 hW) (un_small p1 p2 (by unfold q64; omega) t5 hW) (un_small p1 p2 (by unfold q64; omega) t5 hW) (Nat.zero_le _) hh.2.1 hh.2.2 (k_at p1 p2 (by omega)) (k_at p1 p2 (by omega)) (k_at p1 p2 (by omega)) _ _ hd
  · obtain ⟨p, hp⟩ : ∃ p, p = pG (exR a) := ⟨_, rfl⟩
    obtain ⟨t, ht⟩ : ∃ t, t = (1071 + ((11 : Nat) : Int) - (exR a : Int) - lpZ p).toNat := ⟨_, rfl⟩
    obtain ⟨W, hW⟩ : ∃ W, W = q64 * q64 * eB p * 2 ^ t := ⟨_, rfl⟩
    obtain ⟨F, t5, t64⟩ := sho_facts a 11 t p ha hai hs0 hs1 hsk hp ht hW rfl rfl rfl
    refine ⟨t, p, W, _, _, _, F, fun w hT hg => ?_⟩
    obtain ⟨p1, p2⟩ := F.pv
    have hh := tab_hi p p1 p2
    have tv := F.tv
    have hd := ch_or ((un ((mantR a * 2 ^ 11 - 2 ^ (11 - 1)) * eA p) W + a % 2 + 3) / 4) ((un ((mantR a * 2 ^ 11 + 2 ^ (11 - 1)) * eA p) W - a % 2) / 4) ((un (mantR a * 2 ^ 11 * eA p) W + 1 + un (mantR a * 2 ^ 11 * eA p) W / 4 % 2) / 4) p
    have s1 : (2 : Nat) ^ 11 = 2048 := rfl
    have s2 : (2 : Nat) ^ (11 - 1) = 1024 := rfl
    rw [s1, s2] at hd ⊢
    have hA := eA_pos p1 p2
    have hUp : ∀ X, 0 < X → 0 < X * eA p := fun X hX => Nat.mul_pos hX hA
    by_cases hm : mantR a = 4503599627370496
    · have hex : exR a = 0 := by
        rcases Nat.eq_zero_or_pos (exR a) with h | h
        · exact h
        · exact absurd ⟨hm, h⟩ hsk
      have hev : a % 2 = 0 := by rw [← hodd, hm]
      rw [hev] at hd ⊢
      rw [hex] at tv ⊢
      exact sf_b0 (mantR a * 2048) (mantR a * 2048 - 1024) (mantR a * 2048 + 1024) (by omega) (((0 : Nat) : Int) - 1085) _ p (lpZ p) (by omega) (by omega) (p + 348).toNat t 0 rfl w hT rfl (by rw [hp, hex]; unfold pG lgZ; rfl) rfl (by omega) (by omega) (by omega) t64 (by omega) (by omega) (by decide) hg _ _ _ _ _ (us_at p1 p2 (y := 4 * mantR a - 2) (by omega) (by omega) (by omega) t5 hW).symm (us_at p1 p2 (y := 4 * mantR a + 2) (by omega) (by omega) (by omega) t5 hW).symm (us_at p1 p2 (y := 4 * mantR a) (by omega) (by omega) (by omega) t5 hW).symm rfl rfl (un_small p1 p2 (by unfold q64; omega) t5 hW) (un_small p1 p2 (by unfold q64; omega) t5 hW) (un_small p1 p2 (by unfold q64; omega) t5 hW) (Nat.zero_le _) hh.2.1 hh.2.2 (k_at p1 p2 (by omega)) (k_at p1 p2 (by omega)) (k_at p1 p2 (by omega)) _ _ hd
    · exact sf_b (mantR a * 2048) (mantR a) (mantR a * 2048 - 1024) (mantR a * 2048 + 1024) ((exR a : Int) - 1085) _ p (lpZ p) (p + 348).toNat t (a % 2) w hT (by omega) (by omega) (by rw [beq_eq_false_iff_ne]; omega) (by omega) (by omega) rfl (by rw [hp]; unfold pG lgZ; rw [show (exR a : Int) - 1085 + 11 = (exR a : Int) - 1074 by omega]) rfl (by omega) (by omega) (by omega) t64 (by omega) (by rw [iand1 _ (by omega), hodd]) (by omega) (by omega) (by omega) hg _ _ _ _ _ (us_at p1 p2 (y := 4 * mantR a - 2) (by omega) (by omega) (by omega) t5 hW).symm (us_at p1 p2 (y := 4 * mantR a + 2) (by omega) (by omega) (by omega) t5 hW).symm (us_at p1 p2 (y := 4 * mantR a) (by omega) (by omega) (by omega) t5 hW).symm rfl rfl (un_small p1 p2 (by unfold q64; omega) t5 hW) (un_small p1 p2 (by unfold q64; omega) t5 hW) (un_small p1 p2 (by unfold q64; omega) t5 hW) (by have := un_pos (W := W) (hUp (mantR a * 2048 + 1024) (by omega)); omega) hh.2.1 hh.2.2 (k_at p1 p2 (by omega)) (k_at p1 p2 (by omega)) (k_at p1 p2 (by omega)) _ _ hd
end Go.Proofs.YtechaplindbfoaaGreatDoor.fto
namespace Go.Proofs.YtechaplindbfoaaGreatDoor.fto
open Go.ChangeShapes Go.WideShapes Go.ChangeAt Go.RowKit
open mem
open ints (hide unhide)
set_option linter.unusedVariables false
set_option maxRecDepth 100000 in
theorem sf_sub (a s : Nat) (ha : 0 < a) (hb : a < b52) (hs0 : 9223372036854775808 ≤ a * 2 ^ s) (hs1 : a * 2 ^ s < q64) : 12 ≤ s ∧ s ≤ 63 ∧ ∃ (t : Nat) (p : Int) (W dmin dmax r : Nat), ShF a s t p (mantR a * 2 ^ s * eA p) W dmin dmax r ∧
    ∀ w, PT w → 10 < w.heap.size → Calls Tryz.prog 181 #[.int .u64 ((a * 2 ^ s : Nat) : Int), .int .i64 (-1074 - (s : Int))] w fun ed w' => ed = .returned (.tuple #[.int .u64 (chD dmin dmax r : Nat), .int .i64 (chQ dmin dmax p)]) ∧ Below w.heap.size w w' := by
  have hb' : a < 4503599627370496 := hb
  have hai : a < infR := by unfold infR; omega
  have hm : mantR a = a := by unfold mantR; rw [if_pos hb]
  have hex : exR a = 0 := by unfold exR b52; omega
  obtain ⟨m0, m1, hk, hodd⟩ := mant_rng ha hai
  obtain ⟨s11, s64⟩ := s_rng m0 m1 (by rw [hm]; exact hs0) (by rw [hm]; exact hs1)
  have s12 : 12 ≤ s := by
    rcases Nat.lt_or_ge s 12 with h | h
    · exfalso
      have : s = 11 := by omega
      rw [this] at hs0
      omega
    · exact h
  refine ⟨s12, by omega, ?_⟩
  obtain ⟨A, hA⟩ : ∃ A, A = 2 ^ (s - 1) := ⟨_, rfl⟩
  obtain ⟨m, hmm⟩ : ∃ m, m = a * 2 ^ s := ⟨_, rfl⟩
  obtain ⟨p, hp⟩ : ∃ p, p = pG (exR a) := ⟨_, rfl⟩
  obtain ⟨t, ht⟩ : ∃ t, t = (1071 + (s : Int) - (exR a : Int) - lpZ p).toNat := ⟨_, rfl⟩
  obtain ⟨W, hW⟩ : ∃ W, W = q64 * q64 * eB p * 2 ^ t := ⟨_, rfl⟩
  obtain ⟨F, t5, t64⟩ := sho_facts a s t p ha hai (by rw [hm]; exact hs0) (by rw [hm]; exact hs1) (by rw [hex]; omega) hp ht hW rfl rfl rfl
  refine ⟨t, p, W, _, _, _, F, fun w hT hg => ?_⟩
  obtain ⟨p1, p2⟩ := F.pv
  have hh := tab_hi p p1 p2
  have tv := F.tv
  have hd := ch_or ((un ((mantR a * 2 ^ s - 2 ^ (s - 1)) * eA p) W + a % 2 + 3) / 4) ((un ((mantR a * 2 ^ s + 2 ^ (s - 1)) * eA p) W - a % 2) / 4) ((un (mantR a * 2 ^ s * eA p) W + 1 + un (mantR a * 2 ^ s * eA p) W / 4 % 2) / 4) p
  rw [hm, ← hA, ← hmm] at hd ⊢
  rw [hex] at tv
  have eA' := eA_pos p1 p2
  have e9 : 2 ^ s = 512 * 2 ^ (s - 9) := by rw [show (512 : Nat) = 2 ^ 9 from rfl, ← Nat.pow_add]; congr 1; omega
  have e10 : A = 512 * 2 ^ (s - 10) := by rw [hA, show (512 : Nat) = 2 ^ 9 from rfl, ← Nat.pow_add]; congr 1; omega
  have eA2 : 2 ^ s = 2 * A := by rw [hA, ← Nat.pow_succ']; congr 1; omega
  have hA1 : 1 ≤ A := by rw [hA]; exact Nat.two_pow_pos _
  have dm : m % 512 = 0 := by rw [hmm, e9, Nat.mul_left_comm]; exact Nat.mul_mod_right _ _
  have dA : A % 512 = 0 := by rw [e10]; exact Nat.mul_mod_right _ _
  have hmA : 2 * A ≤ m := by rw [hmm, ← eA2]; exact Nat.le_mul_of_pos_left _ ha
  have hm63 : 9223372036854775808 ≤ m := by rw [hmm]; exact hs0
  have hm64 : m < 18446744073709551616 := by rw [hmm]; exact hs1
  have dA2 : A % 2048 = 0 := by
    have : A = 2048 * 2 ^ (s - 12) := by rw [hA, show (2048 : Nat) = 2 ^ 11 from rfl, ← Nat.pow_add]; congr 1; omega
    rw [this]; exact Nat.mul_mod_right _ _
  have dm2 : m % 2048 = 0 := by
    have : m = 2048 * (a * 2 ^ (s - 11)) := by rw [hmm, Nat.mul_left_comm, show (2048 : Nat) = 2 ^ 11 from rfl, ← Nat.pow_add]; congr 2; omega
    rw [this]; exact Nat.mul_mod_right _ _
  have hmx : m + A < 18446744073709551616 := by
    have hdv : ∃ k, 18446744073709551616 = k * (2 * A) := ⟨2 ^ (64 - s), by rw [← eA2, ← Nat.pow_add, show 64 - s + s = 64 by omega]⟩
    obtain ⟨k, hk⟩ := hdv
    have h1 : a * (2 * A) < k * (2 * A) := by rw [← hk, ← eA2, ← hmm]; exact hm64
    have h2 : a < k := Nat.lt_of_mul_lt_mul_right h1
    have h3 : (a + 1) * (2 * A) ≤ k * (2 * A) := Nat.mul_le_mul_right _ h2
    rw [Nat.add_mul, Nat.one_mul, ← eA2, ← hmm, eA2, ← hk] at h3
    omega
  have hM1 : a = m / 2 ^ s := by rw [hmm, Nat.mul_div_cancel _ (Nat.two_pow_pos _)]
  have hUp : 0 < (m + A) * eA p := Nat.mul_pos (by omega) eA'
  by_cases eM : m = 9223372036854775808
  · exact sf_c0 m a (m - A) (m + A) s (-1074 - (s : Int)) _ p (lpZ p) (p + 348).toNat t (a % 2) w hT hm63 (by omega) (by omega) (by omega) (by rw [beq_iff_eq]; omega) (by omega) A hA rfl (by rw [hp, hex]; unfold pG lgZ; rfl) rfl (by omega) (by omega) (by omega) t64 hM1 (by omega) (by rw [iand1 _ (by omega)]) hA1 (by omega) rfl rfl hmx (by omega) hg _ _ _ _ _ (us_at p1 p2 (y := (m - A) / 512) (by omega) (by omega) (by omega) t5 hW).symm (us_at p1 p2 (y := (m + A) / 512) (by omega) (by omega) (by omega) t5 hW).symm (us_at p1 p2 (y := m / 512) (by omega) (by omega) (by omega) t5 hW).symm rfl rfl (un_small p1 p2 (by unfold q64; omega) t5 hW) (un_small p1 p2 (by unfold q64; omega) t5 hW) (un_small p1 p2 (by unfold q64; omega) t5 hW) (by have := un_pos (W := W) hUp; omega) hh.2.1 hh.2.2 (k_at p1 p2 (by omega)) (k_at p1 p2 (by omega)) (k_at p1 p2 (by omega)) _ _ hd
  · exact sf_c m a (m - A) (m + A) s (-1074 - (s : Int)) _ p (lpZ p) (p + 348).toNat t (a % 2) w hT hm63 (by omega) (by omega) (by omega) (by rw [beq_eq_false_iff_ne]; omega) (by omega) A hA rfl (by rw [hp, hex]; unfold pG lgZ; rfl) rfl (by omega) (by omega) (by omega) t64 hM1 (by omega) (by rw [iand1 _ (by omega)]) hA1 (by omega) rfl rfl hmx (by omega) hg _ _ _ _ _ (us_at p1 p2 (y := (m - A) / 512) (by omega) (by omega) (by omega) t5 hW).symm (us_at p1 p2 (y := (m + A) / 512) (by omega) (by omega) (by omega) t5 hW).symm (us_at p1 p2 (y := m / 512) (by omega) (by omega) (by omega) t5 hW).symm rfl rfl (un_small p1 p2 (by unfold q64; omega) t5 hW) (un_small p1 p2 (by unfold q64; omega) t5 hW) (un_small p1 p2 (by unfold q64; omega) t5 hW) (by have := un_pos (W := W) hUp; omega) hh.2.1 hh.2.2 (k_at p1 p2 (by omega)) (k_at p1 p2 (by omega)) (k_at p1 p2 (by omega)) _ _ hd
end Go.Proofs.YtechaplindbfoaaGreatDoor.fto
namespace Go.Proofs.YtechaplindbfoaaGreatDoor.fto
open Go.ChangeShapes Go.WideShapes Go.ChangeAt Go.RowKit
open mem Go.Sort
open ints (hide unhide)
set_option linter.unusedVariables false
theorem nd_step {u : Nat} (h : ¬ u < 10) : Lib.nDigits u = Lib.nDigits (u / 10) + 1 := by rw [Lib.nDigits, dif_neg h]
theorem nd_pow : ∀ u : Nat, 1 ≤ u → 10 ^ (Lib.nDigits u - 1) ≤ u ∧ u < 10 ^ Lib.nDigits u ∧ 1 ≤ Lib.nDigits u := by
  intro u
  induction u using Nat.strongRecOn with
  | ind u ih =>
    intro hu
    by_cases h : u < 10
    · rw [Lib.nDigits_small h]; simp; omega
    · obtain ⟨h1, h2, h3⟩ := ih (u / 10) (by omega) (by omega)
      rw [nd_step h]
      obtain ⟨n, hn⟩ : ∃ n, Lib.nDigits (u / 10) = n + 1 := ⟨Lib.nDigits (u / 10) - 1, by omega⟩
      rw [hn] at h1 h2 ⊢
      simp only [Nat.add_sub_cancel] at h1 ⊢
      have e1 : (10 : Nat) ^ (n + 1) = 10 ^ n * 10 := Nat.pow_succ _ _
      have e2 : (10 : Nat) ^ (n + 1 + 1) = 10 ^ (n + 1) * 10 := Nat.pow_succ _ _
      refine ⟨by omega, by omega, by omega⟩
theorem nd_le {u n : Nat} (h1 : 1 ≤ u) (h2 : u < 10 ^ n) : Lib.nDigits u ≤ n := by
  obtain ⟨a, b, c⟩ := nd_pow u h1
  rcases Nat.lt_or_ge n (Lib.nDigits u) with h | h
  · have := Nat.pow_le_pow_right (n := 10) (by decide) (show n ≤ Lib.nDigits u - 1 by omega)
    omega
  · exact h
theorem dgt_eq (u nd j : Nat) : dgt u nd j = ((48 + u / 10 ^ (nd - 1 - j) % 10 : Nat) : Int) := by
  unfold dgt Lib.dg
  have : u / 10 ^ (nd - 1 - j) % 10 < 10 := Nat.mod_lt _ (by decide)
  rw [UInt8.toNat_ofNat_of_lt' (by show _ < 256; omega)]
theorem lead_ne {u : Nat} (h : 1 ≤ u) : dgt u (Lib.nDigits u) 0 ≠ 48 := by
  obtain ⟨a, b, c⟩ := nd_pow u h
  rw [dgt_eq, Nat.sub_zero]
  have h1 : 1 ≤ u / 10 ^ (Lib.nDigits u - 1) := (Nat.le_div_iff_mul_le (Nat.pow_pos (by decide))).2 (by omega)
  have h2 : u / 10 ^ (Lib.nDigits u - 1) < 10 := (Nat.div_lt_iff_lt_mul (Nat.pow_pos (by decide))).2 (by
    have : (10 : Nat) ^ Lib.nDigits u = 10 * 10 ^ (Lib.nDigits u - 1) := by rw [← Nat.pow_succ']; congr 1; omega
    omega)
  omega
theorem bitLen_at {x k : Nat} (h0 : 2 ^ k ≤ x) (h1 : x < 2 ^ (k + 1)) (h2 : x < 18446744073709551616) : Lib.bitLen x = k + 1 := by
  rw [Lib.bitLen_shift k x h0 h2]
  have : x / 2 ^ k = 1 := by
    have e : 2 ^ (k + 1) = 2 ^ k * 2 := Nat.pow_succ _ _
    refine Nat.div_eq_of_lt_le (by omega) (by omega)
  rw [this]
  rfl
theorem iand11 (a : Nat) (ha : a ≤ 2046) : bits .and .i64 (a : Int) 2047 = (a : Int) := by
  have e : bits .and .i64 (a : Int) 2047 = IntKind.i64.wrap ((BitVec.ofInt 64 (a : Int) &&& BitVec.ofInt 64 (2047 : Int)).toNat : Int) := rfl
  rw [e, BitVec.toNat_and, ofI64 a (by omega), show (BitVec.ofInt 64 (2047 : Int)).toNat = 2 ^ 11 - 1 from by decide, Nat.and_two_pow_sub_one_eq_mod, IntKind.wrap_i64]
  omega
/-- the table of powers and the table of digits' counts, in all later worlds -/
structure Fw (w : World) : Prop where
  pt : PT w
  g : 10 < w.heap.size
  tab : Lib.TabBelow Tryz.prog w.heap.size w "internal/strconv.uint64pow10" .u64 Lib.pow10Tab
theorem PT.below {w W : World} (h : PT w) (hg : 10 < w.heap.size) (hb : Below w.heap.size w W) : PT W := fun i hi => ⟨(hb.cell (p := ⟨10, 2 * i, none⟩) hg).trans (h i hi).1, (hb.cell (p := ⟨10, 2 * i + 1, none⟩) hg).trans (h i hi).2⟩
theorem Fw.below {w W : World} (h : Fw w) (hb : Below w.heap.size w W) : Fw W := ⟨h.pt.below h.g hb, Nat.lt_of_lt_of_le h.g hb.size, fun W' hW => h.tab W' (hb.trans (hW.mono hb.size))⟩
/-- the digits of a and the power of ten, as the code chooses them -/
def Chosen (a d : Nat) (q : Int) : Prop := ∃ (s t : Nat) (p : Int) (Xv W dmin dmax r : Nat), ShF a s t p Xv W dmin dmax r ∧ d = chD dmin dmax r ∧ q = chQ dmin dmax p
theorem Chosen.rng {a d : Nat} {q : Int} (h : Chosen a d q) : Rd d q a ∧ 1 ≤ d ∧ d ≤ 100000000000000010 ∧ -347 ≤ q ∧ q ≤ 349 := by
  obtain ⟨s, t, p, Xv, W, dmin, dmax, r, F, rfl, rfl⟩ := h
  obtain ⟨h1, h2⟩ := F.rd
  obtain ⟨h3, h4, h5⟩ := F.d17
  exact ⟨h1, h2, h3, h4, h5⟩
set_option maxRecDepth 100000 in
theorem ftoa_any (a : Nat) (ha : 0 < a) (hai : a < infR) : ∃ d q, Chosen a d q ∧ ∀ (v : Value) (base : Nat) (w : World), Fw w → w.ownsRow base 5 1 v 0 [] → base ≤ w.heap.size →
    Calls Tryz.prog 152 #[v, .float .f64 a, .int .u8 101, .int .i64 (-1)] w fun e w' => ∃ r, e = .returned r ∧ ∃ k : Nat, 1 ≤ k ∧ k ≤ Lib.nDigits d ∧ (∀ j, k ≤ j → j < Lib.nDigits d → dgt d (Lib.nDigits d) j = 48) ∧ dgt d (Lib.nDigits d) (k - 1) ≠ 48 ∧ w'.ownsRow base 5 1 r (sTxt d (Lib.nDigits d) k q).length ((sTxt d (Lib.nDigits d) k q).map (Value.int .u8)) ∧ Below base w w' := by
  have hai' : a < 9218868437227405312 := hai
  by_cases hb : a < b52
  · have hb' : a < 4503599627370496 := hb
    obtain ⟨k, hk⟩ : ∃ k, k = Nat.log2 a := ⟨_, rfl⟩
    have k0 : 2 ^ k ≤ a := by rw [hk]; exact Nat.log2_self_le (by omega)
    have k1 : a < 2 ^ (k + 1) := by rw [hk]; exact Nat.lt_log2_self
    have k52 : k < 52 := by
      rcases Nat.lt_or_ge k 52 with h | h
      · exact h
      · have := Nat.pow_le_pow_right (n := 2) (by decide) h
        have e : (2 : Nat) ^ 52 = 4503599627370496 := by decide
        omega
    have e63 : 2 ^ k * 2 ^ (63 - k) = 9223372036854775808 := by rw [← Nat.pow_add, show k + (63 - k) = 63 by omega]
    have e64 : 2 ^ (k + 1) * 2 ^ (63 - k) = 18446744073709551616 := by rw [← Nat.pow_add, show k + 1 + (63 - k) = 64 by omega]
    have hs0 : 9223372036854775808 ≤ a * 2 ^ (63 - k) := by rw [← e63]; exact Nat.mul_le_mul_right _ k0
    have hs1 : a * 2 ^ (63 - k) < q64 := by show _ < 18446744073709551616; rw [← e64]; exact Nat.mul_lt_mul_of_pos_right k1 (Nat.two_pow_pos _)
    obtain ⟨s12, s63, t, p, W, dmin, dmax, r, F, hC⟩ := sf_sub a (63 - k) ha hb hs0 hs1
    have hch : Chosen a (chD dmin dmax r) (chQ dmin dmax p) := ⟨_, _, _, _, _, _, _, _, F, rfl, rfl⟩
    refine ⟨_, _, hch, fun v base w hF hown hbase => ?_⟩
    obtain ⟨-, d1, d2, q1, q2⟩ := hch.rng
    obtain ⟨n1, n2, n3⟩ := nd_pow _ d1
    have n4 : Lib.nDigits (chD dmin dmax r) ≤ 18 := nd_le d1 (Nat.lt_of_le_of_lt d2 (by decide))
    exact ftoa_s a (a * 2 ^ (63 - k)) (k + 1) (63 - k) _ _ (chQ dmin dmax p) v base w ha hb' (by decide) (by have h := u64_and_nat a 4503599627370495 (by omega) (by decide); rw [show ((4503599627370495 : Nat) : Int) = 4503599627370495 from rfl] at h; rw [h, show (4503599627370495 : Nat) = 2 ^ 52 - 1 from rfl, Nat.and_two_pow_sub_one_eq_mod, Nat.mod_eq_of_lt (by omega)]) (bitLen_at k0 k1 (by omega)) (by omega) (by omega) (by omega) rfl hs1 hown hbase
      (fun Z hZ => by have := hC Z (hF.below hZ).pt (hF.below hZ).g; rwa [show (-1074 - ((63 - k : Nat) : Int)) = -1022 - ((63 - k : Nat) : Int) - 52 by omega] at this)
      (fun Z hZ => Tryz.internal_strconv_numDigits _ d1 (by omega) Z (hF.tab Z hZ)) d1 n2 n3 (by omega) (by omega) (by omega) (fun h => lead_ne d1 (h 0 (by omega) (by omega)))
  · have hb2 : b52 ≤ a := by omega
    have hb' : 4503599627370496 ≤ a := hb2
    obtain ⟨t, p, W, dmin, dmax, r, F, hC⟩ := sf_norm a hb2 hai
    have hch : Chosen a (chD dmin dmax r) (chQ dmin dmax p) := ⟨_, _, _, _, _, _, _, _, F, rfl, rfl⟩
    refine ⟨_, _, hch, fun v base w hF hown hbase => ?_⟩
    obtain ⟨-, d1, d2, q1, q2⟩ := hch.rng
    obtain ⟨n1, n2, n3⟩ := nd_pow _ d1
    have n4 : Lib.nDigits (chD dmin dmax r) ≤ 18 := nd_le d1 (Nat.lt_of_le_of_lt d2 (by decide))
    obtain ⟨m0, m1, hk, hodd⟩ := mant_rng ha hai
    have m1' : mantR a < 9007199254740992 := m1
    have hm : mantR a = 4503599627370496 + a % 4503599627370496 := by unfold mantR; rw [if_neg hb]; rfl
    have hx : exR a = a / 4503599627370496 - 1 := rfl
    have hx1 : 1 ≤ a / 4503599627370496 := by omega
    have a2 : bits .and .u64 (a : Int) 4503599627370495 = ((a % 4503599627370496 : Nat) : Int) := by
      have h := u64_and_nat a 4503599627370495 (by omega) (by decide)
      rw [show ((4503599627370495 : Nat) : Int) = 4503599627370495 from rfl] at h
      rw [h, show (4503599627370495 : Nat) = 2 ^ 52 - 1 from rfl, Nat.and_two_pow_sub_one_eq_mod]
    have a3 : bits .or .u64 ((a % 4503599627370496 : Nat) : Int) 4503599627370496 = ((mantR a : Nat) : Int) := by
      have h := u64_or_nat (a % 4503599627370496) 4503599627370496 (by omega) (by decide)
      rw [show ((4503599627370496 : Nat) : Int) = 4503599627370496 from rfl] at h
      have h2 := Nat.two_pow_add_eq_or_of_lt (i := 52) (b := a % 4503599627370496) (Nat.mod_lt _ (by decide)) 1
      rw [h, hm, Nat.or_comm]
      rw [show 2 ^ 52 * 1 = 4503599627370496 from rfl] at h2
      rw [← h2]
    have b52 : (2 : Nat) ^ 52 = 4503599627370496 := by decide
    have b53 : (2 : Nat) ^ (52 + 1) = 9007199254740992 := by decide
    exact ftoa_n a (a / 4503599627370496) (a % 4503599627370496) (mantR a) _ _ (chQ dmin dmax p) v base w rfl hx1 (by omega) (by omega) (iand11 _ (by omega)) a2 a3 (by omega) m1' hown hbase
      (fun Z hZ => by have := hC Z (hF.below hZ).pt (hF.below hZ).g; rwa [show ((exR a : Nat) : Int) - 1085 = ((a / 4503599627370496 : Nat) : Int) + -1023 - 11 - 52 by omega, Int.natCast_mul] at this)
      (fun Z hZ => Tryz.internal_strconv_numDigits _ d1 (by omega) Z (hF.tab Z hZ)) d1 n2 n3 (by omega) (bitLen_at (k := 52) (by omega) (by omega) (by omega)) (by omega) (by omega) (fun h => lead_ne d1 (h 0 (by omega) (by omega)))
end Go.Proofs.YtechaplindbfoaaGreatDoor.fto
namespace Go.Proofs.YtechaplindbfoaaGreatDoor.fto
open Go.ChangeShapes Go.WideShapes Go.ChangeAt Go.RowKit
open mem Go.Sort
open ints (hide unhide)
set_option linter.unusedVariables false
/-- how many of a number's digits are written: all but the noughts at its end -/
def Kept (d k : Nat) : Prop := 1 ≤ k ∧ k ≤ Lib.nDigits d ∧ (∀ j, k ≤ j → j < Lib.nDigits d → dgt d (Lib.nDigits d) j = 48) ∧ dgt d (Lib.nDigits d) (k - 1) ≠ 48
set_option maxRecDepth 100000 in
theorem ffmt_in (a d : Nat) (q : Int) (w : World) (hF : Fw w)
    (HT : ∀ (v : Value) (base : Nat) (w : World), Fw w → w.ownsRow base 5 1 v 0 [] → base ≤ w.heap.size → Calls Tryz.prog 152 #[v, .float .f64 a, .int .u8 101, .int .i64 (-1)] w fun e w' => ∃ r, e = .returned r ∧ ∃ k : Nat, 1 ≤ k ∧ k ≤ Lib.nDigits d ∧ (∀ j, k ≤ j → j < Lib.nDigits d → dgt d (Lib.nDigits d) j = 48) ∧ dgt d (Lib.nDigits d) (k - 1) ≠ 48 ∧ w'.ownsRow base 5 1 r (sTxt d (Lib.nDigits d) k q).length ((sTxt d (Lib.nDigits d) k q).map (Value.int .u8)) ∧ Below base w w') :
    Calls Tryz.prog 132 #[.float .f64 a, .int .u8 101, .int .i64 (-1), .int .i64 64] w fun e w' => ∃ k, Kept d k ∧ e = .returned (.string (strOfNums (sTxt d (Lib.nDigits d) k q))) ∧ Below w.heap.size w w' := by
  obtain ⟨i0, hi, hz0, hz1, hz2⟩ := info_parts info8
  have HH := hide HT
  have HF := hide hF
  clear HT hF
  have hmx : max (3 : Int) 24 = 24 := by decide
  go_enter Tryz.func132, Tryz.ntmps132
  go_wp2_with (at_make; refine wpList_make_own _ rfl _ _ 34 rfl w.heap.size 5 i0 (.int .u8 0) 1 Tryz.underlying34 hi hz0 hz1 .i64 .i64 _ 24 rfl rfl (by first | rfl | decide) (by rw [hz2]; omega) (by unfold maxLen; omega) (Nat.le_refl _) ?_; intro w1 hown hgrow)
  have b1 := belowNone hgrow
  refine (unhide HH _ w.heap.size w1 ((unhide HF).below b1) hown b1.size).mono ?_
  rintro e w2 ⟨r, rfl, k, h1, h2, h3, h4, hown2, b2⟩
  obtain ⟨ar, cr, rfl, hrow⟩ := own_row hown2
  have hcv := row_string (P := Tryz.prog) hrow 34 9 5 Tryz.underlying34 Tryz.underlying5 Tryz.underlying9
  have R := hide (⟨⟨h1, h2, h3, h4⟩, b1.trans b2⟩ : Kept d k ∧ Below w.heap.size w w2)
  clear h1 h2 h3 h4 hown2 hrow b1 b2 hown hgrow HH HF
  obtain ⟨tx, htx⟩ : ∃ tx, tx = sTxt d (Lib.nDigits d) k q := ⟨_, rfl⟩
  rw [← htx] at hcv ⊢
  have HX := hide htx
  clear htx
  go_wp2
  go_ret
  refine ⟨k, (unhide R).1, ?_, (unhide R).2⟩
  rw [unhide HX]
  rfl
set_option maxRecDepth 100000 in
/-- strconv.FormatFloat at a positive float -/
theorem ffmt_any (a : Nat) (ha : 0 < a) (hai : a < infR) : ∃ d q, Chosen a d q ∧ ∀ w, Fw w → Calls Tryz.prog 109 #[.float .f64 a, .int .u8 101, .int .i64 (-1), .int .i64 64] w fun e w' => ∃ k, Kept d k ∧ e = .returned (.string (strOfNums (sTxt d (Lib.nDigits d) k q))) ∧ Below w.heap.size w w' := by
  obtain ⟨d, q, hc, H⟩ := ftoa_any a ha hai
  refine ⟨d, q, hc, fun w hF => ?_⟩
  have HI := hide (ffmt_in a d q w hF H)
  clear H hc
  go_enter Tryz.func109, Tryz.ntmps109
  go_wp2_with fail
  refine (unhide HI).mono ?_
  rintro e w1 ⟨k, hk, rfl, b1⟩
  have R := hide (⟨hk, b1⟩ : Kept d k ∧ Below w.heap.size w w1)
  clear hk b1 HI
  go_wp2
  go_ret
  exact ⟨k, (unhide R).1, rfl, (unhide R).2⟩
end Go.Proofs.YtechaplindbfoaaGreatDoor.fto
namespace Go.Proofs
open Go.Shelf
def Tryz.lays145_ren : Go.Shelf.Ren := ⟨fun | 145 => 108 | 220 => 131 | 219 => 150 | 217 => 166 | 225 => 167 | 224 => 168 | 267 => 169 | 266 => 187 | 314 => 188 | n => n, fun | 9 => 9 | 4 => 4 | 59 => 149 | 3 => 3 | 5 => 5 | 46 => 121 | 146 => 199 | 51 => 170 | n => n, fun | 1 => 1 | n => n⟩
theorem Tryz.lays145 : Go.Proofs.Lays.n145 Tryz.prog Tryz.lays145_ren := {
  mixed := by kernel_rfl
  f145 := Tryz.func108.trans (congrArg some (by kernel_rfl))
  f217 := Tryz.func166.trans (congrArg some (by kernel_rfl))
  f219 := Tryz.func150.trans (congrArg some (by kernel_rfl))
  f220 := Tryz.func131.trans (congrArg some (by kernel_rfl))
  f224 := Tryz.func168.trans (congrArg some (by kernel_rfl))
  f225 := Tryz.func167.trans (congrArg some (by kernel_rfl))
  f266 := Tryz.func187.trans (congrArg some (by kernel_rfl))
  f267 := Tryz.func169.trans (congrArg some (by kernel_rfl))
  f314 := Tryz.func188.trans (congrArg some (by kernel_rfl))
  t3 := Tryz.underlying3
  a3 := Tryz.isAgg3
  z3 := Tryz.sizeOf3
  v3 := Tryz.zeroValue3
  t4 := Tryz.underlying4
  a4 := Tryz.isAgg4
  z4 := Tryz.sizeOf4
  v4 := Tryz.zeroValue4
  t5 := Tryz.underlying5
  a5 := Tryz.isAgg5
  z5 := Tryz.sizeOf5
  v5 := Tryz.zeroValue5
  t9 := Tryz.underlying9
  a9 := Tryz.isAgg9
  z9 := Tryz.sizeOf9
  v9 := Tryz.zeroValue9
  t46 := Tryz.underlying121
  a46 := Tryz.isAgg121
  z46 := Tryz.sizeOf121
  v46 := Tryz.zeroValue121
  t51 := Tryz.underlying170
  a51 := Tryz.isAgg170
  z51 := Tryz.sizeOf170
  v51 := Tryz.zeroValue170
  t59 := Tryz.underlying149
  a59 := Tryz.isAgg149
  z59 := Tryz.sizeOf149
  v59 := Tryz.zeroValue149
  t146 := Tryz.underlying199
  a146 := Tryz.isAgg199
  z146 := Tryz.sizeOf199
  v146 := Tryz.zeroValue199
  g1 := by kernel_rfl }
open Go.RowKit Go.Lib in
theorem Tryz.strings_Cut (s sep : ByteArray) (m : Int) (w : World) (hs : s.size < 4294967281) (hm : w.cell? ⟨1, 0, none⟩ = some (.int .i64 m)) :
    Calls Tryz.prog 108 #[.string s, .string sep] w fun e w' => e = .returned (.tuple #[.string ⟨(Lib.cut s.data.toList sep.data.toList).1.toArray⟩, .string ⟨(Lib.cut s.data.toList sep.data.toList).2.1.toArray⟩, .bool (Lib.cut s.data.toList sep.data.toList).2.2]) ∧ ∃ n, w' = w.drewN n := Any.strings_Cut Tryz.lays145 s sep m w hs hm
def Tryz.lays154_ren : Go.Shelf.Ren := ⟨fun | 154 => 111 | 138 => 135 | 165 => 136 | 143 => 137 | 166 => 34 | 197 => 138 | 169 => 35 | 195 => 158 | 218 => 159 | 240 => 61 | 241 => 160 | 219 => 150 | 260 => 161 | 276 => 83 | 277 => 186 | 217 => 166 | 225 => 167 | 224 => 168 | 267 => 169 | 266 => 187 | 314 => 188 | n => n, fun | 9 => 9 | 3 => 3 | 4 => 4 | 72 => 62 | 0 => 0 | 76 => 66 | 105 => 142 | 21 => 21 | 5 => 5 | 70 => 60 | 20 => 20 | 37 => 34 | 75 => 65 | 127 => 97 | 164 => 122 | 46 => 121 | 119 => 227 | 139 => 230 | 138 => 229 | 146 => 199 | 51 => 170 | 80 => 68 | n => n, fun | 1 => 1 | 3 => 8 | 4 => 9 | n => n⟩
theorem Tryz.lays154 : Go.Proofs.Lays.n154 Tryz.prog Tryz.lays154_ren := {
  mixed := by kernel_rfl
  f138 := Tryz.func135.trans (congrArg some (by kernel_rfl))
  f143 := Tryz.func137.trans (congrArg some (by kernel_rfl))
  f154 := Tryz.func111.trans (congrArg some (by kernel_rfl))
  f165 := Tryz.func136.trans (congrArg some (by kernel_rfl))
  f166 := Tryz.func34.trans (congrArg some (by kernel_rfl))
  f169 := Tryz.func35.trans (congrArg some (by kernel_rfl))
  f195 := Tryz.func158.trans (congrArg some (by kernel_rfl))
  f197 := Tryz.func138.trans (congrArg some (by kernel_rfl))
  f217 := Tryz.func166.trans (congrArg some (by kernel_rfl))
  f218 := Tryz.func159.trans (congrArg some (by kernel_rfl))
  f219 := Tryz.func150.trans (congrArg some (by kernel_rfl))
  f224 := Tryz.func168.trans (congrArg some (by kernel_rfl))
  f225 := Tryz.func167.trans (congrArg some (by kernel_rfl))
  f240 := Tryz.func61.trans (congrArg some (by kernel_rfl))
  f241 := Tryz.func160.trans (congrArg some (by kernel_rfl))
  f260 := Tryz.func161.trans (congrArg some (by kernel_rfl))
  f266 := Tryz.func187.trans (congrArg some (by kernel_rfl))
  f267 := Tryz.func169.trans (congrArg some (by kernel_rfl))
  f276 := Tryz.func83.trans (congrArg some (by kernel_rfl))
  f277 := Tryz.func186.trans (congrArg some (by kernel_rfl))
  f314 := Tryz.func188.trans (congrArg some (by kernel_rfl))
  t0 := Tryz.underlying0
  a0 := Tryz.isAgg0
  z0 := Tryz.sizeOf0
  v0 := Tryz.zeroValue0
  t3 := Tryz.underlying3
  a3 := Tryz.isAgg3
  z3 := Tryz.sizeOf3
  v3 := Tryz.zeroValue3
  t4 := Tryz.underlying4
  a4 := Tryz.isAgg4
  z4 := Tryz.sizeOf4
  v4 := Tryz.zeroValue4
  t5 := Tryz.underlying5
  a5 := Tryz.isAgg5
  z5 := Tryz.sizeOf5
  v5 := Tryz.zeroValue5
  t9 := Tryz.underlying9
  a9 := Tryz.isAgg9
  z9 := Tryz.sizeOf9
  v9 := Tryz.zeroValue9
  t20 := Tryz.underlying20
  a20 := Tryz.isAgg20
  z20 := Tryz.sizeOf20
  v20 := Tryz.zeroValue20
  t21 := Tryz.underlying21
  a21 := Tryz.isAgg21
  z21 := Tryz.sizeOf21
  v21 := Tryz.zeroValue21
  t37 := Tryz.underlying34
  a37 := Tryz.isAgg34
  z37 := Tryz.sizeOf34
  v37 := Tryz.zeroValue34
  t46 := Tryz.underlying121
  a46 := Tryz.isAgg121
  z46 := Tryz.sizeOf121
  v46 := Tryz.zeroValue121
  t51 := Tryz.underlying170
  a51 := Tryz.isAgg170
  z51 := Tryz.sizeOf170
  v51 := Tryz.zeroValue170
  t70 := Tryz.underlying60
  a70 := Tryz.isAgg60
  z70 := Tryz.sizeOf60
  v70 := Tryz.zeroValue60
  t72 := Tryz.underlying62
  a72 := Tryz.isAgg62
  z72 := Tryz.sizeOf62
  v72 := Tryz.zeroValue62
  t75 := Tryz.underlying65
  a75 := Tryz.isAgg65
  z75 := Tryz.sizeOf65
  v75 := Tryz.zeroValue65
  t76 := Tryz.underlying66
  a76 := Tryz.isAgg66
  z76 := Tryz.sizeOf66
  v76 := Tryz.zeroValue66
  t105 := Tryz.underlying142
  a105 := Tryz.isAgg142
  z105 := Tryz.sizeOf142
  v105 := Tryz.zeroValue142
  t119 := Tryz.underlying227
  a119 := Tryz.isAgg227
  z119 := Tryz.sizeOf227
  t127 := Tryz.underlying97
  a127 := Tryz.isAgg97
  z127 := Tryz.sizeOf97
  v127 := Tryz.zeroValue97
  t138 := Tryz.underlying229
  a138 := Tryz.isAgg229
  z138 := Tryz.sizeOf229
  v138 := Tryz.zeroValue229
  t139 := Tryz.underlying230
  a139 := Tryz.isAgg230
  z139 := Tryz.sizeOf230
  v139 := Tryz.zeroValue230
  t146 := Tryz.underlying199
  a146 := Tryz.isAgg199
  z146 := Tryz.sizeOf199
  v146 := Tryz.zeroValue199
  t164 := Tryz.underlying122
  a164 := Tryz.isAgg122
  z164 := Tryz.sizeOf122
  v164 := Tryz.zeroValue122
  g1 := by kernel_rfl
  g3 := by kernel_rfl
  g4 := by kernel_rfl }
theorem Tryz.Builder_Extra_154 : Builder.Extra Tryz.prog Tryz.lays154_ren := {
  sizeBuilder := by kernel_rfl
  liesBuilder := by kernel_rfl
  t5 := Tryz.underlying5
  a5 := Tryz.isAgg5
  z5 := Tryz.sizeOf5
  v5 := Tryz.zeroValue5
  infoByte := by kernel_rfl
  cellsByte := by kernel_rfl
  sizeByte := by kernel_rfl
  neB5 := by decide }
open Go.RowKit Go.Lib in
theorem Tryz.strings_Replace (s old new : ByteArray) (n : Int) (m : Int) (w : World) (hs : s.size < 4294967281) (hm : w.cell? ⟨1, 0, none⟩ = some (.int .i64 m)) (h1 : 1 ≤ old.size) (hlen : s.size + Lib.countB s old * new.size ≤ 140737488355328) :
    Calls Tryz.prog 111 #[.string s, .string old, .string new, .int .i64 n] w fun e w' =>
      e = .returned (.string ⟨(Lib.replace s.data.toList old.data.toList new.data.toList n).toArray⟩) ∧ Below w.heap.size w w' := Any.strings_Replace Tryz.lays154 Tryz.Builder_Extra_154 s old new n m w hs hm h1 hlen
def Tryz.lays105_ren : Go.Shelf.Ren := ⟨fun | 105 => 114 | 212 => 139 | 99 => 82 | 165 => 136 | 166 => 34 | 170 => 140 | 169 => 35 | 263 => 162 | 264 => 163 | 206 => 97 | 240 => 61 | 241 => 160 | 276 => 83 | 277 => 186 | n => n, fun | 9 => 9 | 3 => 3 | 4 => 4 | 20 => 20 | 0 => 0 | 46 => 121 | 109 => 177 | 5 => 5 | 72 => 62 | 76 => 66 | 51 => 170 | 146 => 199 | 53 => 126 | 148 => 201 | 70 => 60 | 37 => 34 | 75 => 65 | 127 => 97 | 164 => 122 | 80 => 68 | n => n, fun | n => n⟩
theorem Tryz.lays105 : Go.Proofs.Lays.n105 Tryz.prog Tryz.lays105_ren := {
  mixed := by kernel_rfl
  f99 := Tryz.func82.trans (congrArg some (by kernel_rfl))
  f105 := Tryz.func114.trans (congrArg some (by kernel_rfl))
  f165 := Tryz.func136.trans (congrArg some (by kernel_rfl))
  f166 := Tryz.func34.trans (congrArg some (by kernel_rfl))
  f169 := Tryz.func35.trans (congrArg some (by kernel_rfl))
  f170 := Tryz.func140.trans (congrArg some (by kernel_rfl))
  f206 := Tryz.func97.trans (congrArg some (by kernel_rfl))
  f212 := Tryz.func139.trans (congrArg some (by kernel_rfl))
  f240 := Tryz.func61.trans (congrArg some (by kernel_rfl))
  f241 := Tryz.func160.trans (congrArg some (by kernel_rfl))
  f263 := Tryz.func162.trans (congrArg some (by kernel_rfl))
  f264 := Tryz.func163.trans (congrArg some (by kernel_rfl))
  f276 := Tryz.func83.trans (congrArg some (by kernel_rfl))
  f277 := Tryz.func186.trans (congrArg some (by kernel_rfl))
  t0 := Tryz.underlying0
  a0 := Tryz.isAgg0
  z0 := Tryz.sizeOf0
  v0 := Tryz.zeroValue0
  t3 := Tryz.underlying3
  a3 := Tryz.isAgg3
  z3 := Tryz.sizeOf3
  v3 := Tryz.zeroValue3
  t4 := Tryz.underlying4
  a4 := Tryz.isAgg4
  z4 := Tryz.sizeOf4
  v4 := Tryz.zeroValue4
  t5 := Tryz.underlying5
  a5 := Tryz.isAgg5
  z5 := Tryz.sizeOf5
  v5 := Tryz.zeroValue5
  t9 := Tryz.underlying9
  a9 := Tryz.isAgg9
  z9 := Tryz.sizeOf9
  v9 := Tryz.zeroValue9
  t20 := Tryz.underlying20
  a20 := Tryz.isAgg20
  z20 := Tryz.sizeOf20
  v20 := Tryz.zeroValue20
  t37 := Tryz.underlying34
  a37 := Tryz.isAgg34
  z37 := Tryz.sizeOf34
  v37 := Tryz.zeroValue34
  t46 := Tryz.underlying121
  a46 := Tryz.isAgg121
  z46 := Tryz.sizeOf121
  v46 := Tryz.zeroValue121
  t51 := Tryz.underlying170
  a51 := Tryz.isAgg170
  z51 := Tryz.sizeOf170
  v51 := Tryz.zeroValue170
  t53 := Tryz.underlying126
  a53 := Tryz.isAgg126
  z53 := Tryz.sizeOf126
  v53 := Tryz.zeroValue126
  t70 := Tryz.underlying60
  a70 := Tryz.isAgg60
  z70 := Tryz.sizeOf60
  v70 := Tryz.zeroValue60
  t72 := Tryz.underlying62
  a72 := Tryz.isAgg62
  z72 := Tryz.sizeOf62
  v72 := Tryz.zeroValue62
  t75 := Tryz.underlying65
  a75 := Tryz.isAgg65
  z75 := Tryz.sizeOf65
  v75 := Tryz.zeroValue65
  t76 := Tryz.underlying66
  a76 := Tryz.isAgg66
  z76 := Tryz.sizeOf66
  v76 := Tryz.zeroValue66
  t109 := Tryz.underlying177
  a109 := Tryz.isAgg177
  z109 := Tryz.sizeOf177
  v109 := Tryz.zeroValue177
  t127 := Tryz.underlying97
  a127 := Tryz.isAgg97
  z127 := Tryz.sizeOf97
  v127 := Tryz.zeroValue97
  t146 := Tryz.underlying199
  a146 := Tryz.isAgg199
  z146 := Tryz.sizeOf199
  v146 := Tryz.zeroValue199
  t148 := Tryz.underlying201
  a148 := Tryz.isAgg201
  z148 := Tryz.sizeOf201
  v148 := Tryz.zeroValue201
  t164 := Tryz.underlying122
  a164 := Tryz.isAgg122
  z164 := Tryz.sizeOf122
  v164 := Tryz.zeroValue122 }
theorem Tryz.Builder_Extra_105 : Builder.Extra Tryz.prog Tryz.lays105_ren := {
  sizeBuilder := by kernel_rfl
  liesBuilder := by kernel_rfl
  t5 := Tryz.underlying5
  a5 := Tryz.isAgg5
  z5 := Tryz.sizeOf5
  v5 := Tryz.zeroValue5
  infoByte := by kernel_rfl
  cellsByte := by kernel_rfl
  sizeByte := by kernel_rfl
  neB5 := by decide }
open Go.RowKit Go.Lib in
theorem Tryz.strings_Repeat (s : ByteArray) (c : Nat) (w : World) (hc : c ≤ 9223372036854775807) (hlen : s.size * c ≤ 140737488355328) :
    Calls Tryz.prog 114 #[.string s, .int .i64 c] w fun e w' => e = .returned (.string ⟨(Lib.repeatL s.data.toList c).toArray⟩) ∧ Below w.heap.size w w' := Any.strings_Repeat Tryz.lays105 Tryz.Builder_Extra_105 s c w hc hlen
def Tryz.lays172_ren : Go.Shelf.Ren := ⟨fun | 172 => 110 | 244 => 133 | 245 => 134 | 247 => 153 | 279 => 154 | 280 => 155 | 281 => 156 | 282 => 157 | 287 => 182 | 316 => 183 | 171 => 185 | 205 => 184 | 321 => 191 | 322 => 208 | 243 => 209 | 246 => 91 | 283 => 104 | 284 => 105 | 285 => 106 | 286 => 107 | 129 => 127 | 317 => 126 | 318 => 128 | 319 => 129 | 320 => 130 | 337 => 148 | 338 => 149 | n => n, fun | 9 => 9 | 3 => 3 | 75 => 65 | 76 => 66 | 4 => 4 | 5 => 5 | 167 => 192 | 37 => 34 | 0 => 0 | 85 => 193 | 2 => 2 | 168 => 195 | 53 => 126 | 175 => 220 | 46 => 121 | 210 => 224 | 127 => 97 | 145 => 249 | 143 => 247 | 21 => 21 | 171 => 144 | 173 => 147 | 212 => 169 | 51 => 170 | 20 => 20 | 213 => 171 | 232 => 205 | 233 => 206 | 80 => 68 | n => n, fun | 15 => 6 | 16 => 7 | 17 => 2 | 18 => 3 | 19 => 4 | n => n⟩
theorem Tryz.lays172 : Go.Proofs.Lays.n172 Tryz.prog Tryz.lays172_ren := {
  mixed := by kernel_rfl
  f129 := Tryz.func127.trans (congrArg some (by kernel_rfl))
  f171 := Tryz.func185.trans (congrArg some (by kernel_rfl))
  f172 := Tryz.func110.trans (congrArg some (by kernel_rfl))
  f205 := Tryz.func184.trans (congrArg some (by kernel_rfl))
  f243 := Tryz.func209.trans (congrArg some (by kernel_rfl))
  f244 := Tryz.func133.trans (congrArg some (by kernel_rfl))
  f245 := Tryz.func134.trans (congrArg some (by kernel_rfl))
  f246 := Tryz.func91.trans (congrArg some (by kernel_rfl))
  f247 := Tryz.func153.trans (congrArg some (by kernel_rfl))
  f279 := Tryz.func154.trans (congrArg some (by kernel_rfl))
  f280 := Tryz.func155.trans (congrArg some (by kernel_rfl))
  f281 := Tryz.func156.trans (congrArg some (by kernel_rfl))
  f282 := Tryz.func157.trans (congrArg some (by kernel_rfl))
  f283 := Tryz.func104.trans (congrArg some (by kernel_rfl))
  f284 := Tryz.func105.trans (congrArg some (by kernel_rfl))
  f285 := Tryz.func106.trans (congrArg some (by kernel_rfl))
  f286 := Tryz.func107.trans (congrArg some (by kernel_rfl))
  f287 := Tryz.func182.trans (congrArg some (by kernel_rfl))
  f316 := Tryz.func183.trans (congrArg some (by kernel_rfl))
  f317 := Tryz.func126.trans (congrArg some (by kernel_rfl))
  f318 := Tryz.func128.trans (congrArg some (by kernel_rfl))
  f319 := Tryz.func129.trans (congrArg some (by kernel_rfl))
  f320 := Tryz.func130.trans (congrArg some (by kernel_rfl))
  f321 := Tryz.func191.trans (congrArg some (by kernel_rfl))
  f322 := Tryz.func208.trans (congrArg some (by kernel_rfl))
  f337 := Tryz.func148.trans (congrArg some (by kernel_rfl))
  f338 := Tryz.func149.trans (congrArg some (by kernel_rfl))
  t0 := Tryz.underlying0
  a0 := Tryz.isAgg0
  z0 := Tryz.sizeOf0
  v0 := Tryz.zeroValue0
  t2 := Tryz.underlying2
  a2 := Tryz.isAgg2
  z2 := Tryz.sizeOf2
  v2 := Tryz.zeroValue2
  t3 := Tryz.underlying3
  a3 := Tryz.isAgg3
  z3 := Tryz.sizeOf3
  v3 := Tryz.zeroValue3
  t4 := Tryz.underlying4
  a4 := Tryz.isAgg4
  z4 := Tryz.sizeOf4
  v4 := Tryz.zeroValue4
  t5 := Tryz.underlying5
  a5 := Tryz.isAgg5
  z5 := Tryz.sizeOf5
  v5 := Tryz.zeroValue5
  t9 := Tryz.underlying9
  a9 := Tryz.isAgg9
  z9 := Tryz.sizeOf9
  v9 := Tryz.zeroValue9
  t20 := Tryz.underlying20
  a20 := Tryz.isAgg20
  z20 := Tryz.sizeOf20
  v20 := Tryz.zeroValue20
  t21 := Tryz.underlying21
  a21 := Tryz.isAgg21
  z21 := Tryz.sizeOf21
  v21 := Tryz.zeroValue21
  t37 := Tryz.underlying34
  a37 := Tryz.isAgg34
  z37 := Tryz.sizeOf34
  v37 := Tryz.zeroValue34
  t46 := Tryz.underlying121
  a46 := Tryz.isAgg121
  z46 := Tryz.sizeOf121
  v46 := Tryz.zeroValue121
  t51 := Tryz.underlying170
  a51 := Tryz.isAgg170
  z51 := Tryz.sizeOf170
  v51 := Tryz.zeroValue170
  t53 := Tryz.underlying126
  a53 := Tryz.isAgg126
  z53 := Tryz.sizeOf126
  v53 := Tryz.zeroValue126
  t75 := Tryz.underlying65
  a75 := Tryz.isAgg65
  z75 := Tryz.sizeOf65
  v75 := Tryz.zeroValue65
  t76 := Tryz.underlying66
  a76 := Tryz.isAgg66
  z76 := Tryz.sizeOf66
  v76 := Tryz.zeroValue66
  t85 := Tryz.underlying193
  a85 := Tryz.isAgg193
  z85 := Tryz.sizeOf193
  v85 := Tryz.zeroValue193
  t127 := Tryz.underlying97
  a127 := Tryz.isAgg97
  z127 := Tryz.sizeOf97
  v127 := Tryz.zeroValue97
  t143 := Tryz.underlying247
  a143 := Tryz.isAgg247
  z143 := Tryz.sizeOf247
  v143 := Tryz.zeroValue247
  t145 := Tryz.underlying249
  a145 := Tryz.isAgg249
  z145 := Tryz.sizeOf249
  v145 := Tryz.zeroValue249
  t167 := Tryz.underlying192
  a167 := Tryz.isAgg192
  z167 := Tryz.sizeOf192
  v167 := Tryz.zeroValue192
  t168 := Tryz.underlying195
  a168 := Tryz.isAgg195
  z168 := Tryz.sizeOf195
  v168 := Tryz.zeroValue195
  t171 := Tryz.underlying144
  a171 := Tryz.isAgg144
  z171 := Tryz.sizeOf144
  v171 := Tryz.zeroValue144
  t173 := Tryz.underlying147
  a173 := Tryz.isAgg147
  z173 := Tryz.sizeOf147
  v173 := Tryz.zeroValue147
  t175 := Tryz.underlying220
  a175 := Tryz.isAgg220
  z175 := Tryz.sizeOf220
  v175 := Tryz.zeroValue220
  t210 := Tryz.underlying224
  a210 := Tryz.isAgg224
  z210 := Tryz.sizeOf224
  v210 := Tryz.zeroValue224
  t212 := Tryz.underlying169
  a212 := Tryz.isAgg169
  z212 := Tryz.sizeOf169
  v212 := Tryz.zeroValue169
  t213 := Tryz.underlying171
  a213 := Tryz.isAgg171
  z213 := Tryz.sizeOf171
  t232 := Tryz.underlying205
  a232 := Tryz.isAgg205
  z232 := Tryz.sizeOf205
  v232 := Tryz.zeroValue205
  t233 := Tryz.underlying206
  a233 := Tryz.isAgg206
  z233 := Tryz.sizeOf206
  v233 := Tryz.zeroValue206
  g15 := by kernel_rfl
  g16 := by kernel_rfl
  g17 := by kernel_rfl
  g18 := by kernel_rfl
  g19 := by kernel_rfl }
open Go.RowKit in
theorem Tryz.strconv_Atoi (s : ByteArray) (n : Int) (hl : s.size ≤ 18) (h : Lib.atoi s.data.toList = some n) (w : World) :
    Calls Tryz.prog 110 #[.string s] w fun e w' => e = .returned (.tuple #[.int .i64 n, .nilIface]) ∧ ∃ t, w' = Lib.bytesWorld w 5 t := Any.strconv_Atoi Tryz.lays172 s n hl h w
def Tryz.laysM246_ren : Go.Shelf.Ren := ⟨fun | 246 => 91 | 283 => 104 | 284 => 105 | 285 => 106 | 286 => 107 | 129 => 127 | 317 => 126 | 318 => 128 | 319 => 129 | 320 => 130 | 337 => 148 | 338 => 149 | n => n, fun | 2 => 2 | 3 => 3 | 9 => 9 | 4 => 4 | 171 => 144 | 0 => 0 | 53 => 126 | 37 => 34 | 5 => 5 | 173 => 147 | 212 => 169 | 51 => 170 | 20 => 20 | 213 => 171 | 46 => 121 | 232 => 205 | 233 => 206 | n => n, fun | 17 => 2 | 18 => 3 | 19 => 4 | n => n⟩
theorem Tryz.laysM246 : Go.Proofs.LaysM.n246 Tryz.prog Tryz.laysM246_ren := {
  mixed := by kernel_rfl
  f129 := Tryz.func127.trans (congrArg some (by kernel_rfl))
  f246 := Tryz.func91.trans (congrArg some (by kernel_rfl))
  f283 := Tryz.func104.trans (congrArg some (by kernel_rfl))
  f284 := Tryz.func105.trans (congrArg some (by kernel_rfl))
  f285 := Tryz.func106.trans (congrArg some (by kernel_rfl))
  f286 := Tryz.func107.trans (congrArg some (by kernel_rfl))
  f317 := Tryz.func126.trans (congrArg some (by kernel_rfl))
  f318 := Tryz.func128.trans (congrArg some (by kernel_rfl))
  f319 := Tryz.func129.trans (congrArg some (by kernel_rfl))
  f320 := Tryz.func130.trans (congrArg some (by kernel_rfl))
  f337 := Tryz.func148.trans (congrArg some (by kernel_rfl))
  f338 := Tryz.func149.trans (congrArg some (by kernel_rfl))
  t0 := Tryz.underlying0
  a0 := Tryz.isAgg0
  z0 := Tryz.sizeOf0
  v0 := Tryz.zeroValue0
  t2 := Tryz.underlying2
  a2 := Tryz.isAgg2
  z2 := Tryz.sizeOf2
  v2 := Tryz.zeroValue2
  t3 := Tryz.underlying3
  a3 := Tryz.isAgg3
  z3 := Tryz.sizeOf3
  v3 := Tryz.zeroValue3
  t4 := Tryz.underlying4
  a4 := Tryz.isAgg4
  z4 := Tryz.sizeOf4
  v4 := Tryz.zeroValue4
  t5 := Tryz.underlying5
  a5 := Tryz.isAgg5
  z5 := Tryz.sizeOf5
  v5 := Tryz.zeroValue5
  t9 := Tryz.underlying9
  a9 := Tryz.isAgg9
  z9 := Tryz.sizeOf9
  v9 := Tryz.zeroValue9
  t20 := Tryz.underlying20
  a20 := Tryz.isAgg20
  z20 := Tryz.sizeOf20
  v20 := Tryz.zeroValue20
  t37 := Tryz.underlying34
  a37 := Tryz.isAgg34
  z37 := Tryz.sizeOf34
  v37 := Tryz.zeroValue34
  t46 := Tryz.underlying121
  a46 := Tryz.isAgg121
  z46 := Tryz.sizeOf121
  v46 := Tryz.zeroValue121
  t51 := Tryz.underlying170
  a51 := Tryz.isAgg170
  z51 := Tryz.sizeOf170
  v51 := Tryz.zeroValue170
  t53 := Tryz.underlying126
  a53 := Tryz.isAgg126
  z53 := Tryz.sizeOf126
  v53 := Tryz.zeroValue126
  t171 := Tryz.underlying144
  a171 := Tryz.isAgg144
  z171 := Tryz.sizeOf144
  v171 := Tryz.zeroValue144
  t173 := Tryz.underlying147
  a173 := Tryz.isAgg147
  z173 := Tryz.sizeOf147
  v173 := Tryz.zeroValue147
  t212 := Tryz.underlying169
  a212 := Tryz.isAgg169
  z212 := Tryz.sizeOf169
  v212 := Tryz.zeroValue169
  t213 := Tryz.underlying171
  a213 := Tryz.isAgg171
  z213 := Tryz.sizeOf171
  t232 := Tryz.underlying205
  a232 := Tryz.isAgg205
  z232 := Tryz.sizeOf205
  v232 := Tryz.zeroValue205
  t233 := Tryz.underlying206
  a233 := Tryz.isAgg206
  z233 := Tryz.sizeOf206
  v233 := Tryz.zeroValue206
  g17 := by kernel_rfl
  g18 := by kernel_rfl
  g19 := by kernel_rfl
  i0 := by kernel_rfl
  i2 := by kernel_rfl
  i3 := by kernel_rfl
  i4 := by kernel_rfl
  i5 := by kernel_rfl
  i9 := by kernel_rfl
  i20 := by kernel_rfl
  i37 := by kernel_rfl
  i46 := by kernel_rfl
  i51 := by kernel_rfl
  i53 := by kernel_rfl
  i171 := by kernel_rfl
  i173 := by kernel_rfl
  i212 := by kernel_rfl
  i232 := by kernel_rfl
  i233 := by kernel_rfl
  m17 := by kernel_rfl
  m18 := by kernel_rfl
  m19 := by kernel_rfl }
open Go.RowKit Go.Sort Go.Lib in
theorem Tryz.internal_strconv_FormatInt_10 (n : Int) (h0 : -9223372036854775808 ≤ n) (h1 : n ≤ 9223372036854775807) (w : World) (htab : Lib.TabIs Tryz.prog w "internal/strconv.uint64pow10" .u64 Lib.pow10Tab) :
    Calls Tryz.prog 91 #[.int .i64 n, .int .i64 10] w fun e w' => e = .returned (.string ⟨(Lib.itoa n).toArray⟩) ∧ ∃ k os, w' = grow (w.drewN k) os := Any.internal_strconv_FormatInt_10 Tryz.laysM246 n h0 h1 w htab
end Go.Proofs
namespace Go.Proofs.YtechaplindbfoaaGreatDoor.fto
open Go.ChangeShapes Go.WideShapes Go.ChangeAt Go.RowKit
open mem Go.Sort
open ints (hide unhide)
set_option linter.unusedVariables false
def u8s (zs : List Int) : List UInt8 := zs.map fun n => UInt8.ofNat n.toNat
theorem u8s_app (a b : List Int) : u8s (a ++ b) = u8s a ++ u8s b := by simp [u8s]
theorem str_u8s (zs : List Int) : strOfNums zs = ⟨(u8s zs).toArray⟩ := rfl
theorem index_at (c : UInt8) (rest : List UInt8) : ∀ pre : List UInt8, c ∉ pre → Lib.index (pre ++ c :: rest) [c] = pre.length
  | [], _ => by simp [Lib.index]
  | b :: l, h => by
    have hb : ¬ c = b := fun e => h (by simp [e])
    have hl : c ∉ l := fun e => h (by simp [e])
    have ih := index_at c rest l hl
    rw [List.cons_append, Lib.index, if_neg (by simp [hb]), ih, if_neg (by simp)]
    simp
theorem index_no (c : UInt8) : ∀ l : List UInt8, c ∉ l → Lib.index l [c] = -1
  | [], _ => by simp [Lib.index]
  | b :: l, h => by
    have hb : ¬ c = b := fun e => h (by simp [e])
    have hl : c ∉ l := fun e => h (by simp [e])
    rw [Lib.index, if_neg (by simp [hb]), index_no c l hl]
    simp
theorem cut_at (c : UInt8) (pre rest : List UInt8) (h : c ∉ pre) : Lib.cut (pre ++ c :: rest) [c] = (pre, rest, true) := by
  have hi := index_at c rest pre h
  unfold Lib.cut
  rw [hi, if_pos (by omega)]
  simp
theorem repl_no (c : UInt8) (s : List UInt8) (h : c ∉ s) : Lib.replace s [c] [] 1 = s := by
  have hi := index_no c s h
  have hc : Lib.count s [c] = 0 := by unfold Lib.count Lib.countFrom; rw [hi]; simp
  unfold Lib.replace Lib.replaceNum
  rw [if_neg (by simp), hc, if_pos (by omega)]
  rfl
theorem repl_one (c : UInt8) (pre rest : List UInt8) (h : c ∉ pre) (h2 : c ∉ rest) : Lib.replace (pre ++ c :: rest) [c] [] 1 = pre ++ rest := by
  have hi := index_at c rest pre h
  have hj := index_no c rest h2
  have hd : (pre ++ c :: rest).drop (pre.length + [c].length) = rest := by simp
  have hc : Lib.count (pre ++ c :: rest) [c] = 1 := by
    unfold Lib.count
    rw [Lib.countFrom, hi, if_neg (by simp), Int.toNat_natCast, hd]
    cases hl : (pre ++ c :: rest).length with
    | zero => simp at hl
    | succ n => rw [Lib.countFrom, hj]; simp
  unfold Lib.replace Lib.replaceNum
  rw [if_neg (by simp), hc, if_neg (by omega)]
  show Lib.replaceK [c] [] 1 _ = _
  rw [Lib.replaceK_hit [c] [] 0 _ pre.length hi, hd]
  simp [Lib.replaceK]
theorem atoi_all : ((List.range 801).all fun i => decide (Lib.atoi (u8s (eTail ((i : Int) - 399))) = some ((i : Int) - 400))) = true := by decide +kernel
theorem atoi_tail {dp : Int} (h0 : -399 ≤ dp) (h1 : dp ≤ 401) : Lib.atoi (u8s (eTail dp)) = some (dp - 1) := by
  obtain ⟨i, hi⟩ : ∃ i : Nat, dp = (i : Int) - 399 := ⟨(dp + 399).toNat, by omega⟩
  have := List.all_eq_true.1 atoi_all i (List.mem_range.2 (by omega))
  rw [hi, of_decide_eq_true this]
  congr 1
  omega
theorem tail_len (dp : Int) : (eTail dp).length ≤ 4 := by
  unfold eTail eDig
  split <;> split <;> (try split) <;> simp
theorem dgt_rng (d nd j : Nat) : 48 ≤ dgt d nd j ∧ dgt d nd j ≤ 57 := by
  rw [dgt_eq]
  have : d / 10 ^ (nd - 1 - j) % 10 < 10 := Nat.mod_lt _ (by decide)
  omega
/-- the digits that are written -/
def dgs (d k : Nat) : List Int := (List.range k).map (dgt d (Lib.nDigits d))
theorem dgs_len (d k : Nat) : (dgs d k).length = k := by simp [dgs]
theorem dgs_cons (d k : Nat) (hk : 1 ≤ k) : dgs d k = dgt d (Lib.nDigits d) 0 :: dTail d (Lib.nDigits d) k := by
  obtain ⟨m, rfl⟩ : ∃ m, k = m + 1 := ⟨k - 1, by omega⟩
  simp [dgs, dTail, List.range_succ_eq_map, Nat.add_comm]
theorem dig_not {zs : List Int} (h : ∀ z ∈ zs, 48 ≤ z ∧ z ≤ 57) {c : UInt8} (hc : c.toNat < 48 ∨ 57 < c.toNat) : c ∉ u8s zs := by
  intro hm
  obtain ⟨z, hz, e⟩ := List.mem_map.1 hm
  obtain ⟨h1, h2⟩ := h z hz
  have : (UInt8.ofNat z.toNat).toNat = z.toNat := UInt8.toNat_ofNat_of_lt' (by show _ < 256; omega)
  rw [e] at this
  omega
theorem dgs_rng (d k : Nat) : ∀ z ∈ dgs d k, 48 ≤ z ∧ z ≤ 57 := by
  intro z hz
  obtain ⟨j, -, rfl⟩ := List.mem_map.1 hz
  exact dgt_rng _ _ _
theorem tail_rng (d nd k : Nat) : ∀ z ∈ dTail d nd k, 48 ≤ z ∧ z ≤ 57 := by
  intro z hz
  obtain ⟨j, -, rfl⟩ := List.mem_map.1 hz
  exact dgt_rng _ _ _
/-- what stands ahead of the e -/
def manT (d k : Nat) : List Int := if dTail d (Lib.nDigits d) k = [] then [dgt d (Lib.nDigits d) 0] else dgt d (Lib.nDigits d) 0 :: 46 :: dTail d (Lib.nDigits d) k
theorem sTxt_eq (d k : Nat) (q : Int) : sTxt d (Lib.nDigits d) k q = manT d k ++ 101 :: eTail ((Lib.nDigits d : Int) + q) := rfl
theorem man_no (d k : Nat) : (101 : UInt8) ∉ u8s (manT d k) := by
  unfold manT
  have h0 := dgt_rng d (Lib.nDigits d) 0
  split
  · exact dig_not (fun z hz => by simp at hz; subst hz; exact h0) (.inr (by decide))
  · intro hm
    rw [show u8s (dgt d (Lib.nDigits d) 0 :: 46 :: dTail d (Lib.nDigits d) k) = u8s [dgt d (Lib.nDigits d) 0] ++ 46 :: u8s (dTail d (Lib.nDigits d) k) from rfl] at hm
    rcases List.mem_append.1 hm with h | h
    · exact dig_not (fun z hz => by simp at hz; subst hz; exact h0) (.inr (by decide)) h
    · rcases List.mem_cons.1 h with h | h
      · exact absurd h (by decide)
      · exact dig_not (tail_rng _ _ _) (.inr (by decide)) h
theorem man_repl (d k : Nat) (hk : 1 ≤ k) : Lib.replace (u8s (manT d k)) [46] [] 1 = u8s (dgs d k) := by
  have h0 := dgt_rng d (Lib.nDigits d) 0
  have hg : (46 : UInt8) ∉ u8s [dgt d (Lib.nDigits d) 0] := dig_not (fun z hz => by simp at hz; subst hz; exact h0) (.inl (by decide))
  rw [dgs_cons d k hk]
  unfold manT
  split
  · rename_i h
    rw [h, repl_no _ _ hg]
  · rw [show u8s (dgt d (Lib.nDigits d) 0 :: 46 :: dTail d (Lib.nDigits d) k) = u8s [dgt d (Lib.nDigits d) 0] ++ 46 :: u8s (dTail d (Lib.nDigits d) k) from rfl, repl_one _ _ _ hg (dig_not (tail_rng _ _ _) (.inl (by decide)))]
    rfl
theorem man_len (d k : Nat) (hk : 1 ≤ k) : (manT d k).length ≤ k + 1 := by
  unfold manT
  have : (dTail d (Lib.nDigits d) k).length = k - 1 := by simp [dTail]
  split <;> simp <;> omega
end Go.Proofs.YtechaplindbfoaaGreatDoor.fto
namespace Go.Proofs.YtechaplindbfoaaGreatDoor.fto
open Go.ChangeShapes Go.WideShapes Go.ChangeAt Go.RowKit
open mem Go.Sort
open ints (hide unhide)
set_option linter.unusedVariables false
/-- all that the writing of a float asks of the world -/
structure Fx (w : World) : Prop where
  fw : Fw w
  most : ∃ m, w.cell? ⟨1, 0, none⟩ = some (.int .i64 m)
  ml : 1 < w.heap.size
theorem Fx.below {w W : World} (h : Fx w) (hb : Below w.heap.size w W) : Fx W := by
  obtain ⟨m, hm⟩ := h.most
  exact ⟨h.fw.below hb, ⟨m, (hb.cell (p := ⟨1, 0, none⟩) h.ml).trans hm⟩, Nat.lt_of_lt_of_le h.ml hb.size⟩
theorem below_dn (w : World) (n : Nat) : Below w.heap.size w (w.drewN n) := below_drewN (Below.refl _ _) n
set_option maxRecDepth 100000 in
theorem shortest_in (a d : Nat) (q : Int) (w : World) (hF : Fx w) (hc : Chosen a d q)
    (HT : ∀ w, Fw w → Calls Tryz.prog 109 #[.float .f64 a, .int .u8 101, .int .i64 (-1), .int .i64 64] w fun e w' => ∃ k, Kept d k ∧ e = .returned (.string (strOfNums (sTxt d (Lib.nDigits d) k q))) ∧ Below w.heap.size w w') :
    Calls Tryz.prog 92 #[.float .f64 a] w fun e w' => ∃ k, Kept d k ∧ e = .returned (.tuple #[.string (strOfNums (dgs d k)), .int .i64 ((Lib.nDigits d : Int) + q)]) ∧ Below w.heap.size w w' := by
  obtain ⟨-, d1, d2, q1, q2⟩ := hc.rng
  have n4 : Lib.nDigits d ≤ 18 := nd_le d1 (Nat.lt_of_le_of_lt d2 (by decide))
  have n1 := (nd_pow d d1).2.2
  have HH := hide (HT w hF.fw)
  have HF := hide hF
  clear HT hF hc
  go_enter Tryz.func92, Tryz.ntmps92
  go_wp2_with fail
  refine (unhide HH).mono ?_
  rintro e w1 ⟨k, hk, rfl, b1⟩
  have F1 := (unhide HF).below b1
  obtain ⟨m1, hm1⟩ := F1.most
  have hk18 : k ≤ 18 := by have := hk.2.1; omega
  have hk1 := hk.1
  have hsz : (strOfNums (sTxt d (Lib.nDigits d) k q)).size ≤ 40 := by
    rw [strOfNums_size, sTxt_eq]
    have := man_len d k hk1
    have := tail_len ((Lib.nDigits d : Int) + q)
    simp
    omega
  have CU := Tryz.strings_Cut (strOfNums (sTxt d (Lib.nDigits d) k q)) ⟨#[101]⟩ m1 w1 (by omega) hm1
  have ec : Lib.cut (strOfNums (sTxt d (Lib.nDigits d) k q)).data.toList (⟨#[101]⟩ : ByteArray).data.toList = (u8s (manT d k), u8s (eTail ((Lib.nDigits d : Int) + q)), true) := by
    show Lib.cut (u8s (sTxt d (Lib.nDigits d) k q)) [101] = _
    rw [sTxt_eq, u8s_app]
    exact cut_at 101 _ _ (man_no d k)
  rw [ec] at CU
  obtain ⟨T, hT⟩ : ∃ T, T = strOfNums (sTxt d (Lib.nDigits d) k q) := ⟨_, rfl⟩
  obtain ⟨S1, hS1⟩ : ∃ S, S = (⟨(u8s (manT d k)).toArray⟩ : ByteArray) := ⟨_, rfl⟩
  obtain ⟨S2, hS2⟩ : ∃ S, S = (⟨(u8s (eTail ((Lib.nDigits d : Int) + q))).toArray⟩ : ByteArray) := ⟨_, rfl⟩
  simp only [← hS1, ← hS2, ← hT] at CU
  have HC := hide CU
  have l1 : S1.size ≤ 30 := by rw [hS1]; show (u8s (manT d k)).toArray.size ≤ 30; have := man_len d k hk1; simp [u8s]; omega
  have l2 : S2.size ≤ 18 := by rw [hS2]; show (u8s (eTail ((Lib.nDigits d : Int) + q))).toArray.size ≤ 18; have := tail_len ((Lib.nDigits d : Int) + q); simp [u8s]; omega
  have hat : Lib.atoi S2.data.toList = some ((Lib.nDigits d : Int) + q - 1) := by rw [hS2]; exact atoi_tail (by omega) (by omega)
  have hre : Lib.replace S1.data.toList (⟨#[46]⟩ : ByteArray).data.toList (⟨#[]⟩ : ByteArray).data.toList 1 = u8s (dgs d k) := by rw [hS1]; exact man_repl d k hk1
  obtain ⟨D, hD⟩ : ∃ D, D = strOfNums (dgs d k) := ⟨_, rfl⟩
  have hre' : (⟨(Lib.replace S1.data.toList (⟨#[46]⟩ : ByteArray).data.toList (⟨#[]⟩ : ByteArray).data.toList 1).toArray⟩ : ByteArray) = D := by rw [hre, hD, str_u8s]
  have HD := hide hD
  have R := hide (⟨hk, b1, F1⟩ : Kept d k ∧ Below w.heap.size w w1 ∧ Fx w1)
  obtain ⟨X, hX⟩ : ∃ X : Int, X = (Lib.nDigits d : Int) + q - 1 := ⟨_, rfl⟩
  rw [← hX] at hat
  have AT := hide (fun W => Tryz.strconv_Atoi S2 X l2 hat W)
  have RE := hide (fun W hF => Tryz.strings_Replace S1 ⟨#[46]⟩ ⟨#[]⟩ 1 (Classical.choose (Fx.most hF)) W (by omega) (Classical.choose_spec (Fx.most hF)) (by decide) (by show S1.size + _ * 0 ≤ _; omega))
  rw [hre'] at RE
  have xb : -1000 ≤ X ∧ X ≤ 1000 := by omega
  have HX := hide hX
  rw [← hT]
  clear hX hre hre' hat hS1 hS2 hT hk b1 F1 hm1 hD ec CU hsz HH HF
  go_wp2_with fail
  refine (unhide HC).mono ?_
  rintro e w2 ⟨rfl, n, rfl⟩
  have b2 := below_dn w1 n
  have F2 := (unhide R).2.2.below b2
  generalize w1.drewN n = W2 at *
  go_wp2_with fail
  refine (unhide AT W2).mono ?_
  rintro e w3 ⟨rfl, t, rfl⟩
  have b3 := Lib.bytesWorld_below W2 5 t
  have F3 := F2.below b3
  generalize Lib.bytesWorld W2 5 t = W3 at *
  go_wp2_with fail
  refine (unhide RE W3 F3).mono ?_
  rintro e w4 ⟨rfl, b4⟩
  have B := hide (show Below w.heap.size w w4 from by
    have c1 := (unhide R).2.1
    have c2 := c1.trans (b2.mono c1.size)
    have c3 := c2.trans (b3.mono c2.size)
    exact c3.trans (b4.mono c3.size))
  clear b2 b3 b4 F2 F3 RE AT HC
  go_wp2
  go_ret2
  refine ⟨k, (unhide R).1, ?_, unhide B⟩
  have e : (Lib.nDigits d : Int) + q = X + 1 := by have := unhide HX; omega
  rw [← unhide HD, e]
  rfl
set_option maxRecDepth 100000 in
theorem shortest_any (a : Nat) (ha : 0 < a) (hai : a < infR) : ∃ d q, Chosen a d q ∧ ∀ w, Fx w → Calls Tryz.prog 92 #[.float .f64 a] w fun e w' => ∃ k, Kept d k ∧ e = .returned (.tuple #[.string (strOfNums (dgs d k)), .int .i64 ((Lib.nDigits d : Int) + q)]) ∧ Below w.heap.size w w' := by
  obtain ⟨d, q, hc, H⟩ := ffmt_any a ha hai
  exact ⟨d, q, hc, fun w hF => shortest_in a d q w hF hc H⟩
end Go.Proofs.YtechaplindbfoaaGreatDoor.fto
namespace Go.Proofs.YtechaplindbfoaaGreatDoor.fto
open Go.ChangeShapes Go.WideShapes Go.ChangeAt Go.RowKit
open mem Go.Sort
open ints (hide unhide)
set_option linter.unusedVariables false
def itB (x : Int) : ByteArray := ⟨(Lib.itoa x).toArray⟩
def rpB (n : Nat) : ByteArray := ⟨(Lib.repeatL [48] n).toArray⟩
def expB (D : ByteArray) (x : Int) : ByteArray := (if 1 < D.size then D.extract 0 1 ++ (⟨#[46]⟩ ++ D.extract 1 D.size) else D.extract 0 1) ++ ⟨#[101]⟩ ++ itB x
/-- what layOut writes -/
def layB (D : ByteArray) (p : Int) : ByteArray :=
  if p < -5 ∨ 21 < p then expB D (p - 1) else if p ≤ 0 then ⟨#[48, 46]⟩ ++ rpB (-p).toNat ++ D else if (D.size : Int) ≤ p then D ++ rpB (p.toNat - D.size) ++ ⟨#[46, 48]⟩ else D.extract 0 p.toNat ++ ⟨#[46]⟩ ++ D.extract p.toNat D.size
theorem itB_size (x : Int) (h0 : -9223372036854775808 ≤ x) (h1 : x ≤ 9223372036854775807) : (itB x).size ≤ 21 := Lib.itoa_length_le x h0 h1
theorem rpB_size (n : Nat) : (rpB n).size = n := by
  show (Lib.repeatL [48] n).toArray.size = n
  rw [List.size_toArray, Lib.repeatL_length]
  simp
set_option maxRecDepth 100000 in
theorem fi_ok (x : Int) (h0 : -9223372036854775808 ≤ x) (h1 : x ≤ 9223372036854775807) (w : World) (hF : Fx w) : Calls Tryz.prog 69 #[.int .i64 x, .int .i64 10] w fun e w' => e = .returned (.string (itB x)) ∧ Below w.heap.size w w' := by
  have IT := hide (Tryz.internal_strconv_FormatInt_10 x h0 h1 w (hF.fw.tab w (Below.refl _ _)))
  obtain ⟨S, hS⟩ : ∃ S : ByteArray, S = ⟨(Lib.itoa x).toArray⟩ := ⟨_, rfl⟩
  have HS := hide (show itB x = S by rw [hS]; rfl)
  rw [← hS] at IT
  clear hS
  go_enter Tryz.func69, Tryz.ntmps69
  go_wp2_with fail
  refine (unhide IT).mono ?_
  rintro e w1 ⟨rfl, kk, os, rfl⟩
  have b1 : Below w.heap.size w (Go.Sort.grow (w.drewN kk) os) := Lib.below_grow _ _ (Nat.le_refl _) _ _
  generalize Go.Sort.grow (w.drewN kk) os = W at *
  go_wp2
  go_ret
  rw [unhide HS]
  exact ⟨rfl, b1⟩
set_option maxRecDepth 100000 in
theorem whole_ok (x : Int) (h0 : -9223372036854775808 ≤ x) (h1 : x ≤ 9223372036854775807) (w : World) (hF : Fx w) : Calls Tryz.prog 39 #[.int .i64 x] w fun e w' => e = .returned (.string (itB x)) ∧ Below w.heap.size w w' := by
  have IT := hide (fi_ok x h0 h1 w hF)
  generalize itB x = S at *
  go_enter Tryz.func39, Tryz.ntmps39
  go_wp2_with fail
  refine (unhide IT).mono ?_
  rintro e w1 ⟨rfl, b1⟩
  go_wp2
  go_ret
  exact ⟨rfl, b1⟩
theorem sz_ext (D : ByteArray) (i j : Nat) : (D.extract i j).size ≤ D.size := by
  rw [ByteArray.size_extract]; omega
set_option maxRecDepth 100000 in
theorem exp_ok (D : ByteArray) (x : Int) (w : World) (hF : Fx w) (h1 : 1 ≤ D.size) (hD : D.size ≤ 1000) (x0 : -10000 ≤ x) (x1 : x ≤ 10000) : Calls Tryz.prog 113 #[.string D, .int .i64 x] w fun e w' => e = .returned (.string (expB D x)) ∧ Below w.heap.size w w' := by
  have WT := hide (whole_ok x (by omega) (by omega) w hF)
  have hl := itB_size x (by omega) (by omega)
  have e1 := sz_ext D 0 1
  have e2 := sz_ext D 1 D.size
  have HE := hide (show expB D x = (if 1 < D.size then D.extract 0 1 ++ (⟨#[46]⟩ ++ D.extract 1 D.size) else D.extract 0 1) ++ ⟨#[101]⟩ ++ itB x from rfl)
  generalize itB x = S at *
  by_cases h2 : 1 < D.size
  · have i1 : (1 : Int) < (D.size : Int) := by omega
    go_enter Tryz.func113, Tryz.ntmps113
    go_wp2_with fail
    refine (unhide WT).mono ?_
    rintro e w1 ⟨rfl, b1⟩
    go_wp2
    go_ret
    rw [unhide HE, if_pos h2]
    exact ⟨rfl, b1⟩
  · have i1 : ¬ (1 : Int) < (D.size : Int) := by omega
    go_enter Tryz.func113, Tryz.ntmps113
    go_wp2_with fail
    refine (unhide WT).mono ?_
    rintro e w1 ⟨rfl, b1⟩
    go_wp2
    go_ret
    rw [unhide HE, if_neg h2]
    exact ⟨rfl, b1⟩
set_option maxRecDepth 100000 in
theorem lay_ok (D : ByteArray) (p : Int) (w : World) (hF : Fx w) (h1 : 1 ≤ D.size) (hD : D.size ≤ 1000) (p0 : -5000 ≤ p) (p1 : p ≤ 5000) : Calls Tryz.prog 94 #[.string D, .int .i64 p] w fun e w' => e = .returned (.string (layB D p)) ∧ Below w.heap.size w w' := by
  by_cases c1 : p < -5 ∨ 21 < p
  · have EX := hide (exp_ok D (p - 1) w hF h1 hD (by omega) (by omega))
    have HE := hide (show layB D p = expB D (p - 1) by unfold layB; rw [if_pos c1])
    generalize expB D (p - 1) = S at *
    by_cases c2 : p < -5
    · clear c1
      go_enter Tryz.func94, Tryz.ntmps94
      go_wp2_with fail
      refine (unhide EX).mono ?_
      rintro e w1 ⟨rfl, b1⟩
      go_wp2
      go_ret
      rw [unhide HE]
      exact ⟨rfl, b1⟩
    · have c3 : 21 < p := by omega
      clear c1
      go_enter Tryz.func94, Tryz.ntmps94
      go_wp2_with fail
      refine (unhide EX).mono ?_
      rintro e w1 ⟨rfl, b1⟩
      go_wp2
      go_ret
      rw [unhide HE]
      exact ⟨rfl, b1⟩
  · have c2 : ¬ p < -5 := fun h => c1 (.inl h)
    have c3 : ¬ 21 < p := fun h => c1 (.inr h)
    by_cases c4 : p ≤ 0
    · obtain ⟨n, hn⟩ : ∃ n : Nat, -p = n := ⟨(-p).toNat, by omega⟩
      have RP := hide (Tryz.strings_Repeat ⟨#[48]⟩ n w (by omega) (by show 1 * n ≤ _; omega))
      have HE := hide (show layB D p = ⟨#[48, 46]⟩ ++ rpB n ++ D by unfold layB; rw [if_neg c1, if_pos c4, hn, Int.toNat_natCast])
      have hl : (rpB n).size ≤ 10 := by rw [rpB_size]; omega
      have er : (⟨(Lib.repeatL (⟨#[48]⟩ : ByteArray).data.toList n).toArray⟩ : ByteArray) = rpB n := rfl
      rw [er] at RP
      generalize rpB n = S at *
      clear c1 er
      go_enter Tryz.func94, Tryz.ntmps94
      go_wp2_with fail
      refine (unhide RP).mono ?_
      rintro e w1 ⟨rfl, b1⟩
      go_wp2
      go_ret
      rw [unhide HE]
      exact ⟨rfl, b1⟩
    · by_cases c5 : (D.size : Int) ≤ p
      · obtain ⟨n, hn⟩ : ∃ n : Nat, p - (D.size : Int) = n := ⟨(p - D.size).toNat, by omega⟩
        have RP := hide (Tryz.strings_Repeat ⟨#[48]⟩ n w (by omega) (by show 1 * n ≤ _; omega))
        have HE := hide (show layB D p = D ++ rpB n ++ ⟨#[46, 48]⟩ by unfold layB; rw [if_neg c1, if_neg c4, if_pos c5, show p.toNat - D.size = n by omega])
        have hl : (rpB n).size ≤ 30 := by rw [rpB_size]; omega
        have er : (⟨(Lib.repeatL (⟨#[48]⟩ : ByteArray).data.toList n).toArray⟩ : ByteArray) = rpB n := rfl
        rw [er] at RP
        generalize rpB n = S at *
        clear c1 er
        go_enter Tryz.func94, Tryz.ntmps94
        go_wp2_with fail
        refine (unhide RP).mono ?_
        rintro e w1 ⟨rfl, b1⟩
        go_wp2
        go_ret
        rw [unhide HE]
        exact ⟨rfl, b1⟩
      · obtain ⟨n, rfl⟩ : ∃ n : Nat, p = n := ⟨p.toNat, by omega⟩
        have HE := hide (show layB D (n : Int) = D.extract 0 n ++ ⟨#[46]⟩ ++ D.extract n D.size by unfold layB; rw [if_neg c1, if_neg c4, if_neg c5, Int.toNat_natCast])
        have e1 := sz_ext D 0 n
        have e2 := sz_ext D n D.size
        have hn : n < D.size := by omega
        clear c1
        go_enter Tryz.func94, Tryz.ntmps94
        go_wp2_with fail
        go_region
        all_goals go_wp2
        all_goals go_ret
        all_goals rw [unhide HE]
        all_goals exact ⟨rfl, (Below.refl _ _).drew⟩
end Go.Proofs.YtechaplindbfoaaGreatDoor.fto
namespace Go.Proofs.YtechaplindbfoaaGreatDoor.mem
set_option linter.unusedVariables false

def sv (ng : Bool) (v : Nat) : Int := if ng then -(v : Int) else (v : Int)
theorem dec_fin (ng : Bool) (r : Nat) (h : r < 9218868437227405312) : FloatKind.f64.decode (Ieee.double.word ng r) = .number ng (mantR r) ((exR r : Int) - 1074) := by
  have hs : Ieee.double.signWeight = 9223372036854775808 := by rfl
  have hb : Ieee.double.binade = b52 := by rfl
  have hi : Ieee.double.infRung = 9218868437227405312 := by rfl
  have hl : Ieee.double.leastPlace = -1074 := by rfl
  have e1 : Ieee.double.word ng r / 9223372036854775808 % 2 = ng.toNat ∧ Ieee.double.word ng r % 9223372036854775808 = r := by
    unfold Ieee.Format.word
    rw [hs]
    cases ng
    · simp; omega
    · simp; omega
  show Ieee.double.read _ = _
  unfold Ieee.Format.read
  simp only [hs, hb, hi, hl, e1.1, e1.2]
  have e2 : (ng.toNat == 1) = ng := by cases ng <;> rfl
  rw [e2]
  unfold mantR exR
  by_cases h0 : r < b52
  · rw [if_pos h0, if_pos h0]
    have : r / b52 = 0 := Nat.div_eq_of_lt h0
    rw [this]; rfl
  · rw [if_neg h0, if_neg h0, if_pos h]
    have : 1 ≤ r / b52 := Nat.div_pos (by omega) (by decide)
    congr 1
theorem dec_inf (ng : Bool) : FloatKind.f64.decode (Ieee.double.word ng 9218868437227405312) = .infinity ng := by
  have hs : Ieee.double.signWeight = 9223372036854775808 := by rfl
  have hb : Ieee.double.binade = b52 := by rfl
  have hi : Ieee.double.infRung = 9218868437227405312 := by rfl
  have e1 : Ieee.double.word ng 9218868437227405312 / 9223372036854775808 % 2 = ng.toNat ∧ Ieee.double.word ng 9218868437227405312 % 9223372036854775808 = 9218868437227405312 := by
    unfold Ieee.Format.word
    rw [hs]
    cases ng <;> simp
  show Ieee.double.read _ = _
  unfold Ieee.Format.read
  simp only [hs, hb, hi, e1.1, e1.2]
  have e2 : (ng.toNat == 1) = ng := by cases ng <;> rfl
  rw [e2, if_neg (by unfold b52; omega), if_neg (by omega)]
  simp only [if_true]
theorem dec_nan (ng : Bool) (r : Nat) (h : 9218868437227405312 < r) (h2 : r < 9223372036854775808) : ∃ f, FloatKind.f64.decode (Ieee.double.word ng r) = .nan ng f := by
  have hs : Ieee.double.signWeight = 9223372036854775808 := by rfl
  have hb : Ieee.double.binade = b52 := by rfl
  have hi : Ieee.double.infRung = 9218868437227405312 := by rfl
  have e1 : Ieee.double.word ng r / 9223372036854775808 % 2 = ng.toNat ∧ Ieee.double.word ng r % 9223372036854775808 = r := by
    unfold Ieee.Format.word
    rw [hs]
    cases ng
    · simp; omega
    · simp; omega
  refine ⟨r - 9218868437227405312, ?_⟩
  show Ieee.double.read _ = _
  unfold Ieee.Format.read
  simp only [hs, hb, hi, e1.1, e1.2]
  have e2 : (ng.toNat == 1) = ng := by cases ng <;> rfl
  rw [e2, if_neg (by unfold b52; omega), if_neg (by omega), if_neg (by omega)]
theorem word_of (x : Nat) (h : x < 18446744073709551616) : Ieee.double.word (decide (9223372036854775808 ≤ x)) (x % 9223372036854775808) = x := by
  have hs : Ieee.double.signWeight = 9223372036854775808 := by rfl
  unfold Ieee.Format.word
  rw [hs]
  by_cases hx : 9223372036854775808 ≤ x
  · simp [hx]; omega
  · simp [hx]; omega
theorem signed_eq (ng : Bool) (m u : Nat) : Ieee.signed ng m u = sv ng (m * 2 ^ u) := by
  unfold Ieee.signed sv
  rw [Nat.shiftLeft_eq]
theorem sv_mul (ng : Bool) (v k : Nat) : sv ng (v * k) = sv ng v * (k : Int) := by
  unfold sv
  cases ng
  · simp
  · simp only [if_true]; rw [Int.natCast_mul, Int.neg_mul]
theorem compare_mul (a b : Int) (k : Nat) (hk : 0 < k) : compare (a * (k : Int)) (b * (k : Int)) = compare a b := by
  have hk' : (0 : Int) < (k : Int) := by omega
  rcases Int.lt_trichotomy a b with h | h | h
  · rw [Int.compare_eq_lt.2 h, Int.compare_eq_lt.2 (Int.mul_lt_mul_of_pos_right h hk')]
  · subst h; rw [Int.compare_eq_eq.2 rfl, Int.compare_eq_eq.2 rfl]
  · rw [Int.compare_eq_gt.2 h, Int.compare_eq_gt.2 (Int.mul_lt_mul_of_pos_right h hk')]
/-- Two finite numbers by their values in units of the least float. -/
theorem order_fin (s t : Bool) (m n i j : Nat) : (Ieee.Datum.number s m ((i : Int) - 1074)).order (.number t n ((j : Int) - 1074)) = some (compare (sv s (m * 2 ^ i)) (sv t (n * 2 ^ j))) := by
  unfold Ieee.Datum.order
  simp only [signed_eq, Option.some.injEq]
  have e1 : ((i : Int) - 1074 - min ((i : Int) - 1074) ((j : Int) - 1074)).toNat = i - min i j := by omega
  have e2 : ((j : Int) - 1074 - min ((i : Int) - 1074) ((j : Int) - 1074)).toNat = j - min i j := by omega
  rw [e1, e2, ← compare_mul _ _ (2 ^ min i j) (Nat.two_pow_pos _), ← sv_mul, ← sv_mul, Nat.mul_assoc, Nat.mul_assoc, ← Nat.pow_add, ← Nat.pow_add,
    show i - min i j + min i j = i by omega, show j - min i j + min i j = j by omega]
theorem order_word (s t : Bool) (a b : Nat) (ha : a < 9218868437227405312) (hb : b < 9218868437227405312) : FloatKind.f64.format.order (Ieee.double.word s a) (Ieee.double.word t b) = some (compare (sv s (vR a)) (sv t (vR b))) := by
  show (FloatKind.f64.decode _).order (FloatKind.f64.decode _) = _
  rw [dec_fin s a ha, dec_fin t b hb, order_fin]
  rfl
end Go.Proofs.YtechaplindbfoaaGreatDoor.mem
