import Derived.Test.YtjlaoeigfokkiaaGreatDoorBs18
import Derived.Test.YtjlaoeigfokkiaaGreatDoorBs13
import Derived.Test.YtjlaoeigfokkiaaGreatDoorBs14
import Derived.Test.YtjlaoeigfokkiaaGreatDoorBs15
namespace Go.Proofs.YtjlaoeigfokkiaaGreatDoor.fto
open Go.ChangeShapes Go.WideShapes Go.ChangeAt Go.RowKit
open mem Go.Sort
open ints (hide unhide)
set_option linter.unusedVariables false
theorem unmin_ok (w : World) : Calls Tryz.prog 169 #[.int .u64 9007199254740992] w fun e w' => e = .returned (.int .u64 36028797018963966) ∧ w' = w := by
  go_enter Tryz.func169, Tryz.ntmps169
  go_wp2
  go_ret
  exact ⟨rfl, rfl⟩
theorem b2i_no (w : World) : Calls Tryz.prog 115 #[.bool false] w fun e w' => e = .returned (.int .i64 0) ∧ w' = w := by
  go_enter Tryz.func115, Tryz.ntmps115
  go_wp2
  go_ret
  exact ⟨rfl, rfl⟩
theorem b2i_yes (w : World) : Calls Tryz.prog 115 #[.bool true] w fun e w' => e = .returned (.int .i64 1) ∧ w' = w := by
  go_enter Tryz.func115, Tryz.ntmps115
  go_wp2
  go_ret
  exact ⟨rfl, rfl⟩
set_option maxHeartbeats 2000000 in
set_option maxRecDepth 100000 in
theorem parse_lo (d b c s i S U m X R : Nat) (p lp e : Int) (w : World) (hT : PT w) (hg : 15 < w.heap.size) (hd0 : 1 ≤ d) (hd : d < 18446744073709551616) (hb : Lib.bitLen d = b) (hb1 : 1 ≤ b) (hb2 : b ≤ 64) (hc : b + c = 64)
    (hp : -345 ≤ p ∧ p ≤ 310) (hlp : lp = p * 108853 / 32768) (he : min 1074 (53 - (b : Int) - lp) = e) (hi : (i : Int) = p + 348) (hs : -(e - (c : Int) + lp + 3) = (s : Int)) (hs2 : s < 64) (hX : d * 2 ^ c = X) (hX2 : X < 18446744073709551616) (kk : 1 ≤ X * rowH i / 18446744073709551616)
    (hh : rowH i < 18446744073709551616) (hl : rowL i < 18446744073709551616) (hU : U = us X (rowH i) (rowL i) s) (bU : U < 36028797018963966) (hm : m = (U + 1 + U / 4 % 2) / 4) (hm2 : m < 9007199254740992) (hS : S = 0 ∨ S = 9223372036854775808)
    (PK : ∀ w, Calls Tryz.prog 182 #[.int .u64 ((S + m : Nat) : Int), .int .i64 (-e)] w fun e w' => e = .returned (.tuple #[.float .f64 R, .nilIface]) ∧ w' = w) :
    Calls Tryz.prog 158 #[.int .u64 d, .int .i64 p, .int .u64 S] w fun ed w' => ed = .returned (.tuple #[.float .f64 R, .nilIface]) ∧ Below w.heap.size w w' := by
  have HPK := hide PK
  have C2 := hide (fun W => l2_ok p W (by omega))
  rw [← hlp] at C2
  have lpb : -1200 ≤ lp ∧ lp ≤ 1200 := by omega
  have T1 := hide (fun W B hc => uscale_ok X (rowH i) (rowL i) s B W hX2 hh hl hs2 kk hc)
  rw [← hU] at T1
  have N5 := hide (fun W => round_ok U W (by omega))
  rw [← hm] at N5
  have UM := hide unmin_ok
  have BI := hide b2i_no
  have nub : decide ((36028797018963966 : Int) ≤ (U : Int)) = false := decide_eq_false (by omega)
  have LN := hide (fun W => Tryz.bits_Len64 d W (by omega) (by omega))
  have x1 : IntKind.u64.wrap ((d : Int) * 2 ^ c) = (X : Int) := by
    have e1 : ((d : Int) * 2 ^ c) = (X : Int) := by rw [← hX]; simp
    rw [e1, IntKind.wrap_u64]; omega
  have hc63 : (c : Int) < 64 := by omega
  have i7 : (64 : Int) - (b : Int) = (c : Int) := by omega
  have HS := hide hs
  have HI := hide hi
  have HB0 := hide hb
  have eb : -2000 ≤ e ∧ e ≤ 1074 := by omega
  have h1a := and_one U (by omega)
  have h1b : bits .or .u64 (U : Int) ((U % 2 : Nat) : Int) = (U : Int) := by
    have h := u64_or_nat U (U % 2) (by omega) (by omega)
    refine h.trans ?_
    congr 1
    rcases Nat.mod_two_eq_zero_or_one U with h0 | h0
    · rw [h0, Nat.or_zero]
    · rw [h0]; have := mem.or_one U; omega
  have hSm : bits .or .u64 (S : Int) (m : Int) = ((S + m : Nat) : Int) := by
    refine (u64_or_nat S m (by omega) (by omega)).trans ?_
    rw [or_sgn S m hS (by omega)]
  obtain ⟨V, hV⟩ : ∃ V, V = S + m := ⟨_, rfl⟩
  rw [← hV] at hSm HPK
  obtain ⟨U2, hU2⟩ : ∃ U2, U2 = U % 2 := ⟨_, rfl⟩
  rw [← hU2] at h1a h1b
  have hSb : S < 18446744073709551616 := by omega
  have hVb : V < 18446744073709551616 := by omega
  have hub : (U : Int) < 36028797018963966 := by omega
  have hi2 : i < 696 := by omega
  have HE := hide he
  clear PK hU hm hX hs hi hb hlp hS hV hU2 kk hh hl he hc
  go_enter Tryz.func158, Tryz.ntmps158
  go_wp2_with fail
  refine (unhide LN _).mono ?_
  rintro ed w1' ⟨rfl, hw⟩
  subst w1'
  rw [Int.toNat_natCast, unhide HB0]
  clear LN
  go_wp2_with fail
  refine (unhide C2 _).mono ?_
  rintro ed w1' ⟨rfl, hw⟩
  subst w1'
  clear C2
  have he := unhide HE
  go_wp2_with fail
  have HB := hide (heap_alloc_new w (.cells #[.int .u64 0, .int .u64 0, .int .i64 0] 213))
  have b0 := (Below.refl w.heap.size w).alloc (Nat.le_refl _) (.cells #[.int .u64 0, .int .u64 0, .int .i64 0] 213)
  have HT : PT _ := fun j hj => ⟨(b0.cell (p := ⟨15, 2 * j, none⟩) hg).trans (hT j hj).1, (b0.cell (p := ⟨15, 2 * j + 1, none⟩) hg).trans (hT j hj).2⟩
  have hne : w.heap.size ≠ 15 := by omega
  refine (prescale_ok w.heap.size _ _ _ _ (e - (c : Int)) p lp i s _ (unhide HB) HT hne (unhide HI) hi2 (unhide HS) (by omega) (by omega)).mono ?_
  rintro ed w3 ⟨rfl, hB3, b3⟩
  have S3 := Sca.of_heap hB3
  have s2 := S3.sh
  have b3' := b0.trans b3
  clear HB HT hB3 b0 b3 hT he
  have hsz3 : w.heap.size ≤ w3.heap.size := b3'.size
  have is2 : (s : Int) < 64 := by omega
  have HBD := hide (⟨bU, hub, hm2, hSb, hVb⟩ : U < 36028797018963966 ∧ (U : Int) < 36028797018963966 ∧ m < 9007199254740992 ∧ S < 18446744073709551616 ∧ V < 18446744073709551616)
  clear bU hub hm2 hX2 hd hSb hVb
  go_wp2_with fail
  refine (unhide T1 _ _ S3).mono ?_
  rintro ed w4 ⟨rfl, b4⟩
  have b4' := hide (b3'.trans (b4.mono hsz3))
  clear T1 S3 b4 b3' hsz3 s2
  obtain ⟨bU, hub, hm2, hSb, hVb⟩ := unhide HBD
  go_wp2_with fail
  refine (unhide UM _).mono ?_
  rintro ed w5 ⟨rfl, hw⟩
  subst w5
  go_wp2_with fail
  refine (unhide BI _).mono ?_
  rintro ed w5 ⟨rfl, hw⟩
  subst w5
  go_wp2_with fail
  refine (unhide N5 _).mono ?_
  rintro ed w5 ⟨rfl, hw⟩
  subst w5
  go_wp2_with fail
  refine (unhide HPK _).mono ?_
  rintro ed w5 ⟨rfl, hw⟩
  subst w5
  go_wp2
  go_ret2
  exact ⟨rfl, unhide b4'⟩
set_option maxHeartbeats 2000000 in
set_option maxRecDepth 100000 in
theorem parse_hi (d b c s i S U m X R : Nat) (p lp e : Int) (w : World) (hT : PT w) (hg : 15 < w.heap.size) (hd0 : 1 ≤ d) (hd : d < 18446744073709551616) (hb : Lib.bitLen d = b) (hb1 : 1 ≤ b) (hb2 : b ≤ 64) (hc : b + c = 64)
    (hp : -345 ≤ p ∧ p ≤ 310) (hlp : lp = p * 108853 / 32768) (he : min 1074 (53 - (b : Int) - lp) = e) (hi : (i : Int) = p + 348) (hs : -(e - (c : Int) + lp + 3) = (s : Int)) (hs2 : s < 64) (hX : d * 2 ^ c = X) (hX2 : X < 18446744073709551616) (kk : 1 ≤ X * rowH i / 18446744073709551616)
    (hh : rowH i < 18446744073709551616) (hl : rowL i < 18446744073709551616) (hU : U = us X (rowH i) (rowL i) s) (bU : 36028797018963966 ≤ U) (bU2 : U < 9223372036854775808) (hm : m = (((U / 2) ||| (U % 2)) + 1 + ((U / 2) ||| (U % 2)) / 4 % 2) / 4) (hm2 : m < 9007199254740992) (hS : S = 0 ∨ S = 9223372036854775808)
    (PK : ∀ w, Calls Tryz.prog 182 #[.int .u64 ((S + m : Nat) : Int), .int .i64 (-(e - 1))] w fun e w' => e = .returned (.tuple #[.float .f64 R, .nilIface]) ∧ w' = w) :
    Calls Tryz.prog 158 #[.int .u64 d, .int .i64 p, .int .u64 S] w fun ed w' => ed = .returned (.tuple #[.float .f64 R, .nilIface]) ∧ Below w.heap.size w w' := by
  have HPK := hide PK
  have C2 := hide (fun W => l2_ok p W (by omega))
  rw [← hlp] at C2
  have lpb : -1200 ≤ lp ∧ lp ≤ 1200 := by omega
  have T1 := hide (fun W B hc => uscale_ok X (rowH i) (rowL i) s B W hX2 hh hl hs2 kk hc)
  rw [← hU] at T1
  have hV3 : (U / 2) ||| (U % 2) < 9223372036854775808 := Nat.or_lt_two_pow (n := 63) (by omega) (by omega)
  have N5 := hide (fun W => round_ok ((U / 2) ||| (U % 2)) W (by omega))
  rw [← hm] at N5
  have UM := hide unmin_ok
  have BI := hide b2i_yes
  have nub : decide ((36028797018963966 : Int) ≤ (U : Int)) = true := decide_eq_true (by omega)
  have LN := hide (fun W => Tryz.bits_Len64 d W (by omega) (by omega))
  have x1 : IntKind.u64.wrap ((d : Int) * 2 ^ c) = (X : Int) := by
    have e1 : ((d : Int) * 2 ^ c) = (X : Int) := by rw [← hX]; simp
    rw [e1, IntKind.wrap_u64]; omega
  have hc63 : (c : Int) < 64 := by omega
  have i7 : (64 : Int) - (b : Int) = (c : Int) := by omega
  have HS := hide hs
  have HI := hide hi
  have HB0 := hide hb
  have eb : -2000 ≤ e ∧ e ≤ 1074 := by omega
  have h1a := and_one U (by omega)
  have h1b : bits .or .u64 ((U : Int) / 2) ((U % 2 : Nat) : Int) = (((U / 2) ||| (U % 2) : Nat) : Int) := u64_or_nat (U / 2) (U % 2) (by omega) (by omega)
  obtain ⟨V3, hV3e⟩ : ∃ V3, V3 = (U / 2) ||| (U % 2) := ⟨_, rfl⟩
  rw [← hV3e] at h1b N5 hV3
  have hSm : bits .or .u64 (S : Int) (m : Int) = ((S + m : Nat) : Int) := by
    refine (u64_or_nat S m (by omega) (by omega)).trans ?_
    rw [or_sgn S m hS (by omega)]
  obtain ⟨V, hV⟩ : ∃ V, V = S + m := ⟨_, rfl⟩
  rw [← hV] at hSm HPK
  obtain ⟨U2, hU2⟩ : ∃ U2, U2 = U % 2 := ⟨_, rfl⟩
  rw [← hU2] at h1a h1b
  have hSb : S < 18446744073709551616 := by omega
  have hVb : V < 18446744073709551616 := by omega
  have hub : (36028797018963966 : Int) ≤ (U : Int) := by omega
  have hUi : (U : Int) < 9223372036854775808 := by omega
  have hV3i : V3 < 18446744073709551616 := by omega
  have hi2 : i < 696 := by omega
  have HE := hide he
  clear hV3e hV3 PK hU hm hX hs hi hb hlp hS hV hU2 kk hh hl he hc
  go_enter Tryz.func158, Tryz.ntmps158
  go_wp2_with fail
  refine (unhide LN _).mono ?_
  rintro ed w1' ⟨rfl, hw⟩
  subst w1'
  rw [Int.toNat_natCast, unhide HB0]
  clear LN
  go_wp2_with fail
  refine (unhide C2 _).mono ?_
  rintro ed w1' ⟨rfl, hw⟩
  subst w1'
  clear C2
  have he := unhide HE
  go_wp2_with fail
  have HB := hide (heap_alloc_new w (.cells #[.int .u64 0, .int .u64 0, .int .i64 0] 213))
  have b0 := (Below.refl w.heap.size w).alloc (Nat.le_refl _) (.cells #[.int .u64 0, .int .u64 0, .int .i64 0] 213)
  have HT : PT _ := fun j hj => ⟨(b0.cell (p := ⟨15, 2 * j, none⟩) hg).trans (hT j hj).1, (b0.cell (p := ⟨15, 2 * j + 1, none⟩) hg).trans (hT j hj).2⟩
  have hne : w.heap.size ≠ 15 := by omega
  refine (prescale_ok w.heap.size _ _ _ _ (e - (c : Int)) p lp i s _ (unhide HB) HT hne (unhide HI) hi2 (unhide HS) (by omega) (by omega)).mono ?_
  rintro ed w3 ⟨rfl, hB3, b3⟩
  have S3 := Sca.of_heap hB3
  have s2 := S3.sh
  have b3' := b0.trans b3
  clear HB HT hB3 b0 b3 hT he
  have hsz3 : w.heap.size ≤ w3.heap.size := b3'.size
  have is2 : (s : Int) < 64 := by omega
  have HBD := hide (⟨bU, hub, hUi, hV3i, hm2, hSb, hVb⟩ : 36028797018963966 ≤ U ∧ (36028797018963966 : Int) ≤ (U : Int) ∧ (U : Int) < 9223372036854775808 ∧ V3 < 18446744073709551616 ∧ m < 9007199254740992 ∧ S < 18446744073709551616 ∧ V < 18446744073709551616)
  clear bU bU2 hub hUi hV3i hm2 hX2 hd hSb hVb
  go_wp2_with fail
  refine (unhide T1 _ _ S3).mono ?_
  rintro ed w4 ⟨rfl, b4⟩
  have b4' := hide (b3'.trans (b4.mono hsz3))
  clear T1 S3 b4 b3' hsz3 s2
  obtain ⟨bU, hub, hUi, hV3i, hm2, hSb, hVb⟩ := unhide HBD
  go_wp2_with fail
  refine (unhide UM _).mono ?_
  rintro ed w5 ⟨rfl, hw⟩
  subst w5
  go_wp2_with fail
  refine (unhide BI _).mono ?_
  rintro ed w5 ⟨rfl, hw⟩
  subst w5
  go_wp2_with fail
  refine (unhide N5 _).mono ?_
  rintro ed w5 ⟨rfl, hw⟩
  subst w5
  go_wp2_with fail
  refine (unhide HPK _).mono ?_
  rintro ed w5 ⟨rfl, hw⟩
  subst w5
  go_wp2
  go_ret2
  exact ⟨rfl, unhide b4'⟩
set_option maxHeartbeats 2000000 in
set_option maxRecDepth 100000 in
theorem parse_tiny (d b c s i S : Nat) (p lp e : Int) (w : World) (hT : PT w) (hg : 15 < w.heap.size) (hd0 : 1 ≤ d) (hd : d < 18446744073709551616) (hb : Lib.bitLen d = b) (hb1 : 1 ≤ b) (hb2 : b ≤ 64) (hc : b + c = 64)
    (hp : -345 ≤ p ∧ p ≤ 310) (hlp : lp = p * 108853 / 32768) (he : min 1074 (53 - (b : Int) - lp) = e) (hi : (i : Int) = p + 348) (hs : -(e - (c : Int) + lp + 3) = (s : Int)) (hs2 : 64 ≤ s) (hS : S = 0 ∨ S = 9223372036854775808) :
    Calls Tryz.prog 158 #[.int .u64 d, .int .i64 p, .int .u64 S] w fun ed w' => ed = .returned (.tuple #[.float .f64 S, .nilIface]) ∧ Below w.heap.size w w' := by
  have C2 := hide (fun W => l2_ok p W (by omega))
  rw [← hlp] at C2
  have lpb : -1200 ≤ lp ∧ lp ≤ 1200 := by omega
  have LN := hide (fun W => Tryz.bits_Len64 d W (by omega) (by omega))
  have i7 : (64 : Int) - (b : Int) = (c : Int) := by omega
  have HS := hide hs
  have HI := hide hi
  have HB0 := hide hb
  have eb : -2000 ≤ e ∧ e ≤ 1074 := by omega
  have hS0 : bits .or .u64 (S : Int) 0 = (S : Int) := (or_zero S (by omega)).trans (by rw [Nat.or_zero])
  have hi2 : i < 696 := by omega
  have rb := run_fromb (S : Int)
  simp only [Int.toNat_natCast] at rb
  have HE := hide he
  clear hs hi hb hlp hS he hc
  go_enter Tryz.func158, Tryz.ntmps158
  go_wp2_with fail
  refine (unhide LN _).mono ?_
  rintro ed w1' ⟨rfl, hw⟩
  subst w1'
  rw [Int.toNat_natCast, unhide HB0]
  clear LN
  go_wp2_with fail
  refine (unhide C2 _).mono ?_
  rintro ed w1' ⟨rfl, hw⟩
  subst w1'
  clear C2
  have he := unhide HE
  go_wp2_with fail
  have HB := hide (heap_alloc_new w (.cells #[.int .u64 0, .int .u64 0, .int .i64 0] 213))
  have b0 := (Below.refl w.heap.size w).alloc (Nat.le_refl _) (.cells #[.int .u64 0, .int .u64 0, .int .i64 0] 213)
  have HT : PT _ := fun j hj => ⟨(b0.cell (p := ⟨15, 2 * j, none⟩) hg).trans (hT j hj).1, (b0.cell (p := ⟨15, 2 * j + 1, none⟩) hg).trans (hT j hj).2⟩
  have hne : w.heap.size ≠ 15 := by omega
  refine (prescale_ok w.heap.size _ _ _ _ (e - (c : Int)) p lp i s _ (unhide HB) HT hne (unhide HI) hi2 (unhide HS) (by omega) (by omega)).mono ?_
  rintro ed w3 ⟨rfl, hB3, b3⟩
  have S3 := Sca.of_heap hB3
  have s2 := S3.sh
  have b3' := b0.trans b3
  clear HB HT hB3 b0 b3 hT he
  have hsz3 : w.heap.size ≤ w3.heap.size := b3'.size
  have is2 : (64 : Int) ≤ (s : Int) := by omega
  have HB4 := hide b3'
  clear hd hsz3 S3 b3'
  go_wp2
  go_ret2
  exact ⟨rfl, unhide HB4⟩
end Go.Proofs.YtjlaoeigfokkiaaGreatDoor.fto
namespace Go.Proofs.YtjlaoeigfokkiaaGreatDoor.fto
open Go.ChangeShapes Go.WideShapes Go.ChangeAt Go.RowKit
open mem Go.Sort
open ints (hide unhide)
set_option linter.unusedVariables false
/-- parseFloat64 answers the nearest float -/
theorem parse_any (d S : Nat) (p : Int) (hd0 : 1 ≤ d) (hd : d < 18446744073709551616) (hp : -345 ≤ p ∧ p ≤ 310) (hS : S = 0 ∨ S = 9223372036854775808) :
    ∃ lo, Lo (d * 10 ^ p.toNat * k74) (10 ^ (-p).toNat) lo ∧ (roundR (d * 10 ^ p.toNat * k74) (10 ^ (-p).toNat) lo < infR → ∀ w, PT w → 15 < w.heap.size →
      Calls Tryz.prog 158 #[.int .u64 d, .int .i64 p, .int .u64 S] w fun ed w' => ed = .returned (.tuple #[.float .f64 (S + roundR (d * 10 ^ p.toNat * k74) (10 ^ (-p).toNat) lo), .nilIface]) ∧ Below w.heap.size w w') := by
  obtain ⟨k, hk⟩ : ∃ k, k = Nat.log2 d := ⟨_, rfl⟩
  have k0 : 2 ^ k ≤ d := by rw [hk]; exact Nat.log2_self_le (by omega)
  have k1 : d < 2 ^ (k + 1) := by rw [hk]; exact Nat.lt_log2_self
  have k63 : k ≤ 63 := by
    rcases Nat.lt_or_ge 63 k with h | h
    · have := Nat.pow_le_pow_right (by decide : 0 < 2) (show 64 ≤ k from h)
      have e : (2 : Nat) ^ 64 = 18446744073709551616 := rfl
      omega
    · exact h
  obtain ⟨c, hc⟩ : ∃ c, c = 63 - k := ⟨_, rfl⟩
  obtain ⟨b, hb⟩ : ∃ b, b = k + 1 := ⟨_, rfl⟩
  have hbl : Lib.bitLen d = b := by rw [hb]; exact bitLen_at k0 k1 hd
  have hbc : b + c = 64 := by omega
  have hx0 : 9223372036854775808 ≤ d * 2 ^ c := by
    have := Nat.mul_le_mul_right (2 ^ c) k0
    rw [← Nat.pow_add, show k + c = 63 by omega] at this
    exact this
  have hx : d * 2 ^ c < 18446744073709551616 := by
    have := Nat.mul_lt_mul_of_pos_right k1 (Nat.two_pow_pos c)
    rw [← Nat.pow_add, show k + 1 + c = 64 by omega] at this
    exact this
  obtain ⟨lp, hlp⟩ : ∃ lp, lp = p * 108853 / 32768 := ⟨_, rfl⟩
  obtain ⟨e, he⟩ : ∃ e : Int, e = min 1074 (53 - (b : Int) - lp) := ⟨_, rfl⟩
  obtain ⟨s, hs⟩ : ∃ s : Nat, (s : Int) = 61 - (b : Int) - e - lp := ⟨(61 - (b : Int) - e - lp).toNat, by omega⟩
  obtain ⟨K, hK⟩ : ∃ K : Nat, (K : Int) = 1074 - e := ⟨(1074 - e).toNat, by omega⟩
  obtain ⟨i, hi⟩ : ∃ i : Nat, (i : Int) = p + 348 := ⟨(p + 348).toNat, by omega⟩
  have hs8 : 8 ≤ s := by omega
  have hc64 : 64 - b = c := by omega
  obtain ⟨U, hU⟩ : ∃ U, U = un (d * 2 ^ c * eA p) (q64 * q64 * eB p * 2 ^ s) := ⟨_, rfl⟩
  obtain ⟨lo, hlo, A1, A2, A3⟩ := prs_ok d b s K p e (by omega) (by omega) (by omega) (by rw [hc64]; exact hx0) (by rw [hc64]; exact hx) (by rw [he, hlp]; rfl) (by rw [hs, hlp]; rfl) hK U (by rw [hc64]; exact hU)
  refine ⟨lo, hlo, fun hR w hT hg => ?_⟩
  have hs' : -(e - (c : Int) + lp + 3) = (s : Int) := by omega
  rcases Nat.lt_or_ge s 64 with h64 | h64
  · have hie : i = (p + 348).toNat := by omega
    have hh := tab_hi p (by omega) (by omega)
    have hHi : rowH i = tabH p := by rw [hie]; rfl
    have hLi : rowL i = tabL p := by rw [hie]; rfl
    have hUs : U = us (d * 2 ^ c) (rowH i) (rowL i) s := by rw [hU, hHi, hLi]; exact (uscale_read p (by omega) (by omega) _ s hx0 hx hs8).symm
    have kk : 1 ≤ d * 2 ^ c * rowH i / 18446744073709551616 := by
      rw [hHi]
      have := Nat.mul_le_mul hx0 hh.1
      omega
    have q : q64 = 18446744073709551616 := rfl
    have e52 : b52 = 4503599627370496 := rfl
    have e53 : b53 = 9007199254740992 := rfl
    have eI : infR = 9218868437227405312 := rfl
    generalize roundR (d * 10 ^ p.toNat * k74) (10 ^ (-p).toNat) lo = R at *
    rcases Nat.lt_or_ge U 36028797018963966 with hlt | hge
    · obtain ⟨r1, r2, r3⟩ := A1 (by omega)
      obtain ⟨m, hm⟩ : ∃ m, m = (U + 1 + U / 4 % 2) / 4 := ⟨_, rfl⟩
      rw [← hm] at r1 r2 r3
      simp only [e52] at r1
      refine parse_lo d b c s i S U m (d * 2 ^ c) (S + R) p lp e w hT hg hd0 hd hbl (by omega) (by omega) hbc hp hlp he.symm hi hs' h64 rfl hx kk (by rw [hHi]; omega) (by rw [hLi]; omega) hUs hlt hm (by omega) hS ?_
      intro W
      by_cases hm52 : m < 4503599627370496
      · have hK0 : K = 0 := by omega
        have := pk_lo S m (-e) W hS hm52
        rw [r1, hK0, Nat.zero_mul, Nat.add_zero]
        exact this
      · have := pk_hi S (m - 4503599627370496) (K + 1) (-e) W hS (by omega) (by omega) (by omega)
        rw [show 4503599627370496 + (m - 4503599627370496) = m by omega] at this
        rw [r1, show S + (m + K * 4503599627370496) = S + (m - 4503599627370496 + (K + 1) * 4503599627370496) by omega]
        exact this
    · obtain ⟨r1, r2, r3⟩ := A2 (by omega)
      obtain ⟨m, hm⟩ : ∃ m, m = (((U / 2) ||| (U % 2)) + 1 + ((U / 2) ||| (U % 2)) / 4 % 2) / 4 := ⟨_, rfl⟩
      rw [← hm] at r1 r2 r3
      simp only [e52] at r1
      have hle : U / 2 ≤ (U / 2) ||| (U % 2) := Nat.left_le_or
      refine parse_hi d b c s i S U m (d * 2 ^ c) (S + R) p lp e w hT hg hd0 hd hbl (by omega) (by omega) hbc hp hlp he.symm hi hs' h64 rfl hx kk (by rw [hHi]; omega) (by rw [hLi]; omega) hUs hge (by omega) hm (by omega) hS ?_
      intro W
      have := pk_hi S (m - 4503599627370496) (K + 2) (-(e - 1)) W hS (by omega) (by omega) (by omega)
      rw [show 4503599627370496 + (m - 4503599627370496) = m by omega] at this
      rw [r1, show S + (m + (K + 1) * 4503599627370496) = S + (m - 4503599627370496 + (K + 2) * 4503599627370496) by omega]
      exact this
  · rw [A3 h64, Nat.add_zero]
    exact parse_tiny d b c s i S p lp e w hT hg hd0 hd hbl (by omega) (by omega) hbc hp hlp he.symm hi hs' h64 hS
end Go.Proofs.YtjlaoeigfokkiaaGreatDoor.fto
namespace Go.Proofs.YtjlaoeigfokkiaaGreatDoor.fto
open Go.ChangeShapes Go.WideShapes Go.ChangeAt Go.RowKit
open mem Go.Sort
open ints (hide unhide)
set_option linter.unusedVariables false
set_option maxHeartbeats 1000000 in
set_option maxRecDepth 100000 in
/-- atof64 at a text whose digits fit a word, given what its parts answer there -/
theorem atof_in (s : ByteArray) (n : Int) (d S F : Nat) (p : Int) (ng : Bool) (w : World) (hS : S = if ng then 9223372036854775808 else 0) (hd0 : 1 ≤ d) (hd : d < 18446744073709551616) (hp : -345 ≤ p ∧ p ≤ 310) (hn : 0 ≤ n ∧ n ≤ 2000000)
    (opt : w.cell? ⟨5, 0, none⟩ = some (.bool true))
    (SP : Calls Tryz.prog 146 #[.string s] w fun e w' => e = .returned (.tuple #[.float .f64 0, .int .i64 0, .bool false]) ∧ w' = w)
    (RF : Calls Tryz.prog 147 #[.string s] w fun e w' => e = .returned (.tuple #[.int .u64 d, .int .i64 p, .bool ng, .bool false, .bool false, .int .i64 n, .bool true]) ∧ w' = w)
    (EX : Calls Tryz.prog 157 #[.int .u64 d, .int .i64 p, .bool ng] w fun e w' => (∃ (G : Nat) (ok : Bool), e = .returned (.tuple #[.float .f64 G, .bool ok]) ∧ (ok = true → G = F)) ∧ w' = w)
    (PA : Calls Tryz.prog 158 #[.int .u64 d, .int .i64 p, .int .u64 S] w fun e w' => e = .returned (.tuple #[.float .f64 F, .nilIface]) ∧ Below w.heap.size w w') :
    Calls Tryz.prog 126 #[.string s] w fun e w' => e = .returned (.tuple #[.float .f64 F, .int .i64 n, .nilIface]) ∧ Below w.heap.size w w' := by
  have HSP := hide SP
  have HRF := hide RF
  have HEX := hide EX
  have HPA := hide PA
  have hdi : ((d : Int) == 0) = false := by rw [beq_eq_false_iff_ne]; omega
  have B1 := hide b2_yes
  have B0 := hide b2_no
  clear SP RF EX PA hd
  go_enter Tryz.func126, Tryz.ntmps126
  go_wp2_with fail
  refine (unhide HSP).mono ?_
  rintro e w1 ⟨rfl, hw⟩
  subst w1
  go_wp2_with fail
  refine (unhide HRF).mono ?_
  rintro e w1 ⟨rfl, hw⟩
  subst w1
  cases ng
  all_goals
    simp only [Bool.false_eq_true, if_false, if_true] at hS
    subst hS
    go_wp2_with fail
    first
      | refine (unhide B0 _).mono ?_
      | refine (unhide B1 _).mono ?_
    rintro e w1 ⟨rfl, hw⟩
    subst w1
    go_wp2_with fail
    refine (unhide HEX).mono ?_
    rintro e w1 ⟨⟨G, ok, rfl, hok⟩, hw⟩
    subst w1
    cases ok
    · go_wp2_with fail
      refine (unhide HPA).mono ?_
      rintro e w1 ⟨rfl, b1⟩
      have HB := hide b1
      clear b1
      go_wp2
      go_ret3
      exact ⟨rfl, unhide HB⟩
    · have hG := hok rfl
      subst hG
      go_wp2
      go_ret3
      exact ⟨rfl, Below.refl _ _⟩
end Go.Proofs.YtjlaoeigfokkiaaGreatDoor.fto
namespace Go.Proofs.YtjlaoeigfokkiaaGreatDoor.fto
open Go.ChangeShapes Go.WideShapes Go.ChangeAt Go.RowKit
open mem Go.Sort
open ints (hide unhide)
set_option linter.unusedVariables false
theorem cpl_no (s : ByteArray) (w : World) (h : 0 < s.size) (hm : s.size ≤ 2000000) (hc : ((s[0]'h).toNat : Int) = 48) : Calls Tryz.prog 177 #[.string s, .string ⟨#[105, 110, 102, 105, 110, 105, 116, 121]⟩] w fun e w' => e = .returned (.int .i64 0) ∧ w' = w := by
  have i1 : (0 : Int) < (s.size : Int) := by omega
  have hse : s ≠ ByteArray.empty := by intro he; subst he; exact absurd h (by decide)
  obtain ⟨N, hN⟩ : ∃ N : Int, N = min 8 (s.size : Int) := ⟨_, rfl⟩
  have hN1 : 0 < N := by omega
  have hN2 : N ≤ 8 := by omega
  go_enter Tryz.func177, Tryz.ntmps177
  go_wp2
  go_loopw [6] (fun vi wr => w = wr ∧ vi = .int .i64 0) (fun _ _ => 0)
  case atStart => exact ⟨rfl, rfl⟩
  case round =>
    obtain ⟨hw, rfl⟩ := hrel
    subst hw
    go_wp2
    go_ret
    exact ⟨rfl, rfl⟩
theorem special0 (s : ByteArray) (w : World) (h : 0 < s.size) (hc : ((s[0]'h).toNat : Int) = 48) : Calls Tryz.prog 146 #[.string s] w fun e w' => e = .returned (.tuple #[.float .f64 0, .int .i64 0, .bool false]) ∧ w' = w := by
  have i1 : (0 : Int) < (s.size : Int) := by omega
  have hse : s ≠ ByteArray.empty := by intro he; subst he; exact absurd h (by decide)
  go_enter Tryz.func146, Tryz.ntmps146
  go_wp2
  go_ret3
  exact ⟨rfl, rfl⟩
theorem special1 (s : ByteArray) (w : World) (h : 1 < s.size) (hm : s.size ≤ 2000000) (h0 : 0 < s.size) (hc : ((s[0]'h0).toNat : Int) = 45) (hd : ((s[1]'h).toNat : Int) = 48) : Calls Tryz.prog 146 #[.string s] w fun e w' => e = .returned (.tuple #[.float .f64 0, .int .i64 0, .bool false]) ∧ w' = w := by
  have i1 : (0 : Int) < (s.size : Int) := by omega
  have i2 : (1 : Int) < (s.size : Int) := by omega
  have hse : s ≠ ByteArray.empty := by intro he; subst he; exact absurd h (by decide)
  go_enter Tryz.func146, Tryz.ntmps146
  have ht : (s.extract 1 s.size).size = s.size - 1 := by simp
  have ht0 : 0 < (s.extract 1 s.size).size := by omega
  have htc : (((s.extract 1 s.size)[0]'ht0).toNat : Int) = 48 := by
    rw [ByteArray.getElem_extract]
    exact hd
  have CP := hide (cpl_no (s.extract 1 s.size) w ht0 (by omega) htc)
  clear ht ht0 htc
  go_wp2_with fail
  refine (unhide CP).mono ?_
  rintro e w1 ⟨rfl, hw⟩
  subst w1
  go_wp2
  go_ret3
  exact ⟨rfl, rfl⟩
end Go.Proofs.YtjlaoeigfokkiaaGreatDoor.fto
namespace Go.Proofs.YtjlaoeigfokkiaaGreatDoor.fto
open Go.ChangeShapes Go.WideShapes Go.ChangeAt Go.RowKit
open mem Go.Sort
open ints (hide unhide)
set_option linter.unusedVariables false
/-- strconv.ParseFloat answers what atof64 answers, where it reads all of the text -/
theorem pf_in (s : ByteArray) (F : Nat) (w : World) (hs : s.size ≤ 2000000)
    (AT : Calls Tryz.prog 126 #[.string s] w fun e w' => e = .returned (.tuple #[.float .f64 F, .int .i64 s.size, .nilIface]) ∧ Below w.heap.size w w') :
    Calls Tryz.prog 43 #[.string s, .int .i64 64] w fun e w' => e = .returned (.tuple #[.float .f64 F, .nilIface]) ∧ Below w.heap.size w w' := by
  have P1 : Calls Tryz.prog 99 #[.string s, .int .i64 64] w fun e w' => e = .returned (.tuple #[.float .f64 F, .int .i64 s.size, .nilIface]) ∧ Below w.heap.size w w' := by
    have HA := hide AT
    clear AT
    go_enter Tryz.func99, Tryz.ntmps99
    go_wp2_with fail
    refine (unhide HA).mono ?_
    rintro e w1 ⟨rfl, b1⟩
    have HB := hide b1
    clear b1
    go_wp2
    go_ret3
    exact ⟨rfl, unhide HB⟩
  have P2 : Calls Tryz.prog 69 #[.string s, .int .i64 64] w fun e w' => e = .returned (.tuple #[.float .f64 F, .nilIface]) ∧ Below w.heap.size w w' := by
    have HA := hide P1
    clear P1 AT
    go_enter Tryz.func69, Tryz.ntmps69
    go_wp2_with fail
    refine (unhide HA).mono ?_
    rintro e w1 ⟨rfl, b1⟩
    have HB := hide b1
    clear b1
    go_wp2
    go_ret2
    exact ⟨rfl, unhide HB⟩
  have HA := hide P2
  clear P1 P2 AT
  go_enter Tryz.func43, Tryz.ntmps43
  go_wp2_with fail
  refine (unhide HA).mono ?_
  rintro e w1 ⟨rfl, b1⟩
  have HB := hide b1
  clear b1
  go_wp2
  go_ret2
  exact ⟨rfl, unhide HB⟩
/-- strconv.ParseFloat at a text of that shape, given what atof64exact answers: the nearest float -/
theorem pf_any (k : Nat) (s : ByteArray) (m g z d : Nat) (p : Int) (h : Ntx s k m g z) (hk : k ≤ 1) (hm : 1 ≤ m) (ht : trs s (k + 2) m = false) (hd : d = mvs s (k + 2) (min m 19))
    (hpe : p = (if g = 1 then - (mvs s (k + 3 + m + g) z : Int) else (mvs s (k + 3 + m + g) z : Int)) - (min m 19 : Nat)) (hp : -345 ≤ p ∧ p ≤ 310) :
    ∃ lo, Lo (d * 10 ^ p.toNat * k74) (10 ^ (-p).toNat) lo ∧ (roundR (d * 10 ^ p.toNat * k74) (10 ^ (-p).toNat) lo < infR → ∀ w, PT w → 15 < w.heap.size → w.cell? ⟨5, 0, none⟩ = some (.bool true) →
      (∀ (S : Nat) (ng : Bool), S = (if ng then 9223372036854775808 else 0) → Calls Tryz.prog 157 #[.int .u64 d, .int .i64 p, .bool ng] w fun e w' => (∃ (G : Nat) (ok : Bool), e = .returned (.tuple #[.float .f64 G, .bool ok]) ∧ (ok = true → G = S + roundR (d * 10 ^ p.toNat * k74) (10 ^ (-p).toNat) lo)) ∧ w' = w) →
      Calls Tryz.prog 43 #[.string s, .int .i64 64] w fun e w' => e = .returned (.tuple #[.float .f64 (k * 9223372036854775808 + roundR (d * 10 ^ p.toNat * k74) (10 ^ (-p).toNat) lo), .nilIface]) ∧ Below w.heap.size w w') := by
  have hsz1 : s.size ≤ 2000000 := by have := h.sz; have := h.m1; have := h.z1; have := h.g1; omega
  have hsz2 : k + 4 ≤ s.size := by have := h.sz; have := h.z0; omega
  have f1 : 49 ≤ bz s (k + 2) := by have a1 := h.bf (by omega); have a2 := h.bd 0 (by omega); rw [Nat.add_zero] at a2; omega
  have hd0 : 1 ≤ d := by rw [hd]; exact mvs_pos s (k + 2) f1 _ (by omega)
  have hd1 : d < 18446744073709551616 := by
    rw [hd]
    exact Nat.lt_of_lt_of_le (mvs_lt s (k + 2) m h.bd _ (Nat.min_le_left _ _)) (Nat.le_trans (Nat.pow_le_pow_right (by decide) (Nat.min_le_right _ _)) (by decide : 10 ^ 19 ≤ _))
  obtain ⟨S, hS⟩ : ∃ S, S = k * 9223372036854775808 := ⟨_, rfl⟩
  have hS2 : S = 0 ∨ S = 9223372036854775808 := by omega
  obtain ⟨lo, hlo, H⟩ := parse_any d S p hd0 hd1 hp hS2
  refine ⟨lo, hlo, fun hR w hT hg hopt EX => ?_⟩
  have PA := H hR w hT hg
  rw [← hS]
  generalize roundR (d * 10 ^ p.toNat * k74) (10 ^ (-p).toNat) lo = R at *
  refine pf_in s (S + R) w hsz1 ?_
  have m0 : ¬ m = 0 := by omega
  have hk2 : k = 0 ∨ k = 1 := by omega
  rcases hk2 with rfl | rfl
  · have RF := readF0 s m g z w h
    rw [if_neg m0, ← hd, ht, ← hpe] at RF
    exact atof_in s s.size d S (S + R) p false w (by rw [hS]; rfl) hd0 hd1 hp (by omega) hopt (special0 s w (by omega) (by rw [← bz_at]; exact h.b1)) RF (EX S false (by rw [hS]; rfl)) PA
  · have RF := readF1 s m g z w h
    rw [if_neg m0, ← hd, ht, ← hpe] at RF
    exact atof_in s s.size d S (S + R) p true w (by rw [hS]; rfl) hd0 hd1 hp (by omega) hopt (special1 s w (by omega) hsz1 (by omega) (by rw [← bz_at]; exact h.b0 rfl) (by rw [← bz_at]; exact h.b1)) RF (EX S true (by rw [hS]; rfl)) PA
end Go.Proofs.YtjlaoeigfokkiaaGreatDoor.fto
namespace Go.Proofs.YtjlaoeigfokkiaaGreatDoor.fto
open Go.ChangeShapes Go.WideShapes Go.ChangeAt Go.RowKit
open mem Go.Sort
open ints (hide unhide)
set_option linter.unusedVariables false
/-- atof64exact gives up where the digits make a number of more than 52 bits -/
theorem ex_long (d : Nat) (p : Int) (ng : Bool) (w : World) (hd : 4503599627370496 ≤ d) (hd1 : d < 18446744073709551616) (hi : w.cell? ⟨9, 0, none⟩ = some (.int .u64 52)) :
    Calls Tryz.prog 157 #[.int .u64 d, .int .i64 p, .bool ng] w fun e w' => e = .returned (.tuple #[.float .f64 0, .bool false]) ∧ w' = w := by
  have i1 : ((d : Int) / 4503599627370496 != 0) = true := by simp; omega
  go_enter Tryz.func157, Tryz.ntmps157
  go_wp2
  go_ret2
  exact ⟨rfl, rfl⟩
/-- atof64exact gives up where the power is far -/
theorem ex_far (d : Nat) (p : Int) (ng : Bool) (w : World) (hd : d < 4503599627370496) (hp : p < -22 ∨ 37 < p) (hp1 : -10000 ≤ p ∧ p ≤ 10000) (hi : w.cell? ⟨9, 0, none⟩ = some (.int .u64 52)) :
    Calls Tryz.prog 157 #[.int .u64 d, .int .i64 p, .bool ng] w fun e w' => (∃ G : Nat, e = .returned (.tuple #[.float .f64 G, .bool false])) ∧ w' = w := by
  have i1 : (d : Int) / 4503599627370496 = 0 := by omega
  have i2 : (p == 0) = false := by rw [beq_eq_false_iff_ne]; omega
  obtain ⟨G, hG⟩ : ∃ G : Nat, (Op.unary UnOp.neg (Value.float FloatKind.f64 (floatOfInt FloatKind.f64 (d : Int)))).run Tryz.prog w = .ok (.float .f64 G) w := ⟨_, rfl⟩
  rcases hp with h | h
  · have j1 : ¬ (0 : Int) < p := by omega
    have j2 : p < 0 := by omega
    have j3 : ¬ (-22 : Int) ≤ p := by omega
    cases ng
    all_goals
      go_enter Tryz.func157, Tryz.ntmps157
      go_wp2
      go_ret2
      exact ⟨⟨_, rfl⟩, rfl⟩
  · have j1 : (0 : Int) < p := by omega
    have j2 : ¬ p < 0 := by omega
    have j3 : ¬ p ≤ 37 := by omega
    cases ng
    all_goals
      go_enter Tryz.func157, Tryz.ntmps157
      go_wp2
      go_ret2
      exact ⟨⟨_, rfl⟩, rfl⟩
end Go.Proofs.YtjlaoeigfokkiaaGreatDoor.fto
