import Derived.Test.YtjfdjpaocdhbbaaGreatDoorNtx5
import Derived.Deep.RegionHeld3
namespace Go.Proofs.YtjfdjpaocdhbbaaGreatDoor.mem
open Go.ChangeShapes Go.WideShapes Go.ChangeAt Go.RowKit
open ints (hide unhide)
set_option linter.unusedVariables false

theorem times_len {w w' : World} {a a2 : Option Addr} {n c N n2 c2 M D : Nat} (h : Big w a n c N) (h2 : Big w' a2 n2 c2 (N * M + D)) (hM : M < 4294967296) (hD : D < 4294967296) : n2 ≤ n + 1 := by
  refine h2.len ?_
  have hl := h.lt
  rw [pow32]
  have h3 : (N + 1) * M ≤ 2 ^ (32 * n) * M := Nat.mul_le_mul_right _ hl
  have h4 : 2 ^ (32 * n) * M ≤ 2 ^ (32 * n) * 4294967295 := Nat.mul_le_mul_left _ (by omega)
  have h5 : N * M ≤ N * 4294967295 := Nat.mul_le_mul_left _ (by omega)
  have h6 : (N + 1) * 4294967295 ≤ 2 ^ (32 * n) * 4294967295 := Nat.mul_le_mul_right _ hl
  rw [Nat.add_mul, Nat.one_mul] at h6
  generalize 2 ^ (32 * n) = p at *
  omega
theorem split32 (N m : Nat) : N * (m % 4294967296) + N * (m / 4294967296) * 2 ^ 32 = N * m := by
  have h := Nat.div_add_mod m 4294967296
  have e : N * (m / 4294967296) * 2 ^ 32 = N * (4294967296 * (m / 4294967296)) := by
    rw [Nat.mul_assoc, Nat.mul_comm (m / 4294967296)]
  rw [e, Nat.add_comm, ← Nat.mul_add, h]
theorem wide_any (a : Option Addr) (n c N m : Nat) (w : World) (h : Big w a n c N) (hn : n ≤ 1000000) (hm : m < 18446744073709551616) :
    Calls Tryz.prog 68 #[.slice a n c, .int .u64 (m : Int)] w fun e w' => ∃ a2 n2 c2, e = .returned (.slice a2 n2 c2) ∧ Big w' a2 n2 c2 (N * m) ∧ Below w.heap.size w w' := by
  have hmi : (m : Int) < 18446744073709551616 := by omega
  have hm0 : (0 : Int) ≤ (m : Int) := by omega
  have e1 : ((m : Int) % 4294967296).toNat = m % 4294967296 := by omega
  have e2 : ((m : Int) / 4294967296).toNat = m / 4294967296 := by omega
  have E1 := hide e1
  have E2 := hide e2
  clear e1 e2
  go_enter Tryz.func68, Tryz.ntmps68
  go_wp2_with fail
  refine (times_big a n c N ((m : Int) % 4294967296) 0 w h (by omega) (by omega) (by omega)).mono ?_
  rintro e w1 ⟨a1, n1, c1, rfl, B1, b1⟩
  have hl1 := times_len h B1 (by omega) (by decide)
  rw [unhide E1, show (0 : Int).toNat = 0 from rfl, Nat.add_zero] at B1
  go_wp2_with fail
  refine (times_big a n c N ((m : Int) / 4294967296) 0 w1 (h.below b1) (by omega) (by omega) (by omega)).mono ?_
  rintro e w2 ⟨a2, n2, c2, rfl, B2, b2⟩
  have hl2 := times_len (h.below b1) B2 (by omega) (by decide)
  rw [unhide E2, show (0 : Int).toNat = 0 from rfl, Nat.add_zero] at B2
  have B12 := B1.below b2
  have hb2 := b1.trans (b2.mono b1.size)
  clear b1 b2 B1
  go_wp2_with fail
  refine (up_any a2 n2 c2 _ 32 w2 B2 (by omega) (by omega)).mono ?_
  rintro e w3 ⟨a3, n3, c3, rfl, B3, b3⟩
  have hl3 : n3 ≤ n2 + 1 := B3.len (by
    rw [pow32]
    have := B2.lt
    generalize 2 ^ (32 * n2) = p at *
    omega)
  have B13 := B12.below b3
  have hb3 := hb2.trans (b3.mono hb2.size)
  clear b3 B2 B12
  go_wp2_with fail
  refine (plus_any a1 a3 n1 c1 n3 c3 _ _ w3 B13 B3 (by omega) (by omega)).mono ?_
  rintro e w4 ⟨a4, n4, c4, rfl, B4, b4⟩
  rw [split32] at B4
  go_wp2
  go_ret
  exact ⟨a4, n4, c4, rfl, B4, hb3.trans (b4.mono hb3.size)⟩
theorem up_len {w w' : World} {a a2 : Option Addr} {n c N n2 c2 k : Nat} (h : Big w a n c N) (h2 : Big w' a2 n2 c2 (N * 2 ^ k)) : n2 ≤ n + k := by
  refine h2.len ?_
  have hl := h.lt
  have : N * 2 ^ k < 2 ^ (32 * n) * 2 ^ k := Nat.mul_lt_mul_of_pos_right hl (Nat.two_pow_pos k)
  rw [← Nat.pow_add] at this
  exact Nat.lt_of_lt_of_le this (Nat.pow_le_pow_right (by decide) (by omega))
theorem wide_len {w w' : World} {a a2 : Option Addr} {n c N n2 c2 m : Nat} (h : Big w a n c N) (h2 : Big w' a2 n2 c2 (N * m)) (hm : m < 18446744073709551616) : n2 ≤ n + 2 := by
  refine h2.len ?_
  have hl := h.lt
  have : N * m ≤ 2 ^ (32 * n) * m := Nat.mul_le_mul_right _ (Nat.le_of_lt hl)
  have h3 : 2 ^ (32 * n) * m < 2 ^ (32 * n) * 2 ^ 64 := Nat.mul_lt_mul_of_pos_left hm (Nat.two_pow_pos _)
  rw [← Nat.pow_add, show 32 * n + 64 = 32 * (n + 2) by omega] at h3
  omega
set_option maxRecDepth 4000 in
theorem against_pos (aT aB : Option Addr) (nT cT nB cB T B m e : Nat) (w : World) (hT : Big w aT nT cT T) (hB : Big w aB nB cB B) (hnT : nT ≤ 100000) (hnB : nB ≤ 100000) (hm : m < 18446744073709551616) (he : e ≤ 100000) :
    Calls Tryz.prog 41 #[.agg #[.slice aT nT cT, .slice aB nB cB], .int .u64 (m : Int), .int .i64 (e : Int)] w fun x w' => x = .returned (.int .i64 (cmpN T (B * m * 2 ^ e))) ∧ Below w.heap.size w w' := by
  have hei : (0 : Int) ≤ (e : Int) := by omega
  have hW := (Below.refl w.heap.size w).alloc (Nat.le_refl _) (.cells #[.slice aT nT cT, .slice aB nB cB] 74)
  have kT : (w.alloc (.cells #[.slice aT nT cT, .slice aB nB cB] 74)).cell? ⟨w.heap.size, 0, none⟩ = some (.slice aT nT cT) := by simp
  have HT := hide hT
  have KT := hide kT
  clear kT
  go_enter Tryz.func41, Tryz.ntmps41
  go_wp2_with fail
  refine (wide_any aB nB cB B m _ (hB.below hW) (by omega) hm).mono ?_
  rintro x w1 ⟨a1, n1, c1, rfl, B1, b1⟩
  have hl1 := wide_len hB B1 hm
  have k1 := (b1.cell (p := ⟨w.heap.size, 0, none⟩) (by simp)).trans (unhide KT)
  have hb1 := hW.trans (b1.mono (by simp))
  clear b1 KT hW
  go_wp2_with fail
  refine (up_any a1 n1 c1 _ e w1 B1 (by omega) (by omega)).mono ?_
  rintro x w2 ⟨a2, n2, c2, rfl, B2, b2⟩
  have hl2 := up_len B1 B2
  have hb2 := hb1.trans (b2.mono hb1.size)
  clear b2 k1
  go_wp2_with fail
  refine (order_any aT a2 nT cT n2 c2 T _ w2 ((unhide HT).below hb2) B2 (by omega) (by omega)).mono ?_
  rintro x w3 ⟨rfl, b3⟩
  go_wp2
  go_ret
  exact ⟨rfl, hb2.trans (b3.mono hb2.size)⟩
set_option maxRecDepth 4000 in
theorem against_neg (aT aB : Option Addr) (nT cT nB cB T B m e : Nat) (w : World) (hT : Big w aT nT cT T) (hB : Big w aB nB cB B) (hnT : nT ≤ 100000) (hnB : nB ≤ 100000) (hm : m < 18446744073709551616) (he : e ≤ 100000) (he0 : 0 < e) :
    Calls Tryz.prog 41 #[.agg #[.slice aT nT cT, .slice aB nB cB], .int .u64 (m : Int), .int .i64 (-(e : Int))] w fun x w' => x = .returned (.int .i64 (cmpN (T * 2 ^ e) (B * m))) ∧ Below w.heap.size w w' := by
  have hei : ¬ (0 : Int) ≤ -(e : Int) := by omega
  have hW := (Below.refl w.heap.size w).alloc (Nat.le_refl _) (.cells #[.slice aT nT cT, .slice aB nB cB] 74)
  have kT : (w.alloc (.cells #[.slice aT nT cT, .slice aB nB cB] 74)).cell? ⟨w.heap.size, 0, none⟩ = some (.slice aT nT cT) := by simp
  have HT := hide hT
  have KT := hide kT
  clear kT
  go_enter Tryz.func41, Tryz.ntmps41
  go_wp2_with fail
  refine (wide_any aB nB cB B m _ (hB.below hW) (by omega) hm).mono ?_
  rintro x w1 ⟨a1, n1, c1, rfl, B1, b1⟩
  have hl1 := wide_len hB B1 hm
  have k1 := (b1.cell (p := ⟨w.heap.size, 0, none⟩) (by simp)).trans (unhide KT)
  have hb1 := hW.trans (b1.mono (by simp))
  clear b1 KT hW
  go_wp2_with fail
  have eneg : - -(e : Int) = (e : Int) := by omega
  try rw [eneg]
  refine (up_any aT nT cT T e w1 ((unhide HT).below hb1) (by omega) (by omega)).mono ?_
  rintro x w2 ⟨a2, n2, c2, rfl, B2, b2⟩
  have hl2 := up_len hT B2
  have B1 := B1.below b2
  have hb2 := hb1.trans (b2.mono hb1.size)
  clear b2 k1
  go_wp2_with fail
  refine (order_any a2 a1 n2 c2 n1 c1 _ _ w2 B2 B1 (by omega) (by omega)).mono ?_
  rintro x w3 ⟨rfl, b3⟩
  go_wp2
  go_ret
  exact ⟨rfl, hb2.trans (b3.mono hb2.size)⟩
end Go.Proofs.YtjfdjpaocdhbbaaGreatDoor.mem
