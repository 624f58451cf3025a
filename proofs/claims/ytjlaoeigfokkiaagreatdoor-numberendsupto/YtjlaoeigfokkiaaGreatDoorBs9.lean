import Derived.Test.YtjlaoeigfokkiaaGreatDoorBs4
import Derived.Test.YtjlaoeigfokkiaaGreatDoorBs1
import Derived.Test.YtjlaoeigfokkiaaGreatDoorBs5
namespace Go.Proofs.YtjlaoeigfokkiaaGreatDoor.fto
open Go.ChangeShapes Go.WideShapes Go.ChangeAt Go.RowKit
open mem Go.Sort
open ints (hide unhide)
set_option linter.unusedVariables false
set_option linter.unusedSimpArgs false
set_option maxHeartbeats 8000000 in
set_option maxRecDepth 100000 in
theorem ftoa_s (f mm L s d nd : Nat) (p : Int) (v : Value) (base : Nat) (w : World) (hf0 : 1 ≤ f) (hf : f < 4503599627370496) (a1 : bits .and .i64 0 2047 = (0 : Int)) (a2 : bits .and .u64 (f : Int) 4503599627370495 = (f : Int)) (hlen : Lib.bitLen f = L) (hL : L + s = 64) (hL2 : 1 ≤ L) (hL3 : L ≤ 52) (hmm : f * 2 ^ s = mm) (hm2 : mm < 18446744073709551616)
    (hown : w.ownsRow base 5 1 v 0 []) (hbase : base ≤ w.heap.size)
    (hS : ∀ W, Below w.heap.size w W → Calls Tryz.prog 139 #[.int .u64 mm, .int .i64 (-1022 - (s : Int) - 52)] W fun e w' => e = .returned (.tuple #[.int .u64 d, .int .i64 p]) ∧ Below W.heap.size W w')
    (hN : ∀ W, Below w.heap.size w W → Calls Tryz.prog 86 #[.int .u64 d] W fun e w' => e = .returned (.int .i64 nd) ∧ w' = W)
    (hd : 1 ≤ d) (hnd : d < 10 ^ nd) (hnd1 : 1 ≤ nd) (hnd2 : nd ≤ 20) (hd64 : d < 18446744073709551616) (hp : -370 ≤ p ∧ p ≤ 370) (hnz : ¬ ∀ j, 0 ≤ j → j < nd → dgt d nd j = 48) :
    Calls Tryz.prog 105 #[v, .float .f64 f, .int .u8 101, .int .i64 (-1)] w fun e w' => ∃ r, e = .returned r ∧ ∃ k : Nat, 1 ≤ k ∧ k ≤ nd ∧ (∀ j, k ≤ j → j < nd → dgt d nd j = 48) ∧ dgt d nd (k - 1) ≠ 48 ∧ w'.ownsRow base 5 1 r (sTxt d nd k p).length ((sTxt d nd k p).map (Value.int .u8)) ∧ Below base w w' := by
  have hb := run_fbits f w
  have HS := hide hS
  have HN := hide hN
  have HZ := hide hnz
  have HD := hide hnd
  clear hS hN hnz hnd
  have x1 : IntKind.u64.wrap ((f : Int) * 2 ^ s) = (mm : Int) := by
    have e1 : ((f : Int) * 2 ^ s) = (mm : Int) := by rw [← hmm]; simp
    rw [e1, IntKind.wrap_u64]; omega
  have hs63 : (s : Int) < 64 := by omega
  have hs12 : 12 ≤ (s : Int) := by omega
  have HL := hide hlen
  have HM := hide hmm
  have i7 : (64 : Int) - (L : Int) = (s : Int) := by omega
  have hLs := hide hL
  clear hlen hmm hL
  have i1 : (0 : Int) ≤ (f : Int) := by omega
  have i2 : (f : Int) / 4503599627370496 = 0 := by omega
  have i3 : (f : Int) / 9223372036854775808 = 0 := by omega
  have i6 : ((f : Int) == 0) = false := by rw [beq_eq_false_iff_ne]; omega
  go_enter Tryz.func105, Tryz.ntmps105
  go_wp2_with fail
  go_region
  go_wp2_with fail
  have b0 : Below w.heap.size w (w.alloc (.cells (Array.replicate 32 (Value.int .u8 0)) 174)).drew := Below.drew ((Below.refl _ _).alloc (Nat.le_refl _) _)
  have hW : (w.alloc (.cells (Array.replicate 32 (Value.int .u8 0)) 174)).drew.heap[w.heap.size]? = some (.cells (Array.replicate 32 (Value.int .u8 0)) 174) := by
    show (w.heap.push _)[w.heap.size]? = _
    rw [Array.getElem?_push_size]
  have hZ : (w.alloc (.cells (Array.replicate 32 (Value.int .u8 0)) 174)).drew.heap.size = w.heap.size + 1 := by
    show (w.heap.push _).size = _
    rw [Array.size_push]
  generalize hW0 : (w.alloc (.cells (Array.replicate 32 (Value.int .u8 0)) 174)).drew = W0 at b0 hW hZ
  have hW1 : (w.alloc (.cells #[.int .u8 0, .int .u8 0, .int .u8 0, .int .u8 0, .int .u8 0, .int .u8 0, .int .u8 0, .int .u8 0, .int .u8 0, .int .u8 0, .int .u8 0, .int .u8 0, .int .u8 0, .int .u8 0, .int .u8 0, .int .u8 0, .int .u8 0, .int .u8 0, .int .u8 0, .int .u8 0, .int .u8 0, .int .u8 0, .int .u8 0, .int .u8 0, .int .u8 0, .int .u8 0, .int .u8 0, .int .u8 0, .int .u8 0, .int .u8 0, .int .u8 0, .int .u8 0] 174)).drew = W0 := hW0
  rw [hW1]
  refine (Tryz.bits_Len64 f _ (by omega) (by omega)).mono ?_
  rintro e w' ⟨rfl, rfl⟩
  rw [Int.toNat_natCast, unhide HL]
  clear hb hW0 hW1
  go_wp2_with fail
  refine (unhide HS _ b0).mono ?_
  rintro e w1 ⟨rfl, b1⟩
  have hB1 : w1.heap[w.heap.size]? = some (.cells (Array.replicate 32 (Value.int .u8 0)) 174) := (b1.block _ (by omega)).trans hW
  have b01 : Below w.heap.size w w1 := b0.trans (b1.mono (by omega))
  have hz1 : w.heap.size < w1.heap.size := by have := b1.size; omega
  go_wp2_with fail
  refine wp_region_noPanic ?_
  refine wp_region_held (S := fun _ => True) mixed ?_
  have hS0 : True := trivial
  refine rgn.tl (i := 0) (v := ?v1) rfl (by kernel_rfl) (fun _ _ _ h => h) (by rfl) ?hy1 hS0 ?_
  case hy1 => (intro w' hw'; go_simp; try with_reducible rfl)
  simp only [zA, zB, zC, Act.put, zD, zE, zF]
  refine rgn.tl (i := 1) (v := ?v2) rfl (by kernel_rfl) (fun _ _ _ h => h) (by rfl) ?hy2 hS0 ?_
  case hy2 => (intro w' hw'; go_simp; try with_reducible rfl)
  simp only [zA, zB, zC, Act.put, zD, zE, zF]
  refine rgn.tl (i := 2) (v := ?v3) rfl (by kernel_rfl) (fun _ _ _ h => h) (by rfl) ?hy3 hS0 ?_
  case hy3 => (intro w' hw'; go_simp; try with_reducible rfl)
  simp only [zA, zB, zC, Act.put, zD, zE, zF]
  refine rgn.tl (i := 3) (v := ?v4) rfl (by kernel_rfl) (fun _ _ _ h => h) (by rfl) ?hy4 hS0 ?_
  case hy4 => (intro w' hw'; go_simp; try with_reducible rfl)
  simp only [zA, zB, zC, Act.put, zD, zE, zF]
  refine rgn.one (i := 4) _ rfl (by kernel_rfl) (by rfl) ?_
  simp only [zA, zB, zC, Act.put, zD, zE, zF]
  refine callW _ _ _ _ rfl Tryz.func86 (by kernel_rfl) (by kernel_rfl) #[.int .u64 d] (by first | kernel_rfl | (simp only [List.map_toArray, List.map_cons, List.map_nil]; rfl)) ?_
  refine (unhide HN _ b01.drew).mono ?_
  rintro e w' ⟨rfl, hw'⟩
  subst hw'
  refine ⟨_, rfl, trivial, ?_⟩
  try simp only [zA, zB, zC, Act.put, zD, zE, zF]
  refine rgn.one (i := 5) _ rfl (by kernel_rfl) (by rfl) ?_
  simp only [zA, zB, zC, Act.put, zD, zE, zF]
  refine callW _ _ _ _ rfl Tryz.func134 (by kernel_rfl) (by kernel_rfl) #[.slice (some ⟨w.heap.size, 0, none⟩) 32 32, .int .u64 d, .int .i64 p, .int .i64 nd] (by first | kernel_rfl | (simp only [List.map_toArray, List.map_cons, List.map_nil]; rfl)) ?_
  have hcell : ∀ j, j < nd → w1.drew.cell? ⟨w.heap.size, j, none⟩ = some (.int .u8 0) ∧ w1.drew.frozen? ⟨w.heap.size, j, none⟩ = false := fun j hj => by
    have hj : j < 32 := by omega
    refine ⟨?_, by show w1.frozen? ⟨w.heap.size, j, none⟩ = false; simp [World.frozen?, hB1]⟩
    rw [World.cell?_drew]
    simp only [World.cell?, hB1]
    simp [hj]
  refine (setDigits_ok w.heap.size d nd p w1.drew (by omega) hcell (unhide HD) hd64 (by omega)).mono ?_
  rintro e w3 ⟨k, rfl, hk, hdg, hz, hnz0, b3, kt⟩
  refine ⟨_, rfl, trivial, ?_⟩
  try simp only [zA, zB, zC, Act.put, zD, zE, zF]
  refine rgn.tl (i := 6) (v := ?v5) rfl (by kernel_rfl) (fun _ _ _ h => h) (by rfl) ?hy5 hS0 ?_
  case hy5 => (intro w' hw'; go_simp; try with_reducible rfl)
  simp only [zA, zB, zC, Act.put, zD, zE, zF]
  refine rgn.tl (i := 7) (v := ?v6) rfl (by kernel_rfl) (fun _ _ _ h => h) (by rfl) ?hy6 hS0 ?_
  case hy6 => (intro w' hw'; go_simp; try with_reducible rfl)
  simp only [zA, zB, zC, Act.put, zD, zE, zF]
  refine rgn.tl (i := 8) (v := ?v7) rfl (by kernel_rfl) (fun _ _ _ h => h) (by rfl) ?hy7 hS0 ?_
  case hy7 => (intro w' hw'; go_simp; try with_reducible rfl)
  simp only [zA, zB, zC, Act.put, zD, zE, zF]
  refine rgn.tl (i := 9) (v := ?v8) rfl (by kernel_rfl) (fun _ _ _ h => h) (by rfl) ?hy8 hS0 ?_
  case hy8 => (intro w' hw'; go_simp; try with_reducible rfl)
  simp only [zA, zB, zC, Act.put, zD, zE, zF]
  refine rgn.tl (i := 10) (v := ?v9) rfl (by kernel_rfl) (fun _ _ _ h => h) (by rfl) ?hy9 hS0 ?_
  case hy9 => (intro w' hw'; go_simp; try with_reducible rfl)
  simp only [zA, zB, zC, Act.put, zD, zE, zF]
  refine wpAnyH_done (by kernel_rfl) ?_ _; refine NoPanic.normal ?_
  have hk1 : 1 ≤ k := by
    rcases Nat.eq_zero_or_pos k with h | h
    · exact absurd (fun j h0 hj => hz j (by omega) hj) (unhide HZ)
    · exact h
  have hnz1 : dgt d nd (k - 1) ≠ 48 := by
    rcases hnz0 with h | h
    · omega
    · exact h
  obtain ⟨arr, harr⟩ := kt _ _ _ (show w1.drew.heap[w.heap.size]? = _ from hB1)
  obtain ⟨m, rfl⟩ : ∃ m, k = m + 1 := ⟨k - 1, by omega⟩
  have b13 : Below w.heap.size w w3 := b01.drew.trans b3
  have own3 := own_bel hown b13
  have EF := hide (efg_ok w.heap.size base m v (dgt d nd 0) ((nd : Int) + p) (dTail d nd (m + 1)) w3 harr (by decide) (cell_arr harr (hdg 0 (by omega))) (fun j u hj => by
      have hl : j < m := by have := (List.getElem?_eq_some_iff.1 hj).1; simpa [dTail] using this
      have e : ((dTail d nd (m + 1)).map (Value.int .u8))[j]? = some (.int .u8 (dgt d nd (1 + j))) := by simp [dTail, hl]
      rw [e] at hj
      cases hj
      exact cell_arr harr (hdg (1 + j) (by omega))) (by simp [dTail]) (by omega) own3 (Nat.le_trans hbase b13.size) (by omega) (by omega))
  have R := hide (⟨hz, hnz1, b13⟩ : (∀ j, m + 1 ≤ j → j < nd → dgt d nd j = 48) ∧ dgt d nd (m + 1 - 1) ≠ 48 ∧ Below w.heap.size w w3)
  clear hz hnz0 hnz1 b13 own3 hdg b3 kt harr hcell hB1 b1 b01 b0 hW hZ HS HN HZ
  have im : ((m + 1 : Nat) : Int) - 1 = (m : Int) := by omega
  go_wp2_with fail
  refine (unhide EF).mono ?_
  rintro e w4 ⟨r, rfl, ho, b4⟩
  have HO := hide ho
  have B4 := hide b4
  clear ho b4 EF
  go_wp2
  go_ret
  obtain ⟨hz, hnz1, b13⟩ := unhide R
  exact ⟨r, rfl, m + 1, by omega, hk, hz, hnz1, unhide HO, (b13.mono hbase).trans (unhide B4)⟩
end Go.Proofs.YtjlaoeigfokkiaaGreatDoor.fto
namespace Go.Proofs.YtjlaoeigfokkiaaGreatDoor.mem
set_option linter.unusedVariables false

/-- X over D, rounded to the nearest, of two equally near the even one. -/
def rne (X D : Nat) : Nat := if D < 2 * (X % D) ∨ (2 * (X % D) = D ∧ X / D % 2 = 1) then X / D + 1 else X / D
theorem or_one (F : Nat) : F ||| 1 = F / 2 * 2 + 1 := by
  have h := Nat.or_mod_two_eq_one (a := F) (b := 1)
  have h1 : (F ||| 1) % 2 = 1 := by
    rw [Nat.or_mod_two_eq_one]; right; rfl
  have h2 : (F ||| 1) / 2 = F / 2 := by
    rw [Nat.or_div_two]
    simp
  omega
theorem un_parts (X W : Nat) : un X W / 2 = X / W / 2 ∧ (un X W % 2 = 1 ↔ (X / W % 2 = 1 ∨ X % W ≠ 0)) := by
  unfold un
  by_cases h : X % W = 0
  · rw [if_pos h, Nat.or_zero]
    exact ⟨rfl, by omega⟩
  · rw [if_neg h, or_one]
    exact ⟨by omega, by omega⟩
/-- round of an unrounded number. -/
theorem un_round (X W : Nat) (hW : 0 < W) : (un X W + 1 + un X W / 4 % 2) / 4 = rne X (4 * W) := by
  obtain ⟨h1, h2⟩ := un_parts X W
  have hdm := Nat.div_add_mod X W
  have hml := Nat.mod_lt X hW
  generalize un X W = u at *
  obtain ⟨F, hF⟩ : ∃ F, F = X / W := ⟨_, rfl⟩
  obtain ⟨r, hr⟩ : ∃ r, r = X % W := ⟨_, rfl⟩
  rw [← hF] at h1 h2 hdm
  rw [← hr] at h2 hdm hml
  have hq : X / (4 * W) = F / 4 := by rw [Nat.mul_comm, ← Nat.div_div_eq_div_mul, ← hF]
  have hm : X % (4 * W) = F % 4 * W + r := by
    have e : X = W * (4 * (F / 4) + F % 4) + r := by rw [Nat.div_add_mod]; omega
    have e2 : X = 4 * W * (F / 4) + (F % 4 * W + r) := by
      rw [e, Nat.mul_add, ← Nat.mul_assoc, Nat.mul_comm W 4, Nat.mul_comm W (F % 4)]; omega
    rw [e2, Nat.mul_add_mod]
    refine Nat.mod_eq_of_lt ?_
    have h4 : F % 4 < 4 := Nat.mod_lt _ (by decide)
    have := Nat.mul_le_mul_right W (show F % 4 ≤ 3 by omega)
    omega
  unfold rne
  rw [hq, hm]
  clear hq hm hF hr hdm
  have h4 : F % 4 < 4 := Nat.mod_lt _ (by decide)
  rcases (show F % 4 = 0 ∨ F % 4 = 1 ∨ F % 4 = 2 ∨ F % 4 = 3 by omega) with c | c | c | c
  · rw [c, Nat.zero_mul, Nat.zero_add, if_neg (by omega)]
    by_cases hr0 : r = 0 <;> omega
  · rw [c, Nat.one_mul, if_neg (by omega)]
    omega
  · rw [c]
    by_cases hr0 : r = 0
    · by_cases ho : F / 4 % 2 = 1
      · rw [if_pos (by omega)]; omega
      · rw [if_neg (by omega)]; omega
    · rw [if_pos (by omega)]; omega
  · rw [c, if_pos (by omega)]; omega
/-- half of an unrounded number. -/
theorem un_half (X W : Nat) (hW : 0 < W) : (un X W / 2) ||| (un X W % 2) = un X (2 * W) := by
  obtain ⟨h1, h2⟩ := un_parts X W
  have hdm := Nat.div_add_mod X W
  have hml := Nat.mod_lt X hW
  have hq : X / (2 * W) = X / W / 2 := by rw [Nat.mul_comm, ← Nat.div_div_eq_div_mul]
  have hm : X % (2 * W) = X / W % 2 * W + X % W := by
    generalize hF : X / W = F at *
    generalize hr : X % W = r at *
    have e2 : X = 2 * W * (F / 2) + (F % 2 * W + r) := by
      have : F = 2 * (F / 2) + F % 2 := (Nat.div_add_mod F 2).symm
      rw [← hdm]
      conv => lhs; rw [this, Nat.mul_add, ← Nat.mul_assoc, Nat.mul_comm W 2, Nat.mul_comm W (F % 2)]
      omega
    rw [e2, Nat.mul_add_mod]
    refine Nat.mod_eq_of_lt ?_
    have := Nat.mul_le_mul_right W (show F % 2 ≤ 1 by omega)
    omega
  conv => rhs; unfold un
  rw [hq, hm, h1]
  by_cases hs : X / W % 2 = 1 ∨ X % W ≠ 0
  · rw [h2.2 hs, if_neg]
    rcases hs with hs | hs
    · rw [hs]; omega
    · omega
  · have : un X W % 2 = 0 := by
      have : ¬ un X W % 2 = 1 := fun e => hs (h2.1 e)
      omega
    rw [this, if_pos]
    have : X / W % 2 = 0 := by omega
    rw [this]; omega
/-- The rounding of Rnd, where the number is X over D times two to the power of k units, and its whole part is a float's mantissa. -/
theorem rung_of {P Bn X D k q : Nat} (hD : 0 < D) (hBn : 0 < Bn) (hid : P * D = X * Bn * 2 ^ k) (hq : q = X / D) (hm : mantR (q + k * b52) = q) (he : exR (q + k * b52) = k) (hb : q % 2 = (q + k * b52) % 2) :
    Lo P Bn (q + k * b52) ∧ roundR P Bn (q + k * b52) = rne X D + k * b52 := by
  have hdm := Nat.div_add_mod X D
  have hml := Nat.mod_lt X hD
  rw [← hq] at hdm
  have hv : vR (q + k * b52) = q * 2 ^ k := by unfold vR; rw [hm, he]
  have hkp := Nat.two_pow_pos k
  have hCp : 0 < Bn * 2 ^ k := Nat.mul_pos hBn hkp
  have hid2 : P * D = X * (Bn * 2 ^ k) := by rw [hid, Nat.mul_assoc]
  -- everything over D, by C = Bn * 2 ^ k
  have e1 : Bn * (q * 2 ^ k) = q * (Bn * 2 ^ k) := by rw [← Nat.mul_assoc, Nat.mul_comm Bn q, Nat.mul_assoc]
  have e2 : Bn * (q * 2 ^ k + 2 ^ k) = (q + 1) * (Bn * 2 ^ k) := by rw [Nat.mul_add, e1, Nat.add_mul, Nat.one_mul]
  have e3 : Bn * (2 * (q * 2 ^ k) + 2 ^ k) = (2 * q + 1) * (Bn * 2 ^ k) := by
    rw [Nat.mul_add, Nat.add_mul, Nat.one_mul, Nat.mul_assoc 2 q, ← e1]
    rw [← Nat.mul_assoc, Nat.mul_comm Bn 2, Nat.mul_assoc]
  generalize Bn * 2 ^ k = C at *
  have hXq : X = D * q + X % D := by omega
  constructor
  · unfold Lo
    rw [vR_succ, hv, he, e1, e2]
    constructor
    · have : q * C * D ≤ P * D := by
        rw [hid2, Nat.mul_right_comm]
        refine Nat.mul_le_mul_right _ ?_
        rw [Nat.mul_comm]; omega
      exact Nat.le_of_mul_le_mul_right this hD
    · have : P * D < (q + 1) * C * D := by
        rw [hid2, Nat.mul_right_comm]
        refine Nat.mul_lt_mul_of_pos_right ?_ hCp
        rw [Nat.add_mul, Nat.one_mul, Nat.mul_comm]; omega
      exact Nat.lt_of_mul_lt_mul_right this
  · unfold roundR rne
    rw [hv, he, e3, ← hb, ← hq]
    have k1 : (2 * q + 1) * C < 2 * P ↔ D < 2 * (X % D) := by
      have a1 : (2 * q + 1) * C < 2 * P ↔ (2 * q + 1) * C * D < 2 * P * D := (Nat.mul_lt_mul_right hD).symm
      have a2 : 2 * P * D = 2 * X * C := by rw [Nat.mul_assoc, hid2, Nat.mul_assoc]
      have a3 : (2 * q + 1) * C * D = (2 * q + 1) * D * C := Nat.mul_right_comm _ _ _
      rw [a1, a2, a3, Nat.mul_lt_mul_right hCp, Nat.add_mul, Nat.one_mul, Nat.mul_assoc, Nat.mul_comm q D]
      omega
    have k2 : 2 * P = (2 * q + 1) * C ↔ 2 * (X % D) = D := by
      have a1 : 2 * P = (2 * q + 1) * C ↔ 2 * P * D = (2 * q + 1) * C * D := (Nat.mul_right_cancel_iff hD).symm
      have a2 : 2 * P * D = 2 * X * C := by rw [Nat.mul_assoc, hid2, Nat.mul_assoc]
      have a3 : (2 * q + 1) * C * D = (2 * q + 1) * D * C := Nat.mul_right_comm _ _ _
      rw [a1, a2, a3, Nat.mul_right_cancel_iff hCp, Nat.add_mul, Nat.one_mul, Nat.mul_assoc, Nat.mul_comm q D]
      omega
    simp only [k1, k2]
    split <;> omega
end Go.Proofs.YtjlaoeigfokkiaaGreatDoor.mem
namespace Go.Proofs.YtjlaoeigfokkiaaGreatDoor.mem
set_option linter.unusedVariables false

/-- Twice the middle of the rungs r and r + 1. -/
def midR (r : Nat) : Nat := 2 * vR r + 2 ^ exR r
theorem midR_eq (r : Nat) : midR r = vR r + vR (r + 1) := by
  unfold midR; rw [vR_succ]; omega
/-- P over B lies where the float a is the nearest. -/
def InR (P B a : Nat) : Prop := (B * midR (a - 1) < 2 * P ∨ (B * midR (a - 1) = 2 * P ∧ a % 2 = 0)) ∧ (2 * P < B * midR a ∨ (2 * P = B * midR a ∧ a % 2 = 0))
theorem round_iff {P B a lo : Nat} (hB : 0 < B) (ha : 0 < a) (hlo : Lo P B lo) : roundR P B lo = a ↔ InR P B a := by
  have m1 : 2 * (B * vR (a - 1)) < B * midR (a - 1) := by
    rw [← Nat.mul_assoc, Nat.mul_comm 2 B, Nat.mul_assoc]
    refine Nat.mul_lt_mul_of_pos_left ?_ hB
    have := Nat.two_pow_pos (exR (a - 1))
    unfold midR; omega
  have m2 : B * midR (a - 1) < 2 * (B * vR a) := by
    rw [← Nat.mul_assoc, Nat.mul_comm 2 B, Nat.mul_assoc]
    refine Nat.mul_lt_mul_of_pos_left ?_ hB
    rw [midR_eq, Nat.sub_add_cancel ha]
    have := vR_mono (show a - 1 < a by omega)
    omega
  have m3 : 2 * (B * vR a) < B * midR a := by
    rw [← Nat.mul_assoc, Nat.mul_comm 2 B, Nat.mul_assoc]
    refine Nat.mul_lt_mul_of_pos_left ?_ hB
    have := Nat.two_pow_pos (exR a)
    unfold midR; omega
  have m4 : B * midR a < 2 * (B * vR (a + 1)) := by
    rw [← Nat.mul_assoc, Nat.mul_comm 2 B, Nat.mul_assoc]
    refine Nat.mul_lt_mul_of_pos_left ?_ hB
    rw [midR_eq]
    have := vR_mono (show a < a + 1 by omega)
    omega
  constructor
  · intro h
    obtain ⟨l1, l2⟩ := hlo
    unfold roundR at h
    change (if B * midR lo < 2 * P ∨ (2 * P = B * midR lo ∧ lo % 2 = 1) then lo + 1 else lo) = a at h
    split at h
    · rename_i hc
      have e : lo = a - 1 := by omega
      subst e
      rw [Nat.sub_add_cancel ha] at l2
      refine ⟨?_, Or.inl (by omega)⟩
      rcases hc with hc | ⟨hc, ho⟩
      · left; exact hc
      · right; exact ⟨hc.symm, by omega⟩
    · rename_i hc
      subst h
      refine ⟨Or.inl (by omega), ?_⟩
      by_cases h2 : 2 * P < B * midR lo
      · left; exact h2
      · right
        have : ¬ B * midR lo < 2 * P := fun h => hc (Or.inl h)
        have h3 : 2 * P = B * midR lo := by omega
        refine ⟨h3, ?_⟩
        have : ¬ lo % 2 = 1 := fun h => hc (Or.inr ⟨h3, h⟩)
        omega
  · rintro ⟨i1, i2⟩
    by_cases hp : B * vR a ≤ P
    · have : lo = a := hlo.unique ⟨hp, by omega⟩
      subst this
      unfold roundR
      change (if B * midR lo < 2 * P ∨ (2 * P = B * midR lo ∧ lo % 2 = 1) then lo + 1 else lo) = lo
      rw [if_neg]
      omega
    · have : lo = a - 1 := hlo.unique ⟨by omega, by rw [Nat.sub_add_cancel ha]; omega⟩
      subst this
      unfold roundR
      change (if B * midR (a - 1) < 2 * P ∨ (2 * P = B * midR (a - 1) ∧ (a - 1) % 2 = 1) then a - 1 + 1 else a - 1) = a
      rw [if_pos (by omega)]
      omega
/-- floor, ceil and nudge of an unrounded number. -/
theorem un_mod (X W : Nat) (hW : 0 < W) : un X W / 4 = X / (4 * W) ∧ (un X W % 4 = 0 ↔ X % (4 * W) = 0) := by
  obtain ⟨h1, h2⟩ := un_parts X W
  have hdm := Nat.div_add_mod X W
  have hml := Nat.mod_lt X hW
  have hq4 : X / (4 * W) = X / W / 4 := by rw [Nat.mul_comm, ← Nat.div_div_eq_div_mul]
  have hm : X % (4 * W) = X / W % 4 * W + X % W := by
    generalize hF : X / W = F at *
    generalize hr : X % W = r at *
    have e2 : X = 4 * W * (F / 4) + (F % 4 * W + r) := by
      have : F = 4 * (F / 4) + F % 4 := (Nat.div_add_mod F 4).symm
      rw [← hdm]
      conv => lhs; rw [this, Nat.mul_add, ← Nat.mul_assoc, Nat.mul_comm W 4, Nat.mul_comm W (F % 4)]
      omega
    rw [e2, Nat.mul_add_mod]
    refine Nat.mod_eq_of_lt ?_
    have := Nat.mul_le_mul_right W (show F % 4 ≤ 3 by omega)
    omega
  refine ⟨by omega, ?_⟩
  rw [hm]
  constructor
  · intro h
    have hs : ¬ (X / W % 2 = 1 ∨ X % W ≠ 0) := fun h' => by have := h2.2 h'; omega
    have : X / W % 4 = 0 := by omega
    rw [this]; omega
  · intro h
    have a1 : X % W = 0 := by omega
    have a2 : X / W % 4 = 0 := by
      have : X / W % 4 * W = 0 := by omega
      rcases Nat.mul_eq_zero.1 this with h | h <;> omega
    have : ¬ un X W % 2 = 1 := fun h' => by have := h2.1 h'; omega
    omega
theorem un_floor (X W c : Nat) (hW : 0 < W) : c ≤ un X W / 4 ↔ c * (4 * W) ≤ X := by
  rw [(un_mod X W hW).1, Nat.le_div_iff_mul_le (by omega)]
theorem un_ceil (X W c : Nat) (hW : 0 < W) : (un X W + 3) / 4 ≤ c ↔ X ≤ c * (4 * W) := by
  obtain ⟨h1, h2⟩ := un_mod X W hW
  have hdm := Nat.div_add_mod X (4 * W)
  have hml := Nat.mod_lt X (show 0 < 4 * W by omega)
  have key : c ≤ X / (4 * W) ↔ c * (4 * W) ≤ X := Nat.le_div_iff_mul_le (by omega)
  have key2 : c + 1 ≤ X / (4 * W) ↔ (c + 1) * (4 * W) ≤ X := Nat.le_div_iff_mul_le (by omega)
  by_cases h0 : X % (4 * W) = 0
  · have := h2.2 h0
    constructor
    · intro h
      have : X / (4 * W) ≤ c := by omega
      have := Nat.mul_le_mul_left (4 * W) this
      rw [Nat.mul_comm c]; omega
    · intro h
      have : X / (4 * W) ≤ c := by
        have := Nat.div_le_div_right (c := 4 * W) h
        rwa [Nat.mul_div_cancel _ (by omega)] at this
      omega
  · have : un X W % 4 ≠ 0 := fun h => h0 (h2.1 h)
    constructor
    · intro h
      have h' : X / (4 * W) + 1 ≤ c := by omega
      have := Nat.mul_le_mul_left (4 * W) h'
      rw [Nat.mul_add, Nat.mul_one] at this
      rw [Nat.mul_comm c]; omega
    · intro h
      have : ¬ c ≤ X / (4 * W) := by
        intro hc
        have h3 := key.1 hc
        have : X = c * (4 * W) := by omega
        rw [this, Nat.mul_mod_left] at h0
        exact h0 rfl
      omega
theorem un_ceil_odd (X W c : Nat) (hW : 0 < W) : (un X W + 1 + 3) / 4 ≤ c ↔ X < c * (4 * W) := by
  have h := un_floor X W c hW
  omega
theorem un_floor_odd (X W c : Nat) (hW : 0 < W) (hX : 0 < X) : c ≤ (un X W - 1) / 4 ↔ c = 0 ∨ c * (4 * W) < X := by
  have h := un_ceil X W c hW
  obtain ⟨h1, h2⟩ := un_mod X W hW
  omega
end Go.Proofs.YtjlaoeigfokkiaaGreatDoor.mem
