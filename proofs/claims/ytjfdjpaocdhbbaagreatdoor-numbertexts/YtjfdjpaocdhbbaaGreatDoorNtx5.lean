import Derived.Test.YtjfdjpaocdhbbaaGreatDoorNtx4
namespace Go.Proofs.YtjfdjpaocdhbbaaGreatDoor.mem
open Go.ChangeShapes Go.WideShapes Go.ChangeAt Go.RowKit
open ints (hide unhide)
set_option linter.unusedVariables false

theorem Big.lt {w : World} {a : Option Addr} {n c N : Nat} (h : Big w a n c N) : N < 2 ^ (32 * n) := by
  obtain ⟨zs, r, hw, hn, rfl⟩ := h
  rw [← r.len]; exact val_lt hw
theorem Big.pos {w : World} {a : Option Addr} {n c N : Nat} (h : Big w a n c N) (hn : n ≠ 0) : 0 < N := by
  rcases Nat.eq_zero_or_pos N with e | e
  · subst e; exact absurd h.zero hn
  · exact e
theorem pow_mod (s : Nat) (h : s < 32) : (2 : Int) ^ s % 4294967296 = ((2 ^ s : Nat) : Int) := by
  have e : (2 : Int) ^ s = ((2 ^ s : Nat) : Int) := by rw [Int.natCast_pow]; rfl
  have := pow_lt32 s h
  rw [e]
  generalize 2 ^ s = p at *
  omega
set_option maxRecDepth 4000 in
theorem up_any (a : Option Addr) (n c N k : Nat) (w : World) (h : Big w a n c N) (hn : n ≤ 1073741824) (hk : k ≤ 1073741824) :
    Calls Tryz.prog 73 #[.slice a n c, .int .i64 (k : Int)] w fun e w' => ∃ a2 n2 c2, e = .returned (.slice a2 n2 c2) ∧ Big w' a2 n2 c2 (N * 2 ^ k) ∧ Below w.heap.size w w' := by
  obtain ⟨i0, hi, hz0, hz1, hz2⟩ := info_parts infoU
  by_cases h0 : n = 0
  · have hN := h.nonzero h0
    subst h0 hN
    go_enter Tryz.func73, Tryz.ntmps73
    go_wp2
    go_ret
    exact ⟨none, 0, 0, rfl, by rw [Nat.zero_mul]; exact big_nil _, Below.refl _ _⟩
  · have hni : ((n : Int) == 0) = false := by simp; omega
    obtain ⟨q, hq⟩ : ∃ q, q = k / 32 := ⟨_, rfl⟩
    obtain ⟨s, hs⟩ : ∃ s, s = k % 32 := ⟨_, rfl⟩
    have hkd : (k : Int) / 32 = (q : Int) := by omega
    have hkr : (k : Int) % 32 = (s : Int) := by omega
    have hs1 : s < 32 := by omega
    have hq1 : q ≤ 1073741824 := by omega
    have HK := hide (show k = 32 * q + s by omega)
    clear hq hs
    go_enter Tryz.func73, Tryz.ntmps73
    go_wp2_with (refine wpList_make_full _ rfl _ _ 72 rfl w.heap.size 107 i0 (.int .u32 0) 1 Tryz.underlying72 hi hz0 hz1 .i64 .i64 _ _ q rfl rfl rfl rfl (by rw [hz2]; omega) (by unfold maxLen; omega) (Nat.le_refl _) ?_; intro w1 hown hgrow)
    have hp2 := pow_mod s hs1
    have hp3 := pow_lt32 s hs1
    have hN0 := h.pos h0
    have hNl := h.lt
    refine (times_big a n c N _ 0 w1 (h.below (belowNone hgrow)) (by rw [hp2]; omega) (by omega) (by omega)).mono ?_
    rintro e w2 ⟨a2, n2, c2, rfl, B2, b2⟩
    rw [hp2] at B2
    have hval : N * (((2 ^ s : Nat) : Int)).toNat + (0 : Int).toNat = N * 2 ^ s := by rw [Int.toNat_natCast]; rfl
    rw [hval] at B2
    have hn2 : n2 ≤ n + 1 := B2.len (by
      rw [pow32, Nat.mul_comm 4294967296]
      exact Nat.mul_lt_mul'' hNl hp3)
    have hNs : 0 < N * 2 ^ s := Nat.mul_pos hN0 (Nat.two_pow_pos s)
    obtain ⟨ys, r2, wy, ny, vy⟩ := B2
    have o2 := own_below hown b2
    rw [Nat.mul_one, show (Value.int IntKind.u32 0).cells = #[Value.int .u32 0] from rfl, toList_madeCells_one] at o2
    have hb2 := (belowNone hgrow).trans (b2.mono (belowNone hgrow).size)
    have hs2 := hb2.size
    have HF := hide (show Big w2 a2 n2 c2 (N * 2 ^ s) from ⟨ys, r2, wy, ny, vy⟩)
    have HR := hide (show val (List.replicate q 0 ++ ys) = N * 2 ^ k from by
      rw [val_append, val_noughts, vy, List.length_replicate, unhide HK, Nat.pow_add, Nat.zero_add, Nat.mul_assoc, Nat.mul_comm (2 ^ s)])
    have HNr := hide (show nrm (List.replicate q 0 ++ ys) from nrm_append ny (by
      intro e
      rw [e, val_nil] at vy
      omega))
    clear hown hgrow b2 vy hval hp2 hNl hNs
    go_wp2_with (at_builtin; refine wpList_append_row _ rfl _ _ 72 rfl w.heap.size 107 i0 .u32 4 Tryz.underlying72 hi hz0 hz1 hz2 _ _ _ rfl o2 _ _ _ ys rfl r2 (by unfold maxLen; omega) (by omega) (by omega) ?_; intro v3 w3 o3 b3)
    go_ret
    obtain ⟨a3, c3, rfl, r3⟩ := own_row (zs := List.replicate q 0 ++ ys) (k := .u32) (by rw [List.map_append, List.map_replicate]; exact o3)
    exact ⟨a3, q + n2, c3, rfl, ⟨_, r3, wds_append (wds_noughts q) wy, unhide HNr, unhide HR⟩, hb2.trans b3⟩
end Go.Proofs.YtjfdjpaocdhbbaaGreatDoor.mem
