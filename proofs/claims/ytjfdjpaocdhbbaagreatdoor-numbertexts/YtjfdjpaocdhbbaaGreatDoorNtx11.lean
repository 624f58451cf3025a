import Derived.Test.YtjfdjpaocdhbbaaGreatDoorNtx10
import Derived.Test.YtjfdjpaocdhbbaaGreatDoorNtx6
namespace Go.Proofs.YtjfdjpaocdhbbaaGreatDoor.mem
open Go.ChangeShapes Go.WideShapes Go.ChangeAt Go.RowKit
open ints (hide unhide)
set_option linter.unusedVariables false

def signL (n : Int) : List Int := if n < 0 then [45] else []
theorem neg_wrap (n : Int) (h0 : -9223372036854775808 ≤ n) (h1 : n < 0) : IntKind.u64.wrap (-IntKind.u64.wrap n) = -n := by
  simp only [IntKind.wrap, IntKind.bits, IntKind.signed]
  simp
  omega
theorem str_cat (zs ys : List Int) : strOfNums (zs ++ ys) = strOfNums zs ++ strOfNums ys := by
  unfold strOfNums
  apply ByteArray.ext
  simp
theorem wholeText_any (n : Int) (w : World) (h0 : -9223372036854775808 ≤ n) (h1 : n ≤ 9223372036854775807) :
    Calls Tryz.prog 11 #[.int .i64 n] w fun e w' => ∃ k, Dec10 n.natAbs k ∧ e = .returned (.string (strOfNums (signL n ++ topD n.natAbs k))) ∧ Below w.heap.size w w' := by
  by_cases hn : n < 0
  · have D := hide (digits_any n.natAbs w (by omega))
    have e1 : ((n.natAbs : Nat) : Int) = -n := by omega
    rw [e1] at D
    have HS := hide (show signL n = [45] from by unfold signL; rw [if_pos hn])
    generalize n.natAbs = N at *
    go_enter Tryz.func11, Tryz.ntmps11
    go_wp2_with fail
    rw [neg_wrap n h0 hn]
    refine (unhide D).mono ?_
    rintro e w1 ⟨k, hk, rfl, b1⟩
    have HK := hide hk
    have hsz : ¬ 9223372036854775807 < 1 + (strOfNums (topD N k)).size := by rw [strOfNums_size, topD_len]; have := hk.le; omega
    clear hk D e1
    obtain ⟨TD, hTD⟩ : ∃ TD, TD = topD N k := ⟨_, rfl⟩
    rw [← hTD] at hsz ⊢
    have HTD := hide hTD
    clear hTD
    go_wp2
    go_ret
    exact ⟨k, unhide HK, by rw [unhide HS, ← unhide HTD, str_cat]; rfl, b1⟩
  · have D := hide (digits_any n.natAbs w (by omega))
    have e1 : ((n.natAbs : Nat) : Int) = n := by omega
    rw [e1] at D
    have HS := hide (show signL n = [] from by unfold signL; rw [if_neg hn])
    generalize n.natAbs = N at *
    go_enter Tryz.func11, Tryz.ntmps11
    go_wp2_with fail
    refine (unhide D).mono ?_
    rintro e w1 ⟨k, hk, rfl, b1⟩
    have HK := hide hk
    clear hk D e1
    obtain ⟨TD, hTD⟩ : ∃ TD, TD = topD N k := ⟨_, rfl⟩
    rw [← hTD]
    have HTD := hide hTD
    clear hTD
    go_wp2
    go_ret
    exact ⟨k, unhide HK, by rw [unhide HS, ← unhide HTD]; rfl, b1⟩
theorem pow10_le {k : Nat} (h : k ≤ 9) : 10 ^ k ≤ 1000000000 := by
  have : 10 ^ k ≤ 10 ^ 9 := Nat.pow_le_pow_right (by decide) h
  simpa using this
theorem big_one_nil {w : World} : Big w none 0 0 0 := big_nil w
set_option maxHeartbeats 2000000 in
theorem ofDigits_any (s : ByteArray) (w : World) (hs : s.size ≤ 100000) (hd : dig (bytesZ s)) :
    Calls Tryz.prog 70 #[.string s] w fun e w' => ∃ a n c, e = .returned (.slice a n c) ∧ Big w' a n c (dT (bytesZ s) s.size) ∧ Below w.heap.size w w' := by
  go_enter Tryz.func70, Tryz.ntmps70
  go_wp2
  go_loopw [3, 4] (fun v x wr => ∃ (i : Nat) (a : Option Addr) (n c : Nat), i ≤ s.size + 8 ∧ x = .int .i64 i ∧ v = .slice a n c ∧ n ≤ i ∧ Big wr a n c (dT (bytesZ s) (min i s.size)) ∧ Below w.heap.size w wr) (fun _ x _ => s.size + 8 - (intOf x).toNat)
  case atStart => exact ⟨0, none, 0, 0, by omega, rfl, rfl, by omega, by simp only [Nat.zero_min, dT]; exact big_nil _, Below.refl _ _⟩
  case round =>
    obtain ⟨i, a, n, c, hi, rfl, rfl, hni, hB, hbel⟩ := hrel
    by_cases hlt : i < s.size
    · have ii : (i : Int) < (s.size : Int) := by omega
      rw [Nat.min_eq_left (by omega)] at hB
      go_wp2
      go_loopw [5, 6, 7] (fun v m j wr => ∃ (t V M : Nat), t ≤ 9 ∧ i + t ≤ s.size ∧ j = .int .i64 ((i + t : Nat) : Int) ∧ v = .int .u32 V ∧ m = .int .u32 M ∧ V < M ∧ M ≤ 1000000000 ∧ Hid (M = 10 ^ t ∧ dT (bytesZ s) (i + t) = dT (bytesZ s) i * M + V) ∧ Big wr a n c (dT (bytesZ s) i) ∧ Below w.heap.size w wr) (fun _ _ j _ => s.size - (intOf j).toNat)
      case atStart => exact ⟨0, 0, 1, by omega, by omega, rfl, rfl, rfl, by omega, by omega, hide ⟨rfl, by simp⟩, hB, hbel⟩
      case round =>
        obtain ⟨t, V, M, ht, hts, rfl, rfl, rfl, hVM, hM, HV, hBr, hbr⟩ := hrel
        clear hB hbel
        have hcast : ((i + t : Nat) : Int) = (i : Int) + (t : Int) := by omega
        rw [hcast]
        by_cases hgo : i + t < s.size ∧ t < 9
        · obtain ⟨hg1, hg2⟩ := hgo
          have j1 : (i : Int) + (t : Int) < (s.size : Int) := by omega
          have j2 : (i : Int) + (t : Int) < (i : Int) + 9 := by omega
          have HZ := hide (bytesZ_at s (i + t) hg1)
          have hdd := hd _ (getD_mem (by rw [bytesZ_len]; exact hg1) : (bytesZ s).getD (i + t) 0 ∈ bytesZ s)
          rw [unhide HZ] at hdd
          obtain ⟨p1, p2⟩ := unhide HV
          have hM8 : M ≤ 100000000 := by
            rw [p1]
            have : 10 ^ t ≤ 10 ^ 8 := Nat.pow_le_pow_right (by decide) (by omega)
            simpa using this
          have HN := hide (show M * 10 = 10 ^ (t + 1) ∧ dT (bytesZ s) (i + (t + 1)) = dT (bytesZ s) i * (M * 10) + (10 * V + ((s[i + t]'hg1).toNat - 48)) from ⟨by rw [p1, Nat.pow_succ], by
            rw [← Nat.add_assoc]
            simp only [dT]
            rw [unhide HZ, p2, ← Nat.mul_assoc]
            omega⟩)
          clear p1 p2 HV HZ
          go_wp2
          go_roundw
          case rel =>
            refine ⟨t + 1, 10 * V + ((s[i + t]'hg1).toNat - 48), M * 10, by omega, by omega, by go_num, ?_, ?_, by omega, by omega, hide (unhide HN), hBr, hbr⟩
            · congr 1; omega
            · congr 1 <;> omega
          case measure => simp [intOf]; omega
        · have HT := hide (show min (i + 9) s.size = i + t by omega)
          obtain ⟨p1, p2⟩ := unhide HV
          have HN := hide (show dT (bytesZ s) i * (M : Int).toNat + (V : Int).toNat = dT (bytesZ s) (min (i + 9) s.size) from by rw [unhide HT, p2]; simp)
          clear p1 p2 HV
          have TB := hide (times_big a n c _ (M : Int) (V : Int) wr hBr (by omega) (by omega) (by omega))
          rw [unhide HN] at TB
          by_cases hs9 : i + t < s.size
          · have j1 : (i : Int) + (t : Int) < (s.size : Int) := by omega
            have j2 : ¬ (i : Int) + (t : Int) < (i : Int) + 9 := by omega
            go_wp2_with fail
            refine (unhide TB).mono ?_
            rintro e w2 ⟨a2, n2, c2, rfl, B2, b2⟩
            have hl2 := times_len hBr (M := M) (D := V) (by rw [← unhide HN] at B2; simpa using B2) (by omega) (by omega)
            clear TB hBr
            have hb2 := hbr.trans (b2.mono hbr.size)
            go_wp2
            go_roundw
            case rel => exact ⟨i + 9, a2, n2, c2, by omega, by go_num, rfl, by omega, B2, hb2⟩
            case measure => simp [intOf]; omega
          · have j1 : ¬ (i : Int) + (t : Int) < (s.size : Int) := by omega
            go_wp2_with fail
            refine (unhide TB).mono ?_
            rintro e w2 ⟨a2, n2, c2, rfl, B2, b2⟩
            have hl2 := times_len hBr (M := M) (D := V) (by rw [← unhide HN] at B2; simpa using B2) (by omega) (by omega)
            clear TB hBr
            have hb2 := hbr.trans (b2.mono hbr.size)
            go_wp2
            go_roundw
            case rel => exact ⟨i + 9, a2, n2, c2, by omega, by go_num, rfl, by omega, B2, hb2⟩
            case measure => simp [intOf]; omega
    · have ii : ¬ (i : Int) < (s.size : Int) := by omega
      rw [Nat.min_eq_right (by omega)] at hB
      go_wp2
      go_ret
      exact ⟨a, n, c, rfl, hB, hbel⟩
end Go.Proofs.YtjfdjpaocdhbbaaGreatDoor.mem
