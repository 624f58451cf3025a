import Derived.Test.YtjfdjpaocdhbbaaGreatDoorNtx9
import Derived.OneCell
namespace Go.Proofs.YtjfdjpaocdhbbaaGreatDoor.mem
open Go.ChangeShapes Go.WideShapes Go.ChangeAt Go.RowKit
open ints (hide unhide)
set_option linter.unusedVariables false

def slLen (v : Value) : Nat := match v with | .slice _ m _ => m | _ => 0
theorem own_slLen {w : World} {base : Nat} {e : TypeId} {v : Value} {n : Nat} {xs : List Value} (h : w.ownsRow base e 1 v n xs) : slLen v = n := by
  obtain ⟨_, h2⟩ := h
  rcases h2 with ⟨rfl, rfl⟩ | ⟨g, cap, cur, rfl, _⟩
  · rfl
  · rfl
theorem own_shape {w : World} {base : Nat} {e : TypeId} {v : Value} {n : Nat} {xs : List Value} (h : w.ownsRow base e 1 v n xs) : ∃ a c, v = .slice a n c := by
  obtain ⟨_, h2⟩ := h
  rcases h2 with ⟨rfl, rfl⟩ | ⟨g, cap, cur, rfl, _⟩
  · exact ⟨_, _, rfl⟩
  · exact ⟨_, _, rfl⟩
/-- What Digits writes: n digits, and no fewer would do. -/
structure Dec10 (u n : Nat) : Prop where
  pos : 0 < n
  le : n ≤ 20
  lt : u < 10 ^ n
  low : n = 1 ∨ 10 ^ (n - 1) ≤ u
set_option maxHeartbeats 1000000 in
theorem digits_any (u : Nat) (w : World) (hu : u < 18446744073709551616) :
    Calls Tryz.prog 25 #[.int .u64 (u : Int)] w fun e w' => ∃ n, Dec10 u n ∧ e = .returned (.string (strOfNums (topD u n))) ∧ Below w.heap.size w w' := by
  obtain ⟨i0, hi, hz0, hz1, hz2⟩ := info_parts info8
  go_enter Tryz.func25, Tryz.ntmps25
  go_wp2
  go_loopw [0, 3] (fun x v wr => ∃ (k U : Nat), k ≤ 20 ∧ x = .int .u64 U ∧ U < 18446744073709551616 ∧ Hid (U = u / 10 ^ k ∧ (k ≤ 1 ∨ 10 ^ (k - 1) ≤ u) ∧ (k = 20 → U = 0)) ∧ wr.ownsRow w.heap.size 5 1 v k ((lowD u k).map (Value.int .u8)) ∧ Below w.heap.size w wr) (fun _ v _ => 20 - slLen v)
  case atStart => exact ⟨0, u, Nat.zero_le _, rfl, hu, hide ⟨by simp, .inl (by omega), by omega⟩, World.ownsRow_nil _ _ _ _, Below.refl _ _⟩
  case round =>
    obtain ⟨k, U, hk, rfl, hU, HV, hown, hbel⟩ := hrel
    obtain ⟨v1, v2, v3⟩ := unhide HV
    have hsz := hbel.size
    have HS := own_slLen hown
    by_cases hgo : 0 < U ∨ k = 0
    · have hk20 : k < 20 := by
        rcases Nat.lt_or_ge k 20 with h | h
        · exact h
        · have := v3 (by omega); omega
      have hm10 : U % 10 < 10 := Nat.mod_lt _ (by decide)
      have HN := hide (show Hid (U / 10 = u / 10 ^ (k + 1) ∧ (k + 1 ≤ 1 ∨ 10 ^ (k + 1 - 1) ≤ u) ∧ (k + 1 = 20 → U / 10 = 0)) from hide ⟨by rw [v1, Nat.div_div_eq_div_mul, ← Nat.pow_succ], (by
          rcases hgo with h | h
          · right
            rw [Nat.add_sub_cancel]
            rcases Nat.lt_or_ge u (10 ^ k) with h2 | h2
            · rw [Nat.div_eq_of_lt h2] at v1; omega
            · exact h2
          · left; omega), (by
          intro h20
          have : k = 19 := by omega
          subst this
          rw [v1]
          omega)⟩)
      have HD := hide (show 48 + ((u / 10 ^ k % 10 : Nat) : Int) = 48 + (U : Int) % 10 from by rw [← v1]; omega)
      clear v1 v2 v3 HV
      have hUi : (0 : Int) ≤ (U : Int) := by omega
      have hUj : (U : Int) < 18446744073709551616 := by omega
      by_cases hU0 : 0 < U
      · have hui : (0 : Int) < (U : Int) := by omega
        clear HS
        go_wp2_with (at_builtin; refine wpList_append_one _ rfl _ _ 55 rfl w.heap.size 5 i0 .u8 1 Tryz.underlying55 hi hz0 hz1 hz2 _ _ _ rfl hown _ rfl (by unfold maxLen; omega) (by omega) (by omega) ?_; intro v' wC hown' hbC)
        go_roundw
        case rel =>
          refine ⟨k + 1, U / 10, by omega, by go_num, by omega, unhide HN, ?_, hbel.trans hbC⟩
          rw [lowD_succ, unhide HD, List.map_append]
          exact hown'
        case measure => rw [own_slLen hown', own_slLen hown]; omega
      · have hui : ¬ (0 : Int) < (U : Int) := by omega
        have hk0 : k = 0 := by omega
        subst hk0
        clear HS
        obtain ⟨a3, c3, rfl⟩ := own_shape hown
        go_wp2_with (at_builtin; refine wpList_append_one _ rfl _ _ 55 rfl w.heap.size 5 i0 .u8 1 Tryz.underlying55 hi hz0 hz1 hz2 _ _ _ rfl hown _ rfl (by unfold maxLen; omega) (by omega) (by omega) ?_; intro v' wC hown' hbC)
        go_roundw
        case rel =>
          refine ⟨0 + 1, U / 10, by omega, by go_num, by omega, unhide HN, ?_, hbel.trans hbC⟩
          rw [lowD_succ, unhide HD, List.map_append]
          exact hown'
        case measure => rw [own_slLen hown', own_slLen hown]; omega
    · have hU0 : U = 0 := by omega
      have hk0 : 0 < k := by omega
      subst hU0
      have HDec := hide (show Dec10 u k from ⟨hk0, hk, (by
        rcases Nat.lt_or_ge u (10 ^ k) with h2 | h2
        · exact h2
        · have := Nat.div_pos h2 (Nat.pow_pos (by decide) : 0 < 10 ^ k); omega), (by rcases v2 with h | h; left; omega; right; exact h)⟩)
      obtain ⟨g, cap, rfl, hnc, hg, hgl, hcm⟩ := own_some hown hk0
      have hki : ((k : Int) == 0) = false := by simp; omega
      clear v1 v2 v3 HV HS
      go_wp2
      go_loopw [4] (fun x wr => ∃ q : Nat, q ≤ k / 2 ∧ x = .int .i64 q ∧ wr.ownsRow w.heap.size 5 1 (.slice (some ⟨g, 0, none⟩) k cap) k ((swp (lowD u k) q).map (Value.int .u8)) ∧ Below w.heap.size w wr) (fun x _ => k - (intOf x).toNat)
      case atStart => exact ⟨0, Nat.zero_le _, rfl, by rw [swp_zero]; exact hown, hbel⟩
      case round =>
        obtain ⟨q, hq, rfl, hoq, hbq⟩ := hrel
        clear hown hbel hsz hgl
        by_cases hlt : q < k / 2
        · have qi : (q : Int) < (k : Int) / 2 := by omega
          obtain ⟨J, hJ⟩ : ∃ J : Nat, (k : Int) - 1 - (q : Int) = (J : Int) := ⟨k - 1 - q, by omega⟩
          have hJk : J = k - 1 - q := by omega
          have hJi : (J : Int) < (k : Int) := by omega
          have qk : (q : Int) < (k : Int) := by omega
          have hsl := swp_len (lowD u k) q
          rw [lowD_len] at hsl
          have c1 : wr.cell? ⟨g, q, none⟩ = some (.int .u8 ((swp (lowD u k) q).getD q 0)) := by
            rw [hoq.cellAt q (by omega)]
            simp [List.getD, show q < (swp (lowD u k) q).length by omega]
          have c2 : wr.cell? ⟨g, J, none⟩ = some (.int .u8 ((swp (lowD u k) q).getD J 0)) := by
            rw [hoq.cellAt J (by omega)]
            simp [List.getD, show J < (swp (lowD u k) q).length by omega]
          have f1 := hoq.frozenAt q
          obtain ⟨X, hX⟩ : ∃ X, X = (swp (lowD u k) q).getD q 0 := ⟨_, rfl⟩
          obtain ⟨Y, hY⟩ : ∃ Y, Y = (swp (lowD u k) q).getD J 0 := ⟨_, rfl⟩
          rw [← hX] at c1
          rw [← hY] at c2
          have o1 := (hoq.stored q (.int .u8 Y)).1
          have c3 : ∃ v, (wr.setCell ⟨g, q, none⟩ (.int .u8 Y)).cell? ⟨g, J, none⟩ = some v := ⟨_, by rw [o1.cellAt J (by omega), List.getElem?_eq_getElem (by rw [o1.1]; omega)]⟩
          obtain ⟨u3, c3⟩ := c3
          have f2 := o1.frozenAt J
          have o2 := (o1.stored J (.int .u8 X)).1
          have b2 : Below w.heap.size w ((wr.setCell ⟨g, q, none⟩ (.int .u8 Y)).setCell ⟨g, J, none⟩ (.int .u8 X)) := (hbq.setCell hg _).setCell hg _
          rw [map_set_int, map_set_int] at o2
          have hst := swp_step (L := lowD u k) (k := q) (by rw [lowD_len]; omega)
          rw [lowD_len, ← hJk, ← hX, ← hY] at hst
          rw [hst] at o2
          have HO := hide o2
          have HB := hide b2
          clear hst hX hY o1 o2 b2 hoq hbq hJk hsl
          go_wp2
          go_roundw
          case rel => exact ⟨q + 1, by omega, by go_num, unhide HO, unhide HB⟩
          case measure => simp [intOf]; omega
        · have qi : ¬ (q : Int) < (k : Int) / 2 := by omega
          have eq : q = k / 2 := by omega
          subst eq
          rw [swp_top] at hoq
          have hcv := row_string (P := Tryz.prog) (row_at hoq) 55 9 5 Tryz.underlying55 Tryz.underlying5 Tryz.underlying9
          clear hoq
          obtain ⟨TD, hTD⟩ : ∃ TD, TD = topD u k := ⟨_, rfl⟩
          rw [← hTD] at hcv
          have HTD := hide hTD
          clear hTD
          go_wp2
          go_ret
          exact ⟨k, unhide HDec, by rw [← unhide HTD]; rfl, hbq⟩
end Go.Proofs.YtjfdjpaocdhbbaaGreatDoor.mem
