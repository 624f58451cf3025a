import Derived.Test.YtjfdjpaocdhbbaaGreatDoorNtx3
namespace Go.Proofs.YtjfdjpaocdhbbaaGreatDoor.mem
open Go.ChangeShapes Go.WideShapes Go.ChangeAt Go.RowKit
open ints (hide unhide)
set_option linter.unusedVariables false

theorem plus_step {zs ys rs : List Int} {k C : Nat} {x y : Int} (hx : x = zs.getD k 0) (hy : y = ys.getD k 0) (hx0 : 0 ≤ x) (hy0 : 0 ≤ y) (hl : rs.length = k) (h : val rs + C * 2 ^ (32 * k) = vT zs k + vT ys k) {X : Int} (hX : X = C + x + y) :
    val (rs ++ [X % 4294967296]) + (X / 4294967296).toNat * 2 ^ (32 * (k + 1)) = vT zs (k + 1) + vT ys (k + 1) := by
  rw [val_snoc, hl, pow32]
  simp only [vT]
  rw [← hx, ← hy]
  have e0 : X.toNat = C + x.toNat + y.toNat := by omega
  have e1 : (X % 4294967296).toNat = X.toNat % 4294967296 := by omega
  have e2 : (X / 4294967296).toNat = X.toNat / 4294967296 := by omega
  rw [e1, e2]
  have hdm := Nat.div_add_mod X.toNat 4294967296
  generalize X.toNat / 4294967296 = q at *
  generalize X.toNat % 4294967296 = r at *
  generalize 2 ^ (32 * k) = p at *
  have e3 : val rs + r * p + q * (4294967296 * p) = val rs + (4294967296 * q + r) * p := by
    rw [Nat.add_mul, ← Nat.mul_assoc q, Nat.mul_comm q 4294967296]; omega
  rw [e3, hdm, e0, Nat.add_mul, Nat.add_mul]
  omega
set_option maxHeartbeats 2000000 in
theorem plus_any (a a' : Option Addr) (n c n' c' N N' : Nat) (w : World) (h : Big w a n c N) (h' : Big w a' n' c' N') (hn : n ≤ 1099511627776) (hn' : n' ≤ 1099511627776) :
    Calls Tryz.prog 103 #[.slice a n c, .slice a' n' c'] w fun e w' => ∃ a2 n2 c2, e = .returned (.slice a2 n2 c2) ∧ Big w' a2 n2 c2 (N + N') ∧ Below w.heap.size w w' := by
  obtain ⟨zs, r, hw, hnr, rfl⟩ := h
  obtain ⟨ys, r', hw', hnr', rfl⟩ := h'
  obtain ⟨i0, hi, hz0, hz1, hz2⟩ := info_parts infoU
  have HL := hide r.len
  have HL' := hide r'.len
  obtain ⟨M, hM⟩ : ∃ M, M = max n n' := ⟨_, rfl⟩
  have hM1 : n ≤ M := by omega
  have hM2 : n' ≤ M := by omega
  have hM3 : M ≤ 1099511627776 := by omega
  clear hM
  go_enter Tryz.func103, Tryz.ntmps103
  go_wp2
  go_loopw [5, 6, 7] (fun r cv i wr => ∃ (k C : Nat) (rs : List Int), k ≤ M + 1 ∧ i = .int .i64 k ∧ cv = .int .u64 C ∧ C ≤ 1 ∧ (k = M + 1 → C = 0) ∧ wr.ownsRow w.heap.size 107 1 r k (rs.map (Value.int .u32)) ∧ Hid (wds rs ∧ rs.length = k ∧ val rs + C * 2 ^ (32 * k) = vT zs k + vT ys k) ∧ Below w.heap.size w wr) (fun _ _ i _ => M + 1 - (intOf i).toNat)
  case atStart => exact ⟨0, 0, [], Nat.zero_le _, rfl, rfl, by omega, fun _ => rfl, World.ownsRow_nil _ _ _ _, hide ⟨wds_nil, rfl, by simp [val, vT]⟩, Below.refl _ _⟩
  case round =>
    obtain ⟨k, C, rs, hk, rfl, rfl, hC, hC0, hown, HV, hbel⟩ := hrel
    have hxb := hw.at k
    have hyb := hw'.at k
    have hsz := hbel.size
    by_cases hx : k < n
    · have xi : (k : Int) < (n : Int) := by omega
      rcases r.at_ with h0 | ⟨b, off, rfl, hbw, hcell⟩
      · omega
      have c1 := (hbel.cell (p := ⟨b, off + k, none⟩) hbw).trans (hcell k hx)
      obtain ⟨x, hxe⟩ : ∃ x, x = zs.getD k 0 := ⟨_, rfl⟩
      rw [← hxe] at c1 hxb
      have Hx := hide hxe
      obtain ⟨hx0, hx1⟩ := hxb
      clear hxe hcell
      by_cases hy : k < n'
      · have yi : (k : Int) < (n' : Int) := by omega
        rcases r'.at_ with h0 | ⟨b', off', rfl, hbw', hcell'⟩
        · omega
        have c2 := (hbel.cell (p := ⟨b', off' + k, none⟩) hbw').trans (hcell' k hy)
        obtain ⟨y, hye⟩ : ∃ y, y = ys.getD k 0 := ⟨_, rfl⟩
        rw [← hye] at c2 hyb
        have Hy := hide hye
        obtain ⟨hy0, hy1⟩ := hyb
        clear hye hcell'
        go_wp2_with (at_builtin; refine wpList_append_one _ rfl _ _ 72 rfl w.heap.size 107 i0 .u32 4 Tryz.underlying72 hi hz0 hz1 hz2 _ _ _ rfl hown _ rfl (by unfold maxLen; omega) (by omega) (by omega) ?_; intro v' wC hown' hbC)
        go_roundw
        case rel =>
          obtain ⟨v1, v2, v3⟩ := unhide HV
          refine ⟨k + 1, (((C : Int) + x + y) / 4294967296).toNat, rs ++ [((C : Int) + x + y) % 4294967296], by omega, by go_num, ?_, by omega, by omega, by rw [List.map_append]; exact hown', hide ⟨wds_snoc v1 (by omega), by simp [v2], plus_step (unhide Hx) (unhide Hy) hx0 hy0 v2 v3 (by omega)⟩, hbel.trans hbC⟩
          rw [Int.toNat_of_nonneg (by omega)]
        case measure => simp [intOf]; omega
      · have yi : ¬ (k : Int) < (n' : Int) := by omega
        have Hy := hide (show (0 : Int) = ys.getD k 0 from (getD_out (by rw [unhide HL']; omega)).symm)
        go_wp2_with (at_builtin; refine wpList_append_one _ rfl _ _ 72 rfl w.heap.size 107 i0 .u32 4 Tryz.underlying72 hi hz0 hz1 hz2 _ _ _ rfl hown _ rfl (by unfold maxLen; omega) (by omega) (by omega) ?_; intro v' wC hown' hbC)
        go_roundw
        case rel =>
          obtain ⟨v1, v2, v3⟩ := unhide HV
          refine ⟨k + 1, (((C : Int) + x) / 4294967296).toNat, rs ++ [((C : Int) + x) % 4294967296], by omega, by go_num, ?_, by omega, by omega, by rw [List.map_append]; exact hown', hide ⟨wds_snoc v1 (by omega), by simp [v2], plus_step (unhide Hx) (unhide Hy) hx0 (by omega) v2 v3 (by omega)⟩, hbel.trans hbC⟩
          rw [Int.toNat_of_nonneg (by omega)]
        case measure => simp [intOf]; omega
    · have xi : ¬ (k : Int) < (n : Int) := by omega
      have Hx := hide (show (0 : Int) = zs.getD k 0 from (getD_out (by rw [unhide HL]; omega)).symm)
      by_cases hy : k < n'
      · have yi : (k : Int) < (n' : Int) := by omega
        rcases r'.at_ with h0 | ⟨b', off', rfl, hbw', hcell'⟩
        · omega
        have c2 := (hbel.cell (p := ⟨b', off' + k, none⟩) hbw').trans (hcell' k hy)
        obtain ⟨y, hye⟩ : ∃ y, y = ys.getD k 0 := ⟨_, rfl⟩
        rw [← hye] at c2 hyb
        have Hy := hide hye
        obtain ⟨hy0, hy1⟩ := hyb
        clear hye hcell'
        go_wp2_with (at_builtin; refine wpList_append_one _ rfl _ _ 72 rfl w.heap.size 107 i0 .u32 4 Tryz.underlying72 hi hz0 hz1 hz2 _ _ _ rfl hown _ rfl (by unfold maxLen; omega) (by omega) (by omega) ?_; intro v' wC hown' hbC)
        go_roundw
        case rel =>
          obtain ⟨v1, v2, v3⟩ := unhide HV
          refine ⟨k + 1, (((C : Int) + y) / 4294967296).toNat, rs ++ [((C : Int) + y) % 4294967296], by omega, by go_num, ?_, by omega, by omega, by rw [List.map_append]; exact hown', hide ⟨wds_snoc v1 (by omega), by simp [v2], plus_step (unhide Hx) (unhide Hy) (by omega) hy0 v2 v3 (by omega)⟩, hbel.trans hbC⟩
          rw [Int.toNat_of_nonneg (by omega)]
        case measure => simp [intOf]; omega
      · have yi : ¬ (k : Int) < (n' : Int) := by omega
        have Hy := hide (show (0 : Int) = ys.getD k 0 from (getD_out (by rw [unhide HL']; omega)).symm)
        by_cases hc : 0 < C
        · have ci : (0 : Int) < (C : Int) := by omega
          have hkM : k ≤ M := by omega
          go_wp2_with (at_builtin; refine wpList_append_one _ rfl _ _ 72 rfl w.heap.size 107 i0 .u32 4 Tryz.underlying72 hi hz0 hz1 hz2 _ _ _ rfl hown _ rfl (by unfold maxLen; omega) (by omega) (by omega) ?_; intro v' wC hown' hbC)
          go_roundw
          case rel =>
            obtain ⟨v1, v2, v3⟩ := unhide HV
            refine ⟨k + 1, ((C : Int) / 4294967296).toNat, rs ++ [(C : Int) % 4294967296], by omega, by go_num, ?_, by omega, by omega, by rw [List.map_append, show (C : Int) % 4294967296 = (C : Int) by omega]; exact hown', hide ⟨wds_snoc v1 (by omega), by simp [v2], plus_step (unhide Hx) (unhide Hy) (by omega) (by omega) v2 v3 (by omega)⟩, hbel.trans hbC⟩
            rw [Int.toNat_of_nonneg (by omega)]
          case measure => simp [intOf]; omega
        · have ci : ¬ (0 : Int) < (C : Int) := by omega
          obtain ⟨v1, v2, v3⟩ := unhide HV
          have HE := hide (show val rs = val zs + val ys from by
            rw [show C = 0 by omega, vT_ge (by rw [unhide HL]; omega), vT_ge (by rw [unhide HL']; omega)] at v3
            omega)
          obtain ⟨aR, cR, rfl, rR⟩ := own_row hown
          clear v2 v3 HV hown Hx Hy
          go_wp2_with fail
          refine (trim_any aR k cR rs wr rR v1 (by omega)).mono ?_
          rintro e w1 ⟨m1, rfl, B1, b1⟩
          rw [unhide HE] at B1
          go_wp2
          go_ret
          exact ⟨aR, m1, cR, rfl, B1, hbel.trans (b1.mono hbel.size)⟩
theorem Big.zero {w : World} {a : Option Addr} {n c : Nat} (h : Big w a n c 0) : n = 0 := by
  obtain ⟨zs, r, hw, hn, hv⟩ := h
  have := val_zero hn hw hv
  rw [← r.len, this]; rfl
theorem Big.nonzero {w : World} {a : Option Addr} {n c N : Nat} (h : Big w a n c N) (hn : n = 0) : N = 0 := by
  obtain ⟨zs, r, hw, _, rfl⟩ := h
  have : zs = [] := List.eq_nil_of_length_eq_zero (by rw [r.len, hn])
  rw [this]; rfl
theorem big_nil (w : World) : Big w none 0 0 0 := ⟨[], ⟨rfl, Nat.le_refl _, fun _ => rfl, .inl rfl⟩, wds_nil, .inl rfl, rfl⟩
theorem pow_lt32 (k : Nat) (h : k < 32) : 2 ^ k < 4294967296 := by
  have : 2 ^ k < 2 ^ 32 := (Nat.pow_lt_pow_iff_right (by decide)).2 h
  simpa using this
end Go.Proofs.YtjfdjpaocdhbbaaGreatDoor.mem
