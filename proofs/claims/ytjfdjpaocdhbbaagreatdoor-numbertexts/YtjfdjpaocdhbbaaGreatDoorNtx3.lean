import Derived.Test.YtjfdjpaocdhbbaaGreatDoorNtx1
import Derived.Test.YtjfdjpaocdhbbaaGreatDoorNtx2
namespace Go.Proofs.YtjfdjpaocdhbbaaGreatDoor.mem
open Go.ChangeShapes Go.WideShapes Go.ChangeAt Go.RowKit
open ints (hide unhide)
set_option linter.unusedVariables false

theorem infoU : (Tryz.prog.info? 107).map (fun i => (i.zero, i.size, i.bytes)) = some (some (.int .u32 0), 1, 4) := by kernel_rfl
theorem Row.take {k : IntKind} {w : World} {a : Option Addr} {n c : Nat} {zs : List Int} (h : Row k w a n c zs) {m : Nat} (hm : m ≤ n) : Row k w a m c (zs.take m) := by
  refine ⟨by rw [List.length_take, h.len, Nat.min_eq_left hm], Nat.le_trans hm h.le, h.nil, ?_⟩
  rcases h.at_ with h0 | ⟨b, off, ha, hlt, hc⟩
  · exact .inl (by omega)
  · exact .inr ⟨b, off, ha, hlt, fun i hi => by rw [hc i (by omega), getD_take hi]⟩
/-- A number of any size, as its words lie in a row. -/
def Big (w : World) (a : Option Addr) (n c N : Nat) : Prop := ∃ zs, Row .u32 w a n c zs ∧ wds zs ∧ nrm zs ∧ val zs = N
theorem Big.below {w w' : World} {a : Option Addr} {n c N : Nat} (h : Big w a n c N) (hb : Below w.heap.size w w') : Big w' a n c N := by
  obtain ⟨zs, r, rest⟩ := h
  exact ⟨zs, r.below hb, rest⟩
theorem Big.len {w : World} {a : Option Addr} {n c N : Nat} (h : Big w a n c N) {k : Nat} (hN : N < 2 ^ (32 * k)) : n ≤ k := by
  obtain ⟨zs, r, hw, hn, rfl⟩ := h
  rw [← r.len]
  exact len_le hn hw hN
theorem trim_any (a : Option Addr) (n c : Nat) (zs : List Int) (w : World) (h : Row .u32 w a n c zs) (hw : wds zs) (hn : n ≤ 4611686018427387904) :
    Calls Tryz.prog 104 #[.slice a n c] w fun e w' => ∃ m, e = .returned (.slice a m c) ∧ Big w' a m c (val zs) ∧ Below w.heap.size w w' := by
  have HL := hide h.len
  go_enter Tryz.func104, Tryz.ntmps104
  go_wp2
  go_loopw [0] (fun v wr => ∃ k : Nat, k ≤ n ∧ v = .slice a k c ∧ Hid (∀ i, k ≤ i → i < n → zs.getD i 0 = 0) ∧ Below w.heap.size w wr) (fun v _ => match v with | .slice _ k _ => k | _ => 0)
  case atStart => exact ⟨n, Nat.le_refl _, rfl, hide (fun i h1 h2 => by omega), Below.refl _ _⟩
  case round =>
    obtain ⟨k, hk, rfl, hz, hbel⟩ := hrel
    by_cases hlt : 0 < k
    · have ki : (0 : Int) < (k : Int) := by omega
      rcases h.at_ with h0 | ⟨b, off, rfl, hbw, hcell⟩
      · omega
      obtain ⟨q, rfl⟩ : ∃ q, k = q + 1 := ⟨k - 1, by omega⟩
      have c1 := (hbel.cell (p := ⟨b, off + q, none⟩) hbw).trans (hcell q (by omega))
      have HB := hide (h.take hk)
      have hle := h.le
      obtain ⟨y, hy⟩ : ∃ y, y = zs.getD q 0 := ⟨_, rfl⟩
      rw [← hy] at c1
      have Hy := hide hy
      clear hy hcell
      have qi : ((q + 1 : Nat) : Int) - 1 = (q : Int) := by omega
      have qi2 : (q : Int) ≤ ((q + 1 : Nat) : Int) := by omega
      cases e0 : (y == 0)
      · have HN := hide (show y ≠ 0 from by simpa using e0)
        go_wp2
        go_ret
        refine ⟨q + 1, rfl, ⟨zs.take (q + 1), (unhide HB).below hbel, wds_take hw _, .inr ?_, val_take (by rw [unhide HL]; omega) (by rw [unhide HL]; exact unhide hz)⟩, hbel⟩
        rw [List.length_take, unhide HL, Nat.min_eq_left hk, getD_take (by omega), Nat.add_sub_cancel, ← unhide Hy]
        exact unhide HN
      · have HN := hide (show y = 0 from by simpa using e0)
        go_wp2
        go_roundw
        case rel =>
          refine ⟨q, by omega, rfl, hide (fun i h1 h2 => ?_), hbel⟩
          by_cases hiq : i = q
          · subst hiq; rw [← unhide Hy]; exact unhide HN
          · exact unhide hz i (by omega) h2
        case measure => simp
    · have k0 : k = 0 := by omega
      subst k0
      go_wp2
      go_ret
      exact ⟨0, rfl, ⟨zs.take 0, (h.take (Nat.zero_le _)).below hbel, wds_take hw _, .inl (by simp), val_take (Nat.zero_le _) (by rw [unhide HL]; exact unhide hz)⟩, hbel⟩
theorem times_step {zs rs : List Int} {k C : Nat} {m d : Int} {y : Int} (hy : y = zs.getD k 0) (hy0 : 0 ≤ y) (hm0 : 0 ≤ m) (hl : rs.length = k) (h : val rs + C * 2 ^ (32 * k) = vT zs k * m.toNat + d.toNat) :
    val (rs ++ [(y * m + C) % 4294967296]) + ((y * m + C) / 4294967296).toNat * 2 ^ (32 * (k + 1)) = vT zs (k + 1) * m.toNat + d.toNat := by
  obtain ⟨Y, rfl⟩ : ∃ Y : Nat, y = Y := ⟨y.toNat, by omega⟩
  obtain ⟨M, rfl⟩ : ∃ M : Nat, m = M := ⟨m.toNat, by omega⟩
  rw [val_snoc, hl, pow32]
  simp only [vT]
  rw [← hy]
  have e1 : (((Y : Int) * (M : Int) + (C : Int)) % 4294967296).toNat = (Y * M + C) % 4294967296 := by
    rw [← Int.natCast_mul, ← Int.natCast_add]; omega
  have e2 : (((Y : Int) * (M : Int) + (C : Int)) / 4294967296).toNat = (Y * M + C) / 4294967296 := by
    rw [← Int.natCast_mul, ← Int.natCast_add]; omega
  rw [e1, e2]
  simp only [Int.toNat_natCast] at h ⊢
  have hdm := Nat.div_add_mod (Y * M + C) 4294967296
  generalize (Y * M + C) / 4294967296 = q at *
  generalize (Y * M + C) % 4294967296 = r at *
  generalize 2 ^ (32 * k) = p at *
  rw [Nat.add_mul, Nat.mul_assoc Y p M, Nat.mul_comm p M, ← Nat.mul_assoc Y M p]
  have e3 : val rs + r * p + q * (4294967296 * p) = val rs + (4294967296 * q + r) * p := by
    rw [Nat.add_mul, ← Nat.mul_assoc q, Nat.mul_comm q 4294967296]; omega
  rw [e3, hdm, Nat.add_mul]
  omega
theorem times_any (a : Option Addr) (n c : Nat) (zs : List Int) (m d : Int) (w : World) (h : Row .u32 w a n c zs) (hw : wds zs) (hm : 0 ≤ m ∧ m < 4294967296) (hd : 0 ≤ d ∧ d < 4294967296) (hn : n ≤ 1099511627776) :
    Calls Tryz.prog 72 #[.slice a n c, .int .u32 m, .int .u32 d] w fun e w' => ∃ a' n' c', e = .returned (.slice a' n' c') ∧ Big w' a' n' c' (val zs * m.toNat + d.toNat) ∧ Below w.heap.size w w' := by
  obtain ⟨i0, hi, hz0, hz1, hz2⟩ := info_parts infoU
  have HL := hide h.len
  obtain ⟨hm0, hm1⟩ := hm
  obtain ⟨hd0, hd1⟩ := hd
  go_enter Tryz.func72, Tryz.ntmps72
  go_wp2
  go_loopw [7, 8, 9] (fun r cv i wr => ∃ (k C : Nat) (rs : List Int), k ≤ n ∧ i = .int .i64 k ∧ cv = .int .u64 C ∧ C < 4294967296 ∧ wr.ownsRow w.heap.size 107 1 r k (rs.map (Value.int .u32)) ∧ Hid (wds rs ∧ rs.length = k ∧ val rs + C * 2 ^ (32 * k) = vT zs k * m.toNat + d.toNat) ∧ Below w.heap.size w wr) (fun _ _ i _ => n - (intOf i).toNat)
  case atStart => exact ⟨0, d.toNat, [], Nat.zero_le _, rfl, by go_num, by omega, World.ownsRow_nil _ _ _ _, hide ⟨wds_nil, rfl, by simp [val, vT]⟩, Below.refl _ _⟩
  case round =>
    obtain ⟨k, C, rs, hk, rfl, rfl, hC, hown, HV, hbel⟩ := hrel
    by_cases hlt : k < n
    · have ki : (k : Int) < (n : Int) := by omega
      rcases h.at_ with h0 | ⟨b, off, rfl, hbw, hcell⟩
      · omega
      have c1 := (hbel.cell (p := ⟨b, off + k, none⟩) hbw).trans (hcell k hlt)
      have hy := hw.at k
      obtain ⟨y, hye⟩ : ∃ y, y = zs.getD k 0 := ⟨_, rfl⟩
      rw [← hye] at c1 hy
      have Hy := hide hye
      obtain ⟨hy0, hy1⟩ := hy
      have hp0 : 0 ≤ y * m := Int.mul_nonneg hy0 hm0
      have hp1 : y * m ≤ 4294967295 * 4294967295 := Int.mul_le_mul (by omega) (by omega) hm0 (by omega)
      have hsz := hbel.size
      clear hye hcell
      go_wp2_with (at_builtin; go_loud (refine wpList_append_one _ rfl _ _ 72 rfl w.heap.size 107 i0 .u32 4 Tryz.underlying72 hi hz0 hz1 hz2 _ _ _ rfl hown _ rfl (by unfold maxLen; omega) (by omega) (by omega) ?_; intro v' wC hown' hbC))
      go_roundw
      case rel =>
        obtain ⟨v1, v2, v3⟩ := unhide HV
        refine ⟨k + 1, ((y * m + C) / 4294967296).toNat, rs ++ [(y * m + C) % 4294967296], by omega, by go_num, ?_, by omega, by rw [List.map_append]; exact hown', hide ⟨wds_snoc v1 (by omega), by simp [v2], times_step (unhide Hy) hy0 hm0 v2 v3⟩, hbel.trans hbC⟩
        rw [Int.toNat_of_nonneg (by omega)]
      case measure => simp [intOf]; omega
    · have ki : ¬ (k : Int) < (n : Int) := by omega
      have ek : k = n := by omega
      subst ek
      have hsz := hbel.size
      by_cases hc0 : 0 < C
      · have hci : (0 : Int) < (C : Int) := by omega
        go_wp2_with (at_builtin; refine wpList_append_one _ rfl _ _ 72 rfl w.heap.size 107 i0 .u32 4 Tryz.underlying72 hi hz0 hz1 hz2 _ _ _ rfl hown _ rfl (by unfold maxLen; omega) (by omega) (by omega) ?_; intro v' wC hown' hbC)
        obtain ⟨v1, v2, v3⟩ := unhide HV
        have HE := hide (show val (rs ++ [(C : Int)]) = val zs * m.toNat + d.toNat from by rw [val_snoc, v2, Int.toNat_natCast, v3]; unfold val; rw [unhide HL])
        have hw' := wds_snoc v1 (x := (C : Int)) (by omega)
        obtain ⟨aR, cR, rfl, rR⟩ := own_row (zs := rs ++ [(C : Int)]) (by rw [List.map_append]; exact hown')
        refine (trim_any aR (k + 1) cR _ wC rR hw' (by omega)).mono ?_
        rintro e w1 ⟨m1, rfl, B1, b1⟩
        rw [unhide HE] at B1
        have hbC := hbel.trans hbC
        clear v2 v3 HV hown hown'
        go_wp2
        go_ret
        exact ⟨aR, m1, cR, rfl, B1, hbC.trans (b1.mono hbC.size)⟩
      · have hci : ¬ (0 : Int) < (C : Int) := by omega
        obtain ⟨v1, v2, v3⟩ := unhide HV
        have HE := hide (show val rs = val zs * m.toNat + d.toNat from by rw [show C = 0 by omega] at v3; unfold val at *; rw [unhide HL]; omega)
        obtain ⟨aR, cR, rfl, rR⟩ := own_row hown
        clear v2 v3 HV hown
        go_wp2_with fail
        refine (trim_any aR k cR rs wr rR v1 (by omega)).mono ?_
        rintro e w1 ⟨m1, rfl, B1, b1⟩
        rw [unhide HE] at B1
        go_wp2
        go_ret
        exact ⟨aR, m1, cR, rfl, B1, hbel.trans (b1.mono hbel.size)⟩
theorem times_big (a : Option Addr) (n c N : Nat) (m d : Int) (w : World) (h : Big w a n c N) (hm : 0 ≤ m ∧ m < 4294967296) (hd : 0 ≤ d ∧ d < 4294967296) (hn : n ≤ 1099511627776) :
    Calls Tryz.prog 72 #[.slice a n c, .int .u32 m, .int .u32 d] w fun e w' => ∃ a' n' c', e = .returned (.slice a' n' c') ∧ Big w' a' n' c' (N * m.toNat + d.toNat) ∧ Below w.heap.size w w' := by
  obtain ⟨zs, r, hw, _, rfl⟩ := h
  exact times_any a n c zs m d w r hw hm hd hn
def cmpN (a b : Nat) : Int := if a < b then -1 else if b < a then 1 else 0
theorem cmpN_lt {a b : Nat} (h : a < b) : cmpN a b = -1 := by unfold cmpN; rw [if_pos h]
theorem cmpN_gt {a b : Nat} (h : b < a) : cmpN a b = 1 := by unfold cmpN; rw [if_neg (by omega), if_pos h]
theorem cmpN_eq {a b : Nat} (h : a = b) : cmpN a b = 0 := by unfold cmpN; rw [if_neg (by omega), if_neg (by omega)]
theorem cmpN_iff (a b : Nat) : (cmpN a b = -1 ↔ a < b) ∧ (cmpN a b = 1 ↔ b < a) ∧ (cmpN a b = 0 ↔ a = b) ∧ (0 ≤ cmpN a b ↔ b ≤ a) ∧ -1 ≤ cmpN a b ∧ cmpN a b ≤ 1 := by
  rcases Nat.lt_trichotomy a b with h | h | h
  · rw [cmpN_lt h]; omega
  · rw [cmpN_eq h]; omega
  · rw [cmpN_gt h]; omega
theorem order_any (a a' : Option Addr) (n c n' c' N N' : Nat) (w : World) (h : Big w a n c N) (h' : Big w a' n' c' N') (hn : n ≤ 1099511627776) (hn' : n' ≤ 1099511627776) :
    Calls Tryz.prog 74 #[.slice a n c, .slice a' n' c'] w fun e w' => e = .returned (.int .i64 (cmpN N N')) ∧ Below w.heap.size w w' := by
  obtain ⟨zs, r, hw, hnr, rfl⟩ := h
  obtain ⟨ys, r', hw', hnr', rfl⟩ := h'
  have HL := hide r.len
  have HL' := hide r'.len
  go_enter Tryz.func74, Tryz.ntmps74
  by_cases hl : n = n'
  · subst hl
    have hne : ((n : Int) != (n : Int)) = false := by simp
    go_wp2
    go_loopw [5] (fun i wr => ∃ k : Nat, k ≤ n ∧ i = .int .i64 ((k : Int) - 1) ∧ Hid (∀ j, k ≤ j → j < n → zs.getD j 0 = ys.getD j 0) ∧ Below w.heap.size w wr) (fun i _ => (intOf i + 1).toNat)
    case atStart => exact ⟨n, Nat.le_refl _, rfl, hide (fun j h1 h2 => by omega), Below.refl _ _⟩
    case round =>
      obtain ⟨k, hk, rfl, HE, hbel⟩ := hrel
      by_cases hlt : 0 < k
      · obtain ⟨q, rfl⟩ : ∃ q, k = q + 1 := ⟨k - 1, by omega⟩
        have e1 : ((q + 1 : Nat) : Int) - 1 = (q : Int) := by omega
        rw [e1]
        have qi : (0 : Int) ≤ (q : Int) := by omega
        have qi2 : (q : Int) < (n : Int) := by omega
        rcases r.at_ with h0 | ⟨b, off, rfl, hbw, hcell⟩
        · omega
        rcases r'.at_ with h0 | ⟨b', off', rfl, hbw', hcell'⟩
        · omega
        have c1 := (hbel.cell (p := ⟨b, off + q, none⟩) hbw).trans (hcell q (by omega))
        have c2 := (hbel.cell (p := ⟨b', off' + q, none⟩) hbw').trans (hcell' q (by omega))
        obtain ⟨x, hx⟩ : ∃ x, x = zs.getD q 0 := ⟨_, rfl⟩
        obtain ⟨y, hy⟩ : ∃ y, y = ys.getD q 0 := ⟨_, rfl⟩
        rw [← hx] at c1
        rw [← hy] at c2
        have Hx := hide hx
        have Hy := hide hy
        clear hx hy hcell hcell' e1
        rcases Int.lt_trichotomy x y with hxy | hxy | hxy
        · have HV := hide (show val zs < val ys from val_less hw hw' (by rw [unhide HL, unhide HL']) (i := q) (by rw [unhide HL]; omega) (by rw [← unhide Hx, ← unhide Hy]; exact hxy) (fun j h1 h2 => unhide HE j (by omega) (by rw [unhide HL] at h2; exact h2)))
          go_wp2
          go_quiet (fail)
          go_wp2
          go_ret
          exact ⟨by rw [cmpN_lt (unhide HV)]; rfl, below_drewN hbel _⟩
        · have HV := hide (show zs.getD q 0 = ys.getD q 0 from by rw [← unhide Hx, ← unhide Hy]; exact hxy)
          clear Hx Hy
          subst hxy
          go_wp2
          go_quiet (fail)
          go_wp2
          go_quiet (fail)
          go_wp2
          go_roundw
          case rel =>
            refine ⟨q, by omega, by go_num, hide (fun j h1 h2 => ?_), (by first | exact below_drewN hbel _ | exact below_drewN (below_drewN hbel _) _)⟩
            by_cases hj : j = q
            · subst hj; exact unhide HV
            · exact unhide HE j (by omega) h2
          case measure => first | (simp [intOf]; done) | (simp [intOf]; omega)
        · have HV := hide (show val ys < val zs from val_less hw' hw (by rw [unhide HL, unhide HL']) (i := q) (by rw [unhide HL']; omega) (by rw [← unhide Hx, ← unhide Hy]; exact hxy) (fun j h1 h2 => (unhide HE j (by omega) (by rw [unhide HL'] at h2; exact h2)).symm))
          go_wp2
          go_quiet (fail)
          go_wp2
          go_quiet (fail)
          go_wp2
          go_ret
          exact ⟨by rw [cmpN_gt (unhide HV)]; rfl, below_drewN (below_drewN hbel _) _⟩
      · have k0 : k = 0 := by omega
        subst k0
        have HV := hide (show val zs = val ys from val_eq (by rw [unhide HL, unhide HL']) (fun j hj => unhide HE j (by omega) (by rw [unhide HL] at hj; exact hj)))
        have e1 : ((0 : Nat) : Int) - 1 = -1 := by omega
        rw [e1]
        go_wp2
        go_ret
        exact ⟨by rw [cmpN_eq (unhide HV)]; rfl, hbel⟩
  · have hne : ((n : Int) != (n' : Int)) = true := by simp; omega
    by_cases hl2 : n < n'
    · have HV := hide (show val zs < val ys from val_shorter hw hw' hnr' (by rw [unhide HL, unhide HL']; exact hl2))
      have hi : (n : Int) < (n' : Int) := by omega
      go_wp2
      go_ret
      exact ⟨by rw [cmpN_lt (unhide HV)]; rfl, Below.refl _ _⟩
    · have HV := hide (show val ys < val zs from val_shorter hw' hw hnr (by rw [unhide HL, unhide HL']; omega))
      have hi : ¬ (n : Int) < (n' : Int) := by omega
      go_wp2
      go_ret
      exact ⟨by rw [cmpN_gt (unhide HV)]; rfl, Below.refl _ _⟩
end Go.Proofs.YtjfdjpaocdhbbaaGreatDoor.mem
