import Derived.Test.YtjfdjpaocdhbbaaGreatDoorNag1
namespace Go.Proofs.YtjfdjpaocdhbbaaGreatDoor.fto
open Go.ChangeShapes Go.WideShapes Go.ChangeAt Go.RowKit
open mem Go.Sort
open ints (hide unhide)
set_option linter.unusedVariables false
theorem dz_19 (u : Nat) (h : u ≤ 9223372036854775808) : (dz u).length ≤ 19 := by
  have e : (dz u).length = Lib.nDigits u := by unfold dz; rw [List.length_map, Lib.decDigits_length]
  rw [e]
  rcases Nat.eq_zero_or_pos u with h0 | h0
  · subst h0; rw [Lib.nDigits_small (by decide)]; decide
  · obtain ⟨a1, a2, a3⟩ := nd_pow u h0
    rcases Nat.lt_or_ge 19 (Lib.nDigits u) with g | g
    · exfalso
      have : 10 ^ 19 ≤ 10 ^ (Lib.nDigits u - 1) := Nat.pow_le_pow_right (by decide) (by omega)
      have e19 : (10 : Nat) ^ 19 = 10000000000000000000 := rfl
      omega
    · exact g
theorem rOf_pos (n : Int) (h : n.natAbs ≠ 0) : 0 < rOf n := by
  unfold rOf
  rw [if_neg h]
  have h1 : 0 < loN n.natAbs := by
    unfold loN
    have := e22_eq
    have h2 : 1022 * b52 ≤ (n.natAbs.log2 + e22) * b52 := Nat.mul_le_mul_right _ (by omega)
    have h3 : 0 < 1022 * b52 := by decide
    exact Nat.lt_of_lt_of_le h3 (Nat.le_trans h2 (Nat.le_add_right _ _))
  have : loN n.natAbs ≤ roundR (n.natAbs * k74) 1 (loN n.natAbs) := by unfold roundR; split <;> omega
  omega
/-- a whole number's text with a point and a nought behind it reads as the number's float -/
theorem rd_dot (n : Int) (h0 : -9223372036854775808 ≤ n) (h1 : n ≤ 9223372036854775807) : RdF (fOf n) (itB n ++ ⟨#[46, 48]⟩) := by
  have e46 : (⟨#[46, 48]⟩ : ByteArray) = strOfNums [46, 48] := rfl
  rw [itB_itZ, e46, str_app]
  by_cases hn : n = 0
  · subst hn
    have := read_nought false
    have e1 : itZ 0 ++ [46, 48] = sgL false ++ [48, 46, 48] := by
      unfold itZ
      rw [show (0 : Int).natAbs = 0 from rfl, dz_small (by decide)]
      rfl
    rw [e1]
    exact this
  · have hab : n.natAbs ≠ 0 := by omega
    have hf := fOf_word n (by omega)
    have hl := rOf_lt n (by omega)
    have h48 : Dg [48] := fun z hz => by simp at hz; omega
    have hfst : ∀ r, dz n.natAbs ≠ 48 :: r := fun r h => hab (dz_first _ r h).1
    have h19 := dz_19 n.natAbs (by omega)
    have hdn := dz_ne n.natAbs
    have htr : trm (dz n.natAbs ++ [48]) = dz n.natAbs ++ [48] := by
      refine trm_of (fun r h => ?_)
      cases hd : dz n.natAbs with
      | nil => exact hdn hd
      | cons a l =>
        rw [hd, List.cons_append] at h
        exact hfst l (by rw [hd, (List.cons.inj h).1])
    have hlp : 0 < (dz n.natAbs).length := List.length_pos_iff.2 hdn
    have hpw : pwr (dz n.natAbs) [48] none = (dz n.natAbs).length := by
      unfold pwr
      rw [htr]
      simp only [exV, List.length_append, List.length_singleton]
      omega
    have hv : dv (dz n.natAbs ++ [48]) = n.natAbs * 10 ^ 1 := by
      rw [dv_app, dz_val, dv_cons]
      simp [dv]
    have hR : Rd (dv (trm (dz n.natAbs ++ [48]))) (pwr (dz n.natAbs) [48] none - (trm (dz n.natAbs ++ [48])).length) (rOf n) := by
      rw [htr, hpw, hv, List.length_append, rd_scale]
      have e : ((dz n.natAbs).length : Int) - (((dz n.natAbs).length + [(48 : Int)].length : Nat) : Int) + ((1 : Nat) : Int) = 0 := by simp; omega
      rw [e]
      unfold Rd
      have e1 : (10 : Nat) ^ (0 : Int).toNat = 1 := rfl
      have e2 : (10 : Nat) ^ (-(0 : Int)).toNat = 1 := rfl
      rw [e1, e2, Nat.mul_one]
      refine (round_iff (by decide) (rOf_pos n hab) (loN_lo hab)).1 ?_
      unfold rOf
      rw [if_neg hab]
    have := read_text (decide (n < 0)) (dz n.natAbs) [48] none (rOf n) (dz_dg _) hdn (fun r h => (dz_first _ r h).2) h48 trivial trivial (by omega) (by simp) (by simp) (by rw [htr]; simp) (by
      rw [htr]
      intro z hz
      rw [List.drop_append, List.drop_eq_nil_of_le (by omega), List.nil_append] at hz
      simpa using List.mem_of_mem_drop hz) hR (rOf_pos n hab) hl
    rw [hf]
    have hws : Ieee.double.word (decide (n < 0)) (rOf n) = (decide (n < 0)).toNat * 9223372036854775808 + rOf n := by
      rw [word_S (decide (n < 0)) (rOf n) _ rfl]
      by_cases h : n < 0 <;> simp [h]
    rw [hws]
    have e3 : itZ n ++ [46, 48] = sgL (decide (n < 0)) ++ (dz n.natAbs ++ (frL [48] ++ exL none)) := by simp [itZ, frL, exL]
    rw [e3]
    exact this
/-- a whole float comes back -/
theorem back_whole (s : Bool) (r : Nat) (h : okW s r = true) : -9223372036854775808 ≤ wholeV s r ∧ wholeV s r ≤ 9223372036854775807 ∧ jst (wholeV s r) = true ∧ (FloatKind.f64.format.order (fOf (wholeV s r)) (Ieee.double.word s r) != some Ordering.eq) = false := by
  have h' := h
  unfold okW at h'
  obtain ⟨h1, h2, h3⟩ := of_decide_eq_true h'
  obtain ⟨m, hm⟩ : ∃ m, m = vR r / k74 := ⟨_, rfl⟩
  have hv : vR r = m * k74 := by
    have := Nat.div_add_mod (vR r) k74
    rw [h2, Nat.add_zero, ← hm] at this
    rw [← this, Nat.mul_comm]
  have hk : wholeV s r = if s then -(m : Int) else (m : Int) := by unfold wholeV valW; rw [if_pos h, ← hm]
  rw [← hm] at h3
  by_cases hm0 : m = 0
  · have hr0 : r = 0 := vR_inj (by rw [hv, hm0, Nat.zero_mul]; rfl)
    subst hr0
    have hk0 : wholeV s 0 = 0 := by rw [hk, hm0]; cases s <;> rfl
    rw [hk0]
    refine ⟨by decide, by decide, by decide +kernel, ?_⟩
    cases s <;> decide +kernel
  · have hab : (wholeV s r).natAbs = m := by rw [hk]; cases s <;> simp
    have hneg : decide (wholeV s r < 0) = s := by
      rw [hk]
      cases s
      · simp
      · simp; omega
    have hlo : Lo (m * k74) 1 r := by
      unfold Lo
      rw [Nat.one_mul, Nat.one_mul, ← hv]
      exact ⟨Nat.le_refl _, vR_mono (by omega)⟩
    have hro : rOf (wholeV s r) = r := by
      unfold rOf
      rw [hab, if_neg hm0, (loN_lo hm0).unique hlo, round_exact hv.symm]
    have hb : -9223372036854775808 ≤ wholeV s r ∧ wholeV s r ≤ 9223372036854775807 := by
      rw [hk]
      cases s
      · simp at h3 ⊢; omega
      · simp at h3 ⊢; omega
    have hfo : fOf (wholeV s r) = Ieee.double.word s r := by rw [fOf_word _ (by omega), hneg, hro]
    refine ⟨hb.1, hb.2, ?_, ?_⟩
    · unfold jst
      rw [hneg, hro, h]
      simp
    · rw [hfo]
      have hwl := word_lt s r (by omega)
      rw [order_self _ hwl.1]
      refine nan_bad ?_
      unfold badF
      rw [hwl.2.2, decide_eq_false_iff_not]
      omega
set_option maxRecDepth 100000 in
set_option maxHeartbeats 4000000 in
theorem law_agrees (a a' : Option Addr) (n c n' c' : Nat) (zs ys : List Int) (w : World) (hW : Fy w) (h : Row .u64 w a n c zs) (h' : Row .i64 w a' n' c' ys)
    (hz : ∀ z ∈ zs, 0 ≤ z ∧ z < 18446744073709551616) (hy : ∀ z ∈ ys, -9223372036854775808 ≤ z ∧ z ≤ 9223372036854775807) (hn : n ≤ 140737488351232) (hn' : n' ≤ 140737488351232) :
    Calls Tryz.prog 5 #[.slice a n c, .slice a' n' c'] w fun e w' => e = .returned (.bool true) ∧ Below w.heap.size w w' := by
  have A1 := hide (fixed_ok w hW)
  have HZ := hide hz
  have HY := hide hy
  have HL := hide h.len
  have HL' := hide h'.len
  have HF := hide hW
  have HR := hide h
  have HR' := hide h'
  clear hz hy hW h h'
  go_enter Tryz.func5, Tryz.ntmps5
  go_wp2_with fail
  refine (unhide A1).mono ?_
  rintro e w1 ⟨rfl, b1⟩
  have HB1 := hide b1
  clear A1 b1
  go_wp2
  go_loopw [5] (fun x wr => ∃ k : Nat, k ≤ n' ∧ x = .int .i64 k ∧ Below w.heap.size w wr) (fun x _ => n' - (intOf x).toNat)
  case atStart => exact ⟨0, Nat.zero_le _, rfl, unhide HB1⟩
  case round =>
    obtain ⟨k, hk, rfl, hbel⟩ := hrel
    by_cases hlt : k < n'
    · have ki : (k : Int) < (n' : Int) := by omega
      have hF1 := (unhide HF).below hbel
      rcases (unhide HR').at_ with h0 | ⟨b, off, rfl, hbw, hcell⟩
      · omega
      have c1 := (hbel.cell (p := ⟨b, off + k, none⟩) hbw).trans (hcell k hlt)
      have z1 := (unhide HY) _ (gd_mem (zs := ys) (k := k) (by rw [unhide HL']; exact hlt))
      generalize ys.getD k 0 = A at *
      have O1 := hide (fun W => ofWhole_any A W z1.1 z1.2)
      have T1 := hide (fun W hW' => whole_ok A z1.1 z1.2 W hW')
      have R1 := hide (rd_dot A z1.1 z1.2)
      have hwd := fOf_word A (by omega)
      have hrl := rOf_lt A (by omega)
      have W1 := hide (fun W => whole_any (decide (A < 0)) (rOf A) W (by omega))
      rw [← hwd] at W1
      have hord : (FloatKind.f64.format.order (fOf A) (fOf A) != some Ordering.eq) = false := by
        rw [hwd]
        have hwl := word_lt (decide (A < 0)) (rOf A) (by omega)
        rw [order_self _ hwl.1]
        refine nan_bad ?_
        unfold badF
        rw [hwl.2.2, decide_eq_false_iff_not]
        omega
      have hj : jst A = (okW (decide (A < 0)) (rOf A) && (wholeV (decide (A < 0)) (rOf A) == A)) := rfl
      have HJ := hide hj
      have hIs := itB_size A z1.1 z1.2
      obtain ⟨I, hI⟩ : ∃ I, I = itB A := ⟨_, rfl⟩
      rw [← hI] at T1 R1 hIs
      obtain ⟨s, hs⟩ : ∃ s, I ++ (⟨#[46, 48]⟩ : ByteArray) = s := ⟨_, rfl⟩
      rw [hs] at R1
      have HF1 := hide hF1
      have HBL := hide hbel
      have hbk : b < w.heap.size := hbw
      clear hcell hF1 hwd hrl hI hj z1
      generalize okW (decide (A < 0)) (rOf A) = OK at *
      generalize wholeV (decide (A < 0)) (rOf A) = V at *
      generalize jst A = J at *
      generalize fOf A = X at *
      go_wp2_with fail
      refine (unhide O1 _).mono ?_
      rintro e w2 ⟨rfl, hw⟩
      subst w2
      go_wp2_with fail
      refine (unhide T1 _ (unhide HF1).fx).mono ?_
      rintro e w2 ⟨rfl, b2⟩
      have F2 := hide ((unhide HF1).below b2)
      have B2 := hide b2
      clear b2 T1 O1 HF1
      go_wp2_with fail
      refine (unhide R1 _ (unhide F2)).mono ?_
      rintro e w3 ⟨rfl, b3⟩
      have hsf := fun (a : Addr) (n : Nat) (w : World) => run_store Tryz.prog w a (.float .f64 n) .plain rfl
      have B3 := hide ((unhide HBL).trans (((unhide B2).trans (b3.mono (unhide B2).size)).mono (unhide HBL).size))
      have hb3 : b < w3.heap.size := Nat.lt_of_lt_of_le hbw (unhide B3).size
      have e1 : w3.cell? ⟨b, off + k, none⟩ = some (.int .i64 A) := by
        rw [(unhide B3).cell (p := ⟨b, off + k, none⟩) hbw, ← (unhide HBL).cell (p := ⟨b, off + k, none⟩) hbw]; exact c1
      have d1 : ∀ o, (w3.alloc o).cell? ⟨b, off + k, none⟩ = some (.int .i64 A) := fun o => by
        rw [((Below.refl _ _).alloc (Nat.le_refl _) _ : Below w3.heap.size w3 _).cell (p := ⟨b, off + k, none⟩) hb3]; exact e1
      clear b3 B2 F2 R1 c1 HBL
      go_wp2_with fail
      refine (unhide W1 _).mono ?_
      rintro e w4 ⟨rfl, hw⟩
      subst w4
      clear W1
      cases OK
      · have hJ : J = false := unhide HJ
        subst hJ
        go_wp2
        go_roundw
        case rel => exact ⟨k + 1, by omega, by go_num, (unhide B3).alloc (unhide B3).size _⟩
        case measure => simp [intOf]; omega
      · cases hVA : (V == A)
        all_goals
          rw [hVA] at HJ
          have hJ := unhide HJ
          simp only [Bool.and_false, Bool.and_true] at hJ
          subst hJ
          go_wp2
          go_roundw
          case rel => exact ⟨k + 1, by omega, by go_num, (unhide B3).alloc (unhide B3).size _⟩
          case measure => simp [intOf]; omega
    · have ki : ¬ (k : Int) < (n' : Int) := by omega
      have HBL := hide hbel
      clear hbel
      go_wp2
      go_loopw [12] (fun x wr => ∃ k : Nat, k ≤ n ∧ x = .int .i64 k ∧ Below w.heap.size w wr) (fun x _ => n - (intOf x).toNat)
      case atStart => exact ⟨0, Nat.zero_le _, rfl, unhide HBL⟩
      case round =>
        obtain ⟨k, hk, rfl, hbel⟩ := hrel
        by_cases hlt : k < n
        · have ki : (k : Int) < (n : Int) := by omega
          rcases (unhide HR).at_ with h0 | ⟨b, off, rfl, hbw, hcell⟩
          · omega
          have c1 := (hbel.cell (p := ⟨b, off + k, none⟩) hbw).trans (hcell k hlt)
          have z1 := (unhide HZ) _ (gd_mem (zs := zs) (k := k) (by rw [unhide HL]; exact hlt))
          obtain ⟨A, hA⟩ : ∃ A : Nat, zs.getD k 0 = (A : Int) := ⟨(zs.getD k 0).toNat, by omega⟩
          rw [hA] at c1 z1
          have hA1 : A < 18446744073709551616 := by omega
          have FA := fun W => fto.run_frombits A W
          obtain ⟨sg, hsg⟩ : ∃ sg, sg = decide (9223372036854775808 ≤ A) := ⟨_, rfl⟩
          obtain ⟨r, hr⟩ : ∃ r, r = A % 9223372036854775808 := ⟨_, rfl⟩
          have hw := word_of A hA1
          rw [← hsg, ← hr] at hw
          have W1 := hide (fun W => whole_any sg r W (by omega))
          rw [hw] at W1
          have HBL2 := hide hbel
          cases hok : okW sg r
          · rw [hok] at W1
            clear hcell hA z1 hA1 hsg hr hw hok hbel
            generalize wholeV sg r = V at *
            go_wp2_with fail
            refine (unhide W1 _).mono ?_
            rintro e w4 ⟨rfl, hw⟩
            subst w4
            go_wp2
            go_roundw
            case rel => exact ⟨k + 1, by omega, by go_num, unhide HBL2⟩
            case measure => simp [intOf]; omega
          · obtain ⟨v1, v2, v3, v4⟩ := back_whole sg r hok
            rw [hw] at v4
            have O1 := hide (fun W => ofWhole_any (wholeV sg r) W v1 v2)
            rw [v3] at O1
            rw [hok] at W1
            clear hcell hA z1 hA1 hsg hr hw hok hbel v3
            generalize wholeV sg r = V at *
            generalize fOf V = X at *
            go_wp2_with fail
            refine (unhide W1 _).mono ?_
            rintro e w4 ⟨rfl, hw⟩
            subst w4
            go_wp2_with fail
            refine (unhide O1 _).mono ?_
            rintro e w4 ⟨rfl, hw⟩
            subst w4
            go_wp2
            go_roundw
            case rel => exact ⟨k + 1, by omega, by go_num, unhide HBL2⟩
            case measure => simp [intOf]; omega
        · have ki : ¬ (k : Int) < (n : Int) := by omega
          have HBL2 := hide hbel
          clear hbel
          go_wp2
          go_ret
          exact ⟨rfl, unhide HBL2⟩
end Go.Proofs.YtjfdjpaocdhbbaaGreatDoor.fto
