import Derived.Test.YtidkdnlbecompabBackW
namespace Go.Proofs.Ytidkdnlbecompab.mem
open Go.ChangeShapes Go.WideShapes Go.ChangeAt Go.RowKit
open ints (hide unhide)
set_option linter.unusedVariables false

theorem Row.pre {k : IntKind} {w : World} {a : Option Addr} {n c : Nat} {l : List Int} (h : Row k w a n c l) {m : Nat} (hm : m ≤ n) : Row k w a m c (l.take m) := by
  refine ⟨by simp [h.len]; omega, Nat.le_trans hm h.le, h.nil, ?_⟩
  rcases h.at_ with h0 | ⟨b, off, ha, hb, hc⟩
  · exact .inl (by omega)
  · exact .inr ⟨b, off, ha, hb, fun i hi => by rw [hc i (by omega)]; simp [List.getD, hi]⟩
theorem byt_take {l : List Int} (h : Byt l) (i : Nat) : Byt (l.take i) := fun z hz => h z (List.mem_of_mem_take hz)
theorem one_prefix (p r : List Int) (hb : Byt p) (h : (oneL p).2 ≠ 0) : (oneL (p ++ r)).2 ≠ 0 := by
  obtain ⟨h1, h2, h3⟩ := one_back p hb h
  rw [h2, List.append_assoc, one_put _ h1]
  simp only
  have := putB_len (oneL p).1
  omega
theorem cut_bad (zs : List Int) (hz : Byt zs) (G k : Nat) (hG : G = (decZ zs).2) : decZ (cut zs G k) = ([], 0) := by
  have hs := decF_stop zs.length zs (Nat.le_refl _)
  have hs' : (oneL (zs.drop G)).2 = 0 := by rw [hG]; exact hs
  unfold decZ
  refine decF_end _ _ ?_
  by_cases h : (oneL (cut zs G k)).2 = 0
  · exact h
  · exfalso
    have := one_prefix (cut zs G k) ((zs.drop G).drop (k - G)) (byt_take (byt_drop hz _) _) h
    unfold cut at this
    rw [List.take_append_drop] at this
    exact this hs'
theorem take_bad (zs : List Int) (hz : Byt zs) (G k : Nat) (hG : G = (decZ zs).2) (hk : G ≤ k) : (decZ (zs.take k)).2 = G := by
  obtain ⟨f1, f2, f3, f4⟩ := decF_flat zs.length zs hz
  have e : zs.take k = (decZ zs).1.flatMap putB ++ cut zs G k := by
    have e1 : (decZ zs).1.flatMap putB = zs.take G := by rw [hG]; exact f1
    rw [e1]
    unfold cut
    rw [List.take_drop, show G + (k - G) = k from by omega]
    conv => lhs; rw [← List.take_append_drop G (zs.take k)]
    rw [List.take_take, Nat.min_eq_left hk]
  have f3' : (decZ zs).1.all scB = true := f3
  rw [e, decZ_app (decZ zs).1 _ f3', cut_bad zs hz G k hG]
  simp only [Nat.add_zero]
  rw [hG]
  exact f4
set_option maxHeartbeats 4000000 in
theorem law_there (a : Option Addr) (n c : Nat) (zs : List Int) (w : World) (h : Row .u8 w a n c zs) (hz : Byt zs) (hn : n ≤ 1099511627776) :
    Calls Try.prog 4 #[.slice a n c] w fun e w' => e = .returned (.bool true) ∧ Below w.heap.size w w' := by
  obtain ⟨f1, f2, f3, f4⟩ := decF_flat zs.length zs hz
  obtain ⟨Z, hZ⟩ : ∃ Z, Z = (decZ zs).1 := ⟨_, rfl⟩
  obtain ⟨G, hG⟩ : ∃ G, G = (decZ zs).2 := ⟨_, rfl⟩
  have g1 : Z.flatMap putB = zs.take G := by rw [hZ, hG]; exact f1
  have g2 : G ≤ n := by rw [hG, ← h.len]; exact f2
  have g3 : Z.all scB = true := by rw [hZ]; exact f3
  have gl : Z.length ≤ G := by rw [hZ, hG]; exact decZ_len zs hz
  have hlenG : (zs.take G).length = G := by simp [h.len]; omega
  have D := hide (fun a' c' w' (h' : Row .u8 w' a' n c' zs) => decode_bytes a' n c' zs w' h' hz (by omega))
  rw [← hZ, ← hG] at D
  have S := hide (fun a' c' w' (h' : Row .i32 w' a' Z.length c' Z) => scalars_any a' Z.length c' Z w' h' (by omega))
  rw [g3] at S
  have E := hide (fun a' c' w' (h' : Row .i32 w' a' Z.length c' Z) => encode_any a' Z.length c' Z w' h' (by omega))
  rw [g3, encS_yes g3, g1] at E
  have C1 := hide (fun w' => clean_str (strOfNums (zs.take G)) w' (by rw [strOfNums_size]; omega))
  rw [bytesZ_str _ (byt_take hz G), take_bad zs hz G G hG (Nat.le_refl _), strOfNums_size, hlenG] at C1
  have eGG : ((G : Int) == (G : Int)) = true := by simp
  rw [eGG] at C1
  have C2 := hide (fun a' c' w' (h' : Row .u8 w' a' n c' zs) => clean_bytes a' n c' zs w' h' hz (by omega))
  rw [← hG] at C2
  obtain ⟨T, hT⟩ : ∃ T, T = strOfNums (zs.take G) := ⟨_, rfl⟩
  rw [← hT] at E C1
  have HT := hide hT
  have HG := hide hG
  have hGn := g2
  have hg0 : ¬ (G : Int) < 0 := by omega
  have hg1 : ¬ (n : Int) < (G : Int) := by omega
  have hGc : (G : Int) ≤ (c : Int) := by have := h.le; omega
  have hTT : (T.toList != T.toList) = false := by simp
  clear f1 f2 f3 f4 hZ hG g1 g3 hlenG eGG hT
  by_cases hpos : 0 < n
  · rcases h.at_ with h0 | ⟨b, off, rfl, hbw, hcell⟩
    · omega
    clear hcell
    cases hb0 : ((G : Int) == (n : Int))
    all_goals
      rw [hb0] at C2
      go_enter Try.func4, Try.ntmps4
      go_wp2_with fail
      refine (awake_true _).mono ?_
      rintro e w1 ⟨rfl, B1⟩
      have h1 := h.below B1
      clear h
      go_wp2_with fail
      refine (copied_any _ _ _ _ _ h1 (by omega)).mono ?_
      rintro e w2 ⟨rfl, ho, hb⟩
      obtain ⟨a1, c1, e1, hc⟩ := own_row ho
      simp only [Value.slice.injEq] at e1
      obtain ⟨rfl, _, rfl⟩ := e1
      have B2 := B1.trans (hb.mono B1.size)
      have h2 := h1.below hb
      clear ho hb B1 h1
      go_wp2_with fail
      refine (unhide D _ _ _ hc).mono ?_
      rintro e w3 ⟨v3, rfl, ho3, hb⟩
      obtain ⟨a3, c3, rfl, hr3⟩ := own_row ho3
      have B3 := B2.trans (hb.mono B2.size)
      have h3 := h2.below hb
      clear hb B2 h2 D ho3 hc
      go_wp2_with fail
      refine (unhide S _ _ _ hr3).mono ?_
      rintro e w4 ⟨rfl, hb⟩
      have B4 := B3.trans (hb.mono B3.size)
      have h4 := h3.below hb
      have hr4 := hr3.below hb
      clear hb B3 h3 S hr3
      go_wp2_with fail
      refine (unhide E _ _ _ hr4).mono ?_
      rintro e w5 ⟨rfl, hb⟩
      have B5 := B4.trans (hb.mono B4.size)
      have h5 := h4.below hb
      clear hb B4 h4 E hr4
      have hconv := row_string (P := Try.prog) (h5.pre hGn) 32 9 5 Try.underlying32 Try.underlying5 Try.underlying9
      rw [← unhide HT] at hconv
      go_wp2_with fail
      refine (unhide C1 _).mono ?_
      rintro e w6 ⟨rfl, hb⟩
      have B6 := B5.trans (hb.mono B5.size)
      have h6 := h5.below hb
      clear hb B5 h5 C1 hconv
      go_wp2_with fail
      refine (copied_any _ _ _ _ _ h6 (by omega)).mono ?_
      rintro e w7 ⟨rfl, ho, hb⟩
      obtain ⟨a1, c1, e1, hc⟩ := own_row ho
      simp only [Value.slice.injEq] at e1
      obtain ⟨rfl, _, rfl⟩ := e1
      have B7 := B6.trans (hb.mono B6.size)
      have h7 := h6.below hb
      clear ho hb B6 h6
      go_wp2_with fail
      refine (unhide C2 _ _ _ hc).mono ?_
      rintro e w8 ⟨rfl, hb⟩
      have B8 := B7.trans (hb.mono B7.size)
      have h8 := h7.below hb
      clear hb B7 h7 C2 hc
      go_wp2
      go_loopw [7] (fun i wr => ∃ k : Nat, G + 1 ≤ k ∧ k ≤ G + 5 ∧ k ≤ n + 1 ∧ i = .int .i64 k ∧ Below w.heap.size w wr ∧ Row .u8 wr (some ⟨b, off, none⟩) n c zs) (fun i _ => G + 5 - (intOf i).toNat)
      case atStart => exact ⟨G + 1, by omega, by omega, by omega, by go_num, B8, h8⟩
      case round =>
        obtain ⟨k, k1, k2, k3, rfl, hbel, hr⟩ := hrel
        clear B8 h8
        by_cases hk4 : k ≤ G + 4
        · by_cases hkn : k ≤ n
          · rcases hr.at_ with h0 | ⟨b', off', e', hbw, hcell⟩
            · omega
            obtain ⟨rfl, rfl⟩ : b = b' ∧ off = off' := by simpa using e'
            have hle := hr.le
            have hsub := Row.sub (k := .u8) (w := wr) (b := b) (off := off) (c := c) hr.len hle (show G ≤ k by omega) hkn hbw hcell
            have hconv := row_string (P := Try.prog) hsub 32 9 5 Try.underlying32 Try.underlying5 Try.underlying9
            have hyc : Byt (cut zs G k) := byt_take (byt_drop hz _) _
            have hlc : (cut zs G k).length = k - G := hsub.len
            have C3 := hide (fun w' => clean_str (strOfNums (cut zs G k)) w' (by rw [strOfNums_size]; omega))
            rw [bytesZ_str _ hyc, cut_bad zs hz G k (unhide HG), strOfNums_size, hlc] at C3
            have e3 : ((((([], 0) : List Int × Nat).2 : Nat) : Int) == ((k - G : Nat) : Int)) = false := by simp; omega
            rw [e3] at C3
            have hpre := hr.pre hkn
            have C4 := hide (fun a' c' w' (h' : Row .u8 w' a' k c' (zs.take k)) => clean_bytes a' k c' (zs.take k) w' h' (byt_take hz _) (by omega))
            rw [take_bad zs hz G k (unhide HG) (by omega)] at C4
            have e4 : ((G : Int) == (k : Int)) = false := by simp; omega
            rw [e4] at C4
            generalize strOfNums (cut zs G k) = X at *
            have hcG : ¬ c = G := by omega
            have f1 : (k : Int) ≤ (n : Int) := by omega
            have f2 : (k : Int) ≤ (G : Int) + 4 := by omega
            have f3 : (G : Int) ≤ (k : Int) := by omega
            have f4 : (k : Int) ≤ (c : Int) := by omega
            have Hr := hide hr
            clear hcell hsub e' hyc hlc e3 e4 hr
            go_wp2_with fail
            refine (unhide C3 _).mono ?_
            rintro e w9 ⟨rfl, hb⟩
            have B9 := hbel.trans (hb.mono hbel.size)
            have hp9 := hpre.below hb
            have hr9 := (unhide Hr).below hb
            clear hb hbel C3 hconv hpre Hr
            go_wp2_with fail
            refine (copied_any _ _ _ _ _ hp9 (by omega)).mono ?_
            rintro e w10 ⟨rfl, ho, hb⟩
            obtain ⟨a1, c1, e1, hc⟩ := own_row ho
            simp only [Value.slice.injEq] at e1
            obtain ⟨rfl, _, rfl⟩ := e1
            have B10 := B9.trans (hb.mono B9.size)
            have hr10 := hr9.below hb
            clear ho hb B9 hr9 hp9
            go_wp2_with fail
            refine (unhide C4 _ _ _ hc).mono ?_
            rintro e w11 ⟨rfl, hb⟩
            have B11 := B10.trans (hb.mono B10.size)
            have hr11 := hr10.below hb
            clear hb B10 hr10 hc C4
            go_wp2
            go_roundw
            case rel => exact ⟨k + 1, by omega, by omega, by omega, by go_num, B11, hr11⟩
            case measure => simp [intOf]; omega
          · have f1 : ¬ (k : Int) ≤ (n : Int) := by omega
            go_wp2
            go_ret
            exact ⟨rfl, hbel⟩
        · have f2 : ¬ (k : Int) ≤ (G : Int) + 4 := by omega
          by_cases hkn : k ≤ n
          · have f1 : (k : Int) ≤ (n : Int) := by omega
            go_wp2
            go_ret
            exact ⟨rfl, hbel⟩
          · have f1 : ¬ (k : Int) ≤ (n : Int) := by omega
            go_wp2
            go_ret
            exact ⟨rfl, hbel⟩
  · have hn0 : n = 0 := by omega
    have hG0 : G = 0 := by omega
    subst hn0
    subst hG0
    have hb0 : (((0 : Nat) : Int) == ((0 : Nat) : Int)) = true := by simp
    rw [hb0] at C2
    clear hb0
    cases a with
    | none =>
      have hc0 : c = 0 := h.nil rfl
      subst hc0
      go_enter Try.func4, Try.ntmps4
      go_wp2_with fail
      refine (awake_true _).mono ?_
      rintro e w1 ⟨rfl, B1⟩
      have h1 := h.below B1
      clear h
      go_wp2_with fail
      refine (copied_any _ _ _ _ _ h1 (by omega)).mono ?_
      rintro e w2 ⟨rfl, ho, hb⟩
      obtain ⟨a1, c1, e1, hc⟩ := own_row ho
      simp only [Value.slice.injEq] at e1
      obtain ⟨rfl, _, rfl⟩ := e1
      have B2 := B1.trans (hb.mono B1.size)
      have h2 := h1.below hb
      clear ho hb B1 h1
      go_wp2_with fail
      refine (unhide D _ _ _ hc).mono ?_
      rintro e w3 ⟨v3, rfl, ho3, hb⟩
      obtain ⟨a3, c3, rfl, hr3⟩ := own_row ho3
      have B3 := B2.trans (hb.mono B2.size)
      have h3 := h2.below hb
      clear hb B2 h2 D ho3 hc
      go_wp2_with fail
      refine (unhide S _ _ _ hr3).mono ?_
      rintro e w4 ⟨rfl, hb⟩
      have B4 := B3.trans (hb.mono B3.size)
      have h4 := h3.below hb
      have hr4 := hr3.below hb
      clear hb B3 h3 S hr3
      go_wp2_with fail
      refine (unhide E _ _ _ hr4).mono ?_
      rintro e w5 ⟨rfl, hb⟩
      have B5 := B4.trans (hb.mono B4.size)
      have h5 := h4.below hb
      clear hb B4 h4 E hr4
      have hconv := row_string (P := Try.prog) (h5.pre hGn) 32 9 5 Try.underlying32 Try.underlying5 Try.underlying9
      rw [← unhide HT] at hconv
      go_wp2_with fail
      refine (unhide C1 _).mono ?_
      rintro e w6 ⟨rfl, hb⟩
      have B6 := B5.trans (hb.mono B5.size)
      have h6 := h5.below hb
      clear hb B5 h5 C1 hconv
      go_wp2_with fail
      refine (copied_any _ _ _ _ _ h6 (by omega)).mono ?_
      rintro e w7 ⟨rfl, ho, hb⟩
      obtain ⟨a1, c1, e1, hc⟩ := own_row ho
      simp only [Value.slice.injEq] at e1
      obtain ⟨rfl, _, rfl⟩ := e1
      have B7 := B6.trans (hb.mono B6.size)
      have h7 := h6.below hb
      clear ho hb B6 h6
      go_wp2_with fail
      refine (unhide C2 _ _ _ hc).mono ?_
      rintro e w8 ⟨rfl, hb⟩
      have B8 := B7.trans (hb.mono B7.size)
      have h8 := h7.below hb
      clear hb B7 h7 C2 hc
      go_wp2
      first | (refine wp_loop_rounds 1 ?_; rw [rounds_succ]; go_wp2) | skip
      go_ret
      exact ⟨rfl, B8⟩
    | some ad =>
      go_enter Try.func4, Try.ntmps4
      go_wp2_with fail
      refine (awake_true _).mono ?_
      rintro e w1 ⟨rfl, B1⟩
      have h1 := h.below B1
      clear h
      go_wp2_with fail
      refine (copied_any _ _ _ _ _ h1 (by omega)).mono ?_
      rintro e w2 ⟨rfl, ho, hb⟩
      obtain ⟨a1, c1, e1, hc⟩ := own_row ho
      simp only [Value.slice.injEq] at e1
      obtain ⟨rfl, _, rfl⟩ := e1
      have B2 := B1.trans (hb.mono B1.size)
      have h2 := h1.below hb
      clear ho hb B1 h1
      go_wp2_with fail
      refine (unhide D _ _ _ hc).mono ?_
      rintro e w3 ⟨v3, rfl, ho3, hb⟩
      obtain ⟨a3, c3, rfl, hr3⟩ := own_row ho3
      have B3 := B2.trans (hb.mono B2.size)
      have h3 := h2.below hb
      clear hb B2 h2 D ho3 hc
      go_wp2_with fail
      refine (unhide S _ _ _ hr3).mono ?_
      rintro e w4 ⟨rfl, hb⟩
      have B4 := B3.trans (hb.mono B3.size)
      have h4 := h3.below hb
      have hr4 := hr3.below hb
      clear hb B3 h3 S hr3
      go_wp2_with fail
      refine (unhide E _ _ _ hr4).mono ?_
      rintro e w5 ⟨rfl, hb⟩
      have B5 := B4.trans (hb.mono B4.size)
      have h5 := h4.below hb
      clear hb B4 h4 E hr4
      have hconv := row_string (P := Try.prog) (h5.pre hGn) 32 9 5 Try.underlying32 Try.underlying5 Try.underlying9
      rw [← unhide HT] at hconv
      go_wp2_with fail
      refine (unhide C1 _).mono ?_
      rintro e w6 ⟨rfl, hb⟩
      have B6 := B5.trans (hb.mono B5.size)
      have h6 := h5.below hb
      clear hb B5 h5 C1 hconv
      go_wp2_with fail
      refine (copied_any _ _ _ _ _ h6 (by omega)).mono ?_
      rintro e w7 ⟨rfl, ho, hb⟩
      obtain ⟨a1, c1, e1, hc⟩ := own_row ho
      simp only [Value.slice.injEq] at e1
      obtain ⟨rfl, _, rfl⟩ := e1
      have B7 := B6.trans (hb.mono B6.size)
      have h7 := h6.below hb
      clear ho hb B6 h6
      go_wp2_with fail
      refine (unhide C2 _ _ _ hc).mono ?_
      rintro e w8 ⟨rfl, hb⟩
      have B8 := B7.trans (hb.mono B7.size)
      have h8 := h7.below hb
      clear hb B7 h7 C2 hc
      go_wp2
      first | (refine wp_loop_rounds 1 ?_; rw [rounds_succ]; go_wp2) | skip
      go_ret
      exact ⟨rfl, B8⟩
end Go.Proofs.Ytidkdnlbecompab.mem
