import Derived.Test.YtidkdnlbecompabGridW
namespace Go.Proofs.Ytidkdnlbecompab.mem
open Go.ChangeShapes Go.WideShapes Go.ChangeAt Go.RowKit
open ints (hide unhide)
set_option linter.unusedVariables false

theorem last_line (l : List Int) : (posT l l.length).1 = ((linesL l).length : Int) := by
  rw [(posT_sta l l.length).1, linesL_len]
theorem bx_below {w w' : World} {B : Nat} {x y : Int} (h : Box w B x y) (hb : Below w.heap.size w w') : Box w' B x y := h.below hb
set_option maxHeartbeats 8000000 in
set_option maxRecDepth 100000 in
theorem law_grid (a : Option Addr) (n c : Nat) (l : List Int) (w : World) (h : Row .i32 w a n c l) (hn : n ≤ 1099511627776) :
    Calls Try.prog 7 #[.slice a n c] w fun e w' => e = .returned (.bool true) ∧ Below w.heap.size w w' := by
  have hlast := last_line l
  have hGrid := hide (grid l)
  have hLen := linesL_len l
  have hsp := staTo_pos l l.length
  rw [h.len] at hsp hLen hlast
  obtain ⟨N, hN⟩ : ∃ N, N = (linesL l).length := ⟨_, rfl⟩
  rw [← hN] at hlast
  have hN1 : 1 ≤ N := by omega
  have hN2 : N ≤ n + 1 := by omega
  have HN := hide hN
  have HLast := hide hlast
  have HL := hide h.len
  clear hLen hsp hN hlast
  go_enter Try.func7, Try.ntmps7
  go_wp2_with fail
  refine (awake_true _).mono ?_
  rintro e w1 ⟨rfl, B1⟩
  have h1 := h.below B1
  clear h
  go_wp2_with fail
  refine (copiedR _ _ _ _ _ h1 hn).mono ?_
  rintro e w2 ⟨rfl, hc, hb⟩
  have B2 := B1.trans (hb.mono B1.size)
  have h2 := h1.below hb
  clear hb B1 h1
  go_wp2_with fail
  refine (places_any _ _ _ _ _ hc hn).mono ?_
  rintro e w3 ⟨rfl, ho3, hb⟩
  have B3 := B2.trans (hb.mono B2.size)
  have h3 := h2.below hb
  clear hb B2 h2 hc
  go_wp2_with fail
  refine (copiedR _ _ _ _ _ h3 hn).mono ?_
  rintro e w4 ⟨rfl, hc, hb⟩
  have B4 := B3.trans (hb.mono B3.size)
  have h4 := h3.below hb
  have ho4 := own_below ho3 hb
  clear hb B3 h3 ho3
  go_wp2_with fail
  refine (lines_any _ _ _ _ _ hc hn).mono ?_
  rintro e w5 ⟨v5, gs5, rfl, ho5, hb⟩
  have B5 := B4.trans (hb.mono B4.size)
  have h5 := h4.below hb
  have hw5 := own_below ho4 hb
  clear hb B4 ho4 hc h4
  obtain ⟨g2, cap2, rfl, hg2, hc2⟩ := ho5.get (by rw [← unhide HN]; omega)
  obtain ⟨g1, cap1, e1, hg1, hc1⟩ := pos_some hw5
  rw [← unhide HN] at hc2 ⊢
  simp only [Value.slice.injEq, Option.some.injEq, Addr.mk.injEq, and_true, true_and] at e1
  obtain ⟨eg, ec⟩ := e1
  rw [eg]
  subst ec
  clear ho5 hw5 eg
  obtain ⟨z1, z2⟩ := hc1 n (Nat.le_refl _)
  rw [unhide HLast] at z1
  have hne : (((n + 1 : Nat) : Int) != (n : Int) + 1) = false := by simp
  have hNN : ((N : Int) != (N : Int)) = false := by simp
  have HC1 := hide hc1
  have HC2 := hide hc2
  clear hc1 hc2
  go_wp2
  clear z1 z2
  go_loopw [5] (fun v wr => ∃ k : Nat, k ≤ n ∧ v = .int .i64 k ∧ Below w5.heap.size w5 wr) (fun v _ => n - (intOf v).toNat)
  case atStart => exact ⟨0, Nat.zero_le _, rfl, Below.refl _ _⟩
  case round =>
    obtain ⟨i, hi, rfl, hbel⟩ := hrel
    by_cases hlt : i < n
    · obtain ⟨k, gk1, gk2, m, gm, gc⟩ := unhide hGrid i (by rw [unhide HL]; exact hlt)
      rw [← unhide HN] at gk2
      obtain ⟨x1, x2⟩ := unhide HC1 i (by omega)
      rw [gk1] at x1
      rw [gm] at x2
      obtain ⟨y1, y2⟩ := unhide HC2 k gk2
      have r1 := (hbel.cell (p := ⟨g1, i * 2, none⟩) hg1).trans x1
      have r2 := (hbel.cell (p := ⟨g1, i * 2 + 1, none⟩) hg1).trans x2
      have s1 := (hbel.cell (p := ⟨g2, k, none⟩) hg2).trans y1
      have s2 := y2.below hbel
      rcases h5.at_ with h0 | ⟨b, off, rfl, hbw, hcell⟩
      · omega
      have t1 := (hbel.cell (p := ⟨b, off + i, none⟩) hbw).trans (hcell i hlt)
      have hmb := (posT_bd l i).2.2.2
      rw [gm] at hmb
      generalize (linesL l).getD k [] = X at *
      generalize gs5.getD k 0 = p1 at *
      generalize l.getD i 0 = ch at *
      obtain ⟨xl, hxl⟩ : ∃ xl, xl = X.length := ⟨_, rfl⟩
      unfold lineVal at s1
      rw [← hxl] at s1 s2 gc
      have ki : (i : Int) < (n : Int) := by omega
      have kN : (k : Int) < (N : Int) := by omega
      have k0 : (0 : Int) ≤ (k : Int) := by omega
      have m0 : (0 : Int) ≤ (m : Int) := by omega
      have mb : (m : Int) ≤ 1099511627776 := by omega
      have HXL := hide hxl
      have hq1 : ¬ (N : Int) < (k : Int) + 1 := by omega
      have hq2 : ¬ (k : Int) + 1 < 1 := by omega
      have hq3 : ¬ (m : Int) + 1 < 1 := by omega
      clear HC1 HC2 x1 x2 y1 y2 hcell gk1 gm hmb hxl
      cases e13 : (ch == 13)
      · cases e10 : (ch == 10)
        · rw [e13, e10, if_neg (by simp)] at gc
          obtain ⟨gc1, gc2⟩ := gc
          rcases s2.at_ with h0 | ⟨b', off', e', hb', hcl'⟩
          · omega
          obtain ⟨rfl, rfl⟩ : p1 = b' ∧ 0 = off' := by simpa using e'
          have u1 := hcl' m gc1
          rw [gc2] at u1
          rw [Nat.zero_add] at u1
          have hmx : (m : Int) < (xl : Int) := by omega
          have hmx2 : ¬ (xl : Int) < (m : Int) + 1 := by omega
          have hd : decide ((xl : Int) < (m : Int) + 1) = false := by simp; omega
          have hcc : (ch != ch) = false := by simp
          clear hcl' e' s2 gc2
          go_wp2
          go_quiet (fail)
          go_wp2
          go_roundw
          case rel => exact ⟨i + 1, by omega, by go_num, below_drewN hbel _⟩
          case measure => simp [intOf]; omega
        · rw [e13, e10, if_pos (by simp)] at gc
          have hmx : ¬ (m : Int) + 1 ≤ (xl : Int) := by omega
          clear s2 gc
          go_wp2
          go_roundw
          case rel => exact ⟨i + 1, by omega, by go_num, hbel⟩
          case measure => simp [intOf]; omega
      · rw [e13, if_pos (by simp)] at gc
        have hmx : ¬ (m : Int) + 1 ≤ (xl : Int) := by omega
        clear s2 gc
        go_wp2
        go_roundw
        case rel => exact ⟨i + 1, by omega, by go_num, hbel⟩
        case measure => simp [intOf]; omega
    · have B6 := B5.trans (hbel.mono B5.size)
      have h6 := h5.below hbel
      have ki : ¬ (i : Int) < (n : Int) := by omega
      have hc6 := hide (fun m (hm : m ≤ n) => (⟨(hbel.cell (p := ⟨g1, m * 2, none⟩) hg1).trans (unhide HC1 m hm).1, (hbel.cell (p := ⟨g1, m * 2 + 1, none⟩) hg1).trans (unhide HC1 m hm).2⟩ : wr.cell? ⟨g1, m * 2, none⟩ = some (.int .i64 (posT l m).1) ∧ wr.cell? ⟨g1, m * 2 + 1, none⟩ = some (.int .i64 (posT l m).2)))
      have hg6 := Nat.lt_of_lt_of_le hg1 hbel.size
      have q0 : clampN (-1) n = 0 := by have := clampN_eq (-1) n; omega
      have q1 : clampN ((n : Int) + 1) n = n := by have := clampN_eq ((n : Int) + 1) n; omega
      have q2 : clampN ((n : Int) / 2) n = n / 2 := by have := clampN_eq ((n : Int) / 2) n; omega
      have P0 := hide (fun a' c' w' (h' : Row .i32 w' a' n c' l) => place_any a' n c' l (-1) w' h' hn)
      have P1 := hide (fun a' c' w' (h' : Row .i32 w' a' n c' l) => place_any a' n c' l ((n : Int) + 1) w' h' hn)
      have P2 := hide (fun a' c' w' (h' : Row .i32 w' a' n c' l) => place_any a' n c' l ((n : Int) / 2) w' h' hn)
      rw [q0] at P0
      rw [q1] at P1
      rw [q2] at P2
      obtain ⟨X0, hX0⟩ : ∃ X, X = posT l 0 := ⟨_, rfl⟩
      obtain ⟨Xn, hXn⟩ : ∃ X, X = posT l n := ⟨_, rfl⟩
      obtain ⟨Xm, hXm⟩ : ∃ X, X = posT l (n / 2) := ⟨_, rfl⟩
      have x01 : X0 = (1, 1) := by rw [hX0]; rfl
      have c0 := unhide hc6 0 (by omega)
      have cn := unhide hc6 n (Nat.le_refl _)
      have cm := unhide hc6 (n / 2) (by omega)
      rw [← hX0] at P0 c0
      rw [← hXn] at P1 cn
      rw [← hXm] at P2 cm
      subst x01
      clear B5 h5 hbel HC1 HC2 hX0 hXn hXm q0 q1 q2 hc6 hne hNN hGrid
      have HC0 := hide c0
      have HCn := hide cn
      have HCm := hide cm
      clear c0 cn cm
      go_wp2_with fail
      refine (copiedR _ _ _ _ _ h6 hn).mono ?_
      rintro e w7 ⟨rfl, hc, hb⟩
      have B7 := B6.trans (hb.mono B6.size)
      have h7 := h6.below hb
      have F7 := hb
      clear B6 h6 hb
      go_wp2_with fail
      refine (unhide P0 _ _ _ hc).mono ?_
      rintro e w8 ⟨rfl, hb⟩
      have B8 := B7.trans (hb.mono B7.size)
      have h8 := h7.below hb
      have F8 := F7.trans (hb.mono F7.size)
      clear hb B7 h7 hc F7 P0
      have al8 : Below w8.heap.size w8 (w8.alloc (.cells #[.int .i64 1, .int .i64 1] 45)) := (Below.refl _ _).alloc (Nat.le_refl _) _
      have b8 := box_new w8 1 1 w8.heap.size rfl
      have h9 := h8.below al8
      have B9 := B8.trans (al8.mono B8.size)
      have F9 := F8.trans (al8.mono F8.size)
      have HB8 := hide b8
      clear al8 b8 h8 B8 F8
      go_wp2_with fail
      refine (copiedR _ _ _ _ _ h9 hn).mono ?_
      rintro e w10 ⟨rfl, hc, hb⟩
      have B10 := B9.trans (hb.mono B9.size)
      have h10 := h9.below hb
      have F10 := F9.trans (hb.mono F9.size)
      have b10 := (unhide HB8).below hb
      clear hb B9 h9 F9 HB8
      have e8 : (w8.alloc (.cells #[.int .i64 1, .int .i64 1] 45)).heap.size = w8.heap.size + 1 := by simp
      rw [e8] at hc
      clear e8
      go_wp2_with fail
      refine (unhide P1 _ _ _ hc).mono ?_
      rintro e w11 ⟨rfl, hb⟩
      have B11 := B10.trans (hb.mono B10.size)
      have h11 := h10.below hb
      have F11 := F10.trans (hb.mono F10.size)
      have b11 := b10.below hb
      clear hb B10 h10 hc F10 P1 b10
      have al11 : Below w11.heap.size w11 (w11.alloc (.cells #[.int .i64 Xn.1, .int .i64 Xn.2] 45)) := (Below.refl _ _).alloc (Nat.le_refl _) _
      have c11 := box_new w11 Xn.1 Xn.2 w11.heap.size rfl
      have h12 := h11.below al11
      have B12 := B11.trans (al11.mono B11.size)
      have F12 := F11.trans (al11.mono F11.size)
      have b12 := b11.below al11
      have HB12 := hide b12
      have HC12 := hide c11
      clear al11 b11 c11 h11 B11 F11 b12
      go_wp2_with fail
      refine (copiedR _ _ _ _ _ h12 hn).mono ?_
      rintro e w13 ⟨rfl, hc, hb⟩
      have B13 := B12.trans (hb.mono B12.size)
      have F13 := F12.trans (hb.mono F12.size)
      have b13 := (unhide HB12).below hb
      have c13 := (unhide HC12).below hb
      have e11 : (w11.alloc (.cells #[.int .i64 Xn.1, .int .i64 Xn.2] 45)).heap.size = w11.heap.size + 1 := by simp
      rw [e11] at hc
      clear hb B12 h12 F12 HB12 HC12 e11
      go_wp2_with fail
      refine (unhide P2 _ _ _ hc).mono ?_
      rintro e w14 ⟨rfl, hb⟩
      have B14 := B13.trans (hb.mono B13.size)
      have F14 := F13.trans (hb.mono F13.size)
      have b14 := b13.below hb
      have c14 := c13.below hb
      clear hb B13 hc F13 P2 b13 c13
      have al14 : Below w14.heap.size w14 (w14.alloc (.cells #[.int .i64 Xm.1, .int .i64 Xm.2] 45)) := (Below.refl _ _).alloc (Nat.le_refl _) _
      have d15 := box_new w14 Xm.1 Xm.2 w14.heap.size rfl
      have B15 := B14.trans (al14.mono B14.size)
      have F15 := F14.trans (al14.mono F14.size)
      obtain ⟨bb0, bb1, _, _⟩ := (b14.below al14).cells
      obtain ⟨cc0, cc1, _, _⟩ := (c14.below al14).cells
      obtain ⟨dd0, dd1, _, _⟩ := d15.cells
      have p01 := (F15.cell (p := ⟨g1, 0 * 2, none⟩) hg6).trans (unhide HC0).1
      have p02 := (F15.cell (p := ⟨g1, 0 * 2 + 1, none⟩) hg6).trans (unhide HC0).2
      have pn1 := (F15.cell (p := ⟨g1, n * 2, none⟩) hg6).trans (unhide HCn).1
      have pn2 := (F15.cell (p := ⟨g1, n * 2 + 1, none⟩) hg6).trans (unhide HCn).2
      have pm1 := (F15.cell (p := ⟨g1, n / 2 * 2, none⟩) hg6).trans (unhide HCm).1
      have pm2 := (F15.cell (p := ⟨g1, n / 2 * 2 + 1, none⟩) hg6).trans (unhide HCm).2
      simp only [Nat.zero_mul, Nat.zero_add] at p01 p02
      have hh1 : (n : Int) / 2 < (n : Int) + 1 := by omega
      have hh2 : (0 : Int) ≤ (n : Int) / 2 := by omega
      have hh3 : (0 : Int) < (n : Int) + 1 := by omega
      have HF := hide B15
      clear al14 d15 b14 c14 B14 F14 F15 HC0 HCn HCm B15
      go_wp2
      go_quiet (fail)
      go_wp2
      go_ret
      exact ⟨rfl, below_drewN (unhide HF) _⟩
end Go.Proofs.Ytidkdnlbecompab.mem
