import Derived.Test.YtidkdnlbecompaaPlcR
import Derived.Test.YtidkdnlbecompaaAwk
namespace Go.Proofs.Ytidkdnlbecompaa.mem
open Go.ChangeShapes Go.WideShapes Go.ChangeAt Go.RowKit
open ints (hide unhide)
set_option linter.unusedVariables false

theorem posCells_get (ps : List (Int × Int)) (m : Nat) (h : m < ps.length) : (posCells ps)[m * 2]? = some (.int .i64 (ps[m]).1) ∧ (posCells ps)[m * 2 + 1]? = some (.int .i64 (ps[m]).2) := by
  induction ps generalizing m with
  | nil => simp at h
  | cons p ps ih =>
    cases m with
    | zero => exact ⟨rfl, rfl⟩
    | succ m =>
      have := ih m (by simpa using h)
      have e : posCells (p :: ps) = .int .i64 p.1 :: .int .i64 p.2 :: posCells ps := rfl
      rw [e, show (m + 1) * 2 = m * 2 + 1 + 1 from by omega]
      simpa using this
theorem plist_get (l : List Int) (k m : Nat) (h : m < k) : (plist l k)[m]'(by rw [plist_len]; exact h) = posT l m := by simp [plist]
/-- What a reader finds in a row of places. -/
theorem pos_some {w : World} {base : Nat} {v : Value} {l : List Int} {n : Nat} (h : w.ownsRow base 37 2 v (n + 1) (posCells (plist l (n + 1)))) :
    ∃ g cap, v = .slice (some ⟨g, 0, none⟩) (n + 1) cap ∧ g < w.heap.size ∧ ∀ m, m ≤ n → w.cell? ⟨g, m * 2, none⟩ = some (.int .i64 (posT l m).1) ∧ w.cell? ⟨g, m * 2 + 1, none⟩ = some (.int .i64 (posT l m).2) := by
  rcases h.2 with ⟨_, h2⟩ | ⟨g, cap, cur, rfl, hg, hh, r⟩
  · omega
  · refine ⟨g, cap, rfl, (Array.getElem?_eq_some_iff.1 hh).1, fun m hm => ?_⟩
    have hp := posCells_get (plist l (n + 1)) m (by rw [plist_len]; omega)
    rw [plist_get l (n + 1) m (by omega)] at hp
    rw [World.ownsRow.cellAt h (m * 2) (by omega), World.ownsRow.cellAt h (m * 2 + 1) (by omega)]
    exact hp
set_option maxHeartbeats 2000000 in
theorem rplace_any (a : Option Addr) (n c : Nat) (l : List Int) (i : Int) (w : World) (h : Row .i32 w a n c l) (hn : n ≤ 1099511627776) (hw1 : -9223372036854775808 ≤ i) (hw2 : i ≤ 9223372036854775807) :
    Calls Try.prog 18 #[.slice a n c, .int .i64 i] w fun e w' => e = .returned (.agg #[.int .i64 (posT l (clampN i n)).1, .int .i64 (posT l (clampN i n)).2]) ∧ Below w.heap.size w w' := by
  have hcl := clampN_eq i n
  have hm := clampN_le i n
  have hb0 : Below w.heap.size w (w.alloc (.cells #[.int .i64 0, .int .i64 0] 37)) := (Below.refl _ _).alloc (Nat.le_refl _) _
  have P := hide (rplaces_any a n c l _ (h.below hb0) hn)
  have bx := hide (box_new w 0 0 w.heap.size rfl)
  have HB0 := hide hb0
  obtain ⟨m, hmm⟩ : ∃ m, m = clampN i n := ⟨_, rfl⟩
  rw [← hmm] at hcl hm ⊢
  have Hcl := hide hcl
  clear hmm hb0 hcl
  by_cases h1 : i < 0
  · have em : m = 0 := by have := unhide Hcl; omega
    subst em
    go_enter Try.func18, Try.ntmps18
    go_wp2_with fail
    refine (unhide P).mono ?_
    rintro e w1 ⟨v, rfl, ho, hb⟩
    obtain ⟨g, cap, rfl, hgl, hcells⟩ := pos_some ho
    obtain ⟨c1, c2⟩ := hcells 0 (by omega)
    have bx1 := (unhide bx).below hb
    obtain ⟨q0, q1, q2, q3⟩ := bx1.cells
    obtain ⟨t0, t1, _, _⟩ := (bx1.set (posT l 0).1 (posT l 0).2).cells
    have T0 := hide t0
    have T1 := hide t1
    have HB := hide ((unhide HB0).trans (hb.mono (by simp)))
    clear hcells P ho t0 t1 hb
    go_wp2
    exact bodyPost_ret (v := .agg #[.int .i64 (posT l 0).1, .int .i64 (posT l 0).2]) (by simp [results, Try.results18, go_sem, unhide T0, unhide T1]) rfl ⟨rfl, ((unhide HB).setCell (Nat.le_refl _) _).setCell (Nat.le_refl _) _⟩
  · by_cases h2 : (n : Int) < i
    · have em : m = n := by have := unhide Hcl; omega
      subst em
      go_enter Try.func18, Try.ntmps18
      go_wp2_with fail
      refine (unhide P).mono ?_
      rintro e w1 ⟨v, rfl, ho, hb⟩
      obtain ⟨g, cap, rfl, hgl, hcells⟩ := pos_some ho
      obtain ⟨c1, c2⟩ := hcells m (by omega)
      have bx1 := (unhide bx).below hb
      obtain ⟨q0, q1, q2, q3⟩ := bx1.cells
      obtain ⟨t0, t1, _, _⟩ := (bx1.set (posT l m).1 (posT l m).2).cells
      have T0 := hide t0
      have T1 := hide t1
      have HB := hide ((unhide HB0).trans (hb.mono (by simp)))
      clear hcells P ho t0 t1 hb
      go_wp2
      exact bodyPost_ret (v := .agg #[.int .i64 (posT l m).1, .int .i64 (posT l m).2]) (by simp [results, Try.results18, go_sem, unhide T0, unhide T1]) rfl ⟨rfl, ((unhide HB).setCell (Nat.le_refl _) _).setCell (Nat.le_refl _) _⟩
    · have ei : i = (m : Int) := by have := unhide Hcl; omega
      subst ei
      have hmn : ¬ (n : Int) < (m : Int) := by omega
      have hm0 : ¬ (m : Int) < 0 := by omega
      go_enter Try.func18, Try.ntmps18
      go_wp2_with fail
      refine (unhide P).mono ?_
      rintro e w1 ⟨v, rfl, ho, hb⟩
      obtain ⟨g, cap, rfl, hgl, hcells⟩ := pos_some ho
      obtain ⟨c1, c2⟩ := hcells m (by omega)
      have bx1 := (unhide bx).below hb
      obtain ⟨q0, q1, q2, q3⟩ := bx1.cells
      obtain ⟨t0, t1, _, _⟩ := (bx1.set (posT l m).1 (posT l m).2).cells
      have T0 := hide t0
      have T1 := hide t1
      have HB := hide ((unhide HB0).trans (hb.mono (by simp)))
      clear hcells P ho t0 t1 hb
      go_wp2
      exact bodyPost_ret (v := .agg #[.int .i64 (posT l m).1, .int .i64 (posT l m).2]) (by simp [results, Try.results18, go_sem, unhide T0, unhide T1]) rfl ⟨rfl, ((unhide HB).setCell (Nat.le_refl _) _).setCell (Nat.le_refl _) _⟩
theorem copiedR (a : Option Addr) (n c : Nat) (zs : List Int) (w : World) (h : Row .i32 w a n c zs) (hn : n ≤ 1099511627776) :
    Calls Try.prog 15 #[.slice a n c] w fun e w' => e = .returned (.slice (some ⟨w.heap.size, 0, none⟩) n n) ∧ Row .i32 w' (some ⟨w.heap.size, 0, none⟩) n n zs ∧ Below w.heap.size w w' := by
  refine (copiedRunes_any a n c zs w h (by omega)).mono ?_
  rintro e w' ⟨rfl, ho, hb⟩
  exact ⟨rfl, row_at ho, hb⟩
theorem wf64 {i : Int} (h : (Lit.int .i64 i).wf = true) : -9223372036854775808 ≤ i ∧ i ≤ 9223372036854775807 := by
  simpa [Lit.wf, IntKind.min, IntKind.max, IntKind.signed, IntKind.bits] using h
set_option maxHeartbeats 4000000 in
theorem law_places (a : Option Addr) (n c : Nat) (l : List Int) (i : Int) (w : World) (h : Row .i32 w a n c l) (hn : n ≤ 1099511627776) (hw1 : -9223372036854775808 ≤ i) (hw2 : i ≤ 9223372036854775807) :
    Calls Try.prog 7 #[.slice a n c, .int .i64 i] w fun e w' => e = .returned (.bool true) ∧ Below w.heap.size w w' := by
  go_enter Try.func7, Try.ntmps7
  go_wp2_with fail
  refine (awake_true _).mono ?_
  rintro e w1 ⟨rfl, B1⟩
  have h1 := h.below B1
  clear h
  go_wp2_with fail
  refine (copiedR _ _ _ _ _ h1 hn).mono ?_
  rintro e w2 ⟨rfl, hc, hb⟩
  have B2 := B1.trans (hb.mono B1.size)
  have h2 := h1.below hb
  clear hb B1 h1
  go_wp2_with fail
  refine (rplaces_any _ _ _ _ _ hc hn).mono ?_
  rintro e w3 ⟨v3, rfl, ho3, hb⟩
  have B3 := B2.trans (hb.mono B2.size)
  have h3 := h2.below hb
  clear hb B2 h2 hc
  go_wp2_with fail
  refine (copiedR _ _ _ _ _ h3 hn).mono ?_
  rintro e w4 ⟨rfl, hc, hb⟩
  have B4 := B3.trans (hb.mono B3.size)
  have h4 := h3.below hb
  have ho4 := own_below ho3 hb
  clear hb B3 h3 ho3
  go_wp2_with fail
  refine (places_any _ _ _ _ _ hc hn).mono ?_
  rintro e w5 ⟨rfl, ho5, hb⟩
  have B5 := B4.trans (hb.mono B4.size)
  have h5 := h4.below hb
  have hw5 := own_below ho4 hb
  clear hb B4 h4 ho4 hc
  obtain ⟨g1, cap1, e1, hg1, hc1⟩ := pos_some ho5
  obtain ⟨g2, cap2, rfl, hg2, hc2⟩ := pos_some hw5
  rw [e1]
  clear e1 ho5 hw5
  have hne : (((n + 1 : Nat) : Int) != ((n + 1 : Nat) : Int)) = false := by simp
  go_wp2
  go_loopw [7] (fun v wr => ∃ k : Nat, k ≤ n + 1 ∧ v = .int .i64 k ∧ Below w5.heap.size w5 wr) (fun v _ => n + 1 - (intOf v).toNat)
  case atStart => exact ⟨0, Nat.zero_le _, rfl, Below.refl _ _⟩
  case round =>
    obtain ⟨k, hk, rfl, hbel⟩ := hrel
    by_cases hlt : k < n + 1
    · obtain ⟨x1, x2⟩ := hc1 k (by omega)
      obtain ⟨y1, y2⟩ := hc2 k (by omega)
      have r1 := (hbel.cell (p := ⟨g1, k * 2, none⟩) hg1).trans x1
      have r2 := (hbel.cell (p := ⟨g1, k * 2 + 1, none⟩) hg1).trans x2
      have s1 := (hbel.cell (p := ⟨g2, k * 2, none⟩) hg2).trans y1
      have s2 := (hbel.cell (p := ⟨g2, k * 2 + 1, none⟩) hg2).trans y2
      generalize posT l k = X at *
      have ki : (k : Int) < (n : Int) + 1 := by omega
      clear hc1 hc2 x1 x2 y1 y2
      go_wp2
      go_quiet (fail)
      go_wp2
      go_roundw
      case rel => exact ⟨k + 1, by omega, by go_num, below_drewN hbel _⟩
      case measure => simp [intOf]; omega
    · have ki : ¬ (k : Int) < (n : Int) + 1 := by omega
      have B6 := B5.trans (hbel.mono B5.size)
      have h6 := h5.below hbel
      clear B5 h5 hbel hc1 hc2
      go_wp2_with fail
      refine (copiedR _ _ _ _ _ h6 hn).mono ?_
      rintro e w7 ⟨rfl, hc, hb⟩
      have B7 := B6.trans (hb.mono B6.size)
      have h7 := h6.below hb
      clear hb B6 h6
      go_wp2_with fail
      refine (place_any _ _ _ _ _ _ hc hn).mono ?_
      rintro e w8 ⟨rfl, hb⟩
      have B8 := B7.trans (hb.mono B7.size)
      have h8 := h7.below hb
      clear hb B7 h7 hc
      go_wp2_with fail
      refine (copiedR _ _ _ _ _ h8 hn).mono ?_
      rintro e w9 ⟨rfl, hc, hb⟩
      have B9 := B8.trans (hb.mono B8.size)
      clear hb B8 h8
      go_wp2_with fail
      refine (rplace_any _ _ _ _ _ _ hc hn hw1 hw2).mono ?_
      rintro e w10 ⟨rfl, hb⟩
      have B10 := B9.trans (hb.mono B9.size)
      clear hb B9 hc
      generalize posT l (clampN i n) = X at *
      go_wp2
      go_ret
      exact ⟨rfl, B10⟩
end Go.Proofs.Ytidkdnlbecompaa.mem
