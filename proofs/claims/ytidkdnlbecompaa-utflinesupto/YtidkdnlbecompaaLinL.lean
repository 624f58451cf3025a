import Derived.Test.YtidkdnlbecompaaLinR
namespace Go.Proofs.Ytidkdnlbecompaa.mem
open Go.ChangeShapes Go.WideShapes Go.ChangeAt Go.RowKit
open ints (hide unhide)
set_option linter.unusedVariables false

theorem Row.drewN {k : IntKind} {w : World} {a : Option Addr} {n c : Nat} {zs : List Int} (h : Row k w a n c zs) (m : Nat) : Row k (w.drewN m) a n c zs := h.below (below_drewN (Below.refl _ _) m)
theorem alike_q (a a' : Option Addr) (n c c' : Nat) (zs : List Int) (w : World) (h : Row .i32 w a n c zs) (h' : Row .i32 w a' n c' zs) (hn : n ≤ 9223372036854775807) :
    Calls Try.prog 21 #[.slice a n c, .slice a' n c'] w fun e w' => e = .returned (.bool true) ∧ ∃ m, w' = w.drewN m := by
  have hne : ((n : Int) != (n : Int)) = false := by simp
  go_enter Try.func21, Try.ntmps21
  go_wp2
  go_loopw [5] (fun i wr => ∃ k m : Nat, k ≤ n ∧ i = .int .i64 k ∧ wr = w.drewN m) (fun i _ => n - (intOf i).toNat)
  case atStart => exact ⟨0, 0, Nat.zero_le _, rfl, rfl⟩
  case round =>
    obtain ⟨k, m, hk, rfl, rfl⟩ := hrel
    by_cases hlt : k < n
    · rcases h.at_ with h0 | ⟨b, off, rfl, hbw, hcell⟩
      · omega
      rcases h'.at_ with h0 | ⟨b', off', rfl, hbw', hcell'⟩
      · omega
      have c1 := hcell k hlt
      have c2 := hcell' k hlt
      generalize zs.getD k 0 = x at *
      have ki : (k : Int) < (n : Int) := by omega
      have hb : (x != x) = false := by simp
      clear hcell hcell'
      go_wp2
      go_quiet (fail)
      go_wp2
      go_roundw
      case rel => exact ⟨k + 1, _, by omega, by go_num, rfl⟩
      case measure => simp [intOf]; omega
    · go_wp2
      go_ret
      exact ⟨rfl, m, rfl⟩
theorem cut_le {l : List Int} {n : Nat} (hl : l.length = n) (a b : Nat) : (cut l a b).length ≤ n := by
  unfold cut
  rw [List.length_take, List.length_drop]
  omega
set_option maxHeartbeats 4000000 in
theorem law_lines (a : Option Addr) (n c : Nat) (l : List Int) (w : World) (h : Row .i32 w a n c l) (hn : n ≤ 1099511627776) :
    Calls Try.prog 8 #[.slice a n c] w fun e w' => e = .returned (.bool true) ∧ Below w.heap.size w w' := by
  have hLen := linesL_len l
  have hsp := staTo_pos l l.length
  rw [h.len] at hsp hLen
  obtain ⟨N, hN⟩ : ∃ N, N = (linesL l).length := ⟨_, rfl⟩
  have hN1 : 1 ≤ N := by omega
  have hN2 : N ≤ n + 1 := by omega
  have HN := hide hN
  have HLe := hide (show ∀ k, k < N → ((linesL l).getD k []).length ≤ n from fun k hk => by
    have hs := lin_sta l n
    by_cases hk1 : k + 1 < (staTo l n).length
    · rw [linesL_in l k (by rw [h.len]; exact hk1)]
      exact cut_le h.len _ _
    · rw [linesL_last l k (by rw [h.len]; omega)]
      exact cut_le h.len _ _)
  clear hLen hsp hN
  go_enter Try.func8, Try.ntmps8
  go_wp2_with fail
  refine (awake_true _).mono ?_
  rintro e w1 ⟨rfl, B1⟩
  have h1 := h.below B1
  clear h
  go_wp2_with fail
  refine (copiedR _ _ _ _ _ h1 hn).mono ?_
  rintro e w2 ⟨rfl, hc, hb⟩
  have B2 := B1.trans (hb.mono B1.size)
  have h2 := h1.below hb
  clear hb B1 h1
  go_wp2_with fail
  refine (rlines_any _ _ _ _ _ hc hn).mono ?_
  rintro e w3 ⟨v3, gs3, rfl, ho3, hb⟩
  have B3 := B2.trans (hb.mono B2.size)
  have h3 := h2.below hb
  clear hb B2 h2 hc
  go_wp2_with fail
  refine (copiedR _ _ _ _ _ h3 hn).mono ?_
  rintro e w4 ⟨rfl, hc, hb⟩
  have B4 := B3.trans (hb.mono B3.size)
  have ho4 := ho3.below hb
  clear hb B3 h3 ho3
  go_wp2_with fail
  refine (lines_any _ _ _ _ _ hc hn).mono ?_
  rintro e w5 ⟨v5, gs5, rfl, ho5, hb⟩
  have B5 := B4.trans (hb.mono B4.size)
  have hw5 := ho4.below hb
  clear hb B4 ho4 hc
  obtain ⟨g1, cap1, rfl, hg1, hc1⟩ := ho5.get (by rw [← unhide HN]; omega)
  obtain ⟨g2, cap2, rfl, hg2, hc2⟩ := hw5.get (by rw [← unhide HN]; omega)
  rw [← unhide HN] at hc1 hc2 ⊢
  clear ho5 hw5
  have hne : ((N : Int) != (N : Int)) = false := by simp
  go_wp2
  go_loopw [5] (fun v wr => ∃ k : Nat, k ≤ N ∧ v = .int .i64 k ∧ Below w5.heap.size w5 wr) (fun v _ => N - (intOf v).toNat)
  case atStart => exact ⟨0, Nat.zero_le _, rfl, Below.refl _ _⟩
  case round =>
    obtain ⟨k, hk, rfl, hbel⟩ := hrel
    by_cases hlt : k < N
    · obtain ⟨x1, x2⟩ := hc1 k hlt
      obtain ⟨y1, y2⟩ := hc2 k hlt
      have r1 := (hbel.cell (p := ⟨g1, k, none⟩) hg1).trans x1
      have s1 := (hbel.cell (p := ⟨g2, k, none⟩) hg2).trans y1
      have r2 := x2.below hbel
      have s2 := y2.below hbel
      have hll := unhide HLe k hlt
      generalize (linesL l).getD k [] = X at *
      generalize gs5.getD k 0 = p1 at *
      generalize gs3.getD k 0 = p2 at *
      unfold lineVal at r1 s1
      have ki : (k : Int) < (N : Int) := by omega
      have A := hide (fun m => alike_q _ _ _ _ _ X (wr.drewN m) (r2.drewN m) (s2.drewN m) (by omega))
      clear hc1 hc2 x1 x2 y1 y2 r2 s2
      go_wp2
      go_quiet ((go_at_call 21; exact Calls.quiet_of (unhide A _)))
      go_wp2
      go_roundw
      case rel => exact ⟨k + 1, by omega, by go_num, below_drewN hbel _⟩
      case measure => simp [intOf]; omega
    · have ki : ¬ (k : Int) < (N : Int) := by omega
      go_wp2
      go_ret
      exact ⟨rfl, B5.trans (hbel.mono B5.size)⟩
end Go.Proofs.Ytidkdnlbecompaa.mem
