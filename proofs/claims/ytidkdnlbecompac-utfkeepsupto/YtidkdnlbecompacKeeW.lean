import Derived.Test.YtidkdnlbecompacApa
import Derived.Test.YtidkdnlbecompacLinL
import Derived.Test.YtidkdnlbecompacEncR
namespace Go.Proofs.Ytidkdnlbecompac.mem
open Go.ChangeShapes Go.WideShapes Go.ChangeAt Go.RowKit
open ints (hide unhide)
set_option linter.unusedVariables false

theorem lines_bd (l : List Int) : 1 ≤ (linesL l).length ∧ (linesL l).length ≤ l.length + 1 ∧ ∀ k, ((linesL l).getD k []).length ≤ l.length := by
  have hLen := linesL_len l
  have hsp := staTo_pos l l.length
  refine ⟨by omega, by omega, fun k => ?_⟩
  have hs := lin_sta l l.length
  by_cases hk1 : k + 1 < (staTo l l.length).length
  · rw [linesL_in l k hk1]
    exact cut_le rfl _ _
  · by_cases hk2 : k + 1 = (staTo l l.length).length
    · rw [linesL_last l k hk2]
      exact cut_le rfl _ _
    · have : (linesL l).length ≤ k := by omega
      simp [List.getD, List.getElem?_eq_none this]
set_option maxHeartbeats 2000000 in
theorem lined_true (base : Nat) (v : Value) (gs : List Nat) (a : Option Addr) (n c : Nat) (l : List Int) (w : World) (hL : LinesAt w base v gs (linesL l)) (h : Row .i32 w a n c l) (hn : n ≤ 1099511627776) :
    Calls Try.prog 14 #[v, .slice a n c] w fun e w' => e = .returned (.bool true) ∧ Below w.heap.size w w' := by
  have hbd := lines_bd l
  rw [h.len] at hbd
  obtain ⟨N, hN⟩ : ∃ N, N = (linesL l).length := ⟨_, rfl⟩
  rw [← hN] at hbd
  have hN1 : 1 ≤ N := hbd.1
  have hN2 : N ≤ n + 1 := hbd.2.1
  have HN := hide hN
  have HLe := hide hbd.2.2
  obtain ⟨g1, cap1, rfl, hg1, hc1⟩ := hL.get (by rw [← hN]; omega)
  rw [← hN] at hc1 ⊢
  clear hbd hN hL
  go_enter Try.func14, Try.ntmps14
  go_wp2_with fail
  refine (rlines_any _ _ _ _ _ h hn).mono ?_
  rintro e w5 ⟨v5, gs5, rfl, ho5, B5⟩
  clear h
  obtain ⟨g2, cap2, rfl, hg2, hc2⟩ := ho5.get (by rw [← unhide HN]; omega)
  rw [← unhide HN] at hc2 ⊢
  clear ho5
  have hne : ((N : Int) != (N : Int)) = false := by simp
  have Hc1 := hide hc1
  have Hc2 := hide hc2
  clear hc1 hc2
  go_wp2
  go_loopw [6] (fun v wr => ∃ k : Nat, k ≤ N ∧ v = .int .i64 k ∧ Below w5.heap.size w5 wr) (fun v _ => N - (intOf v).toNat)
  case atStart => exact ⟨0, Nat.zero_le _, rfl, Below.refl _ _⟩
  case round =>
    obtain ⟨k, hk, rfl, hbel⟩ := hrel
    by_cases hlt : k < N
    · obtain ⟨x1, x2⟩ := unhide Hc1 k hlt
      obtain ⟨y1, y2⟩ := unhide Hc2 k hlt
      have r0 := (B5.cell (p := ⟨g1, k, none⟩) hg1).trans x1
      have r1 := (hbel.cell (p := ⟨g1, k, none⟩) (Nat.lt_of_lt_of_le hg1 B5.size)).trans r0
      have s1 := (hbel.cell (p := ⟨g2, k, none⟩) hg2).trans y1
      have r2 := (x2.below B5).below hbel
      have s2 := y2.below hbel
      have hll := unhide HLe k
      generalize (linesL l).getD k [] = X at *
      generalize gs.getD k 0 = p1 at *
      generalize gs5.getD k 0 = p2 at *
      unfold lineVal at r1 s1
      have ki : (k : Int) < (N : Int) := by omega
      have A := hide (fun m => alike_q _ _ _ _ _ X (wr.drewN m) (r2.drewN m) (s2.drewN m) (by omega))
      clear Hc1 Hc2 x1 x2 y1 y2 r2 s2 r0
      go_wp2
      go_quiet ((go_at_call 19; exact Calls.quiet_of (unhide A _)))
      go_wp2
      go_roundw
      case rel => exact ⟨k + 1, by omega, by go_num, below_drewN hbel _⟩
      case measure => simp [intOf]; omega
    · have ki : ¬ (k : Int) < (N : Int) := by omega
      clear Hc1 Hc2
      go_wp2
      go_ret
      exact ⟨rfl, B5.trans (hbel.mono B5.size)⟩
theorem zip_get (gs : List Nat) (lns : List (List Int)) (hl : gs.length = lns.length) (j : Nat) (hj : j < lns.length) : (List.zipWith lineVal gs lns)[j]? = some (lineVal (gs.getD j 0) (lns.getD j [])) := by
  simp [List.getD, List.getElem?_zipWith, hj, show j < gs.length by omega]
theorem lists_two {w w' : World} {base mid : Nat} {va vb v' : Value} {gsa gsb : List Nat} {lns : List (List Int)} (ha : LinesAt w base va gsa lns) (hb : LinesAt w mid vb gsb lns) (hbm : base ≤ mid) (hlt : ∀ i, i < lns.length → gsa.getD i 0 < mid) (hpos : 0 < lns.length)
    (hown : w'.ownsRow base 22 1 v' (lns.length + lns.length) (List.zipWith lineVal gsa lns ++ List.zipWith lineVal gsb lns)) (hgr : w.grownBy w' va.ownBlock) :
    ∃ Lb cap, v' = .slice (some ⟨Lb, 0, none⟩) (lns.length + lns.length) cap ∧ Lists w' base Lb 0 (lns.length + lns.length) (fun j => if j < lns.length then lineVal (gsa.getD j 0) (lns.getD j []) else lineVal (gsb.getD (j - lns.length) 0) (lns.getD (j - lns.length) [])) (fun j => if j < lns.length then lns.getD j [] else lns.getD (j - lns.length) []) := by
  obtain ⟨Lb, cap, rfl⟩ : ∃ g cap, v' = .slice (some ⟨g, 0, none⟩) (lns.length + lns.length) cap := by
    rcases hown.2 with ⟨_, h0⟩ | ⟨g, cap, cur, e, _⟩
    · omega
    · exact ⟨_, _, e⟩
  refine ⟨Lb, cap, rfl, fun j hj => ?_, ?_, fun j hj => ?_, ?_⟩
  · rw [Nat.zero_add, hown.cellAt j (by omega)]
    have hzl : (List.zipWith lineVal gsa lns).length = lns.length := by simp [ha.len]
    by_cases h1 : j < lns.length
    · simp only [if_pos h1]
      rw [List.getElem?_append_left (by omega), zip_get _ _ ha.len _ h1]
    · simp only [if_neg h1]
      rw [List.getElem?_append_right (by omega), hzl, zip_get _ _ hb.len _ (by omega)]
  · obtain ⟨cur, h2⟩ := own_type hown
    exact ⟨cur, _, h2⟩
  · by_cases h1 : j < lns.length
    · simp only [if_pos h1]
      have := ha.each j h1
      exact own_of_eq this (fun q hq => hgr.block q (this.lt q hq).2 (type_ne this ha.own (by decide) hq))
    · simp only [if_neg h1]
      have := hb.each (j - lns.length) (by omega)
      exact own_lo (own_of_eq this (fun q hq => hgr.block q (this.lt q hq).2 (type_ne this ha.own (by decide) hq))) hbm
  · have hbl : ∀ g ln, (lineVal g ln).ownBlock = some g := fun _ _ => rfl
    have hge : ∀ i, i < lns.length → mid ≤ gsb.getD i 0 := fun i hi => (line_block (hb.each i hi)).1
    have inj : ∀ (gs : List Nat), gs.Nodup → ∀ i j, i < gs.length → j < gs.length → i ≠ j → gs.getD i 0 ≠ gs.getD j 0 := fun gs hnd i j hi hj hne => by
      have hp := List.pairwise_iff_getElem.1 hnd
      have ei : gs.getD i 0 = gs[i] := by simp [List.getD, hi]
      have ej : gs.getD j 0 = gs[j] := by simp [List.getD, hj]
      rw [ei, ej]
      rcases Nat.lt_or_ge i j with h | h
      · exact hp i j hi hj h
      · exact fun e => hp j i hj hi (by omega) e.symm
    have hla := ha.len
    have hlb := hb.len
    intro j j' hj hj' hne q hq e
    by_cases h1 : j < lns.length
    · by_cases h2 : j' < lns.length
      · simp only [if_pos h1, if_pos h2, hbl, Option.some.injEq] at hq e
        exact inj gsa ha.nodup j j' (by omega) (by omega) hne (by omega)
      · simp only [if_pos h1, if_neg h2, hbl, Option.some.injEq] at hq e
        have := hlt j h1
        have := hge (j' - lns.length) (by omega)
        omega
    · by_cases h2 : j' < lns.length
      · simp only [if_neg h1, if_pos h2, hbl, Option.some.injEq] at hq e
        have := hlt j' h2
        have := hge (j - lns.length) (by omega)
        omega
      · simp only [if_neg h1, if_neg h2, hbl, Option.some.injEq] at hq e
        exact inj gsb hb.nodup (j - lns.length) (j' - lns.length) (by omega) (by omega) (by omega) (by omega)
end Go.Proofs.Ytidkdnlbecompac.mem
