import Derived.Test.YtidkdnlbecompacWri
namespace Go.Proofs.Ytidkdnlbecompac.mem
open Go.ChangeShapes Go.WideShapes Go.ChangeAt Go.RowKit
open ints (hide unhide)
set_option linter.unusedVariables false

theorem posAt_own {w : World} {base g cap n : Nat} {l : List Int} (h : w.ownsRow base 43 2 (.slice (some ⟨g, 0, none⟩) (n + 1) cap) (n + 1) (posCells (plist l (n + 1)))) : PosAt w g n l := by
  obtain ⟨g', cap', e, hg, hc⟩ := pos_some h
  simp only [Value.slice.injEq, Option.some.injEq, Addr.mk.injEq, and_true, true_and] at e
  obtain ⟨rfl, rfl⟩ := e
  exact ⟨hg, hc⟩
theorem clampN_self (n : Nat) : clampN (n : Int) n = n := by
  have := clampN_eq (n : Int) n
  omega
set_option maxHeartbeats 4000000 in
theorem law_spots (a : Option Addr) (n c : Nat) (l : List Int) (x : Int) (w : World) (h : Row .i32 w a n c l) (hn : n ≤ 1099511627000) :
    Calls Try.prog 5 #[.slice a n c, .int .i32 x] w fun e w' => e = .returned (.bool true) ∧ Below w.heap.size w w' := by
  obtain ⟨i0, hi, hz0, hz1, hz2⟩ := info_parts infoPos
  have hlen := hide h.len
  go_enter Try.func5, Try.ntmps5
  go_wp2_with fail
  refine (awake_true _).mono ?_
  rintro e w1 ⟨rfl, hb⟩
  have B1 := hb
  have h1 := h.below hb
  clear h hb
  go_wp2_with fail
  refine (copiedRunes_any _ _ _ _ _ h1 (by omega)).mono ?_
  rintro e w2 ⟨rfl, ho2, hb⟩
  have B2 := B1.trans (hb.mono B1.size)
  clear hb h1
  replace ho2 := own_lo ho2 B1.size
  generalize w1.heap.size = o at *
  clear B1
  go_wp2_with fail
  refine (roomy_any _ _ _ _ _ (row_at ho2) (by omega)).mono ?_
  rintro e w3 ⟨v3, rfl, hw3, hb⟩
  have B3 := B2.trans (hb.mono B2.size)
  have ho3 := own_below ho2 hb
  obtain ⟨g3, cap3, rfl⟩ : ∃ g cap, v3 = .slice (some ⟨g, 0, none⟩) (n + 40) cap := by
    rcases hw3.2 with ⟨_, h0⟩ | ⟨g, cap, cur, hv, _⟩
    · omega
    · exact ⟨g, cap, hv⟩
  have hog : o ≠ g3 := by have := (own_lt ho2).2; have := (own_lt hw3).1; omega
  replace hw3 := own_lo hw3 B2.size
  clear B2 ho2 hb
  have hc3 : (n : Int) ≤ (cap3 : Int) := by have := (row_at hw3).le; omega
  go_wp2_with fail
  refine (places_any _ _ _ _ _ ((row_at hw3).head (unhide hlen)) (by omega)).mono ?_
  rintro e w4 ⟨rfl, ha4, hb⟩
  have B4 := B3.trans (hb.mono B3.size)
  have ho4 := own_below ho3 hb
  have hw4 := own_below hw3 hb
  replace ha4 := own_lo ha4 (show w.heap.size ≤ w3.heap.size + 1 by have := B3.size; omega)
  generalize w3.heap.size + 1 = A at *
  clear B3 ho3 hw3 hb
  go_wp2_with fail
  refine (places_any _ _ _ _ _ ((row_at hw4).head (unhide hlen)) (by omega)).mono ?_
  rintro e w5 ⟨rfl, hb5, hb⟩
  have B5 := B4.trans (hb.mono B4.size)
  have ho5 := own_below ho4 hb
  have hw5 := own_below hw4 hb
  have ha5 := own_below ha4 hb
  have hAB : A ≠ w4.heap.size + 1 := by have := (own_lt ha4).2; omega
  replace hb5 := own_lo hb5 (show w.heap.size ≤ w4.heap.size + 1 by have := B4.size; omega)
  generalize w4.heap.size + 1 = Q at *
  clear B4 ho4 hw4 ha4 hb
  go_wp2_with fail
  refine (spotted_true _ _ _ _ _ _ _ (posAt_own ha5) (row_at ho5) (by omega)).mono ?_
  rintro e w6 ⟨rfl, hb⟩
  have B6 := B5.trans (hb.mono B5.size)
  have ho6 := own_below ho5 hb
  have hw6 := own_below hw5 hb
  have ha6 := own_below ha5 hb
  have hb6 := own_below hb5 hb
  clear B5 hb ho5 hw5 ha5 hb5
  go_wp2_with fail
  refine (spotted_true _ _ _ _ _ _ _ (posAt_own hb6) (row_at ho6) (by omega)).mono ?_
  rintro e w7 ⟨rfl, hb⟩
  have B7 := B6.trans (hb.mono B6.size)
  have ho7 := own_below ho6 hb
  have hw7 := own_below hw6 hb
  have ha7 := own_below ha6 hb
  have hb7 := own_below hb6 hb
  clear B6 hb ho6 hw6 ha6 hb6
  go_wp2_with fail
  refine (place_any _ _ _ _ _ _ ((row_at hw7).head (unhide hlen)) (by omega)).mono ?_
  rintro e w8 ⟨rfl, hb⟩
  have B8 := B7.trans (hb.mono B7.size)
  have ho8 := own_below ho7 hb
  have hw8 := own_below hw7 hb
  have ha8 := own_below ha7 hb
  have hb8 := own_below hb7 hb
  clear B7 hb ho7 hw7 ha7 hb7
  rw [clampN_self]
  go_wp2_with fail
  refine (rplace_any _ _ _ _ _ _ (row_at ho8) (by omega) (by omega) (by omega)).mono ?_
  rintro e w9 ⟨rfl, hb⟩
  have B9 := B8.trans (hb.mono B8.size)
  have ho9 := own_below ho8 hb
  have hw9 := own_below hw8 hb
  have ha9 := own_below ha8 hb
  have hb9 := own_below hb8 hb
  clear B8 hb ho8 hw8 ha8 hb8
  rw [clampN_self]
  obtain ⟨X, hX⟩ : ∃ X, X = (posT l n).1 := ⟨_, rfl⟩
  obtain ⟨Y, hY⟩ : ∃ Y, Y = (posT l n).2 := ⟨_, rfl⟩
  rw [← hX, ← hY]
  clear hX hY
  go_wp2_with fail
  refine (untouched_true _ _ _ _ _ _ _ (row_at hw9) (row_at ho9) (by omega)).mono ?_
  rintro e w10 ⟨rfl, hb⟩
  have B10 := B9.trans (hb.mono B9.size)
  have ho10 := own_below ho9 hb
  have hw10 := own_below hw9 hb
  have ha10 := own_below ha9 hb
  have hb10 := own_below hb9 hb
  clear B9 hb ho9 hw9 ha9 hb9
  have hoA := own_ne ho10 ha10 (by decide)
  have hgA := own_ne hw10 ha10 (by decide)
  have hA0 := own_lt ha10
  go_wp2
  go_loopw [10] (fun i wr => ∃ (k : Nat) (xs : List Value), k ≤ n + 1 ∧ i = .int .i64 k ∧ wr.ownsRow w.heap.size 43 2 (.slice (some ⟨A, 0, none⟩) (n + 1) (n + 1)) (n + 1) xs ∧ w10.grownBy wr (some A)) (fun i _ => n + 1 - (intOf i).toNat)
  case atStart => exact ⟨0, _, Nat.zero_le _, rfl, ha10, World.grownBy.refl _ _⟩
  case round =>
    obtain ⟨k, xs, hk, rfl, hak, hgk⟩ := hrel
    by_cases hlt : k < n + 1
    · have ki : (k : Int) < (n : Int) + 1 := by omega
      have hxl : xs.length = (n + 1) * 2 := hak.1
      have c1 : ∃ v, wr.cell? ⟨A, k * 2, none⟩ = some v := ⟨xs[k * 2]'(by omega), by rw [hak.cellAt (k * 2) (by omega)]; simp [show k * 2 < xs.length by omega]⟩
      have c2 : ∃ v, wr.cell? ⟨A, k * 2 + 1, none⟩ = some v := ⟨xs[k * 2 + 1]'(by omega), by rw [hak.cellAt (k * 2 + 1) (by omega)]; simp [show k * 2 + 1 < xs.length by omega]⟩
      obtain ⟨u1, c1⟩ := c1
      obtain ⟨u2, c2⟩ := c2
      have f1 := hak.frozenAt (k * 2)
      have f2 := hak.frozenAt (k * 2 + 1)
      have S1 := hak.stored (k * 2) (.int .i64 (-1))
      have S2 := S1.1.stored (k * 2 + 1) (.int .i64 (-1))
      have HS := hide (show _ ∧ _ from ⟨S2.1, grown_more (grown_more hgk S1.2 (fun q hq => .inl (Option.some.inj hq).symm)) S2.2 (fun q hq => .inl (Option.some.inj hq).symm)⟩)
      clear S1 S2 hak hgk hxl
      go_wp2
      go_roundw
      case rel => exact ⟨k + 1, _, by omega, by go_num, (unhide HS).1, (unhide HS).2⟩
      case measure => simp [intOf]; omega
    · have ki : ¬ (k : Int) < (n : Int) + 1 := by omega
      obtain ⟨w11, hw11⟩ : ∃ w11, w11 = wr := ⟨_, rfl⟩
      subst hw11
      have hbA := own_lt hb10
      go_wp2
      go_loopw [11, 12] (fun v i wr => ∃ (j : Nat) (xs : List Value), j ≤ 17 ∧ i = .int .i64 j ∧ wr.ownsRow w.heap.size 43 2 v (n + 1 + j) xs ∧ w10.grownBy wr (some A) ∧ ∀ q, v.ownBlock = some q → q = A ∨ w10.heap.size ≤ q) (fun _ i _ => 17 - (intOf i).toNat)
      case atStart => exact ⟨0, _, Nat.zero_le _, rfl, hak, hgk, fun q hq => .inl (Option.some.inj hq).symm⟩
      case round =>
        obtain ⟨j, xs, hj, rfl, hak, hgk, hat⟩ := hrel
        by_cases hlt : j < 17
        · have ji : (j : Int) < 17 := by omega
          have hsz := hgk.size
          have hB10 := B10.size
          have hcel := cell_two wr (.int .i64 (-2)) (.int .i64 (-2)) 43
          have Hat := hide hat
          have Hgk := hide hgk
          clear hat hgk
          go_wp2_with (at_builtin; refine wpList_append_own_at _ rfl (.tmp 72) (.tmp 74) 39 rfl w.heap.size 43 i0 (.agg #[.int .i64 0, .int .i64 0]) 2 16 Try.underlying39 hi hz0 hz1 hz2 rfl (by decide) _ _ _ rfl (hak.alloc _) ⟨wr.heap.size, 0, none⟩ 1 1 [.int .i64 (-2), .int .i64 (-2)] rfl rfl hcel (one_two _ _) (by unfold maxLen; omega) (by omega) (by simp; omega) ?_; intro v' w12 hown' hgrow _ hat')
          go_roundw
          case rel =>
            refine ⟨j + 1, _, by omega, by go_num, hown', ?_, ?_⟩
            · exact grown_more (grown_more (unhide Hgk) (World.grownBy_alloc wr _ none) (fun q hq => by cases hq)) hgrow (unhide Hat)
            · intro q hq
              rcases hat' with e | e
              · exact unhide Hat q (e ▸ hq)
              · rw [e] at hq
                have := Option.some.inj hq
                simp at this
                omega
          case measure => simp [intOf]; omega
        · have ji : ¬ (j : Int) < 17 := by omega
          have ej : j = 17 := by omega
          subst ej
          obtain ⟨w12, hw12⟩ : ∃ w12, w12 = wr := ⟨_, rfl⟩
          subst hw12
          have hol := own_lt ho10
          have hwl := own_lt hw10
          have ho12 := own_block_eq ho10 (hgk.block o hol.2 (fun e => hoA (Option.some.inj e)))
          have hw12 := own_block_eq hw10 (hgk.block g3 hwl.2 (fun e => hgA (Option.some.inj e)))
          have hb12 := own_block_eq hb10 (hgk.block Q hbA.2 (fun e => hAB (Option.some.inj e).symm))
          have B12 := grown_below B10 hgk hA0.1 B10.size
          obtain ⟨av, ac, rfl⟩ : ∃ a c, u11 = .slice a (n + 1 + 17) c := by
            rcases hak.2 with ⟨_, h0⟩ | ⟨g, cap, cur, hv, _⟩
            · omega
            · exact ⟨_, _, hv⟩
          clear ho10 hw10 ha10 hb10 B10 hgk hat hak
          go_wp2_with fail
          refine (spotted_true _ _ _ _ _ _ _ (posAt_own hb12) (row_at ho12) (by omega)).mono ?_
          rintro e w13 ⟨rfl, hb⟩
          have B13 := B12.trans (hb.mono B12.size)
          have ho13 := own_below ho12 hb
          have hw13 := own_below hw12 hb
          clear B12 ho12 hw12 hb12 hb
          go_wp2
          go_loopw [13] (fun i wr => ∃ k : Nat, k ≤ n ∧ i = .int .i64 k ∧ wr.ownsRow w.heap.size 21 1 (.slice (some ⟨o, 0, none⟩) n n) n ((setTo l x k).map (Value.int .i32)) ∧ wr.ownsRow w.heap.size 21 1 (.slice (some ⟨g3, 0, none⟩) (n + 40) cap3) (n + 40) ((setTo (l ++ marksL 40) x k).map (Value.int .i32)) ∧ Below w.heap.size w wr) (fun i _ => n - (intOf i).toNat)
          case atStart => exact ⟨0, Nat.zero_le _, rfl, by rw [setTo_zero]; exact ho13, by rw [setTo_zero]; exact hw13, B13⟩
          case round =>
            obtain ⟨k, hk, rfl, hok, hwk, hbk⟩ := hrel
            by_cases hlt : k < n
            · have ki : (k : Int) < (n : Int) := by omega
              have ki2 : (k : Int) < (n : Int) + 40 := by omega
              have hll := unhide hlen
              have c1 : ∃ v, wr.cell? ⟨o, k, none⟩ = some v := ⟨_, by rw [hok.cellAt k (by omega), List.getElem?_eq_getElem (by rw [hok.1]; omega)]⟩
              obtain ⟨u1, c1⟩ := c1
              have f1 := hok.frozenAt k
              have hok1 := (hok.stored k (.int .i32 x)).1
              have hwk1 := ownsRow_setCell_other hwk (a := ⟨o, k, none⟩) (fun e => hog (Option.some.inj e).symm) (.int .i32 x)
              have hbk1 : Below w.heap.size w (wr.setCell ⟨o, k, none⟩ (.int .i32 x)) := hbk.setCell (own_lt hok).1 _
              have c2 : ∃ v, (wr.setCell ⟨o, k, none⟩ (.int .i32 x)).cell? ⟨g3, k, none⟩ = some v := ⟨_, by rw [hwk1.cellAt k (by omega), List.getElem?_eq_getElem (by rw [hwk1.1]; omega)]⟩
              obtain ⟨u2, c2⟩ := c2
              have f2 := hwk1.frozenAt k
              have hwk2 := (hwk1.stored k (.int .i32 x)).1
              have hok2 := ownsRow_setCell_other hok1 (a := ⟨g3, k, none⟩) (fun e => hog (Option.some.inj e)) (.int .i32 x)
              have hbk2 : Below w.heap.size w ((wr.setCell ⟨o, k, none⟩ (.int .i32 x)).setCell ⟨g3, k, none⟩ (.int .i32 x)) := hbk1.setCell (own_lt hwk1).1 _
              rw [map_set_int, setTo_set _ _ _ (by rw [hll]; exact hlt)] at hok2
              rw [map_set_int, setTo_set _ _ _ (by rw [List.length_append, hll]; omega)] at hwk2
              have HO := hide hok2
              have HW := hide hwk2
              have HB := hide hbk2
              clear hok hwk hbk hok1 hwk1 hbk1 hok2 hwk2 hbk2 hll
              go_wp2
              go_roundw
              case rel => exact ⟨k + 1, by omega, by go_num, unhide HO, unhide HW, unhide HB⟩
              case measure => simp [intOf]; omega
            · have ki : ¬ (k : Int) < (n : Int) := by omega
              have ek : k = n := by omega
              subst ek
              rw [setTo_full _ _ _ (unhide hlen)] at hok
              rw [setTo_all _ _ _ _ (unhide hlen)] at hwk
              have hlr : (List.replicate k x).length = k := by simp
              have Hlr := hide hlr
              clear hlr
              obtain ⟨w14, hw14⟩ : ∃ w14, w14 = wr := ⟨_, rfl⟩
              subst hw14
              generalize List.replicate k x = L at *
              go_wp2_with fail
              refine (places_any _ _ _ _ _ ((row_at hwk).head (unhide Hlr)) (by omega)).mono ?_
              rintro e w15 ⟨rfl, ha15, hb⟩
              have B15 := hbk.trans (hb.mono hbk.size)
              have ho15 := own_below hok hb
              have hw15 := own_below hwk hb
              clear hbk hok hwk hb
              go_wp2_with fail
              refine (spotted_true _ _ _ _ _ _ _ (posAt_own ha15) (row_at ho15) (by omega)).mono ?_
              rintro e w16 ⟨rfl, hb⟩
              have B16 := B15.trans (hb.mono B15.size)
              have ho16 := own_below ho15 hb
              have hw16 := own_below hw15 hb
              clear B15 ho15 hw15 hb ha15
              go_wp2_with fail
              refine (untouched_true _ _ _ _ _ _ _ (row_at hw16) (row_at ho16) (by omega)).mono ?_
              rintro e w17 ⟨rfl, hb⟩
              have B17 := B16.trans (hb.mono B16.size)
              have ho17 := own_below ho16 hb
              have hw17 := own_below hw16 hb
              clear B16 ho16 hw16 hb
              go_wp2_with fail
              refine (place_any _ _ _ _ _ _ ((row_at hw17).head (unhide Hlr)) (by omega)).mono ?_
              rintro e w18 ⟨rfl, hb⟩
              have B18 := B17.trans (hb.mono B17.size)
              have ho18 := own_below ho17 hb
              clear B17 ho17 hw17 hb
              rw [clampN_self]
              go_wp2_with fail
              refine (rplace_any _ _ _ _ _ _ (row_at ho18) (by omega) (by omega) (by omega)).mono ?_
              rintro e w19 ⟨rfl, hb⟩
              have B19 := B18.trans (hb.mono B18.size)
              clear B18 ho18 hb
              rw [clampN_self]
              generalize (posT L k).1 = X at *
              generalize (posT L k).2 = Y at *
              go_wp2
              go_ret
              exact ⟨rfl, B19⟩
end Go.Proofs.Ytidkdnlbecompac.mem
