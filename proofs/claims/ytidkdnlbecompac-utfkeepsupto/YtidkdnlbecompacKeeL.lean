import Derived.Test.YtidkdnlbecompacKeeW
namespace Go.Proofs.Ytidkdnlbecompac.mem
open Go.ChangeShapes Go.WideShapes Go.ChangeAt Go.RowKit
open ints (hide unhide)
set_option linter.unusedVariables false

theorem own_lt_keep {w w' : World} {base base' : Nat} {e : TypeId} {size g n cap : Nat} {xs : List Value} (h : w.ownsRow base e size (.slice (some ⟨g, 0, none⟩) n cap) n xs) (hb : Below base' w w') (hg : g < base') : w'.ownsRow base e size (.slice (some ⟨g, 0, none⟩) n cap) n xs := own_block_eq h (hb.block g hg)
set_option maxHeartbeats 4000000 in
set_option maxRecDepth 4000 in
theorem law_keeps (a : Option Addr) (n c : Nat) (l : List Int) (x : Int) (w : World) (h : Row .i32 w a n c l) (hn : n ≤ 1048576) :
    Calls Try.prog 3 #[.slice a n c, .int .i32 x] w fun e w' => e = .returned (.bool true) ∧ Below w.heap.size w w' := by
  obtain ⟨j0, hj0, hy0, hy1, hy2⟩ := info_parts infoSl
  have hlen := hide h.len
  have hbd := lines_bd l
  rw [h.len] at hbd
  have Hbd := hide hbd
  clear hbd
  go_enter Try.func3, Try.ntmps3
  go_wp2_with fail
  refine (awake_true _).mono ?_
  rintro e w1 ⟨rfl, hb⟩
  have B1 := hb
  have h1 := h.below hb
  clear h hb
  go_wp2_with fail
  refine (copiedRunes_any _ _ _ _ _ h1 (by omega)).mono ?_
  rintro e w2 ⟨rfl, ho2, hb⟩
  have B2 := B1.trans (hb.mono B1.size)
  clear hb h1
  replace ho2 := own_lo ho2 B1.size
  generalize w1.heap.size = o at *
  clear B1
  go_wp2_with fail
  refine (roomy_any _ _ _ _ _ (row_at ho2) (by omega)).mono ?_
  rintro e w3 ⟨v3, rfl, hw3, hb⟩
  have B3 := B2.trans (hb.mono B2.size)
  have ho3 := own_below ho2 hb
  obtain ⟨g3, cap3, rfl⟩ : ∃ g cap, v3 = .slice (some ⟨g, 0, none⟩) (n + 40) cap := by
    rcases hw3.2 with ⟨_, h0⟩ | ⟨g, cap, cur, hv, _⟩
    · omega
    · exact ⟨g, cap, hv⟩
  have hog : o ≠ g3 := by have := (own_lt ho2).2; have := (own_lt hw3).1; omega
  replace hw3 := own_lo hw3 B2.size
  clear B2 ho2 hb
  have hc3 : (n : Int) ≤ (cap3 : Int) := by have := (row_at hw3).le; omega
  have hol := (own_lt ho3).2
  have hgl := (own_lt hw3).2
  have B3s := B3.size
  go_wp2_with fail
  refine (lines_any _ _ _ _ _ ((row_at hw3).head (unhide hlen)) (by omega)).mono ?_
  rintro e w4 ⟨va, gsa, rfl, ha4, hb⟩
  have B4 := B3.trans (hb.mono B3.size)
  have ho4 := own_below ho3 hb
  have hw4 := own_below hw3 hb
  have hb34 := hb.size
  clear B3 ho3 hw3 hb
  have hga := hide (show ∀ i, i < (linesL l).length → gsa.getD i 0 < w4.heap.size from fun i hi => by
    obtain ⟨_, cur, h2⟩ := line_block (ha4.each i hi)
    exact (Array.getElem?_eq_some_iff.1 h2).1)
  obtain ⟨mid, hmid⟩ : ∃ mid, mid = w4.heap.size := ⟨_, rfl⟩
  go_wp2_with fail
  refine (lines_any _ _ _ _ _ ((row_at hw4).head (unhide hlen)) (by omega)).mono ?_
  rintro e w5 ⟨vb, gsb, rfl, hb5, hb⟩
  have B5 := B4.trans (hb.mono B4.size)
  have ho5 := own_below ho4 hb
  have hw5 := own_below hw4 hb
  have ha5 := ha4.below hb
  rw [← hmid] at hga hb5 hb34
  obtain ⟨base, hbase⟩ : ∃ base, base = w3.heap.size := ⟨_, rfl⟩
  rw [← hbase] at ha5 hol hgl hb34 B3s
  clear B4 ho4 hw4 ha4 hb hmid hbase
  obtain ⟨N, hN⟩ : ∃ N, N = (linesL l).length := ⟨_, rfl⟩
  have hN1 := (unhide Hbd).1
  have hN2 := (unhide Hbd).2.1
  rw [← hN] at hN1 hN2
  have HN := hide hN
  obtain ⟨ga, capa, hva, _, _⟩ := ha5.get (by rw [← hN]; omega)
  obtain ⟨gb, capb, hvb, _, _⟩ := hb5.get (by rw [← hN]; omega)
  rw [← hN] at hva hvb
  clear hN
  subst hva
  subst hvb
  go_wp2_with fail
  refine (encode_any _ _ _ _ _ ((row_at hw5).head (unhide hlen)) (by omega)).mono ?_
  rintro e w6 ⟨rfl, hb⟩
  have B6 := B5.trans (hb.mono B5.size)
  have ho6 := own_below ho5 hb
  have hw6 := own_below hw5 hb
  have ha6 := ha5.below hb
  have hb6 := hb5.below hb
  clear B5 hb ho5 hw5 ha5 hb5
  generalize hS : encS l = S at *
  generalize hK : l.all scB = ok at *
  have HS := hide hS
  have HK := hide hK
  clear hS hK
  have Enc := hide (rencode_any _ _ _ _ _ (row_at ho6) (by omega))
  rw [unhide HS, unhide HK] at Enc
  clear HS HK
  go_wp2_with fail
  refine (unhide Enc).mono ?_
  rintro e w7 ⟨rfl, hb⟩
  clear Enc
  have B7 := B6.trans (hb.mono B6.size)
  have ho7 := own_below ho6 hb
  have hw7 := own_below hw6 hb
  have ha7 := ha6.below hb
  have hb7 := hb6.below hb
  clear B6 hb ho6 hw6 ha6 hb6
  skip
  go_wp2_with fail
  refine (untouched_true _ _ _ _ _ _ _ (row_at hw7) (row_at ho7) (by omega)).mono ?_
  rintro e w8 ⟨rfl, hb⟩
  have B8 := B7.trans (hb.mono B7.size)
  have ho8 := own_below ho7 hb
  have hw8 := own_below hw7 hb
  have ha8 := ha7.below hb
  have hb8 := hb7.below hb
  clear B7 hb ho7 hw7 ha7 hb7
  go_wp2_with fail
  refine (lined_true _ _ _ _ _ _ _ _ ha8 (row_at ho8) (by omega)).mono ?_
  rintro e w9 ⟨rfl, hb⟩
  have B9 := B8.trans (hb.mono B8.size)
  have ho9 := own_below ho8 hb
  have hw9 := own_below hw8 hb
  have ha9 := ha8.below hb
  have hb9 := hb8.below hb
  clear B8 hb ho8 hw8 ha8 hb8
  go_wp2_with fail
  refine (lined_true _ _ _ _ _ _ _ _ hb9 (row_at ho9) (by omega)).mono ?_
  rintro e w10 ⟨rfl, hb⟩
  have B10 := B9.trans (hb.mono B9.size)
  have ho10 := own_below ho9 hb
  have hw10 := own_below hw9 hb
  have ha10 := ha9.below hb
  have hb10 := hb9.below hb
  clear B9 hb ho9 hw9 ha9 hb9
  have hav := ha10.own
  rw [← unhide HN] at hav
  obtain ⟨g2, cap2, e2, _, hbc⟩ := hb10.get (by rw [← unhide HN]; omega)
  simp only [Value.slice.injEq, Option.some.injEq, Addr.mk.injEq, and_true] at e2
  obtain ⟨rfl, -, rfl⟩ := e2
  have hzb : (List.zipWith lineVal gsb (linesL l)).length = N * 1 := by rw [unhide HN]; simp [hb10.len]
  have hcb : ∀ j u, (List.zipWith lineVal gsb (linesL l))[j]? = some u → w10.cell? ((⟨gb, 0, none⟩ : Addr).add j) = some u := by
    intro j u hu
    have hj : j < (linesL l).length := by have := (List.getElem?_eq_some_iff.1 hu).1; simp [hb10.len] at this; exact this
    rw [zip_get _ _ hb10.len _ hj] at hu
    obtain rfl := Option.some.inj hu
    rw [Addr.add_lit, Nat.zero_add]
    exact (hbc j hj).1
  have hone : ∀ u ∈ List.zipWith lineVal gsb (linesL l), u.oneCell' = true := by
    intro u hu
    obtain ⟨i, hi, rfl⟩ := List.mem_iff_getElem.1 hu
    rw [List.getElem_zipWith]
    rfl
  have Hzb := hide hzb
  have Hcb := hide hcb
  have Hone := hide hone
  have Hav := hide hav
  have HaL := hide ha10
  have HbL := hide hb10
  have B10s := B10.size
  have hbs : base ≤ w10.heap.size := by have := own_lt (unhide Hav); omega
  clear hzb hcb hone hav hbc ha10 hb10
  go_wp2_with (at_builtin; refine wpList_append_own _ rfl (.tmp 68) (.tmp 69) 25 rfl base 22 j0 (.slice none 0 0) 1 24 Try.underlying25 hj0 hy0 hy1 hy2 rfl (by decide) _ _ _ rfl (unhide Hav) ⟨gb, 0, none⟩ N capb (List.zipWith lineVal gsb (linesL l)) rfl (unhide Hzb) (unhide Hcb) (unhide Hone) (by unfold maxLen; omega) (by omega) hbs ?_; intro v11 w11 hown11 hgrow11 _)
  have ho11 := own_of_eq ho10 (fun q hq => hgrow11.block q (ho10.lt q hq).2 (type_ne ho10 (unhide Hav) (by decide) hq))
  have hw11 := own_of_eq hw10 (fun q hq => hgrow11.block q (hw10.lt q hq).2 (type_ne hw10 (unhide Hav) (by decide) hq))
  have B11 := B10.grown hgrow11 B10s (fun k hk => by have := ((unhide Hav).lt k hk).1; omega)
  have h11s := hgrow11.size
  rw [unhide HN] at hown11
  obtain ⟨Lb, capL, rfl, hLs⟩ := lists_two (unhide HaL) (unhide HbL) hb34 (unhide hga) (by rw [← unhide HN]; omega) hown11 hgrow11
  rw [← unhide HN] at hLs ⊢
  have HLs := hide hLs
  have Hl40 := hide (show ∀ j, ((fun j => if j < N then (linesL l).getD j [] else (linesL l).getD (j - N) []) j).length ≤ 1099511627776 from fun j => by
    have h1 := (unhide Hbd).2.2 j
    have h2 := (unhide Hbd).2.2 (j - N)
    by_cases hj : j < N
    · simp only [if_pos hj]; omega
    · simp only [if_neg hj]; omega)
  clear ho10 hw10 B10 hgrow11 hown11 hLs Hav Hzb Hcb Hone HaL HbL
  refine (apart_true _ _ _ _ _ _ _ _ (unhide HLs) (by omega) (unhide Hl40) (by omega)).mono ?_
  rintro e w12 ⟨rfl, hb⟩
  have B12 := B11.trans (hb.mono B3s)
  have ho12 := own_lt_keep ho11 hb hol
  have hw12 := own_lt_keep hw11 hb hgl
  clear HLs Hl40 B11 ho11 hw11 hb
  go_wp2_with fail
  refine (untouched_true _ _ _ _ _ _ _ (row_at hw12) (row_at ho12) (by omega)).mono ?_
  rintro e w13 ⟨rfl, hb⟩
  have B13 := B12.trans (hb.mono B12.size)
  have ho13 := own_below ho12 hb
  have hw13 := own_below hw12 hb
  clear B12 ho12 hw12 hb hga Hbd HN
  go_wp2
  go_loopw [14] (fun i wr => ∃ k : Nat, k ≤ n ∧ i = .int .i64 k ∧ wr.ownsRow w.heap.size 21 1 (.slice (some ⟨o, 0, none⟩) n n) n ((setTo l x k).map (Value.int .i32)) ∧ wr.ownsRow w.heap.size 21 1 (.slice (some ⟨g3, 0, none⟩) (n + 40) cap3) (n + 40) ((setTo (l ++ marksL 40) x k).map (Value.int .i32)) ∧ Below w.heap.size w wr) (fun i _ => n - (intOf i).toNat)
  case atStart => exact ⟨0, Nat.zero_le _, rfl, by rw [setTo_zero]; exact ho13, by rw [setTo_zero]; exact hw13, B13⟩
  case round =>
    obtain ⟨k, hk, rfl, hok, hwk, hbk⟩ := hrel
    by_cases hlt : k < n
    · have ki : (k : Int) < (n : Int) := by omega
      have ki2 : (k : Int) < (n : Int) + 40 := by omega
      have hll := unhide hlen
      have c1 : ∃ v, wr.cell? ⟨o, k, none⟩ = some v := ⟨_, by rw [hok.cellAt k (by omega), List.getElem?_eq_getElem (by rw [hok.1]; omega)]⟩
      obtain ⟨u1, c1⟩ := c1
      have f1 := hok.frozenAt k
      have hok1 := (hok.stored k (.int .i32 x)).1
      have hwk1 := ownsRow_setCell_other hwk (a := ⟨o, k, none⟩) (fun e => hog (Option.some.inj e).symm) (.int .i32 x)
      have hbk1 : Below w.heap.size w (wr.setCell ⟨o, k, none⟩ (.int .i32 x)) := hbk.setCell (own_lt hok).1 _
      have c2 : ∃ v, (wr.setCell ⟨o, k, none⟩ (.int .i32 x)).cell? ⟨g3, k, none⟩ = some v := ⟨_, by rw [hwk1.cellAt k (by omega), List.getElem?_eq_getElem (by rw [hwk1.1]; omega)]⟩
      obtain ⟨u2, c2⟩ := c2
      have f2 := hwk1.frozenAt k
      have hwk2 := (hwk1.stored k (.int .i32 x)).1
      have hok2 := ownsRow_setCell_other hok1 (a := ⟨g3, k, none⟩) (fun e => hog (Option.some.inj e)) (.int .i32 x)
      have hbk2 : Below w.heap.size w ((wr.setCell ⟨o, k, none⟩ (.int .i32 x)).setCell ⟨g3, k, none⟩ (.int .i32 x)) := hbk1.setCell (own_lt hwk1).1 _
      rw [map_set_int, setTo_set _ _ _ (by rw [hll]; exact hlt)] at hok2
      rw [map_set_int, setTo_set _ _ _ (by rw [List.length_append, hll]; omega)] at hwk2
      have HO := hide hok2
      have HW := hide hwk2
      have HB := hide hbk2
      clear hok hwk hbk hok1 hwk1 hbk1 hok2 hwk2 hbk2 hll
      go_wp2
      go_roundw
      case rel => exact ⟨k + 1, by omega, by go_num, unhide HO, unhide HW, unhide HB⟩
      case measure => simp [intOf]; omega
    · have ki : ¬ (k : Int) < (n : Int) := by omega
      have ek : k = n := by omega
      subst ek
      rw [setTo_full _ _ _ (unhide hlen)] at hok
      rw [setTo_all _ _ _ _ (unhide hlen)] at hwk
      have hlr : (List.replicate k x).length = k := by simp
      have Hlr := hide hlr
      clear hlr
      obtain ⟨w14, hw14⟩ : ∃ w14, w14 = wr := ⟨_, rfl⟩
      subst hw14
      generalize List.replicate k x = L at *
      have EncA := hide (encode_any _ _ _ _ _ ((row_at hwk).head (unhide Hlr)) (by omega))
      generalize hS2 : encS L = S2 at *
      generalize hK2 : L.all scB = ok2 at *
      have HS2 := hide hS2
      have HK2 := hide hK2
      clear hS2 hK2
      go_wp2_with fail
      refine (unhide EncA).mono ?_
      rintro e w15 ⟨rfl, hb⟩
      have B15 := hbk.trans (hb.mono hbk.size)
      have ho15 := own_below hok hb
      have hw15 := own_below hwk hb
      clear hbk hok hwk hb EncA
      have EncB := hide (rencode_any _ _ _ _ _ (row_at ho15) (by omega))
      rw [unhide HS2, unhide HK2] at EncB
      clear HS2 HK2
      go_wp2_with fail
      refine (unhide EncB).mono ?_
      rintro e w16 ⟨rfl, hb⟩
      have B16 := B15.trans (hb.mono B15.size)
      have ho16 := own_below ho15 hb
      have hw16 := own_below hw15 hb
      clear B15 ho15 hw15 hb EncB
      go_wp2_with fail
      refine (lines_any _ _ _ _ _ ((row_at hw16).head (unhide Hlr)) (by omega)).mono ?_
      rintro e w17 ⟨v17, gs17, rfl, hl17, hb⟩
      have B17 := B16.trans (hb.mono B16.size)
      have ho17 := own_below ho16 hb
      have hw17 := own_below hw16 hb
      clear B16 ho16 hw16 hb
      go_wp2_with fail
      refine (lined_true _ _ _ _ _ _ _ _ hl17 (row_at ho17) (by omega)).mono ?_
      rintro e w18 ⟨rfl, hb⟩
      have B18 := B17.trans (hb.mono B17.size)
      have ho18 := own_below ho17 hb
      have hw18 := own_below hw17 hb
      clear B17 ho17 hw17 hb hl17
      go_wp2_with fail
      refine (untouched_true _ _ _ _ _ _ _ (row_at hw18) (row_at ho18) (by omega)).mono ?_
      rintro e w19 ⟨rfl, hb⟩
      have B19 := B18.trans (hb.mono B18.size)
      clear B18 ho18 hw18 hb
      go_wp2
      go_ret
      exact ⟨rfl, B19⟩
end Go.Proofs.Ytidkdnlbecompac.mem
