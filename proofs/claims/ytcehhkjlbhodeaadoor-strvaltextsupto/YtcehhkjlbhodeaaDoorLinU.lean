import Derived.Test.YtcehhkjlbhodeaaDoorLin
namespace Go.Proofs.YtcehhkjlbhodeaaDoor.mem
open Go.ChangeShapes Go.WideShapes Go.ChangeAt Go.RowKit
open ints (hide unhide)
set_option linter.unusedVariables false

theorem infoSl : (Tryd.prog.info? 37).map (fun i => (i.zero, i.size, i.bytes)) = some (some (.slice none 0 0), 1, 24) := by kernel_rfl
theorem cut_len (l : List Int) (a b : Nat) (h : b ≤ l.length) : (cut l a b).length = b - a := by simp [cut]; omega
theorem Row.sub {k : IntKind} {w : World} {b off n c : Nat} {l : List Int} (hl : l.length = n) (hc : n ≤ c) {f t : Nat} (hft : f ≤ t) (ht : t ≤ n) (hbw : b < w.heap.size) (hcell : ∀ i, i < n → w.cell? ⟨b, off + i, none⟩ = some (.int k (l.getD i 0))) :
    Row k w (some ⟨b, off + f, none⟩) (t - f) (c - f) (cut l f t) := by
  refine ⟨cut_len l f t (by omega), by omega, (fun e => by cases e), .inr ⟨b, off + f, rfl, hbw, fun i hi => ?_⟩⟩
  rw [Nat.add_assoc, hcell (f + i) (by omega)]
  simp [cut, List.getD, hi]
theorem one_val (v : Value) (h : v.oneCell' = true) : ∀ u ∈ [v], u.oneCell' = true := by intro u hu; simp at hu; subst hu; exact h
theorem cellv (w : World) (x : Value) (t : TypeId) : ∀ j u, [x][j]? = some u → (w.alloc (.cells #[x] t)).cell? ((⟨w.heap.size, 0, none⟩ : Addr).add j) = some u := by
  intro j u hj
  match j, hj with
  | 0, hj => simp at hj; subst hj; simp [Addr.add]
  | (j + 1), hj => simp at hj
theorem rowZ {k : IntKind} {w : World} {a : Option Addr} {n c : Nat} (h : n = 0) (hn : a = none → c = 0) : Row k w a n c [] := ⟨by simp [h], by omega, hn, .inl h⟩
theorem linesNil (w : World) (base : Nat) : LinesAt w base (.slice none 0 0) [] [] := ⟨rfl, World.ownsRow_nil _ _ _ _, fun i hi => by simp at hi, List.nodup_nil⟩
theorem linesTo_yes {l : List Int} {k : Nat} (h : enB l k = true) : linesTo l (k + 1) = ((linesTo l k).1 ++ [cut l (linesTo l k).2 (toOf l k)], k + 1) := by simp [linesTo, h]
theorem linesTo_no {l : List Int} {k : Nat} (h : enB l k = false) : linesTo l (k + 1) = linesTo l k := by simp [linesTo, h]
/-- pairedAt(chars, k - 1), k from 0 on. -/
theorem paired_pred (a : Option Addr) (n c : Nat) (l : List Int) (k : Nat) (w : World) (h : Row .i32 w a n c l) (hn : n ≤ 9223372036854775806) (hk : k ≤ n) :
    Calls Tryd.prog 37 #[.slice a n c, .int .i64 ((k : Int) - 1)] w fun e w' => e = .returned (.bool (decide (1 ≤ k) && prB l (k - 1))) ∧ w' = w := by
  cases k with
  | zero => exact paired_neg a n c w
  | succ k =>
    have e : (((k + 1 : Nat) : Int) - 1) = (k : Int) := by omega
    rw [e]
    have := paired_nat a n c l k w h hn (by omega)
    simpa using this
set_option maxHeartbeats 2000000 in
theorem lines_any (a : Option Addr) (n c : Nat) (l : List Int) (w : World) (h : Row .i32 w a n c l) (hn : n ≤ 1099511627776) :
    Calls Tryd.prog 16 #[.slice a n c] w fun e w' => ∃ v gs, e = .returned v ∧ LinesAt w' w.heap.size v gs (linesL l) ∧ Below w.heap.size w w' := by
  obtain ⟨i0, hi, hz0, hz1, hz2⟩ := info_parts infoSl
  go_enter Tryd.func16, Tryd.ntmps16
  go_wp2
  go_loopw [3, 4, 9] (fun v f i wr => ∃ (k : Nat) (gs : List Nat), k ≤ n ∧ i = .int .i64 k ∧ f = .int .i64 ((linesTo l k).2 : Nat) ∧ LinesAt wr w.heap.size v gs (linesTo l k).1 ∧ Below w.heap.size w wr) (fun _ _ i _ => n - (intOf i).toNat)
  case atStart => exact ⟨0, [], Nat.zero_le _, rfl, rfl, linesNil _ _, Below.refl _ _⟩
  case round =>
    obtain ⟨k, gs, hk, rfl, rfl, hat, hbel⟩ := hrel
    have hinv := linesTo_inv l k
    have hft := from_to l k
    obtain ⟨F, hF⟩ : ∃ F, F = (linesTo l k).2 := ⟨_, rfl⟩
    obtain ⟨L, hL⟩ : ∃ L, L = (linesTo l k).1 := ⟨_, rfl⟩
    rw [← hF] at hinv hft ⊢
    rw [← hL] at hat hinv
    have HF := hide hF
    have HL := hide hL
    clear hF hL
    by_cases hlt : k < n
    · have hr := h.below hbel
      have P := hide (ends_any a n c l k wr hr (by omega) hlt)
      have hki : (k : Int) < (n : Int) := by omega
      cases hp : enB l k
      · rw [hp] at P
        have HP := hide hp
        clear hp
        go_wp2_with fail
        refine (unhide P).mono ?_
        rintro e w' ⟨rfl, rfl⟩
        clear P
        go_wp2
        go_roundw
        case rel => exact ⟨k + 1, gs, by omega, by go_num, by rw [linesTo_no (unhide HP), ← unhide HF], by rw [linesTo_no (unhide HP), ← unhide HL]; exact hat, hbel⟩
        case measure => simp [intOf]; omega
      · rw [hp] at P
        have HP := hide hp
        have Q := hide (paired_pred a n c l k wr hr (by omega) (by omega))
        obtain ⟨T, hT⟩ : ∃ T, T = toOf l k := ⟨_, rfl⟩
        rw [← hT] at hft
        have HT := hide hT
        rcases h.at_ with h0 | ⟨b, off, rfl, hbw, hcell⟩
        · omega
        have hle := h.le
        have hsub := Row.sub (k := .i32) (w := wr) (b := b) (off := off) (c := c) h.len hle hft.1 (show T ≤ n by omega) (Nat.lt_of_lt_of_le hbw hbel.size) (fun i hi => (hbel.cell (p := ⟨b, off + i, none⟩) hbw).trans (hcell i hi))
        have N := hide (newLine_any _ _ _ _ wr hsub (by omega))
        have hlen := cut_len l F T (by rw [h.len]; omega)
        have f1 := hft.1
        have f2 := hft.2
        have hcF : ¬ c = F := by omega
        clear hp hT hcell hsub hr
        cases hpp : (decide (1 ≤ k) && prB l (k - 1))
        · have eT : T = k := by rw [unhide HT]; unfold toOf; rw [if_neg (fun hh => by rw [decide_eq_true hh.1, hh.2] at hpp; cases hpp)]
          rw [hpp] at Q
          have HS := hide (show cut l F k = cut l F (toOf l k) from by rw [← unhide HT, eT])
          rw [eT] at N hlen f1 f2
          clear HT hpp eT hft
          go_wp2_with fail
          refine (unhide P).mono ?_
          rintro e w' ⟨rfl, rfl⟩
          clear P
          go_wp2_with fail
          refine (unhide Q).mono ?_
          rintro e w' ⟨rfl, rfl⟩
          clear Q
          go_wp2_with fail
          have hkF : 0 ≤ (k : Int) := by omega
          refine (unhide N).mono ?_
          rintro e w2 ⟨rfl, hln, hb2⟩
          have Hlen := hide hlen
          have hown2 := own_below hat.own hb2
          have hl2 : w2.ownsRow w.heap.size 21 1 (lineVal w'.heap.size (cut l F k)) (cut l F k).length ((cut l F k).map (Value.int .i32)) := by
            unfold lineVal
            rw [unhide Hlen]
            exact own_lo hln hbel.size
          have HL2 := hide hl2
          have HB2 := hide hb2
          have hsz2 := Nat.le_trans hbel.size hb2.size
          have hLk := hinv.2.2
          have HLT := hide hown2.lt
          clear N hln hlen hl2 hb2 hinv
          go_wp2_with (at_builtin; refine wpList_append_own _ rfl (.tmp 23) (.tmp 29) 43 rfl w.heap.size 37 i0 (.slice none 0 0) 1 24 Tryd.underlying43 hi hz0 hz1 hz2 rfl (by decide) _ _ _ rfl (hown2.alloc _) ⟨w2.heap.size, 0, none⟩ 1 1 [.slice (some ⟨w'.heap.size, 0, none⟩) (k - F) (k - F)] rfl rfl (cellv _ _ _) (one_val _ rfl) (by unfold maxLen; omega) (by omega) (by simp; omega) ?_; intro v' w3 hown3 hgrow3 _)
          go_roundw
          case rel =>
            have e3 : Value.slice (some ⟨w'.heap.size, 0, none⟩) (k - F) (k - F) = lineVal w'.heap.size (cut l F k) := by unfold lineVal; rw [unhide Hlen]
            rw [e3] at hown3
            have R := hat.snoc rfl (unhide HB2) (unhide HL2) hown3 hgrow3
            refine ⟨k + 1, gs ++ [w'.heap.size], by omega, by go_num, ?_, ?_, ?_⟩
            · rw [linesTo_yes (unhide HP)]; go_num
            · rw [linesTo_yes (unhide HP), ← unhide HL, ← unhide HF, ← unhide HS]; exact R
            · exact ((hbel.trans ((unhide HB2).mono hbel.size)).alloc hsz2 _).grown hgrow3 (by simp; omega) (fun k hk => (unhide HLT k hk).1)
          case measure => simp [intOf]; omega
        · have hk1 : 1 ≤ k := by simp at hpp; exact hpp.1
          have eT : T = k - 1 := by rw [unhide HT]; unfold toOf; rw [if_pos (by simpa using hpp)]
          rw [hpp] at Q
          have HS := hide (show cut l F (k - 1) = cut l F (toOf l k) from by rw [← unhide HT, eT])
          rw [eT] at N hlen f1 f2
          clear HT hpp eT hft
          go_wp2_with fail
          refine (unhide P).mono ?_
          rintro e w' ⟨rfl, rfl⟩
          clear P
          go_wp2_with fail
          refine (unhide Q).mono ?_
          rintro e w' ⟨rfl, rfl⟩
          clear Q
          go_wp2_with fail
          have hkF : 0 ≤ (k : Int) := by omega
          refine (unhide N).mono ?_
          rintro e w2 ⟨rfl, hln, hb2⟩
          have Hlen := hide hlen
          have hown2 := own_below hat.own hb2
          have hl2 : w2.ownsRow w.heap.size 21 1 (lineVal w'.heap.size (cut l F (k - 1))) (cut l F (k - 1)).length ((cut l F (k - 1)).map (Value.int .i32)) := by
            unfold lineVal
            rw [unhide Hlen]
            exact own_lo hln hbel.size
          have HL2 := hide hl2
          have HB2 := hide hb2
          have hsz2 := Nat.le_trans hbel.size hb2.size
          have hLk := hinv.2.2
          have HLT := hide hown2.lt
          clear N hln hlen hl2 hb2 hinv
          go_wp2_with (at_builtin; refine wpList_append_own _ rfl (.tmp 23) (.tmp 29) 43 rfl w.heap.size 37 i0 (.slice none 0 0) 1 24 Tryd.underlying43 hi hz0 hz1 hz2 rfl (by decide) _ _ _ rfl (hown2.alloc _) ⟨w2.heap.size, 0, none⟩ 1 1 [.slice (some ⟨w'.heap.size, 0, none⟩) ((k - 1) - F) ((k - 1) - F)] rfl rfl (cellv _ _ _) (one_val _ rfl) (by unfold maxLen; omega) (by omega) (by simp; omega) ?_; intro v' w3 hown3 hgrow3 _)
          go_roundw
          case rel =>
            have e3 : Value.slice (some ⟨w'.heap.size, 0, none⟩) ((k - 1) - F) ((k - 1) - F) = lineVal w'.heap.size (cut l F (k - 1)) := by unfold lineVal; rw [unhide Hlen]
            rw [e3] at hown3
            have R := hat.snoc rfl (unhide HB2) (unhide HL2) hown3 hgrow3
            refine ⟨k + 1, gs ++ [w'.heap.size], by omega, by go_num, ?_, ?_, ?_⟩
            · rw [linesTo_yes (unhide HP)]; go_num
            · rw [linesTo_yes (unhide HP), ← unhide HL, ← unhide HF, ← unhide HS]; exact R
            · exact ((hbel.trans ((unhide HB2).mono hbel.size)).alloc hsz2 _).grown hgrow3 (by simp; omega) (fun k hk => (unhide HLT k hk).1)
          case measure => simp [intOf]; omega
    · have hkn : k = n := by omega
      have HLL := hide (show linesL l = L ++ [l.drop F] from by unfold linesL; rw [h.len, ← hkn, ← unhide HF, ← unhide HL])
      have Hdl := hide (show (l.drop F).length = n - F from by simp [h.len])
      have hFn : F ≤ n := by omega
      have hnk : ¬ (k : Int) < (n : Int) := by omega
      have hle := h.le
      clear hft
      by_cases hpos : 0 < n
      · rcases h.at_ with h0 | ⟨b, off, rfl, hbw, hcell⟩
        · omega
        by_cases hcF : c = F
        · have hz0' : n - F = 0 := by omega
          have hnil : l.drop F = [] := List.drop_eq_nil_of_le (by rw [h.len]; omega)
          have HN := hide hnil
          have N := hide (newLine_any (some ⟨b, off, none⟩) (n - F) 0 (l.drop F) wr (by rw [hnil]; exact rowZ hz0' (fun e => by cases e)) (by omega))
          have hfi : (F : Int) ≤ (n : Int) := by omega
          clear hcell hnil hz0'
          go_wp2_with fail
          refine (unhide N).mono ?_
          rintro e w2 ⟨rfl, hln, hb2⟩
          have hown2 := own_below hat.own hb2
          have hl2 : w2.ownsRow w.heap.size 21 1 (lineVal wr.heap.size (l.drop F)) (l.drop F).length ((l.drop F).map (Value.int .i32)) := by
            unfold lineVal
            rw [unhide Hdl]
            exact own_lo hln hbel.size
          have HL2 := hide hl2
          have HB2 := hide hb2
          have hsz2 := Nat.le_trans hbel.size hb2.size
          have hLk := hinv.2.2
          have HLT := hide hown2.lt
          clear hln hl2 hb2 hinv
          go_wp2_with (at_builtin; refine wpList_append_own _ rfl (.tmp 34) (.tmp 39) 43 rfl w.heap.size 37 i0 (.slice none 0 0) 1 24 Tryd.underlying43 hi hz0 hz1 hz2 rfl (by decide) _ _ _ rfl (hown2.alloc _) ⟨w2.heap.size, 0, none⟩ 1 1 [.slice (some ⟨wr.heap.size, 0, none⟩) (n - F) (n - F)] rfl rfl (cellv _ _ _) (one_val _ rfl) (by unfold maxLen; omega) (by omega) (by simp; omega) ?_; intro v' w3 hown3 hgrow3 _)
          go_ret
          have e3 : Value.slice (some ⟨wr.heap.size, 0, none⟩) (n - F) (n - F) = lineVal wr.heap.size (l.drop F) := by unfold lineVal; rw [unhide Hdl]
          rw [e3] at hown3
          have R := hat.snoc rfl (unhide HB2) (unhide HL2) hown3 hgrow3
          rw [unhide HLL]
          exact ⟨v', _, rfl, R, ((hbel.trans ((unhide HB2).mono hbel.size)).alloc hsz2 _).grown hgrow3 (by simp; omega) (fun k hk => (unhide HLT k hk).1)⟩
        · have ecut : cut l F n = l.drop F := by unfold cut; rw [List.take_of_length_le (by simp [h.len])]
          have hsub := Row.sub (k := .i32) (w := wr) (b := b) (off := off) (c := c) h.len hle hFn (Nat.le_refl n) (Nat.lt_of_lt_of_le hbw hbel.size) (fun i hi => (hbel.cell (p := ⟨b, off + i, none⟩) hbw).trans (hcell i hi))
          rw [ecut] at hsub
          have N := hide (newLine_any _ _ _ _ wr hsub (by omega))
          have hfi : (F : Int) ≤ (n : Int) := by omega
          clear hcell hsub ecut
          go_wp2_with fail
          refine (unhide N).mono ?_
          rintro e w2 ⟨rfl, hln, hb2⟩
          have hown2 := own_below hat.own hb2
          have hl2 : w2.ownsRow w.heap.size 21 1 (lineVal wr.heap.size (l.drop F)) (l.drop F).length ((l.drop F).map (Value.int .i32)) := by
            unfold lineVal
            rw [unhide Hdl]
            exact own_lo hln hbel.size
          have HL2 := hide hl2
          have HB2 := hide hb2
          have hsz2 := Nat.le_trans hbel.size hb2.size
          have hLk := hinv.2.2
          have HLT := hide hown2.lt
          clear hln hl2 hb2 hinv
          go_wp2_with (at_builtin; refine wpList_append_own _ rfl (.tmp 34) (.tmp 39) 43 rfl w.heap.size 37 i0 (.slice none 0 0) 1 24 Tryd.underlying43 hi hz0 hz1 hz2 rfl (by decide) _ _ _ rfl (hown2.alloc _) ⟨w2.heap.size, 0, none⟩ 1 1 [.slice (some ⟨wr.heap.size, 0, none⟩) (n - F) (n - F)] rfl rfl (cellv _ _ _) (one_val _ rfl) (by unfold maxLen; omega) (by omega) (by simp; omega) ?_; intro v' w3 hown3 hgrow3 _)
          go_ret
          have e3 : Value.slice (some ⟨wr.heap.size, 0, none⟩) (n - F) (n - F) = lineVal wr.heap.size (l.drop F) := by unfold lineVal; rw [unhide Hdl]
          rw [e3] at hown3
          have R := hat.snoc rfl (unhide HB2) (unhide HL2) hown3 hgrow3
          rw [unhide HLL]
          exact ⟨v', _, rfl, R, ((hbel.trans ((unhide HB2).mono hbel.size)).alloc hsz2 _).grown hgrow3 (by simp; omega) (fun k hk => (unhide HLT k hk).1)⟩
      · have hn0 : n = 0 := by omega
        have hF0 : F = 0 := by omega
        have hl0 : l = [] := List.eq_nil_of_length_eq_zero (by rw [h.len]; exact hn0)
        have hnil' := h.nil
        subst hn0 hF0
        have Hdl0 := hide (show (l.drop 0).length = 0 from by rw [hl0]; rfl)
        have Hl0 := hide hl0
        clear hl0 Hdl
        have Hdl := Hdl0
        clear Hdl0
        cases a with
        | none =>
          have hc0 : c = 0 := hnil' rfl
          subst hc0
          have N := hide (newLine_any none 0 0 (l.drop 0) wr (by rw [unhide Hl0]; exact rowZ rfl (fun _ => rfl)) (by omega))
          clear hnil' h
          go_wp2_with fail
          refine (unhide N).mono ?_
          rintro e w2 ⟨rfl, hln, hb2⟩
          have hown2 := own_below hat.own hb2
          have hl2 : w2.ownsRow w.heap.size 21 1 (lineVal wr.heap.size (l.drop 0)) (l.drop 0).length ((l.drop 0).map (Value.int .i32)) := by
            unfold lineVal
            rw [unhide Hdl]
            exact own_lo hln hbel.size
          have HL2 := hide hl2
          have HB2 := hide hb2
          have hsz2 := Nat.le_trans hbel.size hb2.size
          have hLk := hinv.2.2
          have HLT := hide hown2.lt
          clear hln hl2 hb2 hinv
          go_wp2_with (at_builtin; refine wpList_append_own _ rfl (.tmp 34) (.tmp 39) 43 rfl w.heap.size 37 i0 (.slice none 0 0) 1 24 Tryd.underlying43 hi hz0 hz1 hz2 rfl (by decide) _ _ _ rfl (hown2.alloc _) ⟨w2.heap.size, 0, none⟩ 1 1 [.slice (some ⟨wr.heap.size, 0, none⟩) 0 0] rfl rfl (cellv _ _ _) (one_val _ rfl) (by unfold maxLen; omega) (by omega) (by simp; omega) ?_; intro v' w3 hown3 hgrow3 _)
          go_ret
          have e3 : Value.slice (some ⟨wr.heap.size, 0, none⟩) 0 0 = lineVal wr.heap.size (l.drop 0) := by unfold lineVal; rw [unhide Hdl]
          rw [e3] at hown3
          have R := hat.snoc rfl (unhide HB2) (unhide HL2) hown3 hgrow3
          rw [unhide HLL]
          exact ⟨v', _, rfl, R, ((hbel.trans ((unhide HB2).mono hbel.size)).alloc hsz2 _).grown hgrow3 (by simp; omega) (fun k hk => (unhide HLT k hk).1)⟩
        | some ad =>
          have N := hide (newLine_any (some ad) 0 c (l.drop 0) wr (by rw [unhide Hl0]; exact rowZ rfl (fun e => by cases e)) (by omega))
          by_cases hc0 : c = 0
          · subst hc0
            clear hnil' h
            go_wp2_with fail
            refine (unhide N).mono ?_
            rintro e w2 ⟨rfl, hln, hb2⟩
            have hown2 := own_below hat.own hb2
            have hl2 : w2.ownsRow w.heap.size 21 1 (lineVal wr.heap.size (l.drop 0)) (l.drop 0).length ((l.drop 0).map (Value.int .i32)) := by
              unfold lineVal
              rw [unhide Hdl]
              exact own_lo hln hbel.size
            have HL2 := hide hl2
            have HB2 := hide hb2
            have hsz2 := Nat.le_trans hbel.size hb2.size
            have hLk := hinv.2.2
            have HLT := hide hown2.lt
            clear hln hl2 hb2 hinv
            go_wp2_with (at_builtin; refine wpList_append_own _ rfl (.tmp 34) (.tmp 39) 43 rfl w.heap.size 37 i0 (.slice none 0 0) 1 24 Tryd.underlying43 hi hz0 hz1 hz2 rfl (by decide) _ _ _ rfl (hown2.alloc _) ⟨w2.heap.size, 0, none⟩ 1 1 [.slice (some ⟨wr.heap.size, 0, none⟩) 0 0] rfl rfl (cellv _ _ _) (one_val _ rfl) (by unfold maxLen; omega) (by omega) (by simp; omega) ?_; intro v' w3 hown3 hgrow3 _)
            go_ret
            have e3 : Value.slice (some ⟨wr.heap.size, 0, none⟩) 0 0 = lineVal wr.heap.size (l.drop 0) := by unfold lineVal; rw [unhide Hdl]
            rw [e3] at hown3
            have R := hat.snoc rfl (unhide HB2) (unhide HL2) hown3 hgrow3
            rw [unhide HLL]
            exact ⟨v', _, rfl, R, ((hbel.trans ((unhide HB2).mono hbel.size)).alloc hsz2 _).grown hgrow3 (by simp; omega) (fun k hk => (unhide HLT k hk).1)⟩
          · clear hnil' h
            go_wp2_with fail
            refine (unhide N).mono ?_
            rintro e w2 ⟨rfl, hln, hb2⟩
            have hown2 := own_below hat.own hb2
            have hl2 : w2.ownsRow w.heap.size 21 1 (lineVal wr.heap.size (l.drop 0)) (l.drop 0).length ((l.drop 0).map (Value.int .i32)) := by
              unfold lineVal
              rw [unhide Hdl]
              exact own_lo hln hbel.size
            have HL2 := hide hl2
            have HB2 := hide hb2
            have hsz2 := Nat.le_trans hbel.size hb2.size
            have hLk := hinv.2.2
            have HLT := hide hown2.lt
            clear hln hl2 hb2 hinv
            go_wp2_with (at_builtin; refine wpList_append_own _ rfl (.tmp 34) (.tmp 39) 43 rfl w.heap.size 37 i0 (.slice none 0 0) 1 24 Tryd.underlying43 hi hz0 hz1 hz2 rfl (by decide) _ _ _ rfl (hown2.alloc _) ⟨w2.heap.size, 0, none⟩ 1 1 [.slice (some ⟨wr.heap.size, 0, none⟩) 0 0] rfl rfl (cellv _ _ _) (one_val _ rfl) (by unfold maxLen; omega) (by omega) (by simp; omega) ?_; intro v' w3 hown3 hgrow3 _)
            go_ret
            have e3 : Value.slice (some ⟨wr.heap.size, 0, none⟩) 0 0 = lineVal wr.heap.size (l.drop 0) := by unfold lineVal; rw [unhide Hdl]
            rw [e3] at hown3
            have R := hat.snoc rfl (unhide HB2) (unhide HL2) hown3 hgrow3
            rw [unhide HLL]
            exact ⟨v', _, rfl, R, ((hbel.trans ((unhide HB2).mono hbel.size)).alloc hsz2 _).grown hgrow3 (by simp; omega) (fun k hk => (unhide HLT k hk).1)⟩
end Go.Proofs.YtcehhkjlbhodeaaDoor.mem
