import Derived.Test.YtmhelpocddndjaaGreatQbg8
import Derived.Test.YtmhelpocddndjaaGreatRows
import Derived.Test.YtmhelpocddndjaaGreatQbg1
import Derived.Shelf.Small.Strs
import Derived.Test.YtmhelpocddndjaaGreatProg
import Derived.Test.YtmhelpocddndjaaGreatQbg3
import Derived.Laws.Runes
import Derived.WalkMore
import Derived.Deep.QuietTactic
import Derived.Shelf.Strings.Runes
namespace Go.Proofs.YtmhelpocddndjaaGreat.mem
open Go.ChangeShapes Go.WideShapes Go.ChangeAt Go.RowKit
open ints (hide unhide)
set_option linter.unusedVariables false

theorem infoSl : (Tryz.prog.info? 75).map (fun i => (i.zero, i.size, i.bytes)) = some (some (.slice none 0 0), 1, 24) := by kernel_rfl
theorem cut_len (l : List Int) (a b : Nat) (h : b ≤ l.length) : (cut l a b).length = b - a := by simp [cut]; omega
theorem Row.sub {k : IntKind} {w : World} {b off n c : Nat} {l : List Int} (hl : l.length = n) (hc : n ≤ c) {f t : Nat} (hft : f ≤ t) (ht : t ≤ n) (hbw : b < w.heap.size) (hcell : ∀ i, i < n → w.cell? ⟨b, off + i, none⟩ = some (.int k (l.getD i 0))) :
    Row k w (some ⟨b, off + f, none⟩) (t - f) (c - f) (cut l f t) := by
  refine ⟨cut_len l f t (by omega), by omega, (fun e => by cases e), .inr ⟨b, off + f, rfl, hbw, fun i hi => ?_⟩⟩
  rw [Nat.add_assoc, hcell (f + i) (by omega)]
  simp [cut, List.getD, hi]
theorem one_val (v : Value) (h : v.oneCell' = true) : ∀ u ∈ [v], u.oneCell' = true := by intro u hu; simp at hu; subst hu; exact h
theorem cellv (w : World) (x : Value) (t : TypeId) : ∀ j u, [x][j]? = some u → (w.alloc (.cells #[x] t)).cell? ((⟨w.heap.size, 0, none⟩ : Addr).add j) = some u := by
  intro j u hj
  match j, hj with
  | 0, hj => simp at hj; subst hj; simp [Addr.add]
  | (j + 1), hj => simp at hj
theorem rowZ {k : IntKind} {w : World} {a : Option Addr} {n c : Nat} (h : n = 0) (hn : a = none → c = 0) : Row k w a n c [] := ⟨by simp [h], by omega, hn, .inl h⟩
theorem linesNil (w : World) (base : Nat) : LinesAt w base (.slice none 0 0) [] [] := ⟨rfl, World.ownsRow_nil _ _ _ _, fun i hi => by simp at hi, List.nodup_nil⟩
theorem linesTo_yes {l : List Int} {k : Nat} (h : enB l k = true) : linesTo l (k + 1) = ((linesTo l k).1 ++ [cut l (linesTo l k).2 (toOf l k)], k + 1) := by simp [linesTo, h]
theorem linesTo_no {l : List Int} {k : Nat} (h : enB l k = false) : linesTo l (k + 1) = linesTo l k := by simp [linesTo, h]
/-- pairedAt(chars, k - 1), k from 0 on. -/
theorem paired_pred (a : Option Addr) (n c : Nat) (l : List Int) (k : Nat) (w : World) (h : Row .i32 w a n c l) (hn : n ≤ 9223372036854775806) (hk : k ≤ n) :
    Calls Tryz.prog 62 #[.slice a n c, .int .i64 ((k : Int) - 1)] w fun e w' => e = .returned (.bool (decide (1 ≤ k) && prB l (k - 1))) ∧ w' = w := by
  cases k with
  | zero => exact paired_neg a n c w
  | succ k =>
    have e : (((k + 1 : Nat) : Int) - 1) = (k : Int) := by omega
    rw [e]
    have := paired_nat a n c l k w h hn (by omega)
    simpa using this
set_option maxHeartbeats 2000000 in
theorem lines_any (a : Option Addr) (n c : Nat) (l : List Int) (w : World) (h : Row .i32 w a n c l) (hn : n ≤ 1099511627776) :
    Calls Tryz.prog 94 #[.slice a n c] w fun e w' => ∃ v gs, e = .returned v ∧ LinesAt w' w.heap.size v gs (linesL l) ∧ Below w.heap.size w w' := by
  obtain ⟨i0, hi, hz0, hz1, hz2⟩ := info_parts infoSl
  go_enter Tryz.func94, Tryz.ntmps94
  go_wp2
  go_loopw [3, 4, 9] (fun v f i wr => ∃ (k : Nat) (gs : List Nat), k ≤ n ∧ i = .int .i64 k ∧ f = .int .i64 ((linesTo l k).2 : Nat) ∧ LinesAt wr w.heap.size v gs (linesTo l k).1 ∧ Below w.heap.size w wr) (fun _ _ i _ => n - (intOf i).toNat)
  case atStart => exact ⟨0, [], Nat.zero_le _, rfl, rfl, linesNil _ _, Below.refl _ _⟩
  case round =>
    obtain ⟨k, gs, hk, rfl, rfl, hat, hbel⟩ := hrel
    have hinv := linesTo_inv l k
    have hft := from_to l k
    obtain ⟨F, hF⟩ : ∃ F, F = (linesTo l k).2 := ⟨_, rfl⟩
    obtain ⟨L, hL⟩ : ∃ L, L = (linesTo l k).1 := ⟨_, rfl⟩
    rw [← hF] at hinv hft ⊢
    rw [← hL] at hat hinv
    have HF := hide hF
    have HL := hide hL
    clear hF hL
    by_cases hlt : k < n
    · have hr := h.below hbel
      have P := hide (ends_any a n c l k wr hr (by omega) hlt)
      have hki : (k : Int) < (n : Int) := by omega
      cases hp : enB l k
      · rw [hp] at P
        have HP := hide hp
        clear hp
        go_wp2_with fail
        refine (unhide P).mono ?_
        rintro e w' ⟨rfl, rfl⟩
        clear P
        go_wp2
        go_roundw
        case rel => exact ⟨k + 1, gs, by omega, by go_num, by rw [linesTo_no (unhide HP), ← unhide HF], by rw [linesTo_no (unhide HP), ← unhide HL]; exact hat, hbel⟩
        case measure => simp [intOf]; omega
      · rw [hp] at P
        have HP := hide hp
        have Q := hide (paired_pred a n c l k wr hr (by omega) (by omega))
        obtain ⟨T, hT⟩ : ∃ T, T = toOf l k := ⟨_, rfl⟩
        rw [← hT] at hft
        have HT := hide hT
        rcases h.at_ with h0 | ⟨b, off, rfl, hbw, hcell⟩
        · omega
        have hle := h.le
        have hsub := Row.sub (k := .i32) (w := wr) (b := b) (off := off) (c := c) h.len hle hft.1 (show T ≤ n by omega) (Nat.lt_of_lt_of_le hbw hbel.size) (fun i hi => (hbel.cell (p := ⟨b, off + i, none⟩) hbw).trans (hcell i hi))
        have N := hide (newLine_any _ _ _ _ wr hsub (by omega))
        have hlen := cut_len l F T (by rw [h.len]; omega)
        have f1 := hft.1
        have f2 := hft.2
        have hcF : ¬ c = F := by omega
        clear hp hT hcell hsub hr
        cases hpp : (decide (1 ≤ k) && prB l (k - 1))
        · have eT : T = k := by rw [unhide HT]; unfold toOf; rw [if_neg (fun hh => by rw [decide_eq_true hh.1, hh.2] at hpp; cases hpp)]
          rw [hpp] at Q
          have HS := hide (show cut l F k = cut l F (toOf l k) from by rw [← unhide HT, eT])
          rw [eT] at N hlen f1 f2
          clear HT hpp eT hft
          go_wp2_with fail
          refine (unhide P).mono ?_
          rintro e w' ⟨rfl, rfl⟩
          clear P
          go_wp2_with fail
          refine (unhide Q).mono ?_
          rintro e w' ⟨rfl, rfl⟩
          clear Q
          go_wp2_with fail
          have hkF : 0 ≤ (k : Int) := by omega
          refine (unhide N).mono ?_
          rintro e w2 ⟨rfl, hln, hb2⟩
          have Hlen := hide hlen
          have hown2 := own_below hat.own hb2
          have hl2 : w2.ownsRow w.heap.size 21 1 (lineVal w'.heap.size (cut l F k)) (cut l F k).length ((cut l F k).map (Value.int .i32)) := by
            unfold lineVal
            rw [unhide Hlen]
            exact own_lo hln hbel.size
          have HL2 := hide hl2
          have HB2 := hide hb2
          have hsz2 := Nat.le_trans hbel.size hb2.size
          have hLk := hinv.2.2
          have HLT := hide hown2.lt
          clear N hln hlen hl2 hb2 hinv
          go_wp2_with (at_builtin; refine wpList_append_own _ rfl (.tmp 23) (.tmp 29) 151 rfl w.heap.size 75 i0 (.slice none 0 0) 1 24 Tryz.underlying151 hi hz0 hz1 hz2 rfl (by decide) _ _ _ rfl (hown2.alloc _) ⟨w2.heap.size, 0, none⟩ 1 1 [.slice (some ⟨w'.heap.size, 0, none⟩) (k - F) (k - F)] rfl rfl (cellv _ _ _) (one_val _ rfl) (by unfold maxLen; omega) (by omega) (by simp; omega) ?_; intro v' w3 hown3 hgrow3 _)
          go_roundw
          case rel =>
            have e3 : Value.slice (some ⟨w'.heap.size, 0, none⟩) (k - F) (k - F) = lineVal w'.heap.size (cut l F k) := by unfold lineVal; rw [unhide Hlen]
            rw [e3] at hown3
            have R := hat.snoc rfl (unhide HB2) (unhide HL2) hown3 hgrow3
            refine ⟨k + 1, gs ++ [w'.heap.size], by omega, by go_num, ?_, ?_, ?_⟩
            · rw [linesTo_yes (unhide HP)]; go_num
            · rw [linesTo_yes (unhide HP), ← unhide HL, ← unhide HF, ← unhide HS]; exact R
            · exact ((hbel.trans ((unhide HB2).mono hbel.size)).alloc hsz2 _).grown hgrow3 (by simp; omega) (fun k hk => (unhide HLT k hk).1)
          case measure => simp [intOf]; omega
        · have hk1 : 1 ≤ k := by simp at hpp; exact hpp.1
          have eT : T = k - 1 := by rw [unhide HT]; unfold toOf; rw [if_pos (by simpa using hpp)]
          rw [hpp] at Q
          have HS := hide (show cut l F (k - 1) = cut l F (toOf l k) from by rw [← unhide HT, eT])
          rw [eT] at N hlen f1 f2
          clear HT hpp eT hft
          go_wp2_with fail
          refine (unhide P).mono ?_
          rintro e w' ⟨rfl, rfl⟩
          clear P
          go_wp2_with fail
          refine (unhide Q).mono ?_
          rintro e w' ⟨rfl, rfl⟩
          clear Q
          go_wp2_with fail
          have hkF : 0 ≤ (k : Int) := by omega
          refine (unhide N).mono ?_
          rintro e w2 ⟨rfl, hln, hb2⟩
          have Hlen := hide hlen
          have hown2 := own_below hat.own hb2
          have hl2 : w2.ownsRow w.heap.size 21 1 (lineVal w'.heap.size (cut l F (k - 1))) (cut l F (k - 1)).length ((cut l F (k - 1)).map (Value.int .i32)) := by
            unfold lineVal
            rw [unhide Hlen]
            exact own_lo hln hbel.size
          have HL2 := hide hl2
          have HB2 := hide hb2
          have hsz2 := Nat.le_trans hbel.size hb2.size
          have hLk := hinv.2.2
          have HLT := hide hown2.lt
          clear N hln hlen hl2 hb2 hinv
          go_wp2_with (at_builtin; refine wpList_append_own _ rfl (.tmp 23) (.tmp 29) 151 rfl w.heap.size 75 i0 (.slice none 0 0) 1 24 Tryz.underlying151 hi hz0 hz1 hz2 rfl (by decide) _ _ _ rfl (hown2.alloc _) ⟨w2.heap.size, 0, none⟩ 1 1 [.slice (some ⟨w'.heap.size, 0, none⟩) ((k - 1) - F) ((k - 1) - F)] rfl rfl (cellv _ _ _) (one_val _ rfl) (by unfold maxLen; omega) (by omega) (by simp; omega) ?_; intro v' w3 hown3 hgrow3 _)
          go_roundw
          case rel =>
            have e3 : Value.slice (some ⟨w'.heap.size, 0, none⟩) ((k - 1) - F) ((k - 1) - F) = lineVal w'.heap.size (cut l F (k - 1)) := by unfold lineVal; rw [unhide Hlen]
            rw [e3] at hown3
            have R := hat.snoc rfl (unhide HB2) (unhide HL2) hown3 hgrow3
            refine ⟨k + 1, gs ++ [w'.heap.size], by omega, by go_num, ?_, ?_, ?_⟩
            · rw [linesTo_yes (unhide HP)]; go_num
            · rw [linesTo_yes (unhide HP), ← unhide HL, ← unhide HF, ← unhide HS]; exact R
            · exact ((hbel.trans ((unhide HB2).mono hbel.size)).alloc hsz2 _).grown hgrow3 (by simp; omega) (fun k hk => (unhide HLT k hk).1)
          case measure => simp [intOf]; omega
    · have hkn : k = n := by omega
      have HLL := hide (show linesL l = L ++ [l.drop F] from by unfold linesL; rw [h.len, ← hkn, ← unhide HF, ← unhide HL])
      have Hdl := hide (show (l.drop F).length = n - F from by simp [h.len])
      have hFn : F ≤ n := by omega
      have hnk : ¬ (k : Int) < (n : Int) := by omega
      have hle := h.le
      clear hft
      by_cases hpos : 0 < n
      · rcases h.at_ with h0 | ⟨b, off, rfl, hbw, hcell⟩
        · omega
        by_cases hcF : c = F
        · have hz0' : n - F = 0 := by omega
          have hnil : l.drop F = [] := List.drop_eq_nil_of_le (by rw [h.len]; omega)
          have HN := hide hnil
          have N := hide (newLine_any (some ⟨b, off, none⟩) (n - F) 0 (l.drop F) wr (by rw [hnil]; exact rowZ hz0' (fun e => by cases e)) (by omega))
          have hfi : (F : Int) ≤ (n : Int) := by omega
          clear hcell hnil hz0'
          go_wp2_with fail
          refine (unhide N).mono ?_
          rintro e w2 ⟨rfl, hln, hb2⟩
          have hown2 := own_below hat.own hb2
          have hl2 : w2.ownsRow w.heap.size 21 1 (lineVal wr.heap.size (l.drop F)) (l.drop F).length ((l.drop F).map (Value.int .i32)) := by
            unfold lineVal
            rw [unhide Hdl]
            exact own_lo hln hbel.size
          have HL2 := hide hl2
          have HB2 := hide hb2
          have hsz2 := Nat.le_trans hbel.size hb2.size
          have hLk := hinv.2.2
          have HLT := hide hown2.lt
          clear hln hl2 hb2 hinv
          go_wp2_with (at_builtin; refine wpList_append_own _ rfl (.tmp 34) (.tmp 39) 151 rfl w.heap.size 75 i0 (.slice none 0 0) 1 24 Tryz.underlying151 hi hz0 hz1 hz2 rfl (by decide) _ _ _ rfl (hown2.alloc _) ⟨w2.heap.size, 0, none⟩ 1 1 [.slice (some ⟨wr.heap.size, 0, none⟩) (n - F) (n - F)] rfl rfl (cellv _ _ _) (one_val _ rfl) (by unfold maxLen; omega) (by omega) (by simp; omega) ?_; intro v' w3 hown3 hgrow3 _)
          go_ret
          have e3 : Value.slice (some ⟨wr.heap.size, 0, none⟩) (n - F) (n - F) = lineVal wr.heap.size (l.drop F) := by unfold lineVal; rw [unhide Hdl]
          rw [e3] at hown3
          have R := hat.snoc rfl (unhide HB2) (unhide HL2) hown3 hgrow3
          rw [unhide HLL]
          exact ⟨v', _, rfl, R, ((hbel.trans ((unhide HB2).mono hbel.size)).alloc hsz2 _).grown hgrow3 (by simp; omega) (fun k hk => (unhide HLT k hk).1)⟩
        · have ecut : cut l F n = l.drop F := by unfold cut; rw [List.take_of_length_le (by simp [h.len])]
          have hsub := Row.sub (k := .i32) (w := wr) (b := b) (off := off) (c := c) h.len hle hFn (Nat.le_refl n) (Nat.lt_of_lt_of_le hbw hbel.size) (fun i hi => (hbel.cell (p := ⟨b, off + i, none⟩) hbw).trans (hcell i hi))
          rw [ecut] at hsub
          have N := hide (newLine_any _ _ _ _ wr hsub (by omega))
          have hfi : (F : Int) ≤ (n : Int) := by omega
          clear hcell hsub ecut
          go_wp2_with fail
          refine (unhide N).mono ?_
          rintro e w2 ⟨rfl, hln, hb2⟩
          have hown2 := own_below hat.own hb2
          have hl2 : w2.ownsRow w.heap.size 21 1 (lineVal wr.heap.size (l.drop F)) (l.drop F).length ((l.drop F).map (Value.int .i32)) := by
            unfold lineVal
            rw [unhide Hdl]
            exact own_lo hln hbel.size
          have HL2 := hide hl2
          have HB2 := hide hb2
          have hsz2 := Nat.le_trans hbel.size hb2.size
          have hLk := hinv.2.2
          have HLT := hide hown2.lt
          clear hln hl2 hb2 hinv
          go_wp2_with (at_builtin; refine wpList_append_own _ rfl (.tmp 34) (.tmp 39) 151 rfl w.heap.size 75 i0 (.slice none 0 0) 1 24 Tryz.underlying151 hi hz0 hz1 hz2 rfl (by decide) _ _ _ rfl (hown2.alloc _) ⟨w2.heap.size, 0, none⟩ 1 1 [.slice (some ⟨wr.heap.size, 0, none⟩) (n - F) (n - F)] rfl rfl (cellv _ _ _) (one_val _ rfl) (by unfold maxLen; omega) (by omega) (by simp; omega) ?_; intro v' w3 hown3 hgrow3 _)
          go_ret
          have e3 : Value.slice (some ⟨wr.heap.size, 0, none⟩) (n - F) (n - F) = lineVal wr.heap.size (l.drop F) := by unfold lineVal; rw [unhide Hdl]
          rw [e3] at hown3
          have R := hat.snoc rfl (unhide HB2) (unhide HL2) hown3 hgrow3
          rw [unhide HLL]
          exact ⟨v', _, rfl, R, ((hbel.trans ((unhide HB2).mono hbel.size)).alloc hsz2 _).grown hgrow3 (by simp; omega) (fun k hk => (unhide HLT k hk).1)⟩
      · have hn0 : n = 0 := by omega
        have hF0 : F = 0 := by omega
        have hl0 : l = [] := List.eq_nil_of_length_eq_zero (by rw [h.len]; exact hn0)
        have hnil' := h.nil
        subst hn0 hF0
        have Hdl0 := hide (show (l.drop 0).length = 0 from by rw [hl0]; rfl)
        have Hl0 := hide hl0
        clear hl0 Hdl
        have Hdl := Hdl0
        clear Hdl0
        cases a with
        | none =>
          have hc0 : c = 0 := hnil' rfl
          subst hc0
          have N := hide (newLine_any none 0 0 (l.drop 0) wr (by rw [unhide Hl0]; exact rowZ rfl (fun _ => rfl)) (by omega))
          clear hnil' h
          go_wp2_with fail
          refine (unhide N).mono ?_
          rintro e w2 ⟨rfl, hln, hb2⟩
          have hown2 := own_below hat.own hb2
          have hl2 : w2.ownsRow w.heap.size 21 1 (lineVal wr.heap.size (l.drop 0)) (l.drop 0).length ((l.drop 0).map (Value.int .i32)) := by
            unfold lineVal
            rw [unhide Hdl]
            exact own_lo hln hbel.size
          have HL2 := hide hl2
          have HB2 := hide hb2
          have hsz2 := Nat.le_trans hbel.size hb2.size
          have hLk := hinv.2.2
          have HLT := hide hown2.lt
          clear hln hl2 hb2 hinv
          go_wp2_with (at_builtin; refine wpList_append_own _ rfl (.tmp 34) (.tmp 39) 151 rfl w.heap.size 75 i0 (.slice none 0 0) 1 24 Tryz.underlying151 hi hz0 hz1 hz2 rfl (by decide) _ _ _ rfl (hown2.alloc _) ⟨w2.heap.size, 0, none⟩ 1 1 [.slice (some ⟨wr.heap.size, 0, none⟩) 0 0] rfl rfl (cellv _ _ _) (one_val _ rfl) (by unfold maxLen; omega) (by omega) (by simp; omega) ?_; intro v' w3 hown3 hgrow3 _)
          go_ret
          have e3 : Value.slice (some ⟨wr.heap.size, 0, none⟩) 0 0 = lineVal wr.heap.size (l.drop 0) := by unfold lineVal; rw [unhide Hdl]
          rw [e3] at hown3
          have R := hat.snoc rfl (unhide HB2) (unhide HL2) hown3 hgrow3
          rw [unhide HLL]
          exact ⟨v', _, rfl, R, ((hbel.trans ((unhide HB2).mono hbel.size)).alloc hsz2 _).grown hgrow3 (by simp; omega) (fun k hk => (unhide HLT k hk).1)⟩
        | some ad =>
          have N := hide (newLine_any (some ad) 0 c (l.drop 0) wr (by rw [unhide Hl0]; exact rowZ rfl (fun e => by cases e)) (by omega))
          by_cases hc0 : c = 0
          · subst hc0
            clear hnil' h
            go_wp2_with fail
            refine (unhide N).mono ?_
            rintro e w2 ⟨rfl, hln, hb2⟩
            have hown2 := own_below hat.own hb2
            have hl2 : w2.ownsRow w.heap.size 21 1 (lineVal wr.heap.size (l.drop 0)) (l.drop 0).length ((l.drop 0).map (Value.int .i32)) := by
              unfold lineVal
              rw [unhide Hdl]
              exact own_lo hln hbel.size
            have HL2 := hide hl2
            have HB2 := hide hb2
            have hsz2 := Nat.le_trans hbel.size hb2.size
            have hLk := hinv.2.2
            have HLT := hide hown2.lt
            clear hln hl2 hb2 hinv
            go_wp2_with (at_builtin; refine wpList_append_own _ rfl (.tmp 34) (.tmp 39) 151 rfl w.heap.size 75 i0 (.slice none 0 0) 1 24 Tryz.underlying151 hi hz0 hz1 hz2 rfl (by decide) _ _ _ rfl (hown2.alloc _) ⟨w2.heap.size, 0, none⟩ 1 1 [.slice (some ⟨wr.heap.size, 0, none⟩) 0 0] rfl rfl (cellv _ _ _) (one_val _ rfl) (by unfold maxLen; omega) (by omega) (by simp; omega) ?_; intro v' w3 hown3 hgrow3 _)
            go_ret
            have e3 : Value.slice (some ⟨wr.heap.size, 0, none⟩) 0 0 = lineVal wr.heap.size (l.drop 0) := by unfold lineVal; rw [unhide Hdl]
            rw [e3] at hown3
            have R := hat.snoc rfl (unhide HB2) (unhide HL2) hown3 hgrow3
            rw [unhide HLL]
            exact ⟨v', _, rfl, R, ((hbel.trans ((unhide HB2).mono hbel.size)).alloc hsz2 _).grown hgrow3 (by simp; omega) (fun k hk => (unhide HLT k hk).1)⟩
          · clear hnil' h
            go_wp2_with fail
            refine (unhide N).mono ?_
            rintro e w2 ⟨rfl, hln, hb2⟩
            have hown2 := own_below hat.own hb2
            have hl2 : w2.ownsRow w.heap.size 21 1 (lineVal wr.heap.size (l.drop 0)) (l.drop 0).length ((l.drop 0).map (Value.int .i32)) := by
              unfold lineVal
              rw [unhide Hdl]
              exact own_lo hln hbel.size
            have HL2 := hide hl2
            have HB2 := hide hb2
            have hsz2 := Nat.le_trans hbel.size hb2.size
            have hLk := hinv.2.2
            have HLT := hide hown2.lt
            clear hln hl2 hb2 hinv
            go_wp2_with (at_builtin; refine wpList_append_own _ rfl (.tmp 34) (.tmp 39) 151 rfl w.heap.size 75 i0 (.slice none 0 0) 1 24 Tryz.underlying151 hi hz0 hz1 hz2 rfl (by decide) _ _ _ rfl (hown2.alloc _) ⟨w2.heap.size, 0, none⟩ 1 1 [.slice (some ⟨wr.heap.size, 0, none⟩) 0 0] rfl rfl (cellv _ _ _) (one_val _ rfl) (by unfold maxLen; omega) (by omega) (by simp; omega) ?_; intro v' w3 hown3 hgrow3 _)
            go_ret
            have e3 : Value.slice (some ⟨wr.heap.size, 0, none⟩) 0 0 = lineVal wr.heap.size (l.drop 0) := by unfold lineVal; rw [unhide Hdl]
            rw [e3] at hown3
            have R := hat.snoc rfl (unhide HB2) (unhide HL2) hown3 hgrow3
            rw [unhide HLL]
            exact ⟨v', _, rfl, R, ((hbel.trans ((unhide HB2).mono hbel.size)).alloc hsz2 _).grown hgrow3 (by simp; omega) (fun k hk => (unhide HLT k hk).1)⟩
end Go.Proofs.YtmhelpocddndjaaGreat.mem
namespace Go.Proofs.YtmhelpocddndjaaGreat.sv
set_option linter.unusedVariables false

def whB (c : Int) : Bool := c == 9 || c == 32
def soB (c : Int) : Bool := c == 9 || c == 10 || c == 13 || (decide (32 ≤ c) && decide (c ≤ 55295)) || (decide (57344 ≤ c) && decide (c ≤ 65535))
def ind (l : List Int) : Nat := (l.takeWhile whB).length
def blk (l : List Int) : Bool := l.all whB
/-- The lines: a line feed, a carriage return, or both together end one. -/
def pre (c : Int) : List (List Int) → List (List Int)
  | [] => [[c]]
  | x :: xs => (c :: x) :: xs
def lns : List Int → List (List Int)
  | [] => [[]]
  | c :: r => if c = 10 then [] :: lns r else if c = 13 then (if r.head? = some 10 then lns r else [] :: lns r) else pre c (lns r)
def jn : List (List Int) → List Int
  | [] => []
  | [x] => x
  | x :: y :: r => x ++ 10 :: jn (y :: r)
/-- A line that no line end stands in. -/
def flat (x : List Int) : Prop := ∀ c ∈ x, c ≠ 10 ∧ c ≠ 13
theorem flat_nil : flat [] := fun _ h => by cases h
theorem flat_cons {c : Int} {x : List Int} (h : c ≠ 10 ∧ c ≠ 13) (hx : flat x) : flat (c :: x) := fun d hd => by
  rcases List.mem_cons.1 hd with rfl | h2
  · exact h
  · exact hx d h2
theorem flat_tail {c : Int} {x : List Int} (h : flat (c :: x)) : flat x := fun d hd => h d (List.mem_cons_of_mem _ hd)
theorem pre_ne (c : Int) (L : List (List Int)) : pre c L ≠ [] := by cases L <;> simp [pre]
theorem lns_ne : ∀ l, lns l ≠ []
  | [] => by simp [lns]
  | c :: r => by
    rw [lns]
    split
    · simp
    · split
      · split
        · exact lns_ne r
        · simp
      · exact pre_ne _ _
theorem lns_flat : ∀ l, ∀ x ∈ lns l, flat x
  | [], x, h => by simp [lns] at h; subst h; exact flat_nil
  | c :: r, x, h => by
    rw [lns] at h
    split at h
    · rcases List.mem_cons.1 h with rfl | h2
      · exact flat_nil
      · exact lns_flat r x h2
    · split at h
      · split at h
        · exact lns_flat r x h
        · rcases List.mem_cons.1 h with rfl | h2
          · exact flat_nil
          · exact lns_flat r x h2
      · rename_i h1 h2
        have ih := lns_flat r
        have hne := lns_ne r
        revert h ih hne
        cases lns r with
        | nil => intro h ih hne; exact absurd rfl hne
        | cons y ys =>
          intro h ih hne
          rcases List.mem_cons.1 h with rfl | h3
          · exact flat_cons ⟨h1, h2⟩ (ih y (by simp))
          · exact ih x (by simp [h3])
theorem lns_mem : ∀ l, ∀ x ∈ lns l, ∀ c ∈ x, c ∈ l
  | [], x, h, c, hc => by simp [lns] at h; subst h; cases hc
  | d :: r, x, h, c, hc => by
    rw [lns] at h
    split at h
    · rcases List.mem_cons.1 h with rfl | h2
      · cases hc
      · exact List.mem_cons_of_mem _ (lns_mem r x h2 c hc)
    · split at h
      · split at h
        · exact List.mem_cons_of_mem _ (lns_mem r x h c hc)
        · rcases List.mem_cons.1 h with rfl | h2
          · cases hc
          · exact List.mem_cons_of_mem _ (lns_mem r x h2 c hc)
      · have ih := lns_mem r
        have hne := lns_ne r
        revert h ih hne
        cases lns r with
        | nil => intro h ih hne; exact absurd rfl hne
        | cons y ys =>
          intro h ih hne
          rcases List.mem_cons.1 h with rfl | h3
          · rcases List.mem_cons.1 hc with rfl | h4
            · simp
            · exact List.mem_cons_of_mem _ (ih y (by simp) c h4)
          · exact List.mem_cons_of_mem _ (ih x (by simp [h3]) c hc)
/-- A line and its end. -/
theorem lns_cut : ∀ (x r : List Int), flat x → lns (x ++ 10 :: r) = x :: lns r
  | [], r, _ => by simp [lns]
  | c :: x, r, h => by
    have hc := h c (by simp)
    rw [List.cons_append, lns, if_neg hc.1, if_neg hc.2, lns_cut x r (flat_tail h)]
    rfl
theorem lns_one : ∀ (x : List Int), flat x → lns x = [x]
  | [], _ => rfl
  | c :: x, h => by
    have hc := h c (by simp)
    rw [lns, if_neg hc.1, if_neg hc.2, lns_one x (flat_tail h)]
    rfl
theorem lns_jn : ∀ (L : List (List Int)), L ≠ [] → (∀ x ∈ L, flat x) → lns (jn L) = L
  | [], h, _ => absurd rfl h
  | [x], _, h => by rw [jn]; exact lns_one x (h x (by simp))
  | x :: y :: r, _, h => by
    rw [jn, lns_cut x _ (h x (by simp)), lns_jn (y :: r) (by simp) (fun z hz => h z (by simp [List.mem_cons.1 hz]))]
theorem jn_pre (c : Int) : ∀ (L : List (List Int)), L ≠ [] → jn (pre c L) = c :: jn L
  | [], h => absurd rfl h
  | [x], _ => rfl
  | x :: y :: r, _ => rfl
theorem jn_cons (x : List Int) (L : List (List Int)) (h : L ≠ []) : jn (x :: L) = x ++ 10 :: jn L := by
  cases L with
  | nil => exact absurd rfl h
  | cons y r => rfl
theorem jn_lns : ∀ (l : List Int), (∀ c ∈ l, c ≠ 13) → jn (lns l) = l
  | [], _ => rfl
  | c :: r, h => by
    have hc := h c (by simp)
    have ih := jn_lns r (fun d hd => h d (by simp [hd]))
    rw [lns]
    split
    · rename_i h1
      rw [jn_cons _ _ (lns_ne r), ih, h1]
      rfl
    · rw [jn_pre c _ (lns_ne r), ih]
/-- Lines with an end each, and what comes behind. -/
theorem lns_ends : ∀ (L : List (List Int)) (r : List Int), (∀ x ∈ L, flat x) → lns (L.flatMap (fun x => x ++ [10]) ++ r) = L ++ lns r
  | [], r, _ => by simp
  | x :: L, r, h => by
    rw [List.flatMap_cons, List.append_assoc, List.append_assoc, List.singleton_append, lns_cut x _ (h x (by simp)), lns_ends L r (fun z hz => h z (by simp [hz])), List.cons_append]
theorem jn_mem : ∀ (L : List (List Int)) (c : Int), c ∈ jn L → c = 10 ∨ ∃ x ∈ L, c ∈ x
  | [], c, h => by simp [jn] at h
  | [x], c, h => by rw [jn] at h; exact .inr ⟨x, by simp, h⟩
  | x :: y :: r, c, h => by
    rw [jn, List.mem_append, List.mem_cons] at h
    rcases h with h | h | h
    · exact .inr ⟨x, by simp, h⟩
    · exact .inl h
    · rcases jn_mem (y :: r) c h with h2 | ⟨z, hz, h2⟩
      · exact .inl h2
      · exact .inr ⟨z, by simp [List.mem_cons.1 hz], h2⟩

/-- Quotes: the escape, three of them, reading and guarding. -/
def esc4 (l : List Int) : Bool := l.take 4 == [92, 34, 34, 34]
def tri (l : List Int) : Bool := l.take 3 == [34, 34, 34]
def opn (l : List Int) : List Int :=
  match l with
  | [] => []
  | c :: r => if esc4 (c :: r) then 34 :: 34 :: 34 :: opn (r.drop 3) else c :: opn r
termination_by l.length
decreasing_by all_goals (simp; try omega)
def grd (l : List Int) : List Int :=
  match l with
  | [] => []
  | c :: r => if tri (c :: r) then 92 :: 34 :: 34 :: 34 :: grd (r.drop 2) else c :: grd r
termination_by l.length
decreasing_by all_goals (simp; try omega)
theorem opn_nil : opn [] = [] := by rw [opn]
theorem opn_yes {c : Int} {r : List Int} (h : esc4 (c :: r) = true) : opn (c :: r) = 34 :: 34 :: 34 :: opn (r.drop 3) := by rw [opn, if_pos h]
theorem opn_no {c : Int} {r : List Int} (h : esc4 (c :: r) = false) : opn (c :: r) = c :: opn r := by rw [opn, if_neg (by simp [h])]
theorem grd_nil : grd [] = [] := by rw [grd]
theorem grd_yes {c : Int} {r : List Int} (h : tri (c :: r) = true) : grd (c :: r) = 92 :: 34 :: 34 :: 34 :: grd (r.drop 2) := by rw [grd, if_pos h]
theorem grd_no {c : Int} {r : List Int} (h : tri (c :: r) = false) : grd (c :: r) = c :: grd r := by rw [grd, if_neg (by simp [h])]
theorem tri_form {l : List Int} (h : tri l = true) : ∃ r, l = 34 :: 34 :: 34 :: r := by
  match l, h with
  | a :: b :: c :: r, h =>
    simp [tri] at h
    obtain ⟨rfl, rfl, rfl⟩ := h
    exact ⟨r, rfl⟩
  | [], h => simp [tri] at h
  | [_], h => simp [tri] at h
  | [_, _], h => simp [tri] at h
theorem esc4_form {l : List Int} (h : esc4 l = true) : ∃ r, l = 92 :: 34 :: 34 :: 34 :: r := by
  match l, h with
  | a :: b :: c :: d :: r, h =>
    simp [esc4] at h
    obtain ⟨rfl, rfl, rfl, rfl⟩ := h
    exact ⟨r, rfl⟩
  | [], h => simp [esc4] at h
  | [_], h => simp [esc4] at h
  | [_, _], h => simp [esc4] at h
  | [_, _, _], h => simp [esc4] at h
theorem esc4_tri (c : Int) (l : List Int) : esc4 (c :: l) = (c == 92 && tri l) := by
  unfold esc4 tri
  rw [List.take_succ_cons]
  cases h : (c == 92) <;> simp_all
/-- What is guarded begins with a quote only where it did. -/
theorem grd_quote {l x : List Int} (h : grd l = 34 :: x) : ∃ r, l = 34 :: r ∧ tri l = false ∧ x = grd r := by
  cases l with
  | nil => rw [grd_nil] at h; cases h
  | cons c r =>
    cases ht : tri (c :: r)
    · rw [grd_no ht] at h
      injection h with h1 h2
      exact ⟨r, by rw [h1], rfl, h2.symm⟩
    · rw [grd_yes ht] at h
      injection h with h1 h2
      exact absurd h1 (by decide)
theorem grd_tri (l : List Int) : tri (grd l) = false := by
  cases h : tri (grd l)
  · rfl
  · exfalso
    obtain ⟨x, hx⟩ := tri_form h
    obtain ⟨r, h1, h2, h3⟩ := grd_quote hx
    obtain ⟨r2, h4, h5, h6⟩ := grd_quote h3.symm
    obtain ⟨r3, h7, h8, h9⟩ := grd_quote h6.symm
    rw [h1, h4, h7] at h2
    simp [tri] at h2
theorem opn_grd : ∀ (n : Nat) (l : List Int), l.length ≤ n → opn (grd l) = l
  | _, [], _ => by rw [grd_nil, opn_nil]
  | 0, c :: r, h => by simp at h
  | n + 1, c :: r, h => by
    cases ht : tri (c :: r)
    · rw [grd_no ht, opn_no, opn_grd n r (by simp at h; omega)]
      rw [esc4_tri, grd_tri]
      simp
    · rw [grd_yes ht, opn_yes (by simp [esc4])]
      obtain ⟨x, hx⟩ := tri_form ht
      injection hx with h1 h2
      have := opn_grd n (r.drop 2) (by simp at h ⊢; omega)
      simp only [List.drop_succ_cons, List.drop_zero]
      rw [this, h1, h2]
      rfl
theorem opn_grd' (l : List Int) : opn (grd l) = l := opn_grd l.length l (Nat.le_refl _)
theorem opn_mem : ∀ (n : Nat) (l : List Int), l.length ≤ n → ∀ c ∈ opn l, c ∈ l
  | _, [], _, c, h => by rw [opn_nil] at h; exact h
  | 0, d :: r, hl, _, _ => by simp at hl
  | n + 1, d :: r, hl, c, h => by
    cases he : esc4 (d :: r)
    · rw [opn_no he] at h
      rcases List.mem_cons.1 h with rfl | h2
      · simp
      · exact List.mem_cons_of_mem _ (opn_mem n r (by simp at hl; omega) c h2)
    · rw [opn_yes he] at h
      obtain ⟨x, hx⟩ := esc4_form he
      injection hx with h1 h2
      have ih := opn_mem n (r.drop 3) (by simp at hl ⊢; omega)
      simp only [List.mem_cons] at h
      rcases h with rfl | rfl | rfl | h
      · rw [h2]; simp
      · rw [h2]; simp
      · rw [h2]; simp
      · exact List.mem_cons_of_mem _ (List.mem_of_mem_drop (ih c h))
theorem grd_mem : ∀ (n : Nat) (l : List Int), l.length ≤ n → ∀ c ∈ grd l, c = 92 ∨ c ∈ l
  | _, [], _, c, h => by rw [grd_nil] at h; exact .inr h
  | 0, d :: r, hl, _, _ => by simp at hl
  | n + 1, d :: r, hl, c, h => by
    cases he : tri (d :: r)
    · rw [grd_no he] at h
      rcases List.mem_cons.1 h with rfl | h2
      · simp
      · rcases grd_mem n r (by simp at hl; omega) c h2 with h3 | h3
        · exact .inl h3
        · exact .inr (List.mem_cons_of_mem _ h3)
    · rw [grd_yes he] at h
      obtain ⟨x, hx⟩ := tri_form he
      injection hx with h1 h2
      have ih := grd_mem n (r.drop 2) (by simp at hl ⊢; omega)
      simp only [List.mem_cons] at h
      rcases h with rfl | rfl | rfl | rfl | h
      · exact .inl rfl
      · rw [h1]; simp
      · rw [h1]; simp
      · rw [h1]; simp
      · rcases ih c h with h3 | h3
        · exact .inl h3
        · exact .inr (List.mem_cons_of_mem _ (List.mem_of_mem_drop h3))
theorem grd_flat {l : List Int} (h : flat l) : flat (grd l) := fun c hc => by
  rcases grd_mem l.length l (Nat.le_refl _) c hc with rfl | h2
  · decide
  · exact h c h2
theorem opn_flat {l : List Int} (h : flat l) : flat (opn l) := fun c hc => h c (opn_mem l.length l (Nat.le_refl _) c hc)
/-- Which insides may stand. -/
def std (l : List Int) (q : Nat) (last : Int) : Bool :=
  match l with
  | [] => !(last == 34) && !(last == 92)
  | c :: r => soB c && if esc4 (c :: r) then std (r.drop 3) 0 0 else if (if c = 34 then q + 1 else 0) = 3 then false else std r (if c = 34 then q + 1 else 0) c
termination_by l.length
decreasing_by all_goals (simp; try omega)
theorem std_nil (q : Nat) (last : Int) : std [] q last = (!(last == 34) && !(last == 92)) := by rw [std]
theorem std_yes {c : Int} {r : List Int} (q : Nat) (last : Int) (h : esc4 (c :: r) = true) : std (c :: r) q last = std (r.drop 3) 0 0 := by
  rw [std, if_pos h]
  obtain ⟨x, hx⟩ := esc4_form h
  injection hx with h1 h2
  rw [h1]
  rfl
theorem std_no {c : Int} {r : List Int} (q : Nat) (last : Int) (h : esc4 (c :: r) = false) (hc : c ≠ 34) : std (c :: r) q last = (soB c && std r 0 c) := by
  rw [std, if_neg (by simp [h]), if_neg hc, if_neg (by decide)]
theorem std_quote {r : List Int} (q : Nat) (last : Int) : std (34 :: r) q last = (if q = 2 then false else std r (q + 1) 34) := by
  rw [std, if_neg (by rw [esc4_tri]; simp), if_pos rfl]
  have : soB 34 = true := by decide
  rw [this, Bool.true_and]
  by_cases h : q = 2
  · rw [if_pos h, if_pos (by omega)]
  · rw [if_neg h, if_neg (by omega)]
theorem std_grd : ∀ (n : Nat) (l t : List Int) (q : Nat) (last : Int), l.length ≤ n → q ≤ 2 → (q = 0 ∨ tri (List.replicate q 34 ++ l) = false) → (∀ c ∈ l, soB c = true) → std (grd l ++ 10 :: t) q last = std t 0 10
  | _, [], t, q, last, _, _, _, _ => by
    rw [grd_nil, List.nil_append, std_no q last (by rw [esc4_tri]; simp) (by decide)]
    rfl
  | 0, c :: r, _, _, _, h, _, _, _ => by simp at h
  | n + 1, c :: r, t, q, last, h, hq, hi, hs => by
    have hr : r.length ≤ n := by simp at h; omega
    cases ht : tri (c :: r)
    · rw [grd_no ht, List.cons_append]
      have he : esc4 (c :: (grd r ++ 10 :: t)) = false := by
        rw [esc4_tri]
        cases h3 : tri (grd r ++ 10 :: t)
        · simp
        · exfalso
          obtain ⟨x, hx⟩ := tri_form h3
          have hg := grd_tri r
          revert hx hg
          cases grd r with
          | nil => intro hx; simp at hx
          | cons a y =>
            cases y with
            | nil => intro hx; simp at hx
            | cons b z =>
              cases z with
              | nil => intro hx; simp at hx
              | cons d u =>
                intro hx hg
                simp at hx
                obtain ⟨rfl, rfl, rfl, _⟩ := hx
                simp [tri] at hg
      by_cases hc : c = 34
      · subst hc
        rw [std_quote]
        have hq2 : q ≠ 2 := by
          rintro rfl
          rcases hi with h0 | h0
          · cases h0
          · simp [tri] at h0
        rw [if_neg hq2]
        refine std_grd n r t (q + 1) 34 hr (by omega) (.inr ?_) (fun d hd => hs d (by simp [hd]))
        by_cases q0 : q = 0
        · subst q0
          exact ht
        · have q1 : q = 1 := by omega
          subst q1
          rcases hi with h0 | h0
          · cases h0
          · exact h0
      · rw [std_no q last he hc, hs c (by simp), Bool.true_and]
        exact std_grd n r t 0 c hr (by omega) (.inl rfl) (fun d hd => hs d (by simp [hd]))
    · rw [grd_yes ht, List.cons_append, std_yes q last (by simp [esc4])]
      simp only [List.cons_append, List.drop_succ_cons, List.drop_zero]
      exact std_grd n (r.drop 2) t 0 0 (by simp; omega) (by omega) (.inl rfl) (fun d hd => hs d (List.mem_cons_of_mem _ (List.mem_of_mem_drop hd)))
theorem std_ends : ∀ (L : List (List Int)) (q : Nat) (last : Int), q = 0 → last ≠ 34 → last ≠ 92 → (∀ x ∈ L, ∀ c ∈ x, soB c = true) → std (L.flatMap (fun x => grd x ++ [10])) q last = true
  | [], q, last, _, h1, h2, _ => by
    rw [List.flatMap_nil, std_nil]
    simp [h1, h2]
  | x :: L, q, last, hq, h1, h2, hs => by
    rw [List.flatMap_cons, List.append_assoc, List.singleton_append, std_grd x.length x _ q last (Nat.le_refl _) (by omega) (.inl hq) (hs x (by simp))]
    exact std_ends L 0 10 rfl (by decide) (by decide) (fun z hz => hs z (by simp [hz]))
theorem std_so : ∀ (n : Nat) (l : List Int) (q : Nat) (last : Int), l.length ≤ n → std l q last = true → ∀ c ∈ l, soB c = true
  | _, [], _, _, _, _, c, hc => by cases hc
  | 0, d :: r, _, _, h, _, _, _ => by simp at h
  | n + 1, d :: r, q, last, h, hs, c, hc => by
    cases he : esc4 (d :: r)
    · by_cases h34 : d = 34
      · subst h34
        rw [std_quote] at hs
        split at hs
        · cases hs
        · rcases List.mem_cons.1 hc with rfl | h2
          · decide
          · exact std_so n r _ _ (by simp at h; omega) hs c h2
      · rw [std_no q last he h34, Bool.and_eq_true] at hs
        rcases List.mem_cons.1 hc with rfl | h2
        · exact hs.1
        · exact std_so n r _ _ (by simp at h; omega) hs.2 c h2
    · rw [std_yes q last he] at hs
      obtain ⟨x, hx⟩ := esc4_form he
      rw [hx] at hc
      injection hx with h1 h2
      rw [h2] at hs h
      have ih := std_so n x 0 0 (by simp at h; omega) hs
      simp only [List.mem_cons] at hc
      rcases hc with rfl | rfl | rfl | rfl | hc
      · decide
      · decide
      · decide
      · decide
      · exact ih c hc
end Go.Proofs.YtmhelpocddndjaaGreat.sv
namespace Go.Proofs.YtmhelpocddndjaaGreat.sv
open mem
set_option linter.unusedVariables false

/-- Stage 1's lines are these lines. -/
theorem lns_cr : ∀ (x r : List Int), flat x → r.head? ≠ some 10 → lns (x ++ 13 :: r) = x :: lns r
  | [], r, _, h => by simp [lns, h]
  | c :: x, r, h, hr => by
    have hc := h c (by simp)
    rw [List.cons_append, lns, if_neg hc.1, if_neg hc.2, lns_cr x r (flat_tail h) hr]
    rfl
theorem lns_crlf : ∀ (x r : List Int), flat x → lns (x ++ 13 :: 10 :: r) = x :: lns r
  | [], r, _ => by simp [lns]
  | c :: x, r, h => by
    have hc := h c (by simp)
    rw [List.cons_append, lns, if_neg hc.1, if_neg hc.2, lns_crlf x r (flat_tail h)]
    rfl
theorem noEnd (l : List Int) (k : Nat) : ∀ j, (linesTo l k).2 ≤ j → j < k → enB l j = false := by
  induction k with
  | zero => intro j _ h; omega
  | succ k ih =>
    intro j h1 h2
    rw [linesTo] at h1
    cases he : enB l k
    · rw [he] at h1
      simp only [Bool.false_eq_true, if_false] at h1
      by_cases e : j = k
      · rw [e]; exact he
      · exact ih j h1 (by omega)
    · rw [he] at h1
      simp only [if_true] at h1
      omega
theorem getD_drop (l : List Int) (a i : Nat) : (l.drop a).getD i 0 = l.getD (a + i) 0 := by simp [List.getD]
theorem mem_cut {l : List Int} {a b : Nat} {c : Int} (h : c ∈ cut l a b) : ∃ j, a ≤ j ∧ j < b ∧ j < l.length ∧ l.getD j 0 = c := by
  obtain ⟨i, hi, e⟩ := List.mem_iff_getElem.1 h
  have hi2 : i < b - a ∧ a + i < l.length := by simp [cut] at hi; omega
  refine ⟨a + i, by omega, by omega, hi2.2, ?_⟩
  rw [← e]
  simp [cut, List.getD, hi2.2]
theorem cut_flat (l : List Int) (k : Nat) (hk : k ≤ l.length) : flat (cut l (linesTo l k).2 (toOf l k)) := by
  intro c hc
  obtain ⟨j, h1, h2, h3, h4⟩ := mem_cut hc
  have hft := from_to l k
  have hn := noEnd l k j h1 (by omega)
  unfold enB at hn
  rw [h4] at hn
  simp only [Bool.or_eq_false_iff, Bool.and_eq_false_iff, beq_eq_false_iff_ne, Bool.not_eq_false'] at hn
  refine ⟨hn.1, ?_⟩
  rcases hn.2 with h5 | h5
  · exact h5
  · exfalso
    have h6 := h5
    simp only [prB, Bool.and_eq_true, decide_eq_true_eq, beq_iff_eq] at h6
    by_cases e : j + 1 = k
    · have : toOf l k = k - 1 := by
        unfold toOf
        have : k - 1 = j := by omega
        rw [this, if_pos ⟨by omega, h5⟩]
      omega
    · have hn2 := noEnd l k (j + 1) (by omega) (by omega)
      unfold enB at hn2
      rw [h6.2] at hn2
      simp at hn2
theorem drop_cut (l : List Int) (a b : Nat) (h : a ≤ b) : l.drop a = cut l a b ++ l.drop b := by
  unfold cut
  conv => lhs; rw [← List.take_append_drop (b - a) (l.drop a)]
  rw [List.drop_drop]
  congr 2
  omega
theorem drop_at {l : List Int} {k : Nat} (h : k < l.length) : l.drop k = l.getD k 0 :: l.drop (k + 1) := by
  rw [List.drop_eq_getElem_cons h]
  simp [List.getD, h]
theorem lns_to (l : List Int) : ∀ k, k ≤ l.length → lns l = (linesTo l k).1 ++ lns (l.drop (linesTo l k).2)
  | 0, _ => by simp [linesTo]
  | k + 1, h => by
    have ih := lns_to l k (by omega)
    have hcf := cut_flat l k (by omega)
    have hft := from_to l k
    rw [linesTo]
    cases he : enB l k
    · simpa using ih
    · simp only [if_true]
      rw [ih, List.append_assoc, List.singleton_append]
      congr 1
      rw [drop_cut l _ _ hft.1]
      by_cases hp : 1 ≤ k ∧ prB l (k - 1) = true
      · have ht : toOf l k = k - 1 := by unfold toOf; rw [if_pos hp]
        have hp2 := hp.2
        simp only [prB, Bool.and_eq_true, decide_eq_true_eq, beq_iff_eq] at hp2
        have hk1 : k - 1 + 1 = k := by omega
        rw [hk1] at hp2
        have e1 : l.drop (toOf l k) = 13 :: 10 :: l.drop (k + 1) := by rw [ht, drop_at (by omega), hk1, drop_at (by omega), hp2.1.2, hp2.2]
        rw [e1, lns_crlf _ _ hcf]
      · have ht : toOf l k = k := by unfold toOf; rw [if_neg hp]
        have e1 : l.drop (toOf l k) = l.getD k 0 :: l.drop (k + 1) := by rw [ht, drop_at (by omega)]
        rw [e1]
        have he2 := he
        unfold enB at he2
        simp only [Bool.or_eq_true, Bool.and_eq_true, beq_iff_eq, Bool.not_eq_true'] at he2
        rcases he2 with h5 | ⟨h5, h6⟩
        · rw [h5, lns_cut _ _ hcf]
        · rw [h5, lns_cr _ _ hcf]
          intro h7
          rw [← Bool.not_eq_true] at h6
          apply h6
          have hlt : k + 1 < l.length := by
            by_cases h8 : k + 1 < l.length
            · exact h8
            · rw [List.drop_eq_nil_of_le (by omega)] at h7; cases h7
          simp only [prB, Bool.and_eq_true, decide_eq_true_eq, beq_iff_eq]
          refine ⟨⟨hlt, h5⟩, ?_⟩
          rw [drop_at hlt] at h7
          simpa using h7
theorem linesL_eq (l : List Int) : linesL l = lns l := by
  rw [lns_to l l.length (Nat.le_refl _)]
  unfold linesL
  congr 1
  have h := cut_flat l l.length (Nat.le_refl _)
  have hft := from_to l l.length
  have ht : toOf l l.length = l.length := by
    unfold toOf
    rw [if_neg]
    rintro ⟨h1, h2⟩
    simp only [prB, Bool.and_eq_true, decide_eq_true_eq] at h2
    omega
  rw [ht] at h
  have e : cut l (linesTo l l.length).2 l.length = l.drop (linesTo l l.length).2 := by
    unfold cut
    exact List.take_of_length_le (by simp)
  rw [e] at h
  rw [lns_one _ h]
end Go.Proofs.YtmhelpocddndjaaGreat.sv
namespace Go.Proofs.YtmhelpocddndjaaGreat.sv
set_option linter.unusedVariables false

/-- The least of the indents of the lines that aren't blank; none: 0. -/
def lst : List (List Int) → Option Nat
  | [] => none
  | x :: L => if blk x then lst L else some (match lst L with | none => ind x | some m => min (ind x) m)
def cmn (L : List (List Int)) : Nat := (lst (L.drop 1)).getD 0
def cutL (n : Nat) : List (List Int) → List (List Int)
  | [] => []
  | x :: L => x :: L.map (List.drop n)
def trm (L : List (List Int)) : List (List Int) := ((L.dropWhile blk).reverse.dropWhile blk).reverse
def ddt (L : List (List Int)) : List (List Int) := trm (cutL (cmn L) L)
def blo (l : List Int) : Option (List Int) := if std l 0 0 then some (jn (ddt ((lns l).map opn))) else none
/-- Has a block string the value of these lines? -/
def pos (L : List (List Int)) : Bool := match L with
  | [] => false
  | x :: r => !blk x && !blk ((x :: r).getLastD []) && ((x :: r).any (fun l => ind l == 0 && !blk l) || r.isEmpty)
def ins (L : List (List Int)) : List Int :=
  if (L.length == 1 && whB ((L.headD []).headD 0)) = true then L.flatMap (fun x => grd x ++ [10]) else 10 :: L.flatMap (fun x => grd x ++ [10])
/-- The inside of a value's block string. -/
def btx (v : List Int) : Option (List Int) :=
  if (v.all soB && !v.contains 13) = false then none else if v = [] then some [] else if pos (lns v) then some (ins (lns v)) else none

theorem ind_le (l : List Int) : ind l ≤ l.length := by
  unfold ind
  exact (List.takeWhile_prefix whB).length_le
theorem blk_ind (l : List Int) : blk l = (ind l == l.length) := by
  induction l with
  | nil => rfl
  | cons c r ih =>
    unfold blk ind at ih ⊢
    rw [List.all_cons, List.takeWhile_cons]
    cases h : whB c
    · simp
    · simp [ih]
theorem blk_nil : blk [] = true := rfl
theorem ind0 {c : Int} {r : List Int} (h : whB c = false) : ind (c :: r) = 0 := by unfold ind; rw [List.takeWhile_cons, h]; rfl
/-- What is left of a line behind its own indent. -/
theorem ind_drop : ∀ (l : List Int) (n : Nat), n ≤ ind l → ind (l.drop n) = ind l - n
  | l, 0, _ => by simp
  | [], n + 1, h => by simp [ind] at h
  | c :: r, n + 1, h => by
    cases hc : whB c
    · rw [ind0 hc] at h; omega
    · have e : ind (c :: r) = ind r + 1 := by unfold ind; rw [List.takeWhile_cons, hc]; simp
      rw [e] at h ⊢
      rw [List.drop_succ_cons, ind_drop r n (by omega)]
      omega
theorem blk_drop (l : List Int) (n : Nat) (h : n ≤ ind l) : blk (l.drop n) = blk l := by
  rw [blk_ind, blk_ind, ind_drop l n h, List.length_drop]
  have := ind_le l
  rw [Bool.eq_iff_iff, beq_iff_eq, beq_iff_eq]
  omega
theorem blk_drop_yes (l : List Int) (n : Nat) (h : blk l = true) : blk (l.drop n) = true := by
  unfold blk at h ⊢
  rw [List.all_eq_true] at h ⊢
  exact fun c hc => h c (List.mem_of_mem_drop hc)
/-- The least: it is one of them, and none is less. -/
theorem lst_none {L : List (List Int)} (h : lst L = none) : ∀ x ∈ L, blk x = true := by
  induction L with
  | nil => intro x hx; cases hx
  | cons y L ih =>
    rw [lst] at h
    cases hb : blk y
    · rw [hb] at h; simp at h
    · rw [hb, if_pos rfl] at h
      intro x hx
      rcases List.mem_cons.1 hx with rfl | h2
      · exact hb
      · exact ih h x h2
theorem lst_some {L : List (List Int)} {m : Nat} (h : lst L = some m) : (∃ x ∈ L, blk x = false ∧ ind x = m) ∧ ∀ x ∈ L, blk x = false → m ≤ ind x := by
  induction L generalizing m with
  | nil => cases h
  | cons y L ih =>
    rw [lst] at h
    cases hb : blk y
    · rw [hb] at h
      simp only [Bool.false_eq_true, if_false, Option.some.injEq] at h
      cases hL : lst L with
      | none =>
        rw [hL] at h
        simp only at h
        refine ⟨⟨y, by simp, hb, h⟩, fun x hx hx2 => ?_⟩
        rcases List.mem_cons.1 hx with rfl | h2
        · omega
        · rw [lst_none hL x h2] at hx2; cases hx2
      | some k =>
        rw [hL] at h
        simp only at h
        obtain ⟨⟨z, hz, hz2, hz3⟩, h4⟩ := ih hL
        refine ⟨?_, fun x hx hx2 => ?_⟩
        · by_cases hle : ind y ≤ k
          · exact ⟨y, by simp, hb, by omega⟩
          · exact ⟨z, by simp [hz], hz2, by omega⟩
        · rcases List.mem_cons.1 hx with rfl | h2
          · omega
          · have := h4 x h2 hx2; omega
    · rw [hb, if_pos rfl] at h
      obtain ⟨⟨z, hz, hz2, hz3⟩, h4⟩ := ih h
      refine ⟨⟨z, by simp [hz], hz2, hz3⟩, fun x hx hx2 => ?_⟩
      rcases List.mem_cons.1 hx with rfl | h2
      · rw [hb] at hx2; cases hx2
      · exact h4 x h2 hx2
theorem lst_zero {L : List (List Int)} (h : ∃ x ∈ L, blk x = false ∧ ind x = 0) : lst L = some 0 := by
  cases hL : lst L with
  | none =>
    obtain ⟨x, hx, hx2, _⟩ := h
    rw [lst_none hL x hx] at hx2; cases hx2
  | some m =>
    obtain ⟨x, hx, hx2, hx3⟩ := h
    have := (lst_some hL).2 x hx hx2
    have : m = 0 := by omega
    rw [this]
/-- Trimming. -/
theorem dropWhile_all {α : Type} {p : α → Bool} : ∀ {l : List α}, (∀ x ∈ l, p x = true) → l.dropWhile p = []
  | [], _ => rfl
  | x :: l, h => by rw [List.dropWhile_cons, h x (by simp), if_pos rfl]; exact dropWhile_all (fun y hy => h y (by simp [hy]))
theorem dropWhile_app {α : Type} {p : α → Bool} : ∀ {a b : List α}, (∀ x ∈ a, p x = true) → (a ++ b).dropWhile p = b.dropWhile p
  | [], b, _ => rfl
  | x :: a, b, h => by rw [List.cons_append, List.dropWhile_cons, h x (by simp), if_pos rfl]; exact dropWhile_app (fun y hy => h y (by simp [hy]))
theorem dropWhile_no {α : Type} {p : α → Bool} {x : α} {l : List α} (h : p x = false) : (x :: l).dropWhile p = x :: l := by rw [List.dropWhile_cons, h]; rfl
theorem dropWhile_app_no {α : Type} {p : α → Bool} : ∀ {a b : List α}, (∃ x ∈ a, p x = false) → (a ++ b).dropWhile p = a.dropWhile p ++ b
  | [], b, h => by obtain ⟨x, hx, _⟩ := h; cases hx
  | y :: a, b, h => by
    rw [List.cons_append, List.dropWhile_cons, List.dropWhile_cons]
    cases hy : p y
    · simp
    · simp only [if_true]
      obtain ⟨x, hx, hx2⟩ := h
      rcases List.mem_cons.1 hx with rfl | h2
      · rw [hy] at hx2; cases hx2
      · exact dropWhile_app_no ⟨x, h2, hx2⟩
theorem dropWhile_head {α : Type} {p : α → Bool} : ∀ {l : List α} {x : α} {r : List α}, l.dropWhile p = x :: r → p x = false
  | [], x, r, h => by cases h
  | y :: l, x, r, h => by
    rw [List.dropWhile_cons] at h
    cases hy : p y
    · rw [hy] at h
      simp only [Bool.false_eq_true, if_false, List.cons.injEq] at h
      rw [← h.1]; exact hy
    · rw [hy, if_pos rfl] at h
      exact dropWhile_head h
theorem dropWhile_mem {α : Type} {p : α → Bool} {x : α} : ∀ {l : List α}, x ∈ l → p x = false → x ∈ l.dropWhile p
  | [], h, _ => by cases h
  | y :: l, h, hp => by
    rw [List.dropWhile_cons]
    cases hy : p y
    · simpa using h
    · rw [if_pos rfl]
      rcases List.mem_cons.1 h with rfl | h2
      · rw [hy] at hp; cases hp
      · exact dropWhile_mem h2 hp
theorem mem_dropWhile {α : Type} {p : α → Bool} {x : α} : ∀ {l : List α}, x ∈ l.dropWhile p → x ∈ l
  | [], h => h
  | y :: l, h => by
    rw [List.dropWhile_cons] at h
    cases hy : p y
    · rw [hy] at h; simpa using h
    · rw [hy, if_pos rfl] at h
      exact List.mem_cons_of_mem _ (mem_dropWhile h)
theorem trm_mem {L : List (List Int)} {x : List Int} (h : x ∈ L) (hb : blk x = false) : x ∈ trm L := by
  unfold trm
  rw [List.mem_reverse]
  exact dropWhile_mem (by rw [List.mem_reverse]; exact dropWhile_mem h hb) hb
theorem mem_trm {L : List (List Int)} {x : List Int} (h : x ∈ trm L) : x ∈ L := by
  unfold trm at h
  rw [List.mem_reverse] at h
  have := mem_dropWhile h
  rw [List.mem_reverse] at this
  exact mem_dropWhile this
/-- Blank lines at both ends, and lines between that are not blank at their ends. -/
theorem trm_mid {A B M : List (List Int)} (hA : ∀ x ∈ A, blk x = true) (hB : ∀ x ∈ B, blk x = true) (h1 : ∃ x r, M = x :: r ∧ blk x = false) (h2 : ∃ x r, M = r ++ [x] ∧ blk x = false) : trm (A ++ M ++ B) = M := by
  unfold trm
  rw [List.append_assoc, dropWhile_app hA]
  obtain ⟨x, r, e, hx⟩ := h1
  have e1 : (M ++ B).dropWhile blk = M ++ B := by rw [e, List.cons_append, dropWhile_no hx]
  rw [e1, List.reverse_append, dropWhile_app (fun y hy => hB y (by simpa using hy))]
  obtain ⟨y, s, e2, hy⟩ := h2
  rw [e2, List.reverse_append, List.reverse_singleton, List.singleton_append, dropWhile_no hy]
  simp
/-- Any lines: what is trimmed away, and what is left. -/
theorem trm_form (L : List (List Int)) : (trm L = [] ∧ ∀ x ∈ L, blk x = true) ∨ ∃ A B, L = A ++ trm L ++ B ∧ (∀ x ∈ A, blk x = true) ∧ (∀ x ∈ B, blk x = true) ∧ (∃ x r, trm L = x :: r ∧ blk x = false) ∧ (∃ x r, trm L = r ++ [x] ∧ blk x = false) := by
  by_cases h : ∃ x ∈ L, blk x = false
  · right
    have hA : ∀ (K : List (List Int)), ∃ A, K = A ++ K.dropWhile blk ∧ ∀ x ∈ A, blk x = true := fun K => ⟨K.takeWhile blk, (List.takeWhile_append_dropWhile).symm, fun x hx => by
      have := List.all_takeWhile (l := K) (p := blk)
      rw [List.all_eq_true] at this
      exact this x hx⟩
    obtain ⟨A, hA1, hA2⟩ := hA L
    obtain ⟨B, hB1, hB2⟩ := hA (L.dropWhile blk).reverse
    have hm : L.dropWhile blk = trm L ++ B.reverse := by
      have := congrArg List.reverse hB1
      rw [List.reverse_reverse, List.reverse_append] at this
      exact this
    obtain ⟨x, hx, hx2⟩ := h
    have hx3 := trm_mem hx hx2
    refine ⟨A, B.reverse, ?_, hA2, fun y hy => hB2 y (by simpa using hy), ?_, ?_⟩
    · rw [List.append_assoc, ← hm]; exact hA1
    · cases ht : trm L with
      | nil => rw [ht] at hx3; cases hx3
      | cons y r =>
        rw [ht, List.cons_append] at hm
        exact ⟨y, r, rfl, dropWhile_head hm⟩
    · unfold trm at hx3 ⊢
      cases ht : (L.dropWhile blk).reverse.dropWhile blk with
      | nil => rw [ht] at hx3; cases hx3
      | cons y r => exact ⟨y, r.reverse, by simp, dropWhile_head ht⟩
  · left
    have h2 : ∀ x ∈ L, blk x = true := fun x hx => by
      cases hb : blk x
      · exact absurd ⟨x, hx, hb⟩ h
      · rfl
    refine ⟨?_, h2⟩
    unfold trm
    rw [dropWhile_all h2]
    rfl
end Go.Proofs.YtmhelpocddndjaaGreat.sv
namespace Go.Proofs.YtmhelpocddndjaaGreat.sv
open Go.ChangeShapes Go.WideShapes Go.ChangeAt Go.RowKit
open mem
open ints (hide unhide soP)
set_option linter.unusedVariables false
theorem whB_eq (c : Int) : whB c = (decide (c = 9) || decide (c = 32)) := by unfold whB; simp [BEq.beq]
/-- how far the white characters go -/
theorem ind_all (l : List Int) (h : ∀ j, j < l.length → whB (l.getD j 0) = true) : ind l = l.length := by
  have hb : blk l = true := by
    unfold blk
    rw [List.all_eq_true]
    intro x hx
    obtain ⟨i, hi, rfl⟩ := List.mem_iff_getElem.1 hx
    have := h i hi
    simpa [List.getD, hi] using this
  rw [blk_ind] at hb
  exact beq_iff_eq.1 hb
theorem ind_stop : ∀ (l : List Int) (k : Nat), k < l.length → (∀ j, j < k → whB (l.getD j 0) = true) → whB (l.getD k 0) = false → ind l = k
  | [], k, h, _, _ => by simp at h
  | c :: r, 0, _, _, h => ind0 (by simpa using h)
  | c :: r, k + 1, h, h1, h2 => by
    have hc : whB c = true := by simpa using h1 0 (by omega)
    have e : ind (c :: r) = ind r + 1 := by unfold ind; rw [List.takeWhile_cons, hc]; simp
    rw [e, ind_stop r k (by simp at h; omega) (fun j hj => by simpa using h1 (j + 1) (by omega)) (by simpa using h2)]
set_option maxHeartbeats 1000000 in
theorem indent_ok (a : Option Addr) (n c : Nat) (l : List Int) (w : World) (h : Row .i32 w a n c l) (hn : n ≤ 9223372036854775806) :
    Calls Tryz.prog 121 #[.slice a n c] w fun e w' => e = .returned (.int .i64 (ind l : Nat)) ∧ w' = w := by
  have HL := hide h.len
  go_enter Tryz.func121, Tryz.ntmps121
  go_wp2
  go_loopw [7] (fun i wr => ∃ k : Nat, k ≤ n ∧ i = .int .i64 k ∧ wr = w ∧ Hid (∀ j, j < k → whB (l.getD j 0) = true)) (fun i _ => n - (intOf i).toNat)
  case atStart => exact ⟨0, Nat.zero_le _, rfl, rfl, hide (fun j hj => by omega)⟩
  case round =>
    obtain ⟨k, hk, rfl, rfl, hw⟩ := hrel
    by_cases hlt : k < n
    · rcases h.at_ with h0 | ⟨b, off, rfl, hbw, hcell⟩
      · omega
      have c1 := hcell k hlt
      obtain ⟨x, hx⟩ : ∃ x, x = l.getD k 0 := ⟨_, rfl⟩
      rw [← hx] at c1
      have Hx := hide hx
      clear hx hcell
      by_cases h9 : x = 9
      · subst h9
        go_wp2
        refine ⟨⟨k + 1, by omega, rfl, trivial, hide (fun j hj => ?_)⟩, by simp only [intOf]; omega⟩
        by_cases e : j = k
        · subst e; rw [← unhide Hx]; rfl
        · exact unhide hw j (by omega)
      · by_cases h32 : x = 32
        · subst h32
          go_wp2
          refine ⟨⟨k + 1, by omega, rfl, trivial, hide (fun j hj => ?_)⟩, by simp only [intOf]; omega⟩
          by_cases e : j = k
          · subst e; rw [← unhide Hx]; rfl
          · exact unhide hw j (by omega)
        · have b9 : (x != 9) = true := by simp [h9]
          have b32 : (x != 32) = true := by simp [h32]
          go_wp2
          go_ret
          have e : ind l = k := ind_stop l k (by rw [unhide HL]; exact hlt) (unhide hw) (by rw [← unhide Hx]; simp [whB, h9, h32])
          rw [e]
          exact ⟨rfl, rfl⟩
    · obtain rfl : k = n := by omega
      go_wp2
      go_ret
      have e : ind l = k := by rw [ind_all l (fun j hj => unhide hw j (by rw [← unhide HL]; exact hj)), unhide HL]
      rw [e]
      exact ⟨rfl, rfl⟩
theorem blank_ok (a : Option Addr) (n c : Nat) (l : List Int) (w : World) (h : Row .i32 w a n c l) (hn : n ≤ 9223372036854775806) :
    Calls Tryz.prog 110 #[.slice a n c] w fun e w' => e = .returned (.bool (blk l)) ∧ w' = w := by
  have I := hide (fun W (hW : Row .i32 W a n c l) => indent_ok a n c l W hW hn)
  have e : blk l = (((ind l : Nat) : Int) == (n : Int)) := by
    rw [blk_ind, h.len, Bool.eq_iff_iff, beq_iff_eq, beq_iff_eq]
    omega
  rw [e]
  obtain ⟨m, hm⟩ : ∃ m, m = ind l := ⟨_, rfl⟩
  rw [← hm] at I ⊢
  clear e hm
  go_enter Tryz.func110, Tryz.ntmps110
  go_wp2_with fail
  refine (unhide I _ h).mono ?_
  rintro e w1 ⟨rfl, rfl⟩
  clear I
  go_wp2
  go_ret
  exact ⟨rfl, rfl⟩
/-- lines that are read -/
structure Lns (w : World) (b off n c : Nat) (L : List (List Int)) : Prop where
  len : L.length = n
  le : n ≤ c
  lt : b < w.heap.size
  at_ : ∀ i, i < n → ∃ ai ci, w.cell? ⟨b, off + i, none⟩ = some (.slice ai (L.getD i []).length ci) ∧ Row .i32 w ai (L.getD i []).length ci (L.getD i []) ∧ ∃ bi oi, ai = some ⟨bi, oi, none⟩
theorem Lns.below {w w' : World} {b off n c : Nat} {L : List (List Int)} (h : Lns w b off n c L) (hb : Below w.heap.size w w') : Lns w' b off n c L :=
  ⟨h.len, h.le, Nat.lt_of_lt_of_le h.lt hb.size, fun i hi => by
    obtain ⟨ai, ci, h1, h2, h3⟩ := h.at_ i hi
    exact ⟨ai, ci, (hb.cell (p := ⟨b, off + i, none⟩) h.lt).trans h1, h2.below hb, h3⟩⟩
theorem lns_of {w : World} {base : Nat} {v : Value} {gs : List Nat} {L : List (List Int)} (h : LinesAt w base v gs L) (hn : 0 < L.length) : ∃ b c, v = .slice (some ⟨b, 0, none⟩) L.length c ∧ Lns w b 0 L.length c L := by
  obtain ⟨h1, h2⟩ := h.own
  rcases h2 with ⟨_, h0⟩ | ⟨g, cap, cur, rfl, hg, hh, hnc, hcm, hcs, hx⟩
  · omega
  refine ⟨g, cap, rfl, rfl, hnc, (by rcases Nat.lt_or_ge g w.heap.size with h | h; exact h; rw [Array.getElem?_eq_none h] at hh; cases hh), fun i hi => ?_⟩
  have hr := own_row (h.each i hi)
  obtain ⟨a, cp, e, hrow⟩ := hr
  refine ⟨a, cp, ?_, hrow, ⟨_, _, by simp only [lineVal, Value.slice.injEq] at e; exact e.1.symm⟩⟩
  rw [Nat.zero_add]
  rw [World.ownsRow.cellAt (base := base) (e := 75) (size := 1) (n := L.length) (cap := cap) (xs := List.zipWith lineVal gs L) ⟨h1, .inr ⟨g, cap, cur, rfl, hg, hh, hnc, hcm, hcs, hx⟩⟩ _ (by omega)]
  rw [← e]
  have hl : i < gs.length := by rw [h.len]; exact hi
  rw [List.getElem?_zipWith]
  simp [List.getD, hi, hl]
theorem lst_snoc (L : List (List Int)) (x : List Int) : lst (L ++ [x]) = if blk x then lst L else some (match lst L with | none => ind x | some m => min (ind x) m) := by
  induction L with
  | nil => simp [lst]
  | cons y L ih =>
    rw [List.cons_append, lst, ih]
    cases hx : blk x
    · cases hy : blk y
      · simp only [Bool.false_eq_true, if_false]
        rw [lst, hy]
        cases lst L with
        | none => simp [Nat.min_comm]
        | some m => simp; omega
      · simp only [Bool.false_eq_true, if_false, if_true]
        rw [lst, hy, if_pos rfl]
    · cases hy : blk y
      · simp only [Bool.false_eq_true, if_false, if_true]
        rw [lst, hy]
        simp
      · simp only [if_true]
        rw [lst, hy, if_pos rfl]
/-- the least indent as the program holds it: -1 is none -/
def lsI (L : List (List Int)) : Int := match lst L with | none => -1 | some m => m
theorem lsI_snoc (L : List (List Int)) (x : List Int) : lsI (L ++ [x]) = if (ind x : Int) < (x.length : Int) ∧ (lsI L < 0 ∨ (ind x : Int) < lsI L) then (ind x : Int) else lsI L := by
  have hb := blk_ind x
  have hle := ind_le x
  unfold lsI
  rw [lst_snoc]
  cases hx : blk x
  · rw [hx] at hb
    have hlt : ind x < x.length := by
      have : ¬ ind x = x.length := fun e => by rw [e] at hb; simp at hb
      omega
    cases lst L with
    | none => simp only [Bool.false_eq_true, if_false]; rw [if_pos (by omega)]
    | some m =>
      simp only [Bool.false_eq_true, if_false]
      by_cases h : ind x < m
      · rw [if_pos (by omega)]; omega
      · rw [if_neg (by omega)]; omega
  · rw [hx] at hb
    have e : ind x = x.length := beq_iff_eq.1 hb.symm
    simp only [if_true]
    rw [if_neg (by omega)]
theorem take_snoc' (L : List (List Int)) (k : Nat) (h : k < L.length) : L.take (k + 1) = L.take k ++ [L.getD k []] := by
  rw [List.take_add_one]
  simp [List.getD, h]
theorem lsI_next (L : List (List Int)) (k : Nat) (h : k < L.length) : lsI (L.take (k + 1)) = if (ind (L.getD k []) : Int) < ((L.getD k []).length : Int) ∧ (lsI (L.take k) < 0 ∨ (ind (L.getD k []) : Int) < lsI (L.take k)) then (ind (L.getD k []) : Int) else lsI (L.take k) := by
  rw [take_snoc' L k h]
  exact lsI_snoc _ _
theorem lsI_ge (L : List (List Int)) : -1 ≤ lsI L := by
  unfold lsI
  cases lst L <;> simp only <;> omega
set_option maxHeartbeats 4000000 in
theorem least_ok (b off n c : Nat) (L : List (List Int)) (w : World) (h : Lns w b off n c L) (hn : n ≤ 9223372036854775806) (hm : ∀ i, (L.getD i []).length ≤ 1099511627776) :
    Calls Tryz.prog 122 #[.slice (some ⟨b, off, none⟩) n c] w fun e w' => e = .returned (.int .i64 (max (lsI L) 0)) ∧ Below w.heap.size w w' := by
  have HL := hide h.len
  go_enter Tryz.func122, Tryz.ntmps122
  go_wp2
  go_loopw [3, 9] (fun t i wr => ∃ k : Nat, k ≤ n ∧ i = .int .i64 k ∧ t = .int .i64 (lsI (L.take k)) ∧ Below w.heap.size w wr) (fun _ i _ => n - (intOf i).toNat)
  case atStart => exact ⟨0, Nat.zero_le _, rfl, rfl, Below.refl _ _⟩
  case round =>
    obtain ⟨k, hk, rfl, rfl, hb⟩ := hrel
    by_cases hlt : k < n
    · obtain ⟨ai, ci, h1, h2, _⟩ := (h.below hb).at_ k hlt
      have I := hide (fun W (hW : Row .i32 W ai (L.getD k []).length ci (L.getD k [])) => indent_ok ai _ ci _ W hW (by have := hm k; omega))
      have hsn := hide (lsI_next L k (by rw [unhide HL]; exact hlt))
      have hge := lsI_ge (L.take k)
      have hmk := hm k
      have H2 := hide h2
      obtain ⟨x, hx⟩ : ∃ x, x = L.getD k [] := ⟨_, rfl⟩
      rw [← hx] at h1 I hsn hmk H2
      obtain ⟨T, hT⟩ : ∃ T, T = lsI (L.take k) := ⟨_, rfl⟩
      rw [← hT] at hsn hge ⊢
      have hil := ind_le x
      obtain ⟨m, hm2⟩ : ∃ m, m = ind x := ⟨_, rfl⟩
      rw [← hm2] at I hsn hil
      obtain ⟨q, hq⟩ : ∃ q, q = x.length := ⟨_, rfl⟩
      rw [← hq] at h1 I hsn hmk hil H2
      clear hx hT hm2 hq h2 hm
      have hle := h.le
      have HB := hide hb
      by_cases c1 : (m : Int) < (q : Int)
      · by_cases c2 : T < 0
        · have e := hide (show lsI (L.take (k + 1)) = (m : Int) by rw [unhide hsn, if_pos ⟨c1, .inl c2⟩])
          go_wp2_with fail
          refine (unhide I _ (unhide H2)).mono ?_
          rintro e w1 ⟨rfl, rfl⟩
          go_wp2
          refine ⟨⟨k + 1, by omega, rfl, by rw [unhide e], unhide HB⟩, by simp only [intOf]; omega⟩
        · by_cases c3 : (m : Int) < T
          · have e := hide (show lsI (L.take (k + 1)) = (m : Int) by rw [unhide hsn, if_pos ⟨c1, .inr c3⟩])
            go_wp2_with fail
            refine (unhide I _ (unhide H2)).mono ?_
            rintro e w1 ⟨rfl, rfl⟩
            go_wp2
            refine ⟨⟨k + 1, by omega, rfl, by rw [unhide e], unhide HB⟩, by simp only [intOf]; omega⟩
          · have e := hide (show lsI (L.take (k + 1)) = T by rw [unhide hsn, if_neg (by omega)])
            go_wp2_with fail
            refine (unhide I _ (unhide H2)).mono ?_
            rintro e w1 ⟨rfl, rfl⟩
            go_wp2
            refine ⟨⟨k + 1, by omega, rfl, by rw [unhide e], unhide HB⟩, by simp only [intOf]; omega⟩
      · have e := hide (show lsI (L.take (k + 1)) = T by rw [unhide hsn, if_neg (by omega)])
        go_wp2_with fail
        refine (unhide I _ (unhide H2)).mono ?_
        rintro e w1 ⟨rfl, rfl⟩
        go_wp2
        refine ⟨⟨k + 1, by omega, rfl, by rw [unhide e], unhide HB⟩, by simp only [intOf]; omega⟩
    · obtain rfl : k = n := by omega
      have e : L.take k = L := List.take_of_length_le (by rw [unhide HL]; omega)
      rw [e]
      have hge := lsI_ge L
      obtain ⟨T, hT⟩ : ∃ T, T = lsI L := ⟨_, rfl⟩
      rw [← hT] at hge ⊢
      have HT := hide hT
      clear hT
      have HB := hide hb
      by_cases c0 : T < 0
      · have e2 := hide (show max T 0 = 0 by omega)
        go_wp2
        go_ret
        rw [← unhide HT, unhide e2]
        exact ⟨rfl, unhide HB⟩
      · have e2 := hide (show max T 0 = T by omega)
        go_wp2
        go_ret
        rw [← unhide HT, unhide e2]
        exact ⟨rfl, unhide HB⟩
end Go.Proofs.YtmhelpocddndjaaGreat.sv
namespace Go.Proofs
open Go.Shelf
def Tryz.lays137_ren : Go.Shelf.Ren := ⟨fun | 137 => 83 | 217 => 107 | 266 => 120 | n => n, fun | 9 => 9 | 5 => 5 | 3 => 3 | n => n, fun | n => n⟩
theorem Tryz.lays137 : Go.Proofs.Lays.n137 Tryz.prog Tryz.lays137_ren := {
  mixed := by kernel_rfl
  f137 := Tryz.func83.trans (congrArg some (by kernel_rfl))
  f217 := Tryz.func107.trans (congrArg some (by kernel_rfl))
  f266 := Tryz.func120.trans (congrArg some (by kernel_rfl))
  t3 := Tryz.underlying3
  a3 := Tryz.isAgg3
  z3 := Tryz.sizeOf3
  v3 := Tryz.zeroValue3
  t5 := Tryz.underlying5
  a5 := Tryz.isAgg5
  z5 := Tryz.sizeOf5
  v5 := Tryz.zeroValue5
  t9 := Tryz.underlying9
  a9 := Tryz.isAgg9
  z9 := Tryz.sizeOf9
  v9 := Tryz.zeroValue9 }
open Go.RowKit in
theorem Tryz.strings_IndexByte (s : ByteArray) (c : Int) (w : World) :
    Calls Tryz.prog 83 #[.string s, .int .u8 c] w fun e w' => e = .returned (.int .i64 (Lib.indexByte s.data.toList c.toNat.toUInt8)) ∧ w' = w := Any.strings_IndexByte Tryz.lays137 s c w
end Go.Proofs
namespace Go.Proofs.YtmhelpocddndjaaGreat.lx
open Go.ChangeShapes Go.WideShapes Go.ChangeAt Go.RowKit
open mem
open ints (hide unhide)
set_option linter.unusedVariables false
theorem inB_ret {id : Nat} {Q : Exit → Act → World → Prop} {a : Act} {w : World} : Exit.inBlock id Q .ret a w = Q .ret a w := rfl
theorem th_ret {n : Act → World → Prop} {Q : Exit → Act → World → Prop} {a : Act} {w : World} : Exit.then n Q .ret a w = Q .ret a w := rfl
theorem idx_none (l : List UInt8) (c : UInt8) (h : ∀ b ∈ l, b ≠ c) : Lib.indexByte l c = -1 := by
  induction l with
  | nil => rfl
  | cons b l ih =>
    have h1 := h b (by simp)
    have h2 := ih (fun x hx => h x (by simp [hx]))
    unfold Lib.indexByte
    rw [h2]
    simp [h1]
theorem idx_tail (l : List UInt8) (k : Nat) (hk : 128 ≤ k) (hk2 : k < 256) (hl : l.all (fun b => decide (b.toNat < 128)) = true) : Lib.indexByte l ((k : Int).toNat.toUInt8) = -1 := by
  apply idx_none
  intro b hb e
  rw [List.all_eq_true] at hl
  have h1 := hl b hb
  simp only [decide_eq_true_eq] at h1
  rw [e] at h1
  simp at h1
  omega
theorem idx_call (k m : Nat) (W : World) (hk : k = 2 ∨ k = 3 ∨ k = 4) (h1 : 128 ≤ m) (h2 : m < 256) :
    Calls Tryz.prog 83 #[.string ((⟨#[33, 36, 38, 40, 41, 58, 61, 64, 91, 93, 123, 124, 125]⟩ : ByteArray).extract k 13), .int .u8 (m : Int)] W fun e w' => e = .returned (.int .i64 (-1)) ∧ w' = W := by
  have h := Tryz.strings_IndexByte ((⟨#[33, 36, 38, 40, 41, 58, 61, 64, 91, 93, 123, 124, 125]⟩ : ByteArray).extract k 13) (m : Int) W
  rw [idx_tail _ _ h1 h2 (by rcases hk with rfl | rfl | rfl <;> decide +kernel)] at h
  exact h
set_option maxHeartbeats 16000000 in
set_option maxRecDepth 100000 in
theorem idx_hi (c : Int) (w : World) (hs : scP c) (h0 : 128 ≤ c) (hf : ¬ c = 65533) :
    Calls Tryz.prog 64 #[.string ⟨#[33, 36, 38, 40, 41, 58, 61, 64, 91, 93, 123, 124, 125]⟩, .int .i32 c] w fun e w' => e = .returned (.int .i64 (-1)) ∧ Below w.heap.size w w' := by
  have V := hide (fun W => valid_yes c W hs)
  have h1 : c ≤ 1114111 := by unfold scP at hs; omega
  obtain ⟨z1, z2, z3⟩ := encode_facts c ((by obtain ⟨n, rfl⟩ : ∃ n : Nat, c = n := ⟨c.toNat, by omega⟩; exact (valid_iff n).2 (by unfold scP at hs; omega))) h0
  have hcv := fun W => run_convert_int_string (P := Tryz.prog) W 21 9 .i32 c (by rw [Tryz.underlying21]; rfl) Tryz.underlying9
  obtain ⟨R, hR⟩ : ∃ R, R = Utf8.encode c := ⟨_, rfl⟩
  rw [← hR] at z1 z2 z3 hcv
  clear hs hR
  have hlt : R.size - 1 < R.size := by omega
  have z4 := z3 hlt
  clear z3
  have wr2 : IntKind.i64.wrap 2 = 2 := by decide
  have wr3 : IntKind.i64.wrap 3 = 3 := by decide
  have wr4 : IntKind.i64.wrap 4 = 4 := by decide
  rcases (show R.size = 2 ∨ R.size = 3 ∨ R.size = 4 by omega) with hz | hz | hz
  · have hl1 : 1 < R.size := by omega
    have z5 : 128 ≤ (R[1]'hl1).toNat := by
      have e : ∀ (j : Nat) (hj : j < R.size), j = 1 → (R[j]'hj).toNat = (R[1]'hl1).toNat := by intro j hj e; subst e; rfl
      rw [← e _ hlt (by omega)]; exact z4
    have hk2 := UInt8.toNat_lt (R[1]'hl1)
    have n1 : (((⟨#[33, 36, 38, 40, 41, 58, 61, 64, 91, 93, 123, 124, 125]⟩ : ByteArray)[1]'(by decide)).toNat : Int) = 36 := rfl
    have IB := fun (W : World) => idx_call 2 _ W (by decide) z5 hk2
    obtain ⟨x, hx⟩ : ∃ x, x = (R[1]'hl1).toNat := ⟨_, rfl⟩
    rw [← hx] at z5 IB
    have hx2 : (R[1]'hl1).toNat = x := hx.symm
    have hne : ¬ (36 : Int) = (x : Int) := by omega
    clear hx z4 hlt hk2
    go_enter Tryz.func64, Tryz.ntmps64
    go_wp2_with fail
    refine (unhide V _).mono ?_
    rintro e w1 ⟨rfl, rfl⟩
    go_wp2_with fail
    go_step3
    go_wp2_with fail
    refine wp_loop_rounds 1 ?_
    rw [rounds_succ]
    go_wp2_with fail
    go_step3
    go_wp2_with fail
    go_region
    go_wp2_with fail
    go_quiet ((refine Calls.mono (IB _) ?_; rintro e w' ⟨rfl, rfl⟩; exact ⟨rfl, _, rfl⟩))
    go_wp2
    rw [Exit.noGoto_ret, inB_ret, th_ret, inB_ret, th_ret, Exit.noGoto_ret]
    go_ret
    exact ⟨rfl, Go.below_drewN (Below.refl _ _) _⟩
  · have hl2 : 2 < R.size := by omega
    have z5 : 128 ≤ (R[2]'hl2).toNat := by
      have e : ∀ (j : Nat) (hj : j < R.size), j = 2 → (R[j]'hj).toNat = (R[2]'hl2).toNat := by intro j hj e; subst e; rfl
      rw [← e _ hlt (by omega)]; exact z4
    have hk2 := UInt8.toNat_lt (R[2]'hl2)
    have n1 : (((⟨#[33, 36, 38, 40, 41, 58, 61, 64, 91, 93, 123, 124, 125]⟩ : ByteArray)[2]'(by decide)).toNat : Int) = 38 := rfl
    have IB := fun (W : World) => idx_call 3 _ W (by decide) z5 hk2
    obtain ⟨x, hx⟩ : ∃ x, x = (R[2]'hl2).toNat := ⟨_, rfl⟩
    rw [← hx] at z5 IB
    have hx2 : (R[2]'hl2).toNat = x := hx.symm
    have hne : ¬ (38 : Int) = (x : Int) := by omega
    clear hx z4 hlt hk2
    go_enter Tryz.func64, Tryz.ntmps64
    go_wp2_with fail
    refine (unhide V _).mono ?_
    rintro e w1 ⟨rfl, rfl⟩
    go_wp2_with fail
    go_step3
    go_wp2_with fail
    refine wp_loop_rounds 1 ?_
    rw [rounds_succ]
    go_wp2_with fail
    go_step3
    go_wp2_with fail
    go_region
    go_wp2_with fail
    go_quiet ((refine Calls.mono (IB _) ?_; rintro e w' ⟨rfl, rfl⟩; exact ⟨rfl, _, rfl⟩))
    go_wp2
    rw [Exit.noGoto_ret, inB_ret, th_ret, inB_ret, th_ret, Exit.noGoto_ret]
    go_ret
    exact ⟨rfl, Go.below_drewN (Below.refl _ _) _⟩
  · have hl3 : 3 < R.size := by omega
    have z5 : 128 ≤ (R[3]'hl3).toNat := by
      have e : ∀ (j : Nat) (hj : j < R.size), j = 3 → (R[j]'hj).toNat = (R[3]'hl3).toNat := by intro j hj e; subst e; rfl
      rw [← e _ hlt (by omega)]; exact z4
    have hk2 := UInt8.toNat_lt (R[3]'hl3)
    have n1 : (((⟨#[33, 36, 38, 40, 41, 58, 61, 64, 91, 93, 123, 124, 125]⟩ : ByteArray)[3]'(by decide)).toNat : Int) = 40 := rfl
    have IB := fun (W : World) => idx_call 4 _ W (by decide) z5 hk2
    obtain ⟨x, hx⟩ : ∃ x, x = (R[3]'hl3).toNat := ⟨_, rfl⟩
    rw [← hx] at z5 IB
    have hx2 : (R[3]'hl3).toNat = x := hx.symm
    have hne : ¬ (40 : Int) = (x : Int) := by omega
    clear hx z4 hlt hk2
    go_enter Tryz.func64, Tryz.ntmps64
    go_wp2_with fail
    refine (unhide V _).mono ?_
    rintro e w1 ⟨rfl, rfl⟩
    go_wp2_with fail
    go_step3
    go_wp2_with fail
    refine wp_loop_rounds 1 ?_
    rw [rounds_succ]
    go_wp2_with fail
    go_step3
    go_wp2_with fail
    go_region
    go_wp2_with fail
    go_quiet ((refine Calls.mono (IB _) ?_; rintro e w' ⟨rfl, rfl⟩; exact ⟨rfl, _, rfl⟩))
    go_wp2
    rw [Exit.noGoto_ret, inB_ret, th_ret, inB_ret, th_ret, Exit.noGoto_ret]
    go_ret
    exact ⟨rfl, Go.below_drewN (Below.refl _ _) _⟩
theorem escM_dec (p : Nat) (h : p < 13) : ∃ z : Nat, Utf8.decode ⟨#[33, 36, 38, 40, 41, 58, 61, 64, 91, 93, 123, 124, 125]⟩ p = (z, 1) ∧ z < 128 := by
  have e : ∀ j : Fin 13, (Utf8.decode ⟨#[33, 36, 38, 40, 41, 58, 61, 64, 91, 93, 123, 124, 125]⟩ j.val).2 = 1 ∧ (Utf8.decode ⟨#[33, 36, 38, 40, 41, 58, 61, 64, 91, 93, 123, 124, 125]⟩ j.val).1 < 128 := by decide +kernel
  have := e ⟨p, h⟩
  exact ⟨_, Prod.ext rfl this.1, this.2⟩
set_option maxHeartbeats 4000000 in
set_option maxRecDepth 100000 in
theorem idx_err (w : World) :
    Calls Tryz.prog 64 #[.string ⟨#[33, 36, 38, 40, 41, 58, 61, 64, 91, 93, 123, 124, 125]⟩, .int .i32 65533] w fun e w' => e = .returned (.int .i64 (-1)) ∧ Below w.heap.size w w' := by
  have hsz : (⟨#[33, 36, 38, 40, 41, 58, 61, 64, 91, 93, 123, 124, 125]⟩ : ByteArray).size = 13 := rfl
  have hde := escM_dec
  obtain ⟨s, hS⟩ : ∃ s, s = (⟨#[33, 36, 38, 40, 41, 58, 61, 64, 91, 93, 123, 124, 125]⟩ : ByteArray) := ⟨_, rfl⟩
  rw [← hS] at hsz hde ⊢
  have HD := hide hde
  clear hS hde
  go_enter Tryz.func64, Tryz.ntmps64
  go_wp2
  go_loopw [5] (fun _ wr => ∃ pos : Nat, wr = w.iter s pos ∧ pos ≤ 13) (fun _ wr => 13 - wr.iterPos w.heap.size)
  case atStart => exact ⟨0, rfl, by omega⟩
  case round =>
    obtain ⟨pos, rfl, hpl⟩ := hrel
    by_cases hp : pos < 13
    · obtain ⟨ch, hdec, hch⟩ := unhide HD pos hp
      have hnx : ∀ ty, (Instr.next (.pointer (some ⟨w.heap.size, 0, none⟩)) true ty).run Tryz.prog (w.iter s pos) = .ok (.tuple #[.bool true, .int .i64 pos, .int .i32 (ch : Int)]) (w.iter s (pos + 1)) := fun ty => by
        have := run_next_any (P := Tryz.prog) w s pos ty (by omega)
        rw [hdec] at this
        exact this
      have hne : ¬ (ch : Int) = 65533 := by omega
      have hb : ((ch : Int) == 65533) = false := by simp [hne]
      clear hdec
      go_wp2
      refine ⟨⟨pos + 1, rfl, by omega⟩, ?_⟩
      simp
      omega
    · have hnx : ∀ ty, (Instr.next (.pointer (some ⟨w.heap.size, 0, none⟩)) true ty).run Tryz.prog (w.iter s pos) = .ok (.tuple #[.bool false]) (w.iter s pos) := fun ty => run_next_end (P := Tryz.prog) w s pos ty (by omega)
      go_wp2
      go_ret
      exact ⟨rfl, (Below.refl _ _).alloc (Nat.le_refl _) _⟩
set_option maxHeartbeats 4000000 in
set_option maxRecDepth 100000 in
theorem idx_bad (w : World) : Calls Tryz.prog 64 #[.string ⟨#[33, 36, 38, 40, 41, 58, 61, 64, 91, 93, 123, 124, 125]⟩, .int .i32 (-1)] w fun e w' => e = .returned (.int .i64 (-1)) ∧ Below w.heap.size w w' := by
  have V := hide (fun W => valid_no (-1) W (by unfold scP; omega))
  go_enter Tryz.func64, Tryz.ntmps64
  go_wp2_with fail
  refine (unhide V _).mono ?_
  rintro e w1 ⟨rfl, rfl⟩
  clear V
  go_wp2
  go_ret
  exact ⟨rfl, Below.refl _ _⟩
theorem contains_not (c : Int) (w : World) (hI : ∀ W, Calls Tryz.prog 64 #[.string ⟨#[33, 36, 38, 40, 41, 58, 61, 64, 91, 93, 123, 124, 125]⟩, .int .i32 c] W fun e w' => e = .returned (.int .i64 (-1)) ∧ Below W.heap.size W w') : Calls Tryz.prog 42 #[.string ⟨#[33, 36, 38, 40, 41, 58, 61, 64, 91, 93, 123, 124, 125]⟩, .int .i32 c] w fun e w' => e = .returned (.bool false) ∧ Below w.heap.size w w' := by
  have HI := hide hI
  clear hI
  go_enter Tryz.func42, Tryz.ntmps42
  go_wp2_with fail
  refine ((unhide HI) _).mono ?_
  rintro e w1 ⟨rfl, b1⟩
  clear HI
  go_wp2
  go_ret
  exact ⟨rfl, b1⟩
theorem puB_hi {c : Int} (h : 128 ≤ c ∨ c = -1) : puB c = false := by
  rw [← Bool.not_eq_true]
  intro e
  have hm : c ∈ puL := by
    unfold puB at e
    exact List.elem_iff.1 e
  simp only [puL, List.mem_cons, List.mem_nil_iff, or_false] at hm
  omega
/-- is it a punctuator? -/
theorem contains_any (c : Int) (w : World) (h : scP c ∨ c = -1) : Calls Tryz.prog 42 #[.string ⟨#[33, 36, 38, 40, 41, 58, 61, 64, 91, 93, 123, 124, 125]⟩, .int .i32 c] w fun e w' => e = .returned (.bool (puB c)) ∧ Below w.heap.size w w' := by
  by_cases h1 : c = -1
  · subst h1
    rw [puB_hi (.inr rfl)]
    exact contains_not _ w idx_bad
  · have hs : scP c := by rcases h with h | h; exact h; exact absurd h h1
    by_cases h2 : c ≤ 127
    · refine (contains_ok c w (by unfold scP at hs; omega) h2).mono ?_
      rintro e w1 ⟨rfl, rfl⟩
      exact ⟨rfl, Below.refl _ _⟩
    · rw [puB_hi (.inl (by omega))]
      by_cases hf : c = 65533
      · subst hf
        exact contains_not _ w idx_err
      · exact contains_not _ w (fun W => idx_hi c W hs (by omega) hf)
end Go.Proofs.YtmhelpocddndjaaGreat.lx
namespace Go.Proofs.YtmhelpocddndjaaGreat.lx
open Go.ChangeShapes Go.WideShapes Go.ChangeAt Go.RowKit
open ints (hide unhide hexV)
open mem (Row scP)
set_option linter.unusedVariables false
/-- four hexadecimal digits behind a backslash and a u -/
def codeZ (l : List Int) : Int :=
  if l.length < 6 ∨ l.getD 0 0 ≠ 92 ∨ l.getD 1 0 ≠ 117 then -1
  else if hexV (l.getD 2 0) < 0 ∨ hexV (l.getD 3 0) < 0 ∨ hexV (l.getD 4 0) < 0 ∨ hexV (l.getD 5 0) < 0 then -1
  else ((hexV (l.getD 2 0) * 16 + hexV (l.getD 3 0)) * 16 + hexV (l.getD 4 0)) * 16 + hexV (l.getD 5 0)
theorem hexV_le (c : Int) : hexV c ≤ 15 := by unfold hexV; split; omega; split; omega; split <;> omega
set_option maxHeartbeats 2000000 in
set_option maxRecDepth 4000 in
theorem code_ok (a : Option Addr) (n c : Nat) (l : List Int) (w : World) (h : Row .i32 w a n c l) (hn : n ≤ 1099511627776) :
    Calls Tryz.prog 124 #[.slice a n c] w fun e w' => e = .returned (.int .i32 (codeZ l)) ∧ Below w.heap.size w w' := by
  have hl := hide h.len
  by_cases h6 : n < 6
  · have hz := hide (show codeZ l = -1 from by unfold codeZ; rw [if_pos (.inl (by rw [h.len]; exact h6))])
    have i6 : (n : Int) < 6 := by omega
    go_enter Tryz.func124, Tryz.ntmps124
    go_wp2_with fail
    go_ret
    exact ⟨by rw [unhide hz]; rfl, Below.refl _ _⟩
  have i6 : ¬ (n : Int) < 6 := by omega
  have i0 : (0 : Int) < (n : Int) := by omega
  have i1 : (1 : Int) < (n : Int) := by omega
  have hle := h.le
  rcases h.at_ with h0 | ⟨b, off, rfl, hb, hc⟩
  · omega
  have c0 := hc 0 (by omega)
  have c1 := hc 1 (by omega)
  have c2 := hc 2 (by omega)
  have c3 := hc 3 (by omega)
  have c4 := hc 4 (by omega)
  have c5 := hc 5 (by omega)
  have HZ0 := hide (show codeZ l = (if l.length < 6 ∨ l.getD 0 0 ≠ 92 ∨ l.getD 1 0 ≠ 117 then -1
    else if hexV (l.getD 2 0) < 0 ∨ hexV (l.getD 3 0) < 0 ∨ hexV (l.getD 4 0) < 0 ∨ hexV (l.getD 5 0) < 0 then -1
    else ((hexV (l.getD 2 0) * 16 + hexV (l.getD 3 0)) * 16 + hexV (l.getD 4 0)) * 16 + hexV (l.getD 5 0)) from rfl)
  obtain ⟨x0, e0⟩ : ∃ x, x = l.getD 0 0 := ⟨_, rfl⟩
  obtain ⟨x1, e1⟩ : ∃ x, x = l.getD 1 0 := ⟨_, rfl⟩
  obtain ⟨x2, e2⟩ : ∃ x, x = l.getD 2 0 := ⟨_, rfl⟩
  obtain ⟨x3, e3⟩ : ∃ x, x = l.getD 3 0 := ⟨_, rfl⟩
  obtain ⟨x4, e4⟩ : ∃ x, x = l.getD 4 0 := ⟨_, rfl⟩
  obtain ⟨x5, e5⟩ : ∃ x, x = l.getD 5 0 := ⟨_, rfl⟩
  rw [← e0] at c0
  rw [← e1] at c1
  rw [← e2] at c2
  rw [← e3] at c3
  rw [← e4] at c4
  rw [← e5] at c5
  rw [← e0, ← e1, ← e2, ← e3, ← e4, ← e5] at HZ0
  have c0' : w.cell? ⟨b, off, none⟩ = some (.int .i32 x0) := c0
  clear e0 e1 e2 e3 e4 e5 hc c0
  by_cases hx0 : x0 = 92
  · by_cases hx1 : x1 = 117
    · subst hx0 hx1
      have HZ := hide (show codeZ l = (if hexV x2 < 0 ∨ hexV x3 < 0 ∨ hexV x4 < 0 ∨ hexV x5 < 0 then -1 else ((hexV x2 * 16 + hexV x3) * 16 + hexV x4) * 16 + hexV x5) from by
        rw [unhide HZ0, if_neg (fun e => by rcases e with e | e | e; rw [unhide hl] at e; omega; exact e rfl; exact e rfl)])
      obtain ⟨h0, q0⟩ : ∃ h, h = hexV x2 := ⟨_, rfl⟩
      obtain ⟨h1, q1⟩ : ∃ h, h = hexV x3 := ⟨_, rfl⟩
      obtain ⟨h2, q2⟩ : ∃ h, h = hexV x4 := ⟨_, rfl⟩
      obtain ⟨h3, q3⟩ : ∃ h, h = hexV x5 := ⟨_, rfl⟩
      rw [← q0, ← q1, ← q2, ← q3] at HZ
      have E0 := hide q0
      have E1 := hide q1
      have E2 := hide q2
      have E3 := hide q3
      clear q0 q1 q2 q3 HZ0
      have k2 : (2 : Int) ≤ (c : Int) := by omega
      have k6 : (6 : Int) ≤ (c : Int) := by omega
      go_enter Tryz.func124, Tryz.ntmps124
      go_wp2_with fail
      refine wp_loop_rounds 5 ?_
      rw [rounds_succ]
      go_wp2_with fail
      refine (ints.hex_any x2 _).mono ?_
      rintro e w2 ⟨rfl, rfl⟩
      rw [← unhide E0]
      by_cases g0 : h0 < 0
      · have hz := hide (show codeZ l = -1 from by rw [unhide HZ, if_pos (by first | exact .inl g0 | exact .inr (.inl g0) | exact .inr (.inr (.inl g0)) | exact .inr (.inr (.inr g0)))])
        go_wp2_with fail
        go_ret
        exact ⟨by rw [unhide hz]; rfl, Below.refl _ _⟩
      have b0 : h0 ≤ 15 := by rw [unhide E0]; exact hexV_le _
      go_wp2_with fail
      rw [rounds_succ]
      go_wp2_with fail
      refine (ints.hex_any x3 _).mono ?_
      rintro e w2 ⟨rfl, rfl⟩
      rw [← unhide E1]
      by_cases g1 : h1 < 0
      · have hz := hide (show codeZ l = -1 from by rw [unhide HZ, if_pos (by first | exact .inl g1 | exact .inr (.inl g1) | exact .inr (.inr (.inl g1)) | exact .inr (.inr (.inr g1)))])
        go_wp2_with fail
        go_ret
        exact ⟨by rw [unhide hz]; rfl, Below.refl _ _⟩
      have b1 : h1 ≤ 15 := by rw [unhide E1]; exact hexV_le _
      go_wp2_with fail
      rw [rounds_succ]
      go_wp2_with fail
      refine (ints.hex_any x4 _).mono ?_
      rintro e w2 ⟨rfl, rfl⟩
      rw [← unhide E2]
      by_cases g2 : h2 < 0
      · have hz := hide (show codeZ l = -1 from by rw [unhide HZ, if_pos (by first | exact .inl g2 | exact .inr (.inl g2) | exact .inr (.inr (.inl g2)) | exact .inr (.inr (.inr g2)))])
        go_wp2_with fail
        go_ret
        exact ⟨by rw [unhide hz]; rfl, Below.refl _ _⟩
      have b2 : h2 ≤ 15 := by rw [unhide E2]; exact hexV_le _
      go_wp2_with fail
      rw [rounds_succ]
      go_wp2_with fail
      refine (ints.hex_any x5 _).mono ?_
      rintro e w2 ⟨rfl, rfl⟩
      rw [← unhide E3]
      by_cases g3 : h3 < 0
      · have hz := hide (show codeZ l = -1 from by rw [unhide HZ, if_pos (by first | exact .inl g3 | exact .inr (.inl g3) | exact .inr (.inr (.inl g3)) | exact .inr (.inr (.inr g3)))])
        go_wp2_with fail
        go_ret
        exact ⟨by rw [unhide hz]; rfl, Below.refl _ _⟩
      have b3 : h3 ≤ 15 := by rw [unhide E3]; exact hexV_le _
      go_wp2_with fail
      rw [rounds_succ]
      go_wp2_with fail
      have hz := hide (show codeZ l = (((h0 * 16 + h1) * 16 + h2) * 16 + h3) from by rw [unhide HZ, if_neg (by omega)])
      go_ret
      exact ⟨by rw [unhide hz]; rfl, Below.refl _ _⟩
    · have ne1 : (x1 != 117) = true := by simpa using hx1
      have hz := hide (show codeZ l = -1 from by rw [unhide HZ0, if_pos (.inr (.inr hx1))])
      subst hx0
      clear hx1
      go_enter Tryz.func124, Tryz.ntmps124
      go_wp2_with fail
      go_ret
      exact ⟨by rw [unhide hz]; rfl, Below.refl _ _⟩
  · have ne0 : (x0 != 92) = true := by simpa using hx0
    have hz := hide (show codeZ l = -1 from by rw [unhide HZ0, if_pos (.inr (.inl hx0))])
    clear hx0
    go_enter Tryz.func124, Tryz.ntmps124
    go_wp2_with fail
    go_ret
    exact ⟨by rw [unhide hz]; rfl, Below.refl _ _⟩
end Go.Proofs.YtmhelpocddndjaaGreat.lx
namespace Go.Proofs
open Go.Shelf
def Tryz.lays152_ren : Go.Shelf.Ren := ⟨fun | 152 => 64 | 137 => 83 | 119 => 27 | 224 => 84 | 225 => 85 | 217 => 107 | 266 => 120 | n => n, fun | 9 => 9 | 21 => 21 | 3 => 3 | 4 => 4 | 5 => 5 | 0 => 0 | 46 => 130 | n => n, fun | n => n⟩
theorem Tryz.lays152 : Go.Proofs.Lays.n152 Tryz.prog Tryz.lays152_ren := {
  mixed := by kernel_rfl
  f119 := Tryz.func27.trans (congrArg some (by kernel_rfl))
  f137 := Tryz.func83.trans (congrArg some (by kernel_rfl))
  f152 := Tryz.func64.trans (congrArg some (by kernel_rfl))
  f217 := Tryz.func107.trans (congrArg some (by kernel_rfl))
  f224 := Tryz.func84.trans (congrArg some (by kernel_rfl))
  f225 := Tryz.func85.trans (congrArg some (by kernel_rfl))
  f266 := Tryz.func120.trans (congrArg some (by kernel_rfl))
  t0 := Tryz.underlying0
  a0 := Tryz.isAgg0
  z0 := Tryz.sizeOf0
  v0 := Tryz.zeroValue0
  t3 := Tryz.underlying3
  a3 := Tryz.isAgg3
  z3 := Tryz.sizeOf3
  v3 := Tryz.zeroValue3
  t4 := Tryz.underlying4
  a4 := Tryz.isAgg4
  z4 := Tryz.sizeOf4
  v4 := Tryz.zeroValue4
  t5 := Tryz.underlying5
  a5 := Tryz.isAgg5
  z5 := Tryz.sizeOf5
  v5 := Tryz.zeroValue5
  t9 := Tryz.underlying9
  a9 := Tryz.isAgg9
  z9 := Tryz.sizeOf9
  v9 := Tryz.zeroValue9
  t21 := Tryz.underlying21
  a21 := Tryz.isAgg21
  z21 := Tryz.sizeOf21
  v21 := Tryz.zeroValue21
  t46 := Tryz.underlying130
  a46 := Tryz.isAgg130
  z46 := Tryz.sizeOf130
  v46 := Tryz.zeroValue130 }
open Go.RowKit Go.Lib in
theorem Tryz.strings_IndexRune_ascii (s : ByteArray) (r : Int) (w : World) (h0 : 0 ≤ r) (h1 : r < 128) :
    Calls Tryz.prog 64 #[.string s, .int .i32 r] w fun e w' => e = .returned (.int .i64 (Lib.indexByte s.data.toList r.toNat.toUInt8)) ∧ w' = w := Any.strings_IndexRune_ascii Tryz.lays152 s r w h0 h1
end Go.Proofs
