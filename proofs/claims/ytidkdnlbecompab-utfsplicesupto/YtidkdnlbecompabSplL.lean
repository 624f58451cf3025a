import Derived.Test.YtidkdnlbecompabSplW
import Derived.Test.YtidkdnlbecompabOpen
import Derived.Laws.AppendOwnNone
import Derived.Deep.RegionWith
namespace Go.Proofs.Ytidkdnlbecompab.mem
open Go.ChangeShapes Go.WideShapes Go.ChangeAt Go.RowKit
open ints (hide unhide)
set_option linter.unusedVariables false

def kdOf (es : List Int) (i : Nat) : Int := if i < es.length then es.getD i 0 else (i : Int) % 3
theorem cell_13_10 (w : World) (t : TypeId) : ∀ j u, (([13, 10] : List Int).map (Value.int .i32))[j]? = some u → (w.alloc (.cells #[.int .i32 13, .int .i32 10] t)).cell? ((⟨w.heap.size, 0, none⟩ : Addr).add j) = some u := by
  intro j u hj
  match j, hj with
  | 0, hj => simp at hj; subst hj; simp [Addr.add]
  | 1, hj => simp at hj; subst hj; simp [Addr.add]
  | (j + 2), hj => simp at hj
theorem cell_1 (x : Int) (w : World) (t : TypeId) : ∀ j u, (([x] : List Int).map (Value.int .i32))[j]? = some u → (w.alloc (.cells #[.int .i32 x] t)).cell? ((⟨w.heap.size, 0, none⟩ : Addr).add j) = some u := by
  intro j u hj
  match j, hj with
  | 0, hj => simp at hj; subst hj; simp [Addr.add]
  | (j + 1), hj => simp at hj
set_option maxHeartbeats 16000000 in
theorem law_splices (a : Option Addr) (n c : Nat) (N : Nat) (zss : List (List Int)) (a' : Option Addr) (n' c' : Nat) (es : List Int) (w : World) (h : Rows2 .i32 w a n N zss) (h' : Row .i64 w a' n' c' es) (hn : n ≤ 1048575) (hN : N ≤ 1048575) :
    Calls Try.prog 8 #[.slice a n c, .slice a' n' c'] w fun e w' => e = .returned (.bool true) ∧ Below w.heap.size w w' := by
  obtain ⟨i0, hi, hz0, hz1, hz2⟩ := info_parts info32
  have HLn := hide (show ∀ j, (zss.getD j []).length ≤ N from fun j => by
    by_cases hj : j < n
    · rcases h.at_ with h0 | ⟨b, off, rfl, hbw, hcell⟩
      · omega
      · obtain ⟨ai, ni, ci, x1, x2, x3⟩ := hcell j hj
        rw [x2.len]; exact x3
    · have : zss.length ≤ j := by rw [h.len]; omega
      simp [List.getD, List.getElem?_eq_none this])
  have HA := hide (fun k => fun (hk : k ≤ n) => all_len' (kd := kdOf es) (unhide HLn) hN hn hk)
  go_enter Try.func8, Try.ntmps8
  go_wp2_with fail
  refine (awake_true _).mono ?_
  rintro e w1 ⟨rfl, B1⟩
  have ho1 : (w1.alloc (.cells #[.int .i32 120] 21)).ownsRow w.heap.size 21 1 (.slice (some ⟨w1.heap.size, 0, none⟩) 1 1) 1 (([120] : List Int).map (Value.int .i32)) := by
    refine ⟨rfl, .inr ⟨w1.heap.size, 1, #[.int .i32 120], rfl, B1.size, heap_alloc_new w1 _, by omega, by unfold maxLen; omega, rfl, rfl⟩⟩
  have B2 : Below w.heap.size w (w1.alloc (.cells #[.int .i32 120] 21)) := B1.alloc B1.size _
  have Ho := hide ho1
  clear ho1
  go_wp2
  generalize w1.alloc (.cells #[.int .i32 120] 21) = w2 at *
  go_loopw [5, 6] (fun v i wr => ∃ k : Nat, k ≤ n ∧ i = .int .i64 k ∧ wr.ownsRow w.heap.size 21 1 v (allTo (fun j => zss.getD j []) (kdOf es) k).length ((allTo (fun j => zss.getD j []) (kdOf es) k).map (Value.int .i32)) ∧ Below w.heap.size w wr) (fun _ i _ => n - (intOf i).toNat)
  case atStart => exact ⟨0, Nat.zero_le _, rfl, unhide Ho, B2⟩
  case round =>
    obtain ⟨k, hk, rfl, hown, hbel⟩ := hrel
    by_cases hlt : k < n
    · have ki : (k : Int) < (n : Int) := by omega
      have hal := unhide HA (k + 1) (by omega)
      have Hst := hide (show allTo (fun j => zss.getD j []) (kdOf es) (k + 1) = (allTo (fun j => zss.getD j []) (kdOf es) k ++ markL (kdOf es k) (bareL (zss.getD k []))) ++ bareL (zss.getD k []) from rfl)
      rw [unhide Hst, List.length_append, List.length_append] at hal
      rcases h.at_ with h0 | ⟨b, off, rfl, hbw, hcell⟩
      · omega
      obtain ⟨ai, ni, ci, x1, x2, x3⟩ := hcell k hlt
      have y1 := (hbel.cell (p := ⟨b, off + k, none⟩) hbw).trans x1
      have y2 := x2.below hbel
      have hni := y2.len
      clear hcell x1 x2 HA HLn
      by_cases hlt' : k < n'
      · skip
        have ki' : (k : Int) < (n' : Int) := by omega
        rcases (h'.below hbel).at_ with h0' | ⟨b', off', rfl, hbw', hcell'⟩
        · omega
        have z1 := hcell' k hlt'
        have hkd : kdOf es k = es.getD k 0 := by unfold kdOf; rw [if_pos (by rw [h'.len]; exact hlt')]
        generalize es.getD k 0 = kd at *
        clear hcell'
        have Hkd := hide hkd
        clear hkd
        go_wp2_with fail
        refine (bare_any _ _ _ _ _ y2 (by omega)).mono ?_
        rintro e w3 ⟨v3, rfl, ho3, hb3⟩
        rw [unhide Hkd] at hal Hst
        clear Hkd
        generalize hA : allTo (fun j => zss.getD j []) (kdOf es) k = AL at *
        generalize hlb : bareL (zss.getD k []) = lb at *
        have hown3 := own_below hown hb3
        have hbel3 := hbel.trans (hb3.mono hbel.size)
        have Hlo := hide hown.lt
        clear hlb hA hown hb3 y1 y2 z1
        rcases ho3.2 with ⟨rfl, hl0⟩ | ⟨g, cap3, cur, rfl, hg, hh, r3⟩
        · have hlb0 : lb = [] := List.eq_nil_of_length_eq_zero hl0
          subst hlb0
          rw [List.length_nil] at hal
          rw [List.append_nil] at Hst
          by_cases hK1 : kd.tmod 3 = 1
          · have hK := hK1
            clear hK1 hbel
            have hmk : markL kd [] = [13, 10] := by unfold markL; rw [if_pos hK]
            rw [hmk] at hal Hst
            clear hmk
            have hlm : ([13, 10] : List Int).length = 2 := rfl
            rw [hlm] at hal
            clear hlm
            have hsz := hbel3.size
            have hown3' := hide hown3
            have Ho3 := hide ho3
            have Hlt := hide hown3.lt
            clear hown3 ho3
            go_wp2_with (first | (at_builtin; refine wpList_append_own _ rfl (.tmp 42) (.tmp 43) 22 rfl w.heap.size 21 i0 (.int .i32 0) 1 4 Try.underlying22 hi hz0 hz1 hz2 rfl (by decide) _ _ _ rfl ((unhide hown3').alloc _) ⟨w3.heap.size, 0, none⟩ 2 2 (([13, 10] : List Int).map (Value.int .i32)) rfl (by simp) (cell_13_10 _ _) (ints_oneCell _ _) (by unfold maxLen; omega) (by omega) (by simp; omega) ?_; intro v4 w4 hown4 hgrow4 _) | (at_builtin; refine wpList_append_own_none rfl (.tmp 57) (.tmp 58) 22 rfl w.heap.size 21 i0 1 Try.underlying22 hi _ _ _ rfl hown4 rfl ?_))
            go_roundw
            case rel =>
              refine ⟨k + 1, by omega, by go_num, by rw [unhide Hst]; simpa using hown4, ?_⟩
              exact (hbel3.alloc hbel3.size _).grown hgrow4 (by simp; omega) (fun k hk => (unhide Hlt k hk).1)
            case measure => simp [intOf]; omega
          · by_cases hK2 : kd.tmod 3 = 2
            · have hK := hK2
              have hmk : markL kd [] = [10] := by unfold markL; rw [if_neg (by omega), if_neg (fun q => absurd q.2 (by simp))]
              rw [hmk] at hal Hst
              clear hmk
              have hlm : ([10] : List Int).length = 1 := rfl
              rw [hlm] at hal
              clear hlm
              have hsz := hbel3.size
              have hown3' := hide hown3
              have Ho3 := hide ho3
              have Hlt := hide hown3.lt
              clear hown3 ho3
              go_wp2_with (first | (at_builtin; refine wpList_append_own _ rfl (.tmp 35) (.tmp 36) 22 rfl w.heap.size 21 i0 (.int .i32 0) 1 4 Try.underlying22 hi hz0 hz1 hz2 rfl (by decide) _ _ _ rfl ((unhide hown3').alloc _) ⟨w3.heap.size, 0, none⟩ 1 1 (([10] : List Int).map (Value.int .i32)) rfl (by simp) (cell_1 _ _ _) (ints_oneCell _ _) (by unfold maxLen; omega) (by omega) (by simp; omega) ?_; intro v4 w4 hown4 hgrow4 _) | (at_builtin; refine wpList_append_own_none rfl (.tmp 57) (.tmp 58) 22 rfl w.heap.size 21 i0 1 Try.underlying22 hi _ _ _ rfl hown4 rfl ?_))
              go_roundw
              case rel =>
                refine ⟨k + 1, by omega, by go_num, by rw [unhide Hst]; simpa using hown4, ?_⟩
                exact (hbel3.alloc hbel3.size _).grown hgrow4 (by simp; omega) (fun k hk => (unhide Hlt k hk).1)
              case measure => simp [intOf]; omega
            · clear hbel
              have hmk : markL kd [] = [10] := by unfold markL; rw [if_neg hK1, if_neg (fun q => hK2 q.1)]
              rw [hmk] at hal Hst
              clear hmk
              have hb1 : (kd.tmod 3 == 1) = false := by simpa using hK1
              have hb2 : (kd.tmod 3 == 2) = false := by simpa using hK2
              clear hK1 hK2
              have hlm : ([10] : List Int).length = 1 := rfl
              rw [hlm] at hal
              clear hlm
              have hsz := hbel3.size
              have hown3' := hide hown3
              have Ho3 := hide ho3
              have Hlt := hide hown3.lt
              clear hown3 ho3
              go_wp2_with (first | (at_builtin; refine wpList_append_own _ rfl (.tmp 35) (.tmp 36) 22 rfl w.heap.size 21 i0 (.int .i32 0) 1 4 Try.underlying22 hi hz0 hz1 hz2 rfl (by decide) _ _ _ rfl ((unhide hown3').alloc _) ⟨w3.heap.size, 0, none⟩ 1 1 (([10] : List Int).map (Value.int .i32)) rfl (by simp) (cell_1 _ _ _) (ints_oneCell _ _) (by unfold maxLen; omega) (by omega) (by simp; omega) ?_; intro v4 w4 hown4 hgrow4 _) | (at_builtin; refine wpList_append_own_none rfl (.tmp 57) (.tmp 58) 22 rfl w.heap.size 21 i0 1 Try.underlying22 hi _ _ _ rfl hown4 rfl ?_))
              go_roundw
              case rel =>
                refine ⟨k + 1, by omega, by go_num, by rw [unhide Hst]; simpa using hown4, ?_⟩
                exact (hbel3.alloc hbel3.size _).grown hgrow4 (by simp; omega) (fun k hk => (unhide Hlt k hk).1)
              case measure => simp [intOf]; omega
        · have hne : u5.ownBlock ≠ some g := fun e => by have := (unhide Hlo g e).2; omega
          clear hh r3
          by_cases hK1 : kd.tmod 3 = 1
          · have hK := hK1
            clear hK1
            have hmk : markL kd lb = [13, 10] := by unfold markL; rw [if_pos hK]
            rw [hmk] at hal Hst
            clear hmk
            have hlm : ([13, 10] : List Int).length = 2 := rfl
            rw [hlm] at hal
            clear hlm
            have hsz := hbel3.size
            have hown3' := hide hown3
            have Hlt := hide hown3.lt
            clear hown3
            have Ho3 := hide ho3
            clear ho3
            go_wp2_with (first | (at_builtin; refine wpList_append_own _ rfl (.tmp 42) (.tmp 43) 22 rfl w.heap.size 21 i0 (.int .i32 0) 1 4 Try.underlying22 hi hz0 hz1 hz2 rfl (by decide) _ _ _ rfl ((unhide hown3').alloc _) ⟨w3.heap.size, 0, none⟩ 2 2 (([13, 10] : List Int).map (Value.int .i32)) rfl (by simp) (cell_13_10 _ _) (ints_oneCell _ _) (by unfold maxLen; omega) (by omega) (by simp; omega) ?_; intro v4 w4 hown4 hgrow4 _; have hline4 := ((unhide Ho3).alloc _).kept hgrow4 (.inr (fun e => hne e.symm)); have hb4 := (hbel3.alloc hbel3.size _).grown hgrow4 (by simp; omega) (fun k hk => (unhide Hlt k hk).1); have Hr4 := hide (row_at hline4).cells; have Hlt4 := hide hown4.lt; have hown4' := hide hown4; have hsz4 := hb4.size; clear hown4 hline4 hgrow4) | (at_builtin; refine wpList_append_own _ rfl (.tmp 57) (.tmp 58) 22 rfl w.heap.size 21 i0 (.int .i32 0) 1 4 Try.underlying22 hi hz0 hz1 hz2 rfl (by decide) _ _ _ rfl (unhide hown4') ⟨g, 0, none⟩ lb.length cap3 (lb.map (Value.int .i32)) rfl (by simp) (unhide Hr4 _ rfl) (ints_oneCell _ _) (by unfold maxLen; omega) (by omega) (by omega) ?_; intro v5 w5 hown5 hgrow5 _))
            go_roundw
            case rel =>
              refine ⟨k + 1, by omega, by go_num, by rw [unhide Hst]; simpa [Nat.add_assoc, Nat.add_comm, Nat.add_left_comm] using hown5, ?_⟩
              exact hb4.grown hgrow5 hsz4 (fun k hk => (unhide Hlt4 k hk).1)
            case measure => simp [intOf]; omega
          · by_cases hK2 : kd.tmod 3 = 2
            · have hK := hK2
              by_cases hl0 : 0 < lb.length
              · have hl0i : (0 : Int) < (lb.length : Int) := by omega
                have hmk : markL kd lb = [13] := by unfold markL; rw [if_neg (by omega), if_pos ⟨hK, by omega⟩]
                rw [hmk] at hal Hst
                clear hmk
                have hlm : ([13] : List Int).length = 1 := rfl
                rw [hlm] at hal
                clear hlm
                have hsz := hbel3.size
                have hown3' := hide hown3
                have Hlt := hide hown3.lt
                clear hown3
                have Ho3 := hide ho3
                clear ho3
                go_wp2_with (first | (at_builtin; refine wpList_append_own _ rfl (.tmp 54) (.tmp 55) 22 rfl w.heap.size 21 i0 (.int .i32 0) 1 4 Try.underlying22 hi hz0 hz1 hz2 rfl (by decide) _ _ _ rfl ((unhide hown3').alloc _) ⟨w3.heap.size, 0, none⟩ 1 1 (([13] : List Int).map (Value.int .i32)) rfl (by simp) (cell_1 _ _ _) (ints_oneCell _ _) (by unfold maxLen; omega) (by omega) (by simp; omega) ?_; intro v4 w4 hown4 hgrow4 _; have hline4 := ((unhide Ho3).alloc _).kept hgrow4 (.inr (fun e => hne e.symm)); have hb4 := (hbel3.alloc hbel3.size _).grown hgrow4 (by simp; omega) (fun k hk => (unhide Hlt k hk).1); have Hr4 := hide (row_at hline4).cells; have Hlt4 := hide hown4.lt; have hown4' := hide hown4; have hsz4 := hb4.size; clear hown4 hline4 hgrow4) | (at_builtin; refine wpList_append_own _ rfl (.tmp 57) (.tmp 58) 22 rfl w.heap.size 21 i0 (.int .i32 0) 1 4 Try.underlying22 hi hz0 hz1 hz2 rfl (by decide) _ _ _ rfl (unhide hown4') ⟨g, 0, none⟩ lb.length cap3 (lb.map (Value.int .i32)) rfl (by simp) (unhide Hr4 _ rfl) (ints_oneCell _ _) (by unfold maxLen; omega) (by omega) (by omega) ?_; intro v5 w5 hown5 hgrow5 _))
                go_roundw
                case rel =>
                  refine ⟨k + 1, by omega, by go_num, by rw [unhide Hst]; simpa [Nat.add_assoc, Nat.add_comm, Nat.add_left_comm] using hown5, ?_⟩
                  exact hb4.grown hgrow5 hsz4 (fun k hk => (unhide Hlt4 k hk).1)
                case measure => simp [intOf]; omega
              · have hl0i : ¬ (0 : Int) < (lb.length : Int) := by omega
                have hmk : markL kd lb = [10] := by unfold markL; rw [if_neg (by omega), if_neg (by omega)]
                rw [hmk] at hal Hst
                clear hmk
                have hlm : ([10] : List Int).length = 1 := rfl
                rw [hlm] at hal
                clear hlm
                have hsz := hbel3.size
                have hown3' := hide hown3
                have Hlt := hide hown3.lt
                clear hown3
                have Ho3 := hide ho3
                clear ho3
                go_wp2_with (first | (at_builtin; refine wpList_append_own _ rfl (.tmp 35) (.tmp 36) 22 rfl w.heap.size 21 i0 (.int .i32 0) 1 4 Try.underlying22 hi hz0 hz1 hz2 rfl (by decide) _ _ _ rfl ((unhide hown3').alloc _) ⟨w3.heap.size, 0, none⟩ 1 1 (([10] : List Int).map (Value.int .i32)) rfl (by simp) (cell_1 _ _ _) (ints_oneCell _ _) (by unfold maxLen; omega) (by omega) (by simp; omega) ?_; intro v4 w4 hown4 hgrow4 _; have hline4 := ((unhide Ho3).alloc _).kept hgrow4 (.inr (fun e => hne e.symm)); have hb4 := (hbel3.alloc hbel3.size _).grown hgrow4 (by simp; omega) (fun k hk => (unhide Hlt k hk).1); have Hr4 := hide (row_at hline4).cells; have Hlt4 := hide hown4.lt; have hown4' := hide hown4; have hsz4 := hb4.size; clear hown4 hline4 hgrow4) | (at_builtin; refine wpList_append_own _ rfl (.tmp 57) (.tmp 58) 22 rfl w.heap.size 21 i0 (.int .i32 0) 1 4 Try.underlying22 hi hz0 hz1 hz2 rfl (by decide) _ _ _ rfl (unhide hown4') ⟨g, 0, none⟩ lb.length cap3 (lb.map (Value.int .i32)) rfl (by simp) (unhide Hr4 _ rfl) (ints_oneCell _ _) (by unfold maxLen; omega) (by omega) (by omega) ?_; intro v5 w5 hown5 hgrow5 _))
                go_roundw
                case rel =>
                  refine ⟨k + 1, by omega, by go_num, by rw [unhide Hst]; simpa [Nat.add_assoc, Nat.add_comm, Nat.add_left_comm] using hown5, ?_⟩
                  exact hb4.grown hgrow5 hsz4 (fun k hk => (unhide Hlt4 k hk).1)
                case measure => simp [intOf]; omega
            · skip
              have hmk : markL kd lb = [10] := by unfold markL; rw [if_neg hK1, if_neg (fun q => hK2 q.1)]
              rw [hmk] at hal Hst
              clear hmk
              have hb1 : (kd.tmod 3 == 1) = false := by simpa using hK1
              have hb2 : (kd.tmod 3 == 2) = false := by simpa using hK2
              clear hK1 hK2
              have hlm : ([10] : List Int).length = 1 := rfl
              rw [hlm] at hal
              clear hlm
              have hsz := hbel3.size
              have hown3' := hide hown3
              have Hlt := hide hown3.lt
              clear hown3
              have Ho3 := hide ho3
              clear ho3
              go_wp2_with (first | (at_builtin; refine wpList_append_own _ rfl (.tmp 35) (.tmp 36) 22 rfl w.heap.size 21 i0 (.int .i32 0) 1 4 Try.underlying22 hi hz0 hz1 hz2 rfl (by decide) _ _ _ rfl ((unhide hown3').alloc _) ⟨w3.heap.size, 0, none⟩ 1 1 (([10] : List Int).map (Value.int .i32)) rfl (by simp) (cell_1 _ _ _) (ints_oneCell _ _) (by unfold maxLen; omega) (by omega) (by simp; omega) ?_; intro v4 w4 hown4 hgrow4 _; have hline4 := ((unhide Ho3).alloc _).kept hgrow4 (.inr (fun e => hne e.symm)); have hb4 := (hbel3.alloc hbel3.size _).grown hgrow4 (by simp; omega) (fun k hk => (unhide Hlt k hk).1); have Hr4 := hide (row_at hline4).cells; have Hlt4 := hide hown4.lt; have hown4' := hide hown4; have hsz4 := hb4.size; clear hown4 hline4 hgrow4) | (at_builtin; refine wpList_append_own _ rfl (.tmp 57) (.tmp 58) 22 rfl w.heap.size 21 i0 (.int .i32 0) 1 4 Try.underlying22 hi hz0 hz1 hz2 rfl (by decide) _ _ _ rfl (unhide hown4') ⟨g, 0, none⟩ lb.length cap3 (lb.map (Value.int .i32)) rfl (by simp) (unhide Hr4 _ rfl) (ints_oneCell _ _) (by unfold maxLen; omega) (by omega) (by omega) ?_; intro v5 w5 hown5 hgrow5 _))
              go_roundw
              case rel =>
                refine ⟨k + 1, by omega, by go_num, by rw [unhide Hst]; simpa [Nat.add_assoc, Nat.add_comm, Nat.add_left_comm] using hown5, ?_⟩
                exact hb4.grown hgrow5 hsz4 (fun k hk => (unhide Hlt4 k hk).1)
              case measure => simp [intOf]; omega
      · skip
        have ki' : ¬ (k : Int) < (n' : Int) := by omega
        have hkd : kdOf es k = (k : Int) % 3 := by unfold kdOf; rw [if_neg (by rw [h'.len]; exact hlt')]
        have Hkd := hide hkd
        clear hkd
        go_wp2_with fail
        refine (bare_any _ _ _ _ _ y2 (by omega)).mono ?_
        rintro e w3 ⟨v3, rfl, ho3, hb3⟩
        generalize (k : Int) % 3 = kd at *
        rw [unhide Hkd] at hal Hst
        clear Hkd
        generalize hA : allTo (fun j => zss.getD j []) (kdOf es) k = AL at *
        generalize hlb : bareL (zss.getD k []) = lb at *
        have hown3 := own_below hown hb3
        have hbel3 := hbel.trans (hb3.mono hbel.size)
        have Hlo := hide hown.lt
        clear hlb hA hown hb3 y1 y2
        rcases ho3.2 with ⟨rfl, hl0⟩ | ⟨g, cap3, cur, rfl, hg, hh, r3⟩
        · have hlb0 : lb = [] := List.eq_nil_of_length_eq_zero hl0
          subst hlb0
          rw [List.length_nil] at hal
          rw [List.append_nil] at Hst
          by_cases hK1 : kd.tmod 3 = 1
          · have hK := hK1
            clear hK1 hbel
            have hmk : markL kd [] = [13, 10] := by unfold markL; rw [if_pos hK]
            rw [hmk] at hal Hst
            clear hmk
            have hlm : ([13, 10] : List Int).length = 2 := rfl
            rw [hlm] at hal
            clear hlm
            have hsz := hbel3.size
            have hown3' := hide hown3
            have Ho3 := hide ho3
            have Hlt := hide hown3.lt
            clear hown3 ho3
            go_wp2_with (first | (at_builtin; refine wpList_append_own _ rfl (.tmp 42) (.tmp 43) 22 rfl w.heap.size 21 i0 (.int .i32 0) 1 4 Try.underlying22 hi hz0 hz1 hz2 rfl (by decide) _ _ _ rfl ((unhide hown3').alloc _) ⟨w3.heap.size, 0, none⟩ 2 2 (([13, 10] : List Int).map (Value.int .i32)) rfl (by simp) (cell_13_10 _ _) (ints_oneCell _ _) (by unfold maxLen; omega) (by omega) (by simp; omega) ?_; intro v4 w4 hown4 hgrow4 _) | (at_builtin; refine wpList_append_own_none rfl (.tmp 57) (.tmp 58) 22 rfl w.heap.size 21 i0 1 Try.underlying22 hi _ _ _ rfl hown4 rfl ?_))
            go_roundw
            case rel =>
              refine ⟨k + 1, by omega, by go_num, by rw [unhide Hst]; simpa using hown4, ?_⟩
              exact (hbel3.alloc hbel3.size _).grown hgrow4 (by simp; omega) (fun k hk => (unhide Hlt k hk).1)
            case measure => simp [intOf]; omega
          · by_cases hK2 : kd.tmod 3 = 2
            · have hK := hK2
              have hmk : markL kd [] = [10] := by unfold markL; rw [if_neg (by omega), if_neg (fun q => absurd q.2 (by simp))]
              rw [hmk] at hal Hst
              clear hmk
              have hlm : ([10] : List Int).length = 1 := rfl
              rw [hlm] at hal
              clear hlm
              have hsz := hbel3.size
              have hown3' := hide hown3
              have Ho3 := hide ho3
              have Hlt := hide hown3.lt
              clear hown3 ho3
              go_wp2_with (first | (at_builtin; refine wpList_append_own _ rfl (.tmp 35) (.tmp 36) 22 rfl w.heap.size 21 i0 (.int .i32 0) 1 4 Try.underlying22 hi hz0 hz1 hz2 rfl (by decide) _ _ _ rfl ((unhide hown3').alloc _) ⟨w3.heap.size, 0, none⟩ 1 1 (([10] : List Int).map (Value.int .i32)) rfl (by simp) (cell_1 _ _ _) (ints_oneCell _ _) (by unfold maxLen; omega) (by omega) (by simp; omega) ?_; intro v4 w4 hown4 hgrow4 _) | (at_builtin; refine wpList_append_own_none rfl (.tmp 57) (.tmp 58) 22 rfl w.heap.size 21 i0 1 Try.underlying22 hi _ _ _ rfl hown4 rfl ?_))
              go_roundw
              case rel =>
                refine ⟨k + 1, by omega, by go_num, by rw [unhide Hst]; simpa using hown4, ?_⟩
                exact (hbel3.alloc hbel3.size _).grown hgrow4 (by simp; omega) (fun k hk => (unhide Hlt k hk).1)
              case measure => simp [intOf]; omega
            · clear hbel
              have hmk : markL kd [] = [10] := by unfold markL; rw [if_neg hK1, if_neg (fun q => hK2 q.1)]
              rw [hmk] at hal Hst
              clear hmk
              have hb1 : (kd.tmod 3 == 1) = false := by simpa using hK1
              have hb2 : (kd.tmod 3 == 2) = false := by simpa using hK2
              clear hK1 hK2
              have hlm : ([10] : List Int).length = 1 := rfl
              rw [hlm] at hal
              clear hlm
              have hsz := hbel3.size
              have hown3' := hide hown3
              have Ho3 := hide ho3
              have Hlt := hide hown3.lt
              clear hown3 ho3
              go_wp2_with (first | (at_builtin; refine wpList_append_own _ rfl (.tmp 35) (.tmp 36) 22 rfl w.heap.size 21 i0 (.int .i32 0) 1 4 Try.underlying22 hi hz0 hz1 hz2 rfl (by decide) _ _ _ rfl ((unhide hown3').alloc _) ⟨w3.heap.size, 0, none⟩ 1 1 (([10] : List Int).map (Value.int .i32)) rfl (by simp) (cell_1 _ _ _) (ints_oneCell _ _) (by unfold maxLen; omega) (by omega) (by simp; omega) ?_; intro v4 w4 hown4 hgrow4 _) | (at_builtin; refine wpList_append_own_none rfl (.tmp 57) (.tmp 58) 22 rfl w.heap.size 21 i0 1 Try.underlying22 hi _ _ _ rfl hown4 rfl ?_))
              go_roundw
              case rel =>
                refine ⟨k + 1, by omega, by go_num, by rw [unhide Hst]; simpa using hown4, ?_⟩
                exact (hbel3.alloc hbel3.size _).grown hgrow4 (by simp; omega) (fun k hk => (unhide Hlt k hk).1)
              case measure => simp [intOf]; omega
        · have hne : u5.ownBlock ≠ some g := fun e => by have := (unhide Hlo g e).2; omega
          clear hh r3
          by_cases hK1 : kd.tmod 3 = 1
          · have hK := hK1
            clear hK1
            have hmk : markL kd lb = [13, 10] := by unfold markL; rw [if_pos hK]
            rw [hmk] at hal Hst
            clear hmk
            have hlm : ([13, 10] : List Int).length = 2 := rfl
            rw [hlm] at hal
            clear hlm
            have hsz := hbel3.size
            have hown3' := hide hown3
            have Hlt := hide hown3.lt
            clear hown3
            have Ho3 := hide ho3
            clear ho3
            go_wp2_with (first | (at_builtin; refine wpList_append_own _ rfl (.tmp 42) (.tmp 43) 22 rfl w.heap.size 21 i0 (.int .i32 0) 1 4 Try.underlying22 hi hz0 hz1 hz2 rfl (by decide) _ _ _ rfl ((unhide hown3').alloc _) ⟨w3.heap.size, 0, none⟩ 2 2 (([13, 10] : List Int).map (Value.int .i32)) rfl (by simp) (cell_13_10 _ _) (ints_oneCell _ _) (by unfold maxLen; omega) (by omega) (by simp; omega) ?_; intro v4 w4 hown4 hgrow4 _; have hline4 := ((unhide Ho3).alloc _).kept hgrow4 (.inr (fun e => hne e.symm)); have hb4 := (hbel3.alloc hbel3.size _).grown hgrow4 (by simp; omega) (fun k hk => (unhide Hlt k hk).1); have Hr4 := hide (row_at hline4).cells; have Hlt4 := hide hown4.lt; have hown4' := hide hown4; have hsz4 := hb4.size; clear hown4 hline4 hgrow4) | (at_builtin; refine wpList_append_own _ rfl (.tmp 57) (.tmp 58) 22 rfl w.heap.size 21 i0 (.int .i32 0) 1 4 Try.underlying22 hi hz0 hz1 hz2 rfl (by decide) _ _ _ rfl (unhide hown4') ⟨g, 0, none⟩ lb.length cap3 (lb.map (Value.int .i32)) rfl (by simp) (unhide Hr4 _ rfl) (ints_oneCell _ _) (by unfold maxLen; omega) (by omega) (by omega) ?_; intro v5 w5 hown5 hgrow5 _))
            go_roundw
            case rel =>
              refine ⟨k + 1, by omega, by go_num, by rw [unhide Hst]; simpa [Nat.add_assoc, Nat.add_comm, Nat.add_left_comm] using hown5, ?_⟩
              exact hb4.grown hgrow5 hsz4 (fun k hk => (unhide Hlt4 k hk).1)
            case measure => simp [intOf]; omega
          · by_cases hK2 : kd.tmod 3 = 2
            · have hK := hK2
              by_cases hl0 : 0 < lb.length
              · have hl0i : (0 : Int) < (lb.length : Int) := by omega
                have hmk : markL kd lb = [13] := by unfold markL; rw [if_neg (by omega), if_pos ⟨hK, by omega⟩]
                rw [hmk] at hal Hst
                clear hmk
                have hlm : ([13] : List Int).length = 1 := rfl
                rw [hlm] at hal
                clear hlm
                have hsz := hbel3.size
                have hown3' := hide hown3
                have Hlt := hide hown3.lt
                clear hown3
                have Ho3 := hide ho3
                clear ho3
                go_wp2_with (first | (at_builtin; refine wpList_append_own _ rfl (.tmp 54) (.tmp 55) 22 rfl w.heap.size 21 i0 (.int .i32 0) 1 4 Try.underlying22 hi hz0 hz1 hz2 rfl (by decide) _ _ _ rfl ((unhide hown3').alloc _) ⟨w3.heap.size, 0, none⟩ 1 1 (([13] : List Int).map (Value.int .i32)) rfl (by simp) (cell_1 _ _ _) (ints_oneCell _ _) (by unfold maxLen; omega) (by omega) (by simp; omega) ?_; intro v4 w4 hown4 hgrow4 _; have hline4 := ((unhide Ho3).alloc _).kept hgrow4 (.inr (fun e => hne e.symm)); have hb4 := (hbel3.alloc hbel3.size _).grown hgrow4 (by simp; omega) (fun k hk => (unhide Hlt k hk).1); have Hr4 := hide (row_at hline4).cells; have Hlt4 := hide hown4.lt; have hown4' := hide hown4; have hsz4 := hb4.size; clear hown4 hline4 hgrow4) | (at_builtin; refine wpList_append_own _ rfl (.tmp 57) (.tmp 58) 22 rfl w.heap.size 21 i0 (.int .i32 0) 1 4 Try.underlying22 hi hz0 hz1 hz2 rfl (by decide) _ _ _ rfl (unhide hown4') ⟨g, 0, none⟩ lb.length cap3 (lb.map (Value.int .i32)) rfl (by simp) (unhide Hr4 _ rfl) (ints_oneCell _ _) (by unfold maxLen; omega) (by omega) (by omega) ?_; intro v5 w5 hown5 hgrow5 _))
                go_roundw
                case rel =>
                  refine ⟨k + 1, by omega, by go_num, by rw [unhide Hst]; simpa [Nat.add_assoc, Nat.add_comm, Nat.add_left_comm] using hown5, ?_⟩
                  exact hb4.grown hgrow5 hsz4 (fun k hk => (unhide Hlt4 k hk).1)
                case measure => simp [intOf]; omega
              · have hl0i : ¬ (0 : Int) < (lb.length : Int) := by omega
                have hmk : markL kd lb = [10] := by unfold markL; rw [if_neg (by omega), if_neg (by omega)]
                rw [hmk] at hal Hst
                clear hmk
                have hlm : ([10] : List Int).length = 1 := rfl
                rw [hlm] at hal
                clear hlm
                have hsz := hbel3.size
                have hown3' := hide hown3
                have Hlt := hide hown3.lt
                clear hown3
                have Ho3 := hide ho3
                clear ho3
                go_wp2_with (first | (at_builtin; refine wpList_append_own _ rfl (.tmp 35) (.tmp 36) 22 rfl w.heap.size 21 i0 (.int .i32 0) 1 4 Try.underlying22 hi hz0 hz1 hz2 rfl (by decide) _ _ _ rfl ((unhide hown3').alloc _) ⟨w3.heap.size, 0, none⟩ 1 1 (([10] : List Int).map (Value.int .i32)) rfl (by simp) (cell_1 _ _ _) (ints_oneCell _ _) (by unfold maxLen; omega) (by omega) (by simp; omega) ?_; intro v4 w4 hown4 hgrow4 _; have hline4 := ((unhide Ho3).alloc _).kept hgrow4 (.inr (fun e => hne e.symm)); have hb4 := (hbel3.alloc hbel3.size _).grown hgrow4 (by simp; omega) (fun k hk => (unhide Hlt k hk).1); have Hr4 := hide (row_at hline4).cells; have Hlt4 := hide hown4.lt; have hown4' := hide hown4; have hsz4 := hb4.size; clear hown4 hline4 hgrow4) | (at_builtin; refine wpList_append_own _ rfl (.tmp 57) (.tmp 58) 22 rfl w.heap.size 21 i0 (.int .i32 0) 1 4 Try.underlying22 hi hz0 hz1 hz2 rfl (by decide) _ _ _ rfl (unhide hown4') ⟨g, 0, none⟩ lb.length cap3 (lb.map (Value.int .i32)) rfl (by simp) (unhide Hr4 _ rfl) (ints_oneCell _ _) (by unfold maxLen; omega) (by omega) (by omega) ?_; intro v5 w5 hown5 hgrow5 _))
                go_roundw
                case rel =>
                  refine ⟨k + 1, by omega, by go_num, by rw [unhide Hst]; simpa [Nat.add_assoc, Nat.add_comm, Nat.add_left_comm] using hown5, ?_⟩
                  exact hb4.grown hgrow5 hsz4 (fun k hk => (unhide Hlt4 k hk).1)
                case measure => simp [intOf]; omega
            · skip
              have hmk : markL kd lb = [10] := by unfold markL; rw [if_neg hK1, if_neg (fun q => hK2 q.1)]
              rw [hmk] at hal Hst
              clear hmk
              have hb1 : (kd.tmod 3 == 1) = false := by simpa using hK1
              have hb2 : (kd.tmod 3 == 2) = false := by simpa using hK2
              clear hK1 hK2
              have hlm : ([10] : List Int).length = 1 := rfl
              rw [hlm] at hal
              clear hlm
              have hsz := hbel3.size
              have hown3' := hide hown3
              have Hlt := hide hown3.lt
              clear hown3
              have Ho3 := hide ho3
              clear ho3
              go_wp2_with (first | (at_builtin; refine wpList_append_own _ rfl (.tmp 35) (.tmp 36) 22 rfl w.heap.size 21 i0 (.int .i32 0) 1 4 Try.underlying22 hi hz0 hz1 hz2 rfl (by decide) _ _ _ rfl ((unhide hown3').alloc _) ⟨w3.heap.size, 0, none⟩ 1 1 (([10] : List Int).map (Value.int .i32)) rfl (by simp) (cell_1 _ _ _) (ints_oneCell _ _) (by unfold maxLen; omega) (by omega) (by simp; omega) ?_; intro v4 w4 hown4 hgrow4 _; have hline4 := ((unhide Ho3).alloc _).kept hgrow4 (.inr (fun e => hne e.symm)); have hb4 := (hbel3.alloc hbel3.size _).grown hgrow4 (by simp; omega) (fun k hk => (unhide Hlt k hk).1); have Hr4 := hide (row_at hline4).cells; have Hlt4 := hide hown4.lt; have hown4' := hide hown4; have hsz4 := hb4.size; clear hown4 hline4 hgrow4) | (at_builtin; refine wpList_append_own _ rfl (.tmp 57) (.tmp 58) 22 rfl w.heap.size 21 i0 (.int .i32 0) 1 4 Try.underlying22 hi hz0 hz1 hz2 rfl (by decide) _ _ _ rfl (unhide hown4') ⟨g, 0, none⟩ lb.length cap3 (lb.map (Value.int .i32)) rfl (by simp) (unhide Hr4 _ rfl) (ints_oneCell _ _) (by unfold maxLen; omega) (by omega) (by omega) ?_; intro v5 w5 hown5 hgrow5 _))
              go_roundw
              case rel =>
                refine ⟨k + 1, by omega, by go_num, by rw [unhide Hst]; simpa [Nat.add_assoc, Nat.add_comm, Nat.add_left_comm] using hown5, ?_⟩
                exact hb4.grown hgrow5 hsz4 (fun k hk => (unhide Hlt4 k hk).1)
              case measure => simp [intOf]; omega
    · have ki : ¬ (k : Int) < (n : Int) := by omega
      have ekn : k = n := by omega
      subst ekn
      obtain ⟨va, vc, rfl, hr⟩ := own_row hown
      have hlen := unhide HA k (Nat.le_refl _)
      obtain ⟨hll, _, _⟩ := all_lines (fun j => zss.getD j []) (kdOf es) k
      generalize hAL : allTo (fun j => zss.getD j []) (kdOf es) k = AL at *
      have Hll := hide hll
      clear hll hAL hown HA
      go_wp2_with fail
      refine (lines_any _ _ _ _ _ hr hlen).mono ?_
      rintro e w3 ⟨v3, gs, rfl, ho3, hb3⟩
      rw [unhide Hll] at ho3
      have B3 := hbel.trans (hb3.mono hbel.size)
      have h3 := h
      have hLL : ([120] :: (List.range k).map (fun i => bareL (zss.getD i []))).length = k + 1 := by simp
      obtain ⟨g1, cap1, rfl, hg1, hc1⟩ := ho3.get (by rw [hLL]; omega)
      rw [hLL] at hc1 ⊢
      clear ho3
      obtain ⟨p1, p2⟩ := hc1 0 (by omega)
      unfold lineVal at p1
      rw [show ([120] :: (List.range k).map (fun i => bareL (zss.getD i []))).getD 0 [] = [120] from rfl] at p1 p2
      have hb4 : Below w3.heap.size w3 (w3.alloc (.cells #[.int .i32 120] 21)) := (Below.refl _ _).alloc (Nat.le_refl _) _
      have Rx := hide (row_lit .i32 21 (0, 0) w3 [120])
      have P2 := hide (p2.below hb4)
      have HB4 := hide hb4
      have Hc1 := hide hc1
      clear hc1 p2 hb4 hr
      generalize gs.getD 0 0 = q0 at *
      go_wp2_with fail
      refine (alike_eq _ _ _ _ _ _ _ _ (unhide P2) (unhide Rx) (by decide)).mono ?_
      rintro e w4 ⟨rfl, hb⟩
      have B34 := (unhide HB4).trans (hb.mono (unhide HB4).size)
      clear hb Rx P2 HB4
      go_wp2
      go_loopw [10] (fun i wr => ∃ j : Nat, j ≤ k ∧ i = .int .i64 j ∧ Below w3.heap.size w3 wr) (fun i _ => k - (intOf i).toNat)
      case atStart => exact ⟨0, Nat.zero_le _, rfl, B34⟩
      case round =>
        obtain ⟨j, hj, rfl, hbj⟩ := hrel
        by_cases hjk : j < k
        · have ji : (j : Int) < (k : Int) := by omega
          obtain ⟨x1, x2⟩ := unhide Hc1 (j + 1) (by omega)
          have eX : ([120] :: (List.range k).map (fun i => bareL (zss.getD i []))).getD (j + 1) [] = bareL (zss.getD j []) := by
            simp [List.getD, hjk]
          rw [eX] at x1 x2
          unfold lineVal at x1
          have y1 := (hbj.cell (p := ⟨g1, j + 1, none⟩) hg1).trans x1
          have y2 := x2.below hbj
          have B5 := B3.trans (hbj.mono B3.size)
          rcases h.at_ with h0 | ⟨b, off, rfl, hbw, hcell⟩
          · omega
          obtain ⟨ai, ni, ci, z1, z2, z3⟩ := hcell j hjk
          have t1 := (B5.cell (p := ⟨b, off + j, none⟩) hbw).trans z1
          have t2 := z2.below B5
          have hbl := Nat.le_trans (bare_len (zss.getD j [])) (Nat.le_of_eq t2.len)
          clear Hc1 x1 x2 eX hcell z1 z2
          generalize gs.getD (j + 1) 0 = q at *
          have HS := hide y2
          clear y2
          have A := hide (fun (W : World) (hW : Below wr.heap.size wr W) => bare_any _ _ _ _ W (t2.below hW) (by omega))
          have hg1' := Nat.lt_of_lt_of_le hg1 hbj.size
          clear t2
          have ji2 : (j : Int) + 1 < (k : Int) + 1 := by omega
          have ji3 : (0 : Int) ≤ (j : Int) + 1 := by omega
          have hwj : IntKind.i64.wrap ((j : Int) + 1) = (j : Int) + 1 := IntWalk.i64_in _ ⟨by omega, by omega⟩
          have hwj2 : ((j : Int) + 1).toNat = j + 1 := by omega
          go_wp2
          go_region_with (first
            | (go_at_call 24; refine (unhide A _ ?_).mono ?_; exact (Below.refl _ _).drew; rintro e w6 ⟨v6, rfl, ho6, hb6⟩; have hB6 : Below wr.heap.size wr w6 := ((Below.refl wr.heap.size wr).drew).trans hb6; have y6 := (hB6.cell (p := ⟨g1, j + 1, none⟩) hg1').trans y1; obtain ⟨a6, c6, rfl, hr6⟩ := own_row ho6; have Hr6 := hide hr6; have HS6 := hide ((unhide HS).below hB6); clear hr6 ho6 hb6)
            | (go_at_call 14; refine (alike_eq _ _ _ _ _ _ _ _ (unhide HS6) (unhide Hr6) ?_).mono ?_; omega; rintro e w7 ⟨rfl, hb7⟩; have hB7 := hB6.trans (hb7.mono hB6.size); clear hb7))
          all_goals
            go_wp2
            go_roundw
            case rel => exact ⟨j + 1, by omega, by go_num, hbj.trans (hB7.mono hbj.size)⟩
            case measure => simp [intOf]; omega
        · have ji : ¬ (j : Int) < (k : Int) := by omega
          go_wp2
          go_ret
          exact ⟨rfl, B3.trans (hbj.mono B3.size)⟩
end Go.Proofs.Ytidkdnlbecompab.mem
