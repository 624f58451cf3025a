import Derived.Test.YtdfdicgfldcngaaPfxW
import Derived.Test.YtdfdicgfldcngaaPfxR
import Derived.Test.YtdfdicgfldcngaaBase2
import Derived.Deep.RegionHeld3
namespace Go.Proofs.Ytdfdicgfldcngaa.mem
open Go.ChangeShapes Go.WideShapes Go.ChangeAt Go.RowKit
open ints (hide unhide)
set_option linter.unusedVariables false

theorem info32 : (Try.prog.info? 21).map (fun i => (i.zero, i.size, i.bytes)) = some (some (.int .i32 0), 1, 4) := by kernel_rfl
theorem info8 : (Try.prog.info? 5).map (fun i => (i.zero, i.size, i.bytes)) = some (some (.int .u8 0), 1, 1) := by kernel_rfl
theorem infoL : (Try.prog.info? 58).map (fun i => (i.zero, i.size, i.bytes)) = some (some (.int .u8 0), 1, 1) := by kernel_rfl
theorem infoG : (Try.prog.info? 62).map (fun i => (i.zero, i.size, i.bytes)) = some (some (.int .i32 0), 1, 4) := by kernel_rfl
set_option maxRecDepth 4000 in
theorem codes_any (s : ByteArray) (w : World) (hn : s.size ≤ 1099511627776) :
    Calls Try.prog 23 #[.string s] w fun e w' => ∃ v, e = .returned v ∧ w'.ownsRow w.heap.size 21 1 v s.size ((bytesZ s).map (Value.int .i32)) ∧ Below w.heap.size w w' := by
  obtain ⟨i0, hi, hz0, hz1, hz2⟩ := info_parts info32
  go_enter Try.func23, Try.ntmps23
  go_wp2
  go_loopw [3, 4] (fun v i wr => ∃ k : Nat, k ≤ s.size ∧ i = .int .i64 k ∧ wr.ownsRow w.heap.size 21 1 v k (((bytesZ s).take k).map (Value.int .i32)) ∧ Below w.heap.size w wr) (fun _ i _ => s.size - (intOf i).toNat)
  case atStart => exact ⟨0, Nat.zero_le _, rfl, World.ownsRow_nil _ _ _ _, Below.refl _ _⟩
  case round =>
    obtain ⟨k, hk, rfl, hown, hbel⟩ := hrel
    by_cases hlt : k < s.size
    · have ki : (k : Int) < (s.size : Int) := by omega
      have hsz := hbel.size
      have hy : (s[k]'hlt).toNat < 256 := UInt8.toNat_lt _
      have HZ := hide (bytesZ_at s k hlt)
      go_wp2_with (at_builtin; refine wpList_append_one _ rfl _ _ 28 rfl w.heap.size 21 i0 .i32 4 Try.underlying28 hi hz0 hz1 hz2 _ _ _ rfl hown _ rfl (by unfold maxLen; omega) (by omega) (by omega) ?_; intro v' w3 hown' hb3)
      go_roundw
      case rel =>
        refine ⟨k + 1, by omega, by go_num, ?_, hbel.trans hb3⟩
        rw [take_snoc (by rw [bytesZ_len]; exact hlt), unhide HZ, List.map_append]
        exact hown'
      case measure => simp [intOf]; omega
    · have ki : ¬ (k : Int) < (s.size : Int) := by omega
      have e : k = s.size := by omega
      subst e
      go_wp2
      go_ret
      exact ⟨_, rfl, by rw [List.take_of_length_le (by rw [bytesZ_len]; exact Nat.le_refl _)] at hown; exact hown, hbel⟩
theorem prefix_b (a : Option Addr) (n c : Nat) (l : List Int) (i : Int) (w : World) (h : Row .u8 w a n c l) (hn : n ≤ 4611686018427387900) :
    Calls Try.prog 5 #[.slice a n c, .int .i64 i] w fun e w' => e = .returned (.tuple #[.int .i64 ((pfxI l i).1 : Nat), .int .i64 ((pfxI l i).2.1 : Nat), .int .i64 (pfxI l i).2.2]) ∧ Below w.heap.size w w' := by
  unfold pfxI
  rw [h.len]
  by_cases hi : i < 0 ∨ (n : Int) < i
  · rw [if_pos hi]; exact prefix_out_b a n c i w hi
  · rw [if_neg hi]
    have e : i = (i.toNat : Int) := by omega
    have := prefix_in_b a n c l i.toNat w h hn (by omega)
    rw [← e] at this
    exact this
theorem prefix_l (a : Option Addr) (n c : Nat) (l : List Int) (i : Int) (w : World) (h : Row .u8 w a n c l) (hn : n ≤ 4611686018427387900) :
    Calls Try.prog 25 #[.slice a n c, .int .i64 i] w fun e w' => e = .returned (.tuple #[.int .i64 ((pfxI l i).1 : Nat), .int .i64 ((pfxI l i).2.1 : Nat), .int .i64 (pfxI l i).2.2]) ∧ Below w.heap.size w w' := by
  unfold pfxI
  rw [h.len]
  by_cases hi : i < 0 ∨ (n : Int) < i
  · rw [if_pos hi]; exact prefix_out_l a n c i w hi
  · rw [if_neg hi]
    have e : i = (i.toNat : Int) := by omega
    have := prefix_in_l a n c l i.toNat w h hn (by omega)
    rw [← e] at this
    exact this
theorem prefix_i (a : Option Addr) (n c : Nat) (l : List Int) (i : Int) (w : World) (h : Row .i32 w a n c l) (hn : n ≤ 4611686018427387900) :
    Calls Try.prog 26 #[.slice a n c, .int .i64 i] w fun e w' => e = .returned (.tuple #[.int .i64 ((pfxI l i).1 : Nat), .int .i64 ((pfxI l i).2.1 : Nat), .int .i64 (pfxI l i).2.2]) ∧ Below w.heap.size w w' := by
  unfold pfxI
  rw [h.len]
  by_cases hi : i < 0 ∨ (n : Int) < i
  · rw [if_pos hi]; exact prefix_out_i a n c i w hi
  · rw [if_neg hi]
    have e : i = (i.toNat : Int) := by omega
    have := prefix_in_i a n c l i.toNat w h hn (by omega)
    rw [← e] at this
    exact this
theorem prefix_s (a : Option Addr) (n c : Nat) (l : List Int) (i : Int) (w : World) (h : Row .i32 w a n c l) (hn : n ≤ 4611686018427387900) :
    Calls Try.prog 27 #[.slice a n c, .int .i64 i] w fun e w' => e = .returned (.tuple #[.int .i64 ((pfxI l i).1 : Nat), .int .i64 ((pfxI l i).2.1 : Nat), .int .i64 (pfxI l i).2.2]) ∧ Below w.heap.size w w' := by
  unfold pfxI
  rw [h.len]
  by_cases hi : i < 0 ∨ (n : Int) < i
  · rw [if_pos hi]; exact prefix_out_s a n c i w hi
  · rw [if_neg hi]
    have e : i = (i.toNat : Int) := by omega
    have := prefix_in_s a n c l i.toNat w h hn (by omega)
    rw [← e] at this
    exact this
theorem sameForm_any (f g : Int) (w : World) : Calls Try.prog 24 #[.int .i64 f, .int .i64 g] w fun e w' => e = .returned (.bool (f == g)) ∧ w' = w := by
  go_enter Try.func24, Try.ntmps24
  go_wp2
  go_ret
  exact ⟨rfl, rfl⟩
theorem sameForm_eq (f : Int) (w : World) : Calls Try.prog 24 #[.int .i64 f, .int .i64 f] w fun e w' => e = .returned (.bool true) ∧ w' = w := by
  have := sameForm_any f f w
  simpa using this
theorem str_cat (zs ys : List Int) : strOfNums (zs ++ ys) = strOfNums zs ++ strOfNums ys := by
  unfold strOfNums
  apply ByteArray.ext
  simp
set_option maxRecDepth 8000 in
set_option maxHeartbeats 4000000 in
theorem prefixed_true (aS aR : Option Addr) (nS cS nR cR : Nat) (zS zR : List Int) (i : Int) (w : World) (hS : Row .u8 w aS nS cS zS) (hR : Row .i32 w aR nR cR zR) (hb : Byt zS) (hnS : nS ≤ 1048576) (hnR : nR ≤ 1048576) :
    Calls Try.prog 6 #[.agg #[.slice aS nS cS, .slice aR nR cR, .int .i64 i]] w fun e w' => e = .returned (.bool true) ∧ Below w.heap.size w w' := by
  obtain ⟨i0, hi, hz0, hz1, hz2⟩ := info_parts info32
  obtain ⟨j0, hj, hy0, hy1, hy2⟩ := info_parts info8
  obtain ⟨l0, hl, hx0, hx1, hx2⟩ := info_parts infoL
  obtain ⟨g0, hgi, hq0, hq1, hq2⟩ := info_parts infoG
  have hlit : ((w.alloc (.cells #[.slice aS nS cS, .slice aR nR cR, .int .i64 i] 30)).alloc (.cells #[] 5)).ownsRow (w.heap.size + 1) 5 1 (.slice (some ⟨w.heap.size + 1, 0, none⟩) 0 0) 0 [] := by
    have := World.ownsRow_lit (base := w.heap.size + 1) (e := 5) (size := 1) (w.alloc (.cells #[.slice aS nS cS, .slice aR nR cR, .int .i64 i] 30)) #[] 0 (by simp) (by unfold maxLen; omega) rfl
    simpa using this
  obtain ⟨W1, HW⟩ : ∃ W1, W1 = w.alloc (.cells #[.slice aS nS cS, .slice aR nR cR, .int .i64 i] 30) := ⟨_, rfl⟩
  have hW1s : W1.heap.size = w.heap.size + 1 := by rw [HW]; simp
  have BW : Below w.heap.size w W1 := by rw [HW]; exact (Below.refl _ _).alloc (Nat.le_refl _) _
  have k0 : W1.cell? ⟨w.heap.size, 0, none⟩ = some (.slice aS nS cS) := by rw [HW]; simp
  have k1 : W1.cell? ⟨w.heap.size, 1, none⟩ = some (.slice aR nR cR) := by rw [HW]; simp
  have k2 : W1.cell? ⟨w.heap.size, 2, none⟩ = some (.int .i64 i) := by rw [HW]; simp
  have HK := hide (show ∀ w', Below (w.heap.size + 1) W1 w' → (w'.cell? ⟨w.heap.size, 0, none⟩ = some (.slice aS nS cS) ∧ w'.cell? ⟨w.heap.size, 1, none⟩ = some (.slice aR nR cR) ∧ w'.cell? ⟨w.heap.size, 2, none⟩ = some (.int .i64 i)) ∧ Row .u8 w' aS nS cS zS ∧ Row .i32 w' aR nR cR zR ∧ Below w.heap.size w w' ∧ w.heap.size + 1 ≤ w'.heap.size from fun w' h =>
    ⟨⟨(h.cell (by simp)).trans k0, (h.cell (by simp)).trans k1, (h.cell (by simp)).trans k2⟩, hS.below (BW.trans (h.mono (by omega))), hR.below (BW.trans (h.mono (by omega))), BW.trans (h.mono (by omega)), by have := h.size; omega⟩)
  have hS0 : Row .u8 ((w.alloc (.cells #[.slice aS nS cS, .slice aR nR cR, .int .i64 i] 30)).alloc (.cells #[] 5)) aS nS cS zS := by
    rw [← HW]
    exact (unhide HK _ ((Below.refl _ _).alloc (by omega) _)).2.1
  have HW' := hide HW
  clear HW k0 k1 k2 BW
  go_enter Try.func6, Try.ntmps6
  go_wp2_with (first
    | (at_builtin; refine wpList_append_row _ rfl _ _ 26 rfl (w.heap.size + 1) 5 j0 .u8 1 Try.underlying26 hj hy0 hy1 hy2 _ _ _ rfl hlit aS nS cS zS rfl hS0 (by unfold maxLen; omega) (by omega) (by simp) ?_; intro v1 w1 o1 b1)
    | (at_builtin; refine wpList_append_row _ rfl _ _ 26 rfl (w.heap.size + 1) 5 j0 .u8 1 Try.underlying26 hj hy0 hy1 hy2 _ _ _ rfl (o1.alloc _) (some ⟨w1.heap.size, 0, none⟩) 2 2 [7, 8] rfl (row_lit .u8 _ _ w1 [7, 8]) (by unfold maxLen; omega) (by omega) (by have := b1.size; simp at this ⊢; omega) ?_; intro v2 w2 o2 b2
       have BB : Below (w.heap.size + 1) W1 w2 := (((Below.refl _ W1).alloc (by omega) (.cells #[] 5)).trans (by rw [unhide HW']; exact b1)).trans (((Below.refl _ w1).alloc (by have := b1.size; simp at this; omega) _).trans b2)
       obtain ⟨⟨c0, c1, c2⟩, rS, rR, bw, sz⟩ := unhide HK w2 BB
       simp only [Nat.zero_add, List.nil_append, ← List.map_append] at o2
       obtain ⟨g, cap, rfl, hnc, hg, hgl, hcm⟩ := own_some o2 (by omega)
       have hle2 : (nS : Int) ≤ (nS : Int) + 2 := by omega
       clear b1 b2 o1 hS0 hlit))
  have rF := row_at o2
  have rB := rF.head rS.len
  refine (prefix_b _ _ _ _ i w2 rB (by omega)).mono ?_
  rintro e w3 ⟨rfl, b3⟩
  have BB3 := BB.trans (b3.mono sz)
  have o3 := own_below o2 b3
  clear c0 c1 c2 rS rR bw rF rB o2
  obtain ⟨⟨c0, c1, c2⟩, rS, rR, bw, sz3⟩ := unhide HK w3 BB3
  have hconv := row_string (P := Try.prog) (rS.below (Below.refl _ _).drew) 26 9 5 Try.underlying26 Try.underlying5 Try.underlying9
  have HSz := hide (show (strOfNums zS).size = nS from by rw [strOfNums_size, hS.len])
  have HBz := hide (bytesZ_str zS hb)
  go_wp2_with fail
  go_region_held3 (fun w' => w'.cell? ⟨w.heap.size, 0, none⟩ = some (.slice aS nS cS) ∧ w'.cell? ⟨w.heap.size, 2, none⟩ = some (.int .i64 i) ∧ (convert 26 9 (.slice aS nS cS)).run Try.prog w' = .ok (.string (strOfNums zS)) w') (go_keep)
    (first
      | (go_at_call 23; refine (codes_any (strOfNums zS) _ ?_).mono ?_; (rw [unhide HSz]; omega); rintro e w4 ⟨vC, rfl, oC, b4⟩; rw [unhide HBz, unhide HSz] at oC; obtain ⟨aC, cC, rfl, rC⟩ := own_row oC; have BB4 : Below (w.heap.size + 1) W1 w4 := BB3.drew.trans (b4.mono (by simpa using sz3)); have o4 := own_below o3.drew b4; have k4 := unhide HK w4 BB4; have c0 := k4.1.1; have c2 := k4.1.2.2; have h4 := row_string (P := Try.prog) k4.2.1 26 9 5 Try.underlying26 Try.underlying5 Try.underlying9; clear oC b4)
      | (go_at_call 22; refine (refPrefix_any aC nS cC zS i _ rC ?_).mono ?_; omega; rintro e w5 ⟨rfl, b5⟩; have BB5 := BB4.trans (b5.mono k4.2.2.2.2); have o5 := own_below o4 b5; have k5 := unhide HK w5 BB5; have c0 := k5.1.1; have c2 := k5.1.2.2; have h5 := row_string (P := Try.prog) k5.2.1 26 9 5 Try.underlying26 Try.underlying5 Try.underlying9; clear b5))
  have o6 := o5
  clear rC o5 o4 o3 BB4 k4 h5 h4 hconv c0 c2 rS rR bw
  obtain ⟨⟨c0, c1, c2⟩, rS, rR, bw, sz5⟩ := k5
  obtain ⟨P1, hP1⟩ : ∃ P1, P1 = pfxI zS i := ⟨_, rfl⟩
  rw [← hP1]
  have HP1 := hide hP1
  have HCT := hide (show strOfNums (zS ++ [7, 8]) = strOfNums zS ++ ⟨#[7, 8]⟩ from str_cat zS [7, 8])
  have hc1 := row_string (P := Try.prog) rS 26 9 5 Try.underlying26 Try.underlying5 Try.underlying9
  have hc2 := row_string (P := Try.prog) (row_at o6) 26 9 5 Try.underlying26 Try.underlying5 Try.underlying9
  rw [unhide HCT] at hc2
  have hszl : ¬ 9223372036854775807 < (strOfNums zS).size + 2 := by rw [unhide HSz]; omega
  clear hP1 HCT
  generalize strOfNums zS = SS at *
  go_wp2_with fail
  refine (sameForm_eq _ w5).mono ?_
  rintro e w6 ⟨rfl, rfl⟩
  have BB6 := BB5
  have HLs := hide hS.len
  clear BB BB3 BB5 sz sz3 b3
  go_wp2
  clear hc1 hc2 hszl
  go_loopw [11] (fun v wr => ∃ k : Nat, k ≤ nS ∧ v = .int .i64 k ∧ wr.ownsRow (w.heap.size + 1) 5 1 (.slice (some ⟨g, 0, none⟩) (nS + 2) cap) (nS + 2) ((setTo (zS ++ [7, 8]) 53 k).map (Value.int .u8)) ∧ Below (w.heap.size + 1) W1 wr) (fun v _ => nS - (intOf v).toNat)
  case atStart => exact ⟨0, Nat.zero_le _, rfl, by rw [setTo_zero]; exact o6, BB6⟩
  case round =>
    obtain ⟨k, hk, rfl, hok, hbk⟩ := hrel
    clear c0 c1 c2 rS rR bw o6
    by_cases hlt : k < nS
    · have ki : (k : Int) < (nS : Int) := by omega
      have c3 : ∃ v, wr.cell? ⟨g, k, none⟩ = some v := ⟨_, by rw [hok.cellAt k (by omega), List.getElem?_eq_getElem (by rw [hok.1]; omega)]⟩
      obtain ⟨u1, c3⟩ := c3
      have f1 := hok.frozenAt k
      have hok1 := (hok.stored k (.int .u8 53)).1
      have hbk1 : Below (w.heap.size + 1) W1 (wr.setCell ⟨g, k, none⟩ (.int .u8 53)) := hbk.setCell hg _
      rw [map_set_int, setTo_set _ _ _ (by rw [List.length_append, unhide HLs]; omega)] at hok1
      have HO := hide hok1
      have HB := hide hbk1
      clear hok hbk hok1 hbk1
      go_wp2
      go_roundw
      case rel => exact ⟨k + 1, by omega, by go_num, unhide HO, unhide HB⟩
      case measure => simp [intOf]; omega
    · have ki : ¬ (k : Int) < (nS : Int) := by omega
      have ek : k = nS := by omega
      subst ek
      rw [setTo_all _ _ _ _ (unhide HLs)] at hok
      have rB : Row .u8 wr (some ⟨g, 0, none⟩) k cap (List.replicate k 53) := (row_at hok).head (by simp)
      obtain ⟨⟨c0, c1, c2⟩, rS, rR, bw, sz7⟩ := unhide HK wr hbk
      clear hok
      go_wp2_with fail
      refine (prefix_b _ _ _ _ i wr rB (by omega)).mono ?_
      rintro e w7 ⟨rfl, b7⟩
      have BB7 := hbk.trans (b7.mono sz7)
      have rB7 := rB.below b7
      clear c0 c1 c2 rS rR bw rB hbk
      obtain ⟨⟨c0, c1, c2⟩, rS, rR, bw, sz8⟩ := unhide HK w7 BB7
      have HRp := hide (show Byt (List.replicate k (53 : Int)) from by intro z hz; rw [List.eq_of_mem_replicate hz]; decide)
      have HSz2 := hide (show (strOfNums (List.replicate k 53)).size = k from by rw [strOfNums_size]; simp)
      have HBz2 := hide (bytesZ_str _ (unhide HRp))
      have hconv := row_string (P := Try.prog) (rB7.below (Below.refl _ _).drew) 26 9 5 Try.underlying26 Try.underlying5 Try.underlying9
      obtain ⟨L5, hL5⟩ : ∃ L5, L5 = List.replicate k (53 : Int) := ⟨_, rfl⟩
      rw [← hL5] at HSz2 HBz2 rB7 hconv ⊢
      clear hL5 HRp
      go_wp2_with fail
      go_region_held3 (fun w' => w'.cell? ⟨w.heap.size, 2, none⟩ = some (.int .i64 i) ∧ (convert 26 9 (.slice (some ⟨g, 0, none⟩) k cap)).run Try.prog w' = .ok (.string (strOfNums L5)) w') (go_keep)
        (first
          | (go_at_call 23; refine (codes_any (strOfNums L5) _ ?_).mono ?_; (rw [unhide HSz2]; omega); rintro e w8 ⟨vD, rfl, oD, b8⟩; rw [unhide HBz2, unhide HSz2] at oD; obtain ⟨aD, cD, rfl, rD⟩ := own_row oD; have BB8 : Below (w.heap.size + 1) W1 w8 := BB7.drew.trans (b8.mono (by simpa using sz8)); have rB8 := rB7.below (((Below.refl _ _).drew).trans b8); have k8 := unhide HK w8 BB8; have c2 := k8.1.2.2; have h8 := row_string (P := Try.prog) rB8 26 9 5 Try.underlying26 Try.underlying5 Try.underlying9; clear oD b8)
          | (go_at_call 22; refine (refPrefix_any aD k cD L5 i _ rD ?_).mono ?_; omega; rintro e w9 ⟨rfl, b9⟩; have BB9 := BB8.trans (b9.mono k8.2.2.2.2); have k9 := unhide HK w9 BB9; have c2 := k9.1.2.2; have h9 := row_string (P := Try.prog) (rB8.below b9) 26 9 5 Try.underlying26 Try.underlying5 Try.underlying9; clear b9))
      clear rD rB8 rB7 BB7 BB8 k8 h8 h9 hconv c0 c1 c2 rS rR bw
      obtain ⟨⟨c0, c1, c2⟩, rS, rR, bw, sz9⟩ := k9
      generalize pfxI L5 i = P2 at *
      go_wp2_with fail
      refine (sameForm_eq _ w9).mono ?_
      rintro e wA ⟨rfl, rfl⟩
      go_wp2
      clear c0 c1 c2 rS rR bw
      go_loopw [15, 16] (fun v x wr => ∃ j : Nat, j ≤ k ∧ x = .int .i64 j ∧ wr.ownsRow (w.heap.size + 1) 58 1 v j ((zS.take j).map (Value.int .u8)) ∧ Below (w.heap.size + 1) W1 wr) (fun _ x _ => k - (intOf x).toNat)
      case atStart => exact ⟨0, Nat.zero_le _, rfl, World.ownsRow_nil _ _ _ _, BB9⟩
      case round =>
        obtain ⟨j, hjk, rfl, hoj, hbj⟩ := hrel
        obtain ⟨⟨c0, c1, c2⟩, rS, rR, bw, szB⟩ := unhide HK wr hbj
        by_cases hlt : j < k
        · have ji : (j : Int) < (k : Int) := by omega
          rcases rS.at_ with h0 | ⟨b, off, rfl, hbw, hcell⟩
          · omega
          have cj := hcell j hlt
          have hyy := byt_getD hb j
          have HY := hide (take_snoc (zs := zS) (k := j) (by rw [unhide HLs]; exact hlt))
          generalize zS.getD j 0 = y at *
          have hyl := hyy.1
          have hyh := hyy.2
          clear hcell hyy rS rR bw
          go_wp2_with (at_builtin; refine wpList_append_one _ rfl _ _ 57 rfl (w.heap.size + 1) 58 l0 .u8 1 Try.underlying57 hl hx0 hx1 hx2 _ _ _ rfl hoj _ rfl (by unfold maxLen; omega) (by omega) (by omega) ?_; intro v' wC hown' hbC)
          go_roundw
          case rel =>
            refine ⟨j + 1, by omega, by go_num, ?_, hbj.trans hbC⟩
            rw [unhide HY, List.map_append]
            exact hown'
          case measure => simp [intOf]; omega
        · have ji : ¬ (j : Int) < (k : Int) := by omega
          have ej : j = k := by omega
          subst ej
          rw [List.take_of_length_le (by rw [unhide HLs]; exact Nat.le_refl _)] at hoj
          obtain ⟨aL, cL, rfl, rL⟩ := own_row hoj
          clear hoj
          go_wp2_with fail
          refine (prefix_l _ _ _ _ i wr rL (by omega)).mono ?_
          rintro e wD ⟨rfl, bD⟩
          rw [← unhide HP1]
          have BBD := hbj.trans (bD.mono szB)
          clear c0 c1 c2 rS rR bw rL hbj
          obtain ⟨⟨c0, c1, c2⟩, rS, rR, bw, szD⟩ := unhide HK wD BBD
          go_wp2_with fail
          refine (sameForm_eq _ wD).mono ?_
          rintro e wE ⟨rfl, rfl⟩
          have hlit2 : (wE.alloc (.cells #[] 21)).ownsRow (w.heap.size + 1) 21 1 (.slice (some ⟨wE.heap.size, 0, none⟩) 0 0) 0 [] := by
            have := World.ownsRow_lit (base := w.heap.size + 1) (e := 21) (size := 1) wE #[] 0 szD (by unfold maxLen; omega) rfl
            simpa using this
          have rR2 : Row .i32 (wE.alloc (.cells #[] 21)) aR nR cR zR := rR.below ((Below.refl _ _).alloc (Nat.le_refl _) _)
          have ca := (unhide HK _ (BBD.alloc szD (.cells #[] 21))).1.2.1
          go_wp2_with (at_builtin; refine wpList_append_row _ rfl _ _ 28 rfl (w.heap.size + 1) 21 i0 .i32 4 Try.underlying28 hi hz0 hz1 hz2 _ _ _ rfl hlit2 aR nR cR zR rfl rR2 (by unfold maxLen; omega) (by omega) (by simp; omega) ?_; intro vF wF oF bF; have BBF : Below (w.heap.size + 1) W1 wF := (BBD.alloc szD _).trans bF; obtain ⟨aF, cF, rfl, rF⟩ := own_row (zs := zR) (by simpa using oF); have kF := unhide HK wF BBF; have c2F := kF.1.2.2; clear oF bF hlit2 rR2 ca)
          clear c0 c1 c2 rS rR bw BBD
          have rF : Row .i32 wF aF nR cF zR := by simpa using rF
          refine (prefix_i _ _ _ _ i wF rF (by omega)).mono ?_
          rintro e wG ⟨rfl, bG⟩
          have BBG := BBF.trans (bG.mono kF.2.2.2.2)
          have rG := rF.below bG
          clear kF c2F rF BBF
          obtain ⟨⟨c0, c1, c2⟩, rS, rR, bw, szG⟩ := unhide HK wG BBG
          obtain ⟨P3, hP3⟩ : ∃ P3, P3 = pfxI zR i := ⟨_, rfl⟩
          rw [← hP3]
          have HP3 := hide hP3
          clear hP3
          go_wp2_with fail
          refine (refPrefix_any _ _ _ _ i wG rR (by omega)).mono ?_
          rintro e wH ⟨rfl, bH⟩
          rw [← unhide HP3]
          have BBH := BBG.trans (bH.mono szG)
          have rH := rG.below bH
          clear c0 c1 c2 rS rR bw rG BBG
          obtain ⟨⟨c0, c1, c2⟩, rS, rR, bw, szH⟩ := unhide HK wH BBH
          go_wp2_with fail
          refine (sameForm_eq _ wH).mono ?_
          rintro e wI ⟨rfl, rfl⟩
          go_wp2
          clear c0 c1 c2 rS rR bw
          have HLr := hide rH.len
          go_loopw [18, 19] (fun v x wr => ∃ j : Nat, j ≤ nR ∧ x = .int .i64 j ∧ wr.ownsRow wI.heap.size 62 1 v j ((zR.take j).map (Value.int .i32)) ∧ Below wI.heap.size wI wr) (fun _ x _ => nR - (intOf x).toNat)
          case atStart => exact ⟨0, Nat.zero_le _, rfl, World.ownsRow_nil _ _ _ _, Below.refl _ _⟩
          case round =>
            obtain ⟨q, hqn, rfl, hoq, hbq⟩ := hrel
            obtain ⟨⟨c0, c1, c2⟩, rS, rR, bw, szB⟩ := unhide HK wr (BBH.trans (hbq.mono szH))
            have rQ := rH.below hbq
            by_cases hltq : q < nR
            · have qi : (q : Int) < (nR : Int) := by omega
              rcases rR.at_ with h0 | ⟨b, off, rfl, hbw, hcell⟩
              · omega
              rcases rQ.at_ with h0 | ⟨b', off', rfl, hbw', hcell'⟩
              · omega
              have cj := hcell q hltq
              have cj' := hcell' q hltq
              have HY := hide (take_snoc (zs := zR) (k := q) (by rw [unhide HLr]; exact hltq))
              generalize zR.getD q 0 = y at *
              have hsz := hbq.size
              clear hcell hcell' rS rR rQ bw
              go_wp2
              go_quiet (fail)
              go_wp2_with (at_builtin; refine wpList_append_one _ rfl _ _ 61 rfl wI.heap.size 62 g0 .i32 4 Try.underlying61 hgi hq0 hq1 hq2 _ _ _ rfl (own_below hoq (below_drewN (Below.refl _ _) _)) _ rfl (by unfold maxLen; omega) (by omega) (by simp; omega) ?_; intro v' wC hown' hbC)
              go_roundw
              case rel =>
                refine ⟨q + 1, by omega, by go_num, ?_, (below_drewN hbq _).trans hbC⟩
                rw [unhide HY, List.map_append]
                exact hown'
              case measure => simp [intOf]; omega
            · have qi : ¬ (q : Int) < (nR : Int) := by omega
              have eq : q = nR := by omega
              subst eq
              rw [List.take_of_length_le (by rw [unhide HLr]; exact Nat.le_refl _)] at hoq
              obtain ⟨aM, cM, rfl, rM⟩ := own_row hoq
              have BBr := BBH.trans (hbq.mono szH)
              clear hoq hbq
              go_wp2_with fail
              refine (prefix_s _ _ _ _ i wr rM (by omega)).mono ?_
              rintro e wJ ⟨rfl, bJ⟩
              rw [← unhide HP3]
              have BBJ := BBr.trans (bJ.mono szB)
              clear c0 c1 c2 rS rR bw rM
              obtain ⟨⟨c0, c1, c2⟩, rS, rR, bw, szJ⟩ := unhide HK wJ BBJ
              go_wp2_with fail
              refine (sameForm_eq _ wJ).mono ?_
              rintro e wK ⟨rfl, rfl⟩
              go_wp2
              go_ret
              exact ⟨rfl, bw⟩
end Go.Proofs.Ytdfdicgfldcngaa.mem
