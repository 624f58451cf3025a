import Derived.Test.YtjicabpeohpbpabDoorPTx2
namespace Go.Proofs.YtjicabpeohpbpabDoor.stp
open Go.ChangeShapes Go.WideShapes Go.ChangeAt Go.RowKit
set_option linter.unusedVariables false
theorem fold_wf : ∀ (l : List UInt8) (n : Int), (Lit.int .i64 n).wf = true → (Lit.int .i64 (l.foldl gstep n)).wf = true
  | [], n, h => h
  | c :: l, n, h => by
    refine fold_wf l _ ?_
    unfold gstep
    split
    · exact h
    · exact wf_wrap _ _
theorem gN_wf (l : List UInt8) : (Lit.int .i64 (gN l)).wf = true := by
  unfold gN
  split
  · exact wf_wrap _ _
  · exact fold_wf _ _ (by decide)
theorem gs_wf (l : List UInt8) : (Lit.int .i64 (gs l).ix).wf = true := by
  unfold gs
  split
  · exact gN_wf l
  · show (Lit.int .i64 0).wf = true
    decide
theorem gs_size (l : List UInt8) : (gs l).nm.size ≤ l.length := by
  unfold gs
  split
  · exact Nat.zero_le _
  · exact pn_len _ l (Nat.le_refl _)
theorem gs_pl (l : List UInt8) : plS (gs l) = gs l := by
  unfold gs
  split <;> simp [plS]
theorem gs_num {s : ByteArray} (h0 : 0 < s.size) (hn : numB (s[0]'h0) = true) : gs s.data.toList = ⟨⟨#[]⟩, gN s.data.toList, true⟩ := by
  obtain ⟨_, r, hr⟩ := str_ne h0
  unfold gs
  rw [if_pos (by rw [hr]; exact hn)]
theorem gs_nam {s : ByteArray} (hn : begL s.data.toList = false) : gs s.data.toList = ⟨⟨(pn s.data.toList).toArray⟩, 0, false⟩ := by
  unfold gs
  rw [if_neg (by rw [hn]; decide)]
theorem gN_minus {s : ByteArray} (h0 : 0 < s.size) (h : s[0]'h0 = 45) : gN s.data.toList = IntKind.i64.wrap (- gsum s.data.toList) := by
  obtain ⟨_, r, hr⟩ := str_ne h0
  rw [hr, h]
  rfl
theorem gN_plus {s : ByteArray} (h0 : 0 < s.size) (h : ¬ s[0]'h0 = 45) : gN s.data.toList = gsum s.data.toList := by
  obtain ⟨_, r, hr⟩ := str_ne h0
  rw [hr]
  unfold gN
  split
  · rename_i e; simp at e; exact absurd e.1 h
  · rfl
theorem take_fold (s : ByteArray) (k : Nat) (h : k < s.size) : (s.data.toList.take (k + 1)).foldl gstep 0 = gstep ((s.data.toList.take k).foldl gstep 0) (s[k]'h) := by
  rw [List.take_add_one, str_get s k h]
  simp [List.foldl_append]
theorem gstep_w (m : Int) (c : UInt8) (h : ¬ c = 45) : gstep m c = wrap64 (wrap64 (wrap64 (m * 10) + wrap64 (c.toNat : Int)) - 48) := by
  have hc : c.toNat < 256 := c.toNat_lt
  unfold gstep
  rw [if_neg h, IntWalk.wrap64_in (c.toNat : Int) (by omega), IntWalk.i64_left, IntWalk.i64_left, IntWalk.i64_left]
def StV (s : St) : Value := .agg #[.string s.nm, .int .i64 s.ix, .bool s.it]
set_option maxHeartbeats 1000000 in
set_option maxRecDepth 6000 in
theorem guess_any (s : ByteArray) (w : World) (hs : s.size ≤ 500000000) : Calls Tryd.prog 13 #[.string s] w fun e w' => e = .returned (StV (gs s.data.toList)) ∧ Below w.heap.size w w' := by
  by_cases h0 : 0 < s.size
  · obtain ⟨he, r, hr⟩ := str_ne h0
    have hne : ¬ s.toList = [] := by intro e; rw [e] at he; cases he
    have hbl : Hid (begL s.data.toList = numB (s[0]'h0)) := by
      show begL s.data.toList = numB (s[0]'h0)
      rw [hr]
      rfl
    clear hr
    by_cases c1 : ((s[0]'h0).toNat : Int) = 45
    · have c1' : s[0]'h0 = 45 := by apply UInt8.toNat_inj.1; simpa using (by omega : (s[0]'h0).toNat = 45)
      have hgs := hide (gs_num h0 (by rw [c1']; decide))
      have hgn := hide ((gN_minus h0 c1').trans (IntWalk.i64_left _))
      clear c1'
      go_enter Tryd.func13, Tryd.ntmps13
      go_wp2_with fail
      go_loopw [4, 3] (fun vk vo wr => ∃ (k : Nat) (m : Int), k ≤ s.size ∧ vk = .int .i64 k ∧ vo = .int .i64 m ∧ Hid (m = (s.data.toList.take k).foldl gstep 0) ∧ Below (w.alloc (.cells #[.string ⟨#[]⟩, .int .i64 0, .bool false] 25)).heap.size (w.alloc (.cells #[.string ⟨#[]⟩, .int .i64 0, .bool false] 25)) wr) (fun vk _ _ => s.size - (intOf vk).toNat)
      case atStart => exact ⟨0, 0, Nat.zero_le _, rfl, rfl, rfl, Below.refl _ _⟩
      case round =>
        obtain ⟨k, m, hk, rfl, rfl, hm, hbk⟩ := hrel
        by_cases hlt : k < s.size
        · have ki : (k : Int) < (s.size : Int) := by omega
          have hn := hide (take_fold s k hlt)
          by_cases e1 : ((s[k]'hlt).toNat : Int) = 45
          · have ce := hide (show gstep m (s[k]'hlt) = m by unfold gstep; rw [if_pos (UInt8.toNat_inj.1 (by simpa using (by omega : (s[k]'hlt).toNat = 45)))])
            go_wp2
            go_roundw
            case rel => exact ⟨k + 1, m, by omega, by go_num, rfl, (by show _ = _; rw [unhide hn, ← unhide hm, unhide ce]), hbk⟩
            case measure => simp [intOf]; omega
          · have ce := hide (gstep_w m (s[k]'hlt) (fun e => e1 (by rw [e]; rfl)))
            go_wp2
            go_roundw
            case rel => exact ⟨k + 1, _, by omega, by go_num, rfl, (by show _ = _; rw [unhide hn, ← unhide hm, unhide ce]), hbk⟩
            case measure => simp [intOf]; omega
        · have ki : ¬ (k : Int) < (s.size : Int) := by omega
          have hfin := hide (show gsum s.data.toList = m by rw [unhide hm, List.take_of_length_le (by rw [Array.length_toList]; show s.size ≤ k; omega)]; rfl)
          obtain ⟨B3, r3, z3, s3⟩ := box_on hbk
          obtain ⟨x0, x1, x2⟩ := box_cells r3
          have z30 := z3 0
          have z31 := z3 1
          have z32 := z3 2
          go_wp2
          refine bodyPost_ret (v := .agg #[.string ⟨#[]⟩, .int .i64 (wrap64 (-m)), .bool true]) ?_ rfl ?_
          · simp [results, Tryd.f13, go_sem, x0, x1, x2]
          · rw [unhide hgs, unhide hgn, unhide hfin]
            exact ⟨rfl, ((B3.setCell (p := ⟨w.heap.size, 0, none⟩) (Nat.le_refl _) _).setCell (p := ⟨w.heap.size, 1, none⟩) (Nat.le_refl _) _).setCell (p := ⟨w.heap.size, 2, none⟩) (Nat.le_refl _) _⟩
    · have c1b : Hid ((s[0]'h0 == 45) = false) := by
        show (s[0]'h0 == 45) = false
        simp
        intro e
        rw [e] at c1
        exact c1 rfl
      by_cases c2 : 48 ≤ ((s[0]'h0).toNat : Int)
      · by_cases c3 : ((s[0]'h0).toNat : Int) ≤ 57
        · have hgs := hide (gs_num h0 (by
            unfold numB
            rw [unhide c1b]
            simp
            omega))
          have hgn := hide (gN_plus h0 (fun e => c1 (by rw [e]; rfl)))
          go_enter Tryd.func13, Tryd.ntmps13
          go_wp2_with fail
          go_loopw [4, 3] (fun vk vo wr => ∃ (k : Nat) (m : Int), k ≤ s.size ∧ vk = .int .i64 k ∧ vo = .int .i64 m ∧ Hid (m = (s.data.toList.take k).foldl gstep 0) ∧ Below (w.alloc (.cells #[.string ⟨#[]⟩, .int .i64 0, .bool false] 25)).heap.size (w.alloc (.cells #[.string ⟨#[]⟩, .int .i64 0, .bool false] 25)) wr) (fun vk _ _ => s.size - (intOf vk).toNat)
          case atStart => exact ⟨0, 0, Nat.zero_le _, rfl, rfl, rfl, Below.refl _ _⟩
          case round =>
            obtain ⟨k, m, hk, rfl, rfl, hm, hbk⟩ := hrel
            by_cases hlt : k < s.size
            · have ki : (k : Int) < (s.size : Int) := by omega
              have hn := hide (take_fold s k hlt)
              by_cases e1 : ((s[k]'hlt).toNat : Int) = 45
              · have ce := hide (show gstep m (s[k]'hlt) = m by unfold gstep; rw [if_pos (UInt8.toNat_inj.1 (by simpa using (by omega : (s[k]'hlt).toNat = 45)))])
                go_wp2
                go_roundw
                case rel => exact ⟨k + 1, m, by omega, by go_num, rfl, (by show _ = _; rw [unhide hn, ← unhide hm, unhide ce]), hbk⟩
                case measure => simp [intOf]; omega
              · have ce := hide (gstep_w m (s[k]'hlt) (fun e => e1 (by rw [e]; rfl)))
                go_wp2
                go_roundw
                case rel => exact ⟨k + 1, _, by omega, by go_num, rfl, (by show _ = _; rw [unhide hn, ← unhide hm, unhide ce]), hbk⟩
                case measure => simp [intOf]; omega
            · have ki : ¬ (k : Int) < (s.size : Int) := by omega
              have hfin := hide (show gsum s.data.toList = m by rw [unhide hm, List.take_of_length_le (by rw [Array.length_toList]; show s.size ≤ k; omega)]; rfl)
              obtain ⟨B3, r3, z3, s3⟩ := box_on hbk
              obtain ⟨x0, x1, x2⟩ := box_cells r3
              have z30 := z3 0
              have z31 := z3 1
              have z32 := z3 2
              go_wp2
              refine bodyPost_ret (v := .agg #[.string ⟨#[]⟩, .int .i64 m, .bool true]) ?_ rfl ?_
              · simp [results, Tryd.f13, go_sem, x0, x1, x2]
              · rw [unhide hgs, unhide hgn, unhide hfin]
                exact ⟨rfl, ((B3.setCell (p := ⟨w.heap.size, 0, none⟩) (Nat.le_refl _) _).setCell (p := ⟨w.heap.size, 1, none⟩) (Nat.le_refl _) _).setCell (p := ⟨w.heap.size, 2, none⟩) (Nat.le_refl _) _⟩
        · have hgs := hide (gs_nam (s := s) (by
            rw [unhide hbl]
            unfold numB
            rw [unhide c1b]
            simp
            omega))
          go_enter Tryd.func13, Tryd.ntmps13
          go_wp2_with fail
          refine (plainName_any s _ hs).mono ?_
          rintro e w1 ⟨rfl, b1⟩
          obtain ⟨B3, r3, z3, s3⟩ := box_on b1
          obtain ⟨x0, x1, x2⟩ := box_cells r3
          have z30 := z3 0
          have z31 := z3 1
          have z32 := z3 2
          go_wp2
          refine bodyPost_ret (v := .agg #[.string ⟨(pn s.data.toList).toArray⟩, .int .i64 0, .bool false]) ?_ rfl ?_
          · simp [results, Tryd.f13, go_sem, x0, x1, x2]
          · rw [unhide hgs]
            exact ⟨rfl, ((B3.setCell (p := ⟨w.heap.size, 0, none⟩) (Nat.le_refl _) _).setCell (p := ⟨w.heap.size, 1, none⟩) (Nat.le_refl _) _).setCell (p := ⟨w.heap.size, 2, none⟩) (Nat.le_refl _) _⟩
      · have hgs := hide (gs_nam (s := s) (by
          rw [unhide hbl]
          unfold numB
          rw [unhide c1b]
          simp
          omega))
        go_enter Tryd.func13, Tryd.ntmps13
        go_wp2_with fail
        refine (plainName_any s _ hs).mono ?_
        rintro e w1 ⟨rfl, b1⟩
        obtain ⟨B3, r3, z3, s3⟩ := box_on b1
        obtain ⟨x0, x1, x2⟩ := box_cells r3
        have z30 := z3 0
        have z31 := z3 1
        have z32 := z3 2
        go_wp2
        refine bodyPost_ret (v := .agg #[.string ⟨(pn s.data.toList).toArray⟩, .int .i64 0, .bool false]) ?_ rfl ?_
        · simp [results, Tryd.f13, go_sem, x0, x1, x2]
        · rw [unhide hgs]
          exact ⟨rfl, ((B3.setCell (p := ⟨w.heap.size, 0, none⟩) (Nat.le_refl _) _).setCell (p := ⟨w.heap.size, 1, none⟩) (Nat.le_refl _) _).setCell (p := ⟨w.heap.size, 2, none⟩) (Nat.le_refl _) _⟩
  · have hz : s.size = 0 := by omega
    have hd : s.data.toList = [] := List.eq_nil_of_length_eq_zero (by rw [Array.length_toList]; exact hz)
    have hgs := hide (gs_nam (s := s) (by rw [hd]; rfl))
    have he : s.toList = [] := by rw [toList_data]; exact hd
    clear hd
    go_enter Tryd.func13, Tryd.ntmps13
    go_wp2_with fail
    refine (plainName_any s _ hs).mono ?_
    rintro e w1 ⟨rfl, b1⟩
    obtain ⟨B3, r3, z3, s3⟩ := box_on b1
    obtain ⟨x0, x1, x2⟩ := box_cells r3
    have z30 := z3 0
    have z31 := z3 1
    have z32 := z3 2
    go_wp2
    refine bodyPost_ret (v := .agg #[.string ⟨(pn s.data.toList).toArray⟩, .int .i64 0, .bool false]) ?_ rfl ?_
    · simp [results, Tryd.f13, go_sem, x0, x1, x2]
    · rw [unhide hgs]
      exact ⟨rfl, ((B3.setCell (p := ⟨w.heap.size, 0, none⟩) (Nat.le_refl _) _).setCell (p := ⟨w.heap.size, 1, none⟩) (Nat.le_refl _) _).setCell (p := ⟨w.heap.size, 2, none⟩) (Nat.le_refl _) _⟩
end Go.Proofs.YtjicabpeohpbpabDoor.stp
