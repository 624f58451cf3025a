import Derived.Test.YtfegalieiiaopabCv3
namespace Go.Proofs.Ytfegalieiiaopab.cu
open Go.ChangeShapes Go.WideShapes Go.ChangeAt Go.RowKit
open ints (hide unhide)
open dt (Dt Kp RowAt)
set_option linter.unusedVariables false
theorem infoNm : (Try.prog.info? 83).map (·.size) = some 3 := by kernel_rfl
theorem index_nil (s : ByteArray) (w : World) : Calls Try.prog 68 #[.slice none 0 0, .string s] w fun e w' => e = .returned (.int .i64 (-1)) ∧ w' = w := by
  go_enter Try.func68, Try.ntmps68
  go_wp2_with fail
  refine wp_loop_rounds 1 ?_
  rw [rounds_succ]
  go_wp2_with fail
  go_ret
  exact ⟨rfl, rfl⟩
theorem contains_nil (s : ByteArray) (w : World) : Calls Try.prog 51 #[.slice none 0 0, .string s] w fun e w' => e = .returned (.bool false) ∧ w' = w := by
  have hi := hide (index_nil s w)
  go_enter Try.func51, Try.ntmps51
  go_wp2_with fail
  refine (unhide hi).mono ?_
  rintro e w1 ⟨rfl, rfl⟩
  clear hi
  go_wp2_with fail
  go_ret
  exact ⟨rfl, rfl⟩
set_option maxRecDepth 4000 in
theorem name_ok (B p : Nat) (c : Cu) (so : Bool) (w : World) (h : CurAt w B p c) (hm : so = true → c.ix + 1 < c.ts.length) : Calls Try.prog 49 #[ptr B, .bool so] w fun e w' =>
    e = .returned (.tuple #[.agg (if so then [Value.string c.tok.tx, .int .i64 c.tok.ln, .int .i64 c.tok.co] else [.string em, .int .i64 0, .int .i64 0]).toArray, .bool so]) ∧ CurAt w' B p (if so then c.take else c.stop 70) ∧ Kp B w w' := by
  have hh := hide (fun W (bb : Below w.heap.size w W) => holds_ok B p c so W (h.below bb))
  have hlt := h.lt
  have hplt := h.plt
  have bA := hide (fun o => show Below w.heap.size w (w.alloc o) from (Below.refl _ _).alloc (Nat.le_refl _) _)
  have hZ := hide (fun o W (hk : Kp B (w.alloc o) W) => show W.heap[w.heap.size]? = some o from (hk.block w.heap.size (by simp) (by omega)).trans (heap_alloc_new w o))
  have hne : B ≠ w.heap.size := by omega
  have hnp : p ≠ w.heap.size := by omega
  cases so
  · clear h
    unfold ptr at hh ⊢
    go_enter Try.func49, Try.ntmps49
    go_wp2_with fail
    refine ((unhide hh) _ ((unhide bA) _)).mono ?_
    rintro e w1 ⟨rfl, hc, hk⟩
    have hth : w1.there w.heap.size 0 3 := dt.there_cells ((unhide hZ) _ w1 hk) (by decide)
    have HK := hide ((Kp.of ((unhide bA) _)).trans hk)
    have HC := hide hc
    clear hh hk hc hZ bA
    go_wp2_with (first
      | refine wpList_store_mid (by rfl) 83 _ _ (by rfl) w.heap.size 0 #[.string ⟨#[]⟩, .int .i64 0, .int .i64 0] (by rfl) (by rfl) hth infoNm (dt.one_cells (cs := [.string ⟨#[]⟩, .int .i64 0, .int .i64 0]) (by rfl)) ?_)
    refine bodyPost_ret (rgn.result_row_tmp rfl _ _ w.heap.size 0 [.string ⟨#[]⟩, .int .i64 0, .int .i64 0] _ rfl (World.rangeAt_setCells_same _ _ _ _ hth) Try.underlying83 rfl infoNm) rfl ?_
    exact ⟨rfl, (unhide HC).out hne hnp _ _, (unhide HK).out (Nat.le_refl _) _ _⟩
  · have hr := hide (fun W (hc : CurAt W B p c) => take_ok B p c W hc (hm rfl))
    clear h
    have hf1 := fld_text c.tok
    have hf2 := fld_pos c.tok
    obtain ⟨t, ht⟩ : ∃ t, t = c.tok := ⟨_, rfl⟩
    rw [← ht] at hr hf1 hf2 ⊢
    clear ht
    unfold Tk.cells at hr
    unfold ptr at hh hr ⊢
    go_enter Try.func49, Try.ntmps49
    go_wp2_with fail
    refine ((unhide hh) _ ((unhide bA) _)).mono ?_
    rintro e w1 ⟨rfl, hc, hk⟩
    have hc' : CurAt w1 B p c := hc
    go_wp2_with fail
    refine ((unhide hr) _ hc').mono ?_
    rintro e w2 ⟨rfl, hc2, hk2⟩
    have hk3 := hk.trans hk2
    have hth : w2.there w.heap.size 0 3 := dt.there_cells ((unhide hZ) _ w2 hk3) (by decide)
    have hz2 : w.heap.size < w2.heap.size := by have := hk3.size; simp at this; omega
    have HK := hide ((Kp.of ((unhide bA) _)).trans hk3)
    have HC := hide hc2
    clear hh hk hc hZ bA hk2 hk3 hc2 hc' hr
    have hthA : ∀ o, (w2.alloc o).there w.heap.size 0 3 := fun o j hj => by
      obtain ⟨q1, q2⟩ := hth j hj
      exact ⟨by rw [((Below.refl _ _).alloc (Nat.le_refl _) o).cell (p := ⟨w.heap.size, 0 + j, none⟩) hz2]; exact q1, by
        have e := Below.heap_alloc w2 o w.heap.size hz2
        rw [World.frozen?_of_block (w := w2) (a := ⟨w.heap.size, 0 + j, none⟩) e]; exact q2⟩
    have HT := hide hthA
    clear hth hthA
    go_wp2_with (first
      | refine wpList_store_mid (by rfl) 83 _ _ (by rfl) w.heap.size 0 #[.string t.tx, .int .i64 t.ln, .int .i64 t.co] (by rfl) (by rfl) ((unhide HT) _) infoNm (dt.one_cells (cs := [.string t.tx, .int .i64 t.ln, .int .i64 t.co]) (by rfl)) ?_)
    refine bodyPost_ret (rgn.result_row_tmp rfl _ _ w.heap.size 0 [.string t.tx, .int .i64 t.ln, .int .i64 t.co] _ rfl (World.rangeAt_setCells_same _ _ _ _ ((unhide HT) _)) Try.underlying83 rfl infoNm) rfl ?_
    exact ⟨rfl, ((unhide HC).below ((Below.refl _ _).alloc (Nat.le_refl _) _)).out hne hnp _ _, ((unhide HK).trans (Kp.of ((Below.refl _ _).alloc (Nat.le_refl _) _))).out (Nat.le_refl _) _ _⟩
theorem nmT_3 (c : Cu) : c.nmT.length = 3 ∧ c.nmT.all (·.oneCell') = true := by unfold Cu.nmT; split <;> exact ⟨rfl, rfl⟩
set_option maxHeartbeats 1000000 in
set_option maxRecDepth 4000 in
theorem nameAny_ok (B p : Nat) (c : Cu) (w : World) (h : CurAt w B p c) : Calls Try.prog 36 #[ptr B, .slice none 0 0] w fun e w' =>
    e = .returned (.tuple #[.agg c.nmT.toArray, .bool c.isN]) ∧ CurAt w' B p c.name ∧ Kp B w w' := by
  have hi := hide (fun W (bb : Below w.heap.size w W) => isName_ok B p c W (h.below bb))
  have ht := hide (fun W (bb : Below w.heap.size w W) => token_ok B p c W (h.below bb))
  have hn := hide (fun W (bb : Below w.heap.size w W) => name_ok B p c c.isN W (h.below bb) (isN_more h.ok))
  have hs := hide (show c.name = if c.isN then c.take else c.stop 70 from rfl)
  have hs2 := hide (show c.nmT = if c.isN then [.string c.tok.tx, .int .i64 c.tok.ln, .int .i64 c.tok.co] else [.string em, .int .i64 0, .int .i64 0] from rfl)
  have hV3 := hide (nmT_3 c).1
  have hV1 := hide (nmT_3 c).2
  have hf1 := fld_text c.tok
  have hlt := h.lt
  have hplt := h.plt
  have hne : B ≠ w.heap.size := by omega
  have hnp : p ≠ w.heap.size := by omega
  obtain ⟨V, hV⟩ : ∃ V, V = c.nmT := ⟨_, rfl⟩
  obtain ⟨C, hC⟩ : ∃ C, C = c.name := ⟨_, rfl⟩
  rw [← hV] at hs2 hV3 hV1 ⊢
  rw [← hC] at hs ⊢
  rw [← unhide hs, ← unhide hs2] at hn
  obtain ⟨R, hR⟩ : ∃ R, R = c.isN := ⟨_, rfl⟩
  rw [← hR] at hi hn ⊢
  obtain ⟨t, hk3⟩ : ∃ t, t = c.tok := ⟨_, rfl⟩
  rw [← hk3] at ht hf1
  clear h hR hV hC hs hs2 hk3
  unfold Tk.cells at ht
  unfold ptr at hi hn ht ⊢
  go_enter Try.func36, Try.ntmps36
  go_wp2_with fail
  have bA0 : Below w.heap.size w (w.alloc (.cells #[Value.string { data := #[] }, .int .i64 0, .int .i64 0] 83)) := (Below.refl _ _).alloc (Nat.le_refl _) _
  have hZ := (fun W (hk : Kp B (w.alloc (.cells #[Value.string { data := #[] }, .int .i64 0, .int .i64 0] 83)) W) => show W.heap[w.heap.size]? = some (.cells #[Value.string { data := #[] }, .int .i64 0, .int .i64 0] 83 (0, 0)) from (hk.block w.heap.size (by simp) (by omega)).trans (heap_alloc_new w _))
  obtain ⟨wA, hwA⟩ : ∃ wA, wA = w.alloc (.cells #[Value.string { data := #[] }, .int .i64 0, .int .i64 0] 83) := ⟨_, rfl⟩
  rw [← hwA] at bA0 hZ ⊢
  clear hwA
  refine ((unhide hi) wA bA0).mono ?_
  rintro e w1 ⟨rfl, b1⟩
  cases R
  · go_wp2_with fail
    refine ((unhide hn) w1 (bA0.trans (b1.mono bA0.size))).mono ?_
    rintro e wN ⟨rfl, hcN, hkN⟩
    have bE := b1
    have hk3 := (Kp.of bE).trans hkN
    have hth : wN.there w.heap.size 0 3 := dt.there_cells (hZ wN hk3) (by decide)
    have HK := hide ((Kp.of bA0).trans hk3)
    have HC := hide hcN
    have HT := hide (show wN.there w.heap.size 0 V.toArray.size from by rw [show V.toArray.size = 3 from by simpa using unhide hV3]; exact hth)
    have HI := hide (show (Try.prog.info? 83).map (·.size) = some V.toArray.size from by rw [show V.toArray.size = 3 from by simpa using unhide hV3]; exact infoNm)
    clear hk3 hkN hcN hth bE hZ bA0
    go_wp2_with (first
      | refine wpList_store_mid (by rfl) 83 _ _ (by rfl) w.heap.size 0 V.toArray (by rfl) (by rfl) (unhide HT) (unhide HI) (dt.one_cells (unhide hV1)) ?_)
    refine bodyPost_ret (rgn.result_row_tmp rfl _ _ w.heap.size 0 V _ rfl (World.rangeAt_setCells_same _ _ _ _ (by have := unhide HT; simpa using this)) Try.underlying83 rfl (by have := unhide HI; simpa using this)) rfl ?_
    exact ⟨rfl, (unhide HC).out hne hnp _ _, (unhide HK).out (Nat.le_refl _) _ _⟩
  · go_wp2_with fail
    refine ((unhide ht) w1 (bA0.trans (b1.mono bA0.size))).mono ?_
    rintro e w2 ⟨rfl, b2⟩
    have bE := b1.trans (b2.mono b1.size)
    go_wp2_with fail
    refine (contains_nil t.tx w2).mono ?_
    rintro e w3 ⟨rfl, rfl⟩
    go_wp2_with fail
    refine ((unhide hn) _ (bA0.trans (bE.mono bA0.size))).mono ?_
    rintro e wN ⟨rfl, hcN, hkN⟩
    have hk3 := (Kp.of bE).trans hkN
    have hth : wN.there w.heap.size 0 3 := dt.there_cells (hZ wN hk3) (by decide)
    have HK := hide ((Kp.of bA0).trans hk3)
    have HC := hide hcN
    have HT := hide (show wN.there w.heap.size 0 V.toArray.size from by rw [show V.toArray.size = 3 from by simpa using unhide hV3]; exact hth)
    have HI := hide (show (Try.prog.info? 83).map (·.size) = some V.toArray.size from by rw [show V.toArray.size = 3 from by simpa using unhide hV3]; exact infoNm)
    clear hk3 hkN hcN hth bE hZ bA0
    go_wp2_with (first
      | refine wpList_store_mid (by rfl) 83 _ _ (by rfl) w.heap.size 0 V.toArray (by rfl) (by rfl) (unhide HT) (unhide HI) (dt.one_cells (unhide hV1)) ?_)
    refine bodyPost_ret (rgn.result_row_tmp rfl _ _ w.heap.size 0 V _ rfl (World.rangeAt_setCells_same _ _ _ _ (by have := unhide HT; simpa using this)) Try.underlying83 rfl (by have := unhide HI; simpa using this)) rfl ?_
    exact ⟨rfl, (unhide HC).out hne hnp _ _, (unhide HK).out (Nat.le_refl _) _ _⟩
end Go.Proofs.Ytfegalieiiaopab.cu
