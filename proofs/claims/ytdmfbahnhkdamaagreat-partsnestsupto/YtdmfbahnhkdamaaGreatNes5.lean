import Derived.Test.YtdmfbahnhkdamaaGreatNes4
import Derived.Deep.RegionHeld3
namespace Go.Proofs.YtdmfbahnhkdamaaGreat.cu
open Go.ChangeShapes Go.WideShapes Go.ChangeAt Go.RowKit
open ints (hide unhide)
open dt (Dt Kp RowAt)
set_option linter.unusedVariables false
theorem infoNm : (Tryz.prog.info? 85).map (·.size) = some 3 := by kernel_rfl
theorem index_nil (s : ByteArray) (w : World) : Calls Tryz.prog 68 #[.slice none 0 0, .string s] w fun e w' => e = .returned (.int .i64 (-1)) ∧ w' = w := by
  go_enter Tryz.func68, Tryz.ntmps68
  go_wp2_with fail
  refine wp_loop_rounds 1 ?_
  rw [rounds_succ]
  go_wp2_with fail
  go_ret
  exact ⟨rfl, rfl⟩
theorem contains_nil (s : ByteArray) (w : World) : Calls Tryz.prog 46 #[.slice none 0 0, .string s] w fun e w' => e = .returned (.bool false) ∧ w' = w := by
  have hi := hide (index_nil s w)
  go_enter Tryz.func46, Tryz.ntmps46
  go_wp2_with fail
  refine (unhide hi).mono ?_
  rintro e w1 ⟨rfl, rfl⟩
  clear hi
  go_wp2_with fail
  go_ret
  exact ⟨rfl, rfl⟩
set_option maxRecDepth 4000 in
theorem name_ok (B p : Nat) (c : Cu) (so : Bool) (w : World) (h : CurAt w B p c) (hm : so = true → c.ix + 1 < c.ts.length) : Calls Tryz.prog 44 #[ptr B, .bool so] w fun e w' =>
    e = .returned (.tuple #[.agg (if so then [Value.string c.tok.tx, .int .i64 c.tok.ln, .int .i64 c.tok.co] else [.string em, .int .i64 0, .int .i64 0]).toArray, .bool so]) ∧ CurAt w' B p (if so then c.take else c.stop 70) ∧ Kp B w w' := by
  have hh := hide (fun W (bb : Below w.heap.size w W) => holds_ok B p c so W (h.below bb))
  have hlt := h.lt
  have hplt := h.plt
  have bA := hide (fun o => show Below w.heap.size w (w.alloc o) from (Below.refl _ _).alloc (Nat.le_refl _) _)
  have hZ := hide (fun o W (hk : Kp B (w.alloc o) W) => show W.heap[w.heap.size]? = some o from (hk.block w.heap.size (by simp) (by omega)).trans (heap_alloc_new w o))
  have hne : B ≠ w.heap.size := by omega
  have hnp : p ≠ w.heap.size := by omega
  cases so
  · clear h
    unfold ptr at hh ⊢
    go_enter Tryz.func44, Tryz.ntmps44
    go_wp2_with fail
    refine ((unhide hh) _ ((unhide bA) _)).mono ?_
    rintro e w1 ⟨rfl, hc, hk⟩
    have hth : w1.there w.heap.size 0 3 := dt.there_cells ((unhide hZ) _ w1 hk) (by decide)
    have HK := hide ((Kp.of ((unhide bA) _)).trans hk)
    have HC := hide hc
    clear hh hk hc hZ bA
    go_wp2_with (first
      | refine wpList_store_mid (by rfl) 85 _ _ (by rfl) w.heap.size 0 #[.string ⟨#[]⟩, .int .i64 0, .int .i64 0] (by rfl) (by rfl) hth infoNm (dt.one_cells (cs := [.string ⟨#[]⟩, .int .i64 0, .int .i64 0]) (by rfl)) ?_)
    refine bodyPost_ret (rgn.result_row_tmp rfl _ _ w.heap.size 0 [.string ⟨#[]⟩, .int .i64 0, .int .i64 0] _ rfl (World.rangeAt_setCells_same _ _ _ _ hth) Tryz.underlying85 rfl infoNm) rfl ?_
    exact ⟨rfl, (unhide HC).out hne hnp _ _, (unhide HK).out (Nat.le_refl _) _ _⟩
  · have hr := hide (fun W (hc : CurAt W B p c) => take_ok B p c W hc (hm rfl))
    clear h
    have hf1 := fld_text c.tok
    have hf2 := fld_pos c.tok
    obtain ⟨t, ht⟩ : ∃ t, t = c.tok := ⟨_, rfl⟩
    rw [← ht] at hr hf1 hf2 ⊢
    clear ht
    unfold Tk.cells at hr
    unfold ptr at hh hr ⊢
    go_enter Tryz.func44, Tryz.ntmps44
    go_wp2_with fail
    refine ((unhide hh) _ ((unhide bA) _)).mono ?_
    rintro e w1 ⟨rfl, hc, hk⟩
    have hc' : CurAt w1 B p c := hc
    go_wp2_with fail
    refine ((unhide hr) _ hc').mono ?_
    rintro e w2 ⟨rfl, hc2, hk2⟩
    have hk3 := hk.trans hk2
    have hth : w2.there w.heap.size 0 3 := dt.there_cells ((unhide hZ) _ w2 hk3) (by decide)
    have hz2 : w.heap.size < w2.heap.size := by have := hk3.size; simp at this; omega
    have HK := hide ((Kp.of ((unhide bA) _)).trans hk3)
    have HC := hide hc2
    clear hh hk hc hZ bA hk2 hk3 hc2 hc' hr
    have hthA : ∀ o, (w2.alloc o).there w.heap.size 0 3 := fun o j hj => by
      obtain ⟨q1, q2⟩ := hth j hj
      exact ⟨by rw [((Below.refl _ _).alloc (Nat.le_refl _) o).cell (p := ⟨w.heap.size, 0 + j, none⟩) hz2]; exact q1, by
        have e := Below.heap_alloc w2 o w.heap.size hz2
        rw [World.frozen?_of_block (w := w2) (a := ⟨w.heap.size, 0 + j, none⟩) e]; exact q2⟩
    have HT := hide hthA
    clear hth hthA
    go_wp2_with (first
      | refine wpList_store_mid (by rfl) 85 _ _ (by rfl) w.heap.size 0 #[.string t.tx, .int .i64 t.ln, .int .i64 t.co] (by rfl) (by rfl) ((unhide HT) _) infoNm (dt.one_cells (cs := [.string t.tx, .int .i64 t.ln, .int .i64 t.co]) (by rfl)) ?_)
    refine bodyPost_ret (rgn.result_row_tmp rfl _ _ w.heap.size 0 [.string t.tx, .int .i64 t.ln, .int .i64 t.co] _ rfl (World.rangeAt_setCells_same _ _ _ _ ((unhide HT) _)) Tryz.underlying85 rfl infoNm) rfl ?_
    exact ⟨rfl, ((unhide HC).below ((Below.refl _ _).alloc (Nat.le_refl _) _)).out hne hnp _ _, ((unhide HK).trans (Kp.of ((Below.refl _ _).alloc (Nat.le_refl _) _))).out (Nat.le_refl _) _ _⟩
theorem nmT_3 (c : Cu) : c.nmT.length = 3 ∧ c.nmT.all (·.oneCell') = true := by unfold Cu.nmT; split <;> exact ⟨rfl, rfl⟩
set_option maxHeartbeats 1000000 in
set_option maxRecDepth 4000 in
theorem nameAny_ok (B p : Nat) (c : Cu) (w : World) (h : CurAt w B p c) : Calls Tryz.prog 31 #[ptr B, .slice none 0 0] w fun e w' =>
    e = .returned (.tuple #[.agg c.nmT.toArray, .bool c.isN]) ∧ CurAt w' B p c.name ∧ Kp B w w' := by
  have hi := hide (fun W (bb : Below w.heap.size w W) => isName_ok B p c W (h.below bb))
  have ht := hide (fun W (bb : Below w.heap.size w W) => token_ok B p c W (h.below bb))
  have hn := hide (fun W (bb : Below w.heap.size w W) => name_ok B p c c.isN W (h.below bb) (isN_more h.ok))
  have hs := hide (show c.name = if c.isN then c.take else c.stop 70 from rfl)
  have hs2 := hide (show c.nmT = if c.isN then [.string c.tok.tx, .int .i64 c.tok.ln, .int .i64 c.tok.co] else [.string em, .int .i64 0, .int .i64 0] from rfl)
  have hV3 := hide (nmT_3 c).1
  have hV1 := hide (nmT_3 c).2
  have hf1 := fld_text c.tok
  have hlt := h.lt
  have hplt := h.plt
  have hne : B ≠ w.heap.size := by omega
  have hnp : p ≠ w.heap.size := by omega
  obtain ⟨V, hV⟩ : ∃ V, V = c.nmT := ⟨_, rfl⟩
  obtain ⟨C, hC⟩ : ∃ C, C = c.name := ⟨_, rfl⟩
  rw [← hV] at hs2 hV3 hV1 ⊢
  rw [← hC] at hs ⊢
  rw [← unhide hs, ← unhide hs2] at hn
  obtain ⟨R, hR⟩ : ∃ R, R = c.isN := ⟨_, rfl⟩
  rw [← hR] at hi hn ⊢
  obtain ⟨t, hk3⟩ : ∃ t, t = c.tok := ⟨_, rfl⟩
  rw [← hk3] at ht hf1
  clear h hR hV hC hs hs2 hk3
  unfold Tk.cells at ht
  unfold ptr at hi hn ht ⊢
  go_enter Tryz.func31, Tryz.ntmps31
  go_wp2_with fail
  have bA0 : Below w.heap.size w (w.alloc (.cells #[Value.string { data := #[] }, .int .i64 0, .int .i64 0] 85)) := (Below.refl _ _).alloc (Nat.le_refl _) _
  have hZ := (fun W (hk : Kp B (w.alloc (.cells #[Value.string { data := #[] }, .int .i64 0, .int .i64 0] 85)) W) => show W.heap[w.heap.size]? = some (.cells #[Value.string { data := #[] }, .int .i64 0, .int .i64 0] 85 (0, 0)) from (hk.block w.heap.size (by simp) (by omega)).trans (heap_alloc_new w _))
  obtain ⟨wA, hwA⟩ : ∃ wA, wA = w.alloc (.cells #[Value.string { data := #[] }, .int .i64 0, .int .i64 0] 85) := ⟨_, rfl⟩
  rw [← hwA] at bA0 hZ ⊢
  clear hwA
  refine ((unhide hi) wA bA0).mono ?_
  rintro e w1 ⟨rfl, b1⟩
  cases R
  · go_wp2_with fail
    refine ((unhide hn) w1 (bA0.trans (b1.mono bA0.size))).mono ?_
    rintro e wN ⟨rfl, hcN, hkN⟩
    have bE := b1
    have hk3 := (Kp.of bE).trans hkN
    have hth : wN.there w.heap.size 0 3 := dt.there_cells (hZ wN hk3) (by decide)
    have HK := hide ((Kp.of bA0).trans hk3)
    have HC := hide hcN
    have HT := hide (show wN.there w.heap.size 0 V.toArray.size from by rw [show V.toArray.size = 3 from by simpa using unhide hV3]; exact hth)
    have HI := hide (show (Tryz.prog.info? 85).map (·.size) = some V.toArray.size from by rw [show V.toArray.size = 3 from by simpa using unhide hV3]; exact infoNm)
    clear hk3 hkN hcN hth bE hZ bA0
    go_wp2_with (first
      | refine wpList_store_mid (by rfl) 85 _ _ (by rfl) w.heap.size 0 V.toArray (by rfl) (by rfl) (unhide HT) (unhide HI) (dt.one_cells (unhide hV1)) ?_)
    refine bodyPost_ret (rgn.result_row_tmp rfl _ _ w.heap.size 0 V _ rfl (World.rangeAt_setCells_same _ _ _ _ (by have := unhide HT; simpa using this)) Tryz.underlying85 rfl (by have := unhide HI; simpa using this)) rfl ?_
    exact ⟨rfl, (unhide HC).out hne hnp _ _, (unhide HK).out (Nat.le_refl _) _ _⟩
  · go_wp2_with fail
    refine ((unhide ht) w1 (bA0.trans (b1.mono bA0.size))).mono ?_
    rintro e w2 ⟨rfl, b2⟩
    have bE := b1.trans (b2.mono b1.size)
    go_wp2_with fail
    refine (contains_nil t.tx w2).mono ?_
    rintro e w3 ⟨rfl, rfl⟩
    go_wp2_with fail
    refine ((unhide hn) _ (bA0.trans (bE.mono bA0.size))).mono ?_
    rintro e wN ⟨rfl, hcN, hkN⟩
    have hk3 := (Kp.of bE).trans hkN
    have hth : wN.there w.heap.size 0 3 := dt.there_cells (hZ wN hk3) (by decide)
    have HK := hide ((Kp.of bA0).trans hk3)
    have HC := hide hcN
    have HT := hide (show wN.there w.heap.size 0 V.toArray.size from by rw [show V.toArray.size = 3 from by simpa using unhide hV3]; exact hth)
    have HI := hide (show (Tryz.prog.info? 85).map (·.size) = some V.toArray.size from by rw [show V.toArray.size = 3 from by simpa using unhide hV3]; exact infoNm)
    clear hk3 hkN hcN hth bE hZ bA0
    go_wp2_with (first
      | refine wpList_store_mid (by rfl) 85 _ _ (by rfl) w.heap.size 0 V.toArray (by rfl) (by rfl) (unhide HT) (unhide HI) (dt.one_cells (unhide hV1)) ?_)
    refine bodyPost_ret (rgn.result_row_tmp rfl _ _ w.heap.size 0 V _ rfl (World.rangeAt_setCells_same _ _ _ _ (by have := unhide HT; simpa using this)) Tryz.underlying85 rfl (by have := unhide HI; simpa using this)) rfl ?_
    exact ⟨rfl, (unhide HC).out hne hnp _ _, (unhide HK).out (Nat.le_refl _) _ _⟩
end Go.Proofs.YtdmfbahnhkdamaaGreat.cu
namespace Go.Proofs.YtdmfbahnhkdamaaGreat.cu
open Go.ChangeShapes Go.WideShapes Go.ChangeAt Go.RowKit
open ints (hide unhide)
open dt (Dt Kp RowAt)
set_option linter.unusedVariables false
theorem CurAt.c2 {w : World} {B p : Nat} {c : Cu} (h : CurAt w B p c) : w.cell? ⟨B, 2, none⟩ = some (.int .i64 c.op) ∧ w.cell? ⟨B, 3, none⟩ = some (.int .i64 c.mo) ∧ w.frozen? ⟨B, 2, none⟩ = false ∧ w.cell? ⟨B, 4, none⟩ = some (.int .i64 c.kd) := by
  obtain ⟨cap, h1, h2, h3, h4⟩ := h.box
  exact ⟨(dt.cell_cells h1 2).trans rfl, (dt.cell_cells h1 3).trans rfl, dt.frozen_cells h1 2, (dt.cell_cells h1 4).trans rfl⟩
set_option maxHeartbeats 1000000 in
theorem open_ok (B p : Nat) (c : Cu) (q : ByteArray) (w : World) (h : CurAt w B p c) : Calls Tryz.prog 49 #[ptr B, .string q] w fun e w' => e = .returned (.bool (c.opB q)) ∧ CurAt w' B p (c.opn q) ∧ Kp B w w' := by
  have hi := hide (isPunct_ok B p c q w h)
  have hh := hide (fun W (bb : Below w.heap.size w W) => holds_ok B p c (c.isP q) W (h.below bb))
  have hok := hide h.ok
  have hop := h.ok.op
  have hmo := h.ok.mo
  cases hP : c.isP q
  · have hs := hide (show c.opB q = false ∧ c.opn q = c.stop 70 from ⟨by simp [Cu.opB, hP], by simp [Cu.opn, hP]⟩)
    rw [hP] at hi hh
    rw [(unhide hs).1]
    clear h hP
    unfold ptr at hi hh ⊢
    go_enter Tryz.func49, Tryz.ntmps49
    go_wp2_with fail
    refine (unhide hi).mono ?_
    rintro e w1 ⟨rfl, b1⟩
    go_wp2_with fail
    refine ((unhide hh) w1 b1).mono ?_
    rintro e w2 ⟨rfl, hc, hk⟩
    clear hi hh
    go_wp2_with fail
    go_ret
    exact ⟨rfl, by rw [(unhide hs).2]; exact hc, (Kp.of b1).trans hk⟩
  · rw [hP] at hi hh
    by_cases hd : c.op < c.mo
    · have hs := hide (show c.opB q = true ∧ c.opn q = ⟨c.ts, c.ix + 1, c.op + 1, c.mo, c.kd⟩ from ⟨by simp [Cu.opB, hP, hd], by simp [Cu.opn, hP, hd]⟩)
      have hm := isP_more h.ok hP
      have hO := hide (fun W (hc : CurAt W B p c) => hc.opn (c.op + 1) ⟨h.ok.lt, h.ok.more, by show c.op + 1 ≤ c.mo; omega, h.ok.mo⟩)
      have ht := hide (fun W (hc : CurAt W B p ⟨c.ts, c.ix, c.op + 1, c.mo, c.kd⟩) => takeIf_ok B p ⟨c.ts, c.ix, c.op + 1, c.mo, c.kd⟩ true W hc (fun _ => hm))
      rw [(unhide hs).1]
      have hge : ¬ ((c.mo : Int) ≤ (c.op : Int)) := by omega
      clear h hP hm
      unfold ptr at hi hh ht ⊢
      go_enter Tryz.func49, Tryz.ntmps49
      go_wp2_with fail
      refine (unhide hi).mono ?_
      rintro e w1 ⟨rfl, b1⟩
      go_wp2_with fail
      refine ((unhide hh) w1 b1).mono ?_
      rintro e w2 ⟨rfl, hc, hk⟩
      have hc' : CurAt w2 B p c := hc
      obtain ⟨d2, d3, f2, -⟩ := hc'.c2
      have HC := hide hc'
      have HK := hide ((Kp.of b1).trans hk)
      clear hi hh hc hc' hk b1
      go_wp2_with fail
      go_region
      go_wp2_with fail
      have HC2 := (unhide hO) _ ((unhide HC).below (Go.below_drewN (Below.refl _ _) 1))
      have hop1 : (((c.op + 1 : Nat) : Int)) = (c.op : Int) + 1 := by omega
      rw [hop1] at HC2
      refine ((unhide ht) _ HC2).mono ?_
      rintro e w3 ⟨rfl, hc3, hk3⟩
      have HK3 := hide (((unhide HK).trans (Kp.of (Go.below_drewN (Below.refl _ _) 1))).trans (((Kp.refl B _).set 2 (.int .i64 ((c.op : Int) + 1))).trans hk3))
      have HC3 := hide hc3
      clear ht HC2 hk3 hc3 HC HK d2 d3 f2 hop1
      go_wp2_with fail
      go_ret
      exact ⟨rfl, by rw [(unhide hs).2]; exact unhide HC3, unhide HK3⟩
    · have hs := hide (show c.opB q = false ∧ c.opn q = c.stop 71 from ⟨by simp [Cu.opB, hP, hd], by simp [Cu.opn, hP, hd]⟩)
      have ht := hide (fun W (hc : CurAt W B p c) => refuse_ok B p c 71 W hc)
      rw [(unhide hs).1]
      have hge : ((c.mo : Int) ≤ (c.op : Int)) := by omega
      clear h hP
      unfold ptr at hi hh ht ⊢
      go_enter Tryz.func49, Tryz.ntmps49
      go_wp2_with fail
      refine (unhide hi).mono ?_
      rintro e w1 ⟨rfl, b1⟩
      go_wp2_with fail
      refine ((unhide hh) w1 b1).mono ?_
      rintro e w2 ⟨rfl, hc, hk⟩
      have hc' : CurAt w2 B p c := hc
      obtain ⟨d2, d3, f2, -⟩ := hc'.c2
      have HC := hide hc'
      have HK := hide ((Kp.of b1).trans hk)
      clear hi hh hc hc' hk b1
      go_wp2_with fail
      go_region
      go_wp2_with fail
      refine ((unhide ht) _ ((unhide HC).below (Go.below_drewN (Below.refl _ _) 1))).mono ?_
      rintro e w3 ⟨rfl, hc3, hk3⟩
      have HK3 := hide (((unhide HK).trans (Kp.of (Go.below_drewN (Below.refl _ _) 1))).trans hk3)
      have HC3 := hide hc3
      clear ht hk3 hc3 HC HK d2 d3 f2
      go_wp2_with fail
      go_ret
      exact ⟨rfl, by rw [(unhide hs).2]; exact unhide HC3, unhide HK3⟩
set_option maxHeartbeats 1000000 in
theorem close_ok (B p : Nat) (c : Cu) (q : ByteArray) (w : World) (h : CurAt w B p c) : Calls Tryz.prog 50 #[ptr B, .string q] w fun e w' => e = .returned (.bool (c.isP q)) ∧ CurAt w' B p (c.cls q) ∧ Kp B w w' := by
  have hi := hide (want_ok B p c q w h)
  have hop := h.ok.op
  have hmo := h.ok.mo
  cases hP : c.isP q
  · have hs := hide (show c.cls q = c.want q from by simp [Cu.cls, Cu.want, hP])
    rw [hP] at hi
    clear h hP
    unfold ptr at hi ⊢
    go_enter Tryz.func50, Tryz.ntmps50
    go_wp2_with fail
    refine (unhide hi).mono ?_
    rintro e w1 ⟨rfl, hc, hk⟩
    clear hi
    go_wp2_with fail
    go_ret
    exact ⟨rfl, by rw [unhide hs]; exact hc, hk⟩
  · have hm := isP_more h.ok hP
    have hs := hide (show c.cls q = ⟨c.ts, c.ix + 1, c.op - 1, c.mo, c.kd⟩ ∧ c.want q = ⟨c.ts, c.ix + 1, c.op, c.mo, c.kd⟩ from ⟨by simp [Cu.cls, hP], by simp [Cu.want, hP, Cu.take]⟩)
    have hO := hide (fun W (hc : CurAt W B p ⟨c.ts, c.ix + 1, c.op, c.mo, c.kd⟩) => hc.opn (c.op - 1) ⟨hm, h.ok.more, by show c.op - 1 ≤ c.mo; omega, h.ok.mo⟩)
    rw [hP, (unhide hs).2] at hi
    rw [(unhide hs).1]
    obtain ⟨O, hO'⟩ : ∃ O, O = c.op := ⟨_, rfl⟩
    rw [← hO'] at hi hO hop
    clear h hP hm
    unfold ptr at hi ⊢
    go_enter Tryz.func50, Tryz.ntmps50
    go_wp2_with fail
    refine (unhide hi).mono ?_
    rintro e w1 ⟨rfl, hc, hk⟩
    obtain ⟨d2, -, f2, -⟩ := hc.c2
    have d2' : w1.cell? ⟨B, 2, none⟩ = some (.int .i64 (O : Int)) := d2
    have HC := hide hc
    have HK := hide hk
    have HO := hide hO'
    clear hi hc hk d2 hO'
    go_wp2_with fail
    go_ret
    have e : max 0 ((O : Int) - 1) = ((O - 1 : Nat) : Int) := by omega
    rw [e, ← unhide HO]
    exact ⟨rfl, (unhide hO) _ (unhide HC), (unhide HK).set 2 _⟩
set_option maxRecDepth 4000 in
theorem end_ok (B p : Nat) (c : Cu) (w : World) (h : CurAt w B p c) : Calls Tryz.prog 9 #[ptr B] w fun e w' => e = .returned (.bool c.finB) ∧ CurAt w' B p c.fin ∧ Kp B w w' := by
  have hd := hide (fun W (bb : Below w.heap.size w W) => dead_ok B p c W (h.below bb))
  have ht := hide (fun W (bb : Below w.heap.size w W) => token_ok B p c W (h.below bb))
  have hh := hide (fun W (bb : Below w.heap.size w W) => holds_ok B p c c.finB W (h.below bb))
  have hs := hide (show c.fin = if c.finB then c else c.stop 70 from rfl)
  have hP := hide (show c.finB = decide (c.kd = 0 ∧ c.tok.k = 0) from rfl)
  have hf := fld_kind c.tok
  obtain ⟨C, hC⟩ : ∃ C, C = c.fin := ⟨_, rfl⟩
  rw [← hC] at hs ⊢
  rw [← unhide hs] at hh
  obtain ⟨R, hR⟩ : ∃ R, R = c.finB := ⟨_, rfl⟩
  rw [← hR] at hP hh ⊢
  obtain ⟨kd, hk⟩ : ∃ kd, kd = c.kd := ⟨_, rfl⟩
  obtain ⟨t, hk3⟩ : ∃ t, t = c.tok := ⟨_, rfl⟩
  rw [← hk] at hd
  rw [← hk3] at ht hf
  rw [← hk3, ← hk] at hP
  clear h hk hk3 hR hs hC
  unfold ptr at hd ht hh ⊢
  unfold Tk.cells at ht
  go_enter Tryz.func9, Tryz.ntmps9
  go_wp2_with fail
  refine ((unhide hd) w (Below.refl _ _)).mono ?_
  rintro e w1 ⟨rfl, rfl⟩
  by_cases hk : kd = 0
  · subst hk
    go_wp2_with fail
    refine ((unhide ht) _ (Below.refl _ _)).mono ?_
    rintro e w2 ⟨rfl, b2⟩
    by_cases h3 : t.k = 0
    · have e3 : (t.k == 0) = true := by simpa using h3
      obtain rfl : R = true := by rw [unhide hP]; simp [h3]
      clear h3
      go_wp2_with fail
      refine ((unhide hh) _ b2).mono ?_
      rintro e w3 ⟨rfl, hc3, hk3⟩
      clear hd ht hh
      go_wp2_with fail
      go_ret
      exact ⟨rfl, hc3, (Kp.of b2).trans hk3⟩
    · have e3 : (t.k == 0) = false := by simpa using h3
      obtain rfl : R = false := by rw [unhide hP]; simp [h3]
      clear h3
      go_wp2_with fail
      refine ((unhide hh) _ b2).mono ?_
      rintro e w3 ⟨rfl, hc3, hk3⟩
      clear hd ht hh
      go_wp2_with fail
      go_ret
      exact ⟨rfl, hc3, (Kp.of b2).trans hk3⟩
  · have ek : (kd != 0) = true := by simpa using hk
    obtain rfl : R = false := by rw [unhide hP]; simp [hk]
    clear hk
    go_wp2_with fail
    refine ((unhide hh) _ (Below.refl _ _)).mono ?_
    rintro e w3 ⟨rfl, hc3, hk3⟩
    clear hd ht hh
    go_wp2_with fail
    go_ret
    exact ⟨rfl, hc3, hk3⟩
end Go.Proofs.YtdmfbahnhkdamaaGreat.cu
namespace Go.Proofs.YtdmfbahnhkdamaaGreat.cu
open Go.ChangeShapes Go.WideShapes Go.ChangeAt Go.RowKit
open ints (hide unhide)
open dt (Dt Kp RowAt)
set_option linter.unusedVariables false
set_option linter.unusedSimpArgs false
theorem mixed : Tryz.prog.follows .mixedOrders = true := by kernel_rfl
theorem buildP (x y : Int) (w : World) : (Instr.buildSlice 34 1 #[(0, .agg #[.int .i64 x, .int .i64 y])]).run Tryz.prog w = .ok (.slice (some ⟨w.heap.size, 0, none⟩) 1 1) (w.alloc (.cells #[.int .i64 x, .int .i64 y] 30)) := by go_simp
/-- a cursor's fault in memory -/
def FltAt (lo : Nat) (w : World) (c : Cu) (fs : List Value) : Prop :=
  if c.kd = 0 then fs = [.int .i64 0, .slice none 0 0, .slice none 0 0] else ∃ b, lo ≤ b ∧ b < w.heap.size ∧ fs = [.int .i64 c.kd, .slice (some ⟨b, 0, none⟩) 1 1, .slice none 0 0] ∧ w.cell? ⟨b, 0, none⟩ = some (.int .i64 c.tok.ln) ∧ w.cell? ⟨b, 1, none⟩ = some (.int .i64 c.tok.co)
theorem infoFl : (Tryz.prog.info? 37).map (·.size) = some 3 := by kernel_rfl
set_option maxRecDepth 4000 in
set_option maxHeartbeats 1000000 in
theorem told_ok (B p : Nat) (c : Cu) (w : World) (h : CurAt w B p c) : Calls Tryz.prog 12 #[ptr B] w fun e w' => ∃ fs, e = .returned (.agg fs.toArray) ∧ FltAt w.heap.size w' c fs ∧ Below w.heap.size w w' := by
  have hb := hide (fun W (bb : Below w.heap.size w W) => blank_ok B p c W (h.below bb))
  have ht := hide (fun W (bb : Below w.heap.size w W) => token_ok B p c W (h.below bb))
  have hlt := h.lt
  have h4 := h.c2.2.2.2
  have bA := hide (fun o => show Below w.heap.size w (w.alloc o) from (Below.refl _ _).alloc (Nat.le_refl _) _)
  have D4 : ∀ o, (w.alloc o).cell? ⟨B, 4, none⟩ = some (.int .i64 c.kd) := fun o => (((unhide bA) o).cell (p := ⟨B, 4, none⟩) hlt).trans h4
  have hf := fld_pos c.tok
  obtain ⟨kd, hk⟩ : ∃ kd, kd = c.kd := ⟨_, rfl⟩
  obtain ⟨t, hk3⟩ : ∃ t, t = c.tok := ⟨_, rfl⟩
  rw [← hk] at D4
  rw [← hk3] at ht hf
  have HK := hide hk.symm
  have HT := hide hk3.symm
  clear h hk hk3 h4
  unfold ptr at hb ht ⊢
  unfold Tk.cells at ht
  by_cases hz : kd = 0
  · subst hz
    go_enter Tryz.func12, Tryz.ntmps12
    go_wp2_with fail
    refine ((unhide hb) _ ((unhide bA) _)).mono ?_
    rintro e w1 ⟨rfl, rfl⟩
    clear ht
    go_wp2_with fail
    refine bodyPost_ret (rgn.result_row rfl _ _ w.heap.size 0 [.int .i64 0, .slice none 0 0, .slice none 0 0] _ rfl (dt.range_cells (heap_alloc_new w _) 0 _ (fun j u hu => by rw [Nat.zero_add]; simpa using hu)) Tryz.underlying37 rfl infoFl) rfl ?_
    exact ⟨_, rfl, by unfold FltAt; rw [if_pos (unhide HK)], (unhide bA) _⟩
  · have ez : (kd == 0) = false := by simpa using hz
    have HZ := hide hz
    clear hz
    go_enter Tryz.func12, Tryz.ntmps12
    go_wp2_with fail
    refine ((unhide hb) _ ((unhide bA) _)).mono ?_
    rintro e w1 ⟨rfl, rfl⟩
    go_wp2_with fail
    have hR0 := hide (heap_alloc_new w (.cells #[Value.int .i64 0, .slice none 0 0, .slice none 0 0] 37))
    have bW0 := (unhide bA) (.cells #[Value.int .i64 0, .slice none 0 0, .slice none 0 0] 37)
    have c4 := D4 (.cells #[Value.int .i64 0, .slice none 0 0, .slice none 0 0] 37)
    have hz0 : w.heap.size < (w.alloc (.cells #[Value.int .i64 0, .slice none 0 0, .slice none 0 0] 37)).heap.size := by simp
    obtain ⟨W0, hW0⟩ : ∃ W0, W0 = w.alloc (.cells #[Value.int .i64 0, .slice none 0 0, .slice none 0 0] 37) := ⟨_, rfl⟩
    rw [← hW0] at hR0 bW0 c4 hz0 ⊢
    clear hW0 bA hb D4
    have hS0 : Below w.heap.size W0 { W0 with drawn := W0.drawn + 1 } := (Below.refl _ _).drew
    have bD := bW0.trans hS0
    refine wp_region_noPanic ?_
    refine wp_region_held (S := fun w' => Below w.heap.size W0 w') mixed ?_
    refine wpAnyH_take (i := 0) (v := ?v1) rfl (by kernel_rfl) (by kernel_rfl) (by kernel_rfl) (fun _ _ _ h => h) (Or.inl ⟨by rfl, ?hy1⟩) hS0 ?_
    case hy1 => (intro w' hw'; have c4' := (hw'.cell (p := ⟨B, 4, none⟩) hlt).trans c4; go_simp; try with_reducible rfl)
    simp only [List.getElem_toArray, List.getElem_cons_zero, List.getElem_cons_succ, Act.put, List.setIfInBounds_toArray, List.set_cons_zero, List.set_cons_succ]
    refine wpAnyH_take (i := 1) (v := ?v2) rfl (by kernel_rfl) (by kernel_rfl) (by kernel_rfl) (fun _ _ _ h => h) (Or.inl ⟨by rfl, ?hy2⟩) hS0 ?_
    case hy2 => (intro w' hw'; have c4' := (hw'.cell (p := ⟨B, 4, none⟩) hlt).trans c4; go_simp; try with_reducible rfl)
    simp only [List.getElem_toArray, List.getElem_cons_zero, List.getElem_cons_succ, Act.put, List.setIfInBounds_toArray, List.set_cons_zero, List.set_cons_succ]
    refine wpAnyH_take (i := 2) (v := ?v3) rfl (by kernel_rfl) (by kernel_rfl) (by kernel_rfl) (fun _ _ _ h => h) (Or.inl ⟨by rfl, ?hy3⟩) hS0 ?_
    case hy3 => (intro w' hw'; have c4' := (hw'.cell (p := ⟨B, 4, none⟩) hlt).trans c4; go_simp; try with_reducible rfl)
    simp only [List.getElem_toArray, List.getElem_cons_zero, List.getElem_cons_succ, Act.put, List.setIfInBounds_toArray, List.set_cons_zero, List.set_cons_succ]
    refine wpAnyH_take (i := 3) (v := ?v4) rfl (by kernel_rfl) (by kernel_rfl) (by kernel_rfl) (fun _ _ _ h => h) (Or.inl ⟨by rfl, ?hy4⟩) hS0 ?_
    case hy4 => (intro w' hw'; have c4' := (hw'.cell (p := ⟨B, 4, none⟩) hlt).trans c4; go_simp; try with_reducible rfl)
    simp only [List.getElem_toArray, List.getElem_cons_zero, List.getElem_cons_succ, Act.put, List.setIfInBounds_toArray, List.set_cons_zero, List.set_cons_succ]
    refine wpAnyH_take (i := 4) (v := ?v5) rfl (by kernel_rfl) (by kernel_rfl) (by kernel_rfl) (fun _ _ _ h => h) (Or.inl ⟨by rfl, ?hy5⟩) hS0 ?_
    case hy5 => (intro w' hw'; have c4' := (hw'.cell (p := ⟨B, 4, none⟩) hlt).trans c4; go_simp; try with_reducible rfl)
    simp only [List.getElem_toArray, List.getElem_cons_zero, List.getElem_cons_succ, Act.put, List.setIfInBounds_toArray, List.set_cons_zero, List.set_cons_succ]
    refine rgn.one (i := 5) _ rfl (by kernel_rfl) (by rfl) ?_
    simp only [List.getElem_toArray, List.getElem_cons_zero, List.getElem_cons_succ, Act.put, List.setIfInBounds_toArray, List.set_cons_zero, List.set_cons_succ]
    go_wp2_with fail
    refine ((unhide ht) _ bD).mono ?_
    rintro e w2 ⟨rfl, b2⟩
    have b02 : Below W0.heap.size W0 w2 := (Below.refl W0.heap.size W0).drew.trans b2
    have hS2 : Below w.heap.size W0 w2 := b02.mono (Nat.le_of_lt hz0)
    refine ⟨hS2, ?_⟩
    clear hS0 b2 bD
    have hS0 := hS2
    try simp only [List.getElem_toArray, List.getElem_cons_zero, List.getElem_cons_succ, Act.put, List.setIfInBounds_toArray, List.set_cons_zero, List.set_cons_succ]
    refine rgn.take (i := 6) _ (.agg #[.int .i64 t.ln, .int .i64 t.co]) rfl (by kernel_rfl) (by kernel_rfl) (by kernel_rfl) (fun _ _ _ h => h) (by rfl) hS0 (fun w' hw' => by go_simp) ?_
    simp only [List.getElem_toArray, List.getElem_cons_zero, List.getElem_cons_succ, Act.put, List.setIfInBounds_toArray, List.set_cons_zero, List.set_cons_succ]
    refine rgn.one (i := 7) _ rfl (by kernel_rfl) (by rfl) ?_
    simp only [List.getElem_toArray, List.getElem_cons_zero, List.getElem_cons_succ, Act.put, List.setIfInBounds_toArray, List.set_cons_zero, List.set_cons_succ]
    refine dt.wpO_buildOne 34 _ (by rfl) (.agg #[.int .i64 t.ln, .int .i64 t.co]) _ (by rfl) (buildP t.ln t.co w2) ?_
    have hS3 : Below w.heap.size W0 (w2.alloc (.cells #[.int .i64 t.ln, .int .i64 t.co] 30)) := hS2.alloc (Nat.le_trans (Nat.le_of_lt hz0) b02.size) _
    refine ⟨hS3, ?_⟩
    clear hS0
    have hS0 := hS3
    try simp only [List.getElem_toArray, List.getElem_cons_zero, List.getElem_cons_succ, Act.put, List.setIfInBounds_toArray, List.set_cons_zero, List.set_cons_succ]
    refine rgn.take (i := 8) _ (.agg #[.int .i64 kd, .slice (some ⟨w2.heap.size, 0, none⟩) 1 1, .slice none 0 0]) rfl (by kernel_rfl) (by kernel_rfl) (by kernel_rfl) (fun _ _ _ h => h) (by rfl) hS0 (fun w' hw' => by go_simp) ?_
    simp only [List.getElem_toArray, List.getElem_cons_zero, List.getElem_cons_succ, Act.put, List.setIfInBounds_toArray, List.set_cons_zero, List.set_cons_succ]
    have hR2 := (Below.heap_alloc w2 (.cells #[.int .i64 t.ln, .int .i64 t.co] 30) w.heap.size (Nat.lt_of_lt_of_le hz0 b02.size)).trans ((b02.block w.heap.size hz0).trans (unhide hR0))
    have hth := dt.there_cells hR2 (o := 0) (n := 3) (by decide)
    refine rgn.one (i := 9) _ rfl (by kernel_rfl) (by rfl) ?_
    simp only [List.getElem_toArray, List.getElem_cons_zero, List.getElem_cons_succ, Act.put, List.setIfInBounds_toArray, List.set_cons_zero, List.set_cons_succ]
    refine wp_store_mid 37 _ _ (by rfl) w.heap.size 0 #[.int .i64 kd, .slice (some ⟨w2.heap.size, 0, none⟩) 1 1, .slice none 0 0] (by rfl) (by rfl) hth infoFl (dt.one_cells (cs := [.int .i64 kd, .slice (some ⟨w2.heap.size, 0, none⟩) 1 1, .slice none 0 0]) (by rfl)) ?_
    refine ⟨dt.below_setCells _ _ _ _ hS3 (Nat.le_refl _), ?_⟩
    try simp only [List.getElem_toArray, List.getElem_cons_zero, List.getElem_cons_succ, Act.put, List.setIfInBounds_toArray, List.set_cons_zero, List.set_cons_succ]
    refine wpAnyH_done (by kernel_rfl) ?_ _; refine NoPanic.normal ?_
    have hb2 : w2.heap.size ≠ w.heap.size := by have := b02.size; omega
    have hn := heap_alloc_new w2 (.cells #[.int .i64 t.ln, .int .i64 t.co] 30)
    have hX := (dt.heap_setCells w.heap.size w2.heap.size hb2 [.int .i64 kd, .slice (some ⟨w2.heap.size, 0, none⟩) 1 1, .slice none 0 0] 0 _).trans hn
    have hrg := World.rangeAt_setCells_same (w2.alloc (.cells #[.int .i64 t.ln, .int .i64 t.co] 30)) w.heap.size 0 [.int .i64 kd, .slice (some ⟨w2.heap.size, 0, none⟩) 1 1, .slice none 0 0] hth
    have hbX : Below w.heap.size W0 ((w2.alloc (.cells #[.int .i64 t.ln, .int .i64 t.co] 30)).setCells w.heap.size 0 [.int .i64 kd, .slice (some ⟨w2.heap.size, 0, none⟩) 1 1, .slice none 0 0]) := dt.below_setCells _ _ _ _ hS3 (Nat.le_refl _)
    have hXs : w2.heap.size < ((w2.alloc (.cells #[.int .i64 t.ln, .int .i64 t.co] 30)).setCells w.heap.size 0 [.int .i64 kd, .slice (some ⟨w2.heap.size, 0, none⟩) 1 1, .slice none 0 0]).heap.size := by rw [dt.size_setCells]; simp
    obtain ⟨X, eX⟩ : ∃ X, X = (w2.alloc (.cells #[.int .i64 t.ln, .int .i64 t.co] 30)).setCells w.heap.size 0 [.int .i64 kd, .slice (some ⟨w2.heap.size, 0, none⟩) 1 1, .slice none 0 0] := ⟨_, rfl⟩
    rw [← eX] at hX hrg hbX hXs ⊢
    clear eX hn hR2 hth hS3 hS2 hS0
    go_wp2
    refine bodyPost_ret (rgn.result_row rfl _ _ w.heap.size 0 [.int .i64 kd, .slice (some ⟨w2.heap.size, 0, none⟩) 1 1, .slice none 0 0] _ rfl hrg Tryz.underlying37 rfl infoFl) rfl ?_
    refine ⟨_, rfl, ?_, bW0.trans hbX⟩
    unfold FltAt
    rw [unhide HK, unhide HT, if_neg (unhide HZ)]
    exact ⟨w2.heap.size, by have := b02.size; omega, hXs, rfl, (dt.cell_cells hX 0).trans rfl, (dt.cell_cells hX 1).trans rfl⟩
end Go.Proofs.YtdmfbahnhkdamaaGreat.cu
namespace Go.Proofs.YtdmfbahnhkdamaaGreat.cu
open Go.ChangeShapes Go.WideShapes Go.ChangeAt Go.RowKit
open ints (hide unhide)
open dt (Dt Kp RowAt)
set_option linter.unusedVariables false
set_option linter.unusedSimpArgs false
theorem infoTr : (Tryz.prog.info? 54).map (·.size) = some 2 := by kernel_rfl
/-- a reference's cells -/
def trC (r : Option (ByteArray × ByteArray)) : List Value := [.string (r.map (·.1) |>.getD em), .string (r.map (·.2) |>.getD em)]
def TypAt (T : Cu → Option (ByteArray × ByteArray) × Cu) (f : Nat) (c : Cu) : Prop := ∀ (B p : Nat) (w : World), CurAt w B p c → Calls Tryz.prog f #[ptr B] w fun e w' => e = .returned (.tuple #[.agg (trC (T c).1).toArray, .bool (T c).1.isSome]) ∧ CurAt w' B p (T c).2 ∧ Kp B w w'
theorem nmT_form (c : Cu) : c.nmT = [.string (if c.isN then c.tok.tx else em), .int .i64 (if c.isN then c.tok.ln else 0), .int .i64 (if c.isN then c.tok.co else 0)] := by
  unfold Cu.nmT
  split <;> simp [*]
theorem unm_no {f : Nat} {c : Cu} (hP : c.isP bLb = false) : trC (unm (typF f) c).1 = [.string (if c.isN then c.tok.tx else em), .string em] ∧ (unm (typF f) c).1.isSome = c.isN ∧ (unm (typF f) c).2 = c.name := by
  unfold unm
  rw [if_neg (by rw [hP]; simp)]
  cases h : c.isN <;> simp [trC]
set_option maxRecDepth 4000 in
set_option maxHeartbeats 1000000 in
theorem unm_ok (f : Nat) (c : Cu) (hc : c.Ok) (hlen : c.ts.length ≤ 1099511627777) (ih : ∀ c' : Cu, c'.Ok → c'.ts = c.ts → c'.ix = c.ix + 1 → TypAt (typF f) 19 c') : TypAt (unm (typF f)) 33 c := by
  intro B p w h
  have hi := hide (fun W (bb : Below w.heap.size w W) => isPunct_ok B p c bLb W (h.below bb))
  have hlt := h.lt
  have hplt := h.plt
  have hne : B ≠ w.heap.size := by omega
  have hnp : p ≠ w.heap.size := by omega
  have bA := hide (fun o => show Below w.heap.size w (w.alloc o) from (Below.refl _ _).alloc (Nat.le_refl _) _)
  have hZ := hide (fun o W (hk : Kp B (w.alloc o) W) => show W.heap[w.heap.size]? = some o from (hk.block w.heap.size (by simp) (by omega)).trans (heap_alloc_new w o))
  cases hP : c.isP bLb
  · have hn := hide (fun W (bb : Below w.heap.size w W) => nameAny_ok B p c W (h.below bb))
    clear h
    unfold ptr at hi hn ⊢
    rw [hP] at hi
    obtain ⟨s1, s2, s3⟩ := unm_no (f := f) hP
    rw [nmT_form] at hn
    rw [s1, s2, s3]
    clear s1 s2 s3 ih hP
    obtain ⟨A, hA⟩ : ∃ A, A = if c.isN then c.tok.tx else em := ⟨_, rfl⟩
    obtain ⟨X, hX⟩ : ∃ X, X = if c.isN then c.tok.ln else 0 := ⟨_, rfl⟩
    obtain ⟨Y, hY⟩ : ∃ Y, Y = if c.isN then c.tok.co else 0 := ⟨_, rfl⟩
    rw [← hA, ← hX, ← hY] at hn
    rw [← hA]
    clear hA hX hY
    obtain ⟨R, hR⟩ : ∃ R, R = c.isN := ⟨_, rfl⟩
    rw [← hR] at hn ⊢
    clear hR
    go_enter Tryz.func33, Tryz.ntmps33
    go_wp2_with fail
    refine ((unhide hi) _ ((unhide bA) _)).mono ?_
    rintro e w1 ⟨rfl, b1⟩
    go_wp2_with fail
    refine ((unhide hn) _ (((unhide bA) _).trans (b1.mono ((unhide bA) _).size))).mono ?_
    rintro e w2 ⟨rfl, hc2, hk2⟩
    have hk3 := (Kp.of b1).trans hk2
    have hR2 := (unhide hZ) _ w2 hk3
    have hz2 : w.heap.size < w2.heap.size := by have := hk3.size; simp at this; omega
    have HK := hide ((Kp.of ((unhide bA) _)).trans hk3)
    have HC := hide hc2
    have HT := hide (fun o => dt.there_cells ((Below.heap_alloc w2 o w.heap.size hz2).trans hR2) (o := 0) (n := 2) (by decide))
    clear hk3 hR2 hk2 hc2 hn hi hZ bA
    go_wp2_with (first
      | refine wpList_store_mid (by rfl) 54 _ _ (by rfl) w.heap.size 0 #[.string A, .string ⟨#[]⟩] (by rfl) (by rfl) ((unhide HT) _) infoTr (dt.one_cells (cs := [.string A, .string ⟨#[]⟩]) (by rfl)) ?_)
    refine bodyPost_ret (rgn.result_row_tmp rfl _ _ w.heap.size 0 [.string A, .string ⟨#[]⟩] _ rfl (World.rangeAt_setCells_same _ _ _ _ ((unhide HT) _)) Tryz.underlying54 rfl infoTr) rfl ?_
    exact ⟨rfl, ((unhide HC).below ((Below.refl _ _).alloc (Nat.le_refl _) _)).out hne hnp _ _, ((unhide HK).trans (Kp.of ((Below.refl _ _).alloc (Nat.le_refl _) _))).out (Nat.le_refl _) _ _⟩
  · have ho := hide (fun W (bb : Below w.heap.size w W) => open_ok B p c bLb W (h.below bb))
    rw [hP] at hi
    have hok := opn_stp hc bLb
    cases hO : c.opB bLb
    · rw [hO] at ho
      have hs := hide (show (unm (typF f) c) = (none, c.opn bLb) from by unfold unm; rw [if_pos hP, if_neg (by rw [hO]; simp)])
      rw [unhide hs]
      clear h hP hO ih hok
      unfold ptr at hi ho ⊢
      go_enter Tryz.func33, Tryz.ntmps33
      go_wp2_with fail
      refine ((unhide hi) _ ((unhide bA) _)).mono ?_
      rintro e w1 ⟨rfl, b1⟩
      go_wp2_with fail
      refine ((unhide ho) _ (((unhide bA) _).trans (b1.mono ((unhide bA) _).size))).mono ?_
      rintro e w2 ⟨rfl, hc2, hk2⟩
      have hk3 := (Kp.of b1).trans hk2
      have hR2 := (unhide hZ) _ w2 hk3
      have HK := hide ((Kp.of ((unhide bA) _)).trans hk3)
      have HC := hide hc2
      have HT := hide (dt.there_cells hR2 (o := 0) (n := 2) (by decide))
      clear hk3 hR2 hk2 hc2 ho hi hZ bA
      go_wp2_with (first
        | refine wpList_store_mid (by rfl) 54 _ _ (by rfl) w.heap.size 0 #[.string ⟨#[]⟩, .string ⟨#[]⟩] (by rfl) (by rfl) (unhide HT) infoTr (dt.one_cells (cs := [.string ⟨#[]⟩, .string ⟨#[]⟩]) (by rfl)) ?_)
      refine bodyPost_ret (rgn.result_row_tmp rfl _ _ w.heap.size 0 [.string ⟨#[]⟩, .string ⟨#[]⟩] _ rfl (World.rangeAt_setCells_same _ _ _ _ (unhide HT)) Tryz.underlying54 rfl infoTr) rfl ?_
      exact ⟨rfl, (unhide HC).out hne hnp _ _, (unhide HK).out (Nat.le_refl _) _ _⟩
    · rw [hO] at ho
      have hT := hide (ih (c.opn bLb) hok.ok hok.ts (opn_ix hO) B p)
      have htg := typF_goes f (c.opn bLb) hok.ok
      have hcl := hide (fun W (hc : CurAt W B p (typF f (c.opn bLb)).2) => close_ok B p (typF f (c.opn bLb)).2 bRb W hc)
      obtain ⟨U, hU⟩ : ∃ U, U = typF f (c.opn bLb) := ⟨_, rfl⟩
      have hs0 := hide (show U.1 = none → unm (typF f) c = (none, U.2) from fun e => by unfold unm; rw [if_pos hP, if_pos (by rw [hO]), ← hU, e])
      have hs1 := hide (show ∀ it, U.1 = some it → unm (typF f) c = if U.2.isP bRb then (some (it.1, it.2 ++ bRb), U.2.cls bRb) else (none, U.2.cls bRb) from fun it e => by unfold unm; rw [if_pos hP, if_pos (by rw [hO]), ← hU, e])
      rw [← hU] at hT htg hcl
      clear h hP hO ih hU
      obtain ⟨r, C⟩ := U
      have hixC := htg.1.ok.lt
      rw [htg.1.ts, hok.ts] at hixC
      unfold ptr at hi ho hT hcl ⊢
      go_enter Tryz.func33, Tryz.ntmps33
      go_wp2_with fail
      refine ((unhide hi) _ ((unhide bA) _)).mono ?_
      rintro e w1 ⟨rfl, b1⟩
      go_wp2_with fail
      refine ((unhide ho) _ (((unhide bA) _).trans (b1.mono ((unhide bA) _).size))).mono ?_
      rintro e w2 ⟨rfl, hc2, hk2⟩
      have hk3 := (Kp.of b1).trans hk2
      go_wp2_with fail
      refine ((unhide hT) _ hc2).mono ?_
      rintro e w4 ⟨rfl, hc4, hk4⟩
      have hk5 := hk3.trans hk4
      have hR4 := (unhide hZ) _ w4 hk5
      have hz4 : w.heap.size < w4.heap.size := by have := hk5.size; simp at this; omega
      have HK := hide ((Kp.of ((unhide bA) _)).trans hk5)
      have HC := hide hc4
      have HR := hide hR4
      clear hk3 hk2 hc2 hk4 hk5 hc4 hR4 ho hi hT hZ bA b1
      have HT := hide (fun o => dt.there_cells ((Below.heap_alloc w4 o w.heap.size hz4).trans (unhide HR)) (o := 0) (n := 2) (by decide))
      cases r with
      | none =>
        have hs2 := hide ((unhide hs0) rfl)
        unfold trC
        clear hs0 hs1 hcl
        go_wp2_with (first
          | refine wpList_store_mid (by rfl) 54 _ _ (by rfl) w.heap.size 0 #[.string ⟨#[]⟩, .string ⟨#[]⟩] (by rfl) (by rfl) ((unhide HT) _) infoTr (dt.one_cells (cs := [.string ⟨#[]⟩, .string ⟨#[]⟩]) (by rfl)) ?_)
        refine bodyPost_ret (rgn.result_row_tmp rfl _ _ w.heap.size 0 [.string ⟨#[]⟩, .string ⟨#[]⟩] _ rfl (World.rangeAt_setCells_same _ _ _ _ ((unhide HT) _)) Tryz.underlying54 rfl infoTr) rfl ?_
        rw [unhide hs2]
        exact ⟨rfl, ((unhide HC).below ((Below.refl _ _).alloc (Nat.le_refl _) _)).out hne hnp _ _, ((unhide HK).trans (Kp.of ((Below.refl _ _).alloc (Nat.le_refl _) _))).out (Nat.le_refl _) _ _⟩
      | some it =>
        have hitz : it.2.size ≤ 1099511627777 := by have := htg.2 it rfl; omega
        have hs2 := hide ((unhide hs1) it rfl)
        clear hs0 hs1 htg
        obtain ⟨nm, wp⟩ := it
        cases hQ : C.isP bRb
        · rw [hQ] at hcl hs2
          unfold trC
          go_wp2_with fail
          refine ((unhide hcl) _ ((unhide HC).below ((Below.refl _ _).alloc (Nat.le_refl _) _))).mono ?_
          rintro e w5 ⟨rfl, hc5, hk5⟩
          have hR5 := (hk5.block w.heap.size (by simp; omega) (by omega)).trans ((Below.heap_alloc w4 _ w.heap.size hz4).trans (unhide HR))
          have HT5 := hide (dt.there_cells hR5 (o := 0) (n := 2) (by decide))
          have HC5 := hide hc5
          have HK5 := hide ((unhide HK).trans ((Kp.of ((Below.refl _ _).alloc (Nat.le_refl _) _)).trans hk5))
          clear hcl hk5 hc5 hR5 HC HK HT HR
          go_wp2_with (first
            | refine wpList_store_mid (by rfl) 54 _ _ (by rfl) w.heap.size 0 #[.string ⟨#[]⟩, .string ⟨#[]⟩] (by rfl) (by rfl) (unhide HT5) infoTr (dt.one_cells (cs := [.string ⟨#[]⟩, .string ⟨#[]⟩]) (by rfl)) ?_)
          refine bodyPost_ret (rgn.result_row_tmp rfl _ _ w.heap.size 0 [.string ⟨#[]⟩, .string ⟨#[]⟩] _ rfl (World.rangeAt_setCells_same _ _ _ _ (unhide HT5)) Tryz.underlying54 rfl infoTr) rfl ?_
          rw [unhide hs2]
          exact ⟨rfl, (unhide HC5).out hne hnp _ _, (unhide HK5).out (Nat.le_refl _) _ _⟩
        · rw [hQ] at hcl hs2
          unfold trC
          go_wp2_with fail
          refine ((unhide hcl) _ ((unhide HC).below ((Below.refl _ _).alloc (Nat.le_refl _) _))).mono ?_
          rintro e w5 ⟨rfl, hc5, hk5⟩
          have hR5 := (hk5.block w.heap.size (by simp; omega) (by omega)).trans ((Below.heap_alloc w4 _ w.heap.size hz4).trans (unhide HR))
          have hI5 := (hk5.block w4.heap.size (by simp) (by omega)).trans (heap_alloc_new w4 _)
          have i0 : w5.cell? ⟨w4.heap.size, 0, none⟩ = some (.string nm) := (dt.cell_cells hI5 0).trans rfl
          have i1 : w5.cell? ⟨w4.heap.size, 1, none⟩ = some (.string wp) := (dt.cell_cells hI5 1).trans rfl
          have HT5 := hide (dt.there_cells hR5 (o := 0) (n := 2) (by decide))
          have HC5 := hide hc5
          have HK5 := hide ((unhide HK).trans ((Kp.of ((Below.refl _ _).alloc (Nat.le_refl _) _)).trans hk5))
          clear hcl hk5 hc5 hR5 hI5 HC HK HT HR
          go_wp2_with (first
            | refine wpList_store_mid (by rfl) 54 _ _ (by rfl) w.heap.size 0 #[.string nm, .string (wp ++ bRb)] (by rfl) (by rfl) (unhide HT5) infoTr (dt.one_cells (cs := [.string nm, .string (wp ++ bRb)]) (by rfl)) ?_)
          refine bodyPost_ret (rgn.result_row_tmp rfl _ _ w.heap.size 0 [.string nm, .string (wp ++ bRb)] _ rfl (World.rangeAt_setCells_same _ _ _ _ (unhide HT5)) Tryz.underlying54 rfl infoTr) rfl ?_
          rw [unhide hs2]
          exact ⟨rfl, (unhide HC5).out hne hnp _ _, (unhide HK5).out (Nat.le_refl _) _ _⟩
end Go.Proofs.YtdmfbahnhkdamaaGreat.cu
namespace Go.Proofs.YtdmfbahnhkdamaaGreat.cu
open Go.ChangeShapes Go.WideShapes Go.ChangeAt Go.RowKit
open ints (hide unhide)
open dt (Dt Kp RowAt)
set_option linter.unusedVariables false
set_option linter.unusedSimpArgs false
theorem unm_goes (f : Nat) (c : Cu) (h : c.Ok) : Stp c (unm (typF f) c).2 ∧ ∀ r, (unm (typF f) c).1 = some r → r.2.size < (unm (typF f) c).2.ix - c.ix + 1 := by
  unfold unm
  split
  · have ho := opn_stp h bLb
    split
    · rename_i hb
      have hi := opn_ix hb
      have h2 := typF_goes f _ ho.ok
      cases hq : (typF f (c.opn bLb)).1 with
      | none => exact ⟨ho.trans h2.1, fun r hr => by cases hr⟩
      | some it =>
        have h3 := cls_stp h2.1.ok bRb
        have h4 := h2.2 it hq
        have h5 := h2.1.ix
        have h6 := h3.ix
        dsimp only
        split
        · refine ⟨(ho.trans h2.1).trans h3, fun r hr => ?_⟩
          obtain rfl := Option.some.inj hr
          show (it.2 ++ bRb).size < _
          rw [size_app]
          show it.2.size + 1 < ((typF f (c.opn bLb)).2.cls bRb).ix - c.ix + 1
          omega
        · exact ⟨(ho.trans h2.1).trans h3, fun r hr => by cases hr⟩
    · exact ⟨ho, fun r hr => by cases hr⟩
  · have hn := name_stp h
    split
    · exact ⟨hn, fun r hr => by obtain rfl := Option.some.inj hr; show (0 : Nat) < _; omega⟩
    · exact ⟨hn, fun r hr => by cases hr⟩
set_option maxRecDepth 4000 in
set_option maxHeartbeats 1000000 in
theorem typ_ok (f : Nat) (c : Cu) (hc : c.Ok) (hlen : c.ts.length ≤ 1099511627777) (hu : TypAt (unm (typF f)) 33 c) : TypAt (typ (unm (typF f))) 19 c := by
  intro B p w h
  have hlt := h.lt
  have hplt := h.plt
  have hne : B ≠ w.heap.size := by omega
  have hnp : p ≠ w.heap.size := by omega
  have bA := hide (fun o => show Below w.heap.size w (w.alloc o) from (Below.refl _ _).alloc (Nat.le_refl _) _)
  have hZ := hide (fun o W (hk : Kp B (w.alloc o) W) => show W.heap[w.heap.size]? = some o from (hk.block w.heap.size (by simp) (by omega)).trans (heap_alloc_new w o))
  have hU := hide (fun W (bb : Below w.heap.size w W) => hu B p W (h.below bb))
  have hug := unm_goes f c hc
  have hpu := hide (fun W (hc : CurAt W B p (unm (typF f) c).2) => punct_ok B p (unm (typF f) c).2 bBang W hc)
  obtain ⟨U, eU⟩ : ∃ U, U = unm (typF f) c := ⟨_, rfl⟩
  have hs0 := hide (show U.1 = none → typ (unm (typF f)) c = (none, U.2) from fun e => by unfold typ; rw [← eU, e])
  have hs1 := hide (show ∀ r, U.1 = some r → typ (unm (typF f)) c = if U.2.isP bBang then (some (r.1, r.2 ++ bBang), U.2.punct bBang) else (some r, U.2.punct bBang) from fun r e => by unfold typ; rw [← eU, e])
  rw [← eU] at hU hpu hug
  clear h eU hu
  obtain ⟨r, C⟩ := U
  have hixC := hug.1.ok.lt
  rw [hug.1.ts] at hixC
  unfold ptr at hU hpu ⊢
  go_enter Tryz.func19, Tryz.ntmps19
  go_wp2_with fail
  refine ((unhide hU) _ ((unhide bA) _)).mono ?_
  rintro e w4 ⟨rfl, hc4, hk4⟩
  have hR4 := (unhide hZ) _ w4 hk4
  have hz4 : w.heap.size < w4.heap.size := by have := hk4.size; simp at this; omega
  have HK := hide ((Kp.of ((unhide bA) _)).trans hk4)
  have HC := hide hc4
  have HR := hide hR4
  clear hk4 hc4 hR4 hU hZ bA
  have HT := hide (fun o => dt.there_cells ((Below.heap_alloc w4 o w.heap.size hz4).trans (unhide HR)) (o := 0) (n := 2) (by decide))
  cases r with
  | none =>
    have hs2 := hide ((unhide hs0) rfl)
    unfold trC
    clear hs0 hs1 hpu
    go_wp2_with (first
      | refine wpList_store_mid (by rfl) 54 _ _ (by rfl) w.heap.size 0 #[.string em, .string em] (by rfl) (by rfl) ((unhide HT) _) infoTr (dt.one_cells (cs := [.string em, .string em]) (by rfl)) ?_)
    refine bodyPost_ret (rgn.result_row_tmp rfl _ _ w.heap.size 0 [.string em, .string em] _ rfl (World.rangeAt_setCells_same _ _ _ _ ((unhide HT) _)) Tryz.underlying54 rfl infoTr) rfl ?_
    rw [unhide hs2]
    exact ⟨rfl, ((unhide HC).below ((Below.refl _ _).alloc (Nat.le_refl _) _)).out hne hnp _ _, ((unhide HK).trans (Kp.of ((Below.refl _ _).alloc (Nat.le_refl _) _))).out (Nat.le_refl _) _ _⟩
  | some it =>
    have hitz : it.2.size ≤ 1099511627777 := by have := hug.2 it rfl; omega
    have hs2 := hide ((unhide hs1) it rfl)
    clear hs0 hs1 hug
    obtain ⟨nm, wp⟩ := it
    cases hQ : C.isP bBang
    · rw [hQ] at hpu hs2
      unfold trC
      go_wp2_with fail
      refine ((unhide hpu) _ ((unhide HC).below ((Below.refl _ _).alloc (Nat.le_refl _) _))).mono ?_
      rintro e w5 ⟨rfl, hc5, hk5⟩
      have hR5 := (hk5.block w.heap.size (by simp; omega) (by omega)).trans ((Below.heap_alloc w4 _ w.heap.size hz4).trans (unhide HR))
      have hI5 := (hk5.block w4.heap.size (by simp) (by omega)).trans (heap_alloc_new w4 _)
      have i0 : w5.cell? ⟨w4.heap.size, 0, none⟩ = some (.string nm) := (dt.cell_cells hI5 0).trans rfl
      have i1 : w5.cell? ⟨w4.heap.size, 1, none⟩ = some (.string wp) := (dt.cell_cells hI5 1).trans rfl
      have HT5 := hide (dt.there_cells hR5 (o := 0) (n := 2) (by decide))
      have HC5 := hide hc5
      have HK5 := hide ((unhide HK).trans ((Kp.of ((Below.refl _ _).alloc (Nat.le_refl _) _)).trans hk5))
      clear hpu hk5 hc5 hR5 hI5 HC HK HT HR
      go_wp2_with (first
        | refine wpList_store_mid (by rfl) 54 _ _ (by rfl) w.heap.size 0 #[.string nm, .string wp] (by rfl) (by rfl) (unhide HT5) infoTr (dt.one_cells (cs := [.string nm, .string wp]) (by rfl)) ?_)
      refine bodyPost_ret (rgn.result_row_tmp rfl _ _ w.heap.size 0 [.string nm, .string wp] _ rfl (World.rangeAt_setCells_same _ _ _ _ (unhide HT5)) Tryz.underlying54 rfl infoTr) rfl ?_
      rw [unhide hs2]
      exact ⟨rfl, (unhide HC5).out hne hnp _ _, (unhide HK5).out (Nat.le_refl _) _ _⟩
    · rw [hQ] at hpu hs2
      unfold trC
      go_wp2_with fail
      refine ((unhide hpu) _ ((unhide HC).below ((Below.refl _ _).alloc (Nat.le_refl _) _))).mono ?_
      rintro e w5 ⟨rfl, hc5, hk5⟩
      have hR5 := (hk5.block w.heap.size (by simp; omega) (by omega)).trans ((Below.heap_alloc w4 _ w.heap.size hz4).trans (unhide HR))
      have hI5 := (hk5.block w4.heap.size (by simp) (by omega)).trans (heap_alloc_new w4 _)
      have i0 : w5.cell? ⟨w4.heap.size, 0, none⟩ = some (.string nm) := (dt.cell_cells hI5 0).trans rfl
      have i1 : w5.cell? ⟨w4.heap.size, 1, none⟩ = some (.string wp) := (dt.cell_cells hI5 1).trans rfl
      have f1 : w5.frozen? ⟨w4.heap.size, 1, none⟩ = false := dt.frozen_cells hI5 1
      have hnw : w.heap.size ≠ w4.heap.size := by omega
      have hX : Hid (∀ v, (w5.setCell ⟨w4.heap.size, 1, none⟩ v).there w.heap.size 0 2) := hide (fun v => dt.there_cells ((Below.heap_setCell w5 ⟨w4.heap.size, 1, none⟩ v w.heap.size hnw).trans hR5) (o := 0) (n := 2) (by decide))
      have j0 : ∀ v, (w5.setCell ⟨w4.heap.size, 1, none⟩ v).cell? ⟨w4.heap.size, 0, none⟩ = some (.string nm) := fun v => (dt.cell_cells (dt.heap_setCell_at hI5 1 v) 0).trans rfl
      have HC5 := hide hc5
      have HK5 := hide ((unhide HK).trans ((Kp.of ((Below.refl _ _).alloc (Nat.le_refl _) _)).trans hk5))
      clear hpu hk5 hc5 hR5 hI5 HC HK HT HR
      go_wp2_with (first
        | refine wpList_store_mid (by rfl) 54 _ _ (by rfl) w.heap.size 0 #[.string nm, .string (wp ++ bBang)] (by rfl) (by rfl) ((unhide hX) _) infoTr (dt.one_cells (cs := [.string nm, .string (wp ++ bBang)]) (by rfl)) ?_)
      refine bodyPost_ret (rgn.result_row_tmp rfl _ _ w.heap.size 0 [.string nm, .string (wp ++ bBang)] _ rfl (World.rangeAt_setCells_same _ _ _ _ ((unhide hX) _)) Tryz.underlying54 rfl infoTr) rfl ?_
      rw [unhide hs2]
      exact ⟨rfl, ((unhide HC5).out (b := w4.heap.size) (by omega) (by omega) 1 [.string (wp ++ bBang)]).out hne hnp _ _, ((unhide HK5).out (b := w4.heap.size) (by omega) 1 [.string (wp ++ bBang)]).out (Nat.le_refl _) _ _⟩
theorem typF_ok : ∀ (f : Nat) (c : Cu), c.Ok → c.ts.length ≤ 1099511627777 → c.ts.length ≤ f + c.ix → TypAt (typF f) 19 c
  | 0, c, hc, hl, hf => by have := hc.lt; omega
  | f + 1, c, hc, hl, hf => typ_ok f c hc hl (unm_ok f c hc hl (fun c' h1 h2 h3 => typF_ok f c' h1 (by rw [h2]; exact hl) (by rw [h2, h3]; omega)))
end Go.Proofs.YtdmfbahnhkdamaaGreat.cu
namespace Go.Proofs.YtdmfbahnhkdamaaGreat.cu
open Go.ChangeShapes Go.WideShapes Go.ChangeAt Go.RowKit
open ints (hide unhide)
open dt (Dt Kp RowAt)
open mem (Row)
set_option linter.unusedVariables false
set_option linter.unusedSimpArgs false
/-- the cursor over a source -/
def mostS (d : Int) : Nat := (max 0 (min d 200)).toNat
def newS (l : List Int) (d : Int) : Cu := ⟨lx.tks l 0, 0, 0, mostS d, 0⟩
theorem tks_more (l : List Int) : ∀ (f i : Nat), i ≤ l.length → l.length < f + i → ∀ j t, (lx.tksF l f i)[j]? = some t → t.k = 0 ∨ t.k = 1 ∨ j + 1 < (lx.tksF l f i).length
  | 0, i, hi, hf, j, t, h => by simp [lx.tksF] at h
  | f + 1, i, hi, hf, j, t, h => by
    by_cases he : (lx.tkAt l i).k = 0 ∨ (lx.tkAt l i).k = 1
    · rw [lx.tksF, if_pos he] at h
      cases j with
      | zero => simp at h; subst h; rcases he with e | e; exact .inl e; exact .inr (.inl e)
      | succ j => simp at h
    · rw [lx.tksF, if_neg he] at h ⊢
      have h2 := lx.tk_le l i hi
      have h3 : i < (lx.tkAt l i).to := by
        rcases h2.2.2 with e | e | e
        · exact absurd (.inl e) he
        · exact absurd (.inr e) he
        · exact e
      cases j with
      | zero =>
        right; right
        cases f with
        | zero => omega
        | succ f =>
          rw [lx.tksF]
          split <;> simp
      | succ j =>
        have := tks_more l f (lx.tkAt l i).to h2.2.1 (by omega) j t (by simpa using h)
        simpa using this
theorem tksF_len (l : List Int) : ∀ (f i : Nat), i ≤ l.length → (lx.tksF l f i).length ≤ l.length + 1 - i
  | 0, i, hi => by simp [lx.tksF]
  | f + 1, i, hi => by
    by_cases he : (lx.tkAt l i).k = 0 ∨ (lx.tkAt l i).k = 1
    · rw [lx.tksF, if_pos he]; simp; omega
    · rw [lx.tksF, if_neg he]
      have h2 := lx.tk_le l i hi
      have h3 : i < (lx.tkAt l i).to := by
        rcases h2.2.2 with e | e | e
        · exact absurd (.inl e) he
        · exact absurd (.inr e) he
        · exact e
      have := tksF_len l f (lx.tkAt l i).to h2.2.1
      simp
      omega
theorem tks_pos (l : List Int) (i : Nat) : 0 < (lx.tks l i).length := by
  unfold lx.tks
  rw [lx.tksF]
  split <;> simp
theorem newS_ok (l : List Int) (d : Int) : (newS l d).Ok :=
  ⟨tks_pos l 0, tks_more l (l.length + 1) 0 (Nat.zero_le _) (by omega), Nat.zero_le _, by unfold newS mostS; simp only; omega⟩
theorem new_ok (a : Option Addr) (n c : Nat) (l : List Int) (d : Int) (w : World) (h : Row .u8 w a n c l) (hn : n ≤ 1099511627776) (hp : lx.Plain l) (hd : (Lit.int .i64 d).wf = true) :
    Calls Tryz.prog 7 #[.slice a n c, .int .i64 d] w fun e w' => ∃ B p, e = .returned (ptr B) ∧ w.heap.size ≤ B ∧ w.heap.size ≤ p ∧ CurAt w' B p (newS l d) ∧ Below w.heap.size w w' := by
  have hT := hide (fun W (bb : Below w.heap.size w W) => lx.tokens_ok a n c l W (h.below bb) hn hp)
  have hok := hide (newS_ok l d)
  have hlen := tksF_len l (l.length + 1) 0 (Nat.zero_le _)
  rw [h.len] at hlen
  go_enter Tryz.func7, Tryz.ntmps7
  go_wp2_with fail
  refine ((unhide hT) w (Below.refl _ _)).mono ?_
  rintro e w1 ⟨p, cap, rfl, hp1, hp2, hrows, b1⟩
  have HR := hide hrows
  clear hT hrows
  go_wp2_with fail
  go_ret
  have hmo : (max 0 (min d 200)) = ((mostS d : Nat) : Int) := by unfold mostS; omega
  rw [hmo]
  have bX : ∀ o, Below w1.heap.size w1 (w1.alloc o) := fun o => (Below.refl _ _).alloc (Nat.le_refl _) _
  refine ⟨w1.heap.size, p, rfl, b1.size, hp1, ⟨unhide hok, ?_, cap, heap_alloc_new w1 _, by omega, ?_, fun i t ht => ((unhide HR) i t ht).below (bX _)⟩, b1.alloc b1.size _⟩
  · show (lx.tks l 0).length ≤ _
    unfold lx.tks
    rw [h.len]
    omega
  · simp; omega
/-- two results, each in a row of cells -/
theorem result_rows2 {P : Program} {fn : Func} {p q : Tmp} {ty tz : TypeId} (h : fn.results = #[.cell p ty, .cell q tz]) (tmps : Array Value) (w : World) (b o : Nat) (cs : List Value) (d : TypeDesc) (hp : tmps.getD p undef = .pointer (some ⟨b, o, none⟩)) (hc : w.rangeAt b o cs)
    (hu : P.underlying ty = some d) (hd : d.isRow = true) (hi : (P.info? ty).map (·.size) = some cs.length) (b2 o2 : Nat) (ds : List Value) (d2 : TypeDesc) (hp2 : tmps.getD q undef = .pointer (some ⟨b2, o2, none⟩)) (hc2 : w.rangeAt b2 o2 ds)
    (hu2 : P.underlying tz = some d2) (hd2 : d2.isRow = true) (hi2 : (P.info? tz).map (·.size) = some ds.length) : (results fn tmps).run P w = .ok (.tuple #[.agg cs.toArray, .agg ds.toArray]) w := by
  have h1 := run_loadVar_mid (P := P) w b o ty cs d hc hu hd hi
  have h2 := run_loadVar_mid (P := P) w b2 o2 tz ds d2 hc2 hu2 hd2 hi2
  have hp' : tmps[p]?.getD undef = .pointer (some ⟨b, o, none⟩) := by simpa using hp
  have hp2' : tmps[q]?.getD undef = .pointer (some ⟨b2, o2, none⟩) := by simpa using hp2
  simp [results, h, hp', hp2', asAddr, h1, h2]
theorem res2 {w3 : World} {b1 b2 : Nat} (hne : b1 ≠ b2) (cs ds : List Value) (h1 : w3.there b1 0 cs.length) (h2 : w3.there b2 0 ds.length) : (w3.setCells b1 0 cs).there b2 0 ds.length ∧ ((w3.setCells b1 0 cs).setCells b2 0 ds).rangeAt b1 0 cs ∧ ((w3.setCells b1 0 cs).setCells b2 0 ds).rangeAt b2 0 ds := by
  have h3 : (w3.setCells b1 0 cs).there b2 0 ds.length := World.there_setCells h2 _ _ _
  refine ⟨h3, fun j u hu => ?_, World.rangeAt_setCells_same _ _ _ _ h3⟩
  rw [dt.cell_blk (dt.heap_setCells b2 b1 hne ds 0 _)]
  exact World.rangeAt_setCells_same w3 b1 0 cs h1 j u hu
theorem FltAt.out {lo : Nat} {w : World} {c : Cu} {fs : List Value} (h : FltAt lo w c fs) {b : Nat} (hb : b < lo) (o : Nat) (vs : List Value) : FltAt lo (w.setCells b o vs) c fs := by
  unfold FltAt at h ⊢
  split at h
  · rw [if_pos ‹_›]; exact h
  · rw [if_neg ‹_›]
    obtain ⟨d, h1, h2, h3, h4, h5⟩ := h
    exact ⟨d, h1, by rw [dt.size_setCells]; exact h2, h3, (dt.cell_blk (dt.heap_setCells b d (by omega) vs o w) _).trans h4, (dt.cell_blk (dt.heap_setCells b d (by omega) vs o w) _).trans h5⟩
theorem FltAt.mono {lo lo' : Nat} {w : World} {c : Cu} {fs : List Value} (h : FltAt lo w c fs) (hb : lo' ≤ lo) : FltAt lo' w c fs := by
  unfold FltAt at h ⊢
  split at h
  · rw [if_pos ‹_›]; exact h
  · rw [if_neg ‹_›]
    obtain ⟨d, h1, h2, h3, h4, h5⟩ := h
    exact ⟨d, by omega, h2, h3, h4, h5⟩
theorem FltAt.three {lo : Nat} {w : World} {c : Cu} {fs : List Value} (h : FltAt lo w c fs) : fs.length = 3 ∧ fs.all (·.oneCell') = true := by
  unfold FltAt at h
  split at h
  · rw [h]; exact ⟨rfl, rfl⟩
  · obtain ⟨d, h1, h2, h3, h4, h5⟩ := h
    rw [h3]; exact ⟨rfl, rfl⟩
def readT (l : List Int) (d : Int) : Option (ByteArray × ByteArray) × Cu :=
  if (typF (lx.tks l 0).length (newS l d)).1.isSome then (if (typF (lx.tks l 0).length (newS l d)).2.finB then (typF (lx.tks l 0).length (newS l d)).1 else none, (typF (lx.tks l 0).length (newS l d)).2.fin) else (none, (typF (lx.tks l 0).length (newS l d)).2)
set_option maxRecDepth 4000 in
set_option maxHeartbeats 2000000 in
theorem readType_ok (a : Option Addr) (n c : Nat) (l : List Int) (d : Int) (w : World) (h : Row .u8 w a n c l) (hn : n ≤ 1099511627776) (hp : lx.Plain l) (hd : (Lit.int .i64 d).wf = true) :
    Calls Tryz.prog 10 #[.slice a n c, .int .i64 d] w fun e w' => ∃ fs, e = .returned (.tuple #[.agg (trC (readT l d).1).toArray, .agg fs.toArray]) ∧ FltAt w.heap.size w' (readT l d).2 fs ∧ Below w.heap.size w w' := by
  have hN := hide (fun W (bb : Below w.heap.size w W) => new_ok a n c l d W (h.below bb) hn hp hd)
  have hok := newS_ok l d
  have hlen : (newS l d).ts.length ≤ 1099511627777 := by
    have := tksF_len l (l.length + 1) 0 (Nat.zero_le _)
    show (lx.tksF l (l.length + 1) 0).length ≤ _
    rw [h.len] at this ⊢
    omega
  have hT := hide (typF_ok (lx.tks l 0).length (newS l d) hok hlen (Nat.le_add_right _ _))
  have hg := hide (typF_goes (lx.tks l 0).length (newS l d) hok).1
  unfold readT
  obtain ⟨U, hU⟩ : ∃ U, U = typF (lx.tks l 0).length (newS l d) := ⟨_, rfl⟩
  unfold TypAt at hT
  rw [← hU] at hT hg ⊢
  obtain ⟨c0, hc0⟩ : ∃ c0, c0 = newS l d := ⟨_, rfl⟩
  rw [← hc0] at hN hT hg
  clear h hU hok hlen hc0
  obtain ⟨r, C⟩ := U
  go_enter Tryz.func10, Tryz.ntmps10
  go_wp2_with fail
  have bW0 : Below w.heap.size w ((w.alloc (.cells #[Value.string { data := #[] }, .string { data := #[] }] 54)).alloc (.cells #[Value.int .i64 0, .slice none 0 0, .slice none 0 0] 37)) := ((Below.refl _ _).alloc (Nat.le_refl _) _).alloc (by simp) _
  have hR1 : ((w.alloc (.cells #[Value.string { data := #[] }, .string { data := #[] }] 54)).alloc (.cells #[Value.int .i64 0, .slice none 0 0, .slice none 0 0] 37)).heap[w.heap.size]? = some (.cells #[Value.string { data := #[] }, .string { data := #[] }] 54 (0, 0)) := (Below.heap_alloc _ _ w.heap.size (by simp)).trans (heap_alloc_new w _)
  have hR2 : ((w.alloc (.cells #[Value.string { data := #[] }, .string { data := #[] }] 54)).alloc (.cells #[Value.int .i64 0, .slice none 0 0, .slice none 0 0] 37)).heap[w.heap.size + 1]? = some (.cells #[Value.int .i64 0, .slice none 0 0, .slice none 0 0] 37 (0, 0)) := by
    have := heap_alloc_new (w.alloc (.cells #[Value.string { data := #[] }, .string { data := #[] }] 54)) (.cells #[Value.int .i64 0, .slice none 0 0, .slice none 0 0] 37)
    simpa using this
  have hz0 : w.heap.size + 1 < ((w.alloc (.cells #[Value.string { data := #[] }, .string { data := #[] }] 54)).alloc (.cells #[Value.int .i64 0, .slice none 0 0, .slice none 0 0] 37)).heap.size := by simp
  obtain ⟨W0, hW0⟩ : ∃ W0, W0 = (w.alloc (.cells #[Value.string { data := #[] }, .string { data := #[] }] 54)).alloc (.cells #[Value.int .i64 0, .slice none 0 0, .slice none 0 0] 37) := ⟨_, rfl⟩
  rw [← hW0] at bW0 hR1 hR2 hz0 ⊢
  clear hW0
  refine ((unhide hN) W0 bW0).mono ?_
  rintro e w1 ⟨B, p, rfl, hB, hp0, hc1, b1⟩
  have hTB := hide ((unhide hT) B p)
  have hend := hide (fun W (hc : CurAt W B p C) => end_ok B p C W hc)
  have htold := hide (fun W (D : Cu) (hc : CurAt W B p D) => told_ok B p D W hc)
  clear hN hT
  unfold ptr at hTB hend htold ⊢
  go_wp2_with fail
  refine ((unhide hTB) w1 hc1).mono ?_
  rintro e w2 ⟨rfl, hc2, hk2⟩
  have hB1 := hc1.lt
  -- the two result blocks stay
  have b02 : Below W0.heap.size W0 w2 := b1.trans (hk2.below hB b1.size)
  have HC2 := hide hc2
  clear hTB hc1 hc2 hk2 b1
  have bA2 := hide (fun o => show Below w2.heap.size w2 (w2.alloc o) from (Below.refl _ _).alloc (Nat.le_refl _) _)
  cases r with
  | none =>
    unfold trC
    go_wp2_with fail
    have bT := b02.alloc b02.size (.cells #[Value.string em, .string em] 54)
    refine ((unhide htold) _ C ((unhide HC2).below ((unhide bA2) _))).mono ?_
    rintro e w5 ⟨fs, rfl, hflt, b5⟩
    have b05 : Below W0.heap.size W0 w5 := bT.trans (b5.mono bT.size)
    have hne12 : w.heap.size ≠ w.heap.size + 1 := by omega
    have HT1 := hide (show w5.there w.heap.size 0 2 from dt.there_cells ((b05.block w.heap.size (by omega)).trans hR1) (by decide))
    have HT2 := hide (show w5.there (w.heap.size + 1) 0 fs.length from by rw [hflt.three.1]; exact dt.there_cells ((b05.block (w.heap.size + 1) hz0).trans hR2) (by decide))
    have HX := hide (res2 hne12 [.string ⟨#[]⟩, .string ⟨#[]⟩] fs (unhide HT1) (unhide HT2))
    have HI := hide (show (Tryz.prog.info? 37).map (·.size) = some fs.length from by rw [hflt.three.1]; exact infoFl)
    have HO := hide (dt.one_cells hflt.three.2)
    have HF := hide hflt
    have hbw := hide (bW0.trans (b05.mono bW0.size))
    have hlo := hide (show w.heap.size + 1 < _ ∧ w.heap.size < _ from And.intro (Nat.lt_of_lt_of_le hz0 bT.size) (Nat.lt_of_lt_of_le (Nat.lt_of_succ_lt hz0) bT.size))
    clear b05 b5 htold hflt
    go_wp2_with (first
      | refine wpList_store_mid (by rfl) 54 _ _ (by rfl) w.heap.size 0 #[.string ⟨#[]⟩, .string ⟨#[]⟩] (by rfl) (by rfl) (unhide HT1) infoTr (dt.one_cells (cs := [.string ⟨#[]⟩, .string ⟨#[]⟩]) (by rfl)) ?_
      | refine wpList_store_mid (by rfl) 37 _ _ (by rfl) (w.heap.size + 1) 0 fs.toArray (by rfl) (by rfl) (by have := (unhide HX).1; simpa using this) (by have := unhide HI; simpa using this) (unhide HO) ?_)
    refine bodyPost_ret (result_rows2 rfl _ _ w.heap.size 0 [.string ⟨#[]⟩, .string ⟨#[]⟩] _ rfl (unhide HX).2.1 Tryz.underlying54 rfl infoTr (w.heap.size + 1) 0 fs _ rfl (unhide HX).2.2 Tryz.underlying37 rfl (unhide HI)) rfl ?_
    refine ⟨_, rfl, ?_, dt.below_setCells _ _ _ _ (dt.below_setCells _ _ _ _ (unhide hbw) (Nat.le_refl _)) (Nat.le_add_right _ 1)⟩
    exact (((unhide HF).out (unhide hlo).2 _ _).out (unhide hlo).1 _ _).mono (Nat.le_of_lt (unhide hlo).2)
  | some it =>
    obtain ⟨nm, wp⟩ := it
    cases hF : C.finB
    · rw [hF] at hend
      unfold trC
      go_wp2_with fail
      refine ((unhide hend) _ ((unhide HC2).below ((unhide bA2) _))).mono ?_
      rintro e w3 ⟨rfl, hc3, hk3⟩
      have bT : Below W0.heap.size W0 w3 := (b02.alloc b02.size _).trans (hk3.below hB (Nat.le_trans b02.size ((unhide bA2) _).size))
      go_wp2_with fail
      refine ((unhide htold) _ C.fin hc3).mono ?_
      rintro e w5 ⟨fs, rfl, hflt, b5⟩
      have b05 : Below W0.heap.size W0 w5 := bT.trans (b5.mono bT.size)
      have hne12 : w.heap.size ≠ w.heap.size + 1 := by omega
      have HT1 := hide (show w5.there w.heap.size 0 2 from dt.there_cells ((b05.block w.heap.size (by omega)).trans hR1) (by decide))
      have HT2 := hide (show w5.there (w.heap.size + 1) 0 fs.length from by rw [hflt.three.1]; exact dt.there_cells ((b05.block (w.heap.size + 1) hz0).trans hR2) (by decide))
      have HX := hide (res2 hne12 [.string ⟨#[]⟩, .string ⟨#[]⟩] fs (unhide HT1) (unhide HT2))
      have HI := hide (show (Tryz.prog.info? 37).map (·.size) = some fs.length from by rw [hflt.three.1]; exact infoFl)
      have HO := hide (dt.one_cells hflt.three.2)
      have HF := hide hflt
      have hbw := hide (bW0.trans (b05.mono bW0.size))
      have hlo := hide (show w.heap.size + 1 < _ ∧ w.heap.size < _ from And.intro (Nat.lt_of_lt_of_le hz0 bT.size) (Nat.lt_of_lt_of_le (Nat.lt_of_succ_lt hz0) bT.size))
      clear b05 b5 htold hflt
      go_wp2_with (first
        | refine wpList_store_mid (by rfl) 54 _ _ (by rfl) w.heap.size 0 #[.string ⟨#[]⟩, .string ⟨#[]⟩] (by rfl) (by rfl) (unhide HT1) infoTr (dt.one_cells (cs := [.string ⟨#[]⟩, .string ⟨#[]⟩]) (by rfl)) ?_
        | refine wpList_store_mid (by rfl) 37 _ _ (by rfl) (w.heap.size + 1) 0 fs.toArray (by rfl) (by rfl) (by have := (unhide HX).1; simpa using this) (by have := unhide HI; simpa using this) (unhide HO) ?_)
      refine bodyPost_ret (result_rows2 rfl _ _ w.heap.size 0 [.string ⟨#[]⟩, .string ⟨#[]⟩] _ rfl (unhide HX).2.1 Tryz.underlying54 rfl infoTr (w.heap.size + 1) 0 fs _ rfl (unhide HX).2.2 Tryz.underlying37 rfl (unhide HI)) rfl ?_
      refine ⟨_, rfl, ?_, dt.below_setCells _ _ _ _ (dt.below_setCells _ _ _ _ (unhide hbw) (Nat.le_refl _)) (Nat.le_add_right _ 1)⟩
      exact (((unhide HF).out (unhide hlo).2 _ _).out (unhide hlo).1 _ _).mono (Nat.le_of_lt (unhide hlo).2)
    · rw [hF] at hend
      unfold trC
      go_wp2_with fail
      refine ((unhide hend) _ ((unhide HC2).below ((unhide bA2) _))).mono ?_
      rintro e w3 ⟨rfl, hc3, hk3⟩
      have hI3 := (hk3.block w2.heap.size (by simp) (by have := (unhide HC2).lt; omega)).trans (heap_alloc_new w2 _)
      have b03 : Below W0.heap.size W0 w3 := (b02.alloc b02.size _).trans (hk3.below hB (Nat.le_trans b02.size ((unhide bA2) _).size))
      have i0 : w3.cell? ⟨w2.heap.size, 0, none⟩ = some (.string nm) := (dt.cell_cells hI3 0).trans rfl
      have i1 : w3.cell? ⟨w2.heap.size, 1, none⟩ = some (.string wp) := (dt.cell_cells hI3 1).trans rfl
      have hne12 : w.heap.size ≠ w.heap.size + 1 := by omega
      have HT1 := hide (show w3.there w.heap.size 0 2 from dt.there_cells ((b03.block w.heap.size (by omega)).trans hR1) (by decide))
      have HT2 := hide (show w3.there (w.heap.size + 1) 0 3 from dt.there_cells ((b03.block (w.heap.size + 1) hz0).trans hR2) (by decide))
      have HX := hide (res2 hne12 [.string nm, .string wp] [.int .i64 0, .slice none 0 0, .slice none 0 0] (unhide HT1) (unhide HT2))
      have hfin := hide (show C.fin = C ∧ C.kd = 0 from ⟨by unfold Cu.fin; rw [hF]; rfl, (of_decide_eq_true hF).1⟩)
      have hbw := hide (bW0.trans (b03.mono bW0.size))
      clear hI3 b03 hk3 hc3 hend htold b02 bA2
      go_wp2_with (first
        | refine wpList_store_mid (by rfl) 54 _ _ (by rfl) w.heap.size 0 #[.string nm, .string wp] (by rfl) (by rfl) (unhide HT1) infoTr (dt.one_cells (cs := [.string nm, .string wp]) (by rfl)) ?_
        | refine wpList_store_mid (by rfl) 37 _ _ (by rfl) (w.heap.size + 1) 0 #[.int .i64 0, .slice none 0 0, .slice none 0 0] (by rfl) (by rfl) (unhide HX).1 infoFl (dt.one_cells (cs := [.int .i64 0, .slice none 0 0, .slice none 0 0]) (by rfl)) ?_)
      refine bodyPost_ret (result_rows2 rfl _ _ w.heap.size 0 [.string nm, .string wp] _ rfl (unhide HX).2.1 Tryz.underlying54 rfl infoTr (w.heap.size + 1) 0 [.int .i64 0, .slice none 0 0, .slice none 0 0] _ rfl (unhide HX).2.2 Tryz.underlying37 rfl infoFl) rfl ?_
      refine ⟨_, rfl, ?_, dt.below_setCells _ _ _ _ (dt.below_setCells _ _ _ _ (unhide hbw) (Nat.le_refl _)) (Nat.le_add_right _ 1)⟩
      unfold FltAt
      show (if C.fin.kd = 0 then _ else _)
      rw [(unhide hfin).1, if_pos (unhide hfin).2]
end Go.Proofs.YtdmfbahnhkdamaaGreat.cu
namespace Go.Proofs.YtdmfbahnhkdamaaGreat.cu
open Go.ChangeShapes Go.WideShapes Go.ChangeAt Go.RowKit
open ints (hide unhide)
open dt (Dt Kp RowAt Ow)
set_option linter.unusedVariables false
set_option linter.unusedSimpArgs false
theorem infoLt : (Tryz.prog.info? 32).map (·.size) = some 7 := by kernel_rfl
def leafC (k : Int) (tx : ByteArray) (bl : Bool) (ln co : Int) : List Value := [.int .i64 k, .string tx, .bool bl, .slice none 0 0, .slice none 0 0, .int .i64 ln, .int .i64 co]
theorem leaf_ow (w : World) (k : Int) (tx : ByteArray) (bl : Bool) (ln co : Int) : Ow w (litD k tx bl .nil .nil ln co) (leafC k tx bl ln co) [] := by
  unfold litD leafC
  simp only [Ow]
  refine ⟨_, rfl, rfl, _, rfl, rfl, _, rfl, rfl, none, 0, 0, _, [], [], rfl, Nat.le_refl _, Nat.zero_le _, fun _ => rfl, .inl ⟨rfl, by simp⟩, ⟨none, 0, 0, _, [], [], rfl, Nat.le_refl _, Nat.zero_le _, fun _ => rfl, .inl ⟨rfl, by simp⟩, ⟨_, rfl, rfl, _, rfl, rfl, rfl, rfl⟩, rfl⟩, rfl⟩
def zeroD : Dt := litD 0 em false .nil .nil 0 0
set_option maxRecDepth 4000 in
theorem leaf_ok (B p : Nat) (c : Cu) (k : Int) (tx : ByteArray) (w : World) (h : CurAt w B p c) (hm : c.ix + 1 < c.ts.length) : Calls Tryz.prog 20 #[ptr B, .int .i64 k, .string tx] w fun e w' =>
    e = .returned (.agg (leafC k tx false c.tok.ln c.tok.co).toArray) ∧ CurAt w' B p c.take ∧ Kp B w w' := by
  have hr := hide (fun W (bb : Below w.heap.size w W) => take_ok B p c W (h.below bb) hm)
  have hlt := h.lt
  have hplt := h.plt
  have hne : B ≠ w.heap.size := by omega
  have hnp : p ≠ w.heap.size := by omega
  have bA := hide (fun o => show Below w.heap.size w (w.alloc o) from (Below.refl _ _).alloc (Nat.le_refl _) _)
  have hZ := hide (fun o W (hk : Kp B (w.alloc o) W) => show W.heap[w.heap.size]? = some o from (hk.block w.heap.size (by simp) (by omega)).trans (heap_alloc_new w o))
  have hf2 := fld_pos c.tok
  obtain ⟨t, ht⟩ : ∃ t, t = c.tok := ⟨_, rfl⟩
  rw [← ht] at hr hf2 ⊢
  clear ht h
  unfold Tk.cells at hr
  unfold ptr at hr ⊢
  go_enter Tryz.func20, Tryz.ntmps20
  go_wp2_with fail
  refine ((unhide hr) _ ((unhide bA) _)).mono ?_
  rintro e w1 ⟨rfl, hc, hk⟩
  have hth : w1.there w.heap.size 0 7 := dt.there_cells ((unhide hZ) _ w1 hk) (by decide)
  have HK := hide ((Kp.of ((unhide bA) _)).trans hk)
  have HC := hide hc
  clear hr hk hc hZ bA
  go_wp2_with (first
    | refine wpList_store_mid (by rfl) 32 _ _ (by rfl) w.heap.size 0 #[.int .i64 k, .string tx, .bool false, .slice none 0 0, .slice none 0 0, .int .i64 t.ln, .int .i64 t.co] (by rfl) (by rfl) hth infoLt (dt.one_cells (cs := [.int .i64 k, .string tx, .bool false, .slice none 0 0, .slice none 0 0, .int .i64 t.ln, .int .i64 t.co]) (by rfl)) ?_)
  refine bodyPost_ret (rgn.result_row rfl _ _ w.heap.size 0 [.int .i64 k, .string tx, .bool false, .slice none 0 0, .slice none 0 0, .int .i64 t.ln, .int .i64 t.co] _ rfl (World.rangeAt_setCells_same _ _ _ _ hth) Tryz.underlying32 rfl infoLt) rfl ?_
  exact ⟨rfl, (unhide HC).out hne hnp _ _, (unhide HK).out (Nat.le_refl _) _ _⟩
/-- a word's literal -/
def wordC (t : Tk) (tx : ByteArray) : List Value := if tx = bTrue ∨ tx = bFalse then leafC 5 tx false t.ln t.co else if tx = bNull then leafC 6 em false t.ln t.co else leafC 7 tx false t.ln t.co
theorem str_lit {a : ByteArray} {l : List UInt8} (h : (⟨l.toArray⟩ : ByteArray).toList = l) : (a.toList == l) = decide (a = ⟨l.toArray⟩) := by
  rw [← str_beq, h]
theorem str_neb {a b : ByteArray} (h : ¬ a = b) : (a.toList == b.toList) = false := by rw [str_beq]; exact decide_eq_false h
set_option maxRecDepth 4000 in
theorem word_ok (B p : Nat) (c : Cu) (tx : ByteArray) (w : World) (h : CurAt w B p c) (hm : c.ix + 1 < c.ts.length) : Calls Tryz.prog 21 #[ptr B, .string tx] w fun e w' =>
    e = .returned (.agg (wordC c.tok tx).toArray) ∧ CurAt w' B p c.take ∧ Kp B w w' := by
  have hr := hide (fun k s W (bb : Below w.heap.size w W) => leaf_ok B p c k s W (h.below bb) hm)
  have hlt := h.lt
  have hplt := h.plt
  have hne : B ≠ w.heap.size := by omega
  have hnp : p ≠ w.heap.size := by omega
  have bA := hide (fun o => show Below w.heap.size w (w.alloc o) from (Below.refl _ _).alloc (Nat.le_refl _) _)
  have hZ := hide (fun o W (hk : Kp B (w.alloc o) W) => show W.heap[w.heap.size]? = some o from (hk.block w.heap.size (by simp) (by omega)).trans (heap_alloc_new w o))
  obtain ⟨t, ht⟩ : ∃ t, t = c.tok := ⟨_, rfl⟩
  rw [← ht] at hr ⊢
  clear ht h
  unfold leafC at hr
  unfold ptr at hr ⊢
  by_cases h1 : tx = bTrue
  · have hW := hide (show wordC t tx = leafC 5 tx false t.ln t.co from by unfold wordC; rw [if_pos (.inl h1)])
    have e1 : (tx.toList == [116, 114, 117, 101]) = true := by rw [str_lit (by rw [ByteArray.toList_eq])]; exact decide_eq_true h1
    clear h1
    go_enter Tryz.func21, Tryz.ntmps21
    go_wp2_with fail
    refine ((unhide hr) 5 tx _ ((unhide bA) _)).mono ?_
    rintro e w1 ⟨rfl, hc, hk⟩
    have hth : w1.there w.heap.size 0 7 := dt.there_cells ((unhide hZ) _ w1 hk) (by decide)
    have HK := hide ((Kp.of ((unhide bA) _)).trans hk)
    have HC := hide hc
    clear hr hk hc hZ bA
    go_wp2_with (first
      | refine wpList_store_mid (by rfl) 32 _ _ (by rfl) w.heap.size 0 #[.int .i64 5, .string tx, .bool false, .slice none 0 0, .slice none 0 0, .int .i64 t.ln, .int .i64 t.co] (by rfl) (by rfl) hth infoLt (dt.one_cells (cs := [.int .i64 5, .string tx, .bool false, .slice none 0 0, .slice none 0 0, .int .i64 t.ln, .int .i64 t.co]) (by rfl)) ?_)
    refine bodyPost_ret (rgn.result_row rfl _ _ w.heap.size 0 [.int .i64 5, .string tx, .bool false, .slice none 0 0, .slice none 0 0, .int .i64 t.ln, .int .i64 t.co] _ rfl (World.rangeAt_setCells_same _ _ _ _ hth) Tryz.underlying32 rfl infoLt) rfl ?_
    exact ⟨by rw [unhide hW]; rfl, (unhide HC).out hne hnp _ _, (unhide HK).out (Nat.le_refl _) _ _⟩
  by_cases h2 : tx = bFalse
  · have hW := hide (show wordC t tx = leafC 5 tx false t.ln t.co from by unfold wordC; rw [if_pos (.inr h2)])
    have e1 : (tx.toList == [116, 114, 117, 101]) = false := by rw [str_lit (by rw [ByteArray.toList_eq])]; exact decide_eq_false h1
    have e2 : (tx.toList == [102, 97, 108, 115, 101]) = true := by rw [str_lit (by rw [ByteArray.toList_eq])]; exact decide_eq_true h2
    clear h1 h2
    go_enter Tryz.func21, Tryz.ntmps21
    go_wp2_with fail
    refine ((unhide hr) 5 tx _ ((unhide bA) _)).mono ?_
    rintro e w1 ⟨rfl, hc, hk⟩
    have hth : w1.there w.heap.size 0 7 := dt.there_cells ((unhide hZ) _ w1 hk) (by decide)
    have HK := hide ((Kp.of ((unhide bA) _)).trans hk)
    have HC := hide hc
    clear hr hk hc hZ bA
    go_wp2_with (first
      | refine wpList_store_mid (by rfl) 32 _ _ (by rfl) w.heap.size 0 #[.int .i64 5, .string tx, .bool false, .slice none 0 0, .slice none 0 0, .int .i64 t.ln, .int .i64 t.co] (by rfl) (by rfl) hth infoLt (dt.one_cells (cs := [.int .i64 5, .string tx, .bool false, .slice none 0 0, .slice none 0 0, .int .i64 t.ln, .int .i64 t.co]) (by rfl)) ?_)
    refine bodyPost_ret (rgn.result_row rfl _ _ w.heap.size 0 [.int .i64 5, .string tx, .bool false, .slice none 0 0, .slice none 0 0, .int .i64 t.ln, .int .i64 t.co] _ rfl (World.rangeAt_setCells_same _ _ _ _ hth) Tryz.underlying32 rfl infoLt) rfl ?_
    exact ⟨by rw [unhide hW]; rfl, (unhide HC).out hne hnp _ _, (unhide HK).out (Nat.le_refl _) _ _⟩
  have e1 : (tx.toList == [116, 114, 117, 101]) = false := by rw [str_lit (by rw [ByteArray.toList_eq])]; exact decide_eq_false h1
  have e2 : (tx.toList == [102, 97, 108, 115, 101]) = false := by rw [str_lit (by rw [ByteArray.toList_eq])]; exact decide_eq_false h2
  by_cases h3 : tx = bNull
  · have hW := hide (show wordC t tx = leafC 6 em false t.ln t.co from by unfold wordC; rw [if_neg (fun e => e.elim h1 h2), if_pos h3])
    have e3 : (tx.toList == [110, 117, 108, 108]) = true := by rw [str_lit (by rw [ByteArray.toList_eq])]; exact decide_eq_true h3
    clear h1 h2 h3
    go_enter Tryz.func21, Tryz.ntmps21
    go_wp2_with fail
    refine ((unhide hr) 6 ⟨#[]⟩ _ ((unhide bA) _)).mono ?_
    rintro e w1 ⟨rfl, hc, hk⟩
    have hth : w1.there w.heap.size 0 7 := dt.there_cells ((unhide hZ) _ w1 hk) (by decide)
    have HK := hide ((Kp.of ((unhide bA) _)).trans hk)
    have HC := hide hc
    clear hr hk hc hZ bA
    go_wp2_with (first
      | refine wpList_store_mid (by rfl) 32 _ _ (by rfl) w.heap.size 0 #[.int .i64 6, .string ⟨#[]⟩, .bool false, .slice none 0 0, .slice none 0 0, .int .i64 t.ln, .int .i64 t.co] (by rfl) (by rfl) hth infoLt (dt.one_cells (cs := [.int .i64 6, .string ⟨#[]⟩, .bool false, .slice none 0 0, .slice none 0 0, .int .i64 t.ln, .int .i64 t.co]) (by rfl)) ?_)
    refine bodyPost_ret (rgn.result_row rfl _ _ w.heap.size 0 [.int .i64 6, .string ⟨#[]⟩, .bool false, .slice none 0 0, .slice none 0 0, .int .i64 t.ln, .int .i64 t.co] _ rfl (World.rangeAt_setCells_same _ _ _ _ hth) Tryz.underlying32 rfl infoLt) rfl ?_
    exact ⟨by rw [unhide hW]; rfl, (unhide HC).out hne hnp _ _, (unhide HK).out (Nat.le_refl _) _ _⟩
  · have hW := hide (show wordC t tx = leafC 7 tx false t.ln t.co from by unfold wordC; rw [if_neg (fun e => e.elim h1 h2), if_neg h3])
    have e3 : (tx.toList == [110, 117, 108, 108]) = false := by rw [str_lit (by rw [ByteArray.toList_eq])]; exact decide_eq_false h3
    clear h1 h2 h3
    go_enter Tryz.func21, Tryz.ntmps21
    go_wp2_with fail
    refine ((unhide hr) 7 tx _ ((unhide bA) _)).mono ?_
    rintro e w1 ⟨rfl, hc, hk⟩
    have hth : w1.there w.heap.size 0 7 := dt.there_cells ((unhide hZ) _ w1 hk) (by decide)
    have HK := hide ((Kp.of ((unhide bA) _)).trans hk)
    have HC := hide hc
    clear hr hk hc hZ bA
    go_wp2_with (first
      | refine wpList_store_mid (by rfl) 32 _ _ (by rfl) w.heap.size 0 #[.int .i64 7, .string tx, .bool false, .slice none 0 0, .slice none 0 0, .int .i64 t.ln, .int .i64 t.co] (by rfl) (by rfl) hth infoLt (dt.one_cells (cs := [.int .i64 7, .string tx, .bool false, .slice none 0 0, .slice none 0 0, .int .i64 t.ln, .int .i64 t.co]) (by rfl)) ?_)
    refine bodyPost_ret (rgn.result_row rfl _ _ w.heap.size 0 [.int .i64 7, .string tx, .bool false, .slice none 0 0, .slice none 0 0, .int .i64 t.ln, .int .i64 t.co] _ rfl (World.rangeAt_setCells_same _ _ _ _ hth) Tryz.underlying32 rfl infoLt) rfl ?_
    exact ⟨by rw [unhide hW]; rfl, (unhide HC).out hne hnp _ _, (unhide HK).out (Nat.le_refl _) _ _⟩
/-- a variable -/
def varC (c : Cu) : List Value := if c.take.isN then leafC 1 c.take.tok.tx false c.tok.ln c.tok.co else leafC 0 em false 0 0
set_option maxRecDepth 4000 in
set_option maxHeartbeats 1000000 in
theorem var_ok (B p : Nat) (c : Cu) (w : World) (h : CurAt w B p c) (hm : c.ix + 1 < c.ts.length) : Calls Tryz.prog 22 #[ptr B] w fun e w' =>
    e = .returned (.tuple #[.agg (varC c).toArray, .bool c.take.isN]) ∧ CurAt w' B p c.take.name ∧ Kp B w w' := by
  have hr := hide (fun W (bb : Below w.heap.size w W) => take_ok B p c W (h.below bb) hm)
  have hn := hide (fun W (hc : CurAt W B p c.take) => nameAny_ok B p c.take W hc)
  have hlt := h.lt
  have hplt := h.plt
  have hne : B ≠ w.heap.size := by omega
  have hnp : p ≠ w.heap.size := by omega
  have bA := hide (fun o => show Below w.heap.size w (w.alloc o) from (Below.refl _ _).alloc (Nat.le_refl _) _)
  have hZ := hide (fun o W (hk : Kp B (w.alloc o) W) => show W.heap[w.heap.size]? = some o from (hk.block w.heap.size (by simp) (by omega)).trans (heap_alloc_new w o))
  have hV := hide (show varC c = if c.take.isN then leafC 1 c.take.tok.tx false c.tok.ln c.tok.co else leafC 0 em false 0 0 from rfl)
  rw [nmT_form] at hn
  obtain ⟨t, ht⟩ : ∃ t, t = c.tok := ⟨_, rfl⟩
  rw [← ht] at hr hV
  obtain ⟨V, hVe⟩ : ∃ V, V = varC c := ⟨_, rfl⟩
  rw [← hVe] at hV ⊢
  clear ht h hVe
  unfold Tk.cells at hr
  unfold ptr at hr hn ⊢
  obtain ⟨A, hA⟩ : ∃ A, A = if c.take.isN then c.take.tok.tx else em := ⟨_, rfl⟩
  obtain ⟨X, hX⟩ : ∃ X, X = if c.take.isN then c.take.tok.ln else 0 := ⟨_, rfl⟩
  obtain ⟨Y, hY⟩ : ∃ Y, Y = if c.take.isN then c.take.tok.co else 0 := ⟨_, rfl⟩
  rw [← hA, ← hX, ← hY] at hn
  have HA := hide hA
  clear hA hX hY
  obtain ⟨R, hR⟩ : ∃ R, R = c.take.isN := ⟨_, rfl⟩
  rw [← hR] at hn hV HA ⊢
  clear hR
  cases R
  · have hV2 := hide (show V = leafC 0 em false 0 0 from unhide hV)
    go_enter Tryz.func22, Tryz.ntmps22
    go_wp2_with fail
    refine ((unhide hr) _ ((unhide bA) _)).mono ?_
    rintro e w1 ⟨rfl, hc1, hk1⟩
    have hz1 : w.heap.size < w1.heap.size := by have := hk1.size; simp at this; omega
    go_wp2_with fail
    refine ((unhide hn) _ (hc1.below ((Below.refl _ _).alloc (Nat.le_refl _) _))).mono ?_
    rintro e w2 ⟨rfl, hc2, hk2⟩
    have hk12 := hk1.trans ((Kp.of ((Below.refl _ _).alloc (Nat.le_refl _) _)).trans hk2)
    have hR2 := (unhide hZ) _ w2 hk12
    have hz2 : w.heap.size < w2.heap.size := by have := hk2.size; simp at this; omega
    have HT := hide (fun o => dt.there_cells ((Below.heap_alloc w2 o w.heap.size hz2).trans hR2) (o := 0) (n := 7) (by decide))
    have HK := hide ((Kp.of ((unhide bA) _)).trans hk12)
    have HC := hide hc2
    clear hr hn hk1 hk2 hk12 hc1 hc2 hZ bA hR2
    go_wp2_with (first
      | refine wpList_store_mid (by rfl) 32 _ _ (by rfl) w.heap.size 0 #[.int .i64 0, .string ⟨#[]⟩, .bool false, .slice none 0 0, .slice none 0 0, .int .i64 0, .int .i64 0] (by rfl) (by rfl) ((unhide HT) _) infoLt (dt.one_cells (cs := [.int .i64 0, .string ⟨#[]⟩, .bool false, .slice none 0 0, .slice none 0 0, .int .i64 0, .int .i64 0]) (by rfl)) ?_)
    refine bodyPost_ret (rgn.result_row_tmp rfl _ _ w.heap.size 0 [.int .i64 0, .string ⟨#[]⟩, .bool false, .slice none 0 0, .slice none 0 0, .int .i64 0, .int .i64 0] _ rfl (World.rangeAt_setCells_same _ _ _ _ ((unhide HT) _)) Tryz.underlying32 rfl infoLt) rfl ?_
    exact ⟨by rw [unhide hV2]; rfl, ((unhide HC).below ((Below.refl _ _).alloc (Nat.le_refl _) _)).out hne hnp _ _, ((unhide HK).trans (Kp.of ((Below.refl _ _).alloc (Nat.le_refl _) _))).out (Nat.le_refl _) _ _⟩
  · have hV2 := hide (show V = leafC 1 A false t.ln t.co from by rw [unhide hV, unhide HA]; rfl)
    go_enter Tryz.func22, Tryz.ntmps22
    go_wp2_with fail
    refine ((unhide hr) _ ((unhide bA) _)).mono ?_
    rintro e w1 ⟨rfl, hc1, hk1⟩
    have hz1 : w.heap.size < w1.heap.size := by have := hk1.size; simp at this; omega
    go_wp2_with fail
    refine ((unhide hn) _ (hc1.below ((Below.refl _ _).alloc (Nat.le_refl _) _))).mono ?_
    rintro e w2 ⟨rfl, hc2, hk2⟩
    have hD2 := (hk2.block w1.heap.size (by simp) (by have := hc1.lt; omega)).trans (heap_alloc_new w1 _)
    have hk12 := hk1.trans ((Kp.of ((Below.refl _ _).alloc (Nat.le_refl _) _)).trans hk2)
    have hR2 := (unhide hZ) _ w2 hk12
    have hz2 : w.heap.size < w2.heap.size := by have := hk2.size; simp at this; omega
    have hz3 : w1.heap.size < w2.heap.size := by have := hk2.size; simp at this; omega
    have d1 : ∀ o, (w2.alloc o).cell? ⟨w1.heap.size, 1, none⟩ = some (.int .i64 t.ln) := fun o => (dt.cell_cells ((Below.heap_alloc w2 o w1.heap.size hz3).trans hD2) 1).trans rfl
    have d2 : ∀ o, (w2.alloc o).cell? ⟨w1.heap.size, 2, none⟩ = some (.int .i64 t.co) := fun o => (dt.cell_cells ((Below.heap_alloc w2 o w1.heap.size hz3).trans hD2) 2).trans rfl
    have HT := hide (fun o => dt.there_cells ((Below.heap_alloc w2 o w.heap.size hz2).trans hR2) (o := 0) (n := 7) (by decide))
    have HK := hide ((Kp.of ((unhide bA) _)).trans hk12)
    have HC := hide hc2
    clear hr hn hk1 hk2 hk12 hc1 hc2 hZ bA hR2 hD2
    go_wp2_with (first
      | refine wpList_store_mid (by rfl) 32 _ _ (by rfl) w.heap.size 0 #[.int .i64 1, .string A, .bool false, .slice none 0 0, .slice none 0 0, .int .i64 t.ln, .int .i64 t.co] (by rfl) (by rfl) ((unhide HT) _) infoLt (dt.one_cells (cs := [.int .i64 1, .string A, .bool false, .slice none 0 0, .slice none 0 0, .int .i64 t.ln, .int .i64 t.co]) (by rfl)) ?_)
    refine bodyPost_ret (rgn.result_row_tmp rfl _ _ w.heap.size 0 [.int .i64 1, .string A, .bool false, .slice none 0 0, .slice none 0 0, .int .i64 t.ln, .int .i64 t.co] _ rfl (World.rangeAt_setCells_same _ _ _ _ ((unhide HT) _)) Tryz.underlying32 rfl infoLt) rfl ?_
    exact ⟨by rw [unhide hV2]; rfl, ((unhide HC).below ((Below.refl _ _).alloc (Nat.le_refl _) _)).out hne hnp _ _, ((unhide HK).trans (Kp.of ((Below.refl _ _).alloc (Nat.le_refl _) _))).out (Nat.le_refl _) _ _⟩
end Go.Proofs.YtdmfbahnhkdamaaGreat.cu
namespace Go.Proofs.YtdmfbahnhkdamaaGreat.cu
open Go.ChangeShapes Go.WideShapes Go.ChangeAt Go.RowKit
open ints (hide unhide)
open dt (Dt Kp RowAt Ow)
set_option linter.unusedVariables false
set_option linter.unusedSimpArgs false
theorem infoAr : (Tryz.prog.info? 51).map (·.size) = some 10 := by kernel_rfl
theorem infoLf : (Tryz.prog.info? 42).map (·.size) = some 10 := by kernel_rfl
/-- a literal's cells -/
def LShape (cs : List Value) : Prop := ∃ (k : Int) (tx : ByteArray) (bl : Bool) (ai : Option Addr) (ni ci : Nat) (af : Option Addr) (nf cf : Nat) (ln co : Int), cs = [.int .i64 k, .string tx, .bool bl, .slice ai ni ci, .slice af nf cf, .int .i64 ln, .int .i64 co]
theorem leaf_shape (k : Int) (tx : ByteArray) (bl : Bool) (ln co : Int) : LShape (leafC k tx bl ln co) := ⟨k, tx, bl, none, 0, 0, none, 0, 0, ln, co, rfl⟩
structure LitPost (d : Dt) (w w' : World) (cs : List Value) (F : List Nat) : Prop where
  shape : LShape cs
  own : Ow w' d cs F
  nodup : F.Nodup
  rng : ∀ b ∈ F, w.heap.size ≤ b ∧ b < w'.heap.size
def LitAt (L : Cu → Option Dt × Cu) (ct : Bool) (c : Cu) : Prop := ∀ (B p : Nat) (w : World), CurAt w B p c → Calls Tryz.prog 11 #[ptr B, .bool ct] w fun e w' => ∃ cs F, e = .returned (.tuple #[.agg cs.toArray, .bool (L c).1.isSome]) ∧ LitPost ((L c).1.getD zeroD) w w' cs F ∧ CurAt w' B p (L c).2 ∧ Kp B w w'
def fldZ : Dt := fldD em zeroD 0 0
structure FldPost (d : Dt) (w w' : World) (cs : List Value) (F : List Nat) : Prop where
  shape : ∃ nm ds ln co, LShape ds ∧ cs = Value.string nm :: (ds ++ [.int .i64 ln, .int .i64 co])
  own : Ow w' d cs F
  nodup : F.Nodup
  rng : ∀ b ∈ F, w.heap.size ≤ b ∧ b < w'.heap.size
def FldAt (f : Nat) (E : Cu → Option Dt × Cu) (ct : Bool) (c : Cu) : Prop := ∀ (B p : Nat) (w : World), CurAt w B p c → Calls Tryz.prog f #[ptr B, .bool ct] w fun e w' => ∃ cs F, e = .returned (.tuple #[.agg cs.toArray, .bool (E c).1.isSome]) ∧ FldPost ((E c).1.getD fldZ) w w' cs F ∧ CurAt w' B p (E c).2 ∧ Kp B w w'
theorem ow_app {w : World} : ∀ (d e : Dt) (cs ds : List Value) (F G : List Nat), Ow w d cs F → Ow w e ds G → Ow w (app d e) (cs ++ ds) (F ++ G)
  | .nil, e, cs, ds, F, G, h, h' => by
    unfold Ow at h
    obtain ⟨rfl, rfl⟩ := h
    exact h'
  | .val v r, e, cs, ds, F, G, h, h' => by
    unfold Ow at h
    obtain ⟨xs, rfl, h1, h2⟩ := h
    unfold app Ow
    exact ⟨xs ++ ds, rfl, h1, ow_app r e xs ds F G h2 h'⟩
  | .lst k rs r, e, cs, ds, F, G, h, h' => by
    unfold Ow at h
    obtain ⟨a, n, c, xs, F1, F2, rfl, h1, h2, h3, h4, h5, rfl⟩ := h
    unfold app Ow
    exact ⟨a, n, c, xs ++ ds, F1, F2 ++ G, rfl, h1, h2, h3, h4, ow_app r e xs ds F2 G h5 h', by simp⟩
  | .row _ _, e, cs, ds, F, G, h, h' => by unfold Ow at h; exact h.elim
theorem pos_ow (w : World) (x y : Int) : Ow w (.val (.int .i64 x) (.val (.int .i64 y) .nil)) [.int .i64 x, .int .i64 y] [] := by
  unfold Ow
  refine ⟨_, rfl, rfl, ?_⟩
  unfold Ow
  refine ⟨_, rfl, rfl, ?_⟩
  unfold Ow
  exact ⟨rfl, rfl⟩
theorem fld_ow {w : World} {nm : ByteArray} {v : Dt} {cs : List Value} {F : List Nat} (h : Ow w v cs F) (x y : Int) : Ow w (fldD nm v x y) (.string nm :: (cs ++ [.int .i64 x, .int .i64 y])) F := by
  unfold fldD Ow
  refine ⟨_, rfl, rfl, ?_⟩
  have := ow_app v _ cs _ F [] h (pos_ow w x y)
  simpa using this
theorem ow_kp {w w' : World} {B lo : Nat} {d : Dt} {cs : List Value} {F : List Nat} (h : Ow w d cs F) (hk : Kp B w w') (hB : B < lo) (hr : ∀ b ∈ F, lo ≤ b ∧ b < w.heap.size) : Ow w' d cs F :=
  Ow.agree d cs F (fun b hb o => hk.cell (hr b hb).2 (by have := (hr b hb).1; omega)) h
theorem ow_below {w w' : World} {d : Dt} {cs : List Value} {F : List Nat} (h : Ow w d cs F) (hk : Below w.heap.size w w') (hr : ∀ b ∈ F, b < w.heap.size) : Ow w' d cs F :=
  Ow.agree d cs F (fun b hb o => hk.cell (p := ⟨b, o, none⟩) (hr b hb)) h
theorem ow_out {w : World} {d : Dt} {cs : List Value} {F : List Nat} (h : Ow w d cs F) {b : Nat} (hb : b ∉ F) (o : Nat) (vs : List Value) : Ow (w.setCells b o vs) d cs F :=
  Ow.agree d cs F (fun c hc j => dt.cell_blk (dt.heap_setCells b c (fun e => hb (e ▸ hc)) vs o w) j) h
set_option maxRecDepth 4000 in
set_option maxHeartbeats 1000000 in
theorem arg_ok (L : Cu → Option Dt × Cu) (ct : Bool) (c : Cu) (hc0 : c.Ok) (hL : LitAt L ct (c.name.want bCol)) (hdead : (L (c.name.want bCol)).1.isSome = true → c.isN = true) : FldAt 48 (argS L) ct c := by
  intro B p w h
  have hn := hide (fun W (bb : Below w.heap.size w W) => nameAny_ok B p c W (h.below bb))
  have hw := hide (fun W (hc : CurAt W B p c.name) => want_ok B p c.name bCol W hc)
  have hl := hide (fun W (hc : CurAt W B p (c.name.want bCol)) => hL B p W hc)
  have hlt := h.lt
  have hplt := h.plt
  have hne : B ≠ w.heap.size := by omega
  have hnp : p ≠ w.heap.size := by omega
  have bA := hide (fun o => show Below w.heap.size w (w.alloc o) from (Below.refl _ _).alloc (Nat.le_refl _) _)
  have hZ := hide (fun o W (hk : Kp B (w.alloc o) W) => show W.heap[w.heap.size]? = some o from (hk.block w.heap.size (by simp) (by omega)).trans (heap_alloc_new w o))
  have hs0 := hide (show (L (c.name.want bCol)).1 = none → argS L c = (none, (L (c.name.want bCol)).2) from fun e => by unfold argS; rw [e])
  have hs1 := hide (show ∀ v, (L (c.name.want bCol)).1 = some v → argS L c = (some (fldD c.tok.tx v c.tok.ln c.tok.co), (L (c.name.want bCol)).2) from fun v e => by unfold argS; rw [e])
  rw [nmT_form] at hn
  obtain ⟨U, hU⟩ : ∃ U, U = L (c.name.want bCol) := ⟨_, rfl⟩
  rw [← hU] at hl hs0 hs1 hdead
  clear h hL hU
  obtain ⟨r, C⟩ := U
  obtain ⟨A, hA⟩ : ∃ A, A = if c.isN then c.tok.tx else em := ⟨_, rfl⟩
  obtain ⟨X, hX⟩ : ∃ X, X = if c.isN then c.tok.ln else 0 := ⟨_, rfl⟩
  obtain ⟨Y, hY⟩ : ∃ Y, Y = if c.isN then c.tok.co else 0 := ⟨_, rfl⟩
  rw [← hA, ← hX, ← hY] at hn
  have HA := hide (And.intro hA (And.intro hX hY))
  clear hA hX hY
  unfold ptr at hn hw hl ⊢
  go_enter Tryz.func48, Tryz.ntmps48
  go_wp2_with fail
  refine ((unhide hn) _ ((unhide bA) _)).mono ?_
  rintro e w1 ⟨rfl, hc1, hk1⟩
  go_wp2_with fail
  refine ((unhide hw) _ (hc1.below ((Below.refl _ _).alloc (Nat.le_refl _) _))).mono ?_
  rintro e w2 ⟨rfl, hc2, hk2⟩
  go_wp2_with fail
  refine ((unhide hl) _ hc2).mono ?_
  rintro e w3 ⟨cs, F, rfl, hpo, hc3, hk3⟩
  have hB1 := hc1.lt
  have hk23 := hk2.trans hk3
  have hN3 := (hk23.block w1.heap.size (by simp) (by omega)).trans (heap_alloc_new w1 _)
  have hk13 := hk1.trans ((Kp.of ((Below.refl _ _).alloc (Nat.le_refl _) _)).trans hk23)
  have hR3 := (unhide hZ) _ w3 hk13
  have hz1 : w.heap.size < w1.heap.size := by have := hk1.size; simp at this; omega
  have hz3 : w1.heap.size < w3.heap.size := by have := hk23.size; simp at this; omega
  have HK := hide ((Kp.of ((unhide bA) _)).trans hk13)
  have HC := hide hc3
  have hrF : ∀ b ∈ F, w1.heap.size < b ∧ b < w3.heap.size := fun b hb => ⟨by have := (hpo.rng b hb).1; have := hk2.size; simp at this; omega, (hpo.rng b hb).2⟩
  obtain ⟨k, tx, bl, ai, ni, ci, af, nf, cf, ln, co, rfl⟩ := hpo.shape
  have HP := hide hpo
  have n0 : ∀ o, (w3.alloc o).cell? ⟨w1.heap.size, 0, none⟩ = some (.string A) := fun o => (dt.cell_cells ((Below.heap_alloc w3 o w1.heap.size hz3).trans hN3) 0).trans rfl
  have n1 : ∀ o, (w3.alloc o).cell? ⟨w1.heap.size, 1, none⟩ = some (.int .i64 X) := fun o => (dt.cell_cells ((Below.heap_alloc w3 o w1.heap.size hz3).trans hN3) 1).trans rfl
  have n2 : ∀ o, (w3.alloc o).cell? ⟨w1.heap.size, 2, none⟩ = some (.int .i64 Y) := fun o => (dt.cell_cells ((Below.heap_alloc w3 o w1.heap.size hz3).trans hN3) 2).trans rfl
  have HT := hide (fun o => dt.there_cells ((Below.heap_alloc w3 o w.heap.size (by omega)).trans hR3) (o := 0) (n := 10) (by decide))
  clear hn hw hl hk1 hk2 hk3 hk23 hk13 hc1 hc2 hc3 hZ bA hR3 hN3 hpo
  cases r with
  | none =>
    have hs2 := hide ((unhide hs0) rfl)
    clear hs0 hs1
    go_wp2_with (first
      | refine wpList_store_mid (by rfl) 51 _ _ (by rfl) w.heap.size 0 #[.string ⟨#[]⟩, .int .i64 0, .string ⟨#[]⟩, .bool false, .slice none 0 0, .slice none 0 0, .int .i64 0, .int .i64 0, .int .i64 0, .int .i64 0] (by rfl) (by rfl) ((unhide HT) _) infoAr (dt.one_cells (cs := [.string ⟨#[]⟩, .int .i64 0, .string ⟨#[]⟩, .bool false, .slice none 0 0, .slice none 0 0, .int .i64 0, .int .i64 0, .int .i64 0, .int .i64 0]) (by rfl)) ?_)
    refine bodyPost_ret (rgn.result_row_tmp rfl _ _ w.heap.size 0 [.string ⟨#[]⟩, .int .i64 0, .string ⟨#[]⟩, .bool false, .slice none 0 0, .slice none 0 0, .int .i64 0, .int .i64 0, .int .i64 0, .int .i64 0] _ rfl (World.rangeAt_setCells_same _ _ _ _ ((unhide HT) _)) Tryz.underlying51 rfl infoAr) rfl ?_
    rw [unhide hs2]
    exact ⟨_, [], rfl, ⟨⟨em, leafC 0 em false 0 0, 0, 0, leaf_shape .., rfl⟩, fld_ow (leaf_ow _ 0 em false 0 0) 0 0, List.nodup_nil, by simp⟩, ((unhide HC).below ((Below.refl _ _).alloc (Nat.le_refl _) _)).out hne hnp _ _, ((unhide HK).trans (Kp.of ((Below.refl _ _).alloc (Nat.le_refl _) _))).out (Nat.le_refl _) _ _⟩
  | some v =>
    have hs2 := hide ((unhide hs1) v rfl)
    clear hs0 hs1
    go_wp2_with (first
      | refine wpList_store_mid (by rfl) 51 _ _ (by rfl) w.heap.size 0 #[.string A, .int .i64 k, .string tx, .bool bl, .slice ai ni ci, .slice af nf cf, .int .i64 ln, .int .i64 co, .int .i64 X, .int .i64 Y] (by rfl) (by rfl) ((unhide HT) _) infoAr (dt.one_cells (cs := [.string A, .int .i64 k, .string tx, .bool bl, .slice ai ni ci, .slice af nf cf, .int .i64 ln, .int .i64 co, .int .i64 X, .int .i64 Y]) (by rfl)) ?_)
    refine bodyPost_ret (rgn.result_row_tmp rfl _ _ w.heap.size 0 [.string A, .int .i64 k, .string tx, .bool bl, .slice ai ni ci, .slice af nf cf, .int .i64 ln, .int .i64 co, .int .i64 X, .int .i64 Y] _ rfl (World.rangeAt_setCells_same _ _ _ _ ((unhide HT) _)) Tryz.underlying51 rfl infoAr) rfl ?_
    have hiN := hdead rfl
    have hA2 := unhide HA
    rw [hiN] at hA2
    have hown := fld_ow (nm := A) (ow_out (ow_below (unhide HP).own ((Below.refl _ _).alloc (Nat.le_refl _) (.cells #[.int .i64 k, .string tx, .bool bl, .slice ai ni ci, .slice af nf cf, .int .i64 ln, .int .i64 co] 32)) (fun b hb => (hrF b hb).2)) (b := w.heap.size) (fun hb => by have := (hrF _ hb).1; omega) 0 [.string A, .int .i64 k, .string tx, .bool bl, .slice ai ni ci, .slice af nf cf, .int .i64 ln, .int .i64 co, .int .i64 X, .int .i64 Y]) X Y
    rw [unhide hs2]
    refine ⟨_, F, rfl, ⟨⟨A, [.int .i64 k, .string tx, .bool bl, .slice ai ni ci, .slice af nf cf, .int .i64 ln, .int .i64 co], X, Y, ⟨k, tx, bl, ai, ni, ci, af, nf, cf, ln, co, rfl⟩, rfl⟩, ?_, (unhide HP).nodup, fun b hb => ⟨by have := (hrF b hb).1; omega, by rw [dt.size_setCells]; have := (hrF b hb).2; simp; omega⟩⟩, ((unhide HC).below ((Below.refl _ _).alloc (Nat.le_refl _) _)).out hne hnp _ _, ((unhide HK).trans (Kp.of ((Below.refl _ _).alloc (Nat.le_refl _) _))).out (Nat.le_refl _) _ _⟩
    show Ow _ (fldD c.tok.tx v c.tok.ln c.tok.co) _ F
    rw [show c.tok.tx = A from hA2.1.symm, show c.tok.ln = X from hA2.2.1.symm, show c.tok.co = Y from hA2.2.2.symm]
    exact hown
end Go.Proofs.YtdmfbahnhkdamaaGreat.cu
namespace Go.Proofs.YtdmfbahnhkdamaaGreat.dt
open Go.ChangeShapes Go.WideShapes Go.ChangeAt Go.RowKit
set_option linter.unusedVariables false
/-- one more, the rows known -/
theorem Grow.more {t : TypeId} {size : Nat} {w w' : World} {B : Nat} {l : List Dt} {sl sl' : Value} {G : List Nat} {d : Dt} {ds : List Value} {F : List Nat} (h : Grow t size w B l sl G) {xss : List (List Value)} (hol : OwL Ow w l xss G) (hx : ∀ xs ∈ xss, xs.length = size) (hd : Ow w d ds F) (hn : F.Nodup) (hF : ∀ b ∈ F, B ≤ b ∧ b < w.heap.size ∧ b ∉ G ∧ sl.ownBlock ≠ some b) (hl : ds.length = size)
    (hrow : w'.ownsRow B t size sl' (l.length + 1) (xss.flatten ++ ds)) (hs : w.heap.size ≤ w'.heap.size) (hold : ∀ b, b < w.heap.size → sl.ownBlock ≠ some b → w'.heap[b]? = w.heap[b]?) (hat : ∀ b, sl'.ownBlock = some b → sl.ownBlock = some b ∨ w.heap.size ≤ b) : Grow t size w' B (l ++ [d]) sl' (G ++ F) := by
  refine ⟨?_, ?_, ?_, xss ++ [ds], ?_, ?_, ?_⟩
  · rw [List.nodup_append]
    exact ⟨h.nodup, hn, fun x hx y hy e => (hF y hy).2.2.1 (e ▸ hx)⟩
  · intro b hb
    rcases List.mem_append.1 hb with hb | hb
    · exact ⟨(h.rng b hb).1, Nat.lt_of_lt_of_le (h.rng b hb).2 hs⟩
    · exact ⟨(hF b hb).1, Nat.lt_of_lt_of_le (hF b hb).2.1 hs⟩
  · intro b hb e
    have hlt' : b < w.heap.size := by
      rcases List.mem_append.1 hb with hb | hb
      · exact (h.rng b hb).2
      · exact (hF b hb).2.1
    rcases hat b e with hat | hat
    · rcases List.mem_append.1 hb with hb | hb
      · exact h.own b hb hat
      · exact (hF b hb).2.2.2 hat
    · omega
  · simpa using hrow
  · refine OwL.agree (fun w w' e cs F => Ow.agree e cs F) (fun b hb j => ?_) (OwL.snoc hd hol)
    rcases List.mem_append.1 hb with hb | hb
    · exact cell_blk (hold b (h.rng b hb).2 (h.own b hb)) j
    · exact cell_blk (hold b (hF b hb).2.1 (hF b hb).2.2.2) j
  · intro xs hxs
    rcases List.mem_append.1 hxs with hxs | hxs
    · exact hx xs hxs
    · obtain rfl : xs = ds := by simpa using hxs
      exact hl
end Go.Proofs.YtdmfbahnhkdamaaGreat.dt
