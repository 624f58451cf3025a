import Derived.Test.YtfegalieiiaopabCw5
namespace Go.Proofs.Ytfegalieiiaopab.cu
open Go.ChangeShapes Go.WideShapes Go.ChangeAt Go.RowKit
open ints (hide unhide)
open dt (Dt Kp RowAt Ow Grow)
set_option linter.unusedVariables false
set_option linter.unusedSimpArgs false
set_option maxRecDepth 4000 in
set_option maxHeartbeats 1000000 in
theorem field_ok (E : Cu → Option Dt × Cu) (ct : Bool) (c : Cu) (hA : FldAt 52 E ct c) : FldAt 39 E ct c := by
  intro B p w h
  have ha := hide (fun W (bb : Below w.heap.size w W) => hA B p W (h.below bb))
  have hlt := h.lt
  have hplt := h.plt
  have hne : B ≠ w.heap.size := by omega
  have hnp : p ≠ w.heap.size := by omega
  have bA := hide (fun o => show Below w.heap.size w (w.alloc o) from (Below.refl _ _).alloc (Nat.le_refl _) _)
  have hZ := hide (fun o W (hk : Kp B (w.alloc o) W) => show W.heap[w.heap.size]? = some o from (hk.block w.heap.size (by simp) (by omega)).trans (heap_alloc_new w o))
  obtain ⟨U, hU⟩ : ∃ U, U = E c := ⟨_, rfl⟩
  rw [← hU] at ha ⊢
  clear h hU hA
  obtain ⟨r, C⟩ := U
  unfold ptr at ha ⊢
  go_enter Try.func39, Try.ntmps39
  go_wp2_with fail
  refine ((unhide ha) _ ((unhide bA) _)).mono ?_
  rintro e w2 ⟨cs, F, rfl, hpo, hc2, hk2⟩
  obtain ⟨nm, ds, X, Y, ⟨k, tx, bl, ai, ni, ci, af, nf, cf, ln, co, rfl⟩, rfl⟩ := hpo.shape
  have hR2 := (unhide hZ) _ w2 hk2
  have hz2 : w.heap.size < w2.heap.size := by have := hk2.size; simp at this; omega
  have HT := hide (fun o => dt.there_cells ((Below.heap_alloc w2 o w.heap.size hz2).trans hR2) (o := 0) (n := 10) (by decide))
  have HK := hide ((Kp.of ((unhide bA) _)).trans hk2)
  have HC := hide hc2
  have HP := hide hpo
  have hrF : ∀ b ∈ F, w.heap.size < b ∧ b < w2.heap.size := fun b hb => ⟨by have := (hpo.rng b hb).1; simp at this; omega, (hpo.rng b hb).2⟩
  clear ha hk2 hc2 hZ bA hR2 hpo
  go_wp2_with (first
    | refine wpList_store_mid (by rfl) 45 _ _ (by rfl) w.heap.size 0 #[.string nm, .int .i64 k, .string tx, .bool bl, .slice ai ni ci, .slice af nf cf, .int .i64 ln, .int .i64 co, .int .i64 X, .int .i64 Y] (by rfl) (by rfl) ((unhide HT) _) infoLf (dt.one_cells (cs := [.string nm, .int .i64 k, .string tx, .bool bl, .slice ai ni ci, .slice af nf cf, .int .i64 ln, .int .i64 co, .int .i64 X, .int .i64 Y]) (by rfl)) ?_)
  refine bodyPost_ret (rgn.result_row_tmp rfl _ _ w.heap.size 0 [.string nm, .int .i64 k, .string tx, .bool bl, .slice ai ni ci, .slice af nf cf, .int .i64 ln, .int .i64 co, .int .i64 X, .int .i64 Y] _ rfl (World.rangeAt_setCells_same _ _ _ _ ((unhide HT) _)) Try.underlying45 rfl infoLf) rfl ?_
  have hown := ow_out (ow_below (unhide HP).own ((Below.refl _ _).alloc (Nat.le_refl _) (.cells #[.string nm, .int .i64 k, .string tx, .bool bl, .slice ai ni ci, .slice af nf cf, .int .i64 ln, .int .i64 co, .int .i64 X, .int .i64 Y] 102)) (fun b hb => (hrF b hb).2)) (b := w.heap.size) (fun hb => by have := (hrF _ hb).1; omega) 0 [.string nm, .int .i64 k, .string tx, .bool bl, .slice ai ni ci, .slice af nf cf, .int .i64 ln, .int .i64 co, .int .i64 X, .int .i64 Y]
  exact ⟨_, F, rfl, ⟨⟨nm, _, X, Y, ⟨k, tx, bl, ai, ni, ci, af, nf, cf, ln, co, rfl⟩, rfl⟩, hown, (unhide HP).nodup, fun b hb => ⟨by have := (hrF b hb).1; omega, by rw [dt.size_setCells]; have := (hrF b hb).2; simp; omega⟩⟩, ((unhide HC).below ((Below.refl _ _).alloc (Nat.le_refl _) _)).out hne hnp _ _, ((unhide HK).trans (Kp.of ((Below.refl _ _).alloc (Nat.le_refl _) _))).out (Nat.le_refl _) _ _⟩
theorem word_form (t : Tk) : ∃ (k : Int) (s : ByteArray), wordC t t.tx = leafC k s false t.ln t.co ∧ wordD t = litD k s false .nil .nil t.ln t.co := by
  unfold wordC wordD
  split
  · exact ⟨5, t.tx, rfl, rfl⟩
  · split
    · exact ⟨6, em, rfl, rfl⟩
    · exact ⟨7, t.tx, rfl, rfl⟩
theorem var_post (c : Cu) : ∃ d, (varS c).1.getD zeroD = d ∧ (varS c).1.isSome = c.take.isN ∧ (varS c).2 = c.take.name ∧ ∃ k s ln co, varC c = leafC k s false ln co ∧ d = litD k s false .nil .nil ln co := by
  unfold varS varC
  split
  · exact ⟨_, rfl, by simp [*], rfl, _, _, _, _, rfl, rfl⟩
  · exact ⟨_, rfl, by simp [*], rfl, 0, em, 0, 0, rfl, rfl⟩
set_option maxRecDepth 4000 in
set_option maxHeartbeats 8000000 in
theorem lit_ok (L : Cu → Option Dt × Cu) (ct : Bool) (c : Cu) (hc0 : c.Ok) (hls' : LitFn 23 (listS L) ct c) (hob' : LitFn 24 (objS L) ct c) : LitAt (litS L ct) ct c := by
  intro B p w h
  have hd := hide (fun W (bb : Below w.heap.size w W) => dead_ok B p c W (h.below bb))
  have ht := hide (fun W (bb : Below w.heap.size w W) => token_ok B p c W (h.below bb))
  have hip := hide (fun q W (bb : Below w.heap.size w W) => isPunct_ok B p c q W (h.below bb))
  have hrf := hide (fun W (bb : Below w.heap.size w W) => refuse0_ok B p c W (h.below bb))
  have hls := hide (fun W (bb : Below w.heap.size w W) => hls' B p W (h.below bb))
  have hob := hide (fun W (bb : Below w.heap.size w W) => hob' B p W (h.below bb))
  have hlt := h.lt
  have hplt := h.plt
  have hne : B ≠ w.heap.size := by omega
  have hnp : p ≠ w.heap.size := by omega
  have bA := hide (fun o => show Below w.heap.size w (w.alloc o) from (Below.refl _ _).alloc (Nat.le_refl _) _)
  have hZ := hide (fun o W (hk : Kp B (w.alloc o) W) => show W.heap[w.heap.size]? = some o from (hk.block w.heap.size (by simp) (by omega)).trans (heap_alloc_new w o))
  by_cases hkd : c.kd = 0
  · have ekd : (c.kd != 0) = false := by simpa using hkd
    have hm : ∀ k : Int, c.tok.k = k → k ≠ 0 → k ≠ 1 → c.ix + 1 < c.ts.length := fun k e h0 h1 => more_of hc0 (by rw [e]; exact h0) (by rw [e]; exact h1)
    have hSS := hide (show litS L ct c = (if c.tok.k = 4 then (some (litD 2 c.tok.tx false .nil .nil c.tok.ln c.tok.co), c.take)
      else if c.tok.k = 5 then (some (litD 3 c.tok.tx false .nil .nil c.tok.ln c.tok.co), c.take)
      else if c.tok.k = 6 ∨ c.tok.k = 7 then (some (litD 4 c.tok.va (decide (c.tok.k = 7)) .nil .nil c.tok.ln c.tok.co), c.take)
      else if c.tok.k = 3 then (some (wordD c.tok), c.take)
      else if c.isP bDol ∧ ct = false then varS c
      else if c.isP bLb then listS L c
      else if c.isP bLc then objS L c
      else (none, c.stop 70)) from by unfold litS; rw [if_neg (fun e => e hkd)])
    have hl := hide (fun k s W (bb : Below w.heap.size w W) (hm : c.ix + 1 < c.ts.length) => leaf_ok B p c k s W (h.below bb) hm)
    have hwd := hide (fun s W (bb : Below w.heap.size w W) (hm : c.ix + 1 < c.ts.length) => word_ok B p c s W (h.below bb) hm)
    have hvr := hide (fun W (bb : Below w.heap.size w W) (hm : c.ix + 1 < c.ts.length) => var_ok B p c W (h.below bb) hm)
    have hmP := hide (fun q (e : c.isP q = true) => isP_more hc0 e)
    obtain ⟨t, et⟩ : ∃ t, t = c.tok := ⟨_, rfl⟩
    rw [← et] at ht hl hwd hSS hm
    rw [ekd] at hd
    have Het := hide et
    clear h et hls' hob' hkd ekd
    unfold Tk.cells at ht
    unfold leafC at hl
    unfold ptr at hd ht hip hrf hls hob hl hwd hvr ⊢
    by_cases h4 : t.k = 4
    · have e4 : (t.k == 4) = true := by simpa using h4
      have hmm := hm 4 h4 (by decide) (by decide)
      have hl := hide (fun k s W bb => (unhide hl) k s W bb hmm)
      have hs2 := hide (show litS L ct c = (some (litD 2 t.tx false .nil .nil t.ln t.co), c.take) from by rw [unhide hSS, if_pos h4])
      clear h4 hm hSS hmm
      go_enter Try.func10, Try.ntmps10
      go_wp2_with fail
      refine ((unhide hd) _ ((unhide bA) _)).mono ?_
      rintro e w1 ⟨rfl, rfl⟩
      go_wp2_with fail
      refine ((unhide ht) _ ((unhide bA) _)).mono ?_
      rintro e w1 ⟨rfl, b1⟩
      have bw1 := ((unhide bA) _).trans (b1.mono ((unhide bA) _).size)
      have bw2 := fun o => bw1.alloc bw1.size o
      go_wp2_with fail
      refine ((unhide hl) 2 t.tx _ (bw2 _)).mono ?_
      rintro e w2 ⟨rfl, hc2, hk2⟩
      have hk02 := (Kp.of b1).trans ((Kp.of ((Below.refl _ _).alloc (Nat.le_refl _) _)).trans hk2)
      have hR2 := (unhide hZ) _ w2 hk02
      have HT := hide (dt.there_cells hR2 (o := 0) (n := 7) (by decide))
      have HK := hide ((Kp.of ((unhide bA) _)).trans hk02)
      have HC := hide hc2
      clear hl hwd hvr hls hob hip hrf ht hd hk2 hk02 hc2 hZ bA hR2 bw1 bw2
      go_wp2_with (first
        | refine wpList_store_mid (by rfl) 32 _ _ (by rfl) w.heap.size 0 #[.int .i64 2, .string t.tx, .bool false, .slice none 0 0, .slice none 0 0, .int .i64 t.ln, .int .i64 t.co] (by rfl) (by rfl) (unhide HT) infoLt (dt.one_cells (cs := [.int .i64 2, .string t.tx, .bool false, .slice none 0 0, .slice none 0 0, .int .i64 t.ln, .int .i64 t.co]) (by rfl)) ?_)
      refine bodyPost_ret (rgn.result_row_tmp rfl _ _ w.heap.size 0 [.int .i64 2, .string t.tx, .bool false, .slice none 0 0, .slice none 0 0, .int .i64 t.ln, .int .i64 t.co] _ rfl (World.rangeAt_setCells_same _ _ _ _ (unhide HT)) Try.underlying32 rfl infoLt) rfl ?_
      rw [unhide hs2]
      exact ⟨_, [], rfl, ⟨leaf_shape 2 t.tx false t.ln t.co, leaf_ow _ 2 t.tx false t.ln t.co, List.nodup_nil, by simp⟩, (unhide HC).out hne hnp _ _, (unhide HK).out (Nat.le_refl _) _ _⟩
    have e4 : (t.k == 4) = false := by simpa using h4
    by_cases h5 : t.k = 5
    · have e5 : (t.k == 5) = true := by simpa using h5
      have hmm := hm 5 h5 (by decide) (by decide)
      have hl := hide (fun k s W bb => (unhide hl) k s W bb hmm)
      have hs2 := hide (show litS L ct c = (some (litD 3 t.tx false .nil .nil t.ln t.co), c.take) from by rw [unhide hSS, if_neg h4, if_pos h5])
      clear h4 h5 hm hSS hmm
      go_enter Try.func10, Try.ntmps10
      go_wp2_with fail
      refine ((unhide hd) _ ((unhide bA) _)).mono ?_
      rintro e w1 ⟨rfl, rfl⟩
      go_wp2_with fail
      refine ((unhide ht) _ ((unhide bA) _)).mono ?_
      rintro e w1 ⟨rfl, b1⟩
      have bw1 := ((unhide bA) _).trans (b1.mono ((unhide bA) _).size)
      have bw2 := fun o => bw1.alloc bw1.size o
      go_wp2_with fail
      refine ((unhide hl) 3 t.tx _ (bw2 _)).mono ?_
      rintro e w2 ⟨rfl, hc2, hk2⟩
      have hk02 := (Kp.of b1).trans ((Kp.of ((Below.refl _ _).alloc (Nat.le_refl _) _)).trans hk2)
      have hR2 := (unhide hZ) _ w2 hk02
      have HT := hide (dt.there_cells hR2 (o := 0) (n := 7) (by decide))
      have HK := hide ((Kp.of ((unhide bA) _)).trans hk02)
      have HC := hide hc2
      clear hl hwd hvr hls hob hip hrf ht hd hk2 hk02 hc2 hZ bA hR2 bw1 bw2
      go_wp2_with (first
        | refine wpList_store_mid (by rfl) 32 _ _ (by rfl) w.heap.size 0 #[.int .i64 3, .string t.tx, .bool false, .slice none 0 0, .slice none 0 0, .int .i64 t.ln, .int .i64 t.co] (by rfl) (by rfl) (unhide HT) infoLt (dt.one_cells (cs := [.int .i64 3, .string t.tx, .bool false, .slice none 0 0, .slice none 0 0, .int .i64 t.ln, .int .i64 t.co]) (by rfl)) ?_)
      refine bodyPost_ret (rgn.result_row_tmp rfl _ _ w.heap.size 0 [.int .i64 3, .string t.tx, .bool false, .slice none 0 0, .slice none 0 0, .int .i64 t.ln, .int .i64 t.co] _ rfl (World.rangeAt_setCells_same _ _ _ _ (unhide HT)) Try.underlying32 rfl infoLt) rfl ?_
      rw [unhide hs2]
      exact ⟨_, [], rfl, ⟨leaf_shape 3 t.tx false t.ln t.co, leaf_ow _ 3 t.tx false t.ln t.co, List.nodup_nil, by simp⟩, (unhide HC).out hne hnp _ _, (unhide HK).out (Nat.le_refl _) _ _⟩
    have e5 : (t.k == 5) = false := by simpa using h5
    by_cases h6 : t.k = 6
    · have e6 : (t.k == 6) = true := by simpa using h6
      have e7 : (t.k == 7) = false := by rw [h6]; rfl
      have hmm := hm 6 h6 (by decide) (by decide)
      have hl := hide (fun k s W bb => (unhide hl) k s W bb hmm)
      have hs2 := hide (show litS L ct c = (some (litD 4 t.va false .nil .nil t.ln t.co), c.take) from by rw [unhide hSS, if_neg h4, if_neg h5, if_pos (.inl h6), show decide (t.k = 7) = false from by rw [h6]; rfl])
      clear h4 h5 h6 hm hSS hmm
      go_enter Try.func10, Try.ntmps10
      go_wp2_with fail
      refine ((unhide hd) _ ((unhide bA) _)).mono ?_
      rintro e w1 ⟨rfl, rfl⟩
      go_wp2_with fail
      refine ((unhide ht) _ ((unhide bA) _)).mono ?_
      rintro e w1 ⟨rfl, b1⟩
      have bw1 := ((unhide bA) _).trans (b1.mono ((unhide bA) _).size)
      have bw2 := fun o => bw1.alloc bw1.size o
      go_wp2_with fail
      refine ((unhide hl) 4 t.va _ (bw2 _)).mono ?_
      rintro e w2 ⟨rfl, hc2, hk2⟩
      have hT2 := (hk2.block w1.heap.size (by simp) (by have := bw1.size; omega)).trans (heap_alloc_new w1 _)
      have hk02 := (Kp.of b1).trans ((Kp.of ((Below.refl _ _).alloc (Nat.le_refl _) _)).trans hk2)
      have hR2 := (unhide hZ) _ w2 hk02
      have hz2 : w.heap.size < w2.heap.size := by have := hk02.size; simp at this; omega
      have hz3 : w1.heap.size < w2.heap.size := by have := hk2.size; simp at this; omega
      have k0 : ∀ o, (w2.alloc o).cell? ⟨w1.heap.size, 0, none⟩ = some (.int .i64 t.k) := fun o => (dt.cell_cells ((Below.heap_alloc w2 o w1.heap.size hz3).trans hT2) 0).trans rfl
      have HT := hide (fun o => dt.there_cells ((Below.heap_alloc w2 o w.heap.size hz2).trans hR2) (o := 0) (n := 7) (by decide))
      have HK := hide ((Kp.of ((unhide bA) _)).trans hk02)
      have HC := hide hc2
      clear hl hwd hvr hls hob hip hrf ht hd hk2 hk02 hc2 hZ bA hR2 bw1 bw2 hT2
      go_wp2_with (first
        | refine wpList_store_mid (by rfl) 32 _ _ (by rfl) w.heap.size 0 #[.int .i64 4, .string t.va, .bool false, .slice none 0 0, .slice none 0 0, .int .i64 t.ln, .int .i64 t.co] (by rfl) (by rfl) ((unhide HT) _) infoLt (dt.one_cells (cs := [.int .i64 4, .string t.va, .bool false, .slice none 0 0, .slice none 0 0, .int .i64 t.ln, .int .i64 t.co]) (by rfl)) ?_)
      refine bodyPost_ret (rgn.result_row_tmp rfl _ _ w.heap.size 0 [.int .i64 4, .string t.va, .bool false, .slice none 0 0, .slice none 0 0, .int .i64 t.ln, .int .i64 t.co] _ rfl (World.rangeAt_setCells_same _ _ _ _ ((unhide HT) _)) Try.underlying32 rfl infoLt) rfl ?_
      rw [unhide hs2]
      exact ⟨_, [], rfl, ⟨leaf_shape 4 t.va false t.ln t.co, leaf_ow _ 4 t.va false t.ln t.co, List.nodup_nil, by simp⟩, ((unhide HC).below ((Below.refl _ _).alloc (Nat.le_refl _) _)).out hne hnp _ _, ((unhide HK).trans (Kp.of ((Below.refl _ _).alloc (Nat.le_refl _) _))).out (Nat.le_refl _) _ _⟩
    have e6 : (t.k == 6) = false := by simpa using h6
    by_cases h7 : t.k = 7
    · have e7 : (t.k == 7) = true := by simpa using h7
      have hmm := hm 7 h7 (by decide) (by decide)
      have hl := hide (fun k s W bb => (unhide hl) k s W bb hmm)
      have hs2 := hide (show litS L ct c = (some (litD 4 t.va true .nil .nil t.ln t.co), c.take) from by rw [unhide hSS, if_neg h4, if_neg h5, if_pos (.inr h7), show decide (t.k = 7) = true from by rw [h7]; rfl])
      clear h4 h5 h6 h7 hm hSS hmm
      go_enter Try.func10, Try.ntmps10
      go_wp2_with fail
      refine ((unhide hd) _ ((unhide bA) _)).mono ?_
      rintro e w1 ⟨rfl, rfl⟩
      go_wp2_with fail
      refine ((unhide ht) _ ((unhide bA) _)).mono ?_
      rintro e w1 ⟨rfl, b1⟩
      have bw1 := ((unhide bA) _).trans (b1.mono ((unhide bA) _).size)
      have bw2 := fun o => bw1.alloc bw1.size o
      go_wp2_with fail
      refine ((unhide hl) 4 t.va _ (bw2 _)).mono ?_
      rintro e w2 ⟨rfl, hc2, hk2⟩
      have hT2 := (hk2.block w1.heap.size (by simp) (by have := bw1.size; omega)).trans (heap_alloc_new w1 _)
      have hk02 := (Kp.of b1).trans ((Kp.of ((Below.refl _ _).alloc (Nat.le_refl _) _)).trans hk2)
      have hR2 := (unhide hZ) _ w2 hk02
      have hz2 : w.heap.size < w2.heap.size := by have := hk02.size; simp at this; omega
      have hz3 : w1.heap.size < w2.heap.size := by have := hk2.size; simp at this; omega
      have k0 : ∀ o, (w2.alloc o).cell? ⟨w1.heap.size, 0, none⟩ = some (.int .i64 t.k) := fun o => (dt.cell_cells ((Below.heap_alloc w2 o w1.heap.size hz3).trans hT2) 0).trans rfl
      have HT := hide (fun o => dt.there_cells ((Below.heap_alloc w2 o w.heap.size hz2).trans hR2) (o := 0) (n := 7) (by decide))
      have HK := hide ((Kp.of ((unhide bA) _)).trans hk02)
      have HC := hide hc2
      clear hl hwd hvr hls hob hip hrf ht hd hk2 hk02 hc2 hZ bA hR2 bw1 bw2 hT2
      go_wp2_with (first
        | refine wpList_store_mid (by rfl) 32 _ _ (by rfl) w.heap.size 0 #[.int .i64 4, .string t.va, .bool true, .slice none 0 0, .slice none 0 0, .int .i64 t.ln, .int .i64 t.co] (by rfl) (by rfl) ((unhide HT) _) infoLt (dt.one_cells (cs := [.int .i64 4, .string t.va, .bool true, .slice none 0 0, .slice none 0 0, .int .i64 t.ln, .int .i64 t.co]) (by rfl)) ?_)
      refine bodyPost_ret (rgn.result_row_tmp rfl _ _ w.heap.size 0 [.int .i64 4, .string t.va, .bool true, .slice none 0 0, .slice none 0 0, .int .i64 t.ln, .int .i64 t.co] _ rfl (World.rangeAt_setCells_same _ _ _ _ ((unhide HT) _)) Try.underlying32 rfl infoLt) rfl ?_
      rw [unhide hs2]
      exact ⟨_, [], rfl, ⟨leaf_shape 4 t.va true t.ln t.co, leaf_ow _ 4 t.va true t.ln t.co, List.nodup_nil, by simp⟩, ((unhide HC).below ((Below.refl _ _).alloc (Nat.le_refl _) _)).out hne hnp _ _, ((unhide HK).trans (Kp.of ((Below.refl _ _).alloc (Nat.le_refl _) _))).out (Nat.le_refl _) _ _⟩
    have e7 : (t.k == 7) = false := by simpa using h7
    by_cases h3 : t.k = 3
    · have e3 : (t.k == 3) = true := by simpa using h3
      have hmm := hm 3 h3 (by decide) (by decide)
      have hwd := hide (fun s W bb => (unhide hwd) s W bb hmm)
      have hs2 := hide (show litS L ct c = (some (wordD t), c.take) from by rw [unhide hSS, if_neg h4, if_neg h5, if_neg (fun e => e.elim h6 h7), if_pos h3])
      clear h4 h5 h6 h7 h3 hm hSS hmm
      go_enter Try.func10, Try.ntmps10
      go_wp2_with fail
      refine ((unhide hd) _ ((unhide bA) _)).mono ?_
      rintro e w1 ⟨rfl, rfl⟩
      go_wp2_with fail
      refine ((unhide ht) _ ((unhide bA) _)).mono ?_
      rintro e w1 ⟨rfl, b1⟩
      have bw1 := ((unhide bA) _).trans (b1.mono ((unhide bA) _).size)
      have bw2 := fun o => bw1.alloc bw1.size o
      go_wp2_with fail
      refine ((unhide hwd) t.tx _ (bw2 _)).mono ?_
      rintro e w2 ⟨rfl, hc2, hk2⟩
      have hk02 := (Kp.of b1).trans ((Kp.of ((Below.refl _ _).alloc (Nat.le_refl _) _)).trans hk2)
      have hR2 := (unhide hZ) _ w2 hk02
      have HT := hide (dt.there_cells hR2 (o := 0) (n := 7) (by decide))
      have HK := hide ((Kp.of ((unhide bA) _)).trans hk02)
      have HC := hide hc2
      obtain ⟨kk, tt, hwc, hwD⟩ := word_form t
      rw [hwc]
      rw [hwD] at hs2
      clear hl hwd hvr hls hob hip hrf ht hd hk2 hk02 hc2 hZ bA hR2 bw1 bw2
      unfold leafC
      go_wp2_with (first
        | refine wpList_store_mid (by rfl) 32 _ _ (by rfl) w.heap.size 0 #[.int .i64 kk, .string tt, .bool false, .slice none 0 0, .slice none 0 0, .int .i64 t.ln, .int .i64 t.co] (by rfl) (by rfl) (unhide HT) infoLt (dt.one_cells (cs := [.int .i64 kk, .string tt, .bool false, .slice none 0 0, .slice none 0 0, .int .i64 t.ln, .int .i64 t.co]) (by rfl)) ?_)
      refine bodyPost_ret (rgn.result_row_tmp rfl _ _ w.heap.size 0 [.int .i64 kk, .string tt, .bool false, .slice none 0 0, .slice none 0 0, .int .i64 t.ln, .int .i64 t.co] _ rfl (World.rangeAt_setCells_same _ _ _ _ (unhide HT)) Try.underlying32 rfl infoLt) rfl ?_
      rw [unhide hs2]
      exact ⟨_, [], rfl, ⟨leaf_shape kk tt false t.ln t.co, leaf_ow _ kk tt false t.ln t.co, List.nodup_nil, by simp⟩, (unhide HC).out hne hnp _ _, (unhide HK).out (Nat.le_refl _) _ _⟩
    have e3 : (t.k == 3) = false := by simpa using h3
    have hS2 := hide (show litS L ct c = (if c.isP bDol ∧ ct = false then varS c else if c.isP bLb then listS L c else if c.isP bLc then objS L c else (none, c.stop 70)) from by rw [unhide hSS, if_neg h4, if_neg h5, if_neg (fun e => e.elim h6 h7), if_neg h3])
    clear h4 h5 h6 h7 h3 hm hSS hl hwd
    cases hP1 : c.isP bDol
    · cases ct
      · cases hP2 : c.isP bLb
        · cases hP3 : c.isP bLc
          · have hs2 := hide (show litS L false c = (none, c.stop 70) from by rw [unhide hS2, if_neg (fun e => by rw [hP1] at e; exact absurd e.1 (by simp)), if_neg (by rw [hP2]; simp), if_neg (by rw [hP3]; simp)])
            clear hS2
            go_enter Try.func10, Try.ntmps10
            go_wp2_with fail
            refine ((unhide hd) _ ((unhide bA) _)).mono ?_
            rintro e w1 ⟨rfl, rfl⟩
            go_wp2_with fail
            refine ((unhide ht) _ ((unhide bA) _)).mono ?_
            rintro e w1 ⟨rfl, b1⟩
            have bw1 := ((unhide bA) _).trans (b1.mono ((unhide bA) _).size)
            have c2 := b1.alloc b1.size (.cells #[.int .i64 t.k, .int .i64 t.ln, .int .i64 t.co, .int .i64 t.fr, .int .i64 t.to, .string t.tx, .string t.va] 63)
            have bw2 := ((unhide bA) _).trans (c2.mono ((unhide bA) _).size)
            go_wp2_with fail
            refine ((unhide hip) bDol _ bw2).mono ?_
            rintro e w3 ⟨rfl, b3⟩
            rw [hP1]
            have c3 := c2.trans (b3.mono c2.size)
            have bw3 := ((unhide bA) _).trans (c3.mono ((unhide bA) _).size)
            go_wp2_with fail
            refine ((unhide hip) bLb _ bw3).mono ?_
            rintro e w4 ⟨rfl, b4⟩
            rw [hP2]
            have c4 := c3.trans (b4.mono c3.size)
            have bw4 := ((unhide bA) _).trans (c4.mono ((unhide bA) _).size)
            go_wp2_with fail
            refine ((unhide hip) bLc _ bw4).mono ?_
            rintro e w5 ⟨rfl, b5⟩
            rw [hP3]
            have c5 := c4.trans (b5.mono c4.size)
            have bw5 := ((unhide bA) _).trans (c5.mono ((unhide bA) _).size)
            go_wp2_with fail
            refine ((unhide hrf) _ bw5).mono ?_
            rintro e w9 ⟨rfl, hc9, hk9⟩
            have hk09 := (Kp.of c5).trans hk9
            have hR9 := (unhide hZ) _ w9 hk09
            have HT := hide (dt.there_cells hR9 (o := 0) (n := 7) (by decide))
            have HK := hide ((Kp.of ((unhide bA) _)).trans hk09)
            have HC := hide hc9
            clear hvr hls hob hip hrf ht hd hk9 hk09 hc9 hZ bA hR9
            go_wp2_with (first
              | refine wpList_store_mid (by rfl) 32 _ _ (by rfl) w.heap.size 0 #[.int .i64 0, .string ⟨#[]⟩, .bool false, .slice none 0 0, .slice none 0 0, .int .i64 0, .int .i64 0] (by rfl) (by rfl) (unhide HT) infoLt (dt.one_cells (cs := [.int .i64 0, .string ⟨#[]⟩, .bool false, .slice none 0 0, .slice none 0 0, .int .i64 0, .int .i64 0]) (by rfl)) ?_)
            refine bodyPost_ret (rgn.result_row_tmp rfl _ _ w.heap.size 0 [.int .i64 0, .string ⟨#[]⟩, .bool false, .slice none 0 0, .slice none 0 0, .int .i64 0, .int .i64 0] _ rfl (World.rangeAt_setCells_same _ _ _ _ (unhide HT)) Try.underlying32 rfl infoLt) rfl ?_
            rw [unhide hs2]
            exact ⟨_, [], rfl, ⟨leaf_shape 0 em false 0 0, leaf_ow _ 0 em false 0 0, List.nodup_nil, by simp⟩, (unhide HC).out hne hnp _ _, (unhide HK).out (Nat.le_refl _) _ _⟩
          · have hs2 := hide (show litS L false c = objS L c from by rw [unhide hS2, if_neg (fun e => by rw [hP1] at e; exact absurd e.1 (by simp)), if_neg (by rw [hP2]; simp), if_pos hP3])
            clear hS2
            go_enter Try.func10, Try.ntmps10
            go_wp2_with fail
            refine ((unhide hd) _ ((unhide bA) _)).mono ?_
            rintro e w1 ⟨rfl, rfl⟩
            go_wp2_with fail
            refine ((unhide ht) _ ((unhide bA) _)).mono ?_
            rintro e w1 ⟨rfl, b1⟩
            have bw1 := ((unhide bA) _).trans (b1.mono ((unhide bA) _).size)
            have c2 := b1.alloc b1.size (.cells #[.int .i64 t.k, .int .i64 t.ln, .int .i64 t.co, .int .i64 t.fr, .int .i64 t.to, .string t.tx, .string t.va] 63)
            have bw2 := ((unhide bA) _).trans (c2.mono ((unhide bA) _).size)
            go_wp2_with fail
            refine ((unhide hip) bDol _ bw2).mono ?_
            rintro e w3 ⟨rfl, b3⟩
            rw [hP1]
            have c3 := c2.trans (b3.mono c2.size)
            have bw3 := ((unhide bA) _).trans (c3.mono ((unhide bA) _).size)
            go_wp2_with fail
            refine ((unhide hip) bLb _ bw3).mono ?_
            rintro e w4 ⟨rfl, b4⟩
            rw [hP2]
            have c4 := c3.trans (b4.mono c3.size)
            have bw4 := ((unhide bA) _).trans (c4.mono ((unhide bA) _).size)
            go_wp2_with fail
            refine ((unhide hip) bLc _ bw4).mono ?_
            rintro e w5 ⟨rfl, b5⟩
            rw [hP3]
            have c5 := c4.trans (b5.mono c4.size)
            have bw5 := ((unhide bA) _).trans (c5.mono ((unhide bA) _).size)
            go_wp2_with fail
            refine ((unhide hob) _ bw5).mono ?_
            rintro e w9 ⟨cs, F, rfl, hpo, hc9, hk9⟩
            obtain ⟨kk, tt, bl, ai, ni, ci, af, nf, cf, ln, co, rfl⟩ := hpo.shape
            have hk09 := (Kp.of c5).trans hk9
            have hR9 := (unhide hZ) _ w9 hk09
            have HT := hide (dt.there_cells hR9 (o := 0) (n := 7) (by decide))
            have HK := hide ((Kp.of ((unhide bA) _)).trans hk09)
            have HC := hide hc9
            have HP := hide hpo
            have hlo := hide (show w.heap.size < w5.heap.size from by have := c5.size; simp at this; omega)
            clear hvr hls hob hip hrf ht hd hk9 hk09 hc9 hZ bA hR9 hpo
            go_wp2_with (first
              | refine wpList_store_mid (by rfl) 32 _ _ (by rfl) w.heap.size 0 #[.int .i64 kk, .string tt, .bool bl, .slice ai ni ci, .slice af nf cf, .int .i64 ln, .int .i64 co] (by rfl) (by rfl) (unhide HT) infoLt (dt.one_cells (cs := [.int .i64 kk, .string tt, .bool bl, .slice ai ni ci, .slice af nf cf, .int .i64 ln, .int .i64 co]) (by rfl)) ?_)
            refine bodyPost_ret (rgn.result_row_tmp rfl _ _ w.heap.size 0 [.int .i64 kk, .string tt, .bool bl, .slice ai ni ci, .slice af nf cf, .int .i64 ln, .int .i64 co] _ rfl (World.rangeAt_setCells_same _ _ _ _ (unhide HT)) Try.underlying32 rfl infoLt) rfl ?_
            rw [unhide hs2]
            exact ⟨_, F, rfl, ⟨(unhide HP).shape, ow_out (unhide HP).own (fun hm => by have := ((unhide HP).rng _ hm).1; have := unhide hlo; omega) _ _, (unhide HP).nodup, fun b hb => ⟨by have := ((unhide HP).rng b hb).1; have := unhide hlo; omega, by rw [dt.size_setCells]; exact ((unhide HP).rng b hb).2⟩⟩, (unhide HC).out hne hnp _ _, (unhide HK).out (Nat.le_refl _) _ _⟩
        · have hs2 := hide (show litS L false c = listS L c from by rw [unhide hS2, if_neg (fun e => by rw [hP1] at e; exact absurd e.1 (by simp)), if_pos hP2])
          clear hS2
          go_enter Try.func10, Try.ntmps10
          go_wp2_with fail
          refine ((unhide hd) _ ((unhide bA) _)).mono ?_
          rintro e w1 ⟨rfl, rfl⟩
          go_wp2_with fail
          refine ((unhide ht) _ ((unhide bA) _)).mono ?_
          rintro e w1 ⟨rfl, b1⟩
          have bw1 := ((unhide bA) _).trans (b1.mono ((unhide bA) _).size)
          have c2 := b1.alloc b1.size (.cells #[.int .i64 t.k, .int .i64 t.ln, .int .i64 t.co, .int .i64 t.fr, .int .i64 t.to, .string t.tx, .string t.va] 63)
          have bw2 := ((unhide bA) _).trans (c2.mono ((unhide bA) _).size)
          go_wp2_with fail
          refine ((unhide hip) bDol _ bw2).mono ?_
          rintro e w3 ⟨rfl, b3⟩
          rw [hP1]
          have c3 := c2.trans (b3.mono c2.size)
          have bw3 := ((unhide bA) _).trans (c3.mono ((unhide bA) _).size)
          go_wp2_with fail
          refine ((unhide hip) bLb _ bw3).mono ?_
          rintro e w4 ⟨rfl, b4⟩
          rw [hP2]
          have c4 := c3.trans (b4.mono c3.size)
          have bw4 := ((unhide bA) _).trans (c4.mono ((unhide bA) _).size)
          go_wp2_with fail
          refine ((unhide hls) _ bw4).mono ?_
          rintro e w9 ⟨cs, F, rfl, hpo, hc9, hk9⟩
          obtain ⟨kk, tt, bl, ai, ni, ci, af, nf, cf, ln, co, rfl⟩ := hpo.shape
          have hk09 := (Kp.of c4).trans hk9
          have hR9 := (unhide hZ) _ w9 hk09
          have HT := hide (dt.there_cells hR9 (o := 0) (n := 7) (by decide))
          have HK := hide ((Kp.of ((unhide bA) _)).trans hk09)
          have HC := hide hc9
          have HP := hide hpo
          have hlo := hide (show w.heap.size < w4.heap.size from by have := c4.size; simp at this; omega)
          clear hvr hls hob hip hrf ht hd hk9 hk09 hc9 hZ bA hR9 hpo
          go_wp2_with (first
            | refine wpList_store_mid (by rfl) 32 _ _ (by rfl) w.heap.size 0 #[.int .i64 kk, .string tt, .bool bl, .slice ai ni ci, .slice af nf cf, .int .i64 ln, .int .i64 co] (by rfl) (by rfl) (unhide HT) infoLt (dt.one_cells (cs := [.int .i64 kk, .string tt, .bool bl, .slice ai ni ci, .slice af nf cf, .int .i64 ln, .int .i64 co]) (by rfl)) ?_)
          refine bodyPost_ret (rgn.result_row_tmp rfl _ _ w.heap.size 0 [.int .i64 kk, .string tt, .bool bl, .slice ai ni ci, .slice af nf cf, .int .i64 ln, .int .i64 co] _ rfl (World.rangeAt_setCells_same _ _ _ _ (unhide HT)) Try.underlying32 rfl infoLt) rfl ?_
          rw [unhide hs2]
          exact ⟨_, F, rfl, ⟨(unhide HP).shape, ow_out (unhide HP).own (fun hm => by have := ((unhide HP).rng _ hm).1; have := unhide hlo; omega) _ _, (unhide HP).nodup, fun b hb => ⟨by have := ((unhide HP).rng b hb).1; have := unhide hlo; omega, by rw [dt.size_setCells]; exact ((unhide HP).rng b hb).2⟩⟩, (unhide HC).out hne hnp _ _, (unhide HK).out (Nat.le_refl _) _ _⟩
      · cases hP2 : c.isP bLb
        · cases hP3 : c.isP bLc
          · have hs2 := hide (show litS L true c = (none, c.stop 70) from by rw [unhide hS2, if_neg (fun e => by rw [hP1] at e; exact absurd e.1 (by simp)), if_neg (by rw [hP2]; simp), if_neg (by rw [hP3]; simp)])
            clear hS2
            go_enter Try.func10, Try.ntmps10
            go_wp2_with fail
            refine ((unhide hd) _ ((unhide bA) _)).mono ?_
            rintro e w1 ⟨rfl, rfl⟩
            go_wp2_with fail
            refine ((unhide ht) _ ((unhide bA) _)).mono ?_
            rintro e w1 ⟨rfl, b1⟩
            have bw1 := ((unhide bA) _).trans (b1.mono ((unhide bA) _).size)
            have c2 := b1.alloc b1.size (.cells #[.int .i64 t.k, .int .i64 t.ln, .int .i64 t.co, .int .i64 t.fr, .int .i64 t.to, .string t.tx, .string t.va] 63)
            have bw2 := ((unhide bA) _).trans (c2.mono ((unhide bA) _).size)
            go_wp2_with fail
            refine ((unhide hip) bDol _ bw2).mono ?_
            rintro e w3 ⟨rfl, b3⟩
            rw [hP1]
            have c3 := c2.trans (b3.mono c2.size)
            have bw3 := ((unhide bA) _).trans (c3.mono ((unhide bA) _).size)
            go_wp2_with fail
            refine ((unhide hip) bLb _ bw3).mono ?_
            rintro e w4 ⟨rfl, b4⟩
            rw [hP2]
            have c4 := c3.trans (b4.mono c3.size)
            have bw4 := ((unhide bA) _).trans (c4.mono ((unhide bA) _).size)
            go_wp2_with fail
            refine ((unhide hip) bLc _ bw4).mono ?_
            rintro e w5 ⟨rfl, b5⟩
            rw [hP3]
            have c5 := c4.trans (b5.mono c4.size)
            have bw5 := ((unhide bA) _).trans (c5.mono ((unhide bA) _).size)
            go_wp2_with fail
            refine ((unhide hrf) _ bw5).mono ?_
            rintro e w9 ⟨rfl, hc9, hk9⟩
            have hk09 := (Kp.of c5).trans hk9
            have hR9 := (unhide hZ) _ w9 hk09
            have HT := hide (dt.there_cells hR9 (o := 0) (n := 7) (by decide))
            have HK := hide ((Kp.of ((unhide bA) _)).trans hk09)
            have HC := hide hc9
            clear hvr hls hob hip hrf ht hd hk9 hk09 hc9 hZ bA hR9
            go_wp2_with (first
              | refine wpList_store_mid (by rfl) 32 _ _ (by rfl) w.heap.size 0 #[.int .i64 0, .string ⟨#[]⟩, .bool false, .slice none 0 0, .slice none 0 0, .int .i64 0, .int .i64 0] (by rfl) (by rfl) (unhide HT) infoLt (dt.one_cells (cs := [.int .i64 0, .string ⟨#[]⟩, .bool false, .slice none 0 0, .slice none 0 0, .int .i64 0, .int .i64 0]) (by rfl)) ?_)
            refine bodyPost_ret (rgn.result_row_tmp rfl _ _ w.heap.size 0 [.int .i64 0, .string ⟨#[]⟩, .bool false, .slice none 0 0, .slice none 0 0, .int .i64 0, .int .i64 0] _ rfl (World.rangeAt_setCells_same _ _ _ _ (unhide HT)) Try.underlying32 rfl infoLt) rfl ?_
            rw [unhide hs2]
            exact ⟨_, [], rfl, ⟨leaf_shape 0 em false 0 0, leaf_ow _ 0 em false 0 0, List.nodup_nil, by simp⟩, (unhide HC).out hne hnp _ _, (unhide HK).out (Nat.le_refl _) _ _⟩
          · have hs2 := hide (show litS L true c = objS L c from by rw [unhide hS2, if_neg (fun e => by rw [hP1] at e; exact absurd e.1 (by simp)), if_neg (by rw [hP2]; simp), if_pos hP3])
            clear hS2
            go_enter Try.func10, Try.ntmps10
            go_wp2_with fail
            refine ((unhide hd) _ ((unhide bA) _)).mono ?_
            rintro e w1 ⟨rfl, rfl⟩
            go_wp2_with fail
            refine ((unhide ht) _ ((unhide bA) _)).mono ?_
            rintro e w1 ⟨rfl, b1⟩
            have bw1 := ((unhide bA) _).trans (b1.mono ((unhide bA) _).size)
            have c2 := b1.alloc b1.size (.cells #[.int .i64 t.k, .int .i64 t.ln, .int .i64 t.co, .int .i64 t.fr, .int .i64 t.to, .string t.tx, .string t.va] 63)
            have bw2 := ((unhide bA) _).trans (c2.mono ((unhide bA) _).size)
            go_wp2_with fail
            refine ((unhide hip) bDol _ bw2).mono ?_
            rintro e w3 ⟨rfl, b3⟩
            rw [hP1]
            have c3 := c2.trans (b3.mono c2.size)
            have bw3 := ((unhide bA) _).trans (c3.mono ((unhide bA) _).size)
            go_wp2_with fail
            refine ((unhide hip) bLb _ bw3).mono ?_
            rintro e w4 ⟨rfl, b4⟩
            rw [hP2]
            have c4 := c3.trans (b4.mono c3.size)
            have bw4 := ((unhide bA) _).trans (c4.mono ((unhide bA) _).size)
            go_wp2_with fail
            refine ((unhide hip) bLc _ bw4).mono ?_
            rintro e w5 ⟨rfl, b5⟩
            rw [hP3]
            have c5 := c4.trans (b5.mono c4.size)
            have bw5 := ((unhide bA) _).trans (c5.mono ((unhide bA) _).size)
            go_wp2_with fail
            refine ((unhide hob) _ bw5).mono ?_
            rintro e w9 ⟨cs, F, rfl, hpo, hc9, hk9⟩
            obtain ⟨kk, tt, bl, ai, ni, ci, af, nf, cf, ln, co, rfl⟩ := hpo.shape
            have hk09 := (Kp.of c5).trans hk9
            have hR9 := (unhide hZ) _ w9 hk09
            have HT := hide (dt.there_cells hR9 (o := 0) (n := 7) (by decide))
            have HK := hide ((Kp.of ((unhide bA) _)).trans hk09)
            have HC := hide hc9
            have HP := hide hpo
            have hlo := hide (show w.heap.size < w5.heap.size from by have := c5.size; simp at this; omega)
            clear hvr hls hob hip hrf ht hd hk9 hk09 hc9 hZ bA hR9 hpo
            go_wp2_with (first
              | refine wpList_store_mid (by rfl) 32 _ _ (by rfl) w.heap.size 0 #[.int .i64 kk, .string tt, .bool bl, .slice ai ni ci, .slice af nf cf, .int .i64 ln, .int .i64 co] (by rfl) (by rfl) (unhide HT) infoLt (dt.one_cells (cs := [.int .i64 kk, .string tt, .bool bl, .slice ai ni ci, .slice af nf cf, .int .i64 ln, .int .i64 co]) (by rfl)) ?_)
            refine bodyPost_ret (rgn.result_row_tmp rfl _ _ w.heap.size 0 [.int .i64 kk, .string tt, .bool bl, .slice ai ni ci, .slice af nf cf, .int .i64 ln, .int .i64 co] _ rfl (World.rangeAt_setCells_same _ _ _ _ (unhide HT)) Try.underlying32 rfl infoLt) rfl ?_
            rw [unhide hs2]
            exact ⟨_, F, rfl, ⟨(unhide HP).shape, ow_out (unhide HP).own (fun hm => by have := ((unhide HP).rng _ hm).1; have := unhide hlo; omega) _ _, (unhide HP).nodup, fun b hb => ⟨by have := ((unhide HP).rng b hb).1; have := unhide hlo; omega, by rw [dt.size_setCells]; exact ((unhide HP).rng b hb).2⟩⟩, (unhide HC).out hne hnp _ _, (unhide HK).out (Nat.le_refl _) _ _⟩
        · have hs2 := hide (show litS L true c = listS L c from by rw [unhide hS2, if_neg (fun e => by rw [hP1] at e; exact absurd e.1 (by simp)), if_pos hP2])
          clear hS2
          go_enter Try.func10, Try.ntmps10
          go_wp2_with fail
          refine ((unhide hd) _ ((unhide bA) _)).mono ?_
          rintro e w1 ⟨rfl, rfl⟩
          go_wp2_with fail
          refine ((unhide ht) _ ((unhide bA) _)).mono ?_
          rintro e w1 ⟨rfl, b1⟩
          have bw1 := ((unhide bA) _).trans (b1.mono ((unhide bA) _).size)
          have c2 := b1.alloc b1.size (.cells #[.int .i64 t.k, .int .i64 t.ln, .int .i64 t.co, .int .i64 t.fr, .int .i64 t.to, .string t.tx, .string t.va] 63)
          have bw2 := ((unhide bA) _).trans (c2.mono ((unhide bA) _).size)
          go_wp2_with fail
          refine ((unhide hip) bDol _ bw2).mono ?_
          rintro e w3 ⟨rfl, b3⟩
          rw [hP1]
          have c3 := c2.trans (b3.mono c2.size)
          have bw3 := ((unhide bA) _).trans (c3.mono ((unhide bA) _).size)
          go_wp2_with fail
          refine ((unhide hip) bLb _ bw3).mono ?_
          rintro e w4 ⟨rfl, b4⟩
          rw [hP2]
          have c4 := c3.trans (b4.mono c3.size)
          have bw4 := ((unhide bA) _).trans (c4.mono ((unhide bA) _).size)
          go_wp2_with fail
          refine ((unhide hls) _ bw4).mono ?_
          rintro e w9 ⟨cs, F, rfl, hpo, hc9, hk9⟩
          obtain ⟨kk, tt, bl, ai, ni, ci, af, nf, cf, ln, co, rfl⟩ := hpo.shape
          have hk09 := (Kp.of c4).trans hk9
          have hR9 := (unhide hZ) _ w9 hk09
          have HT := hide (dt.there_cells hR9 (o := 0) (n := 7) (by decide))
          have HK := hide ((Kp.of ((unhide bA) _)).trans hk09)
          have HC := hide hc9
          have HP := hide hpo
          have hlo := hide (show w.heap.size < w4.heap.size from by have := c4.size; simp at this; omega)
          clear hvr hls hob hip hrf ht hd hk9 hk09 hc9 hZ bA hR9 hpo
          go_wp2_with (first
            | refine wpList_store_mid (by rfl) 32 _ _ (by rfl) w.heap.size 0 #[.int .i64 kk, .string tt, .bool bl, .slice ai ni ci, .slice af nf cf, .int .i64 ln, .int .i64 co] (by rfl) (by rfl) (unhide HT) infoLt (dt.one_cells (cs := [.int .i64 kk, .string tt, .bool bl, .slice ai ni ci, .slice af nf cf, .int .i64 ln, .int .i64 co]) (by rfl)) ?_)
          refine bodyPost_ret (rgn.result_row_tmp rfl _ _ w.heap.size 0 [.int .i64 kk, .string tt, .bool bl, .slice ai ni ci, .slice af nf cf, .int .i64 ln, .int .i64 co] _ rfl (World.rangeAt_setCells_same _ _ _ _ (unhide HT)) Try.underlying32 rfl infoLt) rfl ?_
          rw [unhide hs2]
          exact ⟨_, F, rfl, ⟨(unhide HP).shape, ow_out (unhide HP).own (fun hm => by have := ((unhide HP).rng _ hm).1; have := unhide hlo; omega) _ _, (unhide HP).nodup, fun b hb => ⟨by have := ((unhide HP).rng b hb).1; have := unhide hlo; omega, by rw [dt.size_setCells]; exact ((unhide HP).rng b hb).2⟩⟩, (unhide HC).out hne hnp _ _, (unhide HK).out (Nat.le_refl _) _ _⟩
    · cases ct
      · have hs2 := hide (show litS L false c = varS c from by rw [unhide hS2, if_pos ⟨hP1, rfl⟩])
        clear hS2
        go_enter Try.func10, Try.ntmps10
        go_wp2_with fail
        refine ((unhide hd) _ ((unhide bA) _)).mono ?_
        rintro e w1 ⟨rfl, rfl⟩
        go_wp2_with fail
        refine ((unhide ht) _ ((unhide bA) _)).mono ?_
        rintro e w1 ⟨rfl, b1⟩
        have bw1 := ((unhide bA) _).trans (b1.mono ((unhide bA) _).size)
        have c2 := b1.alloc b1.size (.cells #[.int .i64 t.k, .int .i64 t.ln, .int .i64 t.co, .int .i64 t.fr, .int .i64 t.to, .string t.tx, .string t.va] 63)
        have bw2 := ((unhide bA) _).trans (c2.mono ((unhide bA) _).size)
        go_wp2_with fail
        refine ((unhide hip) bDol _ bw2).mono ?_
        rintro e w3 ⟨rfl, b3⟩
        rw [hP1]
        have c3 := c2.trans (b3.mono c2.size)
        have bw3 := ((unhide bA) _).trans (c3.mono ((unhide bA) _).size)
        go_wp2_with fail
        refine ((unhide hvr) _ bw3 ((unhide hmP) bDol hP1)).mono ?_
        rintro e w9 ⟨rfl, hc9, hk9⟩
        obtain ⟨d, v1, v2, v3, kk, tt, ln, co, v4, v5⟩ := var_post c
        have hk09 := (Kp.of c3).trans hk9
        have hR9 := (unhide hZ) _ w9 hk09
        have HT := hide (dt.there_cells hR9 (o := 0) (n := 7) (by decide))
        have HK := hide ((Kp.of ((unhide bA) _)).trans hk09)
        have HC := hide hc9
        have HV := hide (And.intro v1 (And.intro v2 (And.intro v3 v5)))
        rw [v4]
        unfold leafC
        clear hvr hls hob hip hrf ht hd hk9 hk09 hc9 hZ bA hR9 v1 v2 v3 v4 v5
        obtain ⟨R, hR⟩ : ∃ R, R = c.take.isN := ⟨_, rfl⟩
        rw [← hR] at HV ⊢
        clear hR
        go_wp2_with (first
          | refine wpList_store_mid (by rfl) 32 _ _ (by rfl) w.heap.size 0 #[.int .i64 kk, .string tt, .bool false, .slice none 0 0, .slice none 0 0, .int .i64 ln, .int .i64 co] (by rfl) (by rfl) (unhide HT) infoLt (dt.one_cells (cs := [.int .i64 kk, .string tt, .bool false, .slice none 0 0, .slice none 0 0, .int .i64 ln, .int .i64 co]) (by rfl)) ?_)
        refine bodyPost_ret (rgn.result_row_tmp rfl _ _ w.heap.size 0 [.int .i64 kk, .string tt, .bool false, .slice none 0 0, .slice none 0 0, .int .i64 ln, .int .i64 co] _ rfl (World.rangeAt_setCells_same _ _ _ _ (unhide HT)) Try.underlying32 rfl infoLt) rfl ?_
        rw [unhide hs2]
        obtain ⟨v1, v2, v3, v5⟩ := unhide HV
        rw [v1, v2, v3, v5]
        exact ⟨_, [], rfl, ⟨leaf_shape kk tt false ln co, leaf_ow _ kk tt false ln co, List.nodup_nil, by simp⟩, (unhide HC).out hne hnp _ _, (unhide HK).out (Nat.le_refl _) _ _⟩
      · cases hP2 : c.isP bLb
        · cases hP3 : c.isP bLc
          · have hs2 := hide (show litS L true c = (none, c.stop 70) from by rw [unhide hS2, if_neg (fun e => by exact absurd e.2 (by simp)), if_neg (by rw [hP2]; simp), if_neg (by rw [hP3]; simp)])
            clear hS2
            go_enter Try.func10, Try.ntmps10
            go_wp2_with fail
            refine ((unhide hd) _ ((unhide bA) _)).mono ?_
            rintro e w1 ⟨rfl, rfl⟩
            go_wp2_with fail
            refine ((unhide ht) _ ((unhide bA) _)).mono ?_
            rintro e w1 ⟨rfl, b1⟩
            have bw1 := ((unhide bA) _).trans (b1.mono ((unhide bA) _).size)
            have c2 := b1.alloc b1.size (.cells #[.int .i64 t.k, .int .i64 t.ln, .int .i64 t.co, .int .i64 t.fr, .int .i64 t.to, .string t.tx, .string t.va] 63)
            have bw2 := ((unhide bA) _).trans (c2.mono ((unhide bA) _).size)
            go_wp2_with fail
            refine ((unhide hip) bDol _ bw2).mono ?_
            rintro e w3 ⟨rfl, b3⟩
            rw [hP1]
            have c3 := c2.trans (b3.mono c2.size)
            have bw3 := ((unhide bA) _).trans (c3.mono ((unhide bA) _).size)
            go_wp2_with fail
            refine ((unhide hip) bLb _ bw3).mono ?_
            rintro e w4 ⟨rfl, b4⟩
            rw [hP2]
            have c4 := c3.trans (b4.mono c3.size)
            have bw4 := ((unhide bA) _).trans (c4.mono ((unhide bA) _).size)
            go_wp2_with fail
            refine ((unhide hip) bLc _ bw4).mono ?_
            rintro e w5 ⟨rfl, b5⟩
            rw [hP3]
            have c5 := c4.trans (b5.mono c4.size)
            have bw5 := ((unhide bA) _).trans (c5.mono ((unhide bA) _).size)
            go_wp2_with fail
            refine ((unhide hrf) _ bw5).mono ?_
            rintro e w9 ⟨rfl, hc9, hk9⟩
            have hk09 := (Kp.of c5).trans hk9
            have hR9 := (unhide hZ) _ w9 hk09
            have HT := hide (dt.there_cells hR9 (o := 0) (n := 7) (by decide))
            have HK := hide ((Kp.of ((unhide bA) _)).trans hk09)
            have HC := hide hc9
            clear hvr hls hob hip hrf ht hd hk9 hk09 hc9 hZ bA hR9
            go_wp2_with (first
              | refine wpList_store_mid (by rfl) 32 _ _ (by rfl) w.heap.size 0 #[.int .i64 0, .string ⟨#[]⟩, .bool false, .slice none 0 0, .slice none 0 0, .int .i64 0, .int .i64 0] (by rfl) (by rfl) (unhide HT) infoLt (dt.one_cells (cs := [.int .i64 0, .string ⟨#[]⟩, .bool false, .slice none 0 0, .slice none 0 0, .int .i64 0, .int .i64 0]) (by rfl)) ?_)
            refine bodyPost_ret (rgn.result_row_tmp rfl _ _ w.heap.size 0 [.int .i64 0, .string ⟨#[]⟩, .bool false, .slice none 0 0, .slice none 0 0, .int .i64 0, .int .i64 0] _ rfl (World.rangeAt_setCells_same _ _ _ _ (unhide HT)) Try.underlying32 rfl infoLt) rfl ?_
            rw [unhide hs2]
            exact ⟨_, [], rfl, ⟨leaf_shape 0 em false 0 0, leaf_ow _ 0 em false 0 0, List.nodup_nil, by simp⟩, (unhide HC).out hne hnp _ _, (unhide HK).out (Nat.le_refl _) _ _⟩
          · have hs2 := hide (show litS L true c = objS L c from by rw [unhide hS2, if_neg (fun e => by exact absurd e.2 (by simp)), if_neg (by rw [hP2]; simp), if_pos hP3])
            clear hS2
            go_enter Try.func10, Try.ntmps10
            go_wp2_with fail
            refine ((unhide hd) _ ((unhide bA) _)).mono ?_
            rintro e w1 ⟨rfl, rfl⟩
            go_wp2_with fail
            refine ((unhide ht) _ ((unhide bA) _)).mono ?_
            rintro e w1 ⟨rfl, b1⟩
            have bw1 := ((unhide bA) _).trans (b1.mono ((unhide bA) _).size)
            have c2 := b1.alloc b1.size (.cells #[.int .i64 t.k, .int .i64 t.ln, .int .i64 t.co, .int .i64 t.fr, .int .i64 t.to, .string t.tx, .string t.va] 63)
            have bw2 := ((unhide bA) _).trans (c2.mono ((unhide bA) _).size)
            go_wp2_with fail
            refine ((unhide hip) bDol _ bw2).mono ?_
            rintro e w3 ⟨rfl, b3⟩
            rw [hP1]
            have c3 := c2.trans (b3.mono c2.size)
            have bw3 := ((unhide bA) _).trans (c3.mono ((unhide bA) _).size)
            go_wp2_with fail
            refine ((unhide hip) bLb _ bw3).mono ?_
            rintro e w4 ⟨rfl, b4⟩
            rw [hP2]
            have c4 := c3.trans (b4.mono c3.size)
            have bw4 := ((unhide bA) _).trans (c4.mono ((unhide bA) _).size)
            go_wp2_with fail
            refine ((unhide hip) bLc _ bw4).mono ?_
            rintro e w5 ⟨rfl, b5⟩
            rw [hP3]
            have c5 := c4.trans (b5.mono c4.size)
            have bw5 := ((unhide bA) _).trans (c5.mono ((unhide bA) _).size)
            go_wp2_with fail
            refine ((unhide hob) _ bw5).mono ?_
            rintro e w9 ⟨cs, F, rfl, hpo, hc9, hk9⟩
            obtain ⟨kk, tt, bl, ai, ni, ci, af, nf, cf, ln, co, rfl⟩ := hpo.shape
            have hk09 := (Kp.of c5).trans hk9
            have hR9 := (unhide hZ) _ w9 hk09
            have HT := hide (dt.there_cells hR9 (o := 0) (n := 7) (by decide))
            have HK := hide ((Kp.of ((unhide bA) _)).trans hk09)
            have HC := hide hc9
            have HP := hide hpo
            have hlo := hide (show w.heap.size < w5.heap.size from by have := c5.size; simp at this; omega)
            clear hvr hls hob hip hrf ht hd hk9 hk09 hc9 hZ bA hR9 hpo
            go_wp2_with (first
              | refine wpList_store_mid (by rfl) 32 _ _ (by rfl) w.heap.size 0 #[.int .i64 kk, .string tt, .bool bl, .slice ai ni ci, .slice af nf cf, .int .i64 ln, .int .i64 co] (by rfl) (by rfl) (unhide HT) infoLt (dt.one_cells (cs := [.int .i64 kk, .string tt, .bool bl, .slice ai ni ci, .slice af nf cf, .int .i64 ln, .int .i64 co]) (by rfl)) ?_)
            refine bodyPost_ret (rgn.result_row_tmp rfl _ _ w.heap.size 0 [.int .i64 kk, .string tt, .bool bl, .slice ai ni ci, .slice af nf cf, .int .i64 ln, .int .i64 co] _ rfl (World.rangeAt_setCells_same _ _ _ _ (unhide HT)) Try.underlying32 rfl infoLt) rfl ?_
            rw [unhide hs2]
            exact ⟨_, F, rfl, ⟨(unhide HP).shape, ow_out (unhide HP).own (fun hm => by have := ((unhide HP).rng _ hm).1; have := unhide hlo; omega) _ _, (unhide HP).nodup, fun b hb => ⟨by have := ((unhide HP).rng b hb).1; have := unhide hlo; omega, by rw [dt.size_setCells]; exact ((unhide HP).rng b hb).2⟩⟩, (unhide HC).out hne hnp _ _, (unhide HK).out (Nat.le_refl _) _ _⟩
        · have hs2 := hide (show litS L true c = listS L c from by rw [unhide hS2, if_neg (fun e => by exact absurd e.2 (by simp)), if_pos hP2])
          clear hS2
          go_enter Try.func10, Try.ntmps10
          go_wp2_with fail
          refine ((unhide hd) _ ((unhide bA) _)).mono ?_
          rintro e w1 ⟨rfl, rfl⟩
          go_wp2_with fail
          refine ((unhide ht) _ ((unhide bA) _)).mono ?_
          rintro e w1 ⟨rfl, b1⟩
          have bw1 := ((unhide bA) _).trans (b1.mono ((unhide bA) _).size)
          have c2 := b1.alloc b1.size (.cells #[.int .i64 t.k, .int .i64 t.ln, .int .i64 t.co, .int .i64 t.fr, .int .i64 t.to, .string t.tx, .string t.va] 63)
          have bw2 := ((unhide bA) _).trans (c2.mono ((unhide bA) _).size)
          go_wp2_with fail
          refine ((unhide hip) bDol _ bw2).mono ?_
          rintro e w3 ⟨rfl, b3⟩
          rw [hP1]
          have c3 := c2.trans (b3.mono c2.size)
          have bw3 := ((unhide bA) _).trans (c3.mono ((unhide bA) _).size)
          go_wp2_with fail
          refine ((unhide hip) bLb _ bw3).mono ?_
          rintro e w4 ⟨rfl, b4⟩
          rw [hP2]
          have c4 := c3.trans (b4.mono c3.size)
          have bw4 := ((unhide bA) _).trans (c4.mono ((unhide bA) _).size)
          go_wp2_with fail
          refine ((unhide hls) _ bw4).mono ?_
          rintro e w9 ⟨cs, F, rfl, hpo, hc9, hk9⟩
          obtain ⟨kk, tt, bl, ai, ni, ci, af, nf, cf, ln, co, rfl⟩ := hpo.shape
          have hk09 := (Kp.of c4).trans hk9
          have hR9 := (unhide hZ) _ w9 hk09
          have HT := hide (dt.there_cells hR9 (o := 0) (n := 7) (by decide))
          have HK := hide ((Kp.of ((unhide bA) _)).trans hk09)
          have HC := hide hc9
          have HP := hide hpo
          have hlo := hide (show w.heap.size < w4.heap.size from by have := c4.size; simp at this; omega)
          clear hvr hls hob hip hrf ht hd hk9 hk09 hc9 hZ bA hR9 hpo
          go_wp2_with (first
            | refine wpList_store_mid (by rfl) 32 _ _ (by rfl) w.heap.size 0 #[.int .i64 kk, .string tt, .bool bl, .slice ai ni ci, .slice af nf cf, .int .i64 ln, .int .i64 co] (by rfl) (by rfl) (unhide HT) infoLt (dt.one_cells (cs := [.int .i64 kk, .string tt, .bool bl, .slice ai ni ci, .slice af nf cf, .int .i64 ln, .int .i64 co]) (by rfl)) ?_)
          refine bodyPost_ret (rgn.result_row_tmp rfl _ _ w.heap.size 0 [.int .i64 kk, .string tt, .bool bl, .slice ai ni ci, .slice af nf cf, .int .i64 ln, .int .i64 co] _ rfl (World.rangeAt_setCells_same _ _ _ _ (unhide HT)) Try.underlying32 rfl infoLt) rfl ?_
          rw [unhide hs2]
          exact ⟨_, F, rfl, ⟨(unhide HP).shape, ow_out (unhide HP).own (fun hm => by have := ((unhide HP).rng _ hm).1; have := unhide hlo; omega) _ _, (unhide HP).nodup, fun b hb => ⟨by have := ((unhide HP).rng b hb).1; have := unhide hlo; omega, by rw [dt.size_setCells]; exact ((unhide HP).rng b hb).2⟩⟩, (unhide HC).out hne hnp _ _, (unhide HK).out (Nat.le_refl _) _ _⟩
  · have ekd : (c.kd != 0) = true := by simpa using hkd
    have hs2 := hide (show litS L ct c = (none, c) from by unfold litS; rw [if_pos hkd])
    rw [ekd] at hd
    have HC := hide (h.below ((unhide bA) (.cells #[.int .i64 0, .string ⟨#[]⟩, .bool false, .slice none 0 0, .slice none 0 0, .int .i64 0, .int .i64 0] 32)))
    clear h hls' hob' hkd ekd ht hip hrf hls hob hZ
    unfold ptr at hd ⊢
    go_enter Try.func10, Try.ntmps10
    go_wp2_with fail
    refine ((unhide hd) _ ((unhide bA) _)).mono ?_
    rintro e w1 ⟨rfl, rfl⟩
    clear hd
    go_wp2_with fail
    refine bodyPost_ret (rgn.result_row_tmp rfl _ _ w.heap.size 0 [.int .i64 0, .string ⟨#[]⟩, .bool false, .slice none 0 0, .slice none 0 0, .int .i64 0, .int .i64 0] _ rfl (dt.range_cells (heap_alloc_new w _) 0 _ (fun j u hu => by rw [Nat.zero_add]; simpa using hu)) Try.underlying32 rfl infoLt) rfl ?_
    rw [unhide hs2]
    exact ⟨_, [], rfl, ⟨leaf_shape 0 em false 0 0, leaf_ow _ 0 em false 0 0, List.nodup_nil, by simp⟩, unhide HC, Kp.of ((unhide bA) _)⟩
end Go.Proofs.Ytfegalieiiaopab.cu
