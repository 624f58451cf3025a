import Derived.Test.YtfegalieiiaopabCw4
namespace Go.Proofs.Ytfegalieiiaopab.cu
open Go.ChangeShapes Go.WideShapes Go.ChangeAt Go.RowKit
open ints (hide unhide)
open dt (Dt Kp RowAt Ow Grow)
set_option linter.unusedVariables false
set_option linter.unusedSimpArgs false
def LitFn (f : Nat) (L : Cu → Option Dt × Cu) (ct : Bool) (c : Cu) : Prop := ∀ (B p : Nat) (w : World), CurAt w B p c → Calls Try.prog f #[ptr B, .bool ct] w fun e w' => ∃ cs F, e = .returned (.tuple #[.agg cs.toArray, .bool (L c).1.isSome]) ∧ LitPost ((L c).1.getD zeroD) w w' cs F ∧ CurAt w' B p (L c).2 ∧ Kp B w w'
theorem list_ow {t : TypeId} {w : World} {lo : Nat} {l : List Dt} {sl : Value} {G : List Nat} (h : Grow t 7 w lo l sl G) (ln co : Int) : ∃ a n c F, sl = .slice a n c ∧ Ow w (litD 8 em false (Dt.of l) .nil ln co) [.int .i64 8, .string ⟨#[]⟩, .bool false, .slice a n c, .slice none 0 0, .int .i64 ln, .int .i64 co] F ∧ F.Nodup ∧ ∀ b ∈ F, lo ≤ b ∧ b < w.heap.size := by
  obtain ⟨a, n, c, F, rfl, h1, h2, h3, h4, h5, h6, h7⟩ := h.shut
  refine ⟨a, n, c, F, rfl, ?_, h4, h5⟩
  unfold litD
  unfold Ow
  refine ⟨_, rfl, rfl, ?_⟩
  unfold Ow
  refine ⟨_, rfl, rfl, ?_⟩
  unfold Ow
  refine ⟨_, rfl, rfl, ?_⟩
  unfold Ow
  refine ⟨a, n, c, _, F, [], rfl, h1, h2, h3, h7, ?_, by simp⟩
  unfold Ow
  refine ⟨none, 0, 0, _, [], [], rfl, Nat.le_refl _, Nat.zero_le _, fun _ => rfl, .inl ⟨rfl, rfl, rfl, rfl⟩, pos_ow _ _ _, rfl⟩
set_option maxRecDepth 4000 in
set_option maxHeartbeats 2000000 in
theorem list_ok (L : Cu → Option Dt × Cu) (ct : Bool) (c : Cu) (hc0 : c.Ok) (hlen : c.ts.length ≤ 1099511627777) (hG : Goes L) (hE : ∀ cc : Cu, cc.Ok → cc.ts = c.ts → c.ix < cc.ix → LitAt L ct cc) : LitFn 23 (listS L) ct c := by
  intro B p w h
  have ht := hide (fun W (bb : Below w.heap.size w W) => token_ok B p c W (h.below bb))
  have hb := hide (fun W (bb : Below w.heap.size w W) => brkL_ok L ct c bLb bRb hc0 hlen hG hE B p W (h.below bb))
  have hlt := h.lt
  have hplt := h.plt
  have hne : B ≠ w.heap.size := by omega
  have hnp : p ≠ w.heap.size := by omega
  have bA := hide (fun o => show Below w.heap.size w (w.alloc o) from (Below.refl _ _).alloc (Nat.le_refl _) _)
  have hZ := hide (fun o W (hk : Kp B (w.alloc o) W) => show W.heap[w.heap.size]? = some o from (hk.block w.heap.size (by simp) (by omega)).trans (heap_alloc_new w o))
  have hs0 := hide (show (brk L bLb bRb 0 c).1 = none → listS L c = (none, (brk L bLb bRb 0 c).2) from fun e => by unfold listS; rw [e])
  have hs1 := hide (show ∀ l, (brk L bLb bRb 0 c).1 = some l → listS L c = (some (litD 8 em false (Dt.of l) .nil c.tok.ln c.tok.co), (brk L bLb bRb 0 c).2) from fun l e => by unfold listS; rw [e])
  have hf2 := fld_pos c.tok
  obtain ⟨t, et⟩ : ∃ t, t = c.tok := ⟨_, rfl⟩
  rw [← et] at ht hs1 hf2
  obtain ⟨U, hU⟩ : ∃ U, U = brk L bLb bRb 0 c := ⟨_, rfl⟩
  rw [← hU] at hb hs0 hs1
  clear h hU et hE
  obtain ⟨r, C⟩ := U
  unfold Tk.cells at ht
  unfold ptr at ht hb ⊢
  go_enter Try.func23, Try.ntmps23
  go_wp2_with fail
  refine ((unhide ht) _ ((unhide bA) _)).mono ?_
  rintro e w1 ⟨rfl, b1⟩
  have hz1 : w.heap.size < w1.heap.size := by have := b1.size; simp at this; omega
  have bw1 := ((unhide bA) _).trans (b1.mono ((unhide bA) _).size)
  go_wp2_with fail
  refine ((unhide hb) _ (bw1.alloc bw1.size _)).mono ?_
  rintro e w2 ⟨sl, rfl, hbp, hc2, hk2⟩
  have hD2 := (hk2.block w1.heap.size (by simp) (by omega)).trans (heap_alloc_new w1 _)
  have hk12 := (Kp.of b1).trans ((Kp.of ((Below.refl _ _).alloc (Nat.le_refl _) _)).trans hk2)
  have hR2 := (unhide hZ) _ w2 hk12
  have hz2 : w1.heap.size < w2.heap.size := by have := hk2.size; simp at this; omega
  have d0 : w2.cell? ⟨w1.heap.size, 0, none⟩ = some (.int .i64 t.ln) := (dt.cell_cells hD2 0).trans rfl
  have d1 : w2.cell? ⟨w1.heap.size, 1, none⟩ = some (.int .i64 t.co) := (dt.cell_cells hD2 1).trans rfl
  have HT := hide (dt.there_cells hR2 (o := 0) (n := 7) (by decide))
  have HK := hide ((Kp.of ((unhide bA) _)).trans hk12)
  have HC := hide hc2
  have HB := hide hbp
  have hloZ := hide (show w.heap.size < (w1.alloc (.cells #[.int .i64 t.ln, .int .i64 t.co] 30)).heap.size from by simp; omega)
  clear ht hb hk2 hk12 hc2 hZ bA hR2 hD2 hbp bw1
  cases r with
  | none =>
    have hs2 := hide ((unhide hs0) rfl)
    obtain rfl : sl = .slice none 0 0 := unhide HB
    clear hs0 hs1
    go_wp2_with (first
      | refine wpList_store_mid (by rfl) 32 _ _ (by rfl) w.heap.size 0 #[.int .i64 0, .string ⟨#[]⟩, .bool false, .slice none 0 0, .slice none 0 0, .int .i64 0, .int .i64 0] (by rfl) (by rfl) (unhide HT) infoLt (dt.one_cells (cs := [.int .i64 0, .string ⟨#[]⟩, .bool false, .slice none 0 0, .slice none 0 0, .int .i64 0, .int .i64 0]) (by rfl)) ?_)
    refine bodyPost_ret (rgn.result_row_tmp rfl _ _ w.heap.size 0 [.int .i64 0, .string ⟨#[]⟩, .bool false, .slice none 0 0, .slice none 0 0, .int .i64 0, .int .i64 0] _ rfl (World.rangeAt_setCells_same _ _ _ _ (unhide HT)) Try.underlying32 rfl infoLt) rfl ?_
    rw [unhide hs2]
    exact ⟨_, [], rfl, ⟨leaf_shape 0 em false 0 0, leaf_ow _ 0 em false 0 0, List.nodup_nil, by simp⟩, (unhide HC).out hne hnp _ _, (unhide HK).out (Nat.le_refl _) _ _⟩
  | some l =>
    have hs2 := hide ((unhide hs1) l rfl)
    obtain ⟨Gs, hgr⟩ := unhide HB
    obtain ⟨a, n, c', F, rfl, how, hnd, hrg⟩ := list_ow hgr t.ln t.co
    have HO := hide (And.intro how (And.intro hnd hrg))
    clear hs0 hs1 hgr how hnd hrg HB
    go_wp2_with (first
      | refine wpList_store_mid (by rfl) 32 _ _ (by rfl) w.heap.size 0 #[.int .i64 8, .string ⟨#[]⟩, .bool false, .slice a n c', .slice none 0 0, .int .i64 t.ln, .int .i64 t.co] (by rfl) (by rfl) (unhide HT) infoLt (dt.one_cells (cs := [.int .i64 8, .string ⟨#[]⟩, .bool false, .slice a n c', .slice none 0 0, .int .i64 t.ln, .int .i64 t.co]) (by rfl)) ?_)
    refine bodyPost_ret (rgn.result_row_tmp rfl _ _ w.heap.size 0 [.int .i64 8, .string ⟨#[]⟩, .bool false, .slice a n c', .slice none 0 0, .int .i64 t.ln, .int .i64 t.co] _ rfl (World.rangeAt_setCells_same _ _ _ _ (unhide HT)) Try.underlying32 rfl infoLt) rfl ?_
    rw [unhide hs2]
    obtain ⟨how, hnd, hrg⟩ := unhide HO
    exact ⟨_, F, rfl, ⟨⟨_, _, _, _, _, _, _, _, _, _, _, rfl⟩, ow_out how (fun hm => by have := (hrg _ hm).1; have := unhide hloZ; omega) _ _, hnd, fun b hb => ⟨by have := (hrg b hb).1; have := unhide hloZ; omega, by rw [dt.size_setCells]; exact (hrg b hb).2⟩⟩, (unhide HC).out hne hnp _ _, (unhide HK).out (Nat.le_refl _) _ _⟩
theorem obj_ow {t : TypeId} {w : World} {lo : Nat} {l : List Dt} {sl : Value} {G : List Nat} (h : Grow t 10 w lo l sl G) (ln co : Int) : ∃ a n c F, sl = .slice a n c ∧ Ow w (litD 9 em false .nil (Dt.of l) ln co) [.int .i64 9, .string ⟨#[]⟩, .bool false, .slice none 0 0, .slice a n c, .int .i64 ln, .int .i64 co] F ∧ F.Nodup ∧ ∀ b ∈ F, lo ≤ b ∧ b < w.heap.size := by
  obtain ⟨a, n, c, F, rfl, h1, h2, h3, h4, h5, h6, h7⟩ := h.shut
  refine ⟨a, n, c, F, rfl, ?_, h4, h5⟩
  unfold litD
  unfold Ow
  refine ⟨_, rfl, rfl, ?_⟩
  unfold Ow
  refine ⟨_, rfl, rfl, ?_⟩
  unfold Ow
  refine ⟨_, rfl, rfl, ?_⟩
  unfold Ow
  refine ⟨none, 0, 0, _, [], F, rfl, Nat.le_refl _, Nat.zero_le _, fun _ => rfl, .inl ⟨rfl, rfl, rfl, rfl⟩, ?_, rfl⟩
  unfold Ow
  exact ⟨a, n, c, _, F, [], rfl, h1, h2, h3, h7, pos_ow _ _ _, by simp⟩
set_option maxRecDepth 4000 in
set_option maxHeartbeats 2000000 in
theorem obj_ok (L : Cu → Option Dt × Cu) (ct : Bool) (c : Cu) (hc0 : c.Ok) (hlen : c.ts.length ≤ 1099511627777) (hG : Goes L) (hE : ∀ cc : Cu, cc.Ok → cc.ts = c.ts → c.ix < cc.ix → FldAt 39 (argS L) ct cc) : LitFn 24 (objS L) ct c := by
  intro B p w h
  have ht := hide (fun W (bb : Below w.heap.size w W) => token_ok B p c W (h.below bb))
  have hb := hide (fun W (bb : Below w.heap.size w W) => brkF_ok' (argS L) ct c bLc bRc hc0 hlen (argS_goes hG) hE B p W (h.below bb))
  have hlt := h.lt
  have hplt := h.plt
  have hne : B ≠ w.heap.size := by omega
  have hnp : p ≠ w.heap.size := by omega
  have bA := hide (fun o => show Below w.heap.size w (w.alloc o) from (Below.refl _ _).alloc (Nat.le_refl _) _)
  have hZ := hide (fun o W (hk : Kp B (w.alloc o) W) => show W.heap[w.heap.size]? = some o from (hk.block w.heap.size (by simp) (by omega)).trans (heap_alloc_new w o))
  have hs0 := hide (show (brk (argS L) bLc bRc 0 c).1 = none → objS L c = (none, (brk (argS L) bLc bRc 0 c).2) from fun e => by unfold objS; rw [e])
  have hs1 := hide (show ∀ l, (brk (argS L) bLc bRc 0 c).1 = some l → objS L c = (some (litD 9 em false .nil (Dt.of l) c.tok.ln c.tok.co), (brk (argS L) bLc bRc 0 c).2) from fun l e => by unfold objS; rw [e])
  have hf2 := fld_pos c.tok
  obtain ⟨t, et⟩ : ∃ t, t = c.tok := ⟨_, rfl⟩
  rw [← et] at ht hs1 hf2
  obtain ⟨U, hU⟩ : ∃ U, U = brk (argS L) bLc bRc 0 c := ⟨_, rfl⟩
  rw [← hU] at hb hs0 hs1
  clear h hU et hE
  obtain ⟨r, C⟩ := U
  unfold Tk.cells at ht
  unfold ptr at ht hb ⊢
  go_enter Try.func24, Try.ntmps24
  go_wp2_with fail
  refine ((unhide ht) _ ((unhide bA) _)).mono ?_
  rintro e w1 ⟨rfl, b1⟩
  have hz1 : w.heap.size < w1.heap.size := by have := b1.size; simp at this; omega
  have bw1 := ((unhide bA) _).trans (b1.mono ((unhide bA) _).size)
  go_wp2_with fail
  refine ((unhide hb) _ (bw1.alloc bw1.size _)).mono ?_
  rintro e w2 ⟨sl, rfl, hbp, hc2, hk2⟩
  have hD2 := (hk2.block w1.heap.size (by simp) (by omega)).trans (heap_alloc_new w1 _)
  have hk12 := (Kp.of b1).trans ((Kp.of ((Below.refl _ _).alloc (Nat.le_refl _) _)).trans hk2)
  have hR2 := (unhide hZ) _ w2 hk12
  have hz2 : w1.heap.size < w2.heap.size := by have := hk2.size; simp at this; omega
  have d0 : w2.cell? ⟨w1.heap.size, 0, none⟩ = some (.int .i64 t.ln) := (dt.cell_cells hD2 0).trans rfl
  have d1 : w2.cell? ⟨w1.heap.size, 1, none⟩ = some (.int .i64 t.co) := (dt.cell_cells hD2 1).trans rfl
  have HT := hide (dt.there_cells hR2 (o := 0) (n := 7) (by decide))
  have HK := hide ((Kp.of ((unhide bA) _)).trans hk12)
  have HC := hide hc2
  have HB := hide hbp
  have hloZ := hide (show w.heap.size < (w1.alloc (.cells #[.int .i64 t.ln, .int .i64 t.co] 30)).heap.size from by simp; omega)
  clear ht hb hk2 hk12 hc2 hZ bA hR2 hD2 hbp bw1
  cases r with
  | none =>
    have hs2 := hide ((unhide hs0) rfl)
    obtain rfl : sl = .slice none 0 0 := unhide HB
    clear hs0 hs1
    go_wp2_with (first
      | refine wpList_store_mid (by rfl) 32 _ _ (by rfl) w.heap.size 0 #[.int .i64 0, .string ⟨#[]⟩, .bool false, .slice none 0 0, .slice none 0 0, .int .i64 0, .int .i64 0] (by rfl) (by rfl) (unhide HT) infoLt (dt.one_cells (cs := [.int .i64 0, .string ⟨#[]⟩, .bool false, .slice none 0 0, .slice none 0 0, .int .i64 0, .int .i64 0]) (by rfl)) ?_)
    refine bodyPost_ret (rgn.result_row_tmp rfl _ _ w.heap.size 0 [.int .i64 0, .string ⟨#[]⟩, .bool false, .slice none 0 0, .slice none 0 0, .int .i64 0, .int .i64 0] _ rfl (World.rangeAt_setCells_same _ _ _ _ (unhide HT)) Try.underlying32 rfl infoLt) rfl ?_
    rw [unhide hs2]
    exact ⟨_, [], rfl, ⟨leaf_shape 0 em false 0 0, leaf_ow _ 0 em false 0 0, List.nodup_nil, by simp⟩, (unhide HC).out hne hnp _ _, (unhide HK).out (Nat.le_refl _) _ _⟩
  | some l =>
    have hs2 := hide ((unhide hs1) l rfl)
    obtain ⟨Gs, hgr⟩ := unhide HB
    obtain ⟨a, n, c', F, rfl, how, hnd, hrg⟩ := obj_ow hgr t.ln t.co
    have HO := hide (And.intro how (And.intro hnd hrg))
    clear hs0 hs1 hgr how hnd hrg HB
    go_wp2_with (first
      | refine wpList_store_mid (by rfl) 32 _ _ (by rfl) w.heap.size 0 #[.int .i64 9, .string ⟨#[]⟩, .bool false, .slice none 0 0, .slice a n c', .int .i64 t.ln, .int .i64 t.co] (by rfl) (by rfl) (unhide HT) infoLt (dt.one_cells (cs := [.int .i64 9, .string ⟨#[]⟩, .bool false, .slice none 0 0, .slice a n c', .int .i64 t.ln, .int .i64 t.co]) (by rfl)) ?_)
    refine bodyPost_ret (rgn.result_row_tmp rfl _ _ w.heap.size 0 [.int .i64 9, .string ⟨#[]⟩, .bool false, .slice none 0 0, .slice a n c', .int .i64 t.ln, .int .i64 t.co] _ rfl (World.rangeAt_setCells_same _ _ _ _ (unhide HT)) Try.underlying32 rfl infoLt) rfl ?_
    rw [unhide hs2]
    obtain ⟨how, hnd, hrg⟩ := unhide HO
    exact ⟨_, F, rfl, ⟨⟨_, _, _, _, _, _, _, _, _, _, _, rfl⟩, ow_out how (fun hm => by have := (hrg _ hm).1; have := unhide hloZ; omega) _ _, hnd, fun b hb => ⟨by have := (hrg b hb).1; have := unhide hloZ; omega, by rw [dt.size_setCells]; exact (hrg b hb).2⟩⟩, (unhide HC).out hne hnp _ _, (unhide HK).out (Nat.le_refl _) _ _⟩
end Go.Proofs.Ytfegalieiiaopab.cu
