import Derived.Test.YtfegalieiiaopabCv7
namespace Go.Proofs.Ytfegalieiiaopab.cu
open Go.ChangeShapes Go.WideShapes Go.ChangeAt Go.RowKit
open ints (hide unhide)
open dt (Dt Kp RowAt)
set_option linter.unusedVariables false
set_option linter.unusedSimpArgs false
theorem unm_goes (f : Nat) (c : Cu) (h : c.Ok) : Stp c (unm (typF f) c).2 ∧ ∀ r, (unm (typF f) c).1 = some r → r.2.size < (unm (typF f) c).2.ix - c.ix + 1 := by
  unfold unm
  split
  · have ho := opn_stp h bLb
    split
    · rename_i hb
      have hi := opn_ix hb
      have h2 := typF_goes f _ ho.ok
      cases hq : (typF f (c.opn bLb)).1 with
      | none => exact ⟨ho.trans h2.1, fun r hr => by cases hr⟩
      | some it =>
        have h3 := cls_stp h2.1.ok bRb
        have h4 := h2.2 it hq
        have h5 := h2.1.ix
        have h6 := h3.ix
        dsimp only
        split
        · refine ⟨(ho.trans h2.1).trans h3, fun r hr => ?_⟩
          obtain rfl := Option.some.inj hr
          show (it.2 ++ bRb).size < _
          rw [size_app]
          show it.2.size + 1 < ((typF f (c.opn bLb)).2.cls bRb).ix - c.ix + 1
          omega
        · exact ⟨(ho.trans h2.1).trans h3, fun r hr => by cases hr⟩
    · exact ⟨ho, fun r hr => by cases hr⟩
  · have hn := name_stp h
    split
    · exact ⟨hn, fun r hr => by obtain rfl := Option.some.inj hr; show (0 : Nat) < _; omega⟩
    · exact ⟨hn, fun r hr => by cases hr⟩
set_option maxRecDepth 4000 in
set_option maxHeartbeats 1000000 in
theorem typ_ok (f : Nat) (c : Cu) (hc : c.Ok) (hlen : c.ts.length ≤ 1099511627777) (hu : TypAt (unm (typF f)) 33 c) : TypAt (typ (unm (typF f))) 16 c := by
  intro B p w h
  have hlt := h.lt
  have hplt := h.plt
  have hne : B ≠ w.heap.size := by omega
  have hnp : p ≠ w.heap.size := by omega
  have bA := hide (fun o => show Below w.heap.size w (w.alloc o) from (Below.refl _ _).alloc (Nat.le_refl _) _)
  have hZ := hide (fun o W (hk : Kp B (w.alloc o) W) => show W.heap[w.heap.size]? = some o from (hk.block w.heap.size (by simp) (by omega)).trans (heap_alloc_new w o))
  have hU := hide (fun W (bb : Below w.heap.size w W) => hu B p W (h.below bb))
  have hug := unm_goes f c hc
  have hpu := hide (fun W (hc : CurAt W B p (unm (typF f) c).2) => punct_ok B p (unm (typF f) c).2 bBang W hc)
  obtain ⟨U, eU⟩ : ∃ U, U = unm (typF f) c := ⟨_, rfl⟩
  have hs0 := hide (show U.1 = none → typ (unm (typF f)) c = (none, U.2) from fun e => by unfold typ; rw [← eU, e])
  have hs1 := hide (show ∀ r, U.1 = some r → typ (unm (typF f)) c = if U.2.isP bBang then (some (r.1, r.2 ++ bBang), U.2.punct bBang) else (some r, U.2.punct bBang) from fun r e => by unfold typ; rw [← eU, e])
  rw [← eU] at hU hpu hug
  clear h eU hu
  obtain ⟨r, C⟩ := U
  have hixC := hug.1.ok.lt
  rw [hug.1.ts] at hixC
  unfold ptr at hU hpu ⊢
  go_enter Try.func16, Try.ntmps16
  go_wp2_with fail
  refine ((unhide hU) _ ((unhide bA) _)).mono ?_
  rintro e w4 ⟨rfl, hc4, hk4⟩
  have hR4 := (unhide hZ) _ w4 hk4
  have hz4 : w.heap.size < w4.heap.size := by have := hk4.size; simp at this; omega
  have HK := hide ((Kp.of ((unhide bA) _)).trans hk4)
  have HC := hide hc4
  have HR := hide hR4
  clear hk4 hc4 hR4 hU hZ bA
  have HT := hide (fun o => dt.there_cells ((Below.heap_alloc w4 o w.heap.size hz4).trans (unhide HR)) (o := 0) (n := 2) (by decide))
  cases r with
  | none =>
    have hs2 := hide ((unhide hs0) rfl)
    unfold trC
    clear hs0 hs1 hpu
    go_wp2_with (first
      | refine wpList_store_mid (by rfl) 48 _ _ (by rfl) w.heap.size 0 #[.string em, .string em] (by rfl) (by rfl) ((unhide HT) _) infoTr (dt.one_cells (cs := [.string em, .string em]) (by rfl)) ?_)
    refine bodyPost_ret (rgn.result_row_tmp rfl _ _ w.heap.size 0 [.string em, .string em] _ rfl (World.rangeAt_setCells_same _ _ _ _ ((unhide HT) _)) Try.underlying48 rfl infoTr) rfl ?_
    rw [unhide hs2]
    exact ⟨rfl, ((unhide HC).below ((Below.refl _ _).alloc (Nat.le_refl _) _)).out hne hnp _ _, ((unhide HK).trans (Kp.of ((Below.refl _ _).alloc (Nat.le_refl _) _))).out (Nat.le_refl _) _ _⟩
  | some it =>
    have hitz : it.2.size ≤ 1099511627777 := by have := hug.2 it rfl; omega
    have hs2 := hide ((unhide hs1) it rfl)
    clear hs0 hs1 hug
    obtain ⟨nm, wp⟩ := it
    cases hQ : C.isP bBang
    · rw [hQ] at hpu hs2
      unfold trC
      go_wp2_with fail
      refine ((unhide hpu) _ ((unhide HC).below ((Below.refl _ _).alloc (Nat.le_refl _) _))).mono ?_
      rintro e w5 ⟨rfl, hc5, hk5⟩
      have hR5 := (hk5.block w.heap.size (by simp; omega) (by omega)).trans ((Below.heap_alloc w4 _ w.heap.size hz4).trans (unhide HR))
      have hI5 := (hk5.block w4.heap.size (by simp) (by omega)).trans (heap_alloc_new w4 _)
      have i0 : w5.cell? ⟨w4.heap.size, 0, none⟩ = some (.string nm) := (dt.cell_cells hI5 0).trans rfl
      have i1 : w5.cell? ⟨w4.heap.size, 1, none⟩ = some (.string wp) := (dt.cell_cells hI5 1).trans rfl
      have HT5 := hide (dt.there_cells hR5 (o := 0) (n := 2) (by decide))
      have HC5 := hide hc5
      have HK5 := hide ((unhide HK).trans ((Kp.of ((Below.refl _ _).alloc (Nat.le_refl _) _)).trans hk5))
      clear hpu hk5 hc5 hR5 hI5 HC HK HT HR
      go_wp2_with (first
        | refine wpList_store_mid (by rfl) 48 _ _ (by rfl) w.heap.size 0 #[.string nm, .string wp] (by rfl) (by rfl) (unhide HT5) infoTr (dt.one_cells (cs := [.string nm, .string wp]) (by rfl)) ?_)
      refine bodyPost_ret (rgn.result_row_tmp rfl _ _ w.heap.size 0 [.string nm, .string wp] _ rfl (World.rangeAt_setCells_same _ _ _ _ (unhide HT5)) Try.underlying48 rfl infoTr) rfl ?_
      rw [unhide hs2]
      exact ⟨rfl, (unhide HC5).out hne hnp _ _, (unhide HK5).out (Nat.le_refl _) _ _⟩
    · rw [hQ] at hpu hs2
      unfold trC
      go_wp2_with fail
      refine ((unhide hpu) _ ((unhide HC).below ((Below.refl _ _).alloc (Nat.le_refl _) _))).mono ?_
      rintro e w5 ⟨rfl, hc5, hk5⟩
      have hR5 := (hk5.block w.heap.size (by simp; omega) (by omega)).trans ((Below.heap_alloc w4 _ w.heap.size hz4).trans (unhide HR))
      have hI5 := (hk5.block w4.heap.size (by simp) (by omega)).trans (heap_alloc_new w4 _)
      have i0 : w5.cell? ⟨w4.heap.size, 0, none⟩ = some (.string nm) := (dt.cell_cells hI5 0).trans rfl
      have i1 : w5.cell? ⟨w4.heap.size, 1, none⟩ = some (.string wp) := (dt.cell_cells hI5 1).trans rfl
      have f1 : w5.frozen? ⟨w4.heap.size, 1, none⟩ = false := dt.frozen_cells hI5 1
      have hnw : w.heap.size ≠ w4.heap.size := by omega
      have hX : Hid (∀ v, (w5.setCell ⟨w4.heap.size, 1, none⟩ v).there w.heap.size 0 2) := hide (fun v => dt.there_cells ((Below.heap_setCell w5 ⟨w4.heap.size, 1, none⟩ v w.heap.size hnw).trans hR5) (o := 0) (n := 2) (by decide))
      have j0 : ∀ v, (w5.setCell ⟨w4.heap.size, 1, none⟩ v).cell? ⟨w4.heap.size, 0, none⟩ = some (.string nm) := fun v => (dt.cell_cells (dt.heap_setCell_at hI5 1 v) 0).trans rfl
      have HC5 := hide hc5
      have HK5 := hide ((unhide HK).trans ((Kp.of ((Below.refl _ _).alloc (Nat.le_refl _) _)).trans hk5))
      clear hpu hk5 hc5 hR5 hI5 HC HK HT HR
      go_wp2_with (first
        | refine wpList_store_mid (by rfl) 48 _ _ (by rfl) w.heap.size 0 #[.string nm, .string (wp ++ bBang)] (by rfl) (by rfl) ((unhide hX) _) infoTr (dt.one_cells (cs := [.string nm, .string (wp ++ bBang)]) (by rfl)) ?_)
      refine bodyPost_ret (rgn.result_row_tmp rfl _ _ w.heap.size 0 [.string nm, .string (wp ++ bBang)] _ rfl (World.rangeAt_setCells_same _ _ _ _ ((unhide hX) _)) Try.underlying48 rfl infoTr) rfl ?_
      rw [unhide hs2]
      exact ⟨rfl, ((unhide HC5).out (b := w4.heap.size) (by omega) (by omega) 1 [.string (wp ++ bBang)]).out hne hnp _ _, ((unhide HK5).out (b := w4.heap.size) (by omega) 1 [.string (wp ++ bBang)]).out (Nat.le_refl _) _ _⟩
theorem typF_ok : ∀ (f : Nat) (c : Cu), c.Ok → c.ts.length ≤ 1099511627777 → c.ts.length ≤ f + c.ix → TypAt (typF f) 16 c
  | 0, c, hc, hl, hf => by have := hc.lt; omega
  | f + 1, c, hc, hl, hf => typ_ok f c hc hl (unm_ok f c hc hl (fun c' h1 h2 h3 => typF_ok f c' h1 (by rw [h2]; exact hl) (by rw [h2, h3]; omega)))
end Go.Proofs.Ytfegalieiiaopab.cu
