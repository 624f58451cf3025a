import Derived.Test.YtfegalieiiaopabCv6
namespace Go.Proofs.Ytfegalieiiaopab.cu
open Go.ChangeShapes Go.WideShapes Go.ChangeAt Go.RowKit
open ints (hide unhide)
open dt (Dt Kp RowAt)
set_option linter.unusedVariables false
set_option linter.unusedSimpArgs false
theorem infoTr : (Try.prog.info? 48).map (·.size) = some 2 := by kernel_rfl
/-- a reference's cells -/
def trC (r : Option (ByteArray × ByteArray)) : List Value := [.string (r.map (·.1) |>.getD em), .string (r.map (·.2) |>.getD em)]
def TypAt (T : Cu → Option (ByteArray × ByteArray) × Cu) (f : Nat) (c : Cu) : Prop := ∀ (B p : Nat) (w : World), CurAt w B p c → Calls Try.prog f #[ptr B] w fun e w' => e = .returned (.tuple #[.agg (trC (T c).1).toArray, .bool (T c).1.isSome]) ∧ CurAt w' B p (T c).2 ∧ Kp B w w'
theorem nmT_form (c : Cu) : c.nmT = [.string (if c.isN then c.tok.tx else em), .int .i64 (if c.isN then c.tok.ln else 0), .int .i64 (if c.isN then c.tok.co else 0)] := by
  unfold Cu.nmT
  split <;> simp [*]
theorem unm_no {f : Nat} {c : Cu} (hP : c.isP bLb = false) : trC (unm (typF f) c).1 = [.string (if c.isN then c.tok.tx else em), .string em] ∧ (unm (typF f) c).1.isSome = c.isN ∧ (unm (typF f) c).2 = c.name := by
  unfold unm
  rw [if_neg (by rw [hP]; simp)]
  cases h : c.isN <;> simp [trC]
set_option maxRecDepth 4000 in
set_option maxHeartbeats 1000000 in
theorem unm_ok (f : Nat) (c : Cu) (hc : c.Ok) (hlen : c.ts.length ≤ 1099511627777) (ih : ∀ c' : Cu, c'.Ok → c'.ts = c.ts → c'.ix = c.ix + 1 → TypAt (typF f) 16 c') : TypAt (unm (typF f)) 33 c := by
  intro B p w h
  have hi := hide (fun W (bb : Below w.heap.size w W) => isPunct_ok B p c bLb W (h.below bb))
  have hlt := h.lt
  have hplt := h.plt
  have hne : B ≠ w.heap.size := by omega
  have hnp : p ≠ w.heap.size := by omega
  have bA := hide (fun o => show Below w.heap.size w (w.alloc o) from (Below.refl _ _).alloc (Nat.le_refl _) _)
  have hZ := hide (fun o W (hk : Kp B (w.alloc o) W) => show W.heap[w.heap.size]? = some o from (hk.block w.heap.size (by simp) (by omega)).trans (heap_alloc_new w o))
  cases hP : c.isP bLb
  · have hn := hide (fun W (bb : Below w.heap.size w W) => nameAny_ok B p c W (h.below bb))
    clear h
    unfold ptr at hi hn ⊢
    rw [hP] at hi
    obtain ⟨s1, s2, s3⟩ := unm_no (f := f) hP
    rw [nmT_form] at hn
    rw [s1, s2, s3]
    clear s1 s2 s3 ih hP
    obtain ⟨A, hA⟩ : ∃ A, A = if c.isN then c.tok.tx else em := ⟨_, rfl⟩
    obtain ⟨X, hX⟩ : ∃ X, X = if c.isN then c.tok.ln else 0 := ⟨_, rfl⟩
    obtain ⟨Y, hY⟩ : ∃ Y, Y = if c.isN then c.tok.co else 0 := ⟨_, rfl⟩
    rw [← hA, ← hX, ← hY] at hn
    rw [← hA]
    clear hA hX hY
    obtain ⟨R, hR⟩ : ∃ R, R = c.isN := ⟨_, rfl⟩
    rw [← hR] at hn ⊢
    clear hR
    go_enter Try.func33, Try.ntmps33
    go_wp2_with fail
    refine ((unhide hi) _ ((unhide bA) _)).mono ?_
    rintro e w1 ⟨rfl, b1⟩
    go_wp2_with fail
    refine ((unhide hn) _ (((unhide bA) _).trans (b1.mono ((unhide bA) _).size))).mono ?_
    rintro e w2 ⟨rfl, hc2, hk2⟩
    have hk3 := (Kp.of b1).trans hk2
    have hR2 := (unhide hZ) _ w2 hk3
    have hz2 : w.heap.size < w2.heap.size := by have := hk3.size; simp at this; omega
    have HK := hide ((Kp.of ((unhide bA) _)).trans hk3)
    have HC := hide hc2
    have HT := hide (fun o => dt.there_cells ((Below.heap_alloc w2 o w.heap.size hz2).trans hR2) (o := 0) (n := 2) (by decide))
    clear hk3 hR2 hk2 hc2 hn hi hZ bA
    go_wp2_with (first
      | refine wpList_store_mid (by rfl) 48 _ _ (by rfl) w.heap.size 0 #[.string A, .string ⟨#[]⟩] (by rfl) (by rfl) ((unhide HT) _) infoTr (dt.one_cells (cs := [.string A, .string ⟨#[]⟩]) (by rfl)) ?_)
    refine bodyPost_ret (rgn.result_row_tmp rfl _ _ w.heap.size 0 [.string A, .string ⟨#[]⟩] _ rfl (World.rangeAt_setCells_same _ _ _ _ ((unhide HT) _)) Try.underlying48 rfl infoTr) rfl ?_
    exact ⟨rfl, ((unhide HC).below ((Below.refl _ _).alloc (Nat.le_refl _) _)).out hne hnp _ _, ((unhide HK).trans (Kp.of ((Below.refl _ _).alloc (Nat.le_refl _) _))).out (Nat.le_refl _) _ _⟩
  · have ho := hide (fun W (bb : Below w.heap.size w W) => open_ok B p c bLb W (h.below bb))
    rw [hP] at hi
    have hok := opn_stp hc bLb
    cases hO : c.opB bLb
    · rw [hO] at ho
      have hs := hide (show (unm (typF f) c) = (none, c.opn bLb) from by unfold unm; rw [if_pos hP, if_neg (by rw [hO]; simp)])
      rw [unhide hs]
      clear h hP hO ih hok
      unfold ptr at hi ho ⊢
      go_enter Try.func33, Try.ntmps33
      go_wp2_with fail
      refine ((unhide hi) _ ((unhide bA) _)).mono ?_
      rintro e w1 ⟨rfl, b1⟩
      go_wp2_with fail
      refine ((unhide ho) _ (((unhide bA) _).trans (b1.mono ((unhide bA) _).size))).mono ?_
      rintro e w2 ⟨rfl, hc2, hk2⟩
      have hk3 := (Kp.of b1).trans hk2
      have hR2 := (unhide hZ) _ w2 hk3
      have HK := hide ((Kp.of ((unhide bA) _)).trans hk3)
      have HC := hide hc2
      have HT := hide (dt.there_cells hR2 (o := 0) (n := 2) (by decide))
      clear hk3 hR2 hk2 hc2 ho hi hZ bA
      go_wp2_with (first
        | refine wpList_store_mid (by rfl) 48 _ _ (by rfl) w.heap.size 0 #[.string ⟨#[]⟩, .string ⟨#[]⟩] (by rfl) (by rfl) (unhide HT) infoTr (dt.one_cells (cs := [.string ⟨#[]⟩, .string ⟨#[]⟩]) (by rfl)) ?_)
      refine bodyPost_ret (rgn.result_row_tmp rfl _ _ w.heap.size 0 [.string ⟨#[]⟩, .string ⟨#[]⟩] _ rfl (World.rangeAt_setCells_same _ _ _ _ (unhide HT)) Try.underlying48 rfl infoTr) rfl ?_
      exact ⟨rfl, (unhide HC).out hne hnp _ _, (unhide HK).out (Nat.le_refl _) _ _⟩
    · rw [hO] at ho
      have hT := hide (ih (c.opn bLb) hok.ok hok.ts (opn_ix hO) B p)
      have htg := typF_goes f (c.opn bLb) hok.ok
      have hcl := hide (fun W (hc : CurAt W B p (typF f (c.opn bLb)).2) => close_ok B p (typF f (c.opn bLb)).2 bRb W hc)
      obtain ⟨U, hU⟩ : ∃ U, U = typF f (c.opn bLb) := ⟨_, rfl⟩
      have hs0 := hide (show U.1 = none → unm (typF f) c = (none, U.2) from fun e => by unfold unm; rw [if_pos hP, if_pos (by rw [hO]), ← hU, e])
      have hs1 := hide (show ∀ it, U.1 = some it → unm (typF f) c = if U.2.isP bRb then (some (it.1, it.2 ++ bRb), U.2.cls bRb) else (none, U.2.cls bRb) from fun it e => by unfold unm; rw [if_pos hP, if_pos (by rw [hO]), ← hU, e])
      rw [← hU] at hT htg hcl
      clear h hP hO ih hU
      obtain ⟨r, C⟩ := U
      have hixC := htg.1.ok.lt
      rw [htg.1.ts, hok.ts] at hixC
      unfold ptr at hi ho hT hcl ⊢
      go_enter Try.func33, Try.ntmps33
      go_wp2_with fail
      refine ((unhide hi) _ ((unhide bA) _)).mono ?_
      rintro e w1 ⟨rfl, b1⟩
      go_wp2_with fail
      refine ((unhide ho) _ (((unhide bA) _).trans (b1.mono ((unhide bA) _).size))).mono ?_
      rintro e w2 ⟨rfl, hc2, hk2⟩
      have hk3 := (Kp.of b1).trans hk2
      go_wp2_with fail
      refine ((unhide hT) _ hc2).mono ?_
      rintro e w4 ⟨rfl, hc4, hk4⟩
      have hk5 := hk3.trans hk4
      have hR4 := (unhide hZ) _ w4 hk5
      have hz4 : w.heap.size < w4.heap.size := by have := hk5.size; simp at this; omega
      have HK := hide ((Kp.of ((unhide bA) _)).trans hk5)
      have HC := hide hc4
      have HR := hide hR4
      clear hk3 hk2 hc2 hk4 hk5 hc4 hR4 ho hi hT hZ bA b1
      have HT := hide (fun o => dt.there_cells ((Below.heap_alloc w4 o w.heap.size hz4).trans (unhide HR)) (o := 0) (n := 2) (by decide))
      cases r with
      | none =>
        have hs2 := hide ((unhide hs0) rfl)
        unfold trC
        clear hs0 hs1 hcl
        go_wp2_with (first
          | refine wpList_store_mid (by rfl) 48 _ _ (by rfl) w.heap.size 0 #[.string ⟨#[]⟩, .string ⟨#[]⟩] (by rfl) (by rfl) ((unhide HT) _) infoTr (dt.one_cells (cs := [.string ⟨#[]⟩, .string ⟨#[]⟩]) (by rfl)) ?_)
        refine bodyPost_ret (rgn.result_row_tmp rfl _ _ w.heap.size 0 [.string ⟨#[]⟩, .string ⟨#[]⟩] _ rfl (World.rangeAt_setCells_same _ _ _ _ ((unhide HT) _)) Try.underlying48 rfl infoTr) rfl ?_
        rw [unhide hs2]
        exact ⟨rfl, ((unhide HC).below ((Below.refl _ _).alloc (Nat.le_refl _) _)).out hne hnp _ _, ((unhide HK).trans (Kp.of ((Below.refl _ _).alloc (Nat.le_refl _) _))).out (Nat.le_refl _) _ _⟩
      | some it =>
        have hitz : it.2.size ≤ 1099511627777 := by have := htg.2 it rfl; omega
        have hs2 := hide ((unhide hs1) it rfl)
        clear hs0 hs1 htg
        obtain ⟨nm, wp⟩ := it
        cases hQ : C.isP bRb
        · rw [hQ] at hcl hs2
          unfold trC
          go_wp2_with fail
          refine ((unhide hcl) _ ((unhide HC).below ((Below.refl _ _).alloc (Nat.le_refl _) _))).mono ?_
          rintro e w5 ⟨rfl, hc5, hk5⟩
          have hR5 := (hk5.block w.heap.size (by simp; omega) (by omega)).trans ((Below.heap_alloc w4 _ w.heap.size hz4).trans (unhide HR))
          have HT5 := hide (dt.there_cells hR5 (o := 0) (n := 2) (by decide))
          have HC5 := hide hc5
          have HK5 := hide ((unhide HK).trans ((Kp.of ((Below.refl _ _).alloc (Nat.le_refl _) _)).trans hk5))
          clear hcl hk5 hc5 hR5 HC HK HT HR
          go_wp2_with (first
            | refine wpList_store_mid (by rfl) 48 _ _ (by rfl) w.heap.size 0 #[.string ⟨#[]⟩, .string ⟨#[]⟩] (by rfl) (by rfl) (unhide HT5) infoTr (dt.one_cells (cs := [.string ⟨#[]⟩, .string ⟨#[]⟩]) (by rfl)) ?_)
          refine bodyPost_ret (rgn.result_row_tmp rfl _ _ w.heap.size 0 [.string ⟨#[]⟩, .string ⟨#[]⟩] _ rfl (World.rangeAt_setCells_same _ _ _ _ (unhide HT5)) Try.underlying48 rfl infoTr) rfl ?_
          rw [unhide hs2]
          exact ⟨rfl, (unhide HC5).out hne hnp _ _, (unhide HK5).out (Nat.le_refl _) _ _⟩
        · rw [hQ] at hcl hs2
          unfold trC
          go_wp2_with fail
          refine ((unhide hcl) _ ((unhide HC).below ((Below.refl _ _).alloc (Nat.le_refl _) _))).mono ?_
          rintro e w5 ⟨rfl, hc5, hk5⟩
          have hR5 := (hk5.block w.heap.size (by simp; omega) (by omega)).trans ((Below.heap_alloc w4 _ w.heap.size hz4).trans (unhide HR))
          have hI5 := (hk5.block w4.heap.size (by simp) (by omega)).trans (heap_alloc_new w4 _)
          have i0 : w5.cell? ⟨w4.heap.size, 0, none⟩ = some (.string nm) := (dt.cell_cells hI5 0).trans rfl
          have i1 : w5.cell? ⟨w4.heap.size, 1, none⟩ = some (.string wp) := (dt.cell_cells hI5 1).trans rfl
          have HT5 := hide (dt.there_cells hR5 (o := 0) (n := 2) (by decide))
          have HC5 := hide hc5
          have HK5 := hide ((unhide HK).trans ((Kp.of ((Below.refl _ _).alloc (Nat.le_refl _) _)).trans hk5))
          clear hcl hk5 hc5 hR5 hI5 HC HK HT HR
          go_wp2_with (first
            | refine wpList_store_mid (by rfl) 48 _ _ (by rfl) w.heap.size 0 #[.string nm, .string (wp ++ bRb)] (by rfl) (by rfl) (unhide HT5) infoTr (dt.one_cells (cs := [.string nm, .string (wp ++ bRb)]) (by rfl)) ?_)
          refine bodyPost_ret (rgn.result_row_tmp rfl _ _ w.heap.size 0 [.string nm, .string (wp ++ bRb)] _ rfl (World.rangeAt_setCells_same _ _ _ _ (unhide HT5)) Try.underlying48 rfl infoTr) rfl ?_
          rw [unhide hs2]
          exact ⟨rfl, (unhide HC5).out hne hnp _ _, (unhide HK5).out (Nat.le_refl _) _ _⟩
end Go.Proofs.Ytfegalieiiaopab.cu
