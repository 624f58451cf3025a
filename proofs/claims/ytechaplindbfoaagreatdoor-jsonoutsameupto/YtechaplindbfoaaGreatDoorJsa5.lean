import Derived.Test.YtechaplindbfoaaGreatDoorJsa4
namespace Go.Proofs.YtechaplindbfoaaGreatDoor.og
open Go.ChangeShapes Go.WideShapes Go.ChangeAt Go.RowKit
open vl hiding cB cFl cS cF cI cK cIt
open stp (c3 c3_lt c3_gt c3_eq cB cB_tri)
set_option linter.unusedVariables false
set_option linter.unusedSimpArgs false
/-- order at two values -/
def OrdAt (v u : Vl) : Prop := ∀ (cs ds : List Value) (w : World), VlC w v cs → VlC w u ds → Calls Tryz.prog 28 #[.agg cs.toArray, .agg ds.toArray] w fun e w' => e = .returned (.int .i64 (ordV v u)) ∧ Gr w w'
def OrdMAt (p q : ByteArray × Vl) : Prop := ∀ (cs ds : List Value) (w : World), VlC w p.2 cs → VlC w q.2 ds → Calls Tryz.prog 54 #[.agg (Value.string p.1 :: cs).toArray, .agg (Value.string q.1 :: ds).toArray] w fun e w' => e = .returned (.int .i64 (ordM p q)) ∧ Gr w w'
set_option maxHeartbeats 2000000 in
theorem ordM_ok (p q : ByteArray × Vl) (ih : OrdAt p.2 q.2) : OrdMAt p q := by
  intro cs ds w h1 h2
  obtain ⟨nm, v⟩ := p
  obtain ⟨nm', u⟩ := q
  simp only at h1 h2 ih ⊢
  have IH := hide (ih cs ds)
  have HO := hide (show ordM (nm, v) (nm', u) = (if cB nm nm' = 0 then ordV v u else cB nm nm') from rfl)
  have c8 := h1.cells
  have d8 := h2.cells
  obtain ⟨W, eW⟩ : ∃ W, W = (w.alloc (.cells (Value.string nm :: cs).toArray 45)).alloc (.cells (Value.string nm' :: ds).toArray 45) := ⟨_, rfl⟩
  have bW : Gr w W := by rw [eW]; exact ((Gr.refl _).alloc _).alloc _
  have r1 : W.rangeAt w.heap.size 0 (Value.string nm :: cs) := fun j x hx => by
    rw [eW, Nat.zero_add, World.cell?_alloc_past _ _ _ (by simp), World.cell?_alloc_at _ _ _ _ rfl]; simpa using hx
  have r2 : W.rangeAt (w.heap.size + 1) 0 (Value.string nm' :: ds) := fun j x hx => by
    rw [eW, Nat.zero_add, World.cell?_alloc_at _ _ _ _ (by simp)]; simpa using hx
  have a0 : W.cell? ⟨w.heap.size, 0, none⟩ = some (.string nm) := r1 0 _ rfl
  have b0 : W.cell? ⟨w.heap.size + 1, 0, none⟩ = some (.string nm') := r2 0 _ rfl
  have k1 : W.rangeAt w.heap.size 1 cs := fun j x hx => by have := r1 (j + 1) x (by simpa using hx); rwa [show 0 + (j + 1) = 1 + j by omega] at this
  have k2 : W.rangeAt (w.heap.size + 1) 1 ds := fun j x hx => by have := r2 (j + 1) x (by simpa using hx); rwa [show 0 + (j + 1) = 1 + j by omega] at this
  have i1 : (Tryz.prog.info? 29).map (·.size) = some cs.length := by rw [c8]; exact infoV
  have i2 : (Tryz.prog.info? 29).map (·.size) = some ds.length := by rw [d8]; exact infoV
  have HH := hide (And.intro k1 (And.intro k2 (And.intro i1 (And.intro i2 (And.intro (VlC.below bW.1 _ _ h1) (VlC.below bW.1 _ _ h2))))))
  have EW := hide eW
  clear eW r1 r2 k1 k2 i1 i2 h1 h2 c8 d8 ih
  generalize hcb : cB nm nm' = C at *
  have HCB := hide hcb
  clear hcb
  by_cases hc : C = 0
  · have HO := hide ((unhide HO).trans (if_pos hc))
    have HCB := hide ((unhide HCB).trans hc)
    subst hc
    go_enter Tryz.func54, Tryz.ntmps54
    go_wp2_with fail
    rw [← unhide EW]
    clear EW
    refine (str_cmpE nm nm' _).mono ?_
    rintro e w1 ⟨rfl, rfl⟩
    rw [unhide HCB]
    go_wp2_with (first
      | refine wpList_load_mid (by rfl) 29 _ (by rfl) w.heap.size 1 (by rfl) cs _ (unhide HH).1 Tryz.underlying29 (by rfl) (unhide HH).2.2.1 ?_
      | refine wpList_load_mid (by rfl) 29 _ (by rfl) (w.heap.size + 1) 1 (by rfl) ds _ (unhide HH).2.1 Tryz.underlying29 (by rfl) (unhide HH).2.2.2.1 ?_)
    refine (unhide IH _ (unhide HH).2.2.2.2.1 (unhide HH).2.2.2.2.2).mono ?_
    rintro e w2 ⟨rfl, g2⟩
    go_wp2
    go_ret
    exact ⟨by rw [unhide HO]; rfl, bW.trans g2⟩
  · have HO := hide ((unhide HO).trans (if_neg hc))
    have hc2 : (C != 0) = true := by simpa using hc
    go_enter Tryz.func54, Tryz.ntmps54
    go_wp2_with fail
    rw [← unhide EW]
    clear EW
    refine (str_cmpE nm nm' _).mono ?_
    rintro e w1 ⟨rfl, rfl⟩
    rw [unhide HCB]
    go_wp2
    go_ret
    exact ⟨by rw [unhide HO]; rfl, bW⟩
set_option maxHeartbeats 4000000 in
set_option maxRecDepth 6000 in
theorem cmpV_ok (A B : Vls) (ih : ∀ v ∈ A.list, ∀ u ∈ B.list, OrdAt v u) (aA aB : Option Addr) (nA cA nB cB' : Nat) (w : World) (hA : VlsAt w A aA nA) (hB : VlsAt w B aB nB) (bA : nA ≤ 4611686018427387903) (bB : nB ≤ 4611686018427387903) :
    Calls Tryz.prog 52 #[.slice aA nA cA, .slice aB nB cB', .func (.func 28) #[] #[]] w fun e w' => e = .returned (.int .i64 (lexG ordV A.list B.list)) ∧ Gr w w' := by
  have en : ∀ args w, (callFunc 28 args).run Tryz.prog w = .ok (.enter 28 args) w := fun _ _ => rfl
  have lA := hide (VlsAt.len A _ _ hA)
  have lB := hide (VlsAt.len B _ _ hB)
  go_enter Tryz.func52, Tryz.ntmps52
  go_wp2_with fail
  go_loopw [13] (fun v wr => ∃ k : Nat, k ≤ nA ∧ k ≤ nB ∧ v = .int .i64 k ∧ Gr w wr ∧ vl.Hid (lexG ordV A.list B.list = lexG ordV (A.list.drop k) (B.list.drop k))) (fun v _ => nA - (intOf v).toNat)
  case atStart => exact ⟨0, Nat.zero_le _, Nat.zero_le _, rfl, Gr.refl _, rfl⟩
  case round =>
    obtain ⟨k, hkA, hkB, rfl, hbk, hl⟩ := hrel
    by_cases hlt : k < nA
    · have ki : (k : Int) < (nA : Int) := by omega
      obtain ⟨b, off, v, cs, rfl, hg, hr, hv⟩ := VlsAt.get A _ _ (VlsAt.below hbk.1 A _ _ hA) k hlt
      have hr : wr.rangeAt b (off + k * 8) cs := hr
      have h1 := hv.one
      have c8 := hv.cells
      have i1 : (Tryz.prog.info? 29).map (·.size) = some cs.length := by rw [c8]; exact infoV
      have i2 : (Tryz.prog.info? 29).map (·.size) = some cs.toArray.size := by simp [c8, infoV]
      have HH := hide (And.intro i1 (And.intro i2 (And.intro (show cs.toArray.size = 8 by simp [c8]) c8)))
      clear i1 i2 c8
      by_cases hlb : k < nB
      · have kb : (k : Int) < (nB : Int) := by omega
        obtain ⟨b', off', u, ds, rfl, hg', hr', hv'⟩ := VlsAt.get B _ _ (VlsAt.below hbk.1 B _ _ hB) k hlb
        have g1 := hv'.one
        have d8 := hv'.cells
        have j1 : (Tryz.prog.info? 29).map (·.size) = some ds.length := by rw [d8]; exact infoV
        have j2 : (Tryz.prog.info? 29).map (·.size) = some ds.toArray.size := by simp [d8, infoV]
        obtain ⟨W, eW⟩ : ∃ W, W = (wr.alloc (.cells #[Value.int IntKind.i64 0, Value.bool false, Value.int IntKind.i64 0, Value.float FloatKind.f64 0, Value.string { data := #[] }, Value.string { data := #[] }, Value.slice none 0 0, Value.slice none 0 0] 29)).setCells wr.heap.size 0 cs := ⟨_, rfl⟩
        have bW : Gr wr W := by rw [eW]; exact ((Gr.refl _).alloc _).setCells (Nat.le_refl _) _ _
        have sW : W.heap.size = wr.heap.size + 1 := by rw [eW, size_setCells]; simp
        have rW : W.rangeAt wr.heap.size 0 cs := by rw [eW]; exact World.rangeAt_setCells_same _ _ _ _ (there_new (by show _ = cs.length; rw [(unhide HH).2.2.2]; rfl))
        have rW' : W.rangeAt b' (off' + k * 8) ds := Row8.below hr' bW.1
        have vW := VlC.below bW.1 _ _ hv
        have vW' := VlC.below bW.1 _ _ hv'
        obtain ⟨X, eX⟩ : ∃ X, X = (W.alloc (.cells #[Value.int IntKind.i64 0, Value.bool false, Value.int IntKind.i64 0, Value.float FloatKind.f64 0, Value.string { data := #[] }, Value.string { data := #[] }, Value.slice none 0 0, Value.slice none 0 0] 29)).setCells W.heap.size 0 ds := ⟨_, rfl⟩
        have bX : Gr W X := by rw [eX]; exact ((Gr.refl _).alloc _).setCells (Nat.le_refl _) _ _
        have rX : X.rangeAt W.heap.size 0 ds := by rw [eX]; exact World.rangeAt_setCells_same _ _ _ _ (there_new (by show _ = ds.length; rw [d8]; rfl))
        have rX' : X.rangeAt wr.heap.size 0 cs := Row8.below rW bX.1
        have IH := hide (ih v (List.mem_of_getElem? hg) u (List.mem_of_getElem? hg') cs ds X (VlC.below bX.1 _ _ vW) (VlC.below bX.1 _ _ vW'))
        have HS := hide (lexG_step (f := ordV) hg hg')
        have EW := hide eW
        have EX := hide eX
        have SW := hide sW
        have JJ := hide (And.intro j1 (And.intro j2 (And.intro (show ds.toArray.size = 8 by simp [d8]) d8)))
        have RR := hide (And.intro rW' (And.intro rX rX'))
        clear eW eX sW vW vW' j1 j2 d8 hv hv' rW hr' hg hg' rW' rX rX'
        go_wp2_with (first
          | (refine wpList_load_mid (by rfl) 29 _ (by rfl) b (off + k * 8) (by rfl) cs _ hr Tryz.underlying29 (by rfl) (unhide HH).1 ?_)
          | (refine wpList_store_mid (by rfl) 29 _ _ (by rfl) wr.heap.size 0 cs.toArray (by rfl) (by rfl) (there_new (by rw [(unhide HH).2.2.1]; rfl)) (unhide HH).2.1 h1 ?_; rw [show ((wr.alloc (.cells #[Value.int IntKind.i64 0, Value.bool false, Value.int IntKind.i64 0, Value.float FloatKind.f64 0, Value.string { data := #[] }, Value.string { data := #[] }, Value.slice none 0 0, Value.slice none 0 0] 29)).setCells wr.heap.size 0 cs.toArray.toList) = W from (unhide EW).symm]; clear hr)
          | (refine wpList_load_mid (by rfl) 29 _ (by rfl) b' (off' + k * 8) (by rfl) ds _ (unhide RR).1 Tryz.underlying29 (by rfl) (unhide JJ).1 ?_)
          | (refine wpList_store_mid (by rfl) 29 _ _ (by rfl) W.heap.size 0 ds.toArray (by rfl) (by rfl) (there_new (by rw [(unhide JJ).2.2.1]; rfl)) (unhide JJ).2.1 g1 ?_; rw [show ((W.alloc (.cells #[Value.int IntKind.i64 0, Value.bool false, Value.int IntKind.i64 0, Value.float FloatKind.f64 0, Value.string { data := #[] }, Value.string { data := #[] }, Value.slice none 0 0, Value.slice none 0 0] 29)).setCells W.heap.size 0 ds.toArray.toList) = X from (unhide EX).symm])
          | (refine wpList_load_mid (by rfl) 29 _ (by rfl) wr.heap.size 0 (by rfl) cs _ (unhide RR).2.2 Tryz.underlying29 (by rfl) (unhide HH).1 ?_)
          | (refine wpList_load_mid (by rfl) 29 _ (by rfl) W.heap.size 0 (by rfl) ds _ (unhide RR).2.1 Tryz.underlying29 (by rfl) (unhide JJ).1 ?_))
        refine (unhide IH).mono ?_
        rintro e w2 ⟨rfl, g2⟩
        have G2 : Gr w w2 := hbk.trans (bW.trans (bX.trans g2))
        by_cases hc : ordV v u = 0
        · have hc2 := hide hc
          rw [hc]
          clear hc
          go_wp2
          go_roundw
          case rel => exact ⟨k + 1, by omega, by omega, by go_num, G2, (unhide hl).trans ((unhide HS).trans (if_pos (unhide hc2)))⟩
          case measure => simp [intOf]; omega
        · have hc2 := hide hc
          generalize hcv : ordV v u = cv at *
          have hcv := hide hcv
          go_wp2
          go_ret
          exact ⟨by rw [unhide hl, unhide HS, if_neg (unhide hc2)]; rfl, G2⟩
      · have kb : ¬ (k : Int) < (nB : Int) := by omega
        go_wp2_with (first
          | (refine wpList_load_mid (by rfl) 29 _ (by rfl) b (off + k * 8) (by rfl) cs _ hr Tryz.underlying29 (by rfl) (unhide HH).1 ?_)
          | (refine wpList_store_mid (by rfl) 29 _ _ (by rfl) wr.heap.size 0 cs.toArray (by rfl) (by rfl) (there_new (by rw [(unhide HH).2.2.1]; rfl)) (unhide HH).2.1 h1 ?_))
        go_ret
        exact ⟨by rw [unhide hl, lexG_end2 (by rw [unhide lA]; exact hlt) (by rw [unhide lB]; omega)]; rfl, (hbk.alloc _).setCells hbk.1.size _ _⟩
    · have ki : ¬ (k : Int) < (nA : Int) := by omega
      by_cases hlb : k < nB
      · have kb : (nA : Int) < (nB : Int) := by omega
        go_wp2
        go_ret
        exact ⟨by rw [unhide hl, lexG_end1 (by rw [unhide lA]; omega) (by rw [unhide lB]; exact hlb)]; rfl, hbk⟩
      · have kb : ¬ (nA : Int) < (nB : Int) := by omega
        go_wp2
        go_ret
        exact ⟨by rw [unhide hl, lexG_end0 (by rw [unhide lA]; omega) (by rw [unhide lB]; omega)]; rfl, hbk⟩
end Go.Proofs.YtechaplindbfoaaGreatDoor.og
