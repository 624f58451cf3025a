import Derived.Test.YtechaplindbfoaaGreatDoorJsa5
namespace Go.Proofs.YtechaplindbfoaaGreatDoor.og
open Go.ChangeShapes Go.WideShapes Go.ChangeAt Go.RowKit
open vl hiding cB cFl cS cF cI cK cIt
open stp (c3 c3_lt c3_gt c3_eq cB cB_tri)
set_option linter.unusedVariables false
set_option linter.unusedSimpArgs false
set_option maxHeartbeats 4000000 in
set_option maxRecDepth 6000 in
theorem cmpM_ok (A B : Fls) (ih : ∀ v ∈ A.list, ∀ u ∈ B.list, OrdMAt v u) (aA aB : Option Addr) (nA cA nB cB' : Nat) (w : World) (hA : FlsAt w A aA nA) (hB : FlsAt w B aB nB) (bA : nA ≤ 4611686018427387903) (bB : nB ≤ 4611686018427387903) :
    Calls Tryz.prog 53 #[.slice aA nA cA, .slice aB nB cB', .func (.func 54) #[] #[]] w fun e w' => e = .returned (.int .i64 (lexG ordM A.list B.list)) ∧ Gr w w' := by
  have en : ∀ args w, (callFunc 54 args).run Tryz.prog w = .ok (.enter 54 args) w := fun _ _ => rfl
  have lA := hide (FlsAt.len A _ _ hA)
  have lB := hide (FlsAt.len B _ _ hB)
  go_enter Tryz.func53, Tryz.ntmps53
  go_wp2_with fail
  go_loopw [13] (fun v wr => ∃ k : Nat, k ≤ nA ∧ k ≤ nB ∧ v = .int .i64 k ∧ Gr w wr ∧ vl.Hid (lexG ordM A.list B.list = lexG ordM (A.list.drop k) (B.list.drop k))) (fun v _ => nA - (intOf v).toNat)
  case atStart => exact ⟨0, Nat.zero_le _, Nat.zero_le _, rfl, Gr.refl _, rfl⟩
  case round =>
    obtain ⟨k, hkA, hkB, rfl, hbk, hl⟩ := hrel
    by_cases hlt : k < nA
    · have ki : (k : Int) < (nA : Int) := by omega
      obtain ⟨b, off, nm, v, cs, rfl, hg, hn0, -, hr, hv⟩ := FlsAt.get A _ _ (FlsAt.below hbk.1 A _ _ hA) k hlt
      have hr : wr.rangeAt b (off + k * 9) (Value.string nm :: cs) := row9 hr hn0
      have h1 := one9 nm hv
      have c8 := hv.cells
      have i1 : (Tryz.prog.info? 45).map (·.size) = some (Value.string nm :: cs).length := by rw [List.length_cons, c8]; exact infoM
      have i2 : (Tryz.prog.info? 45).map (·.size) = some (Value.string nm :: cs).toArray.size := by simp [c8, infoM]
      have HH := hide (And.intro i1 (And.intro i2 (And.intro (show (Value.string nm :: cs).toArray.size = 9 by simp [c8]) (show (Value.string nm :: cs).length = 9 by simp [c8]))))
      clear i1 i2 c8
      by_cases hlb : k < nB
      · have kb : (k : Int) < (nB : Int) := by omega
        obtain ⟨b', off', nm', u, ds, rfl, hg', hn0', -, hr', hv'⟩ := FlsAt.get B _ _ (FlsAt.below hbk.1 B _ _ hB) k hlb
        have g1 := one9 nm' hv'
        have d8 := hv'.cells
        have j1 : (Tryz.prog.info? 45).map (·.size) = some (Value.string nm' :: ds).length := by rw [List.length_cons, d8]; exact infoM
        have j2 : (Tryz.prog.info? 45).map (·.size) = some (Value.string nm' :: ds).toArray.size := by simp [d8, infoM]
        obtain ⟨W, eW⟩ : ∃ W, W = (wr.alloc (.cells #[Value.string { data := #[] }, Value.int IntKind.i64 0, Value.bool false, Value.int IntKind.i64 0, Value.float FloatKind.f64 0, Value.string { data := #[] }, Value.string { data := #[] }, Value.slice none 0 0, Value.slice none 0 0] 45)).setCells wr.heap.size 0 (Value.string nm :: cs) := ⟨_, rfl⟩
        have bW : Gr wr W := by rw [eW]; exact ((Gr.refl _).alloc _).setCells (Nat.le_refl _) _ _
        have sW : W.heap.size = wr.heap.size + 1 := by rw [eW, size_setCells]; simp
        have rW : W.rangeAt wr.heap.size 0 (Value.string nm :: cs) := by rw [eW]; exact World.rangeAt_setCells_same _ _ _ _ (there_new (by show _ = (Value.string nm :: cs).length; rw [(unhide HH).2.2.2]; rfl))
        have rW' : W.rangeAt b' (off' + k * 9) (Value.string nm' :: ds) := Row8.below (row9 hr' hn0') bW.1
        have vW := VlC.below bW.1 _ _ hv
        have vW' := VlC.below bW.1 _ _ hv'
        obtain ⟨X, eX⟩ : ∃ X, X = (W.alloc (.cells #[Value.string { data := #[] }, Value.int IntKind.i64 0, Value.bool false, Value.int IntKind.i64 0, Value.float FloatKind.f64 0, Value.string { data := #[] }, Value.string { data := #[] }, Value.slice none 0 0, Value.slice none 0 0] 45)).setCells W.heap.size 0 (Value.string nm' :: ds) := ⟨_, rfl⟩
        have bX : Gr W X := by rw [eX]; exact ((Gr.refl _).alloc _).setCells (Nat.le_refl _) _ _
        have rX : X.rangeAt W.heap.size 0 (Value.string nm' :: ds) := by rw [eX]; exact World.rangeAt_setCells_same _ _ _ _ (there_new (by show _ = (Value.string nm' :: ds).length; rw [List.length_cons, d8]; rfl))
        have rX' : X.rangeAt wr.heap.size 0 (Value.string nm :: cs) := Row8.below rW bX.1
        have IH := hide (ih (nm, v) (List.mem_of_getElem? hg) (nm', u) (List.mem_of_getElem? hg') cs ds X (VlC.below bX.1 _ _ vW) (VlC.below bX.1 _ _ vW'))
        have HS := hide (lexG_step (f := ordM) hg hg')
        have EW := hide eW
        have EX := hide eX
        have SW := hide sW
        have JJ := hide (And.intro j1 (And.intro j2 (And.intro (show (Value.string nm' :: ds).toArray.size = 9 by simp [d8]) (show (Value.string nm' :: ds).length = 9 by simp [d8]))))
        have RR := hide (And.intro rW' (And.intro rX rX'))
        clear eW eX sW vW vW' hn0' j1 j2 d8 hv hv' rW hr' hg hg' rW' rX rX'
        go_wp2_with (first
          | (refine wpList_load_mid (by rfl) 45 _ (by rfl) b (off + k * 9) (by rfl) (Value.string nm :: cs) _ hr Tryz.underlying45 (by rfl) (unhide HH).1 ?_)
          | (refine wpList_store_mid (by rfl) 45 _ _ (by rfl) wr.heap.size 0 (Value.string nm :: cs).toArray (by rfl) (by rfl) (there_new (by rw [(unhide HH).2.2.1]; rfl)) (unhide HH).2.1 h1 ?_; rw [show ((wr.alloc (.cells #[Value.string { data := #[] }, Value.int IntKind.i64 0, Value.bool false, Value.int IntKind.i64 0, Value.float FloatKind.f64 0, Value.string { data := #[] }, Value.string { data := #[] }, Value.slice none 0 0, Value.slice none 0 0] 45)).setCells wr.heap.size 0 (Value.string nm :: cs).toArray.toList) = W from (unhide EW).symm]; clear hr)
          | (refine wpList_load_mid (by rfl) 45 _ (by rfl) b' (off' + k * 9) (by rfl) (Value.string nm' :: ds) _ (unhide RR).1 Tryz.underlying45 (by rfl) (unhide JJ).1 ?_)
          | (refine wpList_store_mid (by rfl) 45 _ _ (by rfl) W.heap.size 0 (Value.string nm' :: ds).toArray (by rfl) (by rfl) (there_new (by rw [(unhide JJ).2.2.1]; rfl)) (unhide JJ).2.1 g1 ?_; rw [show ((W.alloc (.cells #[Value.string { data := #[] }, Value.int IntKind.i64 0, Value.bool false, Value.int IntKind.i64 0, Value.float FloatKind.f64 0, Value.string { data := #[] }, Value.string { data := #[] }, Value.slice none 0 0, Value.slice none 0 0] 45)).setCells W.heap.size 0 (Value.string nm' :: ds).toArray.toList) = X from (unhide EX).symm])
          | (refine wpList_load_mid (by rfl) 45 _ (by rfl) wr.heap.size 0 (by rfl) (Value.string nm :: cs) _ (unhide RR).2.2 Tryz.underlying45 (by rfl) (unhide HH).1 ?_)
          | (refine wpList_load_mid (by rfl) 45 _ (by rfl) W.heap.size 0 (by rfl) (Value.string nm' :: ds) _ (unhide RR).2.1 Tryz.underlying45 (by rfl) (unhide JJ).1 ?_))
        refine (unhide IH).mono ?_
        rintro e w2 ⟨rfl, g2⟩
        have G2 : Gr w w2 := hbk.trans (bW.trans (bX.trans g2))
        by_cases hc : ordM (nm, v) (nm', u) = 0
        · have hc2 := hide hc
          rw [hc]
          clear hc
          go_wp2
          go_roundw
          case rel => exact ⟨k + 1, by omega, by omega, by go_num, G2, (unhide hl).trans ((unhide HS).trans (if_pos (unhide hc2)))⟩
          case measure => simp [intOf]; omega
        · have hc2 := hide hc
          generalize hcv : ordM (nm, v) (nm', u) = cv at *
          have hcv := hide hcv
          go_wp2
          go_ret
          exact ⟨by rw [unhide hl, unhide HS, if_neg (unhide hc2)]; rfl, G2⟩
      · have kb : ¬ (k : Int) < (nB : Int) := by omega
        go_wp2_with (first
          | (refine wpList_load_mid (by rfl) 45 _ (by rfl) b (off + k * 9) (by rfl) (Value.string nm :: cs) _ hr Tryz.underlying45 (by rfl) (unhide HH).1 ?_)
          | (refine wpList_store_mid (by rfl) 45 _ _ (by rfl) wr.heap.size 0 (Value.string nm :: cs).toArray (by rfl) (by rfl) (there_new (by rw [(unhide HH).2.2.1]; rfl)) (unhide HH).2.1 h1 ?_))
        go_ret
        exact ⟨by rw [unhide hl, lexG_end2 (by rw [unhide lA]; exact hlt) (by rw [unhide lB]; omega)]; rfl, (hbk.alloc _).setCells hbk.1.size _ _⟩
    · have ki : ¬ (k : Int) < (nA : Int) := by omega
      by_cases hlb : k < nB
      · have kb : (nA : Int) < (nB : Int) := by omega
        go_wp2
        go_ret
        exact ⟨by rw [unhide hl, lexG_end1 (by rw [unhide lA]; omega) (by rw [unhide lB]; exact hlb)]; rfl, hbk⟩
      · have kb : ¬ (nA : Int) < (nB : Int) := by omega
        go_wp2
        go_ret
        exact ⟨by rw [unhide hl, lexG_end0 (by rw [unhide lA]; omega) (by rw [unhide lB]; omega)]; rfl, hbk⟩
end Go.Proofs.YtechaplindbfoaaGreatDoor.og
