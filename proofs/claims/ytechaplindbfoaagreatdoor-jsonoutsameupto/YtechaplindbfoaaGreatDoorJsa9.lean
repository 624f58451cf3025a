import Derived.Test.YtechaplindbfoaaGreatDoorJsa8
namespace Go.Proofs.YtechaplindbfoaaGreatDoor.og
open Go.ChangeShapes Go.WideShapes Go.ChangeAt Go.RowKit
open vl hiding cB cFl cS cF cI cK cIt
set_option linter.unusedVariables false
set_option linter.unusedSimpArgs false
set_option maxHeartbeats 2000000 in
/-- tree.Equal -/
theorem equal_ok (v u : Vl) (hv : Small v) (hu : Small u) (cs ds : List Value) (w : World) (h1 : VlC w v cs) (h2 : VlC w u ds) : Calls Tryz.prog 14 #[.agg cs.toArray, .agg ds.toArray] w fun e w' => e = .returned (.bool (ordV v u == 0)) ∧ Below w.heap.size w w' := by
  have c8 := h1.cells
  have d8 := h2.cells
  have i1 : (Tryz.prog.info? 29).map (·.size) = some cs.length := by rw [c8]; exact infoV
  have i2 : (Tryz.prog.info? 29).map (·.size) = some ds.length := by rw [d8]; exact infoV
  obtain ⟨W, eW⟩ : ∃ W, W = (w.alloc (.cells cs.toArray 29)).alloc (.cells ds.toArray 29) := ⟨_, rfl⟩
  have bW : Gr w W := by rw [eW]; exact ((Gr.refl _).alloc _).alloc _
  have r1 : W.rangeAt w.heap.size 0 cs := fun j x hx => by
    rw [eW, Nat.zero_add, World.cell?_alloc_past _ _ _ (by simp), World.cell?_alloc_at _ _ _ _ rfl]; simpa using hx
  have r2 : W.rangeAt (w.heap.size + 1) 0 ds := fun j x hx => by
    rw [eW, Nat.zero_add, World.cell?_alloc_at _ _ _ _ (by simp)]; simpa using hx
  have EW := hide eW
  have HO := hide (order_ok v hv u hu cs ds W (VlC.below bW.1 _ _ h1) (VlC.below bW.1 _ _ h2))
  have HR := hide (And.intro r1 (And.intro r2 (And.intro i1 i2)))
  clear eW r1 r2 i1 i2 h1 h2 c8 d8
  generalize ordV v u = O at *
  go_enter Tryz.func14, Tryz.ntmps14
  go_wp2_with (first
    | (rw [← unhide EW]; refine wpList_load_mid (by rfl) 29 _ (by rfl) w.heap.size 0 (by rfl) cs _ (unhide HR).1 Tryz.underlying29 (by rfl) (unhide HR).2.2.1 ?_)
    | refine wpList_load_mid (by rfl) 29 _ (by rfl) (w.heap.size + 1) 0 (by rfl) ds _ (unhide HR).2.1 Tryz.underlying29 (by rfl) (unhide HR).2.2.2 ?_)
  refine (unhide HO).mono ?_
  rintro e w2 ⟨rfl, g2⟩
  go_wp2
  go_ret
  exact ⟨rfl, (bW.trans g2).1⟩
end Go.Proofs.YtechaplindbfoaaGreatDoor.og
