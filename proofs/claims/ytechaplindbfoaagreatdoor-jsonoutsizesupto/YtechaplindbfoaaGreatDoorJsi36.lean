import Derived.Test.YtechaplindbfoaaGreatDoorJsi35
namespace Go.Proofs.YtechaplindbfoaaGreatDoor.jsn
open Go.ChangeShapes Go.WideShapes Go.ChangeAt Go.RowKit
open mem
open vl hiding hide unhide Hid
open ints (hide unhide)
set_option linter.unusedVariables false
set_option linter.unusedSimpArgs false
set_option maxHeartbeats 4000000 in
set_option maxRecDepth 100000 in
theorem law_sizes (v : Vl) (cs : List Value) (w : World) (hE : fto.Fx w) (hv : VlC w v cs) (hfl : FlV v) (hwt : wtV v ≤ 1048576) :
    Calls Tryz.prog 4 #[.agg cs.toArray] w fun e w' => e = .returned (.bool true) ∧ Below w.heap.size w w' := by
  have hb0 : Below w.heap.size w (w.alloc (.cells cs.toArray 29)) := (Below.refl _ _).alloc (Nat.le_refl _) _
  have i8 := hide (show (Tryz.prog.info? 29).map (·.size) = some cs.length by rw [hv.cells]; exact infoV)
  have RS := hide (fun W (hb : Below w.heap.size w W) => rsize_ok v cs W (hE.below hb) (VlC.below hb v cs hv) hfl hwt)
  have PS := hide (fun W (hb : Below w.heap.size w W) => size_any v cs W (hE.below hb) (VlC.below hb v cs hv) hfl (by omega))
  have rB : Row8 (w.alloc (.cells cs.toArray 29)) w.heap.size 0 cs := by
    intro i u hu
    rw [Nat.zero_add, World.cell?_alloc_at _ _ _ _ rfl]
    simpa using hu
  clear hv hfl hwt hE
  generalize (wv v).length = Z at *
  generalize jfE v = E at *
  go_enter Tryz.func4, Tryz.ntmps4
  go_wp2_with fail
  refine (awake_ok _).mono ?_
  rintro e w1 ⟨rfl, b1⟩
  have rB1 : Row8 w1 w.heap.size 0 cs := Row8.below rB b1
  have b2 : Below w.heap.size w w1 := hb0.trans (b1.mono (by simp))
  have hl1 : w.heap.size + 1 ≤ w1.heap.size := by have := b1.size; simpa using this
  clear hb0 rB b1
  go_wp2_with (first
    | refine wpList_load_mid (by rfl) 29 _ (by rfl) w.heap.size 0 (by rfl) cs _ rB1 Tryz.underlying29 (by rfl) (unhide i8) ?_)
  refine (unhide RS _ b2).mono ?_
  rintro e w2 ⟨rfl, b3⟩
  have rB2 : Row8 w2 w.heap.size 0 cs := Row8.below rB1 b3
  have b4 : Below w.heap.size w w2 := b2.trans (b3.mono (by omega))
  clear RS rB1 b3 b2
  go_wp2_with (first
    | refine wpList_load_mid (by rfl) 29 _ (by rfl) w.heap.size 0 (by rfl) cs _ rB2 Tryz.underlying29 (by rfl) (unhide i8) ?_)
  refine (unhide PS _ b4).mono ?_
  rintro e w3 ⟨rfl, b5⟩
  have b6 : Below w.heap.size w w3 := b4.trans (b5.mono b4.size)
  clear PS rB2 b5 b4
  go_wp2_with fail
  go_ret
  exact ⟨by first | rfl | simp, b6⟩
end Go.Proofs.YtechaplindbfoaaGreatDoor.jsn
