import Derived.Test.YtechaplindbfoaaGreatDoorJsi33
namespace Go.Proofs.YtechaplindbfoaaGreatDoor.jsn
open Go.ChangeShapes Go.WideShapes Go.ChangeAt Go.RowKit
open mem
open vl hiding hide unhide Hid
open ints (hide unhide)
set_option linter.unusedVariables false
set_option linter.unusedSimpArgs false
mutual
theorem wt_same : ∀ v : Vl, og.wtV v = wtV v
  | .mk kd b n f tx ty its fls => by rw [og.wtV, wtV, wt_sameI its, wt_sameF fls]
theorem wt_sameI : ∀ l : Vls, og.wtI l = wtI l
  | .nil => by rw [og.wtI, wtI]
  | .cons v r => by rw [og.wtI, wtI, wt_same v, wt_sameI r]
theorem wt_sameF : ∀ l : Fls, og.wtF l = wtF l
  | .nil => by rw [og.wtF, wtF]
  | .cons nm v r => by rw [og.wtF, wtF, wt_same v, wt_sameF r]
end
set_option maxHeartbeats 4000000 in
set_option maxRecDepth 100000 in
/-- ref04.Write at every value -/
theorem rwrite_ok (v : Vl) (cs : List Value) (w : World) (hE : fto.Fx w) (hv : VlC w v cs) (hfl : FlV v) (hwt : wtV v ≤ 1048576) :
    Calls Tryz.prog 21 #[.agg cs.toArray] w fun e w' => Fr w.heap.size w w' ∧ ((jfE v = 0 ∧ ∃ r', e = .returned (.tuple #[r', .int .i64 0]) ∧ OwB w' w.heap.size r' (js NZ v)) ∨ (jfE v ≠ 0 ∧ e = .returned (.tuple #[.slice none 0 0, .int .i64 (jfE v)]))) := by
  have hb0 : Below w.heap.size w (w.alloc (.cells cs.toArray 29)) := (Below.refl _ _).alloc (Nat.le_refl _) _
  have i8 := hide (show (Tryz.prog.info? 29).map (·.size) = some cs.length by rw [hv.cells]; exact infoV)
  have SD := hide (fun W (hb : Below w.heap.size w W) => og.rsound_ok v cs W (VlC.below hb v cs hv) (small_of v hfl hwt) (by rw [wt_same]; exact hwt))
  have hP := hide (fun (h : jfE v = 0) W (hb : Below w.heap.size w W) (r : Value) (ho : OwB W w.heap.size r []) => put_ok w hE v hfl h hwt cs W r [] hv hb ho (by simp only [List.length_nil]; omega))
  rw [← jfE_ff] at SD
  have rB : Row8 (w.alloc (.cells cs.toArray 29)) w.heap.size 0 cs := by
    intro i u hu
    rw [Nat.zero_add, World.cell?_alloc_at _ _ _ _ rfl]
    simpa using hu
  have hnil : ∀ W : World, OwB W w.heap.size (.slice none 0 0) [] := fun W => ⟨rfl, .inl ⟨rfl, rfl⟩⟩
  clear hv hfl hwt hE
  generalize jfE v = E at *
  go_enter Tryz.func21, Tryz.ntmps21
  go_wp2_with (first
    | refine wpList_load_mid (by rfl) 29 _ (by rfl) w.heap.size 0 (by rfl) cs _ rB Tryz.underlying29 (by rfl) (unhide i8) ?_)
  refine (unhide SD _ hb0).mono ?_
  rintro e w1 ⟨aj, nj, cj, rfl, -, b1⟩
  have rB1 : Row8 w1 w.heap.size 0 cs := Row8.below (rB.below ((Below.refl _ _))) b1
  have b2 : Below w.heap.size w w1 := hb0.trans (b1.mono (by simp))
  clear SD hb0 rB b1
  by_cases hz : E = 0
  · subst hz
    go_wp2_with (first
      | refine wpList_load_mid (by rfl) 29 _ (by rfl) w.heap.size 0 (by rfl) cs _ rB1 Tryz.underlying29 (by rfl) (unhide i8) ?_)
    refine (unhide hP trivial _ b2 _ (hnil _)).mono ?_
    rintro e w3 ⟨r', rfl, ho, f3, -⟩
    have F := (Fr.new (Nat.le_refl _) b2).trans f3
    clear hP
    go_wp2
    go_ret2
    exact ⟨F, r', rfl, ho⟩
  · go_wp2_with fail
    go_ret2
    exact ⟨Fr.new (Nat.le_refl _) b2, .inr ⟨hz, rfl⟩⟩
end Go.Proofs.YtechaplindbfoaaGreatDoor.jsn
