import Derived.Test.YtechaplindbfoaaGreatDoorJsi34
import Derived.Test.YtechaplindbfoaaGreatDoorJpa13
namespace Go.Proofs.YtechaplindbfoaaGreatDoor.jsn
open Go.ChangeShapes Go.WideShapes Go.ChangeAt Go.RowKit
open mem
open vl hiding hide unhide Hid
open ints (hide unhide)
set_option linter.unusedVariables false
set_option linter.unusedSimpArgs false
/-- ref04.Write's answer, and its bytes as a text -/
theorem rwrite_text (v : Vl) (cs : List Value) (w : World) (hE : fto.Fx w) (hv : VlC w v cs) (hfl : FlV v) (hwt : wtV v ≤ 1048576) (W : World) (hb : Below w.heap.size w W) :
    Calls Tryz.prog 21 #[.agg cs.toArray] W fun e w' => Below W.heap.size W w' ∧ ∃ a c, e = .returned (.tuple #[.slice a (wv v).length c, .int .i64 (jfE v)]) ∧ ∀ W', Below w'.heap.size w' W' → (convert 34 9 (.slice a (wv v).length c)).run Tryz.prog W' = .ok (.string ⟨(wv v).toArray⟩) W' := by
  refine (rwrite_ok v cs W (hE.below hb) (VlC.below hb v cs hv) hfl hwt).mono ?_
  rintro e w1 ⟨f, ⟨h0, r', rfl, ho⟩ | ⟨h0, rfl⟩⟩
  · obtain ⟨a, c, rfl, ct⟩ := own_text ho rfl
    refine ⟨f.bel, a, c, ?_⟩
    unfold wv
    rw [if_pos h0, h0]
    exact ⟨rfl, ct⟩
  · have ho : w1.ownsRow W.heap.size 5 1 (.slice none 0 0) 0 (Lib.byteCells []) := World.ownsRow_nil _ _ _ _
    obtain ⟨a, c, e0, ct⟩ := own_text ho rfl
    refine ⟨f.bel, a, c, ?_⟩
    unfold wv
    rw [if_neg h0]
    exact ⟨by rw [e0]; rfl, ct⟩
set_option maxHeartbeats 4000000 in
set_option maxRecDepth 100000 in
/-- law04.writes at every value -/
theorem writes_ok (v : Vl) (cs : List Value) (w : World) (hE : fto.Fx w) (hv : VlC w v cs) (hfl : FlV v) (hwt : wtV v ≤ 1048576) :
    Calls Tryz.prog 10 #[.agg cs.toArray] w fun e w' => e = .returned (.bool true) ∧ Below w.heap.size w w' := by
  have hb0 : Below w.heap.size w (w.alloc (.cells cs.toArray 29)) := (Below.refl _ _).alloc (Nat.le_refl _) _
  have i8 := hide (show (Tryz.prog.info? 29).map (·.size) = some cs.length by rw [hv.cells]; exact infoV)
  have WR := hide (rwrite_text v cs w hE hv hfl hwt)
  have PW := hide (fun W (hb : Below w.heap.size w W) => write_any v cs W (hE.below hb) (VlC.below hb v cs hv) hfl (by omega))
  have rB : Row8 (w.alloc (.cells cs.toArray 29)) w.heap.size 0 cs := by
    intro i u hu
    rw [Nat.zero_add, World.cell?_alloc_at _ _ _ _ rfl]
    simpa using hu
  clear hv hfl hwt hE
  generalize wv v = L at *
  generalize jfE v = E at *
  go_enter Tryz.func10, Tryz.ntmps10
  go_wp2_with (first
    | refine wpList_load_mid (by rfl) 29 _ (by rfl) w.heap.size 0 (by rfl) cs _ rB Tryz.underlying29 (by rfl) (unhide i8) ?_)
  refine (unhide WR _ hb0).mono ?_
  rintro e w1 ⟨b1, a1, c1, rfl, ct1⟩
  have CT1 := hide ct1
  have rB1 : Row8 w1 w.heap.size 0 cs := Row8.below rB (b1.mono (by simp))
  have b2 : Below w.heap.size w w1 := hb0.trans (b1.mono (by simp))
  clear WR hb0 rB b1 ct1
  go_wp2_with (first
    | refine wpList_load_mid (by rfl) 29 _ (by rfl) w.heap.size 0 (by rfl) cs _ rB1 Tryz.underlying29 (by rfl) (unhide i8) ?_)
  refine (unhide PW _ b2).mono ?_
  rintro e w2 ⟨r, rfl, ho, b3⟩
  obtain ⟨a2, c2, rfl, ct2⟩ := own_text ho rfl
  have k1 := unhide CT1 w2 b3
  have k2 := ct2 w2 (Below.refl _ _)
  have b4 := hide (b2.trans (b3.mono b2.size))
  clear PW rB1 b3 b2 CT1 ct2 ho
  generalize (⟨L.toArray⟩ : ByteArray) = T at *
  generalize L.length = l1 at *
  go_wp2
  go_ret
  exact ⟨by first | rfl | simp, unhide b4⟩
end Go.Proofs.YtechaplindbfoaaGreatDoor.jsn
