import Derived.Test.YtechaplindbfoaaGreatDoorJsi34
namespace Go.Proofs.YtechaplindbfoaaGreatDoor.jsn
open Go.ChangeShapes Go.WideShapes Go.ChangeAt Go.RowKit
open mem
open vl hiding hide unhide Hid
open ints (hide unhide)
set_option linter.unusedVariables false
set_option linter.unusedSimpArgs false
theorem OwB.form {B : Nat} {w : World} {r : Value} {l : List UInt8} (h : OwB w B r l) : ∃ a c, r = .slice a l.length c := by
  obtain ⟨-, h1⟩ := h
  rcases h1 with ⟨rfl, h1⟩ | ⟨g, cap, cur, rfl, -⟩
  · exact ⟨none, 0, by rw [h1]⟩
  · exact ⟨_, _, rfl⟩
/-- ref04.Write's answer, in one form -/
theorem rwrite_form (v : Vl) (cs : List Value) (w : World) (hE : fto.Fx w) (hv : VlC w v cs) (hfl : FlV v) (hwt : wtV v ≤ 1048576) (W : World) (hb : Below w.heap.size w W) :
    Calls Tryz.prog 21 #[.agg cs.toArray] W fun e w' => Below W.heap.size W w' ∧ ∃ a c, e = .returned (.tuple #[.slice a (wv v).length c, .int .i64 (jfE v)]) := by
  refine (rwrite_ok v cs W (hE.below hb) (VlC.below hb v cs hv) hfl hwt).mono ?_
  rintro e w1 ⟨f, ⟨h0, r', rfl, ho⟩ | ⟨h0, rfl⟩⟩
  · obtain ⟨a, c, rfl⟩ := ho.form
    refine ⟨f.bel, a, c, ?_⟩
    unfold wv
    rw [if_pos h0, h0]
  · refine ⟨f.bel, none, 0, ?_⟩
    unfold wv
    rw [if_neg h0]
    rfl
set_option maxHeartbeats 4000000 in
set_option maxRecDepth 100000 in
/-- ref04.Size at every value -/
theorem rsize_ok (v : Vl) (cs : List Value) (w : World) (hE : fto.Fx w) (hv : VlC w v cs) (hfl : FlV v) (hwt : wtV v ≤ 1048576) :
    Calls Tryz.prog 11 #[.agg cs.toArray] w fun e w' => e = .returned (.tuple #[.int .i64 (wv v).length, .int .i64 (jfE v)]) ∧ Below w.heap.size w w' := by
  have hb0 : Below w.heap.size w (w.alloc (.cells cs.toArray 29)) := (Below.refl _ _).alloc (Nat.le_refl _) _
  have i8 := hide (show (Tryz.prog.info? 29).map (·.size) = some cs.length by rw [hv.cells]; exact infoV)
  have WR := hide (rwrite_form v cs w hE hv hfl hwt)
  have rB : Row8 (w.alloc (.cells cs.toArray 29)) w.heap.size 0 cs := by
    intro i u hu
    rw [Nat.zero_add, World.cell?_alloc_at _ _ _ _ rfl]
    simpa using hu
  clear hv hfl hwt hE
  generalize (wv v).length = Z at *
  generalize jfE v = E at *
  go_enter Tryz.func11, Tryz.ntmps11
  go_wp2_with (first
    | refine wpList_load_mid (by rfl) 29 _ (by rfl) w.heap.size 0 (by rfl) cs _ rB Tryz.underlying29 (by rfl) (unhide i8) ?_)
  refine (unhide WR _ hb0).mono ?_
  rintro e w1 ⟨b1, a1, c1, rfl⟩
  have b2 : Below w.heap.size w w1 := hb0.trans (b1.mono (by simp))
  clear WR hb0 rB b1
  go_wp2_with fail
  go_ret2
  exact ⟨rfl, b2⟩
end Go.Proofs.YtechaplindbfoaaGreatDoor.jsn
