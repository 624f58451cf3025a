import Derived.Test.YtechaplindbfoaaGreatDoorJsi25
namespace Go.Proofs.YtechaplindbfoaaGreatDoor.jsn
open Go.ChangeShapes Go.WideShapes Go.ChangeAt Go.RowKit
open mem
open vl hiding hide unhide Hid
open ints (hide unhide)
set_option linter.unusedVariables false
set_option linter.unusedSimpArgs false
theorem lets (s : ByteArray) (l : List UInt8) (h : s.data.toList = l) (n : Nat) (hn : l.length + 0 ≤ n) : s.size ≤ n := by rw [← size_list, h]; omega
set_option maxHeartbeats 4000000 in
set_option maxRecDepth 100000 in
theorem put_plain (w0 : World) (kd : Int) (b : Bool) (n : Int) (f : Nat) (tx ty : ByteArray) (its : Vls) (fls : Fls) (hk : kd = 0 ∨ kd = 1) : PH w0 (.mk kd b n f tx ty its fls) := by
  intro cs w r l hv hb ho hl
  have hB := hb.size
  have hw : 1 ≤ wtV (.mk kd b n f tx ty its fls) := by unfold wtV; omega
  unfold VlC at hv
  obtain ⟨ai, ni, ci, af, nf, cf, rfl, -⟩ := hv
  have hJ : js NZ (.mk kd b n f tx ty its fls) = if kd = 0 then [110, 117, 108, 108] else (if b then [116, 114, 117, 101] else [102, 97, 108, 115, 101]) := by
    unfold js
    rcases hk with rfl | rfl <;> simp
  rw [hJ]
  clear hJ
  generalize wtV (.mk kd b n f tx ty its fls) = WT at *
  have FN := fun (t : Obj) (W : World) (q : Fq w0.heap.size (w.alloc t) r W) => ((Fq.new hB ((Below.refl _ _).alloc (Nat.le_refl _) t)).same q : Fq w0.heap.size w r W)
  go_enter Tryz.func37, Tryz.ntmps37
  rcases hk with rfl | rfl
  · go_wp2_with (first
      | (at_builtin; refine wp_puts (by rfl) _ _ (by rfl) w0.heap.size r l (by rfl) (ho.below ((Below.refl _ _).alloc (Nat.le_refl _) _)) _ (by rfl) (by show l.length + 4 ≤ _; omega) (by simp; omega) ?_; intro r2 w2 ho2 f2))
    go_ret
    exact ⟨_, rfl, ho2, (FN _ _ f2).fr, fun _ => FN _ _ f2⟩
  · cases b
    · go_wp2_with (first
        | (at_builtin; refine wp_puts (by rfl) _ _ (by rfl) w0.heap.size r l (by rfl) (ho.below ((Below.refl _ _).alloc (Nat.le_refl _) _)) _ (by rfl) (by show l.length + 5 ≤ _; omega) (by simp; omega) ?_; intro r2 w2 ho2 f2))
      go_ret
      exact ⟨_, rfl, ho2, (FN _ _ f2).fr, fun _ => FN _ _ f2⟩
    · go_wp2_with (first
        | (at_builtin; refine wp_puts (by rfl) _ _ (by rfl) w0.heap.size r l (by rfl) (ho.below ((Below.refl _ _).alloc (Nat.le_refl _) _)) _ (by rfl) (by show l.length + 4 ≤ _; omega) (by simp; omega) ?_; intro r2 w2 ho2 f2))
      go_ret
      exact ⟨_, rfl, ho2, (FN _ _ f2).fr, fun _ => FN _ _ f2⟩
end Go.Proofs.YtechaplindbfoaaGreatDoor.jsn
