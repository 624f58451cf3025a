import Derived.Test.YtechaplindbfoaaGreatDoorJsi27
import Derived.Test.YtechaplindbfoaaGreatDoorJsi26
namespace Go.Proofs.YtechaplindbfoaaGreatDoor.jsn
open Go.ChangeShapes Go.WideShapes Go.ChangeAt Go.RowKit
open mem
open vl hiding hide unhide Hid
open ints (hide unhide)
set_option linter.unusedVariables false
set_option linter.unusedSimpArgs false
set_option maxHeartbeats 4000000 in
set_option maxRecDepth 100000 in
theorem put_whole (w0 : World) (b : Bool) (n : Int) (f : Nat) (tx ty : ByteArray) (its : Vls) (fls : Fls) (h0 : -9223372036854775808 ≤ n) (h1 : n ≤ 9223372036854775807) : PH w0 (.mk 2 b n f tx ty its fls) := by
  intro cs w r l hv hb ho hl
  have hB := hb.size
  have hw : 1 ≤ wtV (.mk 2 b n f tx ty its fls) := by unfold wtV; omega
  unfold VlC at hv
  obtain ⟨ai, ni, ci, af, nf, cf, rfl, -⟩ := hv
  have hJ : js NZ (.mk 2 b n f tx ty its fls) = (fto.itB n).data.toList := by
    unfold js NZ
    simp
  rw [hJ]
  clear hJ
  generalize wtV (.mk 2 b n f tx ty its fls) = WT at *
  have hz : (fto.itB n).size ≤ 100 := by have := fto.itB_size n h0 h1; omega
  have T := hide (fun W => fto.refWhole n W h0 h1)
  generalize fto.itB n = S at *
  have FN := fun (t : Obj) (W : World) (q : Below (w.alloc t).heap.size (w.alloc t) W) => (Fq.new hB (((Below.refl _ _).alloc (Nat.le_refl _) t).trans (q.mono (by simp))) : Fq w0.heap.size w r W)
  have ON := fun (t : Obj) (W : World) (q : Below (w.alloc t).heap.size (w.alloc t) W) => ho.below (((Below.refl _ _).alloc (Nat.le_refl _) t).trans (q.mono (by simp)))
  go_enter Tryz.func37, Tryz.ntmps37
  go_wp2_with fail
  refine (unhide T _).mono ?_
  rintro e w1 ⟨rfl, b1⟩
  have F1 := FN _ _ b1
  have o1 := ON _ _ b1
  have s1 := F1.bel.size
  clear T FN ON b1
  go_wp2_with (first
    | (at_builtin; refine wp_puts (by rfl) _ _ (by rfl) w0.heap.size r l (by rfl) o1 S (by rfl) (by omega) (by omega) ?_; intro r2 w2 ho2 f2))
  go_ret
  exact ⟨_, rfl, ho2, (F1.same f2).fr, fun _ => F1.same f2⟩
set_option maxHeartbeats 4000000 in
set_option maxRecDepth 100000 in
theorem put_float (w0 : World) (b : Bool) (n : Int) (f : Nat) (tx ty : ByteArray) (its : Vls) (fls : Fls) (hF : fto.Fx w0) (h : f < 18446744073709551616) (hbd : fto.badF f = false) : PH w0 (.mk 3 b n f tx ty its fls) := by
  intro cs w r l hv hb ho hl
  have hB := hb.size
  have hw : 1 ≤ wtV (.mk 3 b n f tx ty its fls) := by unfold wtV; omega
  unfold VlC at hv
  obtain ⟨ai, ni, ci, af, nf, cf, rfl, -⟩ := hv
  have hJ : js NZ (.mk 3 b n f tx ty its fls) = (ftZ f).data.toList := by
    unfold js NZ
    simp
  rw [hJ]
  clear hJ
  generalize wtV (.mk 3 b n f tx ty its fls) = WT at *
  have hz : (ftZ f).size ≤ 1001 := (ftZ_ok h hbd).2.2
  have T := hide (fun W => rft_ok h hbd hF W)
  clear hF
  generalize ftZ f = S at *
  have FN := fun (t : Obj) (W : World) (q : Below (w.alloc t).heap.size (w.alloc t) W) => (Fq.new hB (((Below.refl _ _).alloc (Nat.le_refl _) t).trans (q.mono (by simp))) : Fq w0.heap.size w r W)
  have ON := fun (t : Obj) (W : World) (q : Below (w.alloc t).heap.size (w.alloc t) W) => ho.below (((Below.refl _ _).alloc (Nat.le_refl _) t).trans (q.mono (by simp)))
  go_enter Tryz.func37, Tryz.ntmps37
  go_wp2_with fail
  refine (unhide T _).mono ?_
  rintro e w1 ⟨rfl, b1⟩
  have F1 := FN _ _ b1
  have o1 := ON _ _ b1
  have s1 := F1.bel.size
  clear T FN ON b1
  go_wp2_with (first
    | (at_builtin; refine wp_puts (by rfl) _ _ (by rfl) w0.heap.size r l (by rfl) o1 S (by rfl) (by omega) (by omega) ?_; intro r2 w2 ho2 f2))
  go_ret
  exact ⟨_, rfl, ho2, (F1.same f2).fr, fun _ => F1.same f2⟩
set_option maxHeartbeats 4000000 in
set_option maxRecDepth 100000 in
theorem put_text (w0 : World) (b : Bool) (n : Int) (f : Nat) (tx ty : ByteArray) (its : Vls) (fls : Fls) (hc : cln tx = true) (hs : tx.size ≤ 1048576) : PH w0 (.mk 4 b n f tx ty its fls) := by
  intro cs w r l hv hb ho hl
  have hB := hb.size
  have hw : 1 + tx.size ≤ wtV (.mk 4 b n f tx ty its fls) := by unfold wtV; omega
  unfold VlC at hv
  obtain ⟨ai, ni, ci, af, nf, cf, rfl, -⟩ := hv
  have hJ : js NZ (.mk 4 b n f tx ty its fls) = txt tx.data.toList := by
    unfold js NZ
    simp
  rw [hJ]
  clear hJ
  generalize wtV (.mk 4 b n f tx ty its fls) = WT at *
  have hX : txS tx = ⟨(txt tx.data.toList).toArray⟩ ∧ txE tx = 0 := by unfold txS txE; rw [if_pos hc, if_pos hc]; exact ⟨rfl, rfl⟩
  have hz : (txS tx).size ≤ 6 * tx.size + 2 := by
    have h1 := txt_le tx
    rw [hX.1, ← size_list]
    exact h1
  have hXl : txt tx.data.toList = (txS tx).data.toList := by rw [hX.1]
  rw [hXl]
  clear hXl
  have T := hide (fun W => rtext_any tx W hs)
  rw [hX.2] at T
  clear hX hc
  generalize txS tx = S at *
  have FN := fun (t : Obj) (W : World) (q : Below (w.alloc t).heap.size (w.alloc t) W) => (Fq.new hB (((Below.refl _ _).alloc (Nat.le_refl _) t).trans (q.mono (by simp))) : Fq w0.heap.size w r W)
  have ON := fun (t : Obj) (W : World) (q : Below (w.alloc t).heap.size (w.alloc t) W) => ho.below (((Below.refl _ _).alloc (Nat.le_refl _) t).trans (q.mono (by simp)))
  go_enter Tryz.func37, Tryz.ntmps37
  go_wp2_with fail
  refine (unhide T _).mono ?_
  rintro e w1 ⟨rfl, b1⟩
  have F1 := FN _ _ b1
  have o1 := ON _ _ b1
  have s1 := F1.bel.size
  clear T FN ON b1
  go_wp2_with (first
    | (at_builtin; refine wp_puts (by rfl) _ _ (by rfl) w0.heap.size r l (by rfl) o1 S (by rfl) (by omega) (by omega) ?_; intro r2 w2 ho2 f2))
  go_ret
  exact ⟨_, rfl, ho2, (F1.same f2).fr, fun _ => F1.same f2⟩
end Go.Proofs.YtechaplindbfoaaGreatDoor.jsn
