import Derived.Test.YtjlafneklcfgoabStp
import Derived.RegionCalls
import Derived.Deep.RegionLaw
namespace Go.Proofs.Ytjlafneklcfgoab.stp
open Go.ChangeShapes Go.WideShapes Go.ChangeAt Go.RowKit
set_option linter.unusedVariables false
theorem bytes_ext {a b : ByteArray} (e : a.toList = b.toList) : a = b := by
  rw [toList_data, toList_data] at e
  obtain ⟨⟨x⟩⟩ := a
  obtain ⟨⟨y⟩⟩ := b
  simp at e
  rw [e]
theorem alike_any (n1 n2 : ByteArray) (x1 x2 : Int) (t1 t2 : Bool) (w : World) : Calls Try.prog 40 #[.agg #[.string n1, .int .i64 x1, .bool t1], .agg #[.string n2, .int .i64 x2, .bool t2]] w fun e w' => e = .returned (.bool (eqS n1 x1 t1 n2 x2 t2)) ∧ Below w.heap.size w w' := by
  have HA := plain_any n1 x1 t1
  have HB := plain_any n2 x2 t2
  have HE := run_eqStep (pN n1 t1) (pN n2 t2) (pI x1 t1) (pI x2 t2) t1 t2
  go_enter Try.func40, Try.ntmps40
  go_wp2_with fail
  obtain ⟨W, eW, sW, k1, k2, bW⟩ := two_steps w n1 n2 x1 x2 t1 t2 33
  rw [eW]
  clear eW
  obtain ⟨a0, a1, a2⟩ := k1
  obtain ⟨b0, b1, b2⟩ := k2
  have hWl : w.heap.size + 1 < W.heap.size := by omega
  go_region_with (first
      | (go_at_call 52; refine (HA _).mono ?_; clear HA; rintro e w2 ⟨rfl, hb2⟩; have k1 := St3.below ⟨a0, a1, a2⟩ (by omega) ((Below.refl _ _).drew.trans hb2); have k2 := St3.below ⟨b0, b1, b2⟩ (by omega) ((Below.refl _ _).drew.trans hb2); obtain ⟨a0', a1', a2'⟩ := k1; obtain ⟨b0', b1', b2'⟩ := k2; clear a0 a1 a2 b0 b1 b2)
      | (go_at_call 52; refine (HB _).mono ?_; clear HB; rintro e w3 ⟨rfl, hb3⟩))
  all_goals go_wp2
  all_goals go_ret
  all_goals exact ⟨rfl, bW.trans ((((Below.refl _ _).drew.trans hb2).trans (hb3.mono hb2.size)).mono (show w.heap.size ≤ W.heap.size by omega))⟩
theorem eqS_iff (n1 n2 : ByteArray) (x1 x2 : Int) (t1 t2 : Bool) : eqS n1 x1 t1 n2 x2 t2 = (cS ⟨n1, x1, t1⟩ ⟨n2, x2, t2⟩ == 0) := by
  unfold eqS cS
  cases t1
  · cases t2
    · simp [pN, pI]
      rcases cB_tri n1 n2 with ⟨h1, _, h3⟩ | ⟨h1, _, h3⟩ | ⟨h1, _, h3⟩
      · have : n1.toList ≠ n2.toList := fun e => h3 (bytes_ext e)
        simp [h1, this]
      · simp [h1, show n1.toList = n2.toList by rw [h3]]
      · have : n1.toList ≠ n2.toList := fun e => h3 (bytes_ext e)
        simp [h1, this]
    · simp [pN, pI]
  · cases t2
    · simp [pN, pI]
    · simp [pN, pI]
      rcases Int.lt_trichotomy x1 x2 with h | h | h
      · rw [c3_lt h]; simp; omega
      · rw [c3_eq h]; simp [h]
      · rw [c3_gt h]; simp; omega
theorem cS_tri (a b : St) : cS a b = -1 ∨ cS a b = 0 ∨ cS a b = 1 := by
  unfold cS
  cases a.it
  · cases b.it
    · rcases cB_tri a.nm b.nm with ⟨h, _⟩ | ⟨h, _⟩ | ⟨h, _⟩ <;> simp [h]
    · simp
  · cases b.it
    · simp
    · rcases Int.lt_trichotomy a.ix b.ix with h | h | h
      · simp [c3_lt h]
      · simp [c3_eq h]
      · simp [c3_gt h]
theorem order_any (n1 n2 : ByteArray) (x1 x2 : Int) (t1 t2 : Bool) (w : World) : Calls Try.prog 86 #[.agg #[.string n1, .int .i64 x1, .bool t1], .agg #[.string n2, .int .i64 x2, .bool t2]] w fun e w' => e = .returned (.int .i64 (cS ⟨n1, x1, t1⟩ ⟨n2, x2, t2⟩)) ∧ Below w.heap.size w w' := by
  go_enter Try.func86, Try.ntmps86
  go_wp2_with fail
  obtain ⟨W, eW, sW, k1, k2, bW⟩ := two_steps w n1 n2 x1 x2 t1 t2 33
  rw [eW]
  clear eW
  refine (alike_any n1 n2 x1 x2 t1 t2 W).mono ?_
  rintro e w2 ⟨rfl, hb2⟩
  rw [eqS_iff]
  obtain ⟨a0, a1, a2⟩ := k1.below (by omega) hb2
  obtain ⟨b0, b1, b2⟩ := k2.below (by omega) hb2
  have B2 : Below w.heap.size w w2 := bW.trans (hb2.mono (by omega))
  have s2 := hb2.size
  clear hb2 k1 k2 bW
  by_cases h0 : cS ⟨n1, x1, t1⟩ ⟨n2, x2, t2⟩ = 0
  · have h0 := hide h0
    rw [show (cS ⟨n1, x1, t1⟩ ⟨n2, x2, t2⟩ == 0) = true by simpa using unhide h0]
    go_wp2
    go_ret
    exact ⟨by rw [unhide h0]; rfl, B2⟩
  · rw [show (cS ⟨n1, x1, t1⟩ ⟨n2, x2, t2⟩ == 0) = false by simpa using h0]
    clear h0
    cases t1
    · cases t2
      · go_wp2_with fail
        refine (str_cmp n1 n2 w2).mono ?_
        rintro e w3 ⟨rfl, hb3⟩
        go_wp2
        go_ret
        exact ⟨rfl, B2.trans (hb3.mono B2.size)⟩
      · go_wp2
        go_ret
        exact ⟨rfl, B2⟩
    · cases t2
      · go_wp2
        go_ret
        exact ⟨rfl, B2⟩
      · go_wp2_with fail
        refine (int_cmp x1 x2 w2).mono ?_
        rintro e w3 ⟨rfl, hb3⟩
        go_wp2
        go_ret
        exact ⟨rfl, B2.trans (hb3.mono B2.size)⟩
end Go.Proofs.Ytjlafneklcfgoab.stp
