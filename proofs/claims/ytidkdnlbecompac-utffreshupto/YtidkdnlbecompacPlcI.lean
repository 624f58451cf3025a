import Derived.Test.YtidkdnlbecompacPlcU
namespace Go.Proofs.Ytidkdnlbecompac.mem
open Go.ChangeShapes Go.WideShapes Go.ChangeAt Go.RowKit
open ints (hide unhide)
set_option linter.unusedVariables false

def clampN (i : Int) (n : Nat) : Nat := if i < 0 then 0 else if (n : Int) < i then n else i.toNat
theorem clampN_le (i : Int) (n : Nat) : clampN i n ≤ n := by
  unfold clampN
  repeat' split
  all_goals omega
theorem clampN_eq (i : Int) (n : Nat) : max 0 (min i (n : Int)) = (clampN i n : Int) := by
  unfold clampN
  repeat' split
  all_goals omega
theorem box_new (w : World) (x y : Int) (B : Nat) (hB : B = w.heap.size) : Box (w.alloc (.cells #[.int .i64 x, .int .i64 y] 43)) B x y := by
  subst hB; exact heap_alloc_new w _
set_option maxHeartbeats 2000000 in
theorem place_in (a : Option Addr) (n c : Nat) (l : List Int) (m : Nat) (hm0 : 0 < m) (hmn : m ≤ n) (w : World) (h : Row .i32 w a n c l) (hn : n ≤ 1099511627776) :
    Calls Try.prog 23 #[.slice a n c, .int .i64 (m : Int)] w fun e w' => e = .returned (.agg #[.int .i64 (posT l m).1, .int .i64 (posT l m).2]) ∧ Below w.heap.size w w' := by
  have hmi : (0 : Int) < (m : Int) := by omega
  have hmj : ¬ (n : Int) < (m : Int) := by omega
  have bx0 := hide (show Box ((w.alloc (.cells #[.int .i64 0, .int .i64 0] 43)).alloc (.cells #[.int .i64 1, .int .i64 1] 43)) w.heap.size 0 0 from (Below.heap_alloc _ _ _ (by simp)).trans (heap_alloc_new w _))
  have bx1 := hide (show Box ((w.alloc (.cells #[.int .i64 0, .int .i64 0] 43)).alloc (.cells #[.int .i64 1, .int .i64 1] 43)) (w.heap.size + 1) 1 1 from box_new _ 1 1 _ (by simp))
  have hbe := hide (show Below w.heap.size w ((w.alloc (.cells #[.int .i64 0, .int .i64 0] 43)).alloc (.cells #[.int .i64 1, .int .i64 1] 43)) from ((Below.refl _ _).alloc (Nat.le_refl _) _).alloc (by simp) _)
  go_enter Try.func23, Try.ntmps23
  go_wp2
  go_loopw [14] (fun v wr => ∃ k : Nat, k ≤ m ∧ v = .int .i64 k ∧ Box wr w.heap.size 0 0 ∧ Box wr (w.heap.size + 1) (posT l k).1 (posT l k).2 ∧ Below w.heap.size w wr) (fun v _ => m - (intOf v).toNat)
  case atStart => exact ⟨0, Nat.zero_le _, rfl, unhide bx0, unhide bx1, unhide hbe⟩
  case round =>
    obtain ⟨k, hk, rfl, hb0, hb1, hbel⟩ := hrel
    clear bx0 bx1 hbe
    obtain ⟨q0, q1, q2, q3⟩ := hb1.cells
    obtain ⟨r0, r1, r2, r3⟩ := hb0.cells
    by_cases hlt : k < m
    · have hbd := posT_bd l k
      have hstep := hide (show posT l (k + 1) = (if enB l k then (posT l k).1 + 1 else (posT l k).1, if enB l k then 1 else (posT l k).2 + 1) from rfl)
      have P := hide (behind_any a n c l k (posT l k).1 (posT l k).2 wr (h.below hbel) (by omega) (by omega) (by omega) (by omega) (by omega) (by omega))
      obtain ⟨X, hX⟩ : ∃ X, X = posT l k := ⟨_, rfl⟩
      obtain ⟨Y, hY⟩ : ∃ Y, Y = posT l (k + 1) := ⟨_, rfl⟩
      have hY1 := hide (show Y.1 = (if enB l k then X.1 + 1 else X.1) from by rw [hY, hX, unhide hstep])
      have hY2 := hide (show Y.2 = (if enB l k then 1 else X.2 + 1) from by rw [hY, hX, unhide hstep])
      rw [← hX] at P q0 q1 hb1
      rw [← unhide hY1, ← unhide hY2] at P
      have HY := hide hY
      clear hX hY hstep hY1 hY2 hbd
      go_wp2_with fail
      refine (unhide P).mono ?_
      rintro e w3 ⟨rfl, hb3⟩
      have hbx3 := hb1.below hb3
      have hbz3 := hb0.below hb3
      have hbel3 := hbel.trans (hb3.mono hbel.size)
      obtain ⟨p0, p1, p2, p3⟩ := hbx3.cells
      clear P hb3 hb0 hb1 q0 q1 q2 q3 r0 r1 r2 r3 hbel
      go_wp2
      go_roundw
      case rel =>
        refine ⟨k + 1, by omega, by go_num, ?_, ?_, ?_⟩
        · have : Box w3 w.heap.size 0 0 := hbz3
          unfold Box at this ⊢
          rw [Below.heap_setCell _ _ _ _ (by simp), Below.heap_setCell _ _ _ _ (by simp)]
          exact this
        · rw [← unhide HY]; exact hbx3.set _ _
        · exact (hbel3.setCell (by simp) _).setCell (by simp) _
      case measure => simp [intOf]; omega
    · have HX := hide (show posT l m = posT l k from by rw [show k = m from by omega])
      have hlti : ¬ (k : Int) < (m : Int) := by omega
      generalize posT l k = X at *
      obtain ⟨t0, t1, _, _⟩ := (hb0.set X.1 X.2).cells
      have T0 := hide t0
      have T1 := hide t1
      clear t0 t1
      go_wp2
      exact bodyPost_ret (v := .agg #[.int .i64 X.1, .int .i64 X.2]) (by simp [results, Try.results23, go_sem, unhide T0, unhide T1]) rfl ⟨by rw [unhide HX], (hbel.setCell (Nat.le_refl _) _).setCell (Nat.le_refl _) _⟩
set_option maxHeartbeats 2000000 in
theorem place_hi (a : Option Addr) (n c : Nat) (l : List Int) (i : Int) (h0 : 0 < n) (hi : (n : Int) < i) (w : World) (h : Row .i32 w a n c l) (hn : n ≤ 1099511627776) :
    Calls Try.prog 23 #[.slice a n c, .int .i64 i] w fun e w' => e = .returned (.agg #[.int .i64 (posT l n).1, .int .i64 (posT l n).2]) ∧ Below w.heap.size w w' := by
  have hni : (0 : Int) < (n : Int) := by omega
  have bx0 := hide (show Box ((w.alloc (.cells #[.int .i64 0, .int .i64 0] 43)).alloc (.cells #[.int .i64 1, .int .i64 1] 43)) w.heap.size 0 0 from (Below.heap_alloc _ _ _ (by simp)).trans (heap_alloc_new w _))
  have bx1 := hide (show Box ((w.alloc (.cells #[.int .i64 0, .int .i64 0] 43)).alloc (.cells #[.int .i64 1, .int .i64 1] 43)) (w.heap.size + 1) 1 1 from box_new _ 1 1 _ (by simp))
  have hbe := hide (show Below w.heap.size w ((w.alloc (.cells #[.int .i64 0, .int .i64 0] 43)).alloc (.cells #[.int .i64 1, .int .i64 1] 43)) from ((Below.refl _ _).alloc (Nat.le_refl _) _).alloc (by simp) _)
  go_enter Try.func23, Try.ntmps23
  go_wp2
  go_loopw [14] (fun v wr => ∃ k : Nat, k ≤ n ∧ v = .int .i64 k ∧ Box wr w.heap.size 0 0 ∧ Box wr (w.heap.size + 1) (posT l k).1 (posT l k).2 ∧ Below w.heap.size w wr) (fun v _ => n - (intOf v).toNat)
  case atStart => exact ⟨0, Nat.zero_le _, rfl, unhide bx0, unhide bx1, unhide hbe⟩
  case round =>
    obtain ⟨k, hk, rfl, hb0, hb1, hbel⟩ := hrel
    clear bx0 bx1 hbe
    obtain ⟨q0, q1, q2, q3⟩ := hb1.cells
    obtain ⟨r0, r1, r2, r3⟩ := hb0.cells
    by_cases hlt : k < n
    · have hbd := posT_bd l k
      have hstep := hide (show posT l (k + 1) = (if enB l k then (posT l k).1 + 1 else (posT l k).1, if enB l k then 1 else (posT l k).2 + 1) from rfl)
      have P := hide (behind_any a n c l k (posT l k).1 (posT l k).2 wr (h.below hbel) (by omega) (by omega) (by omega) (by omega) (by omega) (by omega))
      obtain ⟨X, hX⟩ : ∃ X, X = posT l k := ⟨_, rfl⟩
      obtain ⟨Y, hY⟩ : ∃ Y, Y = posT l (k + 1) := ⟨_, rfl⟩
      have hY1 := hide (show Y.1 = (if enB l k then X.1 + 1 else X.1) from by rw [hY, hX, unhide hstep])
      have hY2 := hide (show Y.2 = (if enB l k then 1 else X.2 + 1) from by rw [hY, hX, unhide hstep])
      rw [← hX] at P q0 q1 hb1
      rw [← unhide hY1, ← unhide hY2] at P
      have HY := hide hY
      clear hX hY hstep hY1 hY2 hbd
      go_wp2_with fail
      refine (unhide P).mono ?_
      rintro e w3 ⟨rfl, hb3⟩
      have hbx3 := hb1.below hb3
      have hbz3 := hb0.below hb3
      have hbel3 := hbel.trans (hb3.mono hbel.size)
      obtain ⟨p0, p1, p2, p3⟩ := hbx3.cells
      clear P hb3 hb0 hb1 q0 q1 q2 q3 r0 r1 r2 r3 hbel
      go_wp2
      go_roundw
      case rel =>
        refine ⟨k + 1, by omega, by go_num, ?_, ?_, ?_⟩
        · have : Box w3 w.heap.size 0 0 := hbz3
          unfold Box at this ⊢
          rw [Below.heap_setCell _ _ _ _ (by simp), Below.heap_setCell _ _ _ _ (by simp)]
          exact this
        · rw [← unhide HY]; exact hbx3.set _ _
        · exact (hbel3.setCell (by simp) _).setCell (by simp) _
      case measure => simp [intOf]; omega
    · have HX := hide (show posT l n = posT l k from by rw [show k = n from by omega])
      have hlti : ¬ (k : Int) < (n : Int) := by omega
      generalize posT l k = X at *
      obtain ⟨t0, t1, _, _⟩ := (hb0.set X.1 X.2).cells
      have T0 := hide t0
      have T1 := hide t1
      clear t0 t1
      go_wp2
      exact bodyPost_ret (v := .agg #[.int .i64 X.1, .int .i64 X.2]) (by simp [results, Try.results23, go_sem, unhide T0, unhide T1]) rfl ⟨by rw [unhide HX], (hbel.setCell (Nat.le_refl _) _).setCell (Nat.le_refl _) _⟩
set_option maxHeartbeats 2000000 in
theorem place_lo (a : Option Addr) (n c : Nat) (l : List Int) (i : Int) (hi : i ≤ 0) (w : World) (h : Row .i32 w a n c l) (hn : n ≤ 1099511627776) :
    Calls Try.prog 23 #[.slice a n c, .int .i64 i] w fun e w' => e = .returned (.agg #[.int .i64 (posT l 0).1, .int .i64 (posT l 0).2]) ∧ Below w.heap.size w w' := by
  have hni : ¬ (n : Int) < i := by omega
  have hii : ¬ 0 < i := by omega
  have bx0 := hide (show Box ((w.alloc (.cells #[.int .i64 0, .int .i64 0] 43)).alloc (.cells #[.int .i64 1, .int .i64 1] 43)) w.heap.size 0 0 from (Below.heap_alloc _ _ _ (by simp)).trans (heap_alloc_new w _))
  have bx1 := hide (show Box ((w.alloc (.cells #[.int .i64 0, .int .i64 0] 43)).alloc (.cells #[.int .i64 1, .int .i64 1] 43)) (w.heap.size + 1) 1 1 from box_new _ 1 1 _ (by simp))
  have hbe := hide (show Below w.heap.size w ((w.alloc (.cells #[.int .i64 0, .int .i64 0] 43)).alloc (.cells #[.int .i64 1, .int .i64 1] 43)) from ((Below.refl _ _).alloc (Nat.le_refl _) _).alloc (by simp) _)
  go_enter Try.func23, Try.ntmps23
  go_wp2
  go_loopw [14] (fun v wr => ∃ k : Nat, k ≤ 0 ∧ v = .int .i64 k ∧ Box wr w.heap.size 0 0 ∧ Box wr (w.heap.size + 1) (posT l k).1 (posT l k).2 ∧ Below w.heap.size w wr) (fun v _ => 0 - (intOf v).toNat)
  case atStart => exact ⟨0, Nat.zero_le _, rfl, unhide bx0, unhide bx1, unhide hbe⟩
  case round =>
    obtain ⟨k, hk, rfl, hb0, hb1, hbel⟩ := hrel
    clear bx0 bx1 hbe
    obtain ⟨q0, q1, q2, q3⟩ := hb1.cells
    obtain ⟨r0, r1, r2, r3⟩ := hb0.cells
    by_cases hlt : k < 0
    · omega
    · have HX := hide (show posT l 0 = posT l k from by rw [show k = 0 from by omega])
      have hlti : ¬ (k : Int) < (0 : Int) := by omega
      generalize posT l k = X at *
      obtain ⟨t0, t1, _, _⟩ := (hb0.set X.1 X.2).cells
      have T0 := hide t0
      have T1 := hide t1
      clear t0 t1
      go_wp2
      exact bodyPost_ret (v := .agg #[.int .i64 X.1, .int .i64 X.2]) (by simp [results, Try.results23, go_sem, unhide T0, unhide T1]) rfl ⟨by rw [unhide HX], (hbel.setCell (Nat.le_refl _) _).setCell (Nat.le_refl _) _⟩
set_option maxHeartbeats 2000000 in
theorem place_h0 (a : Option Addr) (n c : Nat) (l : List Int) (i : Int) (hi : 0 < i) (hnn : (n : Int) ≤ 0) (w : World) (h : Row .i32 w a n c l) (hn : n ≤ 1099511627776) :
    Calls Try.prog 23 #[.slice a n c, .int .i64 i] w fun e w' => e = .returned (.agg #[.int .i64 (posT l 0).1, .int .i64 (posT l 0).2]) ∧ Below w.heap.size w w' := by
  have hni : (n : Int) < i := by omega
  have hii : ¬ 0 < (n : Int) := by omega
  have bx0 := hide (show Box ((w.alloc (.cells #[.int .i64 0, .int .i64 0] 43)).alloc (.cells #[.int .i64 1, .int .i64 1] 43)) w.heap.size 0 0 from (Below.heap_alloc _ _ _ (by simp)).trans (heap_alloc_new w _))
  have bx1 := hide (show Box ((w.alloc (.cells #[.int .i64 0, .int .i64 0] 43)).alloc (.cells #[.int .i64 1, .int .i64 1] 43)) (w.heap.size + 1) 1 1 from box_new _ 1 1 _ (by simp))
  have hbe := hide (show Below w.heap.size w ((w.alloc (.cells #[.int .i64 0, .int .i64 0] 43)).alloc (.cells #[.int .i64 1, .int .i64 1] 43)) from ((Below.refl _ _).alloc (Nat.le_refl _) _).alloc (by simp) _)
  go_enter Try.func23, Try.ntmps23
  go_wp2
  go_loopw [14] (fun v wr => ∃ k : Nat, k ≤ 0 ∧ v = .int .i64 k ∧ Box wr w.heap.size 0 0 ∧ Box wr (w.heap.size + 1) (posT l k).1 (posT l k).2 ∧ Below w.heap.size w wr) (fun v _ => 0 - (intOf v).toNat)
  case atStart => exact ⟨0, Nat.zero_le _, rfl, unhide bx0, unhide bx1, unhide hbe⟩
  case round =>
    obtain ⟨k, hk, rfl, hb0, hb1, hbel⟩ := hrel
    clear bx0 bx1 hbe
    obtain ⟨q0, q1, q2, q3⟩ := hb1.cells
    obtain ⟨r0, r1, r2, r3⟩ := hb0.cells
    by_cases hlt : k < 0
    · omega
    · have HX := hide (show posT l 0 = posT l k from by rw [show k = 0 from by omega])
      have hlti : ¬ (k : Int) < (0 : Int) := by omega
      generalize posT l k = X at *
      obtain ⟨t0, t1, _, _⟩ := (hb0.set X.1 X.2).cells
      have T0 := hide t0
      have T1 := hide t1
      clear t0 t1
      go_wp2
      exact bodyPost_ret (v := .agg #[.int .i64 X.1, .int .i64 X.2]) (by simp [results, Try.results23, go_sem, unhide T0, unhide T1]) rfl ⟨by rw [unhide HX], (hbel.setCell (Nat.le_refl _) _).setCell (Nat.le_refl _) _⟩
theorem place_any (a : Option Addr) (n c : Nat) (l : List Int) (i : Int) (w : World) (h : Row .i32 w a n c l) (hn : n ≤ 1099511627776) :
    Calls Try.prog 23 #[.slice a n c, .int .i64 i] w fun e w' => e = .returned (.agg #[.int .i64 (posT l (clampN i n)).1, .int .i64 (posT l (clampN i n)).2]) ∧ Below w.heap.size w w' := by
  have hcl := clampN_eq i n
  by_cases h1 : i ≤ 0
  · have e : clampN i n = 0 := by omega
    rw [e]; exact place_lo a n c l i h1 w h hn
  by_cases h2 : (n : Int) < i
  · by_cases h3 : 0 < n
    · have e : clampN i n = n := by omega
      rw [e]; exact place_hi a n c l i h3 h2 w h hn
    · have e : clampN i n = 0 := by omega
      rw [e]; exact place_h0 a n c l i (by omega) (by omega) w h hn
  · have e : clampN i n = i.toNat := by omega
    have e2 : i = (i.toNat : Int) := by omega
    rw [e]
    have := place_in a n c l i.toNat (by omega) (by omega) w h hn
    rw [← e2] at this
    exact this
end Go.Proofs.Ytidkdnlbecompac.mem
