import Derived.Test.YtfegalieiiaopabPlc
namespace Go.Proofs.Ytfegalieiiaopab.mem
open Go.ChangeShapes Go.WideShapes Go.ChangeAt Go.RowKit
open ints (hide unhide)
set_option linter.unusedVariables false

def posT (l : List Int) : Nat → Int × Int
  | 0 => (1, 1)
  | k + 1 => (if enB l k then (posT l k).1 + 1 else (posT l k).1, if enB l k then 1 else (posT l k).2 + 1)
theorem posT_bd (l : List Int) (k : Nat) : 1 ≤ (posT l k).1 ∧ (posT l k).1 ≤ k + 1 ∧ 1 ≤ (posT l k).2 ∧ (posT l k).2 ≤ k + 1 := by
  induction k with
  | zero => simp [posT]
  | succ k ih => simp only [posT]; split <;> omega
def posCells (ps : List (Int × Int)) : List Value := ps.flatMap fun p => [.int .i64 p.1, .int .i64 p.2]
theorem posCells_len (ps : List (Int × Int)) : (posCells ps).length = ps.length * 2 := by
  induction ps with
  | nil => rfl
  | cons p ps ih => simp only [posCells, List.flatMap_cons, List.length_append, List.length_cons] at *; simp at *; omega
def plist (l : List Int) (k : Nat) : List (Int × Int) := (List.range k).map (posT l)
theorem plist_succ (l : List Int) (k : Nat) : posCells (plist l (k + 1)) = posCells (plist l k) ++ [.int .i64 (posT l k).1, .int .i64 (posT l k).2] := by
  unfold plist posCells
  rw [List.range_succ, List.map_append, List.flatMap_append]
  simp
theorem plist_len (l : List Int) (k : Nat) : (plist l k).length = k := by simp [plist]
theorem infoPos : (Try.prog.info? 30).map (fun i => (i.zero, i.size, i.bytes)) = some (some (.agg #[.int .i64 0, .int .i64 0]), 2, 16) := by kernel_rfl
theorem cell_two (w : World) (x y : Value) (t : TypeId) : ∀ j u, [x, y][j]? = some u → (w.alloc (.cells #[x, y] t)).cell? ((⟨w.heap.size, 0, none⟩ : Addr).add j) = some u := by
  intro j u hj
  match j, hj with
  | 0, hj => simp at hj; subst hj; simp [Addr.add]
  | 1, hj => simp at hj; subst hj; simp [Addr.add]
  | (j + 2), hj => simp at hj
theorem one_two (x y : Int) : ∀ u ∈ [Value.int .i64 x, Value.int .i64 y], u.oneCell' = true := by
  intro u hu; simp at hu; rcases hu with rfl | rfl <;> rfl
/-- A box of two integers. -/
def Box (w : World) (B : Nat) (x y : Int) : Prop := w.heap[B]? = some (.cells #[.int .i64 x, .int .i64 y] 30 (0, 0))
theorem Box.cells {w : World} {B : Nat} {x y : Int} (h : Box w B x y) : w.cell? ⟨B, 0, none⟩ = some (.int .i64 x) ∧ w.cell? ⟨B, 1, none⟩ = some (.int .i64 y) ∧ w.frozen? ⟨B, 0, none⟩ = false ∧ w.frozen? ⟨B, 1, none⟩ = false := by
  unfold Box at h
  refine ⟨?_, ?_, ?_, ?_⟩
  · simp [World.cell?, h]
  · simp [World.cell?, h]
  · simp [World.frozen?, h]
  · simp [World.frozen?, h]
theorem Box.lt {w : World} {B : Nat} {x y : Int} (h : Box w B x y) : B < w.heap.size := (Array.getElem?_eq_some_iff.1 h).1
theorem Box.below {w w' : World} {B : Nat} {x y : Int} (h : Box w B x y) (hb : Below w.heap.size w w') : Box w' B x y := (hb.block B h.lt).trans h
theorem Box.set {w : World} {B : Nat} {x y : Int} (h : Box w B x y) (x' y' : Int) : Box ((w.setCell ⟨B, 0, none⟩ (.int .i64 x')).setCell ⟨B, 1, none⟩ (.int .i64 y')) B x' y' := by
  unfold Box at *
  simp [World.setCell, Array.getElem?_modify, h]

set_option maxHeartbeats 2000000 in
theorem places_any (a : Option Addr) (n c : Nat) (l : List Int) (w : World) (h : Row .i32 w a n c l) (hn : n ≤ 1099511627776) :
    Calls Try.prog 28 #[.slice a n c] w fun e w' => e = .returned (.slice (some ⟨w.heap.size + 1, 0, none⟩) (n + 1) (n + 1)) ∧
      w'.ownsRow (w.heap.size + 1) 30 2 (.slice (some ⟨w.heap.size + 1, 0, none⟩) (n + 1) (n + 1)) (n + 1) (posCells (plist l (n + 1))) ∧ Below w.heap.size w w' := by
  obtain ⟨i0, hi, hz0, hz1, hz2⟩ := info_parts infoPos
  have e0 := hide (show (w.alloc (.cells #[.int .i64 1, .int .i64 1] 30)).heap.size = w.heap.size + 1 from by simp)
  have bx0 := hide (show Box (w.alloc (.cells #[.int .i64 1, .int .i64 1] 30)) w.heap.size 1 1 from heap_alloc_new w _)
  have hbe0 := hide (show Below w.heap.size w (w.alloc (.cells #[.int .i64 1, .int .i64 1] 30)) from (Below.refl _ _).alloc (Nat.le_refl _) _)
  go_enter Try.func28, Try.ntmps28
  go_wp2_with (first
    | (refine wpList_make_own _ rfl _ _ 34 rfl (w.heap.size + 1) 30 i0 (.agg #[.int .i64 0, .int .i64 0]) 2 Try.underlying34 hi hz0 hz1 .i64 .i64 _ (n + 1) rfl rfl (by omega) (by rw [hz2]; omega) (by unfold maxLen; omega) (by simp) ?_; intro w1 hown hgrow; rw [unhide e0] at hown; have hg1 := belowNone hgrow; have bx1 := (unhide bx0).below hg1; obtain ⟨k0, k1, k2, k3⟩ := bx1.cells; have hg := (unhide hbe0).trans (hg1.mono (by rw [unhide e0]; omega)); have hsz := hg1.size; rw [unhide e0] at hsz; clear hgrow hg1)
    | (at_builtin; refine wpList_append_fits _ rfl (.tmp 11) (.tmp 13) 34 rfl (w.heap.size + 1) 30 i0 2 Try.underlying34 hi hz1 (w.heap.size + 1) 0 (n + 1) [] rfl (hown.alloc _) ⟨w1.heap.size, 0, none⟩ 1 1 [.int .i64 1, .int .i64 1] rfl rfl (cell_two _ _ _ _) (one_two _ _) (by omega) ?_; intro w2 hown2 hgrow2))
  simp only [Nat.zero_add, List.nil_append] at hown2 ⊢
  have hal : Below w1.heap.size w1 (w1.alloc (.cells #[.int .i64 1, .int .i64 1] 30)) := (Below.refl _ _).alloc (Nat.le_refl _) _
  have hgr : Below (w.heap.size + 1) w1 w2 := (hal.mono hsz).grown hgrow2 (by simp; omega) (fun k hk => by obtain rfl := Option.some.inj hk; exact Nat.le_refl _)
  have hb2 : Below w.heap.size w w2 := hg.trans (hgr.mono (by omega))
  have bx2 : Box w2 w.heap.size 1 1 := (hgr.block _ (by omega)).trans bx1
  have hs2 : w.heap.size + 1 ≤ w2.heap.size := Nat.le_trans hsz hgr.size
  clear hal hgr hgrow2 hown k0 k1 k2 k3 bx1 hg hsz bx0 hbe0 e0
  go_loopw [4, 17] (fun v i wr => ∃ k : Nat, k ≤ n ∧ i = .int .i64 k ∧ v = .slice (some ⟨w.heap.size + 1, 0, none⟩) (k + 1) (n + 1) ∧
    wr.ownsRow (w.heap.size + 1) 30 2 (.slice (some ⟨w.heap.size + 1, 0, none⟩) (k + 1) (n + 1)) (k + 1) (posCells (plist l (k + 1))) ∧ Box wr w.heap.size (posT l k).1 (posT l k).2 ∧ Below w.heap.size w wr) (fun _ i _ => n - (intOf i).toNat)
  case atStart => exact ⟨0, Nat.zero_le _, rfl, rfl, hown2, bx2, hb2⟩
  case round =>
    obtain ⟨k, hk, rfl, rfl, hown, hbx, hbel⟩ := hrel
    clear hown2 bx2 hb2 hs2
    by_cases hlt : k < n
    · obtain ⟨q0, q1, q2, q3⟩ := hbx.cells
      have hbd := posT_bd l k
      have hstep := hide (show posT l (k + 1) = (if enB l k then (posT l k).1 + 1 else (posT l k).1, if enB l k then 1 else (posT l k).2 + 1) from rfl)
      have P := hide (behind_any a n c l k (posT l k).1 (posT l k).2 wr (h.below hbel) (by omega) hlt (by omega) (by omega) (by omega) (by omega))
      obtain ⟨X, hX⟩ : ∃ X, X = posT l k := ⟨_, rfl⟩
      obtain ⟨Y, hY⟩ : ∃ Y, Y = posT l (k + 1) := ⟨_, rfl⟩
      have hY1 := hide (show Y.1 = (if enB l k then X.1 + 1 else X.1) from by rw [hY, hX, unhide hstep])
      have hY2 := hide (show Y.2 = (if enB l k then 1 else X.2 + 1) from by rw [hY, hX, unhide hstep])
      rw [← hX] at P q0 q1 hbx
      rw [← unhide hY1, ← unhide hY2] at P
      have HY := hide hY
      have hkl : (k : Int) < (n : Int) := by omega
      clear hX hY hstep hY1 hY2 hbd
      go_wp2_with fail
      refine (unhide P).mono ?_
      rintro e w3 ⟨rfl, hb3⟩
      have hbx3 := hbx.below hb3
      have hown3 := own_below hown hb3
      have hbel3 := hbel.trans (hb3.mono hbel.size)
      obtain ⟨p0, p1, p2, p3⟩ := hbx3.cells
      obtain ⟨W3, hW3⟩ : ∃ W3, W3 = (w3.setCell ⟨w.heap.size, 0, none⟩ (.int .i64 Y.1)).setCell ⟨w.heap.size, 1, none⟩ (.int .i64 Y.2) := ⟨_, rfl⟩
      have hsz3 : W3.heap.size = w3.heap.size := by rw [hW3]; simp [World.setCell]
      have hownS : W3.ownsRow (w.heap.size + 1) 30 2 (.slice (some ⟨w.heap.size + 1, 0, none⟩) (k + 1) (n + 1)) (k + 1) (posCells (plist l (k + 1))) := by
        rw [hW3]
        exact ownsRow_setCell_below (ownsRow_setCell_below hown3 (by simp) _) (by simp) _
      have hbxS : Box W3 w.heap.size Y.1 Y.2 := by rw [hW3]; exact hbx3.set _ _
      have hbelS : Below w.heap.size w W3 := by rw [hW3]; exact (hbel3.setCell (Nat.le_refl _) _).setCell (Nat.le_refl _) _
      have hcel : ∀ j u, [Value.int .i64 Y.1, Value.int .i64 Y.2][j]? = some u → (W3.alloc (.cells #[.int .i64 Y.1, .int .i64 Y.2] 30)).cell? ((⟨w3.heap.size, 0, none⟩ : Addr).add j) = some u := by
        rw [← hsz3]; exact cell_two _ _ _ _
      have hownA := hownS.alloc (.cells #[.int .i64 Y.1, .int .i64 Y.2] 30)
      have HA := hide hownA
      have HCel := hide hcel
      have HbS := hide hbelS
      have HxS := hide hbxS
      have Hs3 := hide hsz3
      rw [hW3] at HA HCel
      have HW := hide hW3
      clear P hb3 hown hbx q0 q1 q2 q3 hbel hW3 hownA hownS hcel hbelS hbxS hsz3
      go_wp2_with (at_builtin; refine wpList_append_fits _ rfl (.tmp 24) (.tmp 26) 34 rfl (w.heap.size + 1) 30 i0 2 Try.underlying34 hi hz1 (w.heap.size + 1) (k + 1) (n + 1) (posCells (plist l (k + 1))) rfl (unhide HA) ⟨w3.heap.size, 0, none⟩ 1 1 [.int .i64 Y.1, .int .i64 Y.2] rfl rfl (unhide HCel) (one_two _ _) (by omega) ?_; intro w4 hown4 hgrow4)
      go_roundw
      case rel =>
        rw [← unhide HW] at hgrow4
        have hb4 : Below (w.heap.size + 1) W3 w4 := ((Below.refl _ _).alloc (by rw [unhide Hs3]; have := hbx3.lt; omega) _).grown hgrow4 (by simp; rw [unhide Hs3]; have := hbx3.lt; omega) (fun k hk => by obtain rfl := Option.some.inj hk; exact Nat.le_refl _)
        refine ⟨k + 1, by omega, by go_num, rfl, ?_, ?_, (unhide HbS).trans (hb4.mono (by omega))⟩
        · rw [plist_succ l (k + 1), ← unhide HY]; exact hown4
        · rw [← unhide HY]; exact (hb4.block _ (by omega)).trans (unhide HxS)
      case measure => simp [intOf]; omega
    · have ek : k = n := by omega
      subst ek
      go_wp2
      go_ret
      exact ⟨rfl, hown, hbel⟩
end Go.Proofs.Ytfegalieiiaopab.mem
