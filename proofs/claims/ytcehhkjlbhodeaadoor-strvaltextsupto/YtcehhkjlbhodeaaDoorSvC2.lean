import Derived.Test.YtcehhkjlbhodeaaDoorSvC1
namespace Go.Proofs.YtcehhkjlbhodeaaDoor.sv
open Go.ChangeShapes Go.WideShapes Go.ChangeAt Go.RowKit
open mem
open ints (hide unhide soP)
set_option linter.unusedVariables false
theorem grd_len : ∀ (n : Nat) (l : List Int), l.length ≤ n → (grd l).length ≤ 4 * l.length
  | _, [], _ => by rw [grd_nil]; simp
  | 0, c :: r, h => by simp at h
  | n + 1, c :: r, h => by
    have hr : r.length ≤ n := by simp at h; omega
    cases ht : tri (c :: r)
    · rw [grd_no ht]
      have := grd_len n r hr
      simp only [List.length_cons]
      omega
    · rw [grd_yes ht]
      have := grd_len n (r.drop 2) (by simp; omega)
      simp only [List.length_cons, List.length_drop] at *
      omega
theorem tri_at (l : List Int) (k : Nat) : tri (l.drop k) = (decide (k + 2 < l.length) && (l.getD k 0 == 34) && (l.getD (k + 1) 0 == 34) && (l.getD (k + 2) 0 == 34)) := by
  by_cases h : k + 2 < l.length
  · have e : l.drop k = l.getD k 0 :: l.getD (k + 1) 0 :: l.getD (k + 2) 0 :: l.drop (k + 3) := by
      rw [drop_at (l := l) (k := k) (by omega), drop_at (l := l) (k := k + 1) (by omega), drop_at (l := l) (k := k + 2) (by omega)]
    rw [e]
    generalize l.getD k 0 = x0
    generalize l.getD (k + 1) 0 = x1
    generalize l.getD (k + 2) 0 = x2
    unfold tri
    simp only [List.take_succ_cons, List.take_zero, decide_eq_true h, Bool.true_and]
    rw [Bool.eq_iff_iff]
    simp [and_assoc]
  · have : tri (l.drop k) = false := by
      cases ht : tri (l.drop k)
      · rfl
      · obtain ⟨r, hr⟩ := tri_form ht
        have := congrArg List.length hr
        simp at this
        omega
    rw [this]
    simp [h]
theorem cell_four (w : World) (t : TypeId) : ∀ j u, ([.int .i32 92, .int .i32 34, .int .i32 34, .int .i32 34] : List Value)[j]? = some u → (w.alloc (.cells #[.int .i32 92, .int .i32 34, .int .i32 34, .int .i32 34] t)).cell? ((⟨w.heap.size, 0, none⟩ : Addr).add j) = some u := by
  intro j u hj
  match j, hj with
  | 0, hj => simp at hj; subst hj; simp [Addr.add]
  | 1, hj => simp at hj; subst hj; simp [Addr.add]
  | 2, hj => simp at hj; subst hj; simp [Addr.add]
  | 3, hj => simp at hj; subst hj; simp [Addr.add]
  | (j + 4), hj => simp at hj
set_option maxHeartbeats 8000000 in
theorem guard_ok (a : Option Addr) (n c : Nat) (l : List Int) (w : World) (h : Row .i32 w a n c l) (hn : n ≤ 1099511627776) :
    Calls Tryd.prog 24 #[.slice a n c] w fun e w' => ∃ v, e = .returned v ∧ w'.ownsRow w.heap.size 21 1 v (grd l).length ((grd l).map (Value.int .i32)) ∧ Below w.heap.size w w' := by
  obtain ⟨i0, hi, hz0, hz1, hz2⟩ := info_parts info32
  have HL := hide h.len
  have hgl := grd_len l.length l (Nat.le_refl _)
  rw [h.len] at hgl
  have HG := hide hgl
  clear hgl
  go_enter Tryd.func24, Tryd.ntmps24
  go_wp2
  go_loopw [3, 4] (fun v i wr => ∃ (k : Nat) (X : List Int), k ≤ n ∧ i = .int .i64 k ∧ wr.ownsRow w.heap.size 21 1 v X.length (X.map (Value.int .i32)) ∧ Hid (X ++ grd (l.drop k) = grd l) ∧ Below w.heap.size w wr) (fun _ i _ => n - (intOf i).toNat)
  case atStart => exact ⟨0, [], Nat.zero_le _, rfl, World.ownsRow_nil _ _ _ _, hide (by simp), Below.refl _ _⟩
  case round =>
    obtain ⟨k, X, hk, rfl, hown, hX, hbel⟩ := hrel
    have hgl := unhide HG
    have hsz := hbel.size
    by_cases hlt : k < n
    · rcases h.at_ with h0 | ⟨b, off, rfl, hbw, hcell⟩
      · omega
      have hle := h.le
      have hc := hide (fun i hi => (hbel.cell (p := ⟨b, off + i, none⟩) hbw).trans (hcell i hi))
      have Hd := hide (drop_at (l := l) (k := k) (by rw [unhide HL]; exact hlt))
      have c0 := unhide hc k hlt
      obtain ⟨x0, hx0⟩ : ∃ x, x = l.getD k 0 := ⟨_, rfl⟩
      rw [← hx0] at c0
      have Hx0 := hide hx0
      have hcel := cell_one wr (.int .i32 x0) 21
      have hcel4 := cell_four wr 21
      clear hx0 hcell
      by_cases h2 : k + 2 < n
      · have c1 := unhide hc (k + 1) (by omega)
        have c2 := unhide hc (k + 2) (by omega)
        obtain ⟨x1, hx1⟩ : ∃ x, x = l.getD (k + 1) 0 := ⟨_, rfl⟩
        obtain ⟨x2, hx2⟩ : ∃ x, x = l.getD (k + 2) 0 := ⟨_, rfl⟩
        rw [← hx1] at c1
        rw [← hx2] at c2
        have Hx1 := hide hx1
        have Hx2 := hide hx2
        clear hx1 hx2
        by_cases t3 : x0 = 34 ∧ x1 = 34 ∧ x2 = 34
        · obtain ⟨e0, e1, e2⟩ := t3
          have e := hide (show (X ++ [92, 34, 34, 34]) ++ grd (l.drop (k + 3)) = grd l by
            rw [← unhide hX, unhide Hd, grd_yes (by rw [← unhide Hd, tri_at, ← unhide Hx0, ← unhide Hx1, ← unhide Hx2, e0, e1, e2]; simp [unhide HL, h2])]
            simp)
          have hle2 : X.length + 4 ≤ (grd l).length := by rw [← unhide e]; simp
          subst e0 e1 e2
          clear Hx0 Hx1 Hx2
          go_wp2_with (at_builtin; refine wpList_append_own _ rfl _ _ 37 rfl w.heap.size 21 i0 (.int .i32 0) 1 4 Tryd.underlying37 hi hz0 hz1 hz2 rfl (by decide) _ _ _ rfl (hown.alloc _) ⟨wr.heap.size, 0, none⟩ 4 4 [.int .i32 92, .int .i32 34, .int .i32 34, .int .i32 34] rfl (by simp) hcel4 (by intro u hu; simp at hu; rcases hu with rfl | rfl | rfl | rfl <;> rfl) (by unfold maxLen; omega) (by omega) (by simp; omega) ?_; intro v' w2 hown' hgrow _)
          refine ⟨⟨k + 3, X ++ [92, 34, 34, 34], by omega, rfl, ?_, e, ?_⟩, by simp only [intOf]; omega⟩
          · rw [List.length_append, List.map_append]; exact hown'
          · exact (hbel.alloc hsz _).grown hgrow (by simp; omega) (fun q hq => (hown.lt q hq).1)
        · have ht := hide (show tri (l.drop k) = false by rw [tri_at, ← unhide Hx0, ← unhide Hx1, ← unhide Hx2]; simp; omega)
          have e := hide (show (X ++ [x0]) ++ grd (l.drop (k + 1)) = grd l by rw [← unhide hX, unhide Hd, grd_no (by rw [← unhide Hd]; exact unhide ht), unhide Hx0]; simp)
          have hle2 : X.length + 1 ≤ (grd l).length := by rw [← unhide e]; simp
          by_cases e0 : x0 = 34
          · by_cases e1 : x1 = 34
            · have e2 : ¬ x2 = 34 := fun h => t3 ⟨e0, e1, h⟩
              have b2 : (x2 == 34) = false := by simp [e2]
              clear t3 ht Hx0 Hx1 Hx2
              subst e0 e1
              go_wp2_with (at_builtin; refine wpList_append_own _ rfl _ _ 37 rfl w.heap.size 21 i0 (.int .i32 0) 1 4 Tryd.underlying37 hi hz0 hz1 hz2 rfl (by decide) _ _ _ rfl (hown.alloc _) ⟨wr.heap.size, 0, none⟩ 1 1 [.int .i32 34] rfl (by simp) hcel (by intro u hu; simp at hu; subst hu; rfl) (by unfold maxLen; omega) (by omega) (by simp; omega) ?_; intro v' w2 hown' hgrow _)
              refine ⟨⟨k + 1, X ++ [34], by omega, rfl, ?_, e, ?_⟩, by simp only [intOf]; omega⟩
              · rw [List.length_append, List.map_append]; exact hown'
              · exact (hbel.alloc hsz _).grown hgrow (by simp; omega) (fun q hq => (hown.lt q hq).1)
            · have b1 : (x1 == 34) = false := by simp [e1]
              clear t3 ht Hx0 Hx1 Hx2
              subst e0
              go_wp2_with (at_builtin; refine wpList_append_own _ rfl _ _ 37 rfl w.heap.size 21 i0 (.int .i32 0) 1 4 Tryd.underlying37 hi hz0 hz1 hz2 rfl (by decide) _ _ _ rfl (hown.alloc _) ⟨wr.heap.size, 0, none⟩ 1 1 [.int .i32 34] rfl (by simp) hcel (by intro u hu; simp at hu; subst hu; rfl) (by unfold maxLen; omega) (by omega) (by simp; omega) ?_; intro v' w2 hown' hgrow _)
              refine ⟨⟨k + 1, X ++ [34], by omega, rfl, ?_, e, ?_⟩, by simp only [intOf]; omega⟩
              · rw [List.length_append, List.map_append]; exact hown'
              · exact (hbel.alloc hsz _).grown hgrow (by simp; omega) (fun q hq => (hown.lt q hq).1)
          · have b0 : (x0 == 34) = false := by simp [e0]
            clear t3 ht Hx0 Hx1 Hx2
            go_wp2_with (at_builtin; refine wpList_append_own _ rfl _ _ 37 rfl w.heap.size 21 i0 (.int .i32 0) 1 4 Tryd.underlying37 hi hz0 hz1 hz2 rfl (by decide) _ _ _ rfl (hown.alloc _) ⟨wr.heap.size, 0, none⟩ 1 1 [.int .i32 x0] rfl (by simp) hcel (by intro u hu; simp at hu; subst hu; rfl) (by unfold maxLen; omega) (by omega) (by simp; omega) ?_; intro v' w2 hown' hgrow _)
            refine ⟨⟨k + 1, X ++ [x0], by omega, rfl, ?_, e, ?_⟩, by simp only [intOf]; omega⟩
            · rw [List.length_append, List.map_append]; exact hown'
            · exact (hbel.alloc hsz _).grown hgrow (by simp; omega) (fun q hq => (hown.lt q hq).1)
      · have ht := hide (show tri (l.drop k) = false by rw [tri_at]; simp [unhide HL, h2])
        have e := hide (show (X ++ [x0]) ++ grd (l.drop (k + 1)) = grd l by rw [← unhide hX, unhide Hd, grd_no (by rw [← unhide Hd]; exact unhide ht), unhide Hx0]; simp)
        have hle2 : X.length + 1 ≤ (grd l).length := by rw [← unhide e]; simp
        have h3 : ¬ (k : Int) + 2 < (n : Int) := by omega
        clear ht Hx0
        go_wp2_with (at_builtin; refine wpList_append_own _ rfl _ _ 37 rfl w.heap.size 21 i0 (.int .i32 0) 1 4 Tryd.underlying37 hi hz0 hz1 hz2 rfl (by decide) _ _ _ rfl (hown.alloc _) ⟨wr.heap.size, 0, none⟩ 1 1 [.int .i32 x0] rfl (by simp) hcel (by intro u hu; simp at hu; subst hu; rfl) (by unfold maxLen; omega) (by omega) (by simp; omega) ?_; intro v' w2 hown' hgrow _)
        refine ⟨⟨k + 1, X ++ [x0], by omega, rfl, ?_, e, ?_⟩, by simp only [intOf]; omega⟩
        · rw [List.length_append, List.map_append]; exact hown'
        · exact (hbel.alloc hsz _).grown hgrow (by simp; omega) (fun q hq => (hown.lt q hq).1)
    · obtain rfl : k = n := by omega
      have e : grd l = X := by
        have := unhide hX
        rw [List.drop_eq_nil_of_le (by rw [unhide HL]; omega), grd_nil, List.append_nil] at this
        exact this.symm
      have HE := hide e
      clear e hX
      go_wp2
      go_ret
      rw [unhide HE]
      exact ⟨_, rfl, hown, hbel⟩
end Go.Proofs.YtcehhkjlbhodeaaDoor.sv
