import Derived.Test.YtfegalieiiaopabFld
namespace Go.Proofs.Ytfegalieiiaopab.cu
open Go.ChangeShapes Go.WideShapes Go.ChangeAt Go.RowKit
open ints (hide unhide)
open dt (Dt Kp RowAt)
set_option linter.unusedVariables false
theorem str_beq (a b : ByteArray) : (a.toList == b.toList) = decide (a = b) := by
  rw [ByteArray.toList_eq, ByteArray.toList_eq]
  by_cases h : a = b
  · subst h; simp
  · rw [decide_eq_false h, beq_eq_false_iff_ne]
    intro e
    apply h
    have : a.data = b.data := Array.toList_inj.1 e
    cases a; cases b; simp at this; simp [this]
theorem isPunct_ok (B p : Nat) (c : Cu) (q : ByteArray) (w : World) (h : CurAt w B p c) : Calls Try.prog 21 #[ptr B, .string q] w fun e w' => e = .returned (.bool (c.isP q)) ∧ Below w.heap.size w w' := by
  have hd := hide (fun W (bb : Below w.heap.size w W) => dead_ok B p c W (h.below bb))
  have ht := hide (fun W (bb : Below w.heap.size w W) => token_ok B p c W (h.below bb))
  have hB := hide h.lt
  have hP := hide (show c.isP q = decide (c.kd = 0 ∧ c.tok.k = 2 ∧ c.tok.tx = q) from rfl)
  obtain ⟨R, hR⟩ : ∃ R, R = c.isP q := ⟨_, rfl⟩
  rw [← hR] at hP ⊢
  obtain ⟨kd, hk⟩ : ∃ kd, kd = c.kd := ⟨_, rfl⟩
  obtain ⟨t, hk3⟩ : ∃ t, t = c.tok := ⟨_, rfl⟩
  rw [← hk] at hd
  rw [← hk3] at ht
  rw [← hk3, ← hk] at hP
  clear h hk hk3 hR
  unfold ptr at hd ht ⊢
  unfold Tk.cells at ht
  go_enter Try.func21, Try.ntmps21
  go_wp2_with fail
  refine ((unhide hd) w (Below.refl _ _)).mono ?_
  rintro e w1 ⟨rfl, rfl⟩
  by_cases hk : kd = 0
  · subst hk
    go_wp2_with fail
    refine ((unhide ht) _ (Below.refl _ _)).mono ?_
    rintro e w2 ⟨rfl, b2⟩
    by_cases h2 : t.k = 2
    · have e2 : (t.k == 2) = true := by simpa using h2
      have hP2 := hide (show R = decide (t.tx = q) from by rw [unhide hP]; simp [h2])
      clear h2
      go_wp2_with fail
      go_ret
      exact ⟨by rw [unhide hP2, ← str_beq]; rfl, b2.alloc b2.size _⟩
    · have e2 : (t.k == 2) = false := by simpa using h2
      have hP2 := hide (show R = false from by rw [unhide hP]; simp [h2])
      go_wp2_with fail
      go_ret
      exact ⟨by rw [unhide hP2]; rfl, b2.alloc b2.size _⟩
  · have ek : (kd != 0) = true := by simpa using hk
    have hP2 := hide (show R = false from by rw [unhide hP]; simp [hk])
    clear hk
    go_wp2_with fail
    go_ret
    exact ⟨by rw [unhide hP2]; rfl, Below.refl _ _⟩
set_option maxRecDepth 4000 in
theorem isName_ok (B p : Nat) (c : Cu) (w : World) (h : CurAt w B p c) : Calls Try.prog 50 #[ptr B] w fun e w' => e = .returned (.bool c.isN) ∧ Below w.heap.size w w' := by
  have hd := hide (fun W (bb : Below w.heap.size w W) => dead_ok B p c W (h.below bb))
  have ht := hide (fun W (bb : Below w.heap.size w W) => token_ok B p c W (h.below bb))
  have hP := hide (show c.isN = decide (c.kd = 0 ∧ c.tok.k = 3) from rfl)
  have hf := fld_kind c.tok
  obtain ⟨R, hR⟩ : ∃ R, R = c.isN := ⟨_, rfl⟩
  rw [← hR] at hP ⊢
  obtain ⟨kd, hk⟩ : ∃ kd, kd = c.kd := ⟨_, rfl⟩
  obtain ⟨t, hk3⟩ : ∃ t, t = c.tok := ⟨_, rfl⟩
  rw [← hk] at hd
  rw [← hk3] at ht hf
  rw [← hk3, ← hk] at hP
  clear h hk hk3 hR
  unfold ptr at hd ht ⊢
  unfold Tk.cells at ht
  go_enter Try.func50, Try.ntmps50
  go_wp2_with fail
  refine ((unhide hd) w (Below.refl _ _)).mono ?_
  rintro e w1 ⟨rfl, rfl⟩
  by_cases hk : kd = 0
  · subst hk
    go_wp2_with fail
    refine ((unhide ht) _ (Below.refl _ _)).mono ?_
    rintro e w2 ⟨rfl, b2⟩
    by_cases h3 : t.k = 3
    · have e3 : (t.k == 3) = true := by simpa using h3
      have hP2 := hide (show R = true from by rw [unhide hP]; simp [h3])
      clear h3
      go_wp2_with fail
      go_ret
      exact ⟨by rw [unhide hP2]; rfl, b2⟩
    · have e3 : (t.k == 3) = false := by simpa using h3
      have hP2 := hide (show R = false from by rw [unhide hP]; simp [h3])
      clear h3
      go_wp2_with fail
      go_ret
      exact ⟨by rw [unhide hP2]; rfl, b2⟩
  · have ek : (kd != 0) = true := by simpa using hk
    have hP2 := hide (show R = false from by rw [unhide hP]; simp [hk])
    clear hk
    go_wp2_with fail
    go_ret
    exact ⟨by rw [unhide hP2]; rfl, Below.refl _ _⟩
/-- the cursor's cells, in every world in which its block and its tokens stand -/
theorem CurAt.ix {w : World} {B p : Nat} {c : Cu} (h : CurAt w B p c) (i : Nat) (hok : (⟨c.ts, i, c.op, c.mo, c.kd⟩ : Cu).Ok) : CurAt (w.setCell ⟨B, 1, none⟩ (.int .i64 i)) B p ⟨c.ts, i, c.op, c.mo, c.kd⟩ := by
  obtain ⟨cap, h1, h2, h3, h4⟩ := h.box
  exact ⟨hok, h.len, cap, (dt.heap_setCell_at h1 1 _).trans rfl, h2, by simpa using h3, fun j t ht m u hu => ((Kp.refl B w).set 1 (.int .i64 i)).cell h3 h2 |>.trans (h4 j t ht m u hu)⟩
theorem CurAt.opn {w : World} {B p : Nat} {c : Cu} (h : CurAt w B p c) (i : Nat) (hok : (⟨c.ts, c.ix, i, c.mo, c.kd⟩ : Cu).Ok) : CurAt (w.setCell ⟨B, 2, none⟩ (.int .i64 i)) B p ⟨c.ts, c.ix, i, c.mo, c.kd⟩ := by
  obtain ⟨cap, h1, h2, h3, h4⟩ := h.box
  exact ⟨hok, h.len, cap, (dt.heap_setCell_at h1 2 _).trans rfl, h2, by simpa using h3, fun j t ht m u hu => ((Kp.refl B w).set 2 (.int .i64 i)).cell h3 h2 |>.trans (h4 j t ht m u hu)⟩
theorem CurAt.kind {w : World} {B p : Nat} {c : Cu} (h : CurAt w B p c) (k : Int) : CurAt (w.setCell ⟨B, 4, none⟩ (.int .i64 k)) B p ⟨c.ts, c.ix, c.op, c.mo, k⟩ := by
  obtain ⟨cap, h1, h2, h3, h4⟩ := h.box
  exact ⟨⟨h.ok.lt, h.ok.more, h.ok.op, h.ok.mo⟩, h.len, cap, (dt.heap_setCell_at h1 4 _).trans rfl, h2, by simpa using h3, fun j t ht m u hu => ((Kp.refl B w).set 4 (.int .i64 k)).cell h3 h2 |>.trans (h4 j t ht m u hu)⟩
theorem refuse_ok (B p : Nat) (c : Cu) (k : Int) (w : World) (h : CurAt w B p c) : Calls Try.prog 40 #[ptr B, .int .i64 k] w fun e w' => e = .returned (.tuple #[]) ∧ CurAt w' B p (c.stop k) ∧ Kp B w w' := by
  have hd := hide (dead_ok B p c w h)
  have hK := hide h.kind
  have hB := h.lt
  obtain ⟨cap, h1, h2, h3, h4⟩ := h.box
  have d4 : w.cell? ⟨B, 4, none⟩ = some (.int .i64 c.kd) := (dt.cell_cells h1 4).trans rfl
  have f4 : w.frozen? ⟨B, 4, none⟩ = false := dt.frozen_cells h1 4
  have hs := hide (show c.stop k = if c.kd = 0 then ⟨c.ts, c.ix, c.op, c.mo, k⟩ else c from rfl)
  have HH := hide h
  clear h h1 h4
  unfold ptr at hd ⊢
  go_enter Try.func40, Try.ntmps40
  go_wp2_with fail
  refine (unhide hd).mono ?_
  rintro e w1 ⟨rfl, rfl⟩
  by_cases hk : c.kd = 0
  · have ek : (c.kd != 0) = false := by simpa using hk
    have hs2 := hide (show c.stop k = ⟨c.ts, c.ix, c.op, c.mo, k⟩ from by rw [unhide hs, if_pos hk])
    clear hk hs
    go_wp2_with fail
    go_end0
    rw [unhide hs2]
    exact ⟨rfl, (unhide hK) k, (Kp.refl _ _).set 4 _⟩
  · have ek : (c.kd != 0) = true := by simpa using hk
    have hs2 := hide (show c.stop k = c from by rw [unhide hs, if_neg hk])
    clear hk hs
    go_wp2_with fail
    go_end0
    rw [unhide hs2]
    exact ⟨rfl, unhide HH, Kp.refl _ _⟩
end Go.Proofs.Ytfegalieiiaopab.cu
