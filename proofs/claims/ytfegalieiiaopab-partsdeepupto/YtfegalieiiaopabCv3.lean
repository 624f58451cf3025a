import Derived.Test.YtfegalieiiaopabCv2
namespace Go.Proofs.Ytfegalieiiaopab.cu
open Go.ChangeShapes Go.WideShapes Go.ChangeAt Go.RowKit
open ints (hide unhide)
open dt (Dt Kp RowAt)
set_option linter.unusedVariables false
theorem refuse0_ok (B p : Nat) (c : Cu) (w : World) (h : CurAt w B p c) : Calls Try.prog 25 #[ptr B] w fun e w' => e = .returned (.tuple #[]) ∧ CurAt w' B p (c.stop 70) ∧ Kp B w w' := by
  have hr := hide (refuse_ok B p c 70 w h)
  clear h
  unfold ptr at hr ⊢
  go_enter Try.func25, Try.ntmps25
  go_wp2_with fail
  refine (unhide hr).mono ?_
  rintro e w1 ⟨rfl, hc, hk⟩
  clear hr
  go_wp2_with fail
  go_end0
  exact ⟨rfl, hc, hk⟩
theorem holds_ok (B p : Nat) (c : Cu) (so : Bool) (w : World) (h : CurAt w B p c) : Calls Try.prog 26 #[ptr B, .bool so] w fun e w' => e = .returned (.bool so) ∧ CurAt w' B p (if so then c else c.stop 70) ∧ Kp B w w' := by
  have hr := hide (refuse0_ok B p c w h)
  have HH := hide h
  clear h
  unfold ptr at hr ⊢
  cases so
  · go_enter Try.func26, Try.ntmps26
    go_wp2_with fail
    refine (unhide hr).mono ?_
    rintro e w1 ⟨rfl, hc, hk⟩
    clear hr
    go_wp2_with fail
    go_ret
    exact ⟨rfl, hc, hk⟩
  · go_enter Try.func26, Try.ntmps26
    go_wp2_with fail
    go_ret
    exact ⟨rfl, unhide HH, Kp.refl _ _⟩
set_option maxHeartbeats 1000000 in
theorem take_ok (B p : Nat) (c : Cu) (w : World) (h : CurAt w B p c) (hm : c.ix + 1 < c.ts.length) : Calls Try.prog 35 #[ptr B] w fun e w' => e = .returned (.agg c.tok.cells.toArray) ∧ CurAt w' B p c.take ∧ Kp B w w' := by
  have hT := hide (fun W (bb : Below w.heap.size w W) => (h.below bb).ix (c.ix + 1) ⟨hm, h.ok.more, h.ok.op, h.ok.mo⟩)
  have hlt := h.lt
  have hix := h.ok.lt
  have hlen := h.len
  obtain ⟨cap, h1, h2, h3, h4⟩ := h.box
  have hr := h4 c.ix c.tok (c.get hix)
  have d0 : w.cell? ⟨B, 0, none⟩ = some (.slice (some ⟨p, 0, none⟩) c.ts.length cap) := (dt.cell_cells h1 0).trans rfl
  have d1 : w.cell? ⟨B, 1, none⟩ = some (.int .i64 c.ix) := (dt.cell_cells h1 1).trans rfl
  have f1 : w.frozen? ⟨B, 1, none⟩ = false := dt.frozen_cells h1 1
  have hct : Hid (c.take = ⟨c.ts, c.ix + 1, c.op, c.mo, c.kd⟩) := hide rfl
  obtain ⟨C, hC⟩ : ∃ C, C = c.take := ⟨_, rfl⟩
  rw [← hC] at hct ⊢
  rw [← unhide hct] at hT
  obtain ⟨ix, hk⟩ : ∃ ix, ix = c.ix := ⟨_, rfl⟩
  obtain ⟨n, hk2⟩ : ∃ n, n = c.ts.length := ⟨_, rfl⟩
  obtain ⟨t, hk3⟩ : ∃ t, t = c.tok := ⟨_, rfl⟩
  rw [← hk, ← hk2] at hix hm
  rw [← hk2] at d0 hlen
  rw [← hk] at d1 hr hT
  rw [← hk3] at hr ⊢
  clear h h1 h4 hk hk2 hk3 hC hct
  have bA : ∀ o, Below w.heap.size w (w.alloc o) := fun o => (Below.refl _ _).alloc (Nat.le_refl _) _
  have bA2 : ∀ o o', Below w.heap.size w ((w.alloc o).alloc o') := fun o o' => (bA o).alloc (bA o).size _
  have D0 : ∀ o, (w.alloc o).cell? ⟨B, 0, none⟩ = some (.slice (some ⟨p, 0, none⟩) n cap) := fun o => ((bA o).cell (p := ⟨B, 0, none⟩) hlt).trans d0
  have D1 : ∀ o, (w.alloc o).cell? ⟨B, 1, none⟩ = some (.int .i64 ix) := fun o => ((bA o).cell (p := ⟨B, 1, none⟩) hlt).trans d1
  have hR := hide (fun o => hr.below (bA o))
  have HA := hide bA
  clear d0 d1 hr bA
  have ii : (ix : Int) < (n : Int) := by omega
  have E : ∀ (j : Nat) (u : Value) o, t.cells[j]? = some u → (w.alloc o).cell? ⟨p, ix * 7 + j, none⟩ = some u := fun j u o hu => (unhide hR) o j u hu
  have e0 : ∀ o, (w.alloc o).cell? ⟨p, ix * 7, none⟩ = some (.int .i64 t.k) := fun o => E 0 _ o rfl
  have e1 : ∀ o, (w.alloc o).cell? ⟨p, ix * 7 + 1, none⟩ = some (.int .i64 t.ln) := fun o => E 1 _ o rfl
  have e2 : ∀ o, (w.alloc o).cell? ⟨p, ix * 7 + 2, none⟩ = some (.int .i64 t.co) := fun o => E 2 _ o rfl
  have e3 : ∀ o, (w.alloc o).cell? ⟨p, ix * 7 + 3, none⟩ = some (.int .i64 t.fr) := fun o => E 3 _ o rfl
  have e4 : ∀ o, (w.alloc o).cell? ⟨p, ix * 7 + 4, none⟩ = some (.int .i64 t.to) := fun o => E 4 _ o rfl
  have e5 : ∀ o, (w.alloc o).cell? ⟨p, ix * 7 + 5, none⟩ = some (.string t.tx) := fun o => E 5 _ o rfl
  have e6 : ∀ o, (w.alloc o).cell? ⟨p, ix * 7 + 6, none⟩ = some (.string t.va) := fun o => E 6 _ o rfl
  clear E hR
  unfold ptr
  go_enter Try.func35, Try.ntmps35
  go_wp2_with fail
  go_region
  go_wp2_with fail
  have hC1 := (unhide hT) w (Below.refl _ _)
  have hix1 : (((ix + 1 : Nat) : Int)) = (ix : Int) + 1 := by omega
  rw [hix1] at hC1
  have hK1 := (Kp.refl B w).set 1 (.int .i64 ((ix : Int) + 1))
  obtain ⟨X, hX⟩ : ∃ X, X = w.setCell ⟨B, 1, none⟩ (.int .i64 ((ix : Int) + 1)) := ⟨_, rfl⟩
  have hXs : X.heap.size = w.heap.size := by rw [hX]; simp
  rw [← hX] at hC1 hK1 ⊢
  clear hX
  have bX : ∀ o o', Below X.heap.size X ((X.alloc o).alloc o').drew := fun o o' => Go.below_drewN ((((Below.refl _ _).alloc (Nat.le_refl _) o)).alloc (by simp) o') 1
  have hQ : ∀ o o', ((X.alloc o).alloc o').drew.heap[w.heap.size]? = some o := fun o o' => by
    rw [← hXs]
    have e1 := heap_alloc_new X o
    have e2 := Below.heap_alloc (X.alloc o) o' X.heap.size (by simp)
    exact e2.trans e1
  refine bodyPost_ret (rgn.result_row rfl _ _ w.heap.size 0 t.cells _ rfl (dt.range_cells (hQ _ _) 0 t.cells (fun j u hu => by rw [Nat.zero_add]; simpa [Tk.cells] using hu)) Try.underlying63 rfl lx.infoTk) rfl ?_
  exact ⟨rfl, hC1.below (bX _ _), hK1.trans (Kp.of (bX _ _))⟩
theorem takeIf_ok (B p : Nat) (c : Cu) (so : Bool) (w : World) (h : CurAt w B p c) (hm : so = true → c.ix + 1 < c.ts.length) : Calls Try.prog 48 #[ptr B, .bool so] w fun e w' => e = .returned (.bool so) ∧ CurAt w' B p (if so then c.take else c) ∧ Kp B w w' := by
  have HH := hide h
  cases so
  · clear h
    unfold ptr
    go_enter Try.func48, Try.ntmps48
    go_wp2_with fail
    go_ret
    exact ⟨rfl, unhide HH, Kp.refl _ _⟩
  · have hr := hide (take_ok B p c w h (hm rfl))
    clear h
    unfold ptr at hr ⊢
    go_enter Try.func48, Try.ntmps48
    go_wp2_with fail
    refine (unhide hr).mono ?_
    rintro e w1 ⟨rfl, hc, hk⟩
    clear hr
    go_wp2_with fail
    go_ret
    exact ⟨rfl, hc, hk⟩
/-- a call that looks, then one that acts -/
theorem punct_ok (B p : Nat) (c : Cu) (q : ByteArray) (w : World) (h : CurAt w B p c) : Calls Try.prog 34 #[ptr B, .string q] w fun e w' => e = .returned (.bool (c.isP q)) ∧ CurAt w' B p (c.punct q) ∧ Kp B w w' := by
  have hi := hide (isPunct_ok B p c q w h)
  have ht := hide (fun W (bb : Below w.heap.size w W) => takeIf_ok B p c (c.isP q) W (h.below bb) (isP_more h.ok))
  have hs := hide (show c.punct q = if c.isP q then c.take else c from rfl)
  obtain ⟨R, hR⟩ : ∃ R, R = c.isP q := ⟨_, rfl⟩
  rw [← hR] at hi ht hs ⊢
  clear h hR
  unfold ptr at hi ht ⊢
  go_enter Try.func34, Try.ntmps34
  go_wp2_with fail
  refine (unhide hi).mono ?_
  rintro e w1 ⟨rfl, b1⟩
  go_wp2_with fail
  refine ((unhide ht) w1 b1).mono ?_
  rintro e w2 ⟨rfl, hc, hk⟩
  clear hi ht
  go_wp2_with fail
  go_ret
  exact ⟨rfl, by rw [unhide hs]; exact hc, (Kp.of b1).trans hk⟩
theorem want_ok (B p : Nat) (c : Cu) (q : ByteArray) (w : World) (h : CurAt w B p c) : Calls Try.prog 67 #[ptr B, .string q] w fun e w' => e = .returned (.bool (c.isP q)) ∧ CurAt w' B p (c.want q) ∧ Kp B w w' := by
  have hi := hide (isPunct_ok B p c q w h)
  have hh := hide (fun W (bb : Below w.heap.size w W) => holds_ok B p c (c.isP q) W (h.below bb))
  have ht := hide (fun W (hc : CurAt W B p (if c.isP q then c else c.stop 70)) => takeIf_ok B p (if c.isP q then c else c.stop 70) (c.isP q) W hc (fun e => by rw [e]; exact isP_more h.ok e))
  have hs := hide (show c.want q = (if c.isP q then (if c.isP q then c else c.stop 70).take else (if c.isP q then c else c.stop 70)) from by unfold Cu.want; split <;> rfl)
  obtain ⟨R, hR⟩ : ∃ R, R = c.isP q := ⟨_, rfl⟩
  rw [← hR] at hi ht hs hh ⊢
  obtain ⟨C, hC⟩ : ∃ C, C = if R then c else c.stop 70 := ⟨_, rfl⟩
  rw [← hC] at ht hh hs
  clear h hR hC
  unfold ptr at hi ht hh ⊢
  go_enter Try.func67, Try.ntmps67
  go_wp2_with fail
  refine (unhide hi).mono ?_
  rintro e w1 ⟨rfl, b1⟩
  go_wp2_with fail
  refine ((unhide hh) w1 b1).mono ?_
  rintro e w2 ⟨rfl, hc, hk⟩
  go_wp2_with fail
  refine ((unhide ht) w2 hc).mono ?_
  rintro e w3 ⟨rfl, hc3, hk3⟩
  clear hi ht hh
  go_wp2_with fail
  go_ret
  exact ⟨rfl, by rw [unhide hs]; exact hc3, ((Kp.of b1).trans hk).trans hk3⟩
end Go.Proofs.Ytfegalieiiaopab.cu
