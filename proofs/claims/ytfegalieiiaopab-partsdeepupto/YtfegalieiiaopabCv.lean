import Derived.Test.YtfegalieiiaopabLxG
namespace Go.Proofs.Ytfegalieiiaopab.cu
open Go.ChangeShapes Go.WideShapes Go.ChangeAt Go.RowKit
open ints (hide unhide)
open dt (Dt Kp RowAt)
set_option linter.unusedVariables false
/-- a cursor in memory -/
structure CurAt (w : World) (B p : Nat) (c : Cu) : Prop where
  ok : c.Ok
  len : c.ts.length ≤ 1099511627777
  box : ∃ cap, w.heap[B]? = some (.cells #[.slice (some ⟨p, 0, none⟩) c.ts.length cap, .int .i64 c.ix, .int .i64 c.op, .int .i64 c.mo, .int .i64 c.kd] 68 (0, 0)) ∧ p ≠ B ∧ p < w.heap.size ∧ ∀ i t, c.ts[i]? = some t → RowAt w p (i * 7) t.cells
theorem CurAt.lt {w : World} {B p : Nat} {c : Cu} (h : CurAt w B p c) : B < w.heap.size := by
  obtain ⟨cap, h1, _⟩ := h.box
  exact (Array.getElem?_eq_some_iff.1 h1).1
theorem CurAt.below {w w' : World} {B p : Nat} {c : Cu} (h : CurAt w B p c) (hb : Below w.heap.size w w') : CurAt w' B p c := by
  have hlt := h.lt
  obtain ⟨cap, h1, h2, h3, h4⟩ := h.box
  exact ⟨h.ok, h.len, cap, (hb.block B hlt).trans h1, h2, Nat.lt_of_lt_of_le h3 hb.size, fun i t ht => (h4 i t ht).below hb⟩
theorem CurAt.plt {w : World} {B p : Nat} {c : Cu} (h : CurAt w B p c) : p < w.heap.size := by
  obtain ⟨cap, h1, h2, h3, h4⟩ := h.box
  exact h3
theorem CurAt.out {w : World} {B p : Nat} {c : Cu} (h : CurAt w B p c) {b : Nat} (hb : B ≠ b) (hp : p ≠ b) (o : Nat) (vs : List Value) : CurAt (w.setCells b o vs) B p c := by
  obtain ⟨cap, h1, h2, h3, h4⟩ := h.box
  exact ⟨h.ok, h.len, cap, (dt.heap_setCells b B hb vs o w).trans h1, h2, by rw [dt.size_setCells]; exact h3, fun i t ht j u hu => (dt.cell_blk (dt.heap_setCells b p hp vs o w) _).trans (h4 i t ht j u hu)⟩
theorem _root_.Go.Proofs.Ytfegalieiiaopab.dt.Kp.out {B : Nat} {w w1 : World} (h : Kp B w w1) {b : Nat} (hb : w.heap.size ≤ b) (o : Nat) (vs : List Value) : Kp B w (w1.setCells b o vs) := by
  have hs : Below w.heap.size w1 (w1.setCells b o vs) := dt.below_setCells b vs o w1 (Below.refl _ _) hb
  exact ⟨hs.os.trans h.os, hs.tape.trans h.tape, hs.output.trans h.output, Nat.le_trans h.size hs.size, fun k hk hB => (hs.block k hk).trans (h.block k hk hB)⟩
def ptr (B : Nat) : Value := .pointer (some ⟨B, 0, none⟩)
theorem blank_ok (B p : Nat) (c : Cu) (w : World) (h : CurAt w B p c) : Calls Try.prog 27 #[ptr B] w fun e w' => e = .returned (.bool false) ∧ w' = w := by
  obtain ⟨cap, h1, h2, h3, h4⟩ := h.box
  have hn : ((c.ts.length : Int) == 0) = false := by have := h.ok.lt; rw [beq_eq_false_iff_ne]; omega
  have d0 : w.cell? ⟨B, 0, none⟩ = some (.slice (some ⟨p, 0, none⟩) c.ts.length cap) := (dt.cell_cells h1 0).trans rfl
  unfold ptr
  clear h h1 h4
  go_enter Try.func27, Try.ntmps27
  go_wp2
  go_ret
  exact ⟨rfl, rfl⟩
theorem dead_ok (B p : Nat) (c : Cu) (w : World) (h : CurAt w B p c) : Calls Try.prog 17 #[ptr B] w fun e w' => e = .returned (.bool (c.kd != 0)) ∧ w' = w := by
  have hb := hide (blank_ok B p c w h)
  obtain ⟨cap, h1, h2, h3, h4⟩ := h.box
  have d4 : w.cell? ⟨B, 4, none⟩ = some (.int .i64 c.kd) := (dt.cell_cells h1 4).trans rfl
  obtain ⟨kd, hk⟩ : ∃ kd, kd = c.kd := ⟨_, rfl⟩
  rw [← hk] at d4 ⊢
  clear h h1 h4 hk
  unfold ptr at hb ⊢
  go_enter Try.func17, Try.ntmps17
  go_wp2_with fail
  refine (unhide hb).mono ?_
  rintro e w1 ⟨rfl, rfl⟩
  go_wp2
  go_ret
  exact ⟨rfl, rfl⟩
theorem token_ok (B p : Nat) (c : Cu) (w : World) (h : CurAt w B p c) : Calls Try.prog 18 #[ptr B] w fun e w' => e = .returned (.agg c.tok.cells.toArray) ∧ Below w.heap.size w w' := by
  have hb := hide (fun W (bb : Below w.heap.size w W) => blank_ok B p c W (h.below bb))
  have hlt := h.lt
  have hix := h.ok.lt
  have hlen := h.len
  obtain ⟨cap, h1, h2, h3, h4⟩ := h.box
  have hr := h4 c.ix c.tok (c.get hix)
  have d0 : w.cell? ⟨B, 0, none⟩ = some (.slice (some ⟨p, 0, none⟩) c.ts.length cap) := (dt.cell_cells h1 0).trans rfl
  have d1 : w.cell? ⟨B, 1, none⟩ = some (.int .i64 c.ix) := (dt.cell_cells h1 1).trans rfl
  obtain ⟨ix, hk⟩ : ∃ ix, ix = c.ix := ⟨_, rfl⟩
  obtain ⟨n, hk2⟩ : ∃ n, n = c.ts.length := ⟨_, rfl⟩
  obtain ⟨t, hk3⟩ : ∃ t, t = c.tok := ⟨_, rfl⟩
  rw [← hk, ← hk2] at hix
  rw [← hk2] at d0 hlen
  rw [← hk] at d1 hr
  rw [← hk3] at hr ⊢
  clear h h1 h4 hk hk2 hk3
  have bA : ∀ o, Below w.heap.size w (w.alloc o) := fun o => (Below.refl _ _).alloc (Nat.le_refl _) _
  have D0 : ∀ o, (w.alloc o).cell? ⟨B, 0, none⟩ = some (.slice (some ⟨p, 0, none⟩) n cap) := fun o => ((bA o).cell (p := ⟨B, 0, none⟩) hlt).trans d0
  have D1 : ∀ o, (w.alloc o).cell? ⟨B, 1, none⟩ = some (.int .i64 ix) := fun o => ((bA o).cell (p := ⟨B, 1, none⟩) hlt).trans d1
  have hR := hide (fun o => hr.below (bA o))
  have HA := hide bA
  clear d0 d1 hr bA
  have ii : (ix : Int) < (n : Int) := by omega
  unfold ptr at hb ⊢
  go_enter Try.func18, Try.ntmps18
  go_wp2_with fail
  refine ((unhide hb) _ ((unhide HA) _)).mono ?_
  rintro e w1 ⟨rfl, rfl⟩
  clear hb
  have E : ∀ (j : Nat) (u : Value) o, t.cells[j]? = some u → (w.alloc o).cell? ⟨p, ix * 7 + j, none⟩ = some u := fun j u o hu => (unhide hR) o j u hu
  have e0 : ∀ o, (w.alloc o).cell? ⟨p, ix * 7, none⟩ = some (.int .i64 t.k) := fun o => E 0 _ o rfl
  have e1 : ∀ o, (w.alloc o).cell? ⟨p, ix * 7 + 1, none⟩ = some (.int .i64 t.ln) := fun o => E 1 _ o rfl
  have e2 : ∀ o, (w.alloc o).cell? ⟨p, ix * 7 + 2, none⟩ = some (.int .i64 t.co) := fun o => E 2 _ o rfl
  have e3 : ∀ o, (w.alloc o).cell? ⟨p, ix * 7 + 3, none⟩ = some (.int .i64 t.fr) := fun o => E 3 _ o rfl
  have e4 : ∀ o, (w.alloc o).cell? ⟨p, ix * 7 + 4, none⟩ = some (.int .i64 t.to) := fun o => E 4 _ o rfl
  have e5 : ∀ o, (w.alloc o).cell? ⟨p, ix * 7 + 5, none⟩ = some (.string t.tx) := fun o => E 5 _ o rfl
  have e6 : ∀ o, (w.alloc o).cell? ⟨p, ix * 7 + 6, none⟩ = some (.string t.va) := fun o => E 6 _ o rfl
  clear E hR
  go_wp2_with fail
  go_region
  go_wp2
  refine bodyPost_ret (rgn.result_row rfl _ _ w.heap.size 0 t.cells _ rfl (dt.range_cells (heap_alloc_new w _) 0 t.cells (fun j u hu => by rw [Nat.zero_add]; simpa [Tk.cells] using hu)) Try.underlying63 rfl lx.infoTk) rfl ?_
  exact ⟨rfl, Go.below_drewN ((unhide HA) _) 1⟩
end Go.Proofs.Ytfegalieiiaopab.cu
