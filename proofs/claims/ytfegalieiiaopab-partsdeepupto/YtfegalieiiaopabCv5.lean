import Derived.Test.YtfegalieiiaopabCv4
namespace Go.Proofs.Ytfegalieiiaopab.cu
open Go.ChangeShapes Go.WideShapes Go.ChangeAt Go.RowKit
open ints (hide unhide)
open dt (Dt Kp RowAt)
set_option linter.unusedVariables false
theorem CurAt.c2 {w : World} {B p : Nat} {c : Cu} (h : CurAt w B p c) : w.cell? ⟨B, 2, none⟩ = some (.int .i64 c.op) ∧ w.cell? ⟨B, 3, none⟩ = some (.int .i64 c.mo) ∧ w.frozen? ⟨B, 2, none⟩ = false ∧ w.cell? ⟨B, 4, none⟩ = some (.int .i64 c.kd) := by
  obtain ⟨cap, h1, h2, h3, h4⟩ := h.box
  exact ⟨(dt.cell_cells h1 2).trans rfl, (dt.cell_cells h1 3).trans rfl, dt.frozen_cells h1 2, (dt.cell_cells h1 4).trans rfl⟩
set_option maxHeartbeats 1000000 in
theorem open_ok (B p : Nat) (c : Cu) (q : ByteArray) (w : World) (h : CurAt w B p c) : Calls Try.prog 46 #[ptr B, .string q] w fun e w' => e = .returned (.bool (c.opB q)) ∧ CurAt w' B p (c.opn q) ∧ Kp B w w' := by
  have hi := hide (isPunct_ok B p c q w h)
  have hh := hide (fun W (bb : Below w.heap.size w W) => holds_ok B p c (c.isP q) W (h.below bb))
  have hok := hide h.ok
  have hop := h.ok.op
  have hmo := h.ok.mo
  cases hP : c.isP q
  · have hs := hide (show c.opB q = false ∧ c.opn q = c.stop 70 from ⟨by simp [Cu.opB, hP], by simp [Cu.opn, hP]⟩)
    rw [hP] at hi hh
    rw [(unhide hs).1]
    clear h hP
    unfold ptr at hi hh ⊢
    go_enter Try.func46, Try.ntmps46
    go_wp2_with fail
    refine (unhide hi).mono ?_
    rintro e w1 ⟨rfl, b1⟩
    go_wp2_with fail
    refine ((unhide hh) w1 b1).mono ?_
    rintro e w2 ⟨rfl, hc, hk⟩
    clear hi hh
    go_wp2_with fail
    go_ret
    exact ⟨rfl, by rw [(unhide hs).2]; exact hc, (Kp.of b1).trans hk⟩
  · rw [hP] at hi hh
    by_cases hd : c.op < c.mo
    · have hs := hide (show c.opB q = true ∧ c.opn q = ⟨c.ts, c.ix + 1, c.op + 1, c.mo, c.kd⟩ from ⟨by simp [Cu.opB, hP, hd], by simp [Cu.opn, hP, hd]⟩)
      have hm := isP_more h.ok hP
      have hO := hide (fun W (hc : CurAt W B p c) => hc.opn (c.op + 1) ⟨h.ok.lt, h.ok.more, by show c.op + 1 ≤ c.mo; omega, h.ok.mo⟩)
      have ht := hide (fun W (hc : CurAt W B p ⟨c.ts, c.ix, c.op + 1, c.mo, c.kd⟩) => takeIf_ok B p ⟨c.ts, c.ix, c.op + 1, c.mo, c.kd⟩ true W hc (fun _ => hm))
      rw [(unhide hs).1]
      have hge : ¬ ((c.mo : Int) ≤ (c.op : Int)) := by omega
      clear h hP hm
      unfold ptr at hi hh ht ⊢
      go_enter Try.func46, Try.ntmps46
      go_wp2_with fail
      refine (unhide hi).mono ?_
      rintro e w1 ⟨rfl, b1⟩
      go_wp2_with fail
      refine ((unhide hh) w1 b1).mono ?_
      rintro e w2 ⟨rfl, hc, hk⟩
      have hc' : CurAt w2 B p c := hc
      obtain ⟨d2, d3, f2, -⟩ := hc'.c2
      have HC := hide hc'
      have HK := hide ((Kp.of b1).trans hk)
      clear hi hh hc hc' hk b1
      go_wp2_with fail
      go_region
      go_wp2_with fail
      have HC2 := (unhide hO) _ ((unhide HC).below (Go.below_drewN (Below.refl _ _) 1))
      have hop1 : (((c.op + 1 : Nat) : Int)) = (c.op : Int) + 1 := by omega
      rw [hop1] at HC2
      refine ((unhide ht) _ HC2).mono ?_
      rintro e w3 ⟨rfl, hc3, hk3⟩
      have HK3 := hide (((unhide HK).trans (Kp.of (Go.below_drewN (Below.refl _ _) 1))).trans (((Kp.refl B _).set 2 (.int .i64 ((c.op : Int) + 1))).trans hk3))
      have HC3 := hide hc3
      clear ht HC2 hk3 hc3 HC HK d2 d3 f2 hop1
      go_wp2_with fail
      go_ret
      exact ⟨rfl, by rw [(unhide hs).2]; exact unhide HC3, unhide HK3⟩
    · have hs := hide (show c.opB q = false ∧ c.opn q = c.stop 71 from ⟨by simp [Cu.opB, hP, hd], by simp [Cu.opn, hP, hd]⟩)
      have ht := hide (fun W (hc : CurAt W B p c) => refuse_ok B p c 71 W hc)
      rw [(unhide hs).1]
      have hge : ((c.mo : Int) ≤ (c.op : Int)) := by omega
      clear h hP
      unfold ptr at hi hh ht ⊢
      go_enter Try.func46, Try.ntmps46
      go_wp2_with fail
      refine (unhide hi).mono ?_
      rintro e w1 ⟨rfl, b1⟩
      go_wp2_with fail
      refine ((unhide hh) w1 b1).mono ?_
      rintro e w2 ⟨rfl, hc, hk⟩
      have hc' : CurAt w2 B p c := hc
      obtain ⟨d2, d3, f2, -⟩ := hc'.c2
      have HC := hide hc'
      have HK := hide ((Kp.of b1).trans hk)
      clear hi hh hc hc' hk b1
      go_wp2_with fail
      go_region
      go_wp2_with fail
      refine ((unhide ht) _ ((unhide HC).below (Go.below_drewN (Below.refl _ _) 1))).mono ?_
      rintro e w3 ⟨rfl, hc3, hk3⟩
      have HK3 := hide (((unhide HK).trans (Kp.of (Go.below_drewN (Below.refl _ _) 1))).trans hk3)
      have HC3 := hide hc3
      clear ht hk3 hc3 HC HK d2 d3 f2
      go_wp2_with fail
      go_ret
      exact ⟨rfl, by rw [(unhide hs).2]; exact unhide HC3, unhide HK3⟩
set_option maxHeartbeats 1000000 in
theorem close_ok (B p : Nat) (c : Cu) (q : ByteArray) (w : World) (h : CurAt w B p c) : Calls Try.prog 47 #[ptr B, .string q] w fun e w' => e = .returned (.bool (c.isP q)) ∧ CurAt w' B p (c.cls q) ∧ Kp B w w' := by
  have hi := hide (want_ok B p c q w h)
  have hop := h.ok.op
  have hmo := h.ok.mo
  cases hP : c.isP q
  · have hs := hide (show c.cls q = c.want q from by simp [Cu.cls, Cu.want, hP])
    rw [hP] at hi
    clear h hP
    unfold ptr at hi ⊢
    go_enter Try.func47, Try.ntmps47
    go_wp2_with fail
    refine (unhide hi).mono ?_
    rintro e w1 ⟨rfl, hc, hk⟩
    clear hi
    go_wp2_with fail
    go_ret
    exact ⟨rfl, by rw [unhide hs]; exact hc, hk⟩
  · have hm := isP_more h.ok hP
    have hs := hide (show c.cls q = ⟨c.ts, c.ix + 1, c.op - 1, c.mo, c.kd⟩ ∧ c.want q = ⟨c.ts, c.ix + 1, c.op, c.mo, c.kd⟩ from ⟨by simp [Cu.cls, hP], by simp [Cu.want, hP, Cu.take]⟩)
    have hO := hide (fun W (hc : CurAt W B p ⟨c.ts, c.ix + 1, c.op, c.mo, c.kd⟩) => hc.opn (c.op - 1) ⟨hm, h.ok.more, by show c.op - 1 ≤ c.mo; omega, h.ok.mo⟩)
    rw [hP, (unhide hs).2] at hi
    rw [(unhide hs).1]
    obtain ⟨O, hO'⟩ : ∃ O, O = c.op := ⟨_, rfl⟩
    rw [← hO'] at hi hO hop
    clear h hP hm
    unfold ptr at hi ⊢
    go_enter Try.func47, Try.ntmps47
    go_wp2_with fail
    refine (unhide hi).mono ?_
    rintro e w1 ⟨rfl, hc, hk⟩
    obtain ⟨d2, -, f2, -⟩ := hc.c2
    have d2' : w1.cell? ⟨B, 2, none⟩ = some (.int .i64 (O : Int)) := d2
    have HC := hide hc
    have HK := hide hk
    have HO := hide hO'
    clear hi hc hk d2 hO'
    go_wp2_with fail
    go_ret
    have e : max 0 ((O : Int) - 1) = ((O - 1 : Nat) : Int) := by omega
    rw [e, ← unhide HO]
    exact ⟨rfl, (unhide hO) _ (unhide HC), (unhide HK).set 2 _⟩
set_option maxRecDepth 4000 in
theorem end_ok (B p : Nat) (c : Cu) (w : World) (h : CurAt w B p c) : Calls Try.prog 11 #[ptr B] w fun e w' => e = .returned (.bool c.finB) ∧ CurAt w' B p c.fin ∧ Kp B w w' := by
  have hd := hide (fun W (bb : Below w.heap.size w W) => dead_ok B p c W (h.below bb))
  have ht := hide (fun W (bb : Below w.heap.size w W) => token_ok B p c W (h.below bb))
  have hh := hide (fun W (bb : Below w.heap.size w W) => holds_ok B p c c.finB W (h.below bb))
  have hs := hide (show c.fin = if c.finB then c else c.stop 70 from rfl)
  have hP := hide (show c.finB = decide (c.kd = 0 ∧ c.tok.k = 0) from rfl)
  have hf := fld_kind c.tok
  obtain ⟨C, hC⟩ : ∃ C, C = c.fin := ⟨_, rfl⟩
  rw [← hC] at hs ⊢
  rw [← unhide hs] at hh
  obtain ⟨R, hR⟩ : ∃ R, R = c.finB := ⟨_, rfl⟩
  rw [← hR] at hP hh ⊢
  obtain ⟨kd, hk⟩ : ∃ kd, kd = c.kd := ⟨_, rfl⟩
  obtain ⟨t, hk3⟩ : ∃ t, t = c.tok := ⟨_, rfl⟩
  rw [← hk] at hd
  rw [← hk3] at ht hf
  rw [← hk3, ← hk] at hP
  clear h hk hk3 hR hs hC
  unfold ptr at hd ht hh ⊢
  unfold Tk.cells at ht
  go_enter Try.func11, Try.ntmps11
  go_wp2_with fail
  refine ((unhide hd) w (Below.refl _ _)).mono ?_
  rintro e w1 ⟨rfl, rfl⟩
  by_cases hk : kd = 0
  · subst hk
    go_wp2_with fail
    refine ((unhide ht) _ (Below.refl _ _)).mono ?_
    rintro e w2 ⟨rfl, b2⟩
    by_cases h3 : t.k = 0
    · have e3 : (t.k == 0) = true := by simpa using h3
      obtain rfl : R = true := by rw [unhide hP]; simp [h3]
      clear h3
      go_wp2_with fail
      refine ((unhide hh) _ b2).mono ?_
      rintro e w3 ⟨rfl, hc3, hk3⟩
      clear hd ht hh
      go_wp2_with fail
      go_ret
      exact ⟨rfl, hc3, (Kp.of b2).trans hk3⟩
    · have e3 : (t.k == 0) = false := by simpa using h3
      obtain rfl : R = false := by rw [unhide hP]; simp [h3]
      clear h3
      go_wp2_with fail
      refine ((unhide hh) _ b2).mono ?_
      rintro e w3 ⟨rfl, hc3, hk3⟩
      clear hd ht hh
      go_wp2_with fail
      go_ret
      exact ⟨rfl, hc3, (Kp.of b2).trans hk3⟩
  · have ek : (kd != 0) = true := by simpa using hk
    obtain rfl : R = false := by rw [unhide hP]; simp [hk]
    clear hk
    go_wp2_with fail
    refine ((unhide hh) _ (Below.refl _ _)).mono ?_
    rintro e w3 ⟨rfl, hc3, hk3⟩
    clear hd ht hh
    go_wp2_with fail
    go_ret
    exact ⟨rfl, hc3, hk3⟩
end Go.Proofs.Ytfegalieiiaopab.cu
