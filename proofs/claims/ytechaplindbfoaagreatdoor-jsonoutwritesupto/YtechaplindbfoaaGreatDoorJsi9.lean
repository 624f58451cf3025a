import Derived.Test.YtechaplindbfoaaGreatDoorJsi8
namespace Go.Proofs.YtechaplindbfoaaGreatDoor.og
open Go.ChangeShapes Go.WideShapes Go.ChangeAt Go.RowKit
open vl hiding cB cFl cS cF cI cK cIt
set_option linter.unusedVariables false
set_option linter.unusedSimpArgs false
set_option maxHeartbeats 8000000 in
set_option maxRecDepth 100000 in
theorem flaw_ok (v : Vl) (cs : List Value) (w : World) (hv : VlC w v cs) (hsm : Small v) (hwt : wtV v ≤ 1048576) : Calls Tryz.prog 63 #[.agg cs.toArray] w fun e w' => e = .returned (.int .i64 (flw v)) ∧ Below w.heap.size w w' := by
  have hc0 := hv
  obtain ⟨kd, b, m, f, tx, ty, its, fls⟩ := v
  unfold Small at hsm
  obtain ⟨-, hlF, hf, -, -⟩ := hsm
  by_cases h6 : kd = 6
  · subst h6
    rw [show flw (.mk 6 b m f tx ty its fls) = nmF [] (fls.list.map (·.1)) by simp [flw]]
    exact flaw6 b m f tx ty its fls cs w hv hwt hlF
  unfold VlC at hc0
  obtain ⟨ai, ni, ci, af, nf, cf, rfl, -⟩ := hc0
  have htx : tx.size ≤ 1048576 := by rw [wtV] at hwt; omega
  have hsf := storeF
  clear hv hlF hwt
  have bb := hide ((Below.refl w.heap.size w).alloc (Nat.le_refl _) (.cells #[Value.int IntKind.i64 kd, Value.bool b, Value.int IntKind.i64 m, Value.float FloatKind.f64 f, Value.string tx, Value.string ty, Value.slice ai ni ci, Value.slice af nf cf] 29))
  by_cases hlo : kd < 0
  · have HE := hide (show flw (.mk kd b m f tx ty its fls) = 2 by rw [flw, if_pos (.inl hlo)])
    clear h6
    go_enter Tryz.func63, Tryz.ntmps63
    go_wp2
    go_ret
    exact ⟨by rw [unhide HE]; try rfl, unhide bb⟩
  by_cases hhi : 7 ≤ kd
  · have HE := hide (show flw (.mk kd b m f tx ty its fls) = 2 by rw [flw, if_pos (.inr hhi)])
    clear h6
    go_enter Tryz.func63, Tryz.ntmps63
    go_wp2
    go_ret
    exact ⟨by rw [unhide HE]; try rfl, unhide bb⟩
  by_cases h3 : kd = 3
  · subst h3
    have HE := hide (show flw (.mk 3 b m f tx ty its fls) = if badF f = true then 6 else 0 by simp [flw])
    have sa := (ordSelf f hf).1
    cases hn : nanF f with
    | true =>
      have hb : badF f = true := by unfold nanF at hn; unfold badF; simp at hn ⊢; omega
      have HE := hide (show flw (.mk 3 b m f tx ty its fls) = 6 by rw [unhide HE, if_pos hb])
      rw [hn] at sa
      clear hn hb h6 hlo hhi hf
      go_enter Tryz.func63, Tryz.ntmps63
      go_wp2
      go_ret
      exact ⟨by rw [unhide HE]; try rfl, unhide bb⟩
    | false =>
      rw [hn] at sa
      cases hb : badF f with
      | false =>
        have hs : ∀ W, (binOp .sub 26 (.float .f64 f) (.float .f64 f)).run Tryz.prog W = .ok (.float .f64 0) W := fun W => run_float_arith W _ _ _ _ _ _ (sub_fin f hf hb)
        have z0 : (FloatKind.f64.format.order 0 0 != some Ordering.eq) = false := by decide
        rw [hb] at HE
        clear hn hb h6 hlo hhi hf
        go_enter Tryz.func63, Tryz.ntmps63
        go_wp2
        go_ret
        exact ⟨by rw [unhide HE]; try rfl, unhide bb⟩
      | true =>
        obtain ⟨r, hr, hs⟩ := sub_inf f hf hb hn 26 (w.alloc (.cells #[Value.int IntKind.i64 3, Value.bool b, Value.int IntKind.i64 m, Value.float FloatKind.f64 f, Value.string tx, Value.string ty, Value.slice ai ni ci, Value.slice af nf cf] 29))
        rw [hb] at HE
        clear hn hb h6 hlo hhi hf
        go_enter Tryz.func63, Tryz.ntmps63
        go_wp2
        go_ret
        exact ⟨by rw [unhide HE]; try rfl, (unhide bb).drew⟩
  by_cases h4 : kd = 4
  · subst h4
    have HE := hide (show flw (.mk 4 b m f tx ty its fls) = if clnS tx = false then 1 else 0 by simp [flw])
    obtain ⟨cap, W2, hconv, hrow, b2⟩ := conv_bytes tx (w.alloc (.cells #[Value.int IntKind.i64 4, Value.bool b, Value.int IntKind.i64 m, Value.float FloatKind.f64 f, Value.string tx, Value.string ty, Value.slice ai ni ci, Value.slice af nf cf] 29))
    have C := hide (rclean_ok tx _ cap W2 hrow htx)
    have bW : Below w.heap.size w W2 := (unhide bb).trans (b2.mono (by simp))
    have y0 : W2.cell? ⟨w.heap.size, 0, none⟩ = some (.int .i64 4) := by rw [b2.cell (p := ⟨w.heap.size, 0, none⟩) (by simp), World.cell?_alloc_at _ _ _ _ rfl]; rfl
    have sW : w.heap.size < W2.heap.size := by have := b2.size; simp at this; omega
    generalize clnS tx = L at *
    have HC := hide hconv
    clear hrow h3 h6 hlo hhi b2
    go_enter Tryz.func63, Tryz.ntmps63
    have hcv := unhide HC
    simp only [World.size_alloc] at hcv C
    go_wp2_with fail
    refine (unhide C).mono ?_
    rintro e w3 ⟨rfl, b3⟩
    have y3 : w3.cell? ⟨w.heap.size, 0, none⟩ = some (.int .i64 4) := (b3.cell (p := ⟨w.heap.size, 0, none⟩) sW).trans y0
    have hb3 : Below w.heap.size w w3 := bW.trans (b3.mono bW.size)
    clear C b3 y0 hcv HC hconv
    cases L with
    | true =>
      go_wp2
      go_ret
      exact ⟨by rw [unhide HE]; try rfl, hb3⟩
    | false =>
      go_wp2
      go_ret
      exact ⟨by rw [unhide HE]; try rfl, hb3⟩
  have HE := hide (show flw (.mk kd b m f tx ty its fls) = 0 by rw [flw, if_neg (by omega), if_neg h3, if_neg h4, if_neg h6])
  rcases (show kd = 0 ∨ kd = 1 ∨ kd = 2 ∨ kd = 5 by omega) with rfl | rfl | rfl | rfl
  all_goals
    clear h3 h4 h6 hlo hhi
    go_enter Tryz.func63, Tryz.ntmps63
    go_wp2
    go_ret
    exact ⟨by rw [unhide HE]; try rfl, unhide bb⟩
end Go.Proofs.YtechaplindbfoaaGreatDoor.og
