import Derived.Test.YtechaplindbfoaaGreatDoorJre7
namespace Go.Proofs.YtechaplindbfoaaGreatDoor.og
open Go.ChangeShapes Go.WideShapes Go.ChangeAt Go.RowKit
open vl hiding cB cFl cS cF cI cK cIt
open stp (St Pth St3)
set_option linter.unusedVariables false
set_option linter.unusedSimpArgs false
set_option maxHeartbeats 4000000 in
set_option maxRecDepth 100000 in
theorem sound_ok (v : Vl) (cs : List Value) (w : World) (hv : VlC w v cs) (hsm : Small v) (hc : cnt v ≤ 1048576) : Calls Tryz.prog 15 #[.agg cs.toArray] w fun e w' => ∃ aj nj cj, e = .returned (.tuple #[.slice aj nj cj, .int .i64 (ffE v)]) ∧ Pth w' aj nj (ffP v) ∧ Below w.heap.size w w' := by
  have FF := hide (fun W (hb : Below w.heap.size w W) => ff_ok v hsm cs W (VlC.below hb _ _ hv) hc)
  have hl := hide (show (ffP v).reverse.length ≤ 1048577 by have := ffP_len v; simp; omega)
  obtain ⟨P, hP⟩ : ∃ P, P = ffP v := ⟨_, rfl⟩
  obtain ⟨E, hE⟩ : ∃ E, E = ffE v := ⟨_, rfl⟩
  rw [← hP] at hl FF
  rw [← hE] at FF
  rw [← hP, ← hE]
  clear hP hE
  obtain ⟨kd, b, m, f, tx, ty, its, fls⟩ := v
  unfold VlC at hv
  obtain ⟨ai, ni, ci, af, nf, cf, rfl, -⟩ := hv
  have hsf := storeF
  clear hsm hc
  go_enter Tryz.func15, Tryz.ntmps15
  go_wp2_with fail
  refine (unhide FF _ ((Below.refl _ _).alloc (Nat.le_refl _) _)).mono ?_
  rintro e w1 ⟨aj, nj, cj, rfl, hG, b1⟩
  have hb1 : Below w.heap.size w w1 := ((Below.refl _ _).alloc (Nat.le_refl _) _).trans (b1.mono (by simp))
  have R := hide (rev_grs hG (unhide hl))
  clear FF b1 hG hsf
  go_wp2_with fail
  refine (unhide R).mono ?_
  rintro e w2 ⟨rfl, hp, b2⟩
  clear R
  rw [List.reverse_reverse] at hp
  go_wp2
  go_ret2
  exact ⟨aj, nj, cj, rfl, hp, hb1.trans (b2.mono (by simp))⟩
end Go.Proofs.YtechaplindbfoaaGreatDoor.og
