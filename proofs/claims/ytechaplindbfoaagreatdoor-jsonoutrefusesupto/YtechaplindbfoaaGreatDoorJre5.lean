import Derived.Test.YtechaplindbfoaaGreatDoorJre4
namespace Go.Proofs.YtechaplindbfoaaGreatDoor.og
open Go.ChangeShapes Go.WideShapes Go.ChangeAt Go.RowKit
open vl hiding cB cFl cS cF cI cK cIt
set_option linter.unusedVariables false
set_option linter.unusedSimpArgs false
set_option maxHeartbeats 4000000 in
set_option maxRecDepth 100000 in
theorem own_ok (v : Vl) (cs : List Value) (w : World) (hv : VlC w v cs) (hsm : Small v) : Calls Tryz.prog 56 #[.agg cs.toArray] w fun e w' => e = .returned (.int .i64 (flw v)) ∧ Below w.heap.size w w' := by
  have hc0 := hv
  obtain ⟨kd, b, m, f, tx, ty, its, fls⟩ := v
  unfold VlC at hc0
  obtain ⟨ai, ni, ci, af, nf, cf, rfl, hI, hFl, hni, hnf, -, -, -, -, htx, -, -, -⟩ := hc0
  unfold Small at hsm
  obtain ⟨-, hlF, hf, -, -⟩ := hsm
  rw [FlsAt.len fls _ _ hFl] at hlF
  have htx : tx.size ≤ 9223372036854775807 := by unfold maxLen at htx; omega
  have hsf := storeF
  have N := hide (fun W (hb : Below w.heap.size w W) => names_ok fls af nf cf W (FlsAt.below hb _ _ _ hFl) hlF)
  clear hv hI hFl hni hnf hlF
  by_cases h3 : kd = 3
  · subst h3
    have HE := hide (show flw (.mk 3 b m f tx ty its fls) = if badF f = true then 6 else 0 by simp [flw])
    have NA := hide (fun W => isNaN_any f W hf)
    cases hn : nanF f with
    | true =>
      have hb : badF f = true := by unfold nanF at hn; unfold badF; simp at hn ⊢; omega
      have HE := hide (show flw (.mk 3 b m f tx ty its fls) = 6 by rw [unhide HE, if_pos hb])
      rw [hn] at NA
      clear hn hb N
      go_enter Tryz.func56, Tryz.ntmps56
      go_wp2_with fail
      refine (unhide NA _).mono ?_
      rintro e w1 ⟨rfl, rfl⟩
      go_wp2
      go_ret
      exact ⟨by rw [unhide HE]; try rfl, (Below.refl _ _).alloc (Nat.le_refl _) _⟩
    | false =>
      have IA := hide (fun W => isInf_ok f W hf hn)
      rw [hn] at NA
      clear hn N
      generalize badF f = B at *
      go_enter Tryz.func56, Tryz.ntmps56
      go_wp2_with fail
      refine (unhide NA _).mono ?_
      rintro e w1 ⟨rfl, rfl⟩
      go_wp2_with fail
      refine (unhide IA _).mono ?_
      rintro e w1 ⟨rfl, rfl⟩
      cases B with
      | true =>
        go_wp2
        go_ret
        exact ⟨by rw [unhide HE]; try rfl, (Below.refl _ _).alloc (Nat.le_refl _) _⟩
      | false =>
        go_wp2
        go_ret
        exact ⟨by rw [unhide HE]; try rfl, (Below.refl _ _).alloc (Nat.le_refl _) _⟩
  by_cases h4 : kd = 4
  · subst h4
    have HE := hide (show flw (.mk 4 b m f tx ty its fls) = if clnS tx = false then 1 else 0 by simp [flw])
    have U := hide (fun W => clean_ok tx W htx)
    generalize clnS tx = B at *
    clear N h3
    go_enter Tryz.func56, Tryz.ntmps56
    go_wp2_with fail
    refine (unhide U _).mono ?_
    rintro e w1 ⟨rfl, b1⟩
    have b2 : Below w.heap.size w w1 := ((Below.refl _ _).alloc (Nat.le_refl _) _).trans (b1.mono (by simp))
    clear U b1
    cases B with
    | true =>
      go_wp2
      go_ret
      exact ⟨by rw [unhide HE]; try rfl, b2⟩
    | false =>
      go_wp2
      go_ret
      exact ⟨by rw [unhide HE]; try rfl, b2⟩
  by_cases h6 : kd = 6
  · subst h6
    have HE := hide (show flw (.mk 6 b m f tx ty its fls) = nmF [] (fls.list.map (·.1)) by simp [flw])
    generalize nmF [] (fls.list.map (·.1)) = R at *
    clear h3 h4
    go_enter Tryz.func56, Tryz.ntmps56
    go_wp2_with fail
    refine (unhide N _ ((Below.refl _ _).alloc (Nat.le_refl _) _)).mono ?_
    rintro e w1 ⟨rfl, b1⟩
    have b2 : Below w.heap.size w w1 := ((Below.refl _ _).alloc (Nat.le_refl _) _).trans (b1.mono (by simp))
    clear N b1
    go_wp2
    go_ret
    exact ⟨by rw [unhide HE]; try rfl, b2⟩
  clear N
  by_cases ho : kd = 0 ∨ kd = 1 ∨ kd = 2 ∨ kd = 5
  · have HE := hide (show flw (.mk kd b m f tx ty its fls) = 0 by rw [flw, if_neg (by omega), if_neg h3, if_neg h4, if_neg h6])
    rcases ho with rfl | rfl | rfl | rfl
    all_goals
      clear h3 h4 h6
      go_enter Tryz.func56, Tryz.ntmps56
      go_wp2
      go_ret
      exact ⟨by rw [unhide HE]; try rfl, (Below.refl _ _).alloc (Nat.le_refl _) _⟩
  · have HE := hide (show flw (.mk kd b m f tx ty its fls) = 2 by rw [flw, if_pos (by omega)])
    have q0 : (kd == 0) = false := by simp; omega
    have q1 : (kd == 1) = false := by simp; omega
    have q2 : (kd == 2) = false := by simp; omega
    have q3 : (kd == 3) = false := by simp; omega
    have q4 : (kd == 4) = false := by simp; omega
    have q5 : (kd == 5) = false := by simp; omega
    have q6 : (kd == 6) = false := by simp; omega
    clear h3 h4 h6 ho
    go_enter Tryz.func56, Tryz.ntmps56
    go_wp2
    go_ret
    exact ⟨by rw [unhide HE]; try rfl, (Below.refl _ _).alloc (Nat.le_refl _) _⟩
end Go.Proofs.YtechaplindbfoaaGreatDoor.og
