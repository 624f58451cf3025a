import Derived.Test.YtechaplindbfoaaGreatDoorJsi15
namespace Go.Proofs.YtechaplindbfoaaGreatDoor.fto
open Go.ChangeShapes Go.WideShapes Go.ChangeAt Go.RowKit
open mem
open ints (hide unhide)
set_option linter.unusedVariables false
set_option linter.unusedSimpArgs false
theorem tenc (q : Int) (j : Nat) : 10 ^ j * 10 ^ q.toNat * 10 ^ (-(q + j)).toNat = 10 ^ (q + j).toNat * 10 ^ (-q).toNat := by
  rw [← Nat.pow_add, ← Nat.pow_add, ← Nat.pow_add]
  congr 1
  omega
theorem ten_scale (q : Int) (j v k : Nat) : 10 ^ j * 10 ^ q.toNat * k ≤ 10 ^ (-q).toNat * v ↔ 1 * 10 ^ (q + j).toNat * k ≤ 10 ^ (-(q + j)).toNat * v := by
  have h := tenc q j
  have hA : 0 < 10 ^ (-q).toNat := Nat.pow_pos (by decide)
  have hA' : 0 < 10 ^ (-(q + j)).toNat := Nat.pow_pos (by decide)
  generalize 10 ^ (-(q + (j : Int))).toNat = A' at *
  generalize 10 ^ (q + (j : Int)).toNat = C' at *
  generalize 10 ^ (-q).toNat = A at *
  generalize 10 ^ q.toNat = C at *
  generalize 10 ^ j = J at *
  rw [Nat.one_mul]
  have e1 : J * C * k ≤ A * v ↔ J * C * k * A' ≤ A * v * A' := (Nat.mul_le_mul_right_iff hA').symm
  have e2 : C' * k ≤ A' * v ↔ C' * k * A ≤ A' * v * A := (Nat.mul_le_mul_right_iff hA).symm
  rw [e1, e2, Nat.mul_right_comm (J * C) k A', h, Nat.mul_right_comm C' A k, Nat.mul_comm A' v, Nat.mul_comm A v, Nat.mul_right_comm v A A']
/-- q times ten to the power of p - 17 is at most the float a -/
def svG (a : Nat) (p : Int) (q : Nat) : Prop := 1 * 10 ^ (p - 17).toNat * q * k74 ≤ 10 ^ (-(p - 17)).toNat * vR a
theorem sv_low {a : Nat} {p : Int} (h : ¬ pwG a (p - 1)) : svG a p 10000000000000000 := by
  have := ten_scale (p - 17) 16 (vR a) k74
  rw [show p - 17 + ((16 : Nat) : Int) = p - 1 by omega] at this
  unfold svG
  unfold pwG at h
  have h2 := this.2 (by omega)
  rw [show (10000000000000000 : Nat) = 10 ^ 16 from rfl, Nat.one_mul, Nat.mul_comm (10 ^ (p - 17).toNat)]
  exact h2
theorem sv_high {a : Nat} {p : Int} (h : pwG a p) : ¬ svG a p 100000000000000000 := by
  have := ten_scale (p - 17) 17 (vR a) k74
  rw [show p - 17 + ((17 : Nat) : Int) = p by omega] at this
  unfold svG
  unfold pwG at h
  intro h3
  rw [show (100000000000000000 : Nat) = 10 ^ 17 from rfl, Nat.one_mul, Nat.mul_comm (10 ^ (p - 17).toNat)] at h3
  have := this.1 h3
  omega
set_option maxHeartbeats 2000000 in
set_option maxRecDepth 100000 in
/-- the reference's seventeen -/
theorem seventeen_in (G : Nat → Prop) (a : Nat) (p : Int) (w : World) (hG : ∀ q, G q ↔ svG a p q) (hai : a < 9218868437227405312) (h1 : pwG a p) (h2 : ¬ pwG a (p - 1)) (hp0 : -330 < p) (hp1 : p ≤ 310) :
    Calls Tryz.prog 117 #[.int .u64 (a : Int), .int .i64 p] w fun e w' => ∃ q : Nat, e = .returned (.int .u64 (q : Int)) ∧ 10000000000000000 ≤ q ∧ q ≤ 99999999999999999 ∧ G q ∧ ¬ G (q + 1) ∧ Below w.heap.size w w' := by
  have S1 := hide (split_any a w (by omega))
  have HD := hide (fun W => dec_any ⟨#[49]⟩ 1 (p - 17) W (by decide) one_dig.1 one_dig.2 (by decide) (by omega) (by omega))
  have HA := hide (fun aT aB nT cT nB cB T B W (h1 : Big W aT nT cT T) (h2 : Big W aB nB cB B) (l1 : nT ≤ 30000) (l2 : nB ≤ 20000) => against_at aT aB nT cT nB cB T B a W h1 h2 (by omega) (by omega) (by omega))
  have HL := hide ((hG _).2 (sv_low h2))
  have HH := hide (fun h => sv_high h1 ((hG _).1 h))
  have HGG := hide hG
  clear hG
  generalize hM : mantR a = M at *
  generalize hE : exR a = E at *
  clear h1 h2 hai hM hE
  go_enter Tryz.func117, Tryz.ntmps117
  go_wp2_with fail
  refine (unhide S1).mono ?_
  rintro e w1 ⟨rfl, hw⟩
  subst w1
  clear S1
  go_wp2_with fail
  refine (unhide HD _).mono ?_
  rintro e w2 ⟨aT, nT, cT, aB, nB, cB, rfl, g1, l1, g2, l2, b2⟩
  obtain ⟨WN, hWN⟩ : ∃ WN, w2.alloc (.cells #[.slice aT nT cT, .slice aB nB cB] 160) = WN := ⟨_, rfl⟩
  have al : Below w2.heap.size w2 WN := by rw [← hWN]; exact (Below.refl _ _).alloc (Nat.le_refl _) _
  have bx : Box2 WN w2.heap.size (.slice aT nT cT) (.slice aB nB cB) 160 := by rw [← hWN]; exact box2_new w2 _ _ _
  obtain ⟨D, hD⟩ : ∃ D, w2.heap.size = D := ⟨_, rfl⟩
  rw [hD] at bx
  have I0 := hide (⟨bx, g1.below al, g2.below al, b2.trans (al.mono b2.size)⟩ : Box2 WN D (.slice aT nT cT) (.slice aB nB cB) 160 ∧ Big WN aT nT cT (1 * 10 ^ (p - 17).toNat) ∧ Big WN aB nB cB (10 ^ (-(p - 17)).toNat) ∧ Below w.heap.size w WN)
  clear g1 g2 b2 al bx HD
  go_wp2
  clear hWN hD
  go_loopw [8, 9] (fun l h wr => ∃ (x y : Nat), l = .int .u64 (x : Int) ∧ h = .int .u64 (y : Int) ∧ 10000000000000000 ≤ x ∧ x ≤ y ∧ y ≤ 99999999999999999 ∧ G x ∧ ¬ G (y + 1) ∧ (Box2 wr D (.slice aT nT cT) (.slice aB nB cB) 160 ∧ Big wr aT nT cT (1 * 10 ^ (p - 17).toNat) ∧ Big wr aB nB cB (10 ^ (-(p - 17)).toNat) ∧ Below w.heap.size w wr)) (fun l h _ => (intOf h - intOf l).toNat)
  case atStart => exact ⟨10000000000000000, 99999999999999999, rfl, rfl, by omega, by omega, by omega, unhide HL, unhide HH, unhide I0⟩
  case round =>
    obtain ⟨x, y, rfl, rfl, x0, xy, y1, gx, gy, bx, g1, g2, hbel⟩ := hrel
    have GY := hide gy
    have GX := hide gx
    have HB := hide hbel
    clear gy gx hbel I0 HL HH
    by_cases hxy : x < y
    · have hxi : (x : Int) < (y : Int) := by omega
      have hyi : (y : Int) ≤ 99999999999999999 := by omega
      obtain ⟨mid, hmid⟩ : ∃ mid, mid = x + (y - x + 1) / 2 := ⟨_, rfl⟩
      have hm1 : x < mid := by omega
      have hm2 : mid ≤ y := by omega
      have hme : (x : Int) + ((y : Int) - (x : Int) + 1) / 2 = (mid : Int) := by omega
      clear hmid
      obtain ⟨q0, q1, _, _⟩ := bx.cells
      have hsz := bx.lt
      have HW := hide (wide_any aT nT cT _ mid wr.drew (g1.below ((Below.refl _ _).drew)) (by omega) (by omega))
      have HG1 := hide g1
      have HG2 := hide g2
      clear g1 g2
      go_wp2_with fail
      refine wp_region_noPanic ?_
      refine wp_region_held (S := fun w' => w'.cell? ⟨D, 0, none⟩ = some (.slice aT nT cT) ∧ w'.cell? ⟨D, 1, none⟩ = some (.slice aB nB cB)) mixed ?_
      have hS0 : wr.drew.cell? ⟨D, 0, none⟩ = some (.slice aT nT cT) ∧ wr.drew.cell? ⟨D, 1, none⟩ = some (.slice aB nB cB) := ⟨q0, q1⟩
      refine wpAnyH_take (i := 0) (v := ?v1) rfl (by kernel_rfl) (by kernel_rfl) (by kernel_rfl) (fun _ _ _ h => h) (Or.inl ⟨by rfl, ?hy1⟩) hS0 ?_
      case hy1 => (intro w' hw'; obtain ⟨c0, c1⟩ := hw'; go_simp; try with_reducible rfl)
      simp only [List.getElem_toArray, List.getElem_cons_zero, List.getElem_cons_succ, Act.put, List.setIfInBounds_toArray, List.set_cons_zero, List.set_cons_succ]
      refine wpAnyH_take (i := 1) (v := ?v2) rfl (by kernel_rfl) (by kernel_rfl) (by kernel_rfl) (fun _ _ _ h => h) (Or.inl ⟨by rfl, ?hy2⟩) hS0 ?_
      case hy2 => (intro w' hw'; obtain ⟨c0, c1⟩ := hw'; go_simp; try with_reducible rfl)
      simp only [List.getElem_toArray, List.getElem_cons_zero, List.getElem_cons_succ, Act.put, List.setIfInBounds_toArray, List.set_cons_zero, List.set_cons_succ]
      refine wpAnyH_take (i := 2) (v := ?v3) rfl (by kernel_rfl) (by kernel_rfl) (by kernel_rfl) (fun _ _ _ h => h) (Or.inl ⟨by rfl, ?hy3⟩) hS0 ?_
      case hy3 => (intro w' hw'; obtain ⟨c0, c1⟩ := hw'; go_simp; try with_reducible rfl)
      simp only [List.getElem_toArray, List.getElem_cons_zero, List.getElem_cons_succ, Act.put, List.setIfInBounds_toArray, List.set_cons_zero, List.set_cons_succ]
      refine wpAnyH_take (i := 4) (v := ?v4) rfl (by kernel_rfl) (by kernel_rfl) (by kernel_rfl) (fun _ _ _ h => h) (Or.inl ⟨by rfl, ?hy4⟩) hS0 ?_
      case hy4 => (intro w' hw'; obtain ⟨c0, c1⟩ := hw'; go_simp; try with_reducible rfl)
      simp only [List.getElem_toArray, List.getElem_cons_zero, List.getElem_cons_succ, Act.put, List.setIfInBounds_toArray, List.set_cons_zero, List.set_cons_succ]
      refine wpAnyH_take (i := 5) (v := ?v5) rfl (by kernel_rfl) (by kernel_rfl) (by kernel_rfl) (fun _ _ _ h => h) (Or.inl ⟨by rfl, ?hy5⟩) hS0 ?_
      case hy5 => (intro w' hw'; obtain ⟨c0, c1⟩ := hw'; go_simp; try with_reducible rfl)
      simp only [List.getElem_toArray, List.getElem_cons_zero, List.getElem_cons_succ, Act.put, List.setIfInBounds_toArray, List.set_cons_zero, List.set_cons_succ]
      refine wpAnyH_take (i := 7) (v := ?v6) rfl (by kernel_rfl) (by kernel_rfl) (by kernel_rfl) (fun _ _ _ h => h) (Or.inl ⟨by rfl, ?hy6⟩) hS0 ?_
      case hy6 => (intro w' hw'; obtain ⟨c0, c1⟩ := hw'; go_simp; try with_reducible rfl)
      simp only [List.getElem_toArray, List.getElem_cons_zero, List.getElem_cons_succ, Act.put, List.setIfInBounds_toArray, List.set_cons_zero, List.set_cons_succ]
      refine wpAnyH_take (i := 8) (v := ?v7) rfl (by kernel_rfl) (by kernel_rfl) (by kernel_rfl) (fun _ _ _ h => h) (Or.inl ⟨by rfl, ?hy7⟩) hS0 ?_
      case hy7 => (intro w' hw'; obtain ⟨c0, c1⟩ := hw'; go_simp; try with_reducible rfl)
      simp only [List.getElem_toArray, List.getElem_cons_zero, List.getElem_cons_succ, Act.put, List.setIfInBounds_toArray, List.set_cons_zero, List.set_cons_succ]
      refine rgn.one (i := 3) _ rfl (by kernel_rfl) (by rfl) ?_
      simp only [List.getElem_toArray, List.getElem_cons_zero, List.getElem_cons_succ, Act.put, List.setIfInBounds_toArray, List.set_cons_zero, List.set_cons_succ]
      refine callW _ _ _ _ rfl Tryz.func141 (by kernel_rfl) (by kernel_rfl) #[.slice aT nT cT, .int .u64 (mid : Int)] (by first | kernel_rfl | (simp only [List.map_toArray, List.map_cons, List.map_nil]; rfl)) ?_
      refine (unhide HW).mono ?_
      rintro e w3 ⟨a2, n2, c2, rfl, g3, b3⟩
      have b3' : Below wr.heap.size wr w3 := ((Below.refl _ _).drew : Below wr.heap.size wr wr.drew).trans b3
      have bx3 := bx.below b3'
      have l3 := wide_len (unhide HG1) g3 (by omega)
      have A1 := hide (unhide HA a2 aB n2 c2 nB cB _ _ w3 g3 ((unhide HG2).below b3') (by omega) l2)
      have hcm := cmpN_iff (1 * 10 ^ (p - 17).toNat * mid * k74) (10 ^ (-(p - 17)).toNat * vR a)
      obtain ⟨cc, hcc⟩ : ∃ cc, cc = cmpN (1 * 10 ^ (p - 17).toNat * mid * k74) (10 ^ (-(p - 17)).toNat * vR a) := ⟨_, rfl⟩
      rw [← hcc] at hcm A1
      have hci := hide (show cc = 1 ↔ ¬ G mid by rw [hcm.2.1, unhide HGG mid]; unfold svG; omega)
      have hcb := hcm.2.2.2.2
      clear hcc hcm
      refine ⟨_, rfl, ⟨bx3.cells.1, bx3.cells.2.1⟩, ?_⟩
      have hS0 : w3.cell? ⟨D, 0, none⟩ = some (.slice aT nT cT) ∧ w3.cell? ⟨D, 1, none⟩ = some (.slice aB nB cB) := ⟨bx3.cells.1, bx3.cells.2.1⟩
      try simp only [List.getElem_toArray, List.getElem_cons_zero, List.getElem_cons_succ, Act.put, List.setIfInBounds_toArray, List.set_cons_zero, List.set_cons_succ]
      refine wpAnyH_take (i := 6) (v := ?v8) rfl (by kernel_rfl) (by kernel_rfl) (by kernel_rfl) (fun _ _ _ h => h) (Or.inl ⟨by rfl, ?hy8⟩) hS0 ?_
      case hy8 => (intro w' hw'; skip; go_simp; try with_reducible rfl)
      simp only [List.getElem_toArray, List.getElem_cons_zero, List.getElem_cons_succ, Act.put, List.setIfInBounds_toArray, List.set_cons_zero, List.set_cons_succ]
      refine rgn.one (i := 9) _ rfl (by kernel_rfl) (by rfl) ?_
      simp only [List.getElem_toArray, List.getElem_cons_zero, List.getElem_cons_succ, Act.put, List.setIfInBounds_toArray, List.set_cons_zero, List.set_cons_succ]
      refine callW _ _ _ _ rfl Tryz.func121 (by kernel_rfl) (by kernel_rfl) #[.agg #[.slice a2 n2 c2, .slice aB nB cB], .int .u64 (M : Int), .int .i64 ((E : Int) - 1074)] (by first | kernel_rfl | (simp only [List.map_toArray, List.map_cons, List.map_nil]; rfl)) ?_
      refine (unhide A1).mono ?_
      rintro e w4 ⟨rfl, b4⟩
      have b4' := b3'.trans (b4.mono b3'.size)
      have bx4 := bx.below b4'
      have I4 := hide (⟨bx4, (unhide HG1).below b4', (unhide HG2).below b4', (unhide HB).trans (b4'.mono (unhide HB).size)⟩ : Box2 w4 D (.slice aT nT cT) (.slice aB nB cB) 160 ∧ Big w4 aT nT cT (1 * 10 ^ (p - 17).toNat) ∧ Big w4 aB nB cB (10 ^ (-(p - 17)).toNat) ∧ Below w.heap.size w w4)
      refine ⟨_, rfl, ⟨bx4.cells.1, bx4.cells.2.1⟩, ?_⟩
      have hS0 : w4.cell? ⟨D, 0, none⟩ = some (.slice aT nT cT) ∧ w4.cell? ⟨D, 1, none⟩ = some (.slice aB nB cB) := ⟨bx4.cells.1, bx4.cells.2.1⟩
      try simp only [List.getElem_toArray, List.getElem_cons_zero, List.getElem_cons_succ, Act.put, List.setIfInBounds_toArray, List.set_cons_zero, List.set_cons_succ]
      refine wpAnyH_take (i := 10) (v := ?v9) rfl (by kernel_rfl) (by kernel_rfl) (by kernel_rfl) (fun _ _ _ h => h) (Or.inl ⟨by rfl, ?hy9⟩) hS0 ?_
      case hy9 => (intro w' hw'; skip; go_simp; try with_reducible rfl)
      simp only [List.getElem_toArray, List.getElem_cons_zero, List.getElem_cons_succ, Act.put, List.setIfInBounds_toArray, List.set_cons_zero, List.set_cons_succ]
      refine wpAnyH_done (by kernel_rfl) ?_ _; refine NoPanic.normal ?_
      clear hS0 b4 b4' bx4 bx3 b3 b3' g3 l3 A1 HW q0 q1 bx HG1 HG2 HB
      by_cases hc : cc = 1
      · have hg := hide ((unhide hci).1 hc)
        have hc0 : ¬ cc ≤ 0 := by omega
        clear hci hc
        go_wp2
        go_roundw
        case rel => exact ⟨x, mid - 1, rfl, by go_num, x0, by omega, by omega, unhide GX, by rw [show mid - 1 + 1 = mid by omega]; exact unhide hg, unhide I4⟩
        case measure => simp [intOf]; omega
      · have hg := hide (show G mid from Classical.byContradiction fun h => hc ((unhide hci).2 h))
        have hc0 : cc ≤ 0 := by omega
        clear hci hc
        go_wp2
        go_roundw
        case rel => exact ⟨mid, y, rfl, rfl, by omega, by omega, y1, unhide hg, unhide GY, unhide I4⟩
        case measure => simp [intOf]; omega
    · have hxi : ¬ (x : Int) < (y : Int) := by omega
      have e : y = x := by omega
      subst e
      clear bx g1 g2
      go_wp2
      go_ret
      exact ⟨_, rfl, x0, y1, unhide GX, unhide GY, unhide HB⟩
theorem seventeen_ok (a : Nat) (p : Int) (w : World) (hai : a < 9218868437227405312) (h1 : pwG a p) (h2 : ¬ pwG a (p - 1)) (hp0 : -330 < p) (hp1 : p ≤ 310) :
    Calls Tryz.prog 117 #[.int .u64 (a : Int), .int .i64 p] w fun e w' => ∃ q : Nat, e = .returned (.int .u64 (q : Int)) ∧ 10000000000000000 ≤ q ∧ q ≤ 99999999999999999 ∧ svG a p q ∧ ¬ svG a p (q + 1) ∧ Below w.heap.size w w' :=
  seventeen_in (svG a p) a p w (fun _ => Iff.rfl) hai h1 h2 hp0 hp1
end Go.Proofs.YtechaplindbfoaaGreatDoor.fto
