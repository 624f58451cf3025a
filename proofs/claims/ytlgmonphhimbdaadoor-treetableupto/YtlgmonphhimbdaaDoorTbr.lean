import Derived.Test.YtlgmonphhimbdaaDoorTbq
import Derived.Deep.RegionHeld3
namespace Go.Proofs.YtlgmonphhimbdaaDoor.tab
open Go.ChangeShapes Go.WideShapes Go.ChangeAt Go.RowKit Go.Maps Go.Shelf
set_option linter.unusedVariables false
set_option linter.unusedSimpArgs false
set_option maxRecDepth 6000 in
set_option maxHeartbeats 1000000 in
theorem step5a {w : World} {B : Nat} {X : Nat → Prop} {b : Nat} {M : Option Nat} {rs : List Rw} {nx : Nat} {N : Nat → Prop} {u : Value} {ps : List Pr} (K V : Int) (hK : InR K) (h : Tb w B X b M rs nx) (hR : Rel rs ps) (hL : RL w N u ps) (hN : ∀ j, N j → ¬ X j) (hn : ps.length ≤ 1048576) (hx : nx ≤ 1152921504605798400) (hT : Tw B w) (hB : B ≤ w.heap.size) {i : Nat} {px py : Int} (hi : K = (i : Int)) (hp : ps[i]? = some (px, py)) :
    Calls Tryd.prog 7 #[.pointer (some ⟨b, 0, none⟩), u, .agg #[.int .i64 5, .int .i64 K, .int .i64 V]] w (StPost B X b M nx ps N w) := by
  have hL' := hL
  obtain ⟨a, c, eu, h1⟩ := hL'
  obtain ⟨q, hq⟩ : ∃ q, q = ps.length := ⟨_, rfl⟩
  rw [← hq] at eu
  subst eu
  have ST := hide (fun W (hW : Below w.heap.size w W) => st_same h hR hL hN hW)
  have b1 : Below w.heap.size w (w.alloc (.cells #[.int .i64 5, .int .i64 K, .int .i64 V] 31)) := (Below.refl _ _).alloc (Nat.le_refl _) _
  have NM := hide (fun W (hW : Below w.heap.size w W) => name_ok px (hR.rng _ (List.mem_of_getElem? hp)) W (hT W (hW.mono hB)))
  have AT := hide (fun W (hW : Below w.heap.size w W) (sx : Int) (hsx : rs[i]? = some (sx, nm px, py)) => at_tb (h.below hW) (by have := hR.len; omega) i (sx, nm px, py) hsx)
  obtain ⟨sx, hsx⟩ := hR.get hp
  have AT := hide (fun W (hW : Below w.heap.size w W) => unhide AT W hW sx hsx)
  have hqb : q ≤ 1048576 := by omega
  have B1 := hide b1
  have HQ := hide hq
  have H1 := hide h1
  have HR := hide hR
  have HH := hide h
  have HL := hide hL
  have HN := hide hN
  clear h hR h1 hq b1 hT hN hL hn
  go_enter Tryd.func7, Tryd.ntmps7
  have hlt : i < q := by have := (List.getElem?_eq_some_iff.1 hp).1; have := unhide HQ; omega
  rcases unhide H1 with h0 | ⟨g, rfl, hg, hNg, hr⟩
  · rw [h0] at hp; cases hp
  obtain ⟨z0, z1⟩ := rl_cells hr hp
  subst hi
  obtain ⟨S, hS⟩ : ∃ S, S = nm px := ⟨_, rfl⟩
  simp only at AT
  rw [← hS] at NM AT
  have ki : (i : Int) < (q : Int) := by omega
  have kn : ¬ (i : Int) < 0 := by omega
  obtain ⟨W1, hW1⟩ : ∃ W1, W1 = w.alloc (.cells #[.int .i64 5, .int .i64 (i : Int), .int .i64 V] 31) := ⟨_, rfl⟩
  have s1 : W1.heap.size = w.heap.size + 1 := by rw [hW1]; simp
  have c1 : W1.cell? ⟨w.heap.size, 1, none⟩ = some (.int .i64 (i : Int)) := by rw [hW1]; simp
  have c1' := c1
  rw [hW1] at c1'
  rw [← hW1] at B1
  have E1 := hide hW1
  have HS := hide hS
  have HP := hide hp
  have S1 := hide s1
  have AT1 := hide (unhide AT W1 (unhide B1))
  rw [hW1] at AT1
  clear hW1 hS hp hr hsx s1 AT
  go_wp2_with fail
  refine (unhide AT1).mono ?_
  rw [← unhide E1]
  rintro e W2 ⟨rfl, b2⟩
  have b2' := (unhide B1).trans (b2.mono (unhide B1).size)
  have sw1 := unhide S1
  have c2 := (b2.cell (p := ⟨w.heap.size, 1, none⟩) (by show w.heap.size < W1.heap.size; omega)).trans c1
  have C1 := hide (fun W' (hW : Below W2.heap.size W2 W') => (hW.cell (p := ⟨w.heap.size, 1, none⟩) (by show w.heap.size < W2.heap.size; have := b2.size; omega)).trans c2)
  have Z0 := hide (fun W' (hW : Below W2.heap.size W2 W') => ((b2'.trans (hW.mono b2'.size)).cell (p := ⟨g, i * 2, none⟩) hg).trans z0)
  have Z1 := hide (fun W' (hW : Below W2.heap.size W2 W') => ((b2'.trans (hW.mono b2'.size)).cell (p := ⟨g, i * 2 + 1, none⟩) hg).trans z1)
  have B2 := hide b2'
  clear c1 c1' z0 z1 b2 b2' AT1 sw1
  go_wp2_with fail
  refine wp_region_noPanic ?_
  have hS0 : Below W2.heap.size W2 { W2 with drawn := W2.drawn + 1 } := ⟨rfl, rfl, rfl, Nat.le_refl _, fun _ _ => rfl⟩
  refine wp_region_held (S := fun W' => Below W2.heap.size W2 W') mixed ?_
  refine wpAnyH_take (i := 0) (v := ?v1) rfl (by kernel_rfl) (by kernel_rfl) (by kernel_rfl) (fun _ _ _ h => h) (Or.inl ⟨by rfl, ?hy1⟩) hS0 ?_
  case hy1 => (intro w' hw'; skip; go_simp; try with_reducible rfl)
  simp only [List.getElem_toArray, List.getElem_cons_zero, List.getElem_cons_succ, Act.put, List.setIfInBounds_toArray, List.set_cons_zero, List.set_cons_succ]
  refine wpAnyH_take (i := 1) (v := ?v2) rfl (by kernel_rfl) (by kernel_rfl) (by kernel_rfl) (fun _ _ _ h => h) (Or.inl ⟨by rfl, ?hy2⟩) hS0 ?_
  case hy2 => (intro w' hw'; skip; go_simp; try with_reducible rfl)
  simp only [List.getElem_toArray, List.getElem_cons_zero, List.getElem_cons_succ, Act.put, List.setIfInBounds_toArray, List.set_cons_zero, List.set_cons_succ]
  refine wpAnyH_take (i := 2) (v := ?v3) rfl (by kernel_rfl) (by kernel_rfl) (by kernel_rfl) (fun _ _ _ h => h) (Or.inl ⟨by rfl, ?hy3⟩) hS0 ?_
  case hy3 => (intro w' hw'; skip; go_simp; try with_reducible rfl)
  simp only [List.getElem_toArray, List.getElem_cons_zero, List.getElem_cons_succ, Act.put, List.setIfInBounds_toArray, List.set_cons_zero, List.set_cons_succ]
  refine wpAnyH_take (i := 3) (v := ?v4) rfl (by kernel_rfl) (by kernel_rfl) (by kernel_rfl) (fun _ _ _ h => h) (Or.inl ⟨by rfl, ?hy4⟩) hS0 ?_
  case hy4 => (intro w' hw'; skip; go_simp; try with_reducible rfl)
  simp only [List.getElem_toArray, List.getElem_cons_zero, List.getElem_cons_succ, Act.put, List.setIfInBounds_toArray, List.set_cons_zero, List.set_cons_succ]
  refine wpAnyH_take (i := 4) (v := ?v5) rfl (by kernel_rfl) (by kernel_rfl) (by kernel_rfl) (fun _ _ _ h => h) (Or.inl ⟨by rfl, ?hy5⟩) hS0 ?_
  case hy5 => (intro w' hw'; skip; go_simp; try with_reducible rfl)
  simp only [List.getElem_toArray, List.getElem_cons_zero, List.getElem_cons_succ, Act.put, List.setIfInBounds_toArray, List.set_cons_zero, List.set_cons_succ]
  refine wpAnyH_take (i := 5) (v := ?v6) rfl (by kernel_rfl) (by kernel_rfl) (by kernel_rfl) (fun _ _ _ h => h) (Or.inl ⟨by rfl, ?hy6⟩) hS0 ?_
  case hy6 => (intro w' hw'; skip; go_simp; try with_reducible rfl)
  simp only [List.getElem_toArray, List.getElem_cons_zero, List.getElem_cons_succ, Act.put, List.setIfInBounds_toArray, List.set_cons_zero, List.set_cons_succ]
  refine wpAnyH_take (i := 6) (v := ?v7) rfl (by kernel_rfl) (by kernel_rfl) (by kernel_rfl) (fun _ _ _ h => h) (Or.inl ⟨by rfl, ?hy7⟩) hS0 ?_
  case hy7 => (intro w' hw'; have q := unhide C1 w' hw'; go_simp; try with_reducible rfl)
  simp only [List.getElem_toArray, List.getElem_cons_zero, List.getElem_cons_succ, Act.put, List.setIfInBounds_toArray, List.set_cons_zero, List.set_cons_succ]
  refine wpAnyH_take (i := 7) (v := ?v8) rfl (by kernel_rfl) (by kernel_rfl) (by kernel_rfl) (fun _ _ _ h => h) (Or.inl ⟨by rfl, ?hy8⟩) hS0 ?_
  case hy8 => (intro w' hw'; skip; go_simp; try with_reducible rfl)
  simp only [List.getElem_toArray, List.getElem_cons_zero, List.getElem_cons_succ, Act.put, List.setIfInBounds_toArray, List.set_cons_zero, List.set_cons_succ]
  refine wpAnyH_take (i := 8) (v := ?v9) rfl (by kernel_rfl) (by kernel_rfl) (by kernel_rfl) (fun _ _ _ h => h) (Or.inl ⟨by rfl, ?hy9⟩) hS0 ?_
  case hy9 => (intro w' hw'; skip; go_simp; try with_reducible rfl)
  simp only [List.getElem_toArray, List.getElem_cons_zero, List.getElem_cons_succ, Act.put, List.setIfInBounds_toArray, List.set_cons_zero, List.set_cons_succ]
  refine wpAnyH_take (i := 9) (v := ?v10) rfl (by kernel_rfl) (by kernel_rfl) (by kernel_rfl) (fun _ _ _ h => h) (Or.inl ⟨by rfl, ?hy10⟩) hS0 ?_
  case hy10 => (intro w' hw'; have q := unhide Z0 w' hw'; go_simp; try with_reducible rfl)
  simp only [List.getElem_toArray, List.getElem_cons_zero, List.getElem_cons_succ, Act.put, List.setIfInBounds_toArray, List.set_cons_zero, List.set_cons_succ]
  refine rgn.one (i := 10) _ rfl (by kernel_rfl) (by rfl) ?_
  refine callW _ _ _ _ rfl Tryd.func12 (by kernel_rfl) (by kernel_rfl) #[.int .i64 px] (by first | kernel_rfl | (simp only [List.map_toArray, List.map_cons, List.map_nil]; rfl)) ?_
  have bD : Below w.heap.size w { W2 with drawn := W2.drawn + 1 } := (unhide B2).trans (hS0.mono (unhide B2).size)
  refine (unhide NM _ bD).mono ?_
  rintro e W3 ⟨rfl, b3⟩
  have b3 : Below W2.heap.size W2 W3 := ⟨b3.os, b3.tape, b3.output, b3.size, b3.block⟩
  refine ⟨_, rfl, b3, ?_⟩
  have hS0 := b3
  simp only [List.getElem_toArray, List.getElem_cons_zero, List.getElem_cons_succ, Act.put, List.setIfInBounds_toArray, List.set_cons_zero, List.set_cons_succ]
  refine wpAnyH_take (i := 11) (v := ?v11) rfl (by kernel_rfl) (by kernel_rfl) (by kernel_rfl) (fun _ _ _ h => h) (Or.inl ⟨by rfl, ?hy11⟩) hS0 ?_
  case hy11 => (intro w' hw'; skip; go_simp; try with_reducible rfl)
  simp only [List.getElem_toArray, List.getElem_cons_zero, List.getElem_cons_succ, Act.put, List.setIfInBounds_toArray, List.set_cons_zero, List.set_cons_succ]
  refine wpAnyH_take (i := 12) (v := ?v12) rfl (by kernel_rfl) (by kernel_rfl) (by kernel_rfl) (fun _ _ _ h => h) (Or.inl ⟨by rfl, ?hy12⟩) hS0 ?_
  case hy12 => (intro w' hw'; skip; go_simp; try with_reducible rfl)
  simp only [List.getElem_toArray, List.getElem_cons_zero, List.getElem_cons_succ, Act.put, List.setIfInBounds_toArray, List.set_cons_zero, List.set_cons_succ]
  refine wpAnyH_take (i := 13) (v := ?v13) rfl (by kernel_rfl) (by kernel_rfl) (by kernel_rfl) (fun _ _ _ h => h) (Or.inl ⟨by rfl, ?hy13⟩) hS0 ?_
  case hy13 => (intro w' hw'; skip; go_simp; try with_reducible rfl)
  simp only [List.getElem_toArray, List.getElem_cons_zero, List.getElem_cons_succ, Act.put, List.setIfInBounds_toArray, List.set_cons_zero, List.set_cons_succ]
  refine wpAnyH_take (i := 14) (v := ?v14) rfl (by kernel_rfl) (by kernel_rfl) (by kernel_rfl) (fun _ _ _ h => h) (Or.inl ⟨by rfl, ?hy14⟩) hS0 ?_
  case hy14 => (intro w' hw'; skip; go_simp; try with_reducible rfl)
  simp only [List.getElem_toArray, List.getElem_cons_zero, List.getElem_cons_succ, Act.put, List.setIfInBounds_toArray, List.set_cons_zero, List.set_cons_succ]
  refine wpAnyH_take (i := 15) (v := ?v15) rfl (by kernel_rfl) (by kernel_rfl) (by kernel_rfl) (fun _ _ _ h => h) (Or.inl ⟨by rfl, ?hy15⟩) hS0 ?_
  case hy15 => (intro w' hw'; skip; go_simp; try with_reducible rfl)
  simp only [List.getElem_toArray, List.getElem_cons_zero, List.getElem_cons_succ, Act.put, List.setIfInBounds_toArray, List.set_cons_zero, List.set_cons_succ]
  refine wpAnyH_take (i := 16) (v := ?v16) rfl (by kernel_rfl) (by kernel_rfl) (by kernel_rfl) (fun _ _ _ h => h) (Or.inl ⟨by rfl, ?hy16⟩) hS0 ?_
  case hy16 => (intro w' hw'; skip; go_simp; try with_reducible rfl)
  simp only [List.getElem_toArray, List.getElem_cons_zero, List.getElem_cons_succ, Act.put, List.setIfInBounds_toArray, List.set_cons_zero, List.set_cons_succ]
  refine wpAnyH_take (i := 17) (v := ?v17) rfl (by kernel_rfl) (by kernel_rfl) (by kernel_rfl) (fun _ _ _ h => h) (Or.inl ⟨by rfl, ?hy17⟩) hS0 ?_
  case hy17 => (intro w' hw'; have q := unhide C1 w' hw'; go_simp; try with_reducible rfl)
  simp only [List.getElem_toArray, List.getElem_cons_zero, List.getElem_cons_succ, Act.put, List.setIfInBounds_toArray, List.set_cons_zero, List.set_cons_succ]
  refine wpAnyH_take (i := 18) (v := ?v18) rfl (by kernel_rfl) (by kernel_rfl) (by kernel_rfl) (fun _ _ _ h => h) (Or.inl ⟨by rfl, ?hy18⟩) hS0 ?_
  case hy18 => (intro w' hw'; skip; go_simp; try with_reducible rfl)
  simp only [List.getElem_toArray, List.getElem_cons_zero, List.getElem_cons_succ, Act.put, List.setIfInBounds_toArray, List.set_cons_zero, List.set_cons_succ]
  refine wpAnyH_take (i := 19) (v := ?v19) rfl (by kernel_rfl) (by kernel_rfl) (by kernel_rfl) (fun _ _ _ h => h) (Or.inl ⟨by rfl, ?hy19⟩) hS0 ?_
  case hy19 => (intro w' hw'; skip; go_simp; try with_reducible rfl)
  simp only [List.getElem_toArray, List.getElem_cons_zero, List.getElem_cons_succ, Act.put, List.setIfInBounds_toArray, List.set_cons_zero, List.set_cons_succ]
  refine wpAnyH_take (i := 20) (v := ?v20) rfl (by kernel_rfl) (by kernel_rfl) (by kernel_rfl) (fun _ _ _ h => h) (Or.inl ⟨by rfl, ?hy20⟩) hS0 ?_
  case hy20 => (intro w' hw'; have q := unhide Z1 w' hw'; go_simp; try with_reducible rfl)
  simp only [List.getElem_toArray, List.getElem_cons_zero, List.getElem_cons_succ, Act.put, List.setIfInBounds_toArray, List.set_cons_zero, List.set_cons_succ]
  refine wpAnyH_take (i := 21) (v := ?v21) rfl (by kernel_rfl) (by kernel_rfl) (by kernel_rfl) (fun _ _ _ h => h) (Or.inl ⟨by rfl, ?hy21⟩) hS0 ?_
  case hy21 => (intro w' hw'; skip; go_simp; try with_reducible rfl)
  simp only [List.getElem_toArray, List.getElem_cons_zero, List.getElem_cons_succ, Act.put, List.setIfInBounds_toArray, List.set_cons_zero, List.set_cons_succ]
  refine wpAnyH_take (i := 22) (v := ?v22) rfl (by kernel_rfl) (by kernel_rfl) (by kernel_rfl) (fun _ _ _ h => h) (Or.inl ⟨by rfl, ?hy22⟩) hS0 ?_
  case hy22 => (intro w' hw'; skip; go_simp; try with_reducible rfl)
  simp only [List.getElem_toArray, List.getElem_cons_zero, List.getElem_cons_succ, Act.put, List.setIfInBounds_toArray, List.set_cons_zero, List.set_cons_succ]
  refine wpAnyH_take (i := 23) (v := ?v23) rfl (by kernel_rfl) (by kernel_rfl) (by kernel_rfl) (fun _ _ _ h => h) (Or.inl ⟨by rfl, ?hy23⟩) hS0 ?_
  case hy23 => (intro w' hw'; skip; go_simp; try with_reducible rfl)
  simp only [List.getElem_toArray, List.getElem_cons_zero, List.getElem_cons_succ, Act.put, List.setIfInBounds_toArray, List.set_cons_zero, List.set_cons_succ]
  refine wpAnyH_take (i := 24) (v := ?v24) rfl (by kernel_rfl) (by kernel_rfl) (by kernel_rfl) (fun _ _ _ h => h) (Or.inl ⟨by rfl, ?hy24⟩) hS0 ?_
  case hy24 => (intro w' hw'; skip; go_simp; try with_reducible rfl)
  simp only [List.getElem_toArray, List.getElem_cons_zero, List.getElem_cons_succ, Act.put, List.setIfInBounds_toArray, List.set_cons_zero, List.set_cons_succ]
  refine wpAnyH_done (by kernel_rfl) ?_ _; refine NoPanic.normal ?_
  have B3 := hide ((unhide B2).trans (b3.mono (unhide B2).size))
  clear C1 Z0 Z1 NM hS0 b3 bD
  go_wp2
  go_ret2
  exact unhide ST _ (unhide B3)
/-- a step of the script -/
theorem step_ok {w : World} {B : Nat} {X : Nat → Prop} {b : Nat} {M : Option Nat} {rs : List Rw} {nx : Nat} {N : Nat → Prop} {u : Value} {ps : List Pr} (kd K V : Int) (hK : InR K) (h : Tb w B X b M rs nx) (hR : Rel rs ps) (hL : RL w N u ps) (hN : ∀ j, N j → ¬ X j) (hn : ps.length ≤ 1048576) (hx : nx ≤ 1152921504605798400) (hT : Tw B w) (hB : B ≤ w.heap.size) :
    Calls Tryd.prog 7 #[.pointer (some ⟨b, 0, none⟩), u, .agg #[.int .i64 kd, .int .i64 K, .int .i64 V]] w (StPost B X b M nx ps N w) := by
  by_cases k1 : kd = 1
  · subst k1; exact step1 K V hK h hR hL hN hn hx hT hB
  by_cases k2 : kd = 2
  · subst k2; exact step2 K V hK h hR hL hN hn hx hT hB
  by_cases k3 : kd = 3
  · subst k3; exact step3 K V hK h hR hL hN hn hx hT hB
  by_cases k4 : kd = 4
  · subst k4; exact step4 K V hK h hR hL hN hn hx hT hB
  by_cases k5 : kd = 5
  · subst k5
    by_cases hko : K < 0 ∨ (ps.length : Int) ≤ K
    · exact step5b K V hK h hR hL hN hn hx hT hB hko
    · obtain ⟨i, rfl⟩ : ∃ i : Nat, K = (i : Int) := ⟨K.toNat, by omega⟩
      exact step5a (i : Int) V hK h hR hL hN hn hx hT hB rfl (List.getElem?_eq_getElem (show i < ps.length by omega))
  by_cases k6 : kd = 6
  · subst k6; exact step6 K V hK h hR hL hN hn hx hT hB
  by_cases k7 : kd = 7
  · subst k7; exact step7 K V hK h hR hL hN hn hx hT hB
  by_cases k8 : kd = 8
  · subst k8; exact step8 K V hK h hR hL hN hn hx hT hB
  exact step0 kd K V hK h hR hL hN hn hx hT hB k1 k2 k3 k4 k5 k6 k7 k8
end Go.Proofs.YtlgmonphhimbdaaDoor.tab
