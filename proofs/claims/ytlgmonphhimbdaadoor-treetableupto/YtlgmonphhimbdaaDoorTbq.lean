import Derived.Test.YtlgmonphhimbdaaDoorTbp
import Derived.Deep.RegionHeld3
namespace Go.Proofs.YtlgmonphhimbdaaDoor.tab
open Go.ChangeShapes Go.WideShapes Go.ChangeAt Go.RowKit Go.Maps Go.Shelf
set_option linter.unusedVariables false
set_option linter.unusedSimpArgs false
set_option maxRecDepth 6000 in
set_option maxHeartbeats 1000000 in
theorem step1 {w : World} {B : Nat} {X : Nat → Prop} {b : Nat} {M : Option Nat} {rs : List Rw} {nx : Nat} {N : Nat → Prop} {u : Value} {ps : List Pr} (K V : Int) (hK : InR K) (h : Tb w B X b M rs nx) (hR : Rel rs ps) (hL : RL w N u ps) (hN : ∀ j, N j → ¬ X j) (hn : ps.length ≤ 1048576) (hx : nx ≤ 1152921504605798400) (hT : Tw B w) (hB : B ≤ w.heap.size) :
    Calls Tryd.prog 7 #[.pointer (some ⟨b, 0, none⟩), u, .agg #[.int .i64 1, .int .i64 K, .int .i64 V]] w (StPost B X b M nx ps N w) := by
  have hL' := hL
  obtain ⟨a, c, eu, h1⟩ := hL'
  obtain ⟨q, hq⟩ : ∃ q, q = ps.length := ⟨_, rfl⟩
  rw [← hq] at eu
  subst eu
  have ST := hide (fun W (hW : Below w.heap.size w W) => st_same h hR hL hN hW)
  have b1 : Below w.heap.size w (w.alloc (.cells #[.int .i64 1, .int .i64 K, .int .i64 V] 31)) := (Below.refl _ _).alloc (Nat.le_refl _) _
  have NM := hide (fun W (hW : Below w.heap.size w W) => name_ok K hK W (hT W (hW.mono hB)))
  have hs : (nm K).size ≤ maxLen := by have := nm_size K hK; simp only [maxLen]; omega
  have PT := hide (fun W (hW : Below w.heap.size w W) => put_tb (h.below hW) (nm K) V hs (by have := hR.len; omega) (by omega))
  have DH := hide hR.has
  have hqb : q ≤ 1048576 := by omega
  have B1 := hide b1
  have HQ := hide hq
  have H1 := hide h1
  have HR := hide hR
  have HH := hide h
  have HL := hide hL
  have HN := hide hN
  clear h hR h1 hq b1 hT hN hL hn
  go_enter Tryd.func7, Tryd.ntmps7
  obtain ⟨gb, hgb⟩ : ∃ gb, (!hasP ps K) = gb := ⟨_, rfl⟩
  obtain ⟨W1, hW1⟩ : ∃ W1, W1 = w.alloc (.cells #[.int .i64 1, .int .i64 K, .int .i64 V] 31) := ⟨_, rfl⟩
  have s1 : W1.heap.size = w.heap.size + 1 := by rw [hW1]; simp
  have nxw : ¬ X w.heap.size := fun hx => by have := ((unhide HH).lo _ hx).2; omega
  have c1 : W1.cell? ⟨w.heap.size, 1, none⟩ = some (.int .i64 K) := by rw [hW1]; simp
  have c2 : W1.cell? ⟨w.heap.size, 2, none⟩ = some (.int .i64 V) := by rw [hW1]; simp
  have C1 := hide (fun W' (hW : Kx X W1 W') => (hW.cell (p := ⟨w.heap.size, 1, none⟩) (by show w.heap.size < W1.heap.size; omega) nxw).trans c1)
  have C2 := hide (fun W' (hW : Kx X W1 W') => (hW.cell (p := ⟨w.heap.size, 2, none⟩) (by show w.heap.size < W1.heap.size; omega) nxw).trans c2)
  rw [← hW1] at B1
  have E1 := hide hW1
  have S1 := hide s1
  have HG := hide hgb
  clear hW1 c1 c2 hgb s1
  go_wp2_with fail
  rw [← unhide E1]
  refine wp_region_noPanic ?_
  have hS0 : Kx X W1 { W1 with drawn := W1.drawn + 1 } := ⟨rfl, rfl, rfl, Nat.le_refl _, fun _ _ _ => rfl⟩
  refine wp_region_held (S := fun W' => Kx X W1 W') mixed ?_
  refine wpAnyH_take (i := 0) (v := ?v1) rfl (by kernel_rfl) (by kernel_rfl) (by kernel_rfl) (fun _ _ _ h => h) (Or.inl ⟨by rfl, ?hy1⟩) hS0 ?_
  case hy1 => (intro w' hw'; skip; go_simp; try with_reducible rfl)
  simp only [List.getElem_toArray, List.getElem_cons_zero, List.getElem_cons_succ, Act.put, List.setIfInBounds_toArray, List.set_cons_zero, List.set_cons_succ]
  refine wpAnyH_take (i := 1) (v := ?v2) rfl (by kernel_rfl) (by kernel_rfl) (by kernel_rfl) (fun _ _ _ h => h) (Or.inl ⟨by rfl, ?hy2⟩) hS0 ?_
  case hy2 => (intro w' hw'; skip; go_simp; try with_reducible rfl)
  simp only [List.getElem_toArray, List.getElem_cons_zero, List.getElem_cons_succ, Act.put, List.setIfInBounds_toArray, List.set_cons_zero, List.set_cons_succ]
  refine wpAnyH_take (i := 2) (v := ?v3) rfl (by kernel_rfl) (by kernel_rfl) (by kernel_rfl) (fun _ _ _ h => h) (Or.inl ⟨by rfl, ?hy3⟩) hS0 ?_
  case hy3 => (intro w' hw'; have q := unhide C1 w' hw'; go_simp; try with_reducible rfl)
  simp only [List.getElem_toArray, List.getElem_cons_zero, List.getElem_cons_succ, Act.put, List.setIfInBounds_toArray, List.set_cons_zero, List.set_cons_succ]
  refine wpAnyH_take (i := 4) (v := ?v4) rfl (by kernel_rfl) (by kernel_rfl) (by kernel_rfl) (fun _ _ _ h => h) (Or.inl ⟨by rfl, ?hy4⟩) hS0 ?_
  case hy4 => (intro w' hw'; skip; go_simp; try with_reducible rfl)
  simp only [List.getElem_toArray, List.getElem_cons_zero, List.getElem_cons_succ, Act.put, List.setIfInBounds_toArray, List.set_cons_zero, List.set_cons_succ]
  refine wpAnyH_take (i := 5) (v := ?v5) rfl (by kernel_rfl) (by kernel_rfl) (by kernel_rfl) (fun _ _ _ h => h) (Or.inl ⟨by rfl, ?hy5⟩) hS0 ?_
  case hy5 => (intro w' hw'; have q := unhide C2 w' hw'; go_simp; try with_reducible rfl)
  simp only [List.getElem_toArray, List.getElem_cons_zero, List.getElem_cons_succ, Act.put, List.setIfInBounds_toArray, List.set_cons_zero, List.set_cons_succ]
  refine rgn.one (i := 3) _ rfl (by kernel_rfl) (by rfl) ?_
  refine callW _ _ _ _ rfl Tryd.func12 (by kernel_rfl) (by kernel_rfl) #[.int .i64 K] (by first | kernel_rfl | (simp only [List.map_toArray, List.map_cons, List.map_nil]; rfl)) ?_
  have bD : Below w.heap.size w { W1 with drawn := W1.drawn + 1 } := (unhide B1).trans ⟨rfl, rfl, rfl, Nat.le_refl _, fun _ _ => rfl⟩
  refine (unhide NM _ bD).mono ?_
  rintro e W2 ⟨rfl, b2⟩
  have b2 : Below W1.heap.size W1 W2 := ⟨b2.os, b2.tape, b2.output, b2.size, b2.block⟩
  have b2' : Below w.heap.size w W2 := (unhide B1).trans (b2.mono (unhide B1).size)
  have k2 : Kx X W1 W2 := Kx.of_below b2
  refine ⟨_, rfl, k2, ?_⟩
  have hS0 := k2
  simp only [List.getElem_toArray, List.getElem_cons_zero, List.getElem_cons_succ, Act.put, List.setIfInBounds_toArray, List.set_cons_zero, List.set_cons_succ]
  refine rgn.one (i := 6) _ rfl (by kernel_rfl) (by rfl) ?_
  refine callW _ _ _ _ rfl Tryd.func5 (by kernel_rfl) (by kernel_rfl) #[.pointer (some ⟨b, 0, none⟩), .string (nm K), .int .i64 V] (by first | kernel_rfl | (simp only [List.map_toArray, List.map_cons, List.map_nil]; rfl)) ?_
  refine (unhide PT W2 b2').mono ?_
  rintro e W3 ⟨he, X', M', t3, x1, x2, k3, m3⟩
  rw [unhide DH K, unhide HG] at he
  subst he
  have k13 : Kx X W1 W3 := k2.trans k3 (fun j hj => .inl hj)
  refine ⟨_, rfl, k13, ?_⟩
  have hS0 := k13
  simp only [List.getElem_toArray, List.getElem_cons_zero, List.getElem_cons_succ, Act.put, List.setIfInBounds_toArray, List.set_cons_zero, List.set_cons_succ]
  refine wpAnyH_take (i := 7) (v := ?v6) rfl (by kernel_rfl) (by kernel_rfl) (by kernel_rfl) (fun _ _ _ h => h) (Or.inl ⟨by rfl, ?hy6⟩) hS0 ?_
  case hy6 => (intro w' hw'; skip; go_simp; try with_reducible rfl)
  simp only [List.getElem_toArray, List.getElem_cons_zero, List.getElem_cons_succ, Act.put, List.setIfInBounds_toArray, List.set_cons_zero, List.set_cons_succ]
  refine wpAnyH_done (by kernel_rfl) ?_ _; refine NoPanic.normal ?_
  have o3 := unhide C1 W3 k13
  have p3 := unhide C2 W3 k13
  have RP := hide (rput_ok W3 N _ ps K V (((unhide HL).below b2').move k3.size (fun j h1 h2 => k3.block j h1 (unhide HN j h2))) (by have := unhide HQ; omega))
  have T3 := hide t3
  have K3 := hide k3
  have X2 := hide x2
  have B2 := hide b2'
  clear t3 k3 x1 x2 m3 b2 b2' k2 k13 hS0 bD C1 C2 NM PT
  go_wp2_with fail
  refine (unhide RP).mono ?_
  rintro e W4 ⟨v', he, rl4, b4⟩
  rw [unhide HG] at he
  subst he
  obtain ⟨av, nv, cv, rfl⟩ := rl4.shape
  have R4 := hide rl4
  have B4 := hide b4
  clear rl4 b4 RP o3 p3
  cases gb <;> go_wp2
  all_goals go_ret2
  all_goals (
    have k3 := unhide K3
    have b4 := unhide B4
    have b2 := unhide B2
    have s3 := k3.size
    have s4 := b4.size
    have s2 := b2.size
    refine ⟨_, X', M', _, _, putP ps K V, rfl, (unhide T3).below b4, (unhide HR).put nx K V hK, (unhide R4).mono (fun j _ hj => ⟨fun hl => by omega, fun hx' => by have := ((unhide T3).lo j hx').2; omega⟩), put_len ps K V, by have := nxR_le rs nx (nm K); omega, fun j hj => (unhide X2 j hj).imp id (fun h => by omega), ((Kx.of_below b2).trans k3 (fun j hj => .inl hj)).trans (Kx.of_below (X := X) b4) (fun j hj => .inl hj)⟩)
set_option maxRecDepth 6000 in
set_option maxHeartbeats 1000000 in
theorem step5b {w : World} {B : Nat} {X : Nat → Prop} {b : Nat} {M : Option Nat} {rs : List Rw} {nx : Nat} {N : Nat → Prop} {u : Value} {ps : List Pr} (K V : Int) (hK : InR K) (h : Tb w B X b M rs nx) (hR : Rel rs ps) (hL : RL w N u ps) (hN : ∀ j, N j → ¬ X j) (hn : ps.length ≤ 1048576) (hx : nx ≤ 1152921504605798400) (hT : Tw B w) (hB : B ≤ w.heap.size) (hko : K < 0 ∨ (ps.length : Int) ≤ K) :
    Calls Tryd.prog 7 #[.pointer (some ⟨b, 0, none⟩), u, .agg #[.int .i64 5, .int .i64 K, .int .i64 V]] w (StPost B X b M nx ps N w) := by
  have hL' := hL
  obtain ⟨a, c, eu, h1⟩ := hL'
  obtain ⟨q, hq⟩ : ∃ q, q = ps.length := ⟨_, rfl⟩
  rw [← hq] at eu
  subst eu
  have ST := hide (fun W (hW : Below w.heap.size w W) => st_same h hR hL hN hW)
  have b1 : Below w.heap.size w (w.alloc (.cells #[.int .i64 5, .int .i64 K, .int .i64 V] 31)) := (Below.refl _ _).alloc (Nat.le_refl _) _
  have AO := hide (fun W (hW : Below w.heap.size w W) => at_out (h.below hW) (by have := hR.len; omega) K (by have := hR.len; omega))
  have hqb : q ≤ 1048576 := by omega
  have B1 := hide b1
  have HQ := hide hq
  have H1 := hide h1
  have HR := hide hR
  have HH := hide h
  have HL := hide hL
  have HN := hide hN
  clear h hR h1 hq b1 hT hN hL hn
  go_enter Tryd.func7, Tryd.ntmps7
  have o1 : (w.alloc (.cells #[.int .i64 5, .int .i64 K, .int .i64 V] 31)).cell? ⟨w.heap.size, 1, none⟩ = some (.int .i64 K) := by simp
  have hq' := unhide HQ
  rw [← hq'] at hko
  clear hq'
  go_wp2_with fail
  refine (unhide AO _ (unhide B1)).mono ?_
  rintro e w2 ⟨rfl, b2⟩
  have o2 := (b2.cell (p := ⟨w.heap.size, 1, none⟩) (by simp)).trans o1
  have B2 := hide ((unhide B1).trans (b2.mono (unhide B1).size))
  clear o1 b2 AO
  by_cases h0 : K < 0
  · clear hko
    go_wp2
    go_ret2
    exact unhide ST _ (unhide B2)
  · have h3 : (q : Int) ≤ K := by omega
    have h4 : (0 : Int) ≤ K := by omega
    clear hko
    go_wp2
    go_ret2
    exact unhide ST _ (unhide B2)
end Go.Proofs.YtlgmonphhimbdaaDoor.tab
