import Derived.Test.YtlgmonphhimbdaaDoorTbo
import Derived.Deep.RegionHeld3
namespace Go.Proofs.YtlgmonphhimbdaaDoor.tab
open Go.ChangeShapes Go.WideShapes Go.ChangeAt Go.RowKit Go.Maps Go.Shelf
set_option linter.unusedVariables false
set_option linter.unusedSimpArgs false
set_option maxRecDepth 6000 in
set_option maxHeartbeats 1000000 in
theorem step2 {w : World} {B : Nat} {X : Nat → Prop} {b : Nat} {M : Option Nat} {rs : List Rw} {nx : Nat} {N : Nat → Prop} {u : Value} {ps : List Pr} (K V : Int) (hK : InR K) (h : Tb w B X b M rs nx) (hR : Rel rs ps) (hL : RL w N u ps) (hN : ∀ j, N j → ¬ X j) (hn : ps.length ≤ 1048576) (hx : nx ≤ 1152921504605798400) (hT : Tw B w) (hB : B ≤ w.heap.size) :
    Calls Tryd.prog 7 #[.pointer (some ⟨b, 0, none⟩), u, .agg #[.int .i64 2, .int .i64 K, .int .i64 V]] w (StPost B X b M nx ps N w) := by
  have hL' := hL
  obtain ⟨a, c, eu, h1⟩ := hL'
  obtain ⟨q, hq⟩ : ∃ q, q = ps.length := ⟨_, rfl⟩
  rw [← hq] at eu
  subst eu
  have ST := hide (fun W (hW : Below w.heap.size w W) => st_same h hR hL hN hW)
  have b1 : Below w.heap.size w (w.alloc (.cells #[.int .i64 2, .int .i64 K, .int .i64 V] 31)) := (Below.refl _ _).alloc (Nat.le_refl _) _
  have NM := hide (fun W (hW : Below w.heap.size w W) => name_ok K hK W (hT W (hW.mono hB)))
  have hs : (nm K).size ≤ maxLen := by have := nm_size K hK; simp only [maxLen]; omega
  have GT := hide (fun W (hW : Below w.heap.size w W) => get_tb (h.below hW) (nm K) hs (by have := hR.len; omega))
  have RG := hide (fun W (hW : Below w.heap.size w W) => rget_ok W N _ ps K (hL.below hW) (by omega))
  rw [hR.gt] at GT
  have hqb : q ≤ 1048576 := by omega
  have B1 := hide b1
  have HQ := hide hq
  have H1 := hide h1
  have HR := hide hR
  have HH := hide h
  have HL := hide hL
  have HN := hide hN
  clear h hR h1 hq b1 hT hN hL hn
  go_enter Tryd.func7, Tryd.ntmps7
  obtain ⟨gv, hgv⟩ : ∃ gv, gv = (getP' ps K).getD 0 := ⟨_, rfl⟩
  obtain ⟨gb, hgb⟩ : ∃ gb, gb = (getP' ps K).isSome := ⟨_, rfl⟩
  rw [← hgv, ← hgb] at GT RG
  clear hgv hgb
  go_wp2_with fail
  refine (unhide NM _ (unhide B1)).mono ?_
  rintro e w2 ⟨rfl, b2⟩
  have b2' := (unhide B1).trans (b2.mono (unhide B1).size)
  have o2 := (b2.cell (p := ⟨w.heap.size, 1, none⟩) (by simp)).trans (show (w.alloc (.cells #[.int .i64 2, .int .i64 K, .int .i64 V] 31)).cell? ⟨w.heap.size, 1, none⟩ = some (.int .i64 K) by simp)
  go_wp2_with fail
  refine (unhide GT w2 b2').mono ?_
  rintro e w3 ⟨rfl, b3⟩
  have s2 : w.heap.size < w2.heap.size := by have := b2.size; simp at this; omega
  have b3' := b2'.trans (b3.mono b2'.size)
  have o3 := (b3.cell (p := ⟨w.heap.size, 1, none⟩) s2).trans o2
  go_wp2_with fail
  refine (unhide RG w3 b3').mono ?_
  rintro e w4 ⟨rfl, b4⟩
  have b4' := hide (b3'.trans (b4.mono b3'.size))
  clear o2 o3 b2 b3 b4 b2' b3' GT RG NM
  cases gb <;> go_wp2
  all_goals go_ret2
  all_goals exact unhide ST _ (unhide b4')
set_option maxRecDepth 6000 in
set_option maxHeartbeats 1000000 in
theorem step3 {w : World} {B : Nat} {X : Nat → Prop} {b : Nat} {M : Option Nat} {rs : List Rw} {nx : Nat} {N : Nat → Prop} {u : Value} {ps : List Pr} (K V : Int) (hK : InR K) (h : Tb w B X b M rs nx) (hR : Rel rs ps) (hL : RL w N u ps) (hN : ∀ j, N j → ¬ X j) (hn : ps.length ≤ 1048576) (hx : nx ≤ 1152921504605798400) (hT : Tw B w) (hB : B ≤ w.heap.size) :
    Calls Tryd.prog 7 #[.pointer (some ⟨b, 0, none⟩), u, .agg #[.int .i64 3, .int .i64 K, .int .i64 V]] w (StPost B X b M nx ps N w) := by
  have hL' := hL
  obtain ⟨a, c, eu, h1⟩ := hL'
  obtain ⟨q, hq⟩ : ∃ q, q = ps.length := ⟨_, rfl⟩
  rw [← hq] at eu
  subst eu
  have ST := hide (fun W (hW : Below w.heap.size w W) => st_same h hR hL hN hW)
  have b1 : Below w.heap.size w (w.alloc (.cells #[.int .i64 3, .int .i64 K, .int .i64 V] 31)) := (Below.refl _ _).alloc (Nat.le_refl _) _
  have NM := hide (fun W (hW : Below w.heap.size w W) => name_ok K hK W (hT W (hW.mono hB)))
  have hs : (nm K).size ≤ maxLen := by have := nm_size K hK; simp only [maxLen]; omega
  have DP := hide (fun W (hW : Below w.heap.size w W) => drop_tb (h.below hW) (nm K) hs (by have := hR.len; omega))
  have DH := hide hR.has
  have hqb : q ≤ 1048576 := by omega
  have B1 := hide b1
  have HQ := hide hq
  have H1 := hide h1
  have HR := hide hR
  have HH := hide h
  have HL := hide hL
  have HN := hide hN
  clear h hR h1 hq b1 hT hN hL hn
  go_enter Tryd.func7, Tryd.ntmps7
  go_wp2_with fail
  refine (unhide NM _ (unhide B1)).mono ?_
  rintro e w2 ⟨rfl, b2⟩
  have b2' := (unhide B1).trans (b2.mono (unhide B1).size)
  have s2 : w.heap.size < w2.heap.size := by have := b2.size; simp at this; omega
  have o2 := (b2.cell (p := ⟨w.heap.size, 1, none⟩) (by simp)).trans (show (w.alloc (.cells #[.int .i64 3, .int .i64 K, .int .i64 V] 31)).cell? ⟨w.heap.size, 1, none⟩ = some (.int .i64 K) by simp)
  obtain ⟨gb, hgb⟩ : ∃ gb, gb = hasP ps K := ⟨_, rfl⟩
  go_wp2_with fail
  refine (unhide DP w2 b2').mono ?_
  rintro e w3 ⟨he, t3, k3⟩
  rw [unhide DH K, ← hgb] at he
  subst he
  have nx2 : ¬ X w.heap.size := fun hx => by have := ((unhide HH).lo _ hx).2; omega
  have o3 := (k3.cell (p := ⟨w.heap.size, 1, none⟩) s2 nx2).trans o2
  have RD := hide (rdrop_ok w3 N _ ps K (((unhide HL).below b2').move k3.size (fun j h1 h2 => k3.block j h1 (unhide HN j h2))) (by have := unhide HQ; omega))
  have T3 := hide t3
  have K3 := hide k3
  have HG := hide hgb
  clear hgb t3 k3 o2 b2
  go_wp2_with fail
  refine (unhide RD).mono ?_
  rintro e w4 ⟨v', he, rl4, b4⟩
  rw [← unhide HG] at he
  subst he
  obtain ⟨av, nv, cv, rfl⟩ := rl4.shape
  have R4 := hide rl4
  have B4 := hide b4
  clear rl4 b4 RD o3
  cases gb <;> go_wp2
  all_goals go_ret2
  all_goals (
    have k3 := unhide K3
    have b4 := unhide B4
    have s3 := k3.size
    have s4 := b4.size
    refine ⟨_, X, M, _, nx, drpP ps K, rfl, (unhide T3).below b4, (unhide HR).drp K, (unhide R4).mono (fun j _ hj => ⟨fun hl => by omega, fun hx => by have := ((unhide T3).lo j hx).2; omega⟩), by have := drp_len ps K; omega, by omega, fun j hj => .inl hj, ((Kx.of_below b2').trans k3 (fun j hj => .inl hj)).trans (Kx.of_below (X := X) b4) (fun j hj => .inl hj)⟩)
end Go.Proofs.YtlgmonphhimbdaaDoor.tab
