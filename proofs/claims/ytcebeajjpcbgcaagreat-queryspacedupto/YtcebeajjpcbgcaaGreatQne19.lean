import Derived.Test.YtcebeajjpcbgcaaGreatQne17
import Derived.Lib.SlBytesConst
set_option linter.unusedVariables false
set_option linter.unusedSimpArgs false
namespace Go.Proofs.YtcebeajjpcbgcaaGreat.cu
open Go.ChangeShapes Go.WideShapes Go.ChangeAt Go.RowKit
open ints (hide unhide)
open dt (Dt Kp RowAt Ow Grow OwIn)
open mem (Row)
open lx (toks chs cln)
set_option maxHeartbeats 8000000 in
set_option maxRecDepth 4000 in
theorem same_f : ∀ (f : Nat) (d e : Dt), EqL false f d e → SmAt false d e
 | 0, d, e, h => h.elim
 | f + 1, d, e, h => by
  obtain ⟨k, tx, bl, its, its', fls, fls', ln, co, ln', co', rfl, rfl, hpl, hil, hfl, hI, hF⟩ := h
  intro w cs ds F G how how' hFw hGw
  obtain ⟨ai, n1, ci, af, n2, cf, rfl, hn1, hn2, l1, l2, l3, l4, hit, hft⟩ := lit_cells how
  obtain ⟨ai', n1', ci', af', n2', cf', rfl, hn1', hn2', l1', l2', l3', l4', hit', hft'⟩ := lit_cells how'
  obtain rfl : n1 = n1' := by omega
  obtain rfl : n2 = n2' := by omega
  have Hn := hide (And.intro (And.intro hn1 hn1') (And.intro hn2 hn2'))
  clear hn1 hn1' hn2 hn2' hil hfl
  have ih := hide (fun d e hd => same_f f d e hd)
  have HI := hide hI
  have HFl := hide hF
  have Hit := hide hit
  have Hft := hide hft
  have Hit' := hide hit'
  have Hft' := hide hft'
  have HW := hide hFw
  have HW' := hide hGw
  clear hI hF hit hft hit' hft' hFw hGw how how'
  unfold maxLen at l3 l4 l3' l4'
  obtain ⟨vc, hvc⟩ : ∃ vc : Array Value, vc = #[.int .i64 k, .string tx, .bool bl, .slice ai n1 ci, .slice af n2 cf, .int .i64 ln, .int .i64 co] := ⟨_, rfl⟩
  obtain ⟨uc, huc⟩ : ∃ uc : Array Value, uc = #[.int .i64 k, .string tx, .bool bl, .slice ai' n1 ci', .slice af' n2 cf', .int .i64 ln', .int .i64 co'] := ⟨_, rfl⟩
  go_enter Tryz.func34, Tryz.ntmps34
  go_wp2_with fail
  obtain ⟨w0, hw0⟩ : ∃ w0, w0 = (w.alloc (.cells #[.int .i64 k, .string tx, .bool bl, .slice ai n1 ci, .slice af n2 cf, .int .i64 ln, .int .i64 co] 70)).alloc (.cells #[.int .i64 k, .string tx, .bool bl, .slice ai' n1 ci', .slice af' n2 cf', .int .i64 ln', .int .i64 co'] 70) := ⟨_, rfl⟩
  have HV0 := hide (show SmI w w0 vc uc from by
   rw [hw0, hvc, huc]
   refine ⟨((Below.refl _ _).alloc (Nat.le_refl _) _).alloc (by simp) _, (Below.heap_alloc _ _ w.heap.size (by simp)).trans (heap_alloc_new w _), ?_⟩
   have := heap_alloc_new (w.alloc (.cells #[.int .i64 k, .string tx, .bool bl, .slice ai n1 ci, .slice af n2 cf, .int .i64 ln, .int .i64 co] 70)) (.cells #[.int .i64 k, .string tx, .bool bl, .slice ai' n1 ci', .slice af' n2 cf', .int .i64 ln', .int .i64 co'] 70)
   simpa using this)
  rw [← hw0]
  clear hw0
  go_loopw [7] (fun i wr => ∃ j : Nat, j ≤ n1 ∧ i = .int .i64 j ∧ SmI w wr vc uc) (fun i _ => n1 - (intOf i).toNat)
  case atStart => exact ⟨0, Nat.zero_le _, rfl, unhide HV0⟩
  case round =>
   obtain ⟨j, hj, rfl, hI⟩ := hrel
   have d3 : wr.cell? ⟨w.heap.size, 3, none⟩ = some (.slice ai n1 ci) := (dt.cell_cells hI.v 3).trans (by rw [hvc]; rfl)
   have u3 : wr.cell? ⟨w.heap.size + 1, 3, none⟩ = some (.slice ai' n1 ci') := (dt.cell_cells hI.u 3).trans (by rw [huc]; rfl)
   by_cases hlt : j < n1
   ·have ji : (j : Int) < (n1 : Int) := by omega
    have hlt1 : j < its.length := by have := unhide Hn; omega
    have hlt2 : j < its'.length := by have := unhide Hn; omega
    obtain ⟨p, ds, G1, rfl, hpF, hrow, hdl, hod, hGF⟩ := (unhide Hit) j _ (List.getElem?_eq_getElem hlt1)
    obtain ⟨p', ds', G2, rfl, hpF', hrow', hdl', hod', hGF'⟩ := (unhide Hit') j _ (List.getElem?_eq_getElem hlt2)
    have heq := (unhide HI) j _ _ (List.getElem?_eq_getElem hlt1) (List.getElem?_eq_getElem hlt2)
    obtain ⟨e1, he1⟩ : ∃ e, e = its[j] := ⟨_, rfl⟩
    obtain ⟨e2, he2⟩ : ∃ e, e = its'[j] := ⟨_, rfl⟩
    rw [← he1, ← he2] at heq
    rw [← he1] at hod
    rw [← he2] at hod'
    clear he1 he2
    have hshp : LShape ds ∧ LShape ds' := by
     obtain ⟨_, _, _, _, _, _, _, h1⟩ := heq.left
     obtain ⟨_, _, _, _, _, _, _, h2⟩ := heq.right
     rw [h1] at hod
     rw [h2] at hod'
     exact ⟨lit_shape hod, lit_shape hod'⟩
    obtain ⟨⟨k1, tx1, bl1, ai1, ni1, ci1, af1, nf1, cf1, ln1, co1, rfl⟩, ⟨k2, tx2, bl2, ai2, ni2, ci2, af2, nf2, cf2, ln2, co2, rfl⟩⟩ := hshp
    have hov := hod
    have hov' := hod'
    have hplt := (unhide HW) p hpF
    have hplt' := (unhide HW') p' hpF'
    have hr := fun (q : Nat) (u : Value) hu => (hI.bel.cell (p := ⟨p, j * 7 + q, none⟩) hplt).trans (hrow q u hu)
    have hr' := fun (q : Nat) (u : Value) hu => (hI.bel.cell (p := ⟨p', j * 7 + q, none⟩) hplt').trans (hrow' q u hu)
    have m0 : wr.cell? ⟨p, j * 7, none⟩ = some (.int .i64 k1) := hr 0 _ rfl
    have m1 : wr.cell? ⟨p, j * 7 + 1, none⟩ = some (.string tx1) := hr 1 _ rfl
    have m2 : wr.cell? ⟨p, j * 7 + 2, none⟩ = some (.bool bl1) := hr 2 _ rfl
    have m3 : wr.cell? ⟨p, j * 7 + 3, none⟩ = some (.slice ai1 ni1 ci1) := hr 3 _ rfl
    have m4 : wr.cell? ⟨p, j * 7 + 4, none⟩ = some (.slice af1 nf1 cf1) := hr 4 _ rfl
    have m5 : wr.cell? ⟨p, j * 7 + 5, none⟩ = some (.int .i64 ln1) := hr 5 _ rfl
    have m6 : wr.cell? ⟨p, j * 7 + 6, none⟩ = some (.int .i64 co1) := hr 6 _ rfl
    have n0 : wr.cell? ⟨p', j * 7, none⟩ = some (.int .i64 k2) := hr' 0 _ rfl
    have n1 : wr.cell? ⟨p', j * 7 + 1, none⟩ = some (.string tx2) := hr' 1 _ rfl
    have n2 : wr.cell? ⟨p', j * 7 + 2, none⟩ = some (.bool bl2) := hr' 2 _ rfl
    have n3 : wr.cell? ⟨p', j * 7 + 3, none⟩ = some (.slice ai2 ni2 ci2) := hr' 3 _ rfl
    have n4 : wr.cell? ⟨p', j * 7 + 4, none⟩ = some (.slice af2 nf2 cf2) := hr' 4 _ rfl
    have n5 : wr.cell? ⟨p', j * 7 + 5, none⟩ = some (.int .i64 ln2) := hr' 5 _ rfl
    have n6 : wr.cell? ⟨p', j * 7 + 6, none⟩ = some (.int .i64 co2) := hr' 6 _ rfl
    have hC := hide (fun W (hb : Below w.heap.size w W) => (unhide ih) e1 e2 heq W [Value.int .i64 k1, .string tx1, .bool bl1, .slice ai1 ni1 ci1, .slice af1 nf1 cf1, .int .i64 ln1, .int .i64 co1] [Value.int .i64 k2, .string tx2, .bool bl2, .slice ai2 ni2 ci2, .slice af2 nf2 cf2, .int .i64 ln2, .int .i64 co2] G1 G2 (dt.Ow.agree e1 _ G1 (fun b hb' o => hb.cell (p := ⟨b, o, none⟩) ((unhide HW) b (hGF b hb'))) hov) (dt.Ow.agree e2 _ G2 (fun b hb' o => hb.cell (p := ⟨b, o, none⟩) ((unhide HW') b (hGF' b hb'))) hov') (fun b hb' => Nat.lt_of_lt_of_le ((unhide HW) b (hGF b hb')) hb.size) (fun b hb' => Nat.lt_of_lt_of_le ((unhide HW') b (hGF' b hb')) hb.size))
    have hs0 : w.heap.size < wr.heap.size := by
     rcases Nat.lt_or_ge w.heap.size wr.heap.size with g | g
     ·exact g
     ·have := hI.v; rw [Array.getElem?_eq_none g] at this; cases this
    have hs1 : w.heap.size + 1 < wr.heap.size := by
     rcases Nat.lt_or_ge (w.heap.size + 1) wr.heap.size with g | g
     ·exact g
     ·have := hI.u; rw [Array.getElem?_eq_none g] at this; cases this
    have hq1 : p < wr.heap.size := by omega
    have hq2 : p' < wr.heap.size := by omega
    clear hr hr' hrow hrow' hov hov' heq hdl hdl'
    go_wp2_with fail
    have hS0 : Below wr.heap.size wr { wr with drawn := wr.drawn + 1 } := (Below.refl _ _).drew
    have bD := hI.bel.trans (hS0.mono hI.bel.size)
    refine wp_region_noPanic ?_
    refine wp_region_held (S := fun w' => Below wr.heap.size wr w') mixed ?_
    refine rgn.tl (i := 0) (v := ?v1) rfl (by kernel_rfl) (fun _ _ _ h => h) (by rfl) ?hy1 hS0 ?_
    case hy1 => (intro w' hw'; go_simp; try with_reducible rfl)
    simp only [rgn.l1, rgn.l2, rgn.l3, Act.put, rgn.l4, rgn.l5, rgn.l6]
    refine rgn.tl (i := 1) (v := ?v2) rfl (by kernel_rfl) (fun _ _ _ h => h) (by rfl) ?hy2 hS0 ?_
    case hy2 => (intro w' hw'; have d3' := (hw'.cell (p := ⟨w.heap.size, 3, none⟩) hs0).trans d3; go_simp; try with_reducible rfl)
    simp only [rgn.l1, rgn.l2, rgn.l3, Act.put, rgn.l4, rgn.l5, rgn.l6]
    refine rgn.tl (i := 2) (v := ?v3) rfl (by kernel_rfl) (fun _ _ _ h => h) (by rfl) ?hy3 hS0 ?_
    case hy3 => (intro w' hw'; go_simp; try with_reducible rfl)
    simp only [rgn.l1, rgn.l2, rgn.l3, Act.put, rgn.l4, rgn.l5, rgn.l6]
    refine rgn.tl (i := 3) (v := ?v4) rfl (by kernel_rfl) (fun _ _ _ h => h) (by rfl) ?hy4 hS0 ?_
    case hy4 => (intro w' hw'; go_simp; try with_reducible rfl)
    simp only [rgn.l1, rgn.l2, rgn.l3, Act.put, rgn.l4, rgn.l5, rgn.l6]
    refine rgn.tl (i := 4) (v := ?v5) rfl (by kernel_rfl) (fun _ _ _ h => h) (by rfl) ?hy5 hS0 ?_
    case hy5 => (intro w' hw'; have m0' := (hw'.cell (p := ⟨p, j * 7, none⟩) hq1).trans m0; have m1' := (hw'.cell (p := ⟨p, j * 7 + 1, none⟩) hq1).trans m1; have m2' := (hw'.cell (p := ⟨p, j * 7 + 2, none⟩) hq1).trans m2; have m3' := (hw'.cell (p := ⟨p, j * 7 + 3, none⟩) hq1).trans m3; have m4' := (hw'.cell (p := ⟨p, j * 7 + 4, none⟩) hq1).trans m4; have m5' := (hw'.cell (p := ⟨p, j * 7 + 5, none⟩) hq1).trans m5; have m6' := (hw'.cell (p := ⟨p, j * 7 + 6, none⟩) hq1).trans m6; go_simp; try with_reducible rfl)
    simp only [rgn.l1, rgn.l2, rgn.l3, Act.put, rgn.l4, rgn.l5, rgn.l6]
    refine rgn.tl (i := 5) (v := ?v6) rfl (by kernel_rfl) (fun _ _ _ h => h) (by rfl) ?hy6 hS0 ?_
    case hy6 => (intro w' hw'; go_simp; try with_reducible rfl)
    simp only [rgn.l1, rgn.l2, rgn.l3, Act.put, rgn.l4, rgn.l5, rgn.l6]
    refine rgn.tl (i := 6) (v := ?v7) rfl (by kernel_rfl) (fun _ _ _ h => h) (by rfl) ?hy7 hS0 ?_
    case hy7 => (intro w' hw'; have u3' := (hw'.cell (p := ⟨w.heap.size + 1, 3, none⟩) hs1).trans u3; go_simp; try with_reducible rfl)
    simp only [rgn.l1, rgn.l2, rgn.l3, Act.put, rgn.l4, rgn.l5, rgn.l6]
    refine rgn.tl (i := 7) (v := ?v8) rfl (by kernel_rfl) (fun _ _ _ h => h) (by rfl) ?hy8 hS0 ?_
    case hy8 => (intro w' hw'; go_simp; try with_reducible rfl)
    simp only [rgn.l1, rgn.l2, rgn.l3, Act.put, rgn.l4, rgn.l5, rgn.l6]
    refine rgn.tl (i := 8) (v := ?v9) rfl (by kernel_rfl) (fun _ _ _ h => h) (by rfl) ?hy9 hS0 ?_
    case hy9 => (intro w' hw'; go_simp; try with_reducible rfl)
    simp only [rgn.l1, rgn.l2, rgn.l3, Act.put, rgn.l4, rgn.l5, rgn.l6]
    refine rgn.tl (i := 9) (v := ?v10) rfl (by kernel_rfl) (fun _ _ _ h => h) (by rfl) ?hy10 hS0 ?_
    case hy10 => (intro w' hw'; have n0' := (hw'.cell (p := ⟨p', j * 7, none⟩) hq2).trans n0; have n1' := (hw'.cell (p := ⟨p', j * 7 + 1, none⟩) hq2).trans n1; have n2' := (hw'.cell (p := ⟨p', j * 7 + 2, none⟩) hq2).trans n2; have n3' := (hw'.cell (p := ⟨p', j * 7 + 3, none⟩) hq2).trans n3; have n4' := (hw'.cell (p := ⟨p', j * 7 + 4, none⟩) hq2).trans n4; have n5' := (hw'.cell (p := ⟨p', j * 7 + 5, none⟩) hq2).trans n5; have n6' := (hw'.cell (p := ⟨p', j * 7 + 6, none⟩) hq2).trans n6; go_simp; try with_reducible rfl)
    simp only [rgn.l1, rgn.l2, rgn.l3, Act.put, rgn.l4, rgn.l5, rgn.l6]
    refine rgn.tl (i := 10) (v := ?v11) rfl (by kernel_rfl) (fun _ _ _ h => h) (by rfl) ?hy11 hS0 ?_
    case hy11 => (intro w' hw'; go_simp; try with_reducible rfl)
    simp only [rgn.l1, rgn.l2, rgn.l3, Act.put, rgn.l4, rgn.l5, rgn.l6]
    refine rgn.one (i := 11) _ rfl (by kernel_rfl) (by rfl) ?_
    simp only [rgn.l1, rgn.l2, rgn.l3, Act.put, rgn.l4, rgn.l5, rgn.l6]
    go_wp2_with fail
    refine ((unhide hC) _ bD).mono ?_
    rintro e' w2 ⟨rfl, b2⟩
    have b02 : Below wr.heap.size wr w2 := hS0.trans b2
    refine ⟨b02, ?_⟩
    clear hS0 b2 bD
    have hS0 := b02
    try simp only [rgn.l1, rgn.l2, rgn.l3, Act.put, rgn.l4, rgn.l5, rgn.l6]
    refine rgn.take (i := 12) _ (.bool true) rfl (by kernel_rfl) (by kernel_rfl) (by kernel_rfl) (fun _ _ _ h => h) (by rfl) hS0 (fun w' hw' => by go_simp) ?_
    simp only [rgn.l1, rgn.l2, rgn.l3, Act.put, rgn.l4, rgn.l5, rgn.l6]
    refine wpAnyH_done (by kernel_rfl) ?_ _; refine NoPanic.normal ?_
    have hI2 := hI.more b02
    clear m0 m1 m2 m3 m4 m5 m6 n0 n1 n2 n3 n4 n5 n6 d3 u3 hC hS0
    go_wp2_with fail
    go_roundw
    case rel => exact ⟨j + 1, by omega, by go_num, hI2⟩
    case measure => first | (simp [intOf]; omega) | simp [intOf]
   ·have ji : ¬ (j : Int) < (n1 : Int) := by omega
    have hI9 := hide hI
    clear hlt
    go_wp2_with fail
    have HV0 := hI9
    clear d3 u3
    go_loopw [9] (fun i wr => ∃ j : Nat, j ≤ n2 ∧ i = .int .i64 j ∧ SmI w wr vc uc) (fun i _ => n2 - (intOf i).toNat)
    case atStart => exact ⟨0, Nat.zero_le _, rfl, unhide HV0⟩
    case round =>
     obtain ⟨j, hj, rfl, hI⟩ := hrel
     have d3 : wr.cell? ⟨w.heap.size, 4, none⟩ = some (.slice af n2 cf) := (dt.cell_cells hI.v 4).trans (by rw [hvc]; rfl)
     have u3 : wr.cell? ⟨w.heap.size + 1, 4, none⟩ = some (.slice af' n2 cf') := (dt.cell_cells hI.u 4).trans (by rw [huc]; rfl)
     by_cases hlt : j < n2
     ·have ji : (j : Int) < (n2 : Int) := by omega
      have hlt1 : j < fls.length := by have := unhide Hn; omega
      have hlt2 : j < fls'.length := by have := unhide Hn; omega
      obtain ⟨p, ds, G1, rfl, hpF, hrow, hdl, hod, hGF⟩ := (unhide Hft) j _ (List.getElem?_eq_getElem hlt1)
      obtain ⟨p', ds', G2, rfl, hpF', hrow', hdl', hod', hGF'⟩ := (unhide Hft') j _ (List.getElem?_eq_getElem hlt2)
      obtain ⟨nm, e1, e2, x1, y1, x2, y2, hx, hy, hxy, heq⟩ := (unhide HFl) j _ _ (List.getElem?_eq_getElem hlt1) (List.getElem?_eq_getElem hlt2)
      rw [hx] at hod
      rw [hy] at hod'
      have hshp : ∃ k1 tx1 bl1 ai1 ni1 ci1 af1 nf1 cf1 ln1 co1 k2 tx2 bl2 ai2 ni2 ci2 af2 nf2 cf2 ln2 co2, ds = [.string nm, .int .i64 k1, .string tx1, .bool bl1, .slice ai1 ni1 ci1, .slice af1 nf1 cf1, .int .i64 ln1, .int .i64 co1, .int .i64 x1, .int .i64 y1] ∧ ds' = [.string nm, .int .i64 k2, .string tx2, .bool bl2, .slice ai2 ni2 ci2, .slice af2 nf2 cf2, .int .i64 ln2, .int .i64 co2, .int .i64 x2, .int .i64 y2] ∧ Ow w e1 [.int .i64 k1, .string tx1, .bool bl1, .slice ai1 ni1 ci1, .slice af1 nf1 cf1, .int .i64 ln1, .int .i64 co1] G1 ∧ Ow w e2 [.int .i64 k2, .string tx2, .bool bl2, .slice ai2 ni2 ci2, .slice af2 nf2 cf2, .int .i64 ln2, .int .i64 co2] G2 := by
       obtain ⟨k1, tx1, bl1, i1, f1, ln1, co1, h1⟩ := heq.left
       obtain ⟨k2, tx2, bl2, i2, f2, ln2, co2, h2⟩ := heq.right
       rw [h1] at hod
       rw [h2] at hod'
       obtain ⟨a1, a2, a3, a4, a5, a6, q1, q2⟩ := fld_cells hod
       obtain ⟨b1, b2, b3, b4, b5, b6, r1, r2⟩ := fld_cells hod'
       rw [← h1] at q2
       rw [← h2] at r2
       exact ⟨k1, tx1, bl1, a1, a2, a3, a4, a5, a6, ln1, co1, k2, tx2, bl2, b1, b2, b3, b4, b5, b6, ln2, co2, q1, r1, q2, r2⟩
      obtain ⟨k1, tx1, bl1, ai1, ni1, ci1, af1, nf1, cf1, ln1, co1, k2, tx2, bl2, ai2, ni2, ci2, af2, nf2, cf2, ln2, co2, rfl, rfl, hov, hov'⟩ := hshp
      have hxy0 : True := trivial
      clear hod hod' hx hy
      have hplt := (unhide HW) p hpF
      have hplt' := (unhide HW') p' hpF'
      have hr := fun (q : Nat) (u : Value) hu => (hI.bel.cell (p := ⟨p, j * 10 + q, none⟩) hplt).trans (hrow q u hu)
      have hr' := fun (q : Nat) (u : Value) hu => (hI.bel.cell (p := ⟨p', j * 10 + q, none⟩) hplt').trans (hrow' q u hu)
      have mN : wr.cell? ⟨p, j * 10, none⟩ = some (.string nm) := hr 0 _ rfl
      have m0 : wr.cell? ⟨p, j * 10 + 1, none⟩ = some (.int .i64 k1) := hr 1 _ rfl
      have m1 : wr.cell? ⟨p, j * 10 + 2, none⟩ = some (.string tx1) := hr 2 _ rfl
      have m2 : wr.cell? ⟨p, j * 10 + 3, none⟩ = some (.bool bl1) := hr 3 _ rfl
      have m3 : wr.cell? ⟨p, j * 10 + 4, none⟩ = some (.slice ai1 ni1 ci1) := hr 4 _ rfl
      have m4 : wr.cell? ⟨p, j * 10 + 5, none⟩ = some (.slice af1 nf1 cf1) := hr 5 _ rfl
      have m5 : wr.cell? ⟨p, j * 10 + 6, none⟩ = some (.int .i64 ln1) := hr 6 _ rfl
      have m6 : wr.cell? ⟨p, j * 10 + 7, none⟩ = some (.int .i64 co1) := hr 7 _ rfl
      have m8 : wr.cell? ⟨p, j * 10 + 8, none⟩ = some (.int .i64 x1) := hr 8 _ rfl
      have m9 : wr.cell? ⟨p, j * 10 + 9, none⟩ = some (.int .i64 y1) := hr 9 _ rfl
      have nN : wr.cell? ⟨p', j * 10, none⟩ = some (.string nm) := hr' 0 _ rfl
      have n0 : wr.cell? ⟨p', j * 10 + 1, none⟩ = some (.int .i64 k2) := hr' 1 _ rfl
      have n1 : wr.cell? ⟨p', j * 10 + 2, none⟩ = some (.string tx2) := hr' 2 _ rfl
      have n2 : wr.cell? ⟨p', j * 10 + 3, none⟩ = some (.bool bl2) := hr' 3 _ rfl
      have n3 : wr.cell? ⟨p', j * 10 + 4, none⟩ = some (.slice ai2 ni2 ci2) := hr' 4 _ rfl
      have n4 : wr.cell? ⟨p', j * 10 + 5, none⟩ = some (.slice af2 nf2 cf2) := hr' 5 _ rfl
      have n5 : wr.cell? ⟨p', j * 10 + 6, none⟩ = some (.int .i64 ln2) := hr' 6 _ rfl
      have n6 : wr.cell? ⟨p', j * 10 + 7, none⟩ = some (.int .i64 co2) := hr' 7 _ rfl
      have n8 : wr.cell? ⟨p', j * 10 + 8, none⟩ = some (.int .i64 x2) := hr' 8 _ rfl
      have n9 : wr.cell? ⟨p', j * 10 + 9, none⟩ = some (.int .i64 y2) := hr' 9 _ rfl
      have hC := hide (fun W (hb : Below w.heap.size w W) => (unhide ih) e1 e2 heq W [Value.int .i64 k1, .string tx1, .bool bl1, .slice ai1 ni1 ci1, .slice af1 nf1 cf1, .int .i64 ln1, .int .i64 co1] [Value.int .i64 k2, .string tx2, .bool bl2, .slice ai2 ni2 ci2, .slice af2 nf2 cf2, .int .i64 ln2, .int .i64 co2] G1 G2 (dt.Ow.agree e1 _ G1 (fun b hb' o => hb.cell (p := ⟨b, o, none⟩) ((unhide HW) b (hGF b hb'))) hov) (dt.Ow.agree e2 _ G2 (fun b hb' o => hb.cell (p := ⟨b, o, none⟩) ((unhide HW') b (hGF' b hb'))) hov') (fun b hb' => Nat.lt_of_lt_of_le ((unhide HW) b (hGF b hb')) hb.size) (fun b hb' => Nat.lt_of_lt_of_le ((unhide HW') b (hGF' b hb')) hb.size))
      have hs0 : w.heap.size < wr.heap.size := by
       rcases Nat.lt_or_ge w.heap.size wr.heap.size with g | g
       ·exact g
       ·have := hI.v; rw [Array.getElem?_eq_none g] at this; cases this
      have hs1 : w.heap.size + 1 < wr.heap.size := by
       rcases Nat.lt_or_ge (w.heap.size + 1) wr.heap.size with g | g
       ·exact g
       ·have := hI.u; rw [Array.getElem?_eq_none g] at this; cases this
      have hq1 : p < wr.heap.size := by omega
      have hq2 : p' < wr.heap.size := by omega
      clear hr hr' hrow hrow' hov hov' heq hdl hdl'
      go_wp2_with fail
      have hS0 : Below wr.heap.size wr { wr with drawn := wr.drawn + 1 } := (Below.refl _ _).drew
      have bD := hI.bel.trans (hS0.mono hI.bel.size)
      refine wp_region_noPanic ?_
      refine wp_region_held (S := fun w' => Below wr.heap.size wr w') mixed ?_
      refine rgn.tl (i := 0) (v := ?v12) rfl (by kernel_rfl) (fun _ _ _ h => h) (by rfl) ?hy12 hS0 ?_
      case hy12 => (intro w' hw'; go_simp; try with_reducible rfl)
      simp only [rgn.l1, rgn.l2, rgn.l3, Act.put, rgn.l4, rgn.l5, rgn.l6]
      refine rgn.tl (i := 1) (v := ?v13) rfl (by kernel_rfl) (fun _ _ _ h => h) (by rfl) ?hy13 hS0 ?_
      case hy13 => (intro w' hw'; have d3' := (hw'.cell (p := ⟨w.heap.size, 4, none⟩) hs0).trans d3; go_simp; try with_reducible rfl)
      simp only [rgn.l1, rgn.l2, rgn.l3, Act.put, rgn.l4, rgn.l5, rgn.l6]
      refine rgn.tl (i := 2) (v := ?v14) rfl (by kernel_rfl) (fun _ _ _ h => h) (by rfl) ?hy14 hS0 ?_
      case hy14 => (intro w' hw'; go_simp; try with_reducible rfl)
      simp only [rgn.l1, rgn.l2, rgn.l3, Act.put, rgn.l4, rgn.l5, rgn.l6]
      refine rgn.tl (i := 3) (v := ?v15) rfl (by kernel_rfl) (fun _ _ _ h => h) (by rfl) ?hy15 hS0 ?_
      case hy15 => (intro w' hw'; go_simp; try with_reducible rfl)
      simp only [rgn.l1, rgn.l2, rgn.l3, Act.put, rgn.l4, rgn.l5, rgn.l6]
      refine rgn.tl (i := 4) (v := ?v16) rfl (by kernel_rfl) (fun _ _ _ h => h) (by rfl) ?hy16 hS0 ?_
      case hy16 => (intro w' hw'; go_simp; try with_reducible rfl)
      simp only [rgn.l1, rgn.l2, rgn.l3, Act.put, rgn.l4, rgn.l5, rgn.l6]
      refine rgn.tl (i := 5) (v := ?v17) rfl (by kernel_rfl) (fun _ _ _ h => h) (by rfl) ?hy17 hS0 ?_
      case hy17 => (intro w' hw'; have m0' := (hw'.cell (p := ⟨p, j * 10 + 1, none⟩) hq1).trans m0; have m1' := (hw'.cell (p := ⟨p, j * 10 + 2, none⟩) hq1).trans m1; have m2' := (hw'.cell (p := ⟨p, j * 10 + 3, none⟩) hq1).trans m2; have m3' := (hw'.cell (p := ⟨p, j * 10 + 4, none⟩) hq1).trans m3; have m4' := (hw'.cell (p := ⟨p, j * 10 + 5, none⟩) hq1).trans m4; have m5' := (hw'.cell (p := ⟨p, j * 10 + 6, none⟩) hq1).trans m5; have m6' := (hw'.cell (p := ⟨p, j * 10 + 7, none⟩) hq1).trans m6; go_simp; try with_reducible rfl)
      simp only [rgn.l1, rgn.l2, rgn.l3, Act.put, rgn.l4, rgn.l5, rgn.l6]
      refine rgn.tl (i := 6) (v := ?v18) rfl (by kernel_rfl) (fun _ _ _ h => h) (by rfl) ?hy18 hS0 ?_
      case hy18 => (intro w' hw'; go_simp; try with_reducible rfl)
      simp only [rgn.l1, rgn.l2, rgn.l3, Act.put, rgn.l4, rgn.l5, rgn.l6]
      refine rgn.tl (i := 7) (v := ?v19) rfl (by kernel_rfl) (fun _ _ _ h => h) (by rfl) ?hy19 hS0 ?_
      case hy19 => (intro w' hw'; have u3' := (hw'.cell (p := ⟨w.heap.size + 1, 4, none⟩) hs1).trans u3; go_simp; try with_reducible rfl)
      simp only [rgn.l1, rgn.l2, rgn.l3, Act.put, rgn.l4, rgn.l5, rgn.l6]
      refine rgn.tl (i := 8) (v := ?v20) rfl (by kernel_rfl) (fun _ _ _ h => h) (by rfl) ?hy20 hS0 ?_
      case hy20 => (intro w' hw'; go_simp; try with_reducible rfl)
      simp only [rgn.l1, rgn.l2, rgn.l3, Act.put, rgn.l4, rgn.l5, rgn.l6]
      refine rgn.tl (i := 9) (v := ?v21) rfl (by kernel_rfl) (fun _ _ _ h => h) (by rfl) ?hy21 hS0 ?_
      case hy21 => (intro w' hw'; go_simp; try with_reducible rfl)
      simp only [rgn.l1, rgn.l2, rgn.l3, Act.put, rgn.l4, rgn.l5, rgn.l6]
      refine rgn.tl (i := 10) (v := ?v22) rfl (by kernel_rfl) (fun _ _ _ h => h) (by rfl) ?hy22 hS0 ?_
      case hy22 => (intro w' hw'; go_simp; try with_reducible rfl)
      simp only [rgn.l1, rgn.l2, rgn.l3, Act.put, rgn.l4, rgn.l5, rgn.l6]
      refine rgn.tl (i := 11) (v := ?v23) rfl (by kernel_rfl) (fun _ _ _ h => h) (by rfl) ?hy23 hS0 ?_
      case hy23 => (intro w' hw'; have n0' := (hw'.cell (p := ⟨p', j * 10 + 1, none⟩) hq2).trans n0; have n1' := (hw'.cell (p := ⟨p', j * 10 + 2, none⟩) hq2).trans n1; have n2' := (hw'.cell (p := ⟨p', j * 10 + 3, none⟩) hq2).trans n2; have n3' := (hw'.cell (p := ⟨p', j * 10 + 4, none⟩) hq2).trans n3; have n4' := (hw'.cell (p := ⟨p', j * 10 + 5, none⟩) hq2).trans n4; have n5' := (hw'.cell (p := ⟨p', j * 10 + 6, none⟩) hq2).trans n5; have n6' := (hw'.cell (p := ⟨p', j * 10 + 7, none⟩) hq2).trans n6; go_simp; try with_reducible rfl)
      simp only [rgn.l1, rgn.l2, rgn.l3, Act.put, rgn.l4, rgn.l5, rgn.l6]
      refine rgn.tl (i := 12) (v := ?v24) rfl (by kernel_rfl) (fun _ _ _ h => h) (by rfl) ?hy24 hS0 ?_
      case hy24 => (intro w' hw'; go_simp; try with_reducible rfl)
      simp only [rgn.l1, rgn.l2, rgn.l3, Act.put, rgn.l4, rgn.l5, rgn.l6]
      refine rgn.one (i := 13) _ rfl (by kernel_rfl) (by rfl) ?_
      simp only [rgn.l1, rgn.l2, rgn.l3, Act.put, rgn.l4, rgn.l5, rgn.l6]
      go_wp2_with fail
      refine ((unhide hC) _ bD).mono ?_
      rintro e' w2 ⟨rfl, b2⟩
      have b02 : Below wr.heap.size wr w2 := hS0.trans b2
      refine ⟨b02, ?_⟩
      clear hS0 b2 bD
      have hS0 := b02
      try simp only [rgn.l1, rgn.l2, rgn.l3, Act.put, rgn.l4, rgn.l5, rgn.l6]
      refine rgn.take (i := 14) _ (.bool true) rfl (by kernel_rfl) (by kernel_rfl) (by kernel_rfl) (fun _ _ _ h => h) (by rfl) hS0 (fun w' hw' => by go_simp) ?_
      simp only [rgn.l1, rgn.l2, rgn.l3, Act.put, rgn.l4, rgn.l5, rgn.l6]
      refine wpAnyH_done (by kernel_rfl) ?_ _; refine NoPanic.normal ?_
      have hI2 := hI.more b02
      have d3x := (b02.cell (p := ⟨w.heap.size, 4, none⟩) hs0).trans d3
      have u3x := (b02.cell (p := ⟨w.heap.size + 1, 4, none⟩) hs1).trans u3
      have mNx := (b02.cell (p := ⟨p, j * 10, none⟩) hq1).trans mN
      have nNx := (b02.cell (p := ⟨p', j * 10, none⟩) hq2).trans nN
      have m8x := (b02.cell (p := ⟨p, j * 10 + 8, none⟩) hq1).trans m8
      have n8x := (b02.cell (p := ⟨p', j * 10 + 8, none⟩) hq2).trans n8
      have m9x := (b02.cell (p := ⟨p, j * 10 + 9, none⟩) hq1).trans m9
      have n9x := (b02.cell (p := ⟨p', j * 10 + 9, none⟩) hq2).trans n9
      clear m0 m1 m2 m3 m4 m5 m6 n0 n1 n2 n3 n4 n5 n6 mN nN m8 n8 m9 n9 d3 u3 hC hS0
      go_wp2_with fail
      have hS0 : Below w2.heap.size w2 { w2 with drawn := w2.drawn + 1 } := (Below.refl _ _).drew
      have g0 : w.heap.size < w2.heap.size := Nat.lt_of_lt_of_le hs0 b02.size
      have g1 : w.heap.size + 1 < w2.heap.size := Nat.lt_of_lt_of_le hs1 b02.size
      have g2 : p < w2.heap.size := Nat.lt_of_lt_of_le hq1 b02.size
      have g3 : p' < w2.heap.size := Nat.lt_of_lt_of_le hq2 b02.size
      refine wp_region_noPanic ?_
      refine wp_region_held (S := fun w' => Below w2.heap.size w2 w') mixed ?_
      refine rgn.tl (i := 0) (v := ?v25) rfl (by kernel_rfl) (fun _ _ _ h => h) (by rfl) ?hy25 hS0 ?_
      case hy25 => (intro w' hw'; go_simp; try with_reducible rfl)
      simp only [rgn.l1, rgn.l2, rgn.l3, Act.put, rgn.l4, rgn.l5, rgn.l6]
      refine rgn.tl (i := 1) (v := ?v26) rfl (by kernel_rfl) (fun _ _ _ h => h) (by rfl) ?hy26 hS0 ?_
      case hy26 => (intro w' hw'; go_simp; try with_reducible rfl)
      simp only [rgn.l1, rgn.l2, rgn.l3, Act.put, rgn.l4, rgn.l5, rgn.l6]
      refine rgn.tl (i := 2) (v := ?v27) rfl (by kernel_rfl) (fun _ _ _ h => h) (by rfl) ?hy27 hS0 ?_
      case hy27 => (intro w' hw'; go_simp; try with_reducible rfl)
      simp only [rgn.l1, rgn.l2, rgn.l3, Act.put, rgn.l4, rgn.l5, rgn.l6]
      refine rgn.tl (i := 3) (v := ?v28) rfl (by kernel_rfl) (fun _ _ _ h => h) (by rfl) ?hy28 hS0 ?_
      case hy28 => (intro w' hw'; go_simp; try with_reducible rfl)
      simp only [rgn.l1, rgn.l2, rgn.l3, Act.put, rgn.l4, rgn.l5, rgn.l6]
      refine rgn.tl (i := 4) (v := ?v29) rfl (by kernel_rfl) (fun _ _ _ h => h) (by rfl) ?hy29 hS0 ?_
      case hy29 => (intro w' hw'; have d3' := (hw'.cell (p := ⟨w.heap.size, 4, none⟩) g0).trans d3x; go_simp; try with_reducible rfl)
      simp only [rgn.l1, rgn.l2, rgn.l3, Act.put, rgn.l4, rgn.l5, rgn.l6]
      refine rgn.tl (i := 5) (v := ?v30) rfl (by kernel_rfl) (fun _ _ _ h => h) (by rfl) ?hy30 hS0 ?_
      case hy30 => (intro w' hw'; go_simp; try with_reducible rfl)
      simp only [rgn.l1, rgn.l2, rgn.l3, Act.put, rgn.l4, rgn.l5, rgn.l6]
      refine rgn.tl (i := 6) (v := ?v31) rfl (by kernel_rfl) (fun _ _ _ h => h) (by rfl) ?hy31 hS0 ?_
      case hy31 => (intro w' hw'; go_simp; try with_reducible rfl)
      simp only [rgn.l1, rgn.l2, rgn.l3, Act.put, rgn.l4, rgn.l5, rgn.l6]
      refine rgn.tl (i := 7) (v := ?v32) rfl (by kernel_rfl) (fun _ _ _ h => h) (by rfl) ?hy32 hS0 ?_
      case hy32 => (intro w' hw'; go_simp; try with_reducible rfl)
      simp only [rgn.l1, rgn.l2, rgn.l3, Act.put, rgn.l4, rgn.l5, rgn.l6]
      refine rgn.tl (i := 8) (v := ?v33) rfl (by kernel_rfl) (fun _ _ _ h => h) (by rfl) ?hy33 hS0 ?_
      case hy33 => (intro w' hw'; have mN' := (hw'.cell (p := ⟨p, j * 10, none⟩) g2).trans mNx; go_simp; try with_reducible rfl)
      simp only [rgn.l1, rgn.l2, rgn.l3, Act.put, rgn.l4, rgn.l5, rgn.l6]
      refine rgn.tl (i := 9) (v := ?v34) rfl (by kernel_rfl) (fun _ _ _ h => h) (by rfl) ?hy34 hS0 ?_
      case hy34 => (intro w' hw'; go_simp; try with_reducible rfl)
      simp only [rgn.l1, rgn.l2, rgn.l3, Act.put, rgn.l4, rgn.l5, rgn.l6]
      refine rgn.tl (i := 10) (v := ?v35) rfl (by kernel_rfl) (fun _ _ _ h => h) (by rfl) ?hy35 hS0 ?_
      case hy35 => (intro w' hw'; have u3' := (hw'.cell (p := ⟨w.heap.size + 1, 4, none⟩) g1).trans u3x; go_simp; try with_reducible rfl)
      simp only [rgn.l1, rgn.l2, rgn.l3, Act.put, rgn.l4, rgn.l5, rgn.l6]
      refine rgn.tl (i := 11) (v := ?v36) rfl (by kernel_rfl) (fun _ _ _ h => h) (by rfl) ?hy36 hS0 ?_
      case hy36 => (intro w' hw'; go_simp; try with_reducible rfl)
      simp only [rgn.l1, rgn.l2, rgn.l3, Act.put, rgn.l4, rgn.l5, rgn.l6]
      refine rgn.tl (i := 12) (v := ?v37) rfl (by kernel_rfl) (fun _ _ _ h => h) (by rfl) ?hy37 hS0 ?_
      case hy37 => (intro w' hw'; go_simp; try with_reducible rfl)
      simp only [rgn.l1, rgn.l2, rgn.l3, Act.put, rgn.l4, rgn.l5, rgn.l6]
      refine rgn.tl (i := 13) (v := ?v38) rfl (by kernel_rfl) (fun _ _ _ h => h) (by rfl) ?hy38 hS0 ?_
      case hy38 => (intro w' hw'; go_simp; try with_reducible rfl)
      simp only [rgn.l1, rgn.l2, rgn.l3, Act.put, rgn.l4, rgn.l5, rgn.l6]
      refine rgn.tl (i := 14) (v := ?v39) rfl (by kernel_rfl) (fun _ _ _ h => h) (by rfl) ?hy39 hS0 ?_
      case hy39 => (intro w' hw'; have nN' := (hw'.cell (p := ⟨p', j * 10, none⟩) g3).trans nNx; go_simp; try with_reducible rfl)
      simp only [rgn.l1, rgn.l2, rgn.l3, Act.put, rgn.l4, rgn.l5, rgn.l6]
      refine rgn.tl (i := 15) (v := ?v40) rfl (by kernel_rfl) (fun _ _ _ h => h) (by rfl) ?hy40 hS0 ?_
      case hy40 => (intro w' hw'; go_simp; try with_reducible rfl)
      simp only [rgn.l1, rgn.l2, rgn.l3, Act.put, rgn.l4, rgn.l5, rgn.l6]
      refine rgn.tl (i := 16) (v := ?v41) rfl (by kernel_rfl) (fun _ _ _ h => h) (by rfl) ?hy41 hS0 ?_
      case hy41 => (intro w' hw'; go_simp; try with_reducible rfl)
      simp only [rgn.l1, rgn.l2, rgn.l3, Act.put, rgn.l4, rgn.l5, rgn.l6]
      refine rgn.tl (i := 17) (v := ?v42) rfl (by kernel_rfl) (fun _ _ _ h => h) (by rfl) ?hy42 hS0 ?_
      case hy42 => (intro w' hw'; go_simp; try with_reducible rfl)
      simp only [rgn.l1, rgn.l2, rgn.l3, Act.put, rgn.l4, rgn.l5, rgn.l6]
      refine rgn.tl (i := 18) (v := ?v43) rfl (by kernel_rfl) (fun _ _ _ h => h) (by rfl) ?hy43 hS0 ?_
      case hy43 => (intro w' hw'; go_simp; try with_reducible rfl)
      simp only [rgn.l1, rgn.l2, rgn.l3, Act.put, rgn.l4, rgn.l5, rgn.l6]
      refine rgn.tl (i := 19) (v := ?v44) rfl (by kernel_rfl) (fun _ _ _ h => h) (by rfl) ?hy44 hS0 ?_
      case hy44 => (intro w' hw'; go_simp; try with_reducible rfl)
      simp only [rgn.l1, rgn.l2, rgn.l3, Act.put, rgn.l4, rgn.l5, rgn.l6]
      refine rgn.tk (i := 20) (v := undef) rfl (by kernel_rfl) (fun _ _ _ h => h) (Or.inr ⟨by rfl, rfl⟩) hS0 ?_
      simp only [rgn.l1, rgn.l2, rgn.l3, Act.put, rgn.l4, rgn.l5, rgn.l6]
      refine rgn.tk (i := 21) (v := undef) rfl (by kernel_rfl) (fun _ _ _ h => h) (Or.inr ⟨by rfl, rfl⟩) hS0 ?_
      simp only [rgn.l1, rgn.l2, rgn.l3, Act.put, rgn.l4, rgn.l5, rgn.l6]
      refine rgn.tk (i := 22) (v := undef) rfl (by kernel_rfl) (fun _ _ _ h => h) (Or.inr ⟨by rfl, rfl⟩) hS0 ?_
      simp only [rgn.l1, rgn.l2, rgn.l3, Act.put, rgn.l4, rgn.l5, rgn.l6]
      refine rgn.tk (i := 23) (v := undef) rfl (by kernel_rfl) (fun _ _ _ h => h) (Or.inr ⟨by rfl, rfl⟩) hS0 ?_
      simp only [rgn.l1, rgn.l2, rgn.l3, Act.put, rgn.l4, rgn.l5, rgn.l6]
      refine rgn.tk (i := 24) (v := undef) rfl (by kernel_rfl) (fun _ _ _ h => h) (Or.inr ⟨by rfl, rfl⟩) hS0 ?_
      simp only [rgn.l1, rgn.l2, rgn.l3, Act.put, rgn.l4, rgn.l5, rgn.l6]
      refine rgn.tk (i := 25) (v := undef) rfl (by kernel_rfl) (fun _ _ _ h => h) (Or.inr ⟨by rfl, rfl⟩) hS0 ?_
      simp only [rgn.l1, rgn.l2, rgn.l3, Act.put, rgn.l4, rgn.l5, rgn.l6]
      refine rgn.tk (i := 26) (v := undef) rfl (by kernel_rfl) (fun _ _ _ h => h) (Or.inr ⟨by rfl, rfl⟩) hS0 ?_
      simp only [rgn.l1, rgn.l2, rgn.l3, Act.put, rgn.l4, rgn.l5, rgn.l6]
      refine rgn.tk (i := 27) (v := undef) rfl (by kernel_rfl) (fun _ _ _ h => h) (Or.inr ⟨by rfl, rfl⟩) hS0 ?_
      simp only [rgn.l1, rgn.l2, rgn.l3, Act.put, rgn.l4, rgn.l5, rgn.l6]
      refine rgn.tk (i := 28) (v := undef) rfl (by kernel_rfl) (fun _ _ _ h => h) (Or.inr ⟨by rfl, rfl⟩) hS0 ?_
      simp only [rgn.l1, rgn.l2, rgn.l3, Act.put, rgn.l4, rgn.l5, rgn.l6]
      refine rgn.tk (i := 29) (v := undef) rfl (by kernel_rfl) (fun _ _ _ h => h) (Or.inr ⟨by rfl, rfl⟩) hS0 ?_
      simp only [rgn.l1, rgn.l2, rgn.l3, Act.put, rgn.l4, rgn.l5, rgn.l6]
      refine rgn.tk (i := 30) (v := undef) rfl (by kernel_rfl) (fun _ _ _ h => h) (Or.inr ⟨by rfl, rfl⟩) hS0 ?_
      simp only [rgn.l1, rgn.l2, rgn.l3, Act.put, rgn.l4, rgn.l5, rgn.l6]
      refine rgn.tk (i := 31) (v := undef) rfl (by kernel_rfl) (fun _ _ _ h => h) (Or.inr ⟨by rfl, rfl⟩) hS0 ?_
      simp only [rgn.l1, rgn.l2, rgn.l3, Act.put, rgn.l4, rgn.l5, rgn.l6]
      refine rgn.tk (i := 32) (v := undef) rfl (by kernel_rfl) (fun _ _ _ h => h) (Or.inr ⟨by rfl, rfl⟩) hS0 ?_
      simp only [rgn.l1, rgn.l2, rgn.l3, Act.put, rgn.l4, rgn.l5, rgn.l6]
      refine rgn.tl (i := 33) (v := ?v45) rfl (by kernel_rfl) (fun _ _ _ h => h) (by rfl) ?hy45 hS0 ?_
      case hy45 => (intro w' hw'; go_simp; try with_reducible rfl)
      simp only [rgn.l1, rgn.l2, rgn.l3, Act.put, rgn.l4, rgn.l5, rgn.l6]
      refine rgn.tl (i := 34) (v := ?v46) rfl (by kernel_rfl) (fun _ _ _ h => h) (by rfl) ?hy46 hS0 ?_
      case hy46 => (intro w' hw'; go_simp; try with_reducible rfl)
      simp only [rgn.l1, rgn.l2, rgn.l3, Act.put, rgn.l4, rgn.l5, rgn.l6]
      refine wpAnyH_done (by kernel_rfl) ?_ _; refine NoPanic.normal ?_
      go_wp2_with fail
      go_roundw
      case rel => exact ⟨j + 1, by omega, by go_num, hI2.more hS0⟩
      case measure => first | (simp [intOf]; omega) | simp [intOf]
     ·have ji : ¬ (j : Int) < (n2 : Int) := by omega
      have hI9 := hide hI
      clear hlt
      go_wp2_with fail
      go_ret
      exact ⟨rfl, (unhide hI9).bel⟩
set_option maxHeartbeats 8000000 in
set_option maxRecDepth 4000 in
theorem args_f (f : Nat) (l l' : List Dt) (h : EqLs (EqA false f) l l') : SmLs 24 false 10 l l' := by
 intro w a a' c c' F G hl hl' hF hG hc hc' hm hm'
 obtain ⟨hlen, hel⟩ := h
 have HEL := hide hel
 have HL := hide hl
 have HL' := hide hl'
 have HF := hide hF
 have HG := hide hG
 obtain ⟨n, hn⟩ : ∃ n, n = l.length := ⟨_, rfl⟩
 have hn' : n = l'.length := hn.trans hlen
 rw [← hn] at hc ⊢
 rw [← hn'] at hc' ⊢
 have Hn := hide (And.intro hn hn')
 clear hel hl hl' hF hG hn hn' hlen
 unfold maxLen at hm hm'
 go_enter Tryz.func24, Tryz.ntmps24
 go_wp2_with fail
 go_loopw [7] (fun i wr => ∃ j : Nat, j ≤ n ∧ i = .int .i64 j ∧ Below w.heap.size w wr) (fun i _ => n - (intOf i).toNat)
 case atStart => exact ⟨0, Nat.zero_le _, rfl, Below.refl _ _⟩
 case round =>
  obtain ⟨j, hj, rfl, hI⟩ := hrel
  by_cases hlt : j < n
  ·have ji : (j : Int) < (n : Int) := by omega
   have hlt1 : j < l.length := by have := unhide Hn; omega
   have hlt2 : j < l'.length := by have := unhide Hn; omega
   obtain ⟨p, off, rfl, hpF, hget⟩ := (unhide HL).resolve_left (fun h0 => by rw [h0] at hlt1; exact absurd hlt1 (Nat.not_lt_zero _))
   obtain ⟨p', off', rfl, hpG, hget'⟩ := (unhide HL').resolve_left (fun h0 => by rw [h0] at hlt2; exact absurd hlt2 (Nat.not_lt_zero _))
   obtain ⟨ds, G1, hrow, hdl, hod, hGF⟩ := hget j _ (List.getElem?_eq_getElem hlt1)
   obtain ⟨ds', G2, hrow', hdl', hod', hGG⟩ := hget' j _ (List.getElem?_eq_getElem hlt2)
   obtain ⟨nm, e1, e2, x1, y1, x2, y2, hx, hy, hxy, heq⟩ := (unhide HEL) j _ _ (List.getElem?_eq_getElem hlt1) (List.getElem?_eq_getElem hlt2)
   rw [hx] at hod
   rw [hy] at hod'
   have hshp : ∃ k1 tx1 bl1 ai1 ni1 ci1 af1 nf1 cf1 ln1 co1 k2 tx2 bl2 ai2 ni2 ci2 af2 nf2 cf2 ln2 co2, ds = [.string nm, .int .i64 k1, .string tx1, .bool bl1, .slice ai1 ni1 ci1, .slice af1 nf1 cf1, .int .i64 ln1, .int .i64 co1, .int .i64 x1, .int .i64 y1] ∧ ds' = [.string nm, .int .i64 k2, .string tx2, .bool bl2, .slice ai2 ni2 ci2, .slice af2 nf2 cf2, .int .i64 ln2, .int .i64 co2, .int .i64 x2, .int .i64 y2] ∧ Ow w e1 [.int .i64 k1, .string tx1, .bool bl1, .slice ai1 ni1 ci1, .slice af1 nf1 cf1, .int .i64 ln1, .int .i64 co1] G1 ∧ Ow w e2 [.int .i64 k2, .string tx2, .bool bl2, .slice ai2 ni2 ci2, .slice af2 nf2 cf2, .int .i64 ln2, .int .i64 co2] G2 := by
    obtain ⟨k1, tx1, bl1, i1, f1, ln1, co1, h1⟩ := heq.left
    obtain ⟨k2, tx2, bl2, i2, f2, ln2, co2, h2⟩ := heq.right
    rw [h1] at hod
    rw [h2] at hod'
    obtain ⟨a1, a2, a3, a4, a5, a6, q1, q2⟩ := fld_cells hod
    obtain ⟨b1, b2, b3, b4, b5, b6, r1, r2⟩ := fld_cells hod'
    rw [← h1] at q2
    rw [← h2] at r2
    exact ⟨k1, tx1, bl1, a1, a2, a3, a4, a5, a6, ln1, co1, k2, tx2, bl2, b1, b2, b3, b4, b5, b6, ln2, co2, q1, r1, q2, r2⟩
   obtain ⟨k1, tx1, bl1, ai1, ni1, ci1, af1, nf1, cf1, ln1, co1, k2, tx2, bl2, ai2, ni2, ci2, af2, nf2, cf2, ln2, co2, rfl, rfl, hov, hov'⟩ := hshp
   clear hxy
   clear hod hod' hx hy
   have hplt := (unhide HF) p hpF
   have hplt' := (unhide HG) p' hpG
   have hr := fun (q : Nat) (u : Value) hu => (hI.cell (p := ⟨p, off + j * 10 + q, none⟩) hplt).trans (hrow q u hu)
   have hr' := fun (q : Nat) (u : Value) hu => (hI.cell (p := ⟨p', off' + j * 10 + q, none⟩) hplt').trans (hrow' q u hu)
   have m0 : wr.cell? ⟨p, off + j * 10, none⟩ = some (.string nm) := hr 0 _ rfl
   have m1 : wr.cell? ⟨p, off + j * 10 + 1, none⟩ = some (.int .i64 k1) := hr 1 _ rfl
   have m2 : wr.cell? ⟨p, off + j * 10 + 2, none⟩ = some (.string tx1) := hr 2 _ rfl
   have m3 : wr.cell? ⟨p, off + j * 10 + 3, none⟩ = some (.bool bl1) := hr 3 _ rfl
   have m4 : wr.cell? ⟨p, off + j * 10 + 4, none⟩ = some (.slice ai1 ni1 ci1) := hr 4 _ rfl
   have m5 : wr.cell? ⟨p, off + j * 10 + 5, none⟩ = some (.slice af1 nf1 cf1) := hr 5 _ rfl
   have m6 : wr.cell? ⟨p, off + j * 10 + 6, none⟩ = some (.int .i64 ln1) := hr 6 _ rfl
   have m7 : wr.cell? ⟨p, off + j * 10 + 7, none⟩ = some (.int .i64 co1) := hr 7 _ rfl
   have m8 : wr.cell? ⟨p, off + j * 10 + 8, none⟩ = some (.int .i64 x1) := hr 8 _ rfl
   have m9 : wr.cell? ⟨p, off + j * 10 + 9, none⟩ = some (.int .i64 y1) := hr 9 _ rfl
   have n0 : wr.cell? ⟨p', off' + j * 10, none⟩ = some (.string nm) := hr' 0 _ rfl
   have n1 : wr.cell? ⟨p', off' + j * 10 + 1, none⟩ = some (.int .i64 k2) := hr' 1 _ rfl
   have n2 : wr.cell? ⟨p', off' + j * 10 + 2, none⟩ = some (.string tx2) := hr' 2 _ rfl
   have n3 : wr.cell? ⟨p', off' + j * 10 + 3, none⟩ = some (.bool bl2) := hr' 3 _ rfl
   have n4 : wr.cell? ⟨p', off' + j * 10 + 4, none⟩ = some (.slice ai2 ni2 ci2) := hr' 4 _ rfl
   have n5 : wr.cell? ⟨p', off' + j * 10 + 5, none⟩ = some (.slice af2 nf2 cf2) := hr' 5 _ rfl
   have n6 : wr.cell? ⟨p', off' + j * 10 + 6, none⟩ = some (.int .i64 ln2) := hr' 6 _ rfl
   have n7 : wr.cell? ⟨p', off' + j * 10 + 7, none⟩ = some (.int .i64 co2) := hr' 7 _ rfl
   have n8 : wr.cell? ⟨p', off' + j * 10 + 8, none⟩ = some (.int .i64 x2) := hr' 8 _ rfl
   have n9 : wr.cell? ⟨p', off' + j * 10 + 9, none⟩ = some (.int .i64 y2) := hr' 9 _ rfl
   have hC := hide (fun W (hb : Below w.heap.size w W) => same_f f e1 e2 heq W [Value.int .i64 k1, .string tx1, .bool bl1, .slice ai1 ni1 ci1, .slice af1 nf1 cf1, .int .i64 ln1, .int .i64 co1] [Value.int .i64 k2, .string tx2, .bool bl2, .slice ai2 ni2 ci2, .slice af2 nf2 cf2, .int .i64 ln2, .int .i64 co2] G1 G2 (dt.Ow.agree e1 _ G1 (fun b hb' o => hb.cell (p := ⟨b, o, none⟩) ((unhide HF) b (hGF b hb'))) hov) (dt.Ow.agree e2 _ G2 (fun b hb' o => hb.cell (p := ⟨b, o, none⟩) ((unhide HG) b (hGG b hb'))) hov') (fun b hb' => Nat.lt_of_lt_of_le ((unhide HF) b (hGF b hb')) hb.size) (fun b hb' => Nat.lt_of_lt_of_le ((unhide HG) b (hGG b hb')) hb.size))
   have hq1 : p < wr.heap.size := Nat.lt_of_lt_of_le hplt hI.size
   have hq2 : p' < wr.heap.size := Nat.lt_of_lt_of_le hplt' hI.size
   clear hr hr' hrow hrow' hov hov' heq hdl hdl' hget hget'
   go_wp2_with fail
   have hS0 : Below wr.heap.size wr { wr with drawn := wr.drawn + 1 } := (Below.refl _ _).drew
   have bD := hI.trans (hS0.mono hI.size)
   refine wp_region_noPanic ?_
   refine wp_region_held (S := fun w' => Below wr.heap.size wr w') mixed ?_
   refine rgn.tl (i := 0) (v := ?v1) rfl (by kernel_rfl) (fun _ _ _ h => h) (by rfl) ?hy1 hS0 ?_
   case hy1 => (intro w' hw'; go_simp; try with_reducible rfl)
   simp only [rgn.l1, rgn.l2, rgn.l3, Act.put, rgn.l4, rgn.l5, rgn.l6]
   refine rgn.tl (i := 1) (v := ?v2) rfl (by kernel_rfl) (fun _ _ _ h => h) (by rfl) ?hy2 hS0 ?_
   case hy2 => (intro w' hw'; go_simp; try with_reducible rfl)
   simp only [rgn.l1, rgn.l2, rgn.l3, Act.put, rgn.l4, rgn.l5, rgn.l6]
   refine rgn.tl (i := 2) (v := ?v3) rfl (by kernel_rfl) (fun _ _ _ h => h) (by rfl) ?hy3 hS0 ?_
   case hy3 => (intro w' hw'; go_simp; try with_reducible rfl)
   simp only [rgn.l1, rgn.l2, rgn.l3, Act.put, rgn.l4, rgn.l5, rgn.l6]
   refine rgn.tl (i := 3) (v := ?v4) rfl (by kernel_rfl) (fun _ _ _ h => h) (by rfl) ?hy4 hS0 ?_
   case hy4 => (intro w' hw'; go_simp; try with_reducible rfl)
   simp only [rgn.l1, rgn.l2, rgn.l3, Act.put, rgn.l4, rgn.l5, rgn.l6]
   refine rgn.tl (i := 4) (v := ?v5) rfl (by kernel_rfl) (fun _ _ _ h => h) (by rfl) ?hy5 hS0 ?_
   case hy5 => (intro w' hw'; have m1' := (hw'.cell (p := ⟨p, off + j * 10 + 1, none⟩) hq1).trans m1; have m2' := (hw'.cell (p := ⟨p, off + j * 10 + 2, none⟩) hq1).trans m2; have m3' := (hw'.cell (p := ⟨p, off + j * 10 + 3, none⟩) hq1).trans m3; have m4' := (hw'.cell (p := ⟨p, off + j * 10 + 4, none⟩) hq1).trans m4; have m5' := (hw'.cell (p := ⟨p, off + j * 10 + 5, none⟩) hq1).trans m5; have m6' := (hw'.cell (p := ⟨p, off + j * 10 + 6, none⟩) hq1).trans m6; have m7' := (hw'.cell (p := ⟨p, off + j * 10 + 7, none⟩) hq1).trans m7; go_simp; try with_reducible rfl)
   simp only [rgn.l1, rgn.l2, rgn.l3, Act.put, rgn.l4, rgn.l5, rgn.l6]
   refine rgn.tl (i := 5) (v := ?v6) rfl (by kernel_rfl) (fun _ _ _ h => h) (by rfl) ?hy6 hS0 ?_
   case hy6 => (intro w' hw'; go_simp; try with_reducible rfl)
   simp only [rgn.l1, rgn.l2, rgn.l3, Act.put, rgn.l4, rgn.l5, rgn.l6]
   refine rgn.tl (i := 6) (v := ?v7) rfl (by kernel_rfl) (fun _ _ _ h => h) (by rfl) ?hy7 hS0 ?_
   case hy7 => (intro w' hw'; go_simp; try with_reducible rfl)
   simp only [rgn.l1, rgn.l2, rgn.l3, Act.put, rgn.l4, rgn.l5, rgn.l6]
   refine rgn.tl (i := 7) (v := ?v8) rfl (by kernel_rfl) (fun _ _ _ h => h) (by rfl) ?hy8 hS0 ?_
   case hy8 => (intro w' hw'; go_simp; try with_reducible rfl)
   simp only [rgn.l1, rgn.l2, rgn.l3, Act.put, rgn.l4, rgn.l5, rgn.l6]
   refine rgn.tl (i := 8) (v := ?v9) rfl (by kernel_rfl) (fun _ _ _ h => h) (by rfl) ?hy9 hS0 ?_
   case hy9 => (intro w' hw'; go_simp; try with_reducible rfl)
   simp only [rgn.l1, rgn.l2, rgn.l3, Act.put, rgn.l4, rgn.l5, rgn.l6]
   refine rgn.tl (i := 9) (v := ?v10) rfl (by kernel_rfl) (fun _ _ _ h => h) (by rfl) ?hy10 hS0 ?_
   case hy10 => (intro w' hw'; have n1' := (hw'.cell (p := ⟨p', off' + j * 10 + 1, none⟩) hq2).trans n1; have n2' := (hw'.cell (p := ⟨p', off' + j * 10 + 2, none⟩) hq2).trans n2; have n3' := (hw'.cell (p := ⟨p', off' + j * 10 + 3, none⟩) hq2).trans n3; have n4' := (hw'.cell (p := ⟨p', off' + j * 10 + 4, none⟩) hq2).trans n4; have n5' := (hw'.cell (p := ⟨p', off' + j * 10 + 5, none⟩) hq2).trans n5; have n6' := (hw'.cell (p := ⟨p', off' + j * 10 + 6, none⟩) hq2).trans n6; have n7' := (hw'.cell (p := ⟨p', off' + j * 10 + 7, none⟩) hq2).trans n7; go_simp; try with_reducible rfl)
   simp only [rgn.l1, rgn.l2, rgn.l3, Act.put, rgn.l4, rgn.l5, rgn.l6]
   refine rgn.tl (i := 10) (v := ?v11) rfl (by kernel_rfl) (fun _ _ _ h => h) (by rfl) ?hy11 hS0 ?_
   case hy11 => (intro w' hw'; go_simp; try with_reducible rfl)
   simp only [rgn.l1, rgn.l2, rgn.l3, Act.put, rgn.l4, rgn.l5, rgn.l6]
   refine rgn.one (i := 11) _ rfl (by kernel_rfl) (by rfl) ?_
   simp only [rgn.l1, rgn.l2, rgn.l3, Act.put, rgn.l4, rgn.l5, rgn.l6]
   go_wp2_with fail
   refine ((unhide hC) _ bD).mono ?_
   rintro e' w2 ⟨rfl, b2⟩
   have b02 : Below wr.heap.size wr w2 := hS0.trans b2
   refine ⟨b02, ?_⟩
   clear hS0 b2 bD
   have hS0 := b02
   try simp only [rgn.l1, rgn.l2, rgn.l3, Act.put, rgn.l4, rgn.l5, rgn.l6]
   refine rgn.take (i := 12) _ (.bool true) rfl (by kernel_rfl) (by kernel_rfl) (by kernel_rfl) (fun _ _ _ h => h) (by rfl) hS0 (fun w' hw' => by go_simp) ?_
   simp only [rgn.l1, rgn.l2, rgn.l3, Act.put, rgn.l4, rgn.l5, rgn.l6]
   refine wpAnyH_done (by kernel_rfl) ?_ _; refine NoPanic.normal ?_
   have mNx := (b02.cell (p := ⟨p, off + j * 10, none⟩) hq1).trans m0
   have nNx := (b02.cell (p := ⟨p', off' + j * 10, none⟩) hq2).trans n0
   have m8x := (b02.cell (p := ⟨p, off + j * 10 + 8, none⟩) hq1).trans m8
   have n8x := (b02.cell (p := ⟨p', off' + j * 10 + 8, none⟩) hq2).trans n8
   have m9x := (b02.cell (p := ⟨p, off + j * 10 + 9, none⟩) hq1).trans m9
   have n9x := (b02.cell (p := ⟨p', off' + j * 10 + 9, none⟩) hq2).trans n9
   have hI2 := hI.trans (b02.mono hI.size)
   have g2 : p < w2.heap.size := Nat.lt_of_lt_of_le hq1 b02.size
   have g3 : p' < w2.heap.size := Nat.lt_of_lt_of_le hq2 b02.size
   clear m0 n0 m1 n1 m2 n2 m3 n3 m4 n4 m5 n5 m6 n6 m7 n7 m8 n8 m9 n9 hC hS0
   go_wp2_with fail
   have hS0 : Below w2.heap.size w2 { w2 with drawn := w2.drawn + 1 } := (Below.refl _ _).drew
   refine wp_region_noPanic ?_
   refine wp_region_held (S := fun w' => Below w2.heap.size w2 w') mixed ?_
   refine rgn.tl (i := 0) (v := ?v12) rfl (by kernel_rfl) (fun _ _ _ h => h) (by rfl) ?hy12 hS0 ?_
   case hy12 => (intro w' hw'; go_simp; try with_reducible rfl)
   simp only [rgn.l1, rgn.l2, rgn.l3, Act.put, rgn.l4, rgn.l5, rgn.l6]
   refine rgn.tl (i := 1) (v := ?v13) rfl (by kernel_rfl) (fun _ _ _ h => h) (by rfl) ?hy13 hS0 ?_
   case hy13 => (intro w' hw'; go_simp; try with_reducible rfl)
   simp only [rgn.l1, rgn.l2, rgn.l3, Act.put, rgn.l4, rgn.l5, rgn.l6]
   refine rgn.tl (i := 2) (v := ?v14) rfl (by kernel_rfl) (fun _ _ _ h => h) (by rfl) ?hy14 hS0 ?_
   case hy14 => (intro w' hw'; go_simp; try with_reducible rfl)
   simp only [rgn.l1, rgn.l2, rgn.l3, Act.put, rgn.l4, rgn.l5, rgn.l6]
   refine rgn.tl (i := 3) (v := ?v15) rfl (by kernel_rfl) (fun _ _ _ h => h) (by rfl) ?hy15 hS0 ?_
   case hy15 => (intro w' hw'; go_simp; try with_reducible rfl)
   simp only [rgn.l1, rgn.l2, rgn.l3, Act.put, rgn.l4, rgn.l5, rgn.l6]
   refine rgn.tl (i := 4) (v := ?v16) rfl (by kernel_rfl) (fun _ _ _ h => h) (by rfl) ?hy16 hS0 ?_
   case hy16 => (intro w' hw'; go_simp; try with_reducible rfl)
   simp only [rgn.l1, rgn.l2, rgn.l3, Act.put, rgn.l4, rgn.l5, rgn.l6]
   refine rgn.tl (i := 5) (v := ?v17) rfl (by kernel_rfl) (fun _ _ _ h => h) (by rfl) ?hy17 hS0 ?_
   case hy17 => (intro w' hw'; go_simp; try with_reducible rfl)
   simp only [rgn.l1, rgn.l2, rgn.l3, Act.put, rgn.l4, rgn.l5, rgn.l6]
   refine rgn.tl (i := 6) (v := ?v18) rfl (by kernel_rfl) (fun _ _ _ h => h) (by rfl) ?hy18 hS0 ?_
   case hy18 => (intro w' hw'; go_simp; try with_reducible rfl)
   simp only [rgn.l1, rgn.l2, rgn.l3, Act.put, rgn.l4, rgn.l5, rgn.l6]
   refine rgn.tl (i := 7) (v := ?v19) rfl (by kernel_rfl) (fun _ _ _ h => h) (by rfl) ?hy19 hS0 ?_
   case hy19 => (intro w' hw'; have mN' := (hw'.cell (p := ⟨p, off + j * 10, none⟩) g2).trans mNx; go_simp; try with_reducible rfl)
   simp only [rgn.l1, rgn.l2, rgn.l3, Act.put, rgn.l4, rgn.l5, rgn.l6]
   refine rgn.tl (i := 8) (v := ?v20) rfl (by kernel_rfl) (fun _ _ _ h => h) (by rfl) ?hy20 hS0 ?_
   case hy20 => (intro w' hw'; go_simp; try with_reducible rfl)
   simp only [rgn.l1, rgn.l2, rgn.l3, Act.put, rgn.l4, rgn.l5, rgn.l6]
   refine rgn.tl (i := 9) (v := ?v21) rfl (by kernel_rfl) (fun _ _ _ h => h) (by rfl) ?hy21 hS0 ?_
   case hy21 => (intro w' hw'; go_simp; try with_reducible rfl)
   simp only [rgn.l1, rgn.l2, rgn.l3, Act.put, rgn.l4, rgn.l5, rgn.l6]
   refine rgn.tl (i := 10) (v := ?v22) rfl (by kernel_rfl) (fun _ _ _ h => h) (by rfl) ?hy22 hS0 ?_
   case hy22 => (intro w' hw'; go_simp; try with_reducible rfl)
   simp only [rgn.l1, rgn.l2, rgn.l3, Act.put, rgn.l4, rgn.l5, rgn.l6]
   refine rgn.tl (i := 11) (v := ?v23) rfl (by kernel_rfl) (fun _ _ _ h => h) (by rfl) ?hy23 hS0 ?_
   case hy23 => (intro w' hw'; go_simp; try with_reducible rfl)
   simp only [rgn.l1, rgn.l2, rgn.l3, Act.put, rgn.l4, rgn.l5, rgn.l6]
   refine rgn.tl (i := 12) (v := ?v24) rfl (by kernel_rfl) (fun _ _ _ h => h) (by rfl) ?hy24 hS0 ?_
   case hy24 => (intro w' hw'; have nN' := (hw'.cell (p := ⟨p', off' + j * 10, none⟩) g3).trans nNx; go_simp; try with_reducible rfl)
   simp only [rgn.l1, rgn.l2, rgn.l3, Act.put, rgn.l4, rgn.l5, rgn.l6]
   refine rgn.tl (i := 13) (v := ?v25) rfl (by kernel_rfl) (fun _ _ _ h => h) (by rfl) ?hy25 hS0 ?_
   case hy25 => (intro w' hw'; go_simp; try with_reducible rfl)
   simp only [rgn.l1, rgn.l2, rgn.l3, Act.put, rgn.l4, rgn.l5, rgn.l6]
   refine rgn.tl (i := 14) (v := ?v26) rfl (by kernel_rfl) (fun _ _ _ h => h) (by rfl) ?hy26 hS0 ?_
   case hy26 => (intro w' hw'; go_simp; try with_reducible rfl)
   simp only [rgn.l1, rgn.l2, rgn.l3, Act.put, rgn.l4, rgn.l5, rgn.l6]
   refine rgn.tl (i := 15) (v := ?v27) rfl (by kernel_rfl) (fun _ _ _ h => h) (by rfl) ?hy27 hS0 ?_
   case hy27 => (intro w' hw'; go_simp; try with_reducible rfl)
   simp only [rgn.l1, rgn.l2, rgn.l3, Act.put, rgn.l4, rgn.l5, rgn.l6]
   refine rgn.tl (i := 16) (v := ?v28) rfl (by kernel_rfl) (fun _ _ _ h => h) (by rfl) ?hy28 hS0 ?_
   case hy28 => (intro w' hw'; go_simp; try with_reducible rfl)
   simp only [rgn.l1, rgn.l2, rgn.l3, Act.put, rgn.l4, rgn.l5, rgn.l6]
   refine rgn.tl (i := 17) (v := ?v29) rfl (by kernel_rfl) (fun _ _ _ h => h) (by rfl) ?hy29 hS0 ?_
   case hy29 => (intro w' hw'; go_simp; try with_reducible rfl)
   simp only [rgn.l1, rgn.l2, rgn.l3, Act.put, rgn.l4, rgn.l5, rgn.l6]
   refine rgn.tk (i := 18) (v := undef) rfl (by kernel_rfl) (fun _ _ _ h => h) (Or.inr ⟨by rfl, rfl⟩) hS0 ?_
   simp only [rgn.l1, rgn.l2, rgn.l3, Act.put, rgn.l4, rgn.l5, rgn.l6]
   refine rgn.tk (i := 19) (v := undef) rfl (by kernel_rfl) (fun _ _ _ h => h) (Or.inr ⟨by rfl, rfl⟩) hS0 ?_
   simp only [rgn.l1, rgn.l2, rgn.l3, Act.put, rgn.l4, rgn.l5, rgn.l6]
   refine rgn.tk (i := 20) (v := undef) rfl (by kernel_rfl) (fun _ _ _ h => h) (Or.inr ⟨by rfl, rfl⟩) hS0 ?_
   simp only [rgn.l1, rgn.l2, rgn.l3, Act.put, rgn.l4, rgn.l5, rgn.l6]
   refine rgn.tk (i := 21) (v := undef) rfl (by kernel_rfl) (fun _ _ _ h => h) (Or.inr ⟨by rfl, rfl⟩) hS0 ?_
   simp only [rgn.l1, rgn.l2, rgn.l3, Act.put, rgn.l4, rgn.l5, rgn.l6]
   refine rgn.tk (i := 22) (v := undef) rfl (by kernel_rfl) (fun _ _ _ h => h) (Or.inr ⟨by rfl, rfl⟩) hS0 ?_
   simp only [rgn.l1, rgn.l2, rgn.l3, Act.put, rgn.l4, rgn.l5, rgn.l6]
   refine rgn.tk (i := 23) (v := undef) rfl (by kernel_rfl) (fun _ _ _ h => h) (Or.inr ⟨by rfl, rfl⟩) hS0 ?_
   simp only [rgn.l1, rgn.l2, rgn.l3, Act.put, rgn.l4, rgn.l5, rgn.l6]
   refine rgn.tk (i := 24) (v := undef) rfl (by kernel_rfl) (fun _ _ _ h => h) (Or.inr ⟨by rfl, rfl⟩) hS0 ?_
   simp only [rgn.l1, rgn.l2, rgn.l3, Act.put, rgn.l4, rgn.l5, rgn.l6]
   refine rgn.tk (i := 25) (v := undef) rfl (by kernel_rfl) (fun _ _ _ h => h) (Or.inr ⟨by rfl, rfl⟩) hS0 ?_
   simp only [rgn.l1, rgn.l2, rgn.l3, Act.put, rgn.l4, rgn.l5, rgn.l6]
   refine rgn.tk (i := 26) (v := undef) rfl (by kernel_rfl) (fun _ _ _ h => h) (Or.inr ⟨by rfl, rfl⟩) hS0 ?_
   simp only [rgn.l1, rgn.l2, rgn.l3, Act.put, rgn.l4, rgn.l5, rgn.l6]
   refine rgn.tk (i := 27) (v := undef) rfl (by kernel_rfl) (fun _ _ _ h => h) (Or.inr ⟨by rfl, rfl⟩) hS0 ?_
   simp only [rgn.l1, rgn.l2, rgn.l3, Act.put, rgn.l4, rgn.l5, rgn.l6]
   refine rgn.tk (i := 28) (v := undef) rfl (by kernel_rfl) (fun _ _ _ h => h) (Or.inr ⟨by rfl, rfl⟩) hS0 ?_
   simp only [rgn.l1, rgn.l2, rgn.l3, Act.put, rgn.l4, rgn.l5, rgn.l6]
   refine rgn.tl (i := 29) (v := ?v30) rfl (by kernel_rfl) (fun _ _ _ h => h) (by rfl) ?hy30 hS0 ?_
   case hy30 => (intro w' hw'; go_simp; try with_reducible rfl)
   simp only [rgn.l1, rgn.l2, rgn.l3, Act.put, rgn.l4, rgn.l5, rgn.l6]
   refine rgn.tl (i := 30) (v := ?v31) rfl (by kernel_rfl) (fun _ _ _ h => h) (by rfl) ?hy31 hS0 ?_
   case hy31 => (intro w' hw'; go_simp; try with_reducible rfl)
   simp only [rgn.l1, rgn.l2, rgn.l3, Act.put, rgn.l4, rgn.l5, rgn.l6]
   refine wpAnyH_done (by kernel_rfl) ?_ _; refine NoPanic.normal ?_
   go_wp2_with fail
   go_roundw
   case rel => exact ⟨j + 1, by omega, by go_num, hI2.trans (hS0.mono hI2.size)⟩
   case measure => first | (simp [intOf]; omega) | simp [intOf]
  ·have ji : ¬ (j : Int) < (n : Int) := by omega
   have hI9 := hide hI
   clear hlt
   go_wp2_with fail
   go_ret
   exact ⟨rfl, unhide hI9⟩
set_option maxHeartbeats 8000000 in
set_option maxRecDepth 4000 in
theorem dirs_f (f : Nat) (l l' : List Dt) (h : EqLs (EqR false f) l l') : SmLs 23 false 4 l l' := by
 intro w a a' c c' F G hl hl' hF hG hc hc' hm hm'
 obtain ⟨hlen, hel⟩ := h
 have HEL := hide hel
 have HL := hide hl
 have HL' := hide hl'
 have HF := hide hF
 have HG := hide hG
 obtain ⟨n, hn⟩ : ∃ n, n = l.length := ⟨_, rfl⟩
 have hn' : n = l'.length := hn.trans hlen
 rw [← hn] at hc ⊢
 rw [← hn'] at hc' ⊢
 have Hn := hide (And.intro hn hn')
 clear hel hl hl' hF hG hn hn' hlen
 unfold maxLen at hm hm'
 go_enter Tryz.func23, Tryz.ntmps23
 go_wp2_with fail
 go_loopw [7] (fun i wr => ∃ j : Nat, j ≤ n ∧ i = .int .i64 j ∧ Below w.heap.size w wr) (fun i _ => n - (intOf i).toNat)
 case atStart => exact ⟨0, Nat.zero_le _, rfl, Below.refl _ _⟩
 case round =>
  obtain ⟨j, hj, rfl, hI⟩ := hrel
  by_cases hlt : j < n
  ·have ji : (j : Int) < (n : Int) := by omega
   have hlt1 : j < l.length := by have := unhide Hn; omega
   have hlt2 : j < l'.length := by have := unhide Hn; omega
   obtain ⟨p, off, rfl, hpF, hget⟩ := (unhide HL).resolve_left (fun h0 => by rw [h0] at hlt1; exact absurd hlt1 (Nat.not_lt_zero _))
   obtain ⟨p', off', rfl, hpG, hget'⟩ := (unhide HL').resolve_left (fun h0 => by rw [h0] at hlt2; exact absurd hlt2 (Nat.not_lt_zero _))
   obtain ⟨ds, G1, hrow, hdl, hod, hGF⟩ := hget j _ (List.getElem?_eq_getElem hlt1)
   obtain ⟨ds', G2, hrow', hdl', hod', hGG⟩ := hget' j _ (List.getElem?_eq_getElem hlt2)
   obtain ⟨nm, l1, l2, x1, y1, x2, y2, hx, hy, hxy, heq⟩ := (unhide HEL) j _ _ (List.getElem?_eq_getElem hlt1) (List.getElem?_eq_getElem hlt2)
   rw [hx] at hod
   rw [hy] at hod'
   obtain ⟨a1, c1, rfl, u1, u2, hov⟩ := dir_cells hod
   obtain ⟨a2, c2, rfl, u3, u4, hov'⟩ := dir_cells hod'
   clear hxy
   have HU := hide (And.intro (And.intro u1 u2) (And.intro u3 u4))
   obtain ⟨n1, hn1⟩ : ∃ n1, n1 = l1.length := ⟨_, rfl⟩
   obtain ⟨n2, hn2⟩ : ∃ n2, n2 = l2.length := ⟨_, rfl⟩
   clear hod hod' hx hy u1 u2 u3 u4
   have hplt := (unhide HF) p hpF
   have hplt' := (unhide HG) p' hpG
   have hC := (fun W (hb : Below w.heap.size w W) => args_f f l1 l2 heq W a1 a2 c1 c2 G1 G2 (hov.below (fun b hb' => (unhide HF) b (hGF b hb')) hb) (hov'.below (fun b hb' => (unhide HG) b (hGG b hb')) hb) (fun b hb' => Nat.lt_of_lt_of_le ((unhide HF) b (hGF b hb')) hb.size) (fun b hb' => Nat.lt_of_lt_of_le ((unhide HG) b (hGG b hb')) hb.size) (unhide HU).1.1 (unhide HU).2.1 (unhide HU).1.2 (unhide HU).2.2)
   rw [← hn1, ← hn2] at hC
   rw [← hn1] at hrow
   rw [← hn2] at hrow'
   replace hC := hide hC
   clear hn1 hn2
   have hr := fun (q : Nat) (u : Value) hu => (hI.cell (p := ⟨p, off + j * 4 + q, none⟩) hplt).trans (hrow q u hu)
   have hr' := fun (q : Nat) (u : Value) hu => (hI.cell (p := ⟨p', off' + j * 4 + q, none⟩) hplt').trans (hrow' q u hu)
   have m0 : wr.cell? ⟨p, off + j * 4, none⟩ = some (.string nm) := hr 0 _ rfl
   have m1 : wr.cell? ⟨p, off + j * 4 + 1, none⟩ = some (.slice a1 n1 c1) := hr 1 _ rfl
   have m2 : wr.cell? ⟨p, off + j * 4 + 2, none⟩ = some (.int .i64 x1) := hr 2 _ rfl
   have m3 : wr.cell? ⟨p, off + j * 4 + 3, none⟩ = some (.int .i64 y1) := hr 3 _ rfl
   have n0 : wr.cell? ⟨p', off' + j * 4, none⟩ = some (.string nm) := hr' 0 _ rfl
   have n1 : wr.cell? ⟨p', off' + j * 4 + 1, none⟩ = some (.slice a2 n2 c2) := hr' 1 _ rfl
   have n2 : wr.cell? ⟨p', off' + j * 4 + 2, none⟩ = some (.int .i64 x2) := hr' 2 _ rfl
   have n3 : wr.cell? ⟨p', off' + j * 4 + 3, none⟩ = some (.int .i64 y2) := hr' 3 _ rfl
   have hq1 : p < wr.heap.size := Nat.lt_of_lt_of_le hplt hI.size
   have hq2 : p' < wr.heap.size := Nat.lt_of_lt_of_le hplt' hI.size
   clear hr hr' hrow hrow' hov hov' heq hdl hdl' hget hget'
   go_wp2_with fail
   have hS0 : Below wr.heap.size wr { wr with drawn := wr.drawn + 1 } := (Below.refl _ _).drew
   have bD := hI.trans (hS0.mono hI.size)
   refine wp_region_noPanic ?_
   refine wp_region_held (S := fun w' => Below wr.heap.size wr w') mixed ?_
   refine rgn.tl (i := 0) (v := ?v1) rfl (by kernel_rfl) (fun _ _ _ h => h) (by rfl) ?hy1 hS0 ?_
   case hy1 => (intro w' hw'; go_simp; try with_reducible rfl)
   simp only [rgn.l1, rgn.l2, rgn.l3, Act.put, rgn.l4, rgn.l5, rgn.l6]
   refine rgn.tl (i := 1) (v := ?v2) rfl (by kernel_rfl) (fun _ _ _ h => h) (by rfl) ?hy2 hS0 ?_
   case hy2 => (intro w' hw'; go_simp; try with_reducible rfl)
   simp only [rgn.l1, rgn.l2, rgn.l3, Act.put, rgn.l4, rgn.l5, rgn.l6]
   refine rgn.tl (i := 2) (v := ?v3) rfl (by kernel_rfl) (fun _ _ _ h => h) (by rfl) ?hy3 hS0 ?_
   case hy3 => (intro w' hw'; go_simp; try with_reducible rfl)
   simp only [rgn.l1, rgn.l2, rgn.l3, Act.put, rgn.l4, rgn.l5, rgn.l6]
   refine rgn.tl (i := 3) (v := ?v4) rfl (by kernel_rfl) (fun _ _ _ h => h) (by rfl) ?hy4 hS0 ?_
   case hy4 => (intro w' hw'; go_simp; try with_reducible rfl)
   simp only [rgn.l1, rgn.l2, rgn.l3, Act.put, rgn.l4, rgn.l5, rgn.l6]
   refine rgn.tl (i := 4) (v := ?v5) rfl (by kernel_rfl) (fun _ _ _ h => h) (by rfl) ?hy5 hS0 ?_
   case hy5 => (intro w' hw'; have m1' := (hw'.cell (p := ⟨p, off + j * 4 + 1, none⟩) hq1).trans m1; go_simp; try with_reducible rfl)
   simp only [rgn.l1, rgn.l2, rgn.l3, Act.put, rgn.l4, rgn.l5, rgn.l6]
   refine rgn.tl (i := 5) (v := ?v6) rfl (by kernel_rfl) (fun _ _ _ h => h) (by rfl) ?hy6 hS0 ?_
   case hy6 => (intro w' hw'; go_simp; try with_reducible rfl)
   simp only [rgn.l1, rgn.l2, rgn.l3, Act.put, rgn.l4, rgn.l5, rgn.l6]
   refine rgn.tl (i := 6) (v := ?v7) rfl (by kernel_rfl) (fun _ _ _ h => h) (by rfl) ?hy7 hS0 ?_
   case hy7 => (intro w' hw'; go_simp; try with_reducible rfl)
   simp only [rgn.l1, rgn.l2, rgn.l3, Act.put, rgn.l4, rgn.l5, rgn.l6]
   refine rgn.tl (i := 7) (v := ?v8) rfl (by kernel_rfl) (fun _ _ _ h => h) (by rfl) ?hy8 hS0 ?_
   case hy8 => (intro w' hw'; go_simp; try with_reducible rfl)
   simp only [rgn.l1, rgn.l2, rgn.l3, Act.put, rgn.l4, rgn.l5, rgn.l6]
   refine rgn.tl (i := 8) (v := ?v9) rfl (by kernel_rfl) (fun _ _ _ h => h) (by rfl) ?hy9 hS0 ?_
   case hy9 => (intro w' hw'; go_simp; try with_reducible rfl)
   simp only [rgn.l1, rgn.l2, rgn.l3, Act.put, rgn.l4, rgn.l5, rgn.l6]
   refine rgn.tl (i := 9) (v := ?v10) rfl (by kernel_rfl) (fun _ _ _ h => h) (by rfl) ?hy10 hS0 ?_
   case hy10 => (intro w' hw'; have n1' := (hw'.cell (p := ⟨p', off' + j * 4 + 1, none⟩) hq2).trans n1; go_simp; try with_reducible rfl)
   simp only [rgn.l1, rgn.l2, rgn.l3, Act.put, rgn.l4, rgn.l5, rgn.l6]
   refine rgn.tl (i := 10) (v := ?v11) rfl (by kernel_rfl) (fun _ _ _ h => h) (by rfl) ?hy11 hS0 ?_
   case hy11 => (intro w' hw'; go_simp; try with_reducible rfl)
   simp only [rgn.l1, rgn.l2, rgn.l3, Act.put, rgn.l4, rgn.l5, rgn.l6]
   refine rgn.one (i := 11) _ rfl (by kernel_rfl) (by rfl) ?_
   simp only [rgn.l1, rgn.l2, rgn.l3, Act.put, rgn.l4, rgn.l5, rgn.l6]
   go_wp2_with fail
   refine ((unhide hC) _ bD).mono ?_
   rintro e' w2 ⟨rfl, b2⟩
   have b02 : Below wr.heap.size wr w2 := hS0.trans b2
   refine ⟨b02, ?_⟩
   clear hS0 b2 bD
   have hS0 := b02
   try simp only [rgn.l1, rgn.l2, rgn.l3, Act.put, rgn.l4, rgn.l5, rgn.l6]
   refine rgn.take (i := 12) _ (.bool true) rfl (by kernel_rfl) (by kernel_rfl) (by kernel_rfl) (fun _ _ _ h => h) (by rfl) hS0 (fun w' hw' => by go_simp) ?_
   simp only [rgn.l1, rgn.l2, rgn.l3, Act.put, rgn.l4, rgn.l5, rgn.l6]
   refine wpAnyH_done (by kernel_rfl) ?_ _; refine NoPanic.normal ?_
   have mNx := (b02.cell (p := ⟨p, off + j * 4, none⟩) hq1).trans m0
   have nNx := (b02.cell (p := ⟨p', off' + j * 4, none⟩) hq2).trans n0
   have m8x := (b02.cell (p := ⟨p, off + j * 4 + 2, none⟩) hq1).trans m2
   have n8x := (b02.cell (p := ⟨p', off' + j * 4 + 2, none⟩) hq2).trans n2
   have m9x := (b02.cell (p := ⟨p, off + j * 4 + 3, none⟩) hq1).trans m3
   have n9x := (b02.cell (p := ⟨p', off' + j * 4 + 3, none⟩) hq2).trans n3
   have hI2 := hI.trans (b02.mono hI.size)
   have g2 : p < w2.heap.size := Nat.lt_of_lt_of_le hq1 b02.size
   have g3 : p' < w2.heap.size := Nat.lt_of_lt_of_le hq2 b02.size
   clear m0 n0 m1 n1 m2 n2 m3 n3 hC hS0
   go_wp2_with fail
   have hS0 : Below w2.heap.size w2 { w2 with drawn := w2.drawn + 1 } := (Below.refl _ _).drew
   refine wp_region_noPanic ?_
   refine wp_region_held (S := fun w' => Below w2.heap.size w2 w') mixed ?_
   refine rgn.tl (i := 0) (v := ?v12) rfl (by kernel_rfl) (fun _ _ _ h => h) (by rfl) ?hy12 hS0 ?_
   case hy12 => (intro w' hw'; go_simp; try with_reducible rfl)
   simp only [rgn.l1, rgn.l2, rgn.l3, Act.put, rgn.l4, rgn.l5, rgn.l6]
   refine rgn.tl (i := 1) (v := ?v13) rfl (by kernel_rfl) (fun _ _ _ h => h) (by rfl) ?hy13 hS0 ?_
   case hy13 => (intro w' hw'; go_simp; try with_reducible rfl)
   simp only [rgn.l1, rgn.l2, rgn.l3, Act.put, rgn.l4, rgn.l5, rgn.l6]
   refine rgn.tl (i := 2) (v := ?v14) rfl (by kernel_rfl) (fun _ _ _ h => h) (by rfl) ?hy14 hS0 ?_
   case hy14 => (intro w' hw'; go_simp; try with_reducible rfl)
   simp only [rgn.l1, rgn.l2, rgn.l3, Act.put, rgn.l4, rgn.l5, rgn.l6]
   refine rgn.tl (i := 3) (v := ?v15) rfl (by kernel_rfl) (fun _ _ _ h => h) (by rfl) ?hy15 hS0 ?_
   case hy15 => (intro w' hw'; go_simp; try with_reducible rfl)
   simp only [rgn.l1, rgn.l2, rgn.l3, Act.put, rgn.l4, rgn.l5, rgn.l6]
   refine rgn.tl (i := 4) (v := ?v16) rfl (by kernel_rfl) (fun _ _ _ h => h) (by rfl) ?hy16 hS0 ?_
   case hy16 => (intro w' hw'; go_simp; try with_reducible rfl)
   simp only [rgn.l1, rgn.l2, rgn.l3, Act.put, rgn.l4, rgn.l5, rgn.l6]
   refine rgn.tl (i := 5) (v := ?v17) rfl (by kernel_rfl) (fun _ _ _ h => h) (by rfl) ?hy17 hS0 ?_
   case hy17 => (intro w' hw'; go_simp; try with_reducible rfl)
   simp only [rgn.l1, rgn.l2, rgn.l3, Act.put, rgn.l4, rgn.l5, rgn.l6]
   refine rgn.tl (i := 6) (v := ?v18) rfl (by kernel_rfl) (fun _ _ _ h => h) (by rfl) ?hy18 hS0 ?_
   case hy18 => (intro w' hw'; go_simp; try with_reducible rfl)
   simp only [rgn.l1, rgn.l2, rgn.l3, Act.put, rgn.l4, rgn.l5, rgn.l6]
   refine rgn.tl (i := 7) (v := ?v19) rfl (by kernel_rfl) (fun _ _ _ h => h) (by rfl) ?hy19 hS0 ?_
   case hy19 => (intro w' hw'; have mN' := (hw'.cell (p := ⟨p, off + j * 4, none⟩) g2).trans mNx; go_simp; try with_reducible rfl)
   simp only [rgn.l1, rgn.l2, rgn.l3, Act.put, rgn.l4, rgn.l5, rgn.l6]
   refine rgn.tl (i := 8) (v := ?v20) rfl (by kernel_rfl) (fun _ _ _ h => h) (by rfl) ?hy20 hS0 ?_
   case hy20 => (intro w' hw'; go_simp; try with_reducible rfl)
   simp only [rgn.l1, rgn.l2, rgn.l3, Act.put, rgn.l4, rgn.l5, rgn.l6]
   refine rgn.tl (i := 9) (v := ?v21) rfl (by kernel_rfl) (fun _ _ _ h => h) (by rfl) ?hy21 hS0 ?_
   case hy21 => (intro w' hw'; go_simp; try with_reducible rfl)
   simp only [rgn.l1, rgn.l2, rgn.l3, Act.put, rgn.l4, rgn.l5, rgn.l6]
   refine rgn.tl (i := 10) (v := ?v22) rfl (by kernel_rfl) (fun _ _ _ h => h) (by rfl) ?hy22 hS0 ?_
   case hy22 => (intro w' hw'; go_simp; try with_reducible rfl)
   simp only [rgn.l1, rgn.l2, rgn.l3, Act.put, rgn.l4, rgn.l5, rgn.l6]
   refine rgn.tl (i := 11) (v := ?v23) rfl (by kernel_rfl) (fun _ _ _ h => h) (by rfl) ?hy23 hS0 ?_
   case hy23 => (intro w' hw'; go_simp; try with_reducible rfl)
   simp only [rgn.l1, rgn.l2, rgn.l3, Act.put, rgn.l4, rgn.l5, rgn.l6]
   refine rgn.tl (i := 12) (v := ?v24) rfl (by kernel_rfl) (fun _ _ _ h => h) (by rfl) ?hy24 hS0 ?_
   case hy24 => (intro w' hw'; have nN' := (hw'.cell (p := ⟨p', off' + j * 4, none⟩) g3).trans nNx; go_simp; try with_reducible rfl)
   simp only [rgn.l1, rgn.l2, rgn.l3, Act.put, rgn.l4, rgn.l5, rgn.l6]
   refine rgn.tl (i := 13) (v := ?v25) rfl (by kernel_rfl) (fun _ _ _ h => h) (by rfl) ?hy25 hS0 ?_
   case hy25 => (intro w' hw'; go_simp; try with_reducible rfl)
   simp only [rgn.l1, rgn.l2, rgn.l3, Act.put, rgn.l4, rgn.l5, rgn.l6]
   refine rgn.tl (i := 14) (v := ?v26) rfl (by kernel_rfl) (fun _ _ _ h => h) (by rfl) ?hy26 hS0 ?_
   case hy26 => (intro w' hw'; go_simp; try with_reducible rfl)
   simp only [rgn.l1, rgn.l2, rgn.l3, Act.put, rgn.l4, rgn.l5, rgn.l6]
   refine rgn.tl (i := 15) (v := ?v27) rfl (by kernel_rfl) (fun _ _ _ h => h) (by rfl) ?hy27 hS0 ?_
   case hy27 => (intro w' hw'; go_simp; try with_reducible rfl)
   simp only [rgn.l1, rgn.l2, rgn.l3, Act.put, rgn.l4, rgn.l5, rgn.l6]
   refine rgn.tl (i := 16) (v := ?v28) rfl (by kernel_rfl) (fun _ _ _ h => h) (by rfl) ?hy28 hS0 ?_
   case hy28 => (intro w' hw'; go_simp; try with_reducible rfl)
   simp only [rgn.l1, rgn.l2, rgn.l3, Act.put, rgn.l4, rgn.l5, rgn.l6]
   refine rgn.tl (i := 17) (v := ?v29) rfl (by kernel_rfl) (fun _ _ _ h => h) (by rfl) ?hy29 hS0 ?_
   case hy29 => (intro w' hw'; go_simp; try with_reducible rfl)
   simp only [rgn.l1, rgn.l2, rgn.l3, Act.put, rgn.l4, rgn.l5, rgn.l6]
   refine rgn.tk (i := 18) (v := undef) rfl (by kernel_rfl) (fun _ _ _ h => h) (Or.inr ⟨by rfl, rfl⟩) hS0 ?_
   simp only [rgn.l1, rgn.l2, rgn.l3, Act.put, rgn.l4, rgn.l5, rgn.l6]
   refine rgn.tk (i := 19) (v := undef) rfl (by kernel_rfl) (fun _ _ _ h => h) (Or.inr ⟨by rfl, rfl⟩) hS0 ?_
   simp only [rgn.l1, rgn.l2, rgn.l3, Act.put, rgn.l4, rgn.l5, rgn.l6]
   refine rgn.tk (i := 20) (v := undef) rfl (by kernel_rfl) (fun _ _ _ h => h) (Or.inr ⟨by rfl, rfl⟩) hS0 ?_
   simp only [rgn.l1, rgn.l2, rgn.l3, Act.put, rgn.l4, rgn.l5, rgn.l6]
   refine rgn.tk (i := 21) (v := undef) rfl (by kernel_rfl) (fun _ _ _ h => h) (Or.inr ⟨by rfl, rfl⟩) hS0 ?_
   simp only [rgn.l1, rgn.l2, rgn.l3, Act.put, rgn.l4, rgn.l5, rgn.l6]
   refine rgn.tk (i := 22) (v := undef) rfl (by kernel_rfl) (fun _ _ _ h => h) (Or.inr ⟨by rfl, rfl⟩) hS0 ?_
   simp only [rgn.l1, rgn.l2, rgn.l3, Act.put, rgn.l4, rgn.l5, rgn.l6]
   refine rgn.tk (i := 23) (v := undef) rfl (by kernel_rfl) (fun _ _ _ h => h) (Or.inr ⟨by rfl, rfl⟩) hS0 ?_
   simp only [rgn.l1, rgn.l2, rgn.l3, Act.put, rgn.l4, rgn.l5, rgn.l6]
   refine rgn.tk (i := 24) (v := undef) rfl (by kernel_rfl) (fun _ _ _ h => h) (Or.inr ⟨by rfl, rfl⟩) hS0 ?_
   simp only [rgn.l1, rgn.l2, rgn.l3, Act.put, rgn.l4, rgn.l5, rgn.l6]
   refine rgn.tk (i := 25) (v := undef) rfl (by kernel_rfl) (fun _ _ _ h => h) (Or.inr ⟨by rfl, rfl⟩) hS0 ?_
   simp only [rgn.l1, rgn.l2, rgn.l3, Act.put, rgn.l4, rgn.l5, rgn.l6]
   refine rgn.tk (i := 26) (v := undef) rfl (by kernel_rfl) (fun _ _ _ h => h) (Or.inr ⟨by rfl, rfl⟩) hS0 ?_
   simp only [rgn.l1, rgn.l2, rgn.l3, Act.put, rgn.l4, rgn.l5, rgn.l6]
   refine rgn.tk (i := 27) (v := undef) rfl (by kernel_rfl) (fun _ _ _ h => h) (Or.inr ⟨by rfl, rfl⟩) hS0 ?_
   simp only [rgn.l1, rgn.l2, rgn.l3, Act.put, rgn.l4, rgn.l5, rgn.l6]
   refine rgn.tk (i := 28) (v := undef) rfl (by kernel_rfl) (fun _ _ _ h => h) (Or.inr ⟨by rfl, rfl⟩) hS0 ?_
   simp only [rgn.l1, rgn.l2, rgn.l3, Act.put, rgn.l4, rgn.l5, rgn.l6]
   refine rgn.tl (i := 29) (v := ?v30) rfl (by kernel_rfl) (fun _ _ _ h => h) (by rfl) ?hy30 hS0 ?_
   case hy30 => (intro w' hw'; go_simp; try with_reducible rfl)
   simp only [rgn.l1, rgn.l2, rgn.l3, Act.put, rgn.l4, rgn.l5, rgn.l6]
   refine rgn.tl (i := 30) (v := ?v31) rfl (by kernel_rfl) (fun _ _ _ h => h) (by rfl) ?hy31 hS0 ?_
   case hy31 => (intro w' hw'; go_simp; try with_reducible rfl)
   simp only [rgn.l1, rgn.l2, rgn.l3, Act.put, rgn.l4, rgn.l5, rgn.l6]
   refine wpAnyH_done (by kernel_rfl) ?_ _; refine NoPanic.normal ?_
   go_wp2_with fail
   go_roundw
   case rel => exact ⟨j + 1, by omega, by go_num, hI2.trans (hS0.mono hI2.size)⟩
   case measure => first | (simp [intOf]; omega) | simp [intOf]
  ·have ji : ¬ (j : Int) < (n : Int) := by omega
   have hI9 := hide hI
   clear hlt
   go_wp2_with fail
   go_ret
   exact ⟨rfl, unhide hI9⟩
set_option maxHeartbeats 8000000 in
set_option maxRecDepth 4000 in
theorem sels_fs (f g : Nat) (ih : ∀ g', g = g' + 1 → ∀ l l', EqLs (EqS false f g') l l' → SmLs 13 false 9 l l') (l l' : List Dt) (h : EqLs (EqS false f g) l l') : SmLs 13 false 9 l l' := by
 have IH := hide ih
 clear ih
 intro w a a' c c' F G hl hl' hF hG hc hc' hm hm'
 obtain ⟨hlen, hel⟩ := h
 have HEL := hide hel
 have HL := hide hl
 have HL' := hide hl'
 have HF := hide hF
 have HG := hide hG
 obtain ⟨n, hn⟩ : ∃ n, n = l.length := ⟨_, rfl⟩
 have hn' : n = l'.length := hn.trans hlen
 rw [← hn] at hc ⊢
 rw [← hn'] at hc' ⊢
 have Hn := hide (And.intro hn hn')
 clear hel hl hl' hF hG hn hn' hlen
 unfold maxLen at hm hm'
 go_enter Tryz.func13, Tryz.ntmps13
 go_wp2_with fail
 go_loopw [7] (fun i wr => ∃ j : Nat, j ≤ n ∧ i = .int .i64 j ∧ Below w.heap.size w wr) (fun i _ => n - (intOf i).toNat)
 case atStart => exact ⟨0, Nat.zero_le _, rfl, Below.refl _ _⟩
 case round =>
  obtain ⟨j, hj, rfl, hI⟩ := hrel
  by_cases hlt : j < n
  ·have ji : (j : Int) < (n : Int) := by omega
   have hlt1 : j < l.length := by have := unhide Hn; omega
   have hlt2 : j < l'.length := by have := unhide Hn; omega
   obtain ⟨p, off, rfl, hpF, hget⟩ := (unhide HL).resolve_left (fun h0 => by rw [h0] at hlt1; exact absurd hlt1 (Nat.not_lt_zero _))
   obtain ⟨p', off', rfl, hpG, hget'⟩ := (unhide HL').resolve_left (fun h0 => by rw [h0] at hlt2; exact absurd hlt2 (Nat.not_lt_zero _))
   obtain ⟨ds, G1, hrow, hdl, hod, hGF⟩ := hget j _ (List.getElem?_eq_getElem hlt1)
   obtain ⟨ds', G2, hrow', hdl', hod', hGG⟩ := hget' j _ (List.getElem?_eq_getElem hlt2)
   have heqS := (unhide HEL) j _ _ (List.getElem?_eq_getElem hlt1) (List.getElem?_eq_getElem hlt2)
   obtain ⟨g', hg'⟩ : ∃ g', g = g' + 1 := by
    cases g with
    | zero => exact heqS.elim
    | succ g' => exact ⟨g', rfl⟩
   rw [hg'] at heqS
   obtain ⟨k, al, nm, on, l1, l2, m1', m2', o1', o2', x1, y1, x2, y2, hx, hy, hxy, hq1', hq2', hq3'⟩ := heqS
   rw [hx] at hod
   rw [hy] at hod'
   obtain ⟨a1, c1, b1, d1, e1, g1, rfl, u1, hv1, hv2, hv3⟩ := sel_cells hod
   obtain ⟨a2, c2, b2, d2, e2, g2, rfl, u2, hv1', hv2', hv3'⟩ := sel_cells hod'
   clear hxy
   have hplt := (unhide HF) p hpF
   have hplt' := (unhide HG) p' hpG
   have hC4 := (fun W (hb : Below w.heap.size w W) => args_f f l1 l2 hq1' W a1 a2 c1 c2 G1 G2 (hv1.below (fun b hb' => (unhide HF) b (hGF b hb')) hb) (hv1'.below (fun b hb' => (unhide HG) b (hGG b hb')) hb) (fun b hb' => Nat.lt_of_lt_of_le ((unhide HF) b (hGF b hb')) hb.size) (fun b hb' => Nat.lt_of_lt_of_le ((unhide HG) b (hGG b hb')) hb.size) u1.1 u2.1 u1.2.1 u2.2.1)
   have hC5 := (fun W (hb : Below w.heap.size w W) => dirs_f f m1' m2' hq2' W b1 b2 d1 d2 G1 G2 (hv2.below (fun b hb' => (unhide HF) b (hGF b hb')) hb) (hv2'.below (fun b hb' => (unhide HG) b (hGG b hb')) hb) (fun b hb' => Nat.lt_of_lt_of_le ((unhide HF) b (hGF b hb')) hb.size) (fun b hb' => Nat.lt_of_lt_of_le ((unhide HG) b (hGG b hb')) hb.size) u1.2.2.1 u2.2.2.1 u1.2.2.2.1 u2.2.2.2.1)
   have hC6 := (fun W (hb : Below w.heap.size w W) => (unhide IH) g' hg' o1' o2' hq3' W e1 e2 g1 g2 G1 G2 (hv3.below (fun b hb' => (unhide HF) b (hGF b hb')) hb) (hv3'.below (fun b hb' => (unhide HG) b (hGG b hb')) hb) (fun b hb' => Nat.lt_of_lt_of_le ((unhide HF) b (hGF b hb')) hb.size) (fun b hb' => Nat.lt_of_lt_of_le ((unhide HG) b (hGG b hb')) hb.size) u1.2.2.2.2.1 u2.2.2.2.2.1 u1.2.2.2.2.2 u2.2.2.2.2.2)
   obtain ⟨n1, hn1⟩ : ∃ z, z = l1.length := ⟨_, rfl⟩
   obtain ⟨n2, hn2⟩ : ∃ z, z = l2.length := ⟨_, rfl⟩
   rw [← hn1, ← hn2] at hC4
   replace hC4 := hide hC4
   rw [← hn1] at hrow
   rw [← hn2] at hrow'
   obtain ⟨m1, hm1⟩ : ∃ z, z = m1'.length := ⟨_, rfl⟩
   obtain ⟨m2, hm2⟩ : ∃ z, z = m2'.length := ⟨_, rfl⟩
   rw [← hm1, ← hm2] at hC5
   replace hC5 := hide hC5
   rw [← hm1] at hrow
   rw [← hm2] at hrow'
   obtain ⟨o1, ho1⟩ : ∃ z, z = o1'.length := ⟨_, rfl⟩
   obtain ⟨o2, ho2⟩ : ∃ z, z = o2'.length := ⟨_, rfl⟩
   rw [← ho1, ← ho2] at hC6
   replace hC6 := hide hC6
   rw [← ho1] at hrow
   rw [← ho2] at hrow'
   have hr := fun (q : Nat) (u : Value) hu => (hI.cell (p := ⟨p, off + j * 9 + q, none⟩) hplt).trans (hrow q u hu)
   have hr' := fun (q : Nat) (u : Value) hu => (hI.cell (p := ⟨p', off' + j * 9 + q, none⟩) hplt').trans (hrow' q u hu)
   have r0 : wr.cell? ⟨p, off + j * 9, none⟩ = some (.int .i64 k) := hr 0 _ rfl
   have r1 : wr.cell? ⟨p, off + j * 9 + 1, none⟩ = some (.string al) := hr 1 _ rfl
   have r2 : wr.cell? ⟨p, off + j * 9 + 2, none⟩ = some (.string nm) := hr 2 _ rfl
   have r3 : wr.cell? ⟨p, off + j * 9 + 3, none⟩ = some (.string on) := hr 3 _ rfl
   have r4 : wr.cell? ⟨p, off + j * 9 + 4, none⟩ = some (.slice a1 n1 c1) := hr 4 _ rfl
   have r5 : wr.cell? ⟨p, off + j * 9 + 5, none⟩ = some (.slice b1 m1 d1) := hr 5 _ rfl
   have r6 : wr.cell? ⟨p, off + j * 9 + 6, none⟩ = some (.slice e1 o1 g1) := hr 6 _ rfl
   have r7 : wr.cell? ⟨p, off + j * 9 + 7, none⟩ = some (.int .i64 x1) := hr 7 _ rfl
   have r8 : wr.cell? ⟨p, off + j * 9 + 8, none⟩ = some (.int .i64 y1) := hr 8 _ rfl
   have s0 : wr.cell? ⟨p', off' + j * 9, none⟩ = some (.int .i64 k) := hr' 0 _ rfl
   have s1 : wr.cell? ⟨p', off' + j * 9 + 1, none⟩ = some (.string al) := hr' 1 _ rfl
   have s2 : wr.cell? ⟨p', off' + j * 9 + 2, none⟩ = some (.string nm) := hr' 2 _ rfl
   have s3 : wr.cell? ⟨p', off' + j * 9 + 3, none⟩ = some (.string on) := hr' 3 _ rfl
   have s4 : wr.cell? ⟨p', off' + j * 9 + 4, none⟩ = some (.slice a2 n2 c2) := hr' 4 _ rfl
   have s5 : wr.cell? ⟨p', off' + j * 9 + 5, none⟩ = some (.slice b2 m2 d2) := hr' 5 _ rfl
   have s6 : wr.cell? ⟨p', off' + j * 9 + 6, none⟩ = some (.slice e2 o2 g2) := hr' 6 _ rfl
   have s7 : wr.cell? ⟨p', off' + j * 9 + 7, none⟩ = some (.int .i64 x2) := hr' 7 _ rfl
   have s8 : wr.cell? ⟨p', off' + j * 9 + 8, none⟩ = some (.int .i64 y2) := hr' 8 _ rfl
   obtain ⟨W2, hW2⟩ : ∃ W2, W2 = (wr.alloc (.cells #[.int .i64 k, .string al, .string nm, .string on, .slice a1 n1 c1, .slice b1 m1 d1, .slice e1 o1 g1, .int .i64 x1, .int .i64 y1] 57)).alloc (.cells #[.int .i64 k, .string al, .string nm, .string on, .slice a2 n2 c2, .slice b2 m2 d2, .slice e2 o2 g2, .int .i64 x2, .int .i64 y2] 57) := ⟨_, rfl⟩
   have hX := (show W2.heap[wr.heap.size]? = some (.cells #[.int .i64 k, .string al, .string nm, .string on, .slice a1 n1 c1, .slice b1 m1 d1, .slice e1 o1 g1, .int .i64 x1, .int .i64 y1] 57 (0, 0)) ∧ W2.heap[wr.heap.size + 1]? = some (.cells #[.int .i64 k, .string al, .string nm, .string on, .slice a2 n2 c2, .slice b2 m2 d2, .slice e2 o2 g2, .int .i64 x2, .int .i64 y2] 57 (0, 0)) from by rw [hW2]; exact two_at _ _ _ _ _)
   have bX : Below wr.heap.size wr W2 := by rw [hW2]; exact two_alloc _ _ _
   have zX : wr.heap.size + 2 ≤ W2.heap.size := by rw [hW2]; simp
   have bW := hI.trans (bX.mono hI.size)
   have HX := hide hX
   have hq1 : p < wr.heap.size := Nat.lt_of_lt_of_le hplt hI.size
   have hq2 : p' < wr.heap.size := Nat.lt_of_lt_of_le hplt' hI.size
   have s2 : ∀ o, (wr.alloc o).cell? ⟨p, 0, none⟩ = wr.cell? ⟨p, 0, none⟩ := fun o => ((Below.refl _ _).alloc (Nat.le_refl _) o).cell (p := ⟨p, 0, none⟩) hq1
   clear s2
   have s0x : ∀ o, (wr.alloc o).cell? ⟨p', off' + j * 9, none⟩ = some (.int .i64 k) := fun o => (((Below.refl _ _).alloc (Nat.le_refl _) o).cell (p := ⟨p', off' + j * 9, none⟩) hq2).trans s0
   have s1x : ∀ o, (wr.alloc o).cell? ⟨p', off' + j * 9 + 1, none⟩ = some (.string al) := fun o => (((Below.refl _ _).alloc (Nat.le_refl _) o).cell (p := ⟨p', off' + j * 9 + 1, none⟩) hq2).trans s1
   have s2x : ∀ o, (wr.alloc o).cell? ⟨p', off' + j * 9 + 2, none⟩ = some (.string nm) := fun o => (((Below.refl _ _).alloc (Nat.le_refl _) o).cell (p := ⟨p', off' + j * 9 + 2, none⟩) hq2).trans s2
   have s3x : ∀ o, (wr.alloc o).cell? ⟨p', off' + j * 9 + 3, none⟩ = some (.string on) := fun o => (((Below.refl _ _).alloc (Nat.le_refl _) o).cell (p := ⟨p', off' + j * 9 + 3, none⟩) hq2).trans s3
   have s4x : ∀ o, (wr.alloc o).cell? ⟨p', off' + j * 9 + 4, none⟩ = some (.slice a2 n2 c2) := fun o => (((Below.refl _ _).alloc (Nat.le_refl _) o).cell (p := ⟨p', off' + j * 9 + 4, none⟩) hq2).trans s4
   have s5x : ∀ o, (wr.alloc o).cell? ⟨p', off' + j * 9 + 5, none⟩ = some (.slice b2 m2 d2) := fun o => (((Below.refl _ _).alloc (Nat.le_refl _) o).cell (p := ⟨p', off' + j * 9 + 5, none⟩) hq2).trans s5
   have s6x : ∀ o, (wr.alloc o).cell? ⟨p', off' + j * 9 + 6, none⟩ = some (.slice e2 o2 g2) := fun o => (((Below.refl _ _).alloc (Nat.le_refl _) o).cell (p := ⟨p', off' + j * 9 + 6, none⟩) hq2).trans s6
   have s7x : ∀ o, (wr.alloc o).cell? ⟨p', off' + j * 9 + 7, none⟩ = some (.int .i64 x2) := fun o => (((Below.refl _ _).alloc (Nat.le_refl _) o).cell (p := ⟨p', off' + j * 9 + 7, none⟩) hq2).trans s7
   have s8x : ∀ o, (wr.alloc o).cell? ⟨p', off' + j * 9 + 8, none⟩ = some (.int .i64 y2) := fun o => (((Below.refl _ _).alloc (Nat.le_refl _) o).cell (p := ⟨p', off' + j * 9 + 8, none⟩) hq2).trans s8
   clear s0 s1 s2 s3 s4 s5 s6 s7 s8
   clear hr hr' hrow hrow' hdl hdl' hget hget' hod hod' hX hn1 hn2 hm1 hm2 ho1 ho2 hg' hq1' hq2' hq3' u1 u2 hv1 hv2 hv3 hv1' hv2' hv3' hx hy
   go_wp2_with fail
   rw [← hW2]
   clear hW2 r0 s0x r1 s1x r2 s2x r3 s3x r4 s4x r5 s5x r6 s6x r7 s7x r8 s8x
   refine ((unhide hC4) W2 bW).mono ?_
   rintro e' v0 ⟨rfl, bb0⟩
   have ba0 := bW.trans (bb0.mono bW.size)
   have bx0 : Below W2.heap.size W2 v0 := bb0
   have y0 : v0.cell? ⟨wr.heap.size, 5, none⟩ = some (.slice b1 m1 d1) := (bx0.cell (p := ⟨wr.heap.size, 5, none⟩) (show wr.heap.size < W2.heap.size by omega)).trans ((dt.cell_cells (unhide HX).1 5).trans rfl)
   have z0 : v0.cell? ⟨wr.heap.size + 1, 5, none⟩ = some (.slice b2 m2 d2) := (bx0.cell (p := ⟨wr.heap.size + 1, 5, none⟩) (show wr.heap.size + 1 < W2.heap.size by omega)).trans ((dt.cell_cells (unhide HX).2 5).trans rfl)
   clear hC4
   go_wp2_with fail
   refine ((unhide hC5) v0 ba0).mono ?_
   rintro e' v1 ⟨rfl, bb1⟩
   have ba1 := ba0.trans (bb1.mono ba0.size)
   have bx1 : Below W2.heap.size W2 v1 := bx0.trans (bb1.mono bx0.size)
   have y1 : v1.cell? ⟨wr.heap.size, 6, none⟩ = some (.slice e1 o1 g1) := (bx1.cell (p := ⟨wr.heap.size, 6, none⟩) (show wr.heap.size < W2.heap.size by omega)).trans ((dt.cell_cells (unhide HX).1 6).trans rfl)
   have z1 : v1.cell? ⟨wr.heap.size + 1, 6, none⟩ = some (.slice e2 o2 g2) := (bx1.cell (p := ⟨wr.heap.size + 1, 6, none⟩) (show wr.heap.size + 1 < W2.heap.size by omega)).trans ((dt.cell_cells (unhide HX).2 6).trans rfl)
   clear hC5
   go_wp2_with fail
   refine ((unhide hC6) v1 ba1).mono ?_
   rintro e' v2 ⟨rfl, bb2⟩
   have ba2 := ba1.trans (bb2.mono ba1.size)
   have bx2 : Below W2.heap.size W2 v2 := bx1.trans (bb2.mono bx1.size)
   clear hC6
   go_wp2_with fail
   go_roundw
   case rel => exact ⟨j + 1, by omega, by go_num, ba2⟩
   case measure => first | (simp [intOf]; omega) | simp [intOf]
  ·have ji : ¬ (j : Int) < (n : Int) := by omega
   have hI9 := hide hI
   clear hlt
   go_wp2_with fail
   go_ret
   exact ⟨rfl, unhide hI9⟩
theorem sels_f (f : Nat) : ∀ (g : Nat) (l l' : List Dt), EqLs (EqS false f g) l l' → SmLs 13 false 9 l l'
 | 0 => sels_fs f 0 (fun g' h => by omega)
 | g + 1 => sels_fs f (g + 1) (fun g' h => (Nat.succ.inj h) ▸ sels_f f g)
end Go.Proofs.YtcebeajjpcbgcaaGreat.cu
