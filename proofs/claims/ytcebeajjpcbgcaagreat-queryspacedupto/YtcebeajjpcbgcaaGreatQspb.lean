import Derived.Test.YtcebeajjpcbgcaaGreatQsp
import Derived.Test.YtcebeajjpcbgcaaGreatQne19
set_option linter.unusedVariables false
set_option linter.unusedSimpArgs false
namespace Go.Proofs.YtcebeajjpcbgcaaGreat.cu
open Go.ChangeShapes Go.WideShapes Go.ChangeAt Go.RowKit
open ints (hide unhide)
open dt (Dt Kp RowAt Ow Grow OwIn)
open mem (Row)
set_option maxHeartbeats 8000000 in
set_option maxRecDepth 4000 in
theorem vars_f (f : Nat) (l l' : List Dt) (h : EqLs (EqV false f) l l') : SmLs 22 false 14 l l' := by
 intro w a a' c c' F G hl hl' hF hG hc hc' hm hm'
 obtain ⟨hlen, hel⟩ := h
 have HEL := hide hel
 have HL := hide hl
 have HL' := hide hl'
 have HF := hide hF
 have HG := hide hG
 obtain ⟨n, hn⟩ : ∃ n, n = l.length := ⟨_, rfl⟩
 have hn' : n = l'.length := hn.trans hlen
 rw [← hn] at hc ⊢
 rw [← hn'] at hc' ⊢
 have Hn := hide (And.intro hn hn')
 clear hel hl hl' hF hG hn hn' hlen
 unfold maxLen at hm hm'
 go_enter Tryz.func22, Tryz.ntmps22
 go_wp2_with fail
 go_loopw [7] (fun i wr => ∃ j : Nat, j ≤ n ∧ i = .int .i64 j ∧ Below w.heap.size w wr) (fun i _ => n - (intOf i).toNat)
 case atStart => exact ⟨0, Nat.zero_le _, rfl, Below.refl _ _⟩
 case round =>
  obtain ⟨j, hj, rfl, hI⟩ := hrel
  by_cases hlt : j < n
  ·have ji : (j : Int) < (n : Int) := by omega
   have hlt1 : j < l.length := by have := unhide Hn; omega
   have hlt2 : j < l'.length := by have := unhide Hn; omega
   obtain ⟨p, off, rfl, hpF, hget⟩ := (unhide HL).resolve_left (fun h0 => by rw [h0] at hlt1; exact absurd hlt1 (Nat.not_lt_zero _))
   obtain ⟨p', off', rfl, hpG, hget'⟩ := (unhide HL').resolve_left (fun h0 => by rw [h0] at hlt2; exact absurd hlt2 (Nat.not_lt_zero _))
   obtain ⟨ds, G1, hrow, hdl, hod, hGF⟩ := hget j _ (List.getElem?_eq_getElem hlt1)
   obtain ⟨ds', G2, hrow', hdl', hod', hGG⟩ := hget' j _ (List.getElem?_eq_getElem hlt2)
   obtain ⟨nm, tn, tw, hd, v1, v2, m1', m2', x1, y1, x2, y2, hx, hy, hxy, heq, hq2'⟩ := (unhide HEL) j _ _ (List.getElem?_eq_getElem hlt1) (List.getElem?_eq_getElem hlt2)
   obtain ⟨k1, tx1, bl1, i1, f1, ln1, co1, h1⟩ := heq.left
   obtain ⟨k2, tx2, bl2, i2, f2, ln2, co2, h2⟩ := heq.right
   rw [hx, h1] at hod
   rw [hy, h2] at hod'
   obtain ⟨ai1, ni1, ci1, af1, nf1, cf1, b1, d1, Gv1, rfl, u1, hv1, hvG1, hv2⟩ := var_cells hod
   obtain ⟨ai2, ni2, ci2, af2, nf2, cf2, b2, d2, Gv2, rfl, u2, hv1', hvG2, hv2'⟩ := var_cells hod'
   rw [← h1] at hv1
   rw [← h2] at hv1'
   clear h1 h2
   clear hxy
   have hplt := (unhide HF) p hpF
   have hplt' := (unhide HG) p' hpG
   have hC0 := hide (fun W (hb : Below w.heap.size w W) => same_f f v1 v2 heq W [Value.int .i64 k1, .string tx1, .bool bl1, .slice ai1 ni1 ci1, .slice af1 nf1 cf1, .int .i64 ln1, .int .i64 co1] [Value.int .i64 k2, .string tx2, .bool bl2, .slice ai2 ni2 ci2, .slice af2 nf2 cf2, .int .i64 ln2, .int .i64 co2] Gv1 Gv2 (dt.Ow.agree v1 _ Gv1 (fun b hb' o => hb.cell (p := ⟨b, o, none⟩) ((unhide HF) b (hGF b (hvG1 b hb')))) hv1) (dt.Ow.agree v2 _ Gv2 (fun b hb' o => hb.cell (p := ⟨b, o, none⟩) ((unhide HG) b (hGG b (hvG2 b hb')))) hv1') (fun b hb' => Nat.lt_of_lt_of_le ((unhide HF) b (hGF b (hvG1 b hb'))) hb.size) (fun b hb' => Nat.lt_of_lt_of_le ((unhide HG) b (hGG b (hvG2 b hb'))) hb.size))
   have hC11 := (fun W (hb : Below w.heap.size w W) => dirs_f f m1' m2' hq2' W b1 b2 d1 d2 G1 G2 (hv2.below (fun b hb' => (unhide HF) b (hGF b hb')) hb) (hv2'.below (fun b hb' => (unhide HG) b (hGG b hb')) hb) (fun b hb' => Nat.lt_of_lt_of_le ((unhide HF) b (hGF b hb')) hb.size) (fun b hb' => Nat.lt_of_lt_of_le ((unhide HG) b (hGG b hb')) hb.size) u1.1 u2.1 u1.2 u2.2)
   obtain ⟨m1, hm1⟩ : ∃ z, z = m1'.length := ⟨_, rfl⟩
   obtain ⟨m2, hm2⟩ : ∃ z, z = m2'.length := ⟨_, rfl⟩
   rw [← hm1, ← hm2] at hC11
   replace hC11 := hide hC11
   rw [← hm1] at hrow
   rw [← hm2] at hrow'
   have hr := fun (q : Nat) (u : Value) hu => (hI.cell (p := ⟨p, off + j * 14 + q, none⟩) hplt).trans (hrow q u hu)
   have hr' := fun (q : Nat) (u : Value) hu => (hI.cell (p := ⟨p', off' + j * 14 + q, none⟩) hplt').trans (hrow' q u hu)
   have r0 : wr.cell? ⟨p, off + j * 14, none⟩ = some (.string nm) := hr 0 _ rfl
   have r1 : wr.cell? ⟨p, off + j * 14 + 1, none⟩ = some (.string tn) := hr 1 _ rfl
   have r2 : wr.cell? ⟨p, off + j * 14 + 2, none⟩ = some (.string tw) := hr 2 _ rfl
   have r3 : wr.cell? ⟨p, off + j * 14 + 3, none⟩ = some (.bool hd) := hr 3 _ rfl
   have r4 : wr.cell? ⟨p, off + j * 14 + 4, none⟩ = some (.int .i64 k1) := hr 4 _ rfl
   have r5 : wr.cell? ⟨p, off + j * 14 + 5, none⟩ = some (.string tx1) := hr 5 _ rfl
   have r6 : wr.cell? ⟨p, off + j * 14 + 6, none⟩ = some (.bool bl1) := hr 6 _ rfl
   have r7 : wr.cell? ⟨p, off + j * 14 + 7, none⟩ = some (.slice ai1 ni1 ci1) := hr 7 _ rfl
   have r8 : wr.cell? ⟨p, off + j * 14 + 8, none⟩ = some (.slice af1 nf1 cf1) := hr 8 _ rfl
   have r9 : wr.cell? ⟨p, off + j * 14 + 9, none⟩ = some (.int .i64 ln1) := hr 9 _ rfl
   have r10 : wr.cell? ⟨p, off + j * 14 + 10, none⟩ = some (.int .i64 co1) := hr 10 _ rfl
   have r11 : wr.cell? ⟨p, off + j * 14 + 11, none⟩ = some (.slice b1 m1 d1) := hr 11 _ rfl
   have r12 : wr.cell? ⟨p, off + j * 14 + 12, none⟩ = some (.int .i64 x1) := hr 12 _ rfl
   have r13 : wr.cell? ⟨p, off + j * 14 + 13, none⟩ = some (.int .i64 y1) := hr 13 _ rfl
   have s0 : wr.cell? ⟨p', off' + j * 14, none⟩ = some (.string nm) := hr' 0 _ rfl
   have s1 : wr.cell? ⟨p', off' + j * 14 + 1, none⟩ = some (.string tn) := hr' 1 _ rfl
   have s2 : wr.cell? ⟨p', off' + j * 14 + 2, none⟩ = some (.string tw) := hr' 2 _ rfl
   have s3 : wr.cell? ⟨p', off' + j * 14 + 3, none⟩ = some (.bool hd) := hr' 3 _ rfl
   have s4 : wr.cell? ⟨p', off' + j * 14 + 4, none⟩ = some (.int .i64 k2) := hr' 4 _ rfl
   have s5 : wr.cell? ⟨p', off' + j * 14 + 5, none⟩ = some (.string tx2) := hr' 5 _ rfl
   have s6 : wr.cell? ⟨p', off' + j * 14 + 6, none⟩ = some (.bool bl2) := hr' 6 _ rfl
   have s7 : wr.cell? ⟨p', off' + j * 14 + 7, none⟩ = some (.slice ai2 ni2 ci2) := hr' 7 _ rfl
   have s8 : wr.cell? ⟨p', off' + j * 14 + 8, none⟩ = some (.slice af2 nf2 cf2) := hr' 8 _ rfl
   have s9 : wr.cell? ⟨p', off' + j * 14 + 9, none⟩ = some (.int .i64 ln2) := hr' 9 _ rfl
   have s10 : wr.cell? ⟨p', off' + j * 14 + 10, none⟩ = some (.int .i64 co2) := hr' 10 _ rfl
   have s11 : wr.cell? ⟨p', off' + j * 14 + 11, none⟩ = some (.slice b2 m2 d2) := hr' 11 _ rfl
   have s12 : wr.cell? ⟨p', off' + j * 14 + 12, none⟩ = some (.int .i64 x2) := hr' 12 _ rfl
   have s13 : wr.cell? ⟨p', off' + j * 14 + 13, none⟩ = some (.int .i64 y2) := hr' 13 _ rfl
   obtain ⟨W2, hW2⟩ : ∃ W2, W2 = (wr.alloc (.cells #[.string nm, .string tn, .string tw, .bool hd, .int .i64 k1, .string tx1, .bool bl1, .slice ai1 ni1 ci1, .slice af1 nf1 cf1, .int .i64 ln1, .int .i64 co1, .slice b1 m1 d1, .int .i64 x1, .int .i64 y1] 72)).alloc (.cells #[.string nm, .string tn, .string tw, .bool hd, .int .i64 k2, .string tx2, .bool bl2, .slice ai2 ni2 ci2, .slice af2 nf2 cf2, .int .i64 ln2, .int .i64 co2, .slice b2 m2 d2, .int .i64 x2, .int .i64 y2] 72) := ⟨_, rfl⟩
   have hX := (show W2.heap[wr.heap.size]? = some (.cells #[.string nm, .string tn, .string tw, .bool hd, .int .i64 k1, .string tx1, .bool bl1, .slice ai1 ni1 ci1, .slice af1 nf1 cf1, .int .i64 ln1, .int .i64 co1, .slice b1 m1 d1, .int .i64 x1, .int .i64 y1] 72 (0, 0)) ∧ W2.heap[wr.heap.size + 1]? = some (.cells #[.string nm, .string tn, .string tw, .bool hd, .int .i64 k2, .string tx2, .bool bl2, .slice ai2 ni2 ci2, .slice af2 nf2 cf2, .int .i64 ln2, .int .i64 co2, .slice b2 m2 d2, .int .i64 x2, .int .i64 y2] 72 (0, 0)) from by rw [hW2]; exact two_at _ _ _ _ _)
   have bX : Below wr.heap.size wr W2 := by rw [hW2]; exact two_alloc _ _ _
   have zX : wr.heap.size + 2 ≤ W2.heap.size := by rw [hW2]; simp
   have bW := hI.trans (bX.mono hI.size)
   have HX := hide hX
   have hq1 : p < wr.heap.size := Nat.lt_of_lt_of_le hplt hI.size
   have hq2 : p' < wr.heap.size := Nat.lt_of_lt_of_le hplt' hI.size
   have s2 : ∀ o, (wr.alloc o).cell? ⟨p, 0, none⟩ = wr.cell? ⟨p, 0, none⟩ := fun o => ((Below.refl _ _).alloc (Nat.le_refl _) o).cell (p := ⟨p, 0, none⟩) hq1
   clear s2
   have s0x : ∀ o, (wr.alloc o).cell? ⟨p', off' + j * 14, none⟩ = some (.string nm) := fun o => (((Below.refl _ _).alloc (Nat.le_refl _) o).cell (p := ⟨p', off' + j * 14, none⟩) hq2).trans s0
   have s1x : ∀ o, (wr.alloc o).cell? ⟨p', off' + j * 14 + 1, none⟩ = some (.string tn) := fun o => (((Below.refl _ _).alloc (Nat.le_refl _) o).cell (p := ⟨p', off' + j * 14 + 1, none⟩) hq2).trans s1
   have s2x : ∀ o, (wr.alloc o).cell? ⟨p', off' + j * 14 + 2, none⟩ = some (.string tw) := fun o => (((Below.refl _ _).alloc (Nat.le_refl _) o).cell (p := ⟨p', off' + j * 14 + 2, none⟩) hq2).trans s2
   have s3x : ∀ o, (wr.alloc o).cell? ⟨p', off' + j * 14 + 3, none⟩ = some (.bool hd) := fun o => (((Below.refl _ _).alloc (Nat.le_refl _) o).cell (p := ⟨p', off' + j * 14 + 3, none⟩) hq2).trans s3
   have s4x : ∀ o, (wr.alloc o).cell? ⟨p', off' + j * 14 + 4, none⟩ = some (.int .i64 k2) := fun o => (((Below.refl _ _).alloc (Nat.le_refl _) o).cell (p := ⟨p', off' + j * 14 + 4, none⟩) hq2).trans s4
   have s5x : ∀ o, (wr.alloc o).cell? ⟨p', off' + j * 14 + 5, none⟩ = some (.string tx2) := fun o => (((Below.refl _ _).alloc (Nat.le_refl _) o).cell (p := ⟨p', off' + j * 14 + 5, none⟩) hq2).trans s5
   have s6x : ∀ o, (wr.alloc o).cell? ⟨p', off' + j * 14 + 6, none⟩ = some (.bool bl2) := fun o => (((Below.refl _ _).alloc (Nat.le_refl _) o).cell (p := ⟨p', off' + j * 14 + 6, none⟩) hq2).trans s6
   have s7x : ∀ o, (wr.alloc o).cell? ⟨p', off' + j * 14 + 7, none⟩ = some (.slice ai2 ni2 ci2) := fun o => (((Below.refl _ _).alloc (Nat.le_refl _) o).cell (p := ⟨p', off' + j * 14 + 7, none⟩) hq2).trans s7
   have s8x : ∀ o, (wr.alloc o).cell? ⟨p', off' + j * 14 + 8, none⟩ = some (.slice af2 nf2 cf2) := fun o => (((Below.refl _ _).alloc (Nat.le_refl _) o).cell (p := ⟨p', off' + j * 14 + 8, none⟩) hq2).trans s8
   have s9x : ∀ o, (wr.alloc o).cell? ⟨p', off' + j * 14 + 9, none⟩ = some (.int .i64 ln2) := fun o => (((Below.refl _ _).alloc (Nat.le_refl _) o).cell (p := ⟨p', off' + j * 14 + 9, none⟩) hq2).trans s9
   have s10x : ∀ o, (wr.alloc o).cell? ⟨p', off' + j * 14 + 10, none⟩ = some (.int .i64 co2) := fun o => (((Below.refl _ _).alloc (Nat.le_refl _) o).cell (p := ⟨p', off' + j * 14 + 10, none⟩) hq2).trans s10
   have s11x : ∀ o, (wr.alloc o).cell? ⟨p', off' + j * 14 + 11, none⟩ = some (.slice b2 m2 d2) := fun o => (((Below.refl _ _).alloc (Nat.le_refl _) o).cell (p := ⟨p', off' + j * 14 + 11, none⟩) hq2).trans s11
   have s12x : ∀ o, (wr.alloc o).cell? ⟨p', off' + j * 14 + 12, none⟩ = some (.int .i64 x2) := fun o => (((Below.refl _ _).alloc (Nat.le_refl _) o).cell (p := ⟨p', off' + j * 14 + 12, none⟩) hq2).trans s12
   have s13x : ∀ o, (wr.alloc o).cell? ⟨p', off' + j * 14 + 13, none⟩ = some (.int .i64 y2) := fun o => (((Below.refl _ _).alloc (Nat.le_refl _) o).cell (p := ⟨p', off' + j * 14 + 13, none⟩) hq2).trans s13
   clear s0 s1 s2 s3 s4 s5 s6 s7 s8 s9 s10 s11 s12 s13
   clear hr hr' hrow hrow' hdl hdl' hget hget' hod hod' hX hm1 hm2 heq hq2' u1 u2 hv1 hv2 hv1' hv2' hvG1 hvG2 hx hy
   go_wp2_with fail
   rw [← hW2]
   clear hW2 r0 s0x r1 s1x r2 s2x r3 s3x r4 s4x r5 s5x r6 s6x r7 s7x r8 s8x r9 s9x r10 s10x r11 s11x r12 s12x r13 s13x
   refine ((unhide hC0) W2 bW).mono ?_
   rintro e' v0 ⟨rfl, bb0⟩
   have ba0 := bW.trans (bb0.mono bW.size)
   have bx0 : Below W2.heap.size W2 v0 := bb0
   have y0 : v0.cell? ⟨wr.heap.size, 11, none⟩ = some (.slice b1 m1 d1) := (bx0.cell (p := ⟨wr.heap.size, 11, none⟩) (show wr.heap.size < W2.heap.size by omega)).trans ((dt.cell_cells (unhide HX).1 11).trans rfl)
   have z0 : v0.cell? ⟨wr.heap.size + 1, 11, none⟩ = some (.slice b2 m2 d2) := (bx0.cell (p := ⟨wr.heap.size + 1, 11, none⟩) (show wr.heap.size + 1 < W2.heap.size by omega)).trans ((dt.cell_cells (unhide HX).2 11).trans rfl)
   clear hC0
   go_wp2_with fail
   refine ((unhide hC11) v0 ba0).mono ?_
   rintro e' v1 ⟨rfl, bb1⟩
   have ba1 := ba0.trans (bb1.mono ba0.size)
   have bx1 : Below W2.heap.size W2 v1 := bx0.trans (bb1.mono bx0.size)
   clear hC11
   go_wp2_with fail
   go_roundw
   case rel => exact ⟨j + 1, by omega, by go_num, ba1⟩
   case measure => first | (simp [intOf]; omega) | simp [intOf]
  ·have ji : ¬ (j : Int) < (n : Int) := by omega
   have hI9 := hide hI
   clear hlt
   go_wp2_with fail
   go_ret
   exact ⟨rfl, unhide hI9⟩
end Go.Proofs.YtcebeajjpcbgcaaGreat.cu
namespace Go.Proofs.YtcebeajjpcbgcaaGreat.cu
open Go.ChangeShapes Go.WideShapes Go.ChangeAt Go.RowKit
open ints (hide unhide)
open dt (Dt Kp RowAt Ow Grow OwIn)
open mem (Row)
set_option maxHeartbeats 8000000 in
set_option maxRecDepth 4000 in
theorem defs_f (f g : Nat) (l l' : List Dt) (h : EqLs (EqF false f g) l l') : SmLs 12 false 9 l l' := by
 intro w a a' c c' F G hl hl' hF hG hc hc' hm hm'
 obtain ⟨hlen, hel⟩ := h
 have HEL := hide hel
 have HL := hide hl
 have HL' := hide hl'
 have HF := hide hF
 have HG := hide hG
 obtain ⟨n, hn⟩ : ∃ n, n = l.length := ⟨_, rfl⟩
 have hn' : n = l'.length := hn.trans hlen
 rw [← hn] at hc ⊢
 rw [← hn'] at hc' ⊢
 have Hn := hide (And.intro hn hn')
 clear hel hl hl' hF hG hn hn' hlen
 unfold maxLen at hm hm'
 go_enter Tryz.func12, Tryz.ntmps12
 go_wp2_with fail
 go_loopw [7] (fun i wr => ∃ j : Nat, j ≤ n ∧ i = .int .i64 j ∧ Below w.heap.size w wr) (fun i _ => n - (intOf i).toNat)
 case atStart => exact ⟨0, Nat.zero_le _, rfl, Below.refl _ _⟩
 case round =>
  obtain ⟨j, hj, rfl, hI⟩ := hrel
  by_cases hlt : j < n
  ·have ji : (j : Int) < (n : Int) := by omega
   have hlt1 : j < l.length := by have := unhide Hn; omega
   have hlt2 : j < l'.length := by have := unhide Hn; omega
   obtain ⟨p, off, rfl, hpF, hget⟩ := (unhide HL).resolve_left (fun h0 => by rw [h0] at hlt1; exact absurd hlt1 (Nat.not_lt_zero _))
   obtain ⟨p', off', rfl, hpG, hget'⟩ := (unhide HL').resolve_left (fun h0 => by rw [h0] at hlt2; exact absurd hlt2 (Nat.not_lt_zero _))
   obtain ⟨ds, G1, hrow, hdl, hod, hGF⟩ := hget j _ (List.getElem?_eq_getElem hlt1)
   obtain ⟨ds', G2, hrow', hdl', hod', hGG⟩ := hget' j _ (List.getElem?_eq_getElem hlt2)
   obtain ⟨k, nm, on, sh, l1, l2, m1', m2', o1', o2', x1, y1, x2, y2, hx, hy, hxy, hq1', hq2', hq3'⟩ := (unhide HEL) j _ _ (List.getElem?_eq_getElem hlt1) (List.getElem?_eq_getElem hlt2)
   rw [hx] at hod
   rw [hy] at hod'
   obtain ⟨a1, c1, b1, d1, e1, g1, rfl, u1, hv1, hv2, hv3⟩ := def_cells hod
   obtain ⟨a2, c2, b2, d2, e2, g2, rfl, u2, hv1', hv2', hv3'⟩ := def_cells hod'
   clear hxy
   have hplt := (unhide HF) p hpF
   have hplt' := (unhide HG) p' hpG
   have hC4 := (fun W (hb : Below w.heap.size w W) => vars_f f l1 l2 hq1' W a1 a2 c1 c2 G1 G2 (hv1.below (fun b hb' => (unhide HF) b (hGF b hb')) hb) (hv1'.below (fun b hb' => (unhide HG) b (hGG b hb')) hb) (fun b hb' => Nat.lt_of_lt_of_le ((unhide HF) b (hGF b hb')) hb.size) (fun b hb' => Nat.lt_of_lt_of_le ((unhide HG) b (hGG b hb')) hb.size) u1.1 u2.1 u1.2.1 u2.2.1)
   have hC5 := (fun W (hb : Below w.heap.size w W) => dirs_f f m1' m2' hq2' W b1 b2 d1 d2 G1 G2 (hv2.below (fun b hb' => (unhide HF) b (hGF b hb')) hb) (hv2'.below (fun b hb' => (unhide HG) b (hGG b hb')) hb) (fun b hb' => Nat.lt_of_lt_of_le ((unhide HF) b (hGF b hb')) hb.size) (fun b hb' => Nat.lt_of_lt_of_le ((unhide HG) b (hGG b hb')) hb.size) u1.2.2.1 u2.2.2.1 u1.2.2.2.1 u2.2.2.2.1)
   have hC6 := (fun W (hb : Below w.heap.size w W) => sels_f f g o1' o2' hq3' W e1 e2 g1 g2 G1 G2 (hv3.below (fun b hb' => (unhide HF) b (hGF b hb')) hb) (hv3'.below (fun b hb' => (unhide HG) b (hGG b hb')) hb) (fun b hb' => Nat.lt_of_lt_of_le ((unhide HF) b (hGF b hb')) hb.size) (fun b hb' => Nat.lt_of_lt_of_le ((unhide HG) b (hGG b hb')) hb.size) u1.2.2.2.2.1 u2.2.2.2.2.1 u1.2.2.2.2.2 u2.2.2.2.2.2)
   obtain ⟨n1, hn1⟩ : ∃ z, z = l1.length := ⟨_, rfl⟩
   obtain ⟨n2, hn2⟩ : ∃ z, z = l2.length := ⟨_, rfl⟩
   rw [← hn1, ← hn2] at hC4
   replace hC4 := hide hC4
   rw [← hn1] at hrow
   rw [← hn2] at hrow'
   obtain ⟨m1, hm1⟩ : ∃ z, z = m1'.length := ⟨_, rfl⟩
   obtain ⟨m2, hm2⟩ : ∃ z, z = m2'.length := ⟨_, rfl⟩
   rw [← hm1, ← hm2] at hC5
   replace hC5 := hide hC5
   rw [← hm1] at hrow
   rw [← hm2] at hrow'
   obtain ⟨o1, ho1⟩ : ∃ z, z = o1'.length := ⟨_, rfl⟩
   obtain ⟨o2, ho2⟩ : ∃ z, z = o2'.length := ⟨_, rfl⟩
   rw [← ho1, ← ho2] at hC6
   replace hC6 := hide hC6
   rw [← ho1] at hrow
   rw [← ho2] at hrow'
   have hr := fun (q : Nat) (u : Value) hu => (hI.cell (p := ⟨p, off + j * 9 + q, none⟩) hplt).trans (hrow q u hu)
   have hr' := fun (q : Nat) (u : Value) hu => (hI.cell (p := ⟨p', off' + j * 9 + q, none⟩) hplt').trans (hrow' q u hu)
   have r0 : wr.cell? ⟨p, off + j * 9, none⟩ = some (.int .i64 k) := hr 0 _ rfl
   have r1 : wr.cell? ⟨p, off + j * 9 + 1, none⟩ = some (.string nm) := hr 1 _ rfl
   have r2 : wr.cell? ⟨p, off + j * 9 + 2, none⟩ = some (.string on) := hr 2 _ rfl
   have r3 : wr.cell? ⟨p, off + j * 9 + 3, none⟩ = some (.bool sh) := hr 3 _ rfl
   have r4 : wr.cell? ⟨p, off + j * 9 + 4, none⟩ = some (.slice a1 n1 c1) := hr 4 _ rfl
   have r5 : wr.cell? ⟨p, off + j * 9 + 5, none⟩ = some (.slice b1 m1 d1) := hr 5 _ rfl
   have r6 : wr.cell? ⟨p, off + j * 9 + 6, none⟩ = some (.slice e1 o1 g1) := hr 6 _ rfl
   have r7 : wr.cell? ⟨p, off + j * 9 + 7, none⟩ = some (.int .i64 x1) := hr 7 _ rfl
   have r8 : wr.cell? ⟨p, off + j * 9 + 8, none⟩ = some (.int .i64 y1) := hr 8 _ rfl
   have s0 : wr.cell? ⟨p', off' + j * 9, none⟩ = some (.int .i64 k) := hr' 0 _ rfl
   have s1 : wr.cell? ⟨p', off' + j * 9 + 1, none⟩ = some (.string nm) := hr' 1 _ rfl
   have s2 : wr.cell? ⟨p', off' + j * 9 + 2, none⟩ = some (.string on) := hr' 2 _ rfl
   have s3 : wr.cell? ⟨p', off' + j * 9 + 3, none⟩ = some (.bool sh) := hr' 3 _ rfl
   have s4 : wr.cell? ⟨p', off' + j * 9 + 4, none⟩ = some (.slice a2 n2 c2) := hr' 4 _ rfl
   have s5 : wr.cell? ⟨p', off' + j * 9 + 5, none⟩ = some (.slice b2 m2 d2) := hr' 5 _ rfl
   have s6 : wr.cell? ⟨p', off' + j * 9 + 6, none⟩ = some (.slice e2 o2 g2) := hr' 6 _ rfl
   have s7 : wr.cell? ⟨p', off' + j * 9 + 7, none⟩ = some (.int .i64 x2) := hr' 7 _ rfl
   have s8 : wr.cell? ⟨p', off' + j * 9 + 8, none⟩ = some (.int .i64 y2) := hr' 8 _ rfl
   obtain ⟨W2, hW2⟩ : ∃ W2, W2 = (wr.alloc (.cells #[.int .i64 k, .string nm, .string on, .bool sh, .slice a1 n1 c1, .slice b1 m1 d1, .slice e1 o1 g1, .int .i64 x1, .int .i64 y1] 53)).alloc (.cells #[.int .i64 k, .string nm, .string on, .bool sh, .slice a2 n2 c2, .slice b2 m2 d2, .slice e2 o2 g2, .int .i64 x2, .int .i64 y2] 53) := ⟨_, rfl⟩
   have hX := (show W2.heap[wr.heap.size]? = some (.cells #[.int .i64 k, .string nm, .string on, .bool sh, .slice a1 n1 c1, .slice b1 m1 d1, .slice e1 o1 g1, .int .i64 x1, .int .i64 y1] 53 (0, 0)) ∧ W2.heap[wr.heap.size + 1]? = some (.cells #[.int .i64 k, .string nm, .string on, .bool sh, .slice a2 n2 c2, .slice b2 m2 d2, .slice e2 o2 g2, .int .i64 x2, .int .i64 y2] 53 (0, 0)) from by rw [hW2]; exact two_at _ _ _ _ _)
   have bX : Below wr.heap.size wr W2 := by rw [hW2]; exact two_alloc _ _ _
   have zX : wr.heap.size + 2 ≤ W2.heap.size := by rw [hW2]; simp
   have bW := hI.trans (bX.mono hI.size)
   have HX := hide hX
   have hq1 : p < wr.heap.size := Nat.lt_of_lt_of_le hplt hI.size
   have hq2 : p' < wr.heap.size := Nat.lt_of_lt_of_le hplt' hI.size
   have s2 : ∀ o, (wr.alloc o).cell? ⟨p, 0, none⟩ = wr.cell? ⟨p, 0, none⟩ := fun o => ((Below.refl _ _).alloc (Nat.le_refl _) o).cell (p := ⟨p, 0, none⟩) hq1
   clear s2
   have s0x : ∀ o, (wr.alloc o).cell? ⟨p', off' + j * 9, none⟩ = some (.int .i64 k) := fun o => (((Below.refl _ _).alloc (Nat.le_refl _) o).cell (p := ⟨p', off' + j * 9, none⟩) hq2).trans s0
   have s1x : ∀ o, (wr.alloc o).cell? ⟨p', off' + j * 9 + 1, none⟩ = some (.string nm) := fun o => (((Below.refl _ _).alloc (Nat.le_refl _) o).cell (p := ⟨p', off' + j * 9 + 1, none⟩) hq2).trans s1
   have s2x : ∀ o, (wr.alloc o).cell? ⟨p', off' + j * 9 + 2, none⟩ = some (.string on) := fun o => (((Below.refl _ _).alloc (Nat.le_refl _) o).cell (p := ⟨p', off' + j * 9 + 2, none⟩) hq2).trans s2
   have s3x : ∀ o, (wr.alloc o).cell? ⟨p', off' + j * 9 + 3, none⟩ = some (.bool sh) := fun o => (((Below.refl _ _).alloc (Nat.le_refl _) o).cell (p := ⟨p', off' + j * 9 + 3, none⟩) hq2).trans s3
   have s4x : ∀ o, (wr.alloc o).cell? ⟨p', off' + j * 9 + 4, none⟩ = some (.slice a2 n2 c2) := fun o => (((Below.refl _ _).alloc (Nat.le_refl _) o).cell (p := ⟨p', off' + j * 9 + 4, none⟩) hq2).trans s4
   have s5x : ∀ o, (wr.alloc o).cell? ⟨p', off' + j * 9 + 5, none⟩ = some (.slice b2 m2 d2) := fun o => (((Below.refl _ _).alloc (Nat.le_refl _) o).cell (p := ⟨p', off' + j * 9 + 5, none⟩) hq2).trans s5
   have s6x : ∀ o, (wr.alloc o).cell? ⟨p', off' + j * 9 + 6, none⟩ = some (.slice e2 o2 g2) := fun o => (((Below.refl _ _).alloc (Nat.le_refl _) o).cell (p := ⟨p', off' + j * 9 + 6, none⟩) hq2).trans s6
   have s7x : ∀ o, (wr.alloc o).cell? ⟨p', off' + j * 9 + 7, none⟩ = some (.int .i64 x2) := fun o => (((Below.refl _ _).alloc (Nat.le_refl _) o).cell (p := ⟨p', off' + j * 9 + 7, none⟩) hq2).trans s7
   have s8x : ∀ o, (wr.alloc o).cell? ⟨p', off' + j * 9 + 8, none⟩ = some (.int .i64 y2) := fun o => (((Below.refl _ _).alloc (Nat.le_refl _) o).cell (p := ⟨p', off' + j * 9 + 8, none⟩) hq2).trans s8
   clear s0 s1 s2 s3 s4 s5 s6 s7 s8
   clear hr hr' hrow hrow' hdl hdl' hget hget' hod hod' hX hn1 hn2 hm1 hm2 ho1 ho2 hq1' hq2' hq3' u1 u2 hv1 hv2 hv3 hv1' hv2' hv3' hx hy
   go_wp2_with fail
   rw [← hW2]
   clear hW2 r0 s0x r1 s1x r2 s2x r3 s3x r4 s4x r5 s5x r6 s6x r7 s7x r8 s8x
   refine ((unhide hC4) W2 bW).mono ?_
   rintro e' v0 ⟨rfl, bb0⟩
   have ba0 := bW.trans (bb0.mono bW.size)
   have bx0 : Below W2.heap.size W2 v0 := bb0
   have y0 : v0.cell? ⟨wr.heap.size, 5, none⟩ = some (.slice b1 m1 d1) := (bx0.cell (p := ⟨wr.heap.size, 5, none⟩) (show wr.heap.size < W2.heap.size by omega)).trans ((dt.cell_cells (unhide HX).1 5).trans rfl)
   have z0 : v0.cell? ⟨wr.heap.size + 1, 5, none⟩ = some (.slice b2 m2 d2) := (bx0.cell (p := ⟨wr.heap.size + 1, 5, none⟩) (show wr.heap.size + 1 < W2.heap.size by omega)).trans ((dt.cell_cells (unhide HX).2 5).trans rfl)
   clear hC4
   go_wp2_with fail
   refine ((unhide hC5) v0 ba0).mono ?_
   rintro e' v1 ⟨rfl, bb1⟩
   have ba1 := ba0.trans (bb1.mono ba0.size)
   have bx1 : Below W2.heap.size W2 v1 := bx0.trans (bb1.mono bx0.size)
   have y1 : v1.cell? ⟨wr.heap.size, 6, none⟩ = some (.slice e1 o1 g1) := (bx1.cell (p := ⟨wr.heap.size, 6, none⟩) (show wr.heap.size < W2.heap.size by omega)).trans ((dt.cell_cells (unhide HX).1 6).trans rfl)
   have z1 : v1.cell? ⟨wr.heap.size + 1, 6, none⟩ = some (.slice e2 o2 g2) := (bx1.cell (p := ⟨wr.heap.size + 1, 6, none⟩) (show wr.heap.size + 1 < W2.heap.size by omega)).trans ((dt.cell_cells (unhide HX).2 6).trans rfl)
   clear hC5
   go_wp2_with fail
   refine ((unhide hC6) v1 ba1).mono ?_
   rintro e' v2 ⟨rfl, bb2⟩
   have ba2 := ba1.trans (bb2.mono ba1.size)
   have bx2 : Below W2.heap.size W2 v2 := bx1.trans (bb2.mono bx1.size)
   clear hC6
   go_wp2_with fail
   go_roundw
   case rel => exact ⟨j + 1, by omega, by go_num, ba2⟩
   case measure => first | (simp [intOf]; omega) | simp [intOf]
  ·have ji : ¬ (j : Int) < (n : Int) := by omega
   have hI9 := hide hI
   clear hlt
   go_wp2_with fail
   go_ret
   exact ⟨rfl, unhide hI9⟩
end Go.Proofs.YtcebeajjpcbgcaaGreat.cu
namespace Go.Proofs.YtcebeajjpcbgcaaGreat.cu
open Go.ChangeShapes Go.WideShapes Go.ChangeAt Go.RowKit
open ints (hide unhide)
open dt (Dt Kp RowAt Ow Grow OwIn)
open mem (Row)
open lx (toks chs cln)
theorem kinds_at {w : World} {b : Nat} (h : w.heap[b]? = some (.cells #[.string ⟨#[32]⟩, .string ⟨#[10]⟩, .string ⟨#[44]⟩, .string ⟨#[13, 10]⟩, .string ⟨#[32, 35, 120, 10]⟩, .string ⟨#[9]⟩, .string ⟨#[239, 187, 191]⟩] 9 (0, 0))) (j : Nat) (hj : j < 7) : w.cell? ⟨b, j, none⟩ = some (.string (ksB j)) := by
 rw [dt.cell_cells h j]
 match j, hj with
 | 0, _ => rfl
 | 1, _ => rfl
 | 2, _ => rfl
 | 3, _ => rfl
 | 4, _ => rfl
 | 5, _ => rfl
 | 6, _ => rfl
theorem _root_.Go.Proofs.YtcebeajjpcbgcaaGreat.rgn.conv_wp {P : Program} {o : Oper} {a : Act} {w w' : World} {K : Act → World → Prop} {Q : Exit → Act → World → Prop} {sl : Value} (src dst : TypeId) (x : Operand) (ho : o.op = .convert src dst x) (v : Value) (hx : a.eval x = v) (hr : (convert src dst v).run P w = .ok sl w') (h : K (a.put o.dst sl) w') : o.wp P a w K Q := by
 unfold Oper.wp execOp
 simp only [ho, hx, Sem.run_bind, hr, Result.andThen_ok, Sem.run_pure]
 exact h
theorem _root_.Go.Proofs.YtcebeajjpcbgcaaGreat.rgn.alloc_wp {P : Program} {o : Oper} {a : Act} {w w' : World} {K : Act → World → Prop} {Q : Exit → Act → World → Prop} {sl : Value} (ty : TypeId) (ho : o.op = .alloc ty) (hr : (Instr.alloc ty true (.tuple #[])).run P w = .ok sl w') (h : K (a.put o.dst sl) w') : o.wp P a w K Q := by
 unfold Oper.wp execOp
 simp only [ho, Sem.run_bind, hr, Result.andThen_ok, Sem.run_pure]
 exact h
theorem par_formp {z : List Int} {d : Int} {lo : Nat} {w : World} {sl : Value} {fs : List Value} (h : ParPost (docG z d) lo w sl fs) : ∃ a n c K fa fn fc, sl = .slice a n c ∧ fs = [.int .i64 K, .slice fa fn fc, .slice none 0 0] ∧ (((docG z d).1 = none ∧ K ≠ 0 ∧ K = (docG z d).2.kd ∧ n = 0 ∧ a = none ∧ c = 0 ∧ fn = 1 ∧ fc = 1 ∧ ∃ b, fa = some ⟨b, 0, none⟩ ∧ b < w.heap.size ∧ w.cell? ⟨b, 0, none⟩ = some (.int .i64 (docG z d).2.tok.ln) ∧ w.cell? ⟨b, 1, none⟩ = some (.int .i64 (docG z d).2.tok.co)) ∨ ∃ l F, (docG z d).1 = some l ∧ K = 0 ∧ fa = none ∧ fn = 0 ∧ fc = 0 ∧ n = l.length ∧ Ls w 9 l a F ∧ (∀ b ∈ F, b < w.heap.size) ∧ n ≤ c ∧ c ≤ maxLen) := by
 unfold ParPost at h
 have hDN : (docG z d).1 = none → (docG z d).2.kd ≠ 0 := docS_faults _ (newG_ok' _ _)
 cases hr : (docG z d).1 with
 | none =>
  rw [hr] at h
  obtain ⟨rfl, hfl⟩ := h
  have hK0 := hDN hr
  unfold FltAt at hfl
  rw [if_neg hK0] at hfl
  obtain ⟨b, y1, y2, rfl, y4, y5⟩ := hfl
  exact ⟨none, 0, 0, _, _, _, _, rfl, rfl, .inl ⟨rfl, hK0, rfl, rfl, rfl, rfl, rfl, rfl, b, rfl, y2, y4, y5⟩⟩
 | some l =>
  rw [hr] at h
  obtain ⟨⟨G, hg⟩, rfl⟩ := h
  obtain ⟨al, cl, F, rfl, hls, hFl, hc1, hc2⟩ := doc_ls hg
  exact ⟨al, _, cl, 0, none, 0, 0, rfl, rfl, .inr ⟨l, F, rfl, rfl, rfl, rfl, rfl, rfl, hls, hFl, hc1, hc2⟩⟩
theorem doc_tok (z : List Int) (d : Int) : (toks z)[(docG z d).2.ix]? = some (docG z d).2.tok := by
 have hst : Stp (newG z d) (docG z d).2 := defsF_stp (defN_goes _) _ _ _ (newG_ok' z d)
 have := (docG z d).2.get hst.ok.lt
 rw [hst.ts] at this
 exact this
set_option maxHeartbeats 4000000 in
set_option maxRecDepth 4000 in
theorem law_spaced (s : ByteArray) (ga : Option Addr) (gn gc : Nat) (gz : List Int) (d : Int) (w : World) (hs : s.size ≤ 1048576) (hgr : Row .u8 w ga gn gc gz) (hgb : mem.Byt gz) (hgn : gn ≤ 1099511627776) (hd : (Lit.int .i64 d).wf = true) :
  Calls Tryz.prog 3 #[.string s, .slice ga gn gc, .int .i64 d] w fun e w' => e = .returned (.bool true) ∧ Below w.heap.size w w' := by
 have hPs := hide (fun W => parses_ok W)
 have hcv := hide (fun s W => conv_bytes9 s W)
 have hPa := hide (fun s W a n c (h : Row .u8 W a n c (mem.bytesZ s)) (hn : n ≤ 1073741824) => parse_ok a n c (mem.bytesZ s) d W h hn (mem.bytesZ_byt s) hd)
 have hTk := hide (fun s W a n c (h : Row .u8 W a n c (mem.bytesZ s)) (hn : n ≤ 1099511627776) => lx.tokensG_ok a n c (mem.bytesZ s) W h hn (mem.bytesZ_byt s))
 have htl := toks_len (mem.bytesZ s) (mem.bytesZ_byt s)
 rw [mem.bytesZ_len] at htl
 have hFA := hide (fun u hu hk => far_all (mem.bytesZ s) (mem.bytesZ_byt s) gz (u := u) hu hk)
 have hlen0 : 0 < (toks (mem.bytesZ s)).length := (newG_ok' (mem.bytesZ s) 0).lt
 have HGR := hide (And.intro hgr hgb)
 clear hd hgr hgb
 go_enter Tryz.func3, Tryz.ntmps3
 go_wp2_with fail
 refine ((unhide hPs) _).mono ?_
 rintro e w1 ⟨rfl, b1⟩
 clear hPs
 obtain ⟨cap, W2, hc2, hrow2, b2⟩ := (unhide hcv) s w1
 have hP := hide ((unhide hTk) s W2 _ _ _ hrow2 (by omega))
 clear hrow2
 go_wp2_with fail
 refine (unhide hP).mono ?_
 rintro e w3 ⟨p, cp, rfl, hp1, hp2, hrows, b3⟩
 have bw3 := b1.trans ((b2.trans (b3.mono b2.size)).mono b1.size)
 obtain ⟨ts, hts⟩ : ∃ ts, ts = toks (mem.bytesZ s) := ⟨_, rfl⟩
 rw [← hts] at hrows htl hFA hlen0 ⊢
 have HTS := hide hts
 have HRW := hide hrows
 obtain ⟨n, hn⟩ : ∃ n, n = ts.length := ⟨_, rfl⟩
 rw [← hn] at htl hlen0 hFA ⊢
 have HNN := hide hn
 have hget := List.getElem?_eq_getElem (l := ts) (i := n - 1) (by omega)
 obtain ⟨u, hu⟩ : ∃ u, u = ts[n - 1]'(by omega) := ⟨_, rfl⟩
 rw [← hu] at hget
 have HGU := hide hget
 have hrow7 := hrows _ u hget
 unfold Tk.cells at hrow7
 have m0 : w3.cell? ⟨p, (n - 1) * 7, none⟩ = some (.int .i64 u.k) := hrow7 0 _ rfl
 have hw4 : IntKind.i64.wrap ((n : Int) - 1) = ((n - 1 : Nat) : Int) := by rw [IntKind.wrap_i64]; omega
 have hq1 : ((n - 1 : Nat) : Int) < (n : Int) := by omega
 have hq0 : (0 : Int) ≤ ((n - 1 : Nat) : Int) := by omega
 have hnz : ¬ ((n : Int) = 0) := by omega
 have hnz' : ((n : Int) == 0) = false := by simp; omega
 have hnn : ¬ n = 0 := by omega
 clear hts hn hu hget hrow7 hrows b1 b2 b3 hP hc2
 by_cases hk : u.k = 0
 ·rw [hk] at m0
  have hfar := (unhide hFA) u (by have := unhide HGU; exact this) hk
  obtain ⟨hfl, hft, hfs⟩ := hfar
  have HFT := hide (And.intro hfl hft)
  have hBD := hide (fun k (hk : k ≤ n) => Nat.le_trans (farB_up gz ts k n hk) hfs)
  obtain ⟨W4, hW4⟩ : ∃ W, W = w3.alloc (.cells #[.string ⟨#[32]⟩, .string ⟨#[10]⟩, .string ⟨#[44]⟩, .string ⟨#[13, 10]⟩, .string ⟨#[32, 35, 120, 10]⟩, .string ⟨#[9]⟩, .string ⟨#[239, 187, 191]⟩] 9) := ⟨_, rfl⟩
  have b34 : Below w3.heap.size w3 W4 := by rw [hW4]; exact (Below.refl _ _).alloc (Nat.le_refl _) _
  have g4 : W4.heap[w3.heap.size]? = some (.cells #[.string ⟨#[32]⟩, .string ⟨#[10]⟩, .string ⟨#[44]⟩, .string ⟨#[13, 10]⟩, .string ⟨#[32, 35, 120, 10]⟩, .string ⟨#[9]⟩, .string ⟨#[239, 187, 191]⟩] 9 (0, 0)) := by rw [hW4]; exact heap_alloc_new _ _
  have z4 : w3.heap.size + 1 ≤ W4.heap.size := by rw [hW4]; simp
  have HZL := hide (mem.bytesZ_len s)
  clear hfl hft hfs hFA HGU
  go_wp2_with fail
  rw [← hW4]
  clear hW4
  go_loopw [9, 40] (fun fv iv wr => ∃ k : Nat, k ≤ n ∧ iv = .int .i64 k ∧ fv = .string (farB gz ts k) ∧ Below W4.heap.size W4 wr) (fun _ iv _ => n - (intOf iv).toNat)
  case atStart => exact ⟨0, Nat.zero_le _, rfl, rfl, Below.refl _ _⟩
  case round =>
   obtain ⟨k, hkn, rfl, rfl, hI⟩ := hrel
   by_cases hlt : k < n
   ·have ki : (k : Int) < (n : Int) := by omega
    have hkl : k < ts.length := by rw [← unhide HNN]; exact hlt
    have hgt := List.getElem?_eq_getElem hkl
    have hgd : ts.getD k Tk.zero = ts[k] := by rw [List.getD_eq_getElem?_getD, hgt]; rfl
    obtain ⟨v, hv⟩ : ∃ v, v = ts[k] := ⟨_, rfl⟩
    rw [← hv] at hgt hgd
    have hnext : farB gz ts (k + 1) = farB gz ts k ++ (gB gz k ++ v.tx) := by rw [← hgd]; rfl
    have hsz := (unhide hBD) (k + 1) (by omega)
    rw [hnext, size_app, size_app, unhide HZL] at hsz
    have hrow7 := ((unhide HRW) k v hgt).below b34
    unfold Tk.cells at hrow7
    have hc := fun (q : Nat) (x : Value) hx => (hI.cell (p := ⟨p, k * 7 + q, none⟩) (show p < W4.heap.size by omega)).trans (hrow7 q x hx)
    have m0' : wr.cell? ⟨p, k * 7, none⟩ = some (.int .i64 v.k) := hc 0 _ rfl
    have m1 : wr.cell? ⟨p, k * 7 + 1, none⟩ = some (.int .i64 v.ln) := hc 1 _ rfl
    have m2 : wr.cell? ⟨p, k * 7 + 2, none⟩ = some (.int .i64 v.co) := hc 2 _ rfl
    have m3 : wr.cell? ⟨p, k * 7 + 3, none⟩ = some (.int .i64 v.fr) := hc 3 _ rfl
    have m4 : wr.cell? ⟨p, k * 7 + 4, none⟩ = some (.int .i64 v.to) := hc 4 _ rfl
    have m5 : wr.cell? ⟨p, k * 7 + 5, none⟩ = some (.string v.tx) := hc 5 _ rfl
    have m6 : wr.cell? ⟨p, k * 7 + 6, none⟩ = some (.string v.va) := hc 6 _ rfl
    have HNX := hide hnext
    obtain ⟨FK, hFK⟩ : ∃ F, F = farB gz ts k := ⟨_, rfl⟩
    rw [← hFK] at HNX hsz ⊢
    have bT := fun o => show Below wr.heap.size wr (wr.alloc o) from (Below.refl _ _).alloc (Nat.le_refl _) _
    have HBT := hide (fun o => hI.trans ((bT o).mono hI.size))
    obtain ⟨hgr, hgb⟩ := unhide HGR
    have hgl := hgr.len
    by_cases hkg : k < gn
    ·have kg : (k : Int) < (gn : Int) := by omega
     rcases hgr.at_ with h0 | ⟨gb, go, rfl, hgb2, hgc⟩
     ·omega
     have hb0 := hgb (gz.getD k 0) (by rw [List.getD_eq_getElem?_getD, List.getElem?_eq_getElem (by omega)]; exact List.getElem_mem _)
     obtain ⟨b, hb⟩ : ∃ b, b = gz.getD k 0 := ⟨_, rfl⟩
     have hgv : gB gz k = ksB (b % 7).toNat ++ ksB (b / 16 % 7).toNat := by unfold gB; rw [if_pos (by omega), ← hb]
     rw [hgv, size_app] at hsz
     rw [hgv] at HNX
     rw [← hb] at hb0
     have G0 : W4.cell? ⟨gb, go + k, none⟩ = some (.int .u8 b) := ((bw3.trans (b34.mono bw3.size)).cell (p := ⟨gb, go + k, none⟩) hgb2).trans (by rw [hb]; exact hgc k hkg)
     obtain ⟨j1, hj1⟩ : ∃ j, j = (b % 7).toNat := ⟨_, rfl⟩
     obtain ⟨j2, hj2⟩ : ∃ j, j = (b / 16 % 7).toNat := ⟨_, rfl⟩
     rw [← hj1, ← hj2] at HNX hsz
     have r1 : Int.tmod b 7 = (j1 : Int) := by rw [Int.tmod_eq_emod_of_nonneg (by omega)]; omega
     have d1 : Int.tdiv b 16 = b / 16 := by rw [Int.tdiv_eq_ediv_of_nonneg (by omega)]
     have r2 : Int.tmod (b / 16) 7 = (j2 : Int) := by rw [Int.tmod_eq_emod_of_nonneg (by omega)]; omega
     have l1 : (j1 : Int) < 7 := by omega
     have l2 : (j2 : Int) < 7 := by omega
     have K1 := (kinds_at g4 j1 (by omega))
     have K2 := (kinds_at g4 j2 (by omega))
     obtain ⟨b2, hb2⟩ : ∃ x, x = b / 16 := ⟨_, rfl⟩
     rw [← hb2] at d1 r2
     have hbb : 0 ≤ b2 ∧ b2 ≤ 15 := by omega
     obtain ⟨s1, hs1⟩ : ∃ x, x = ksB j1 := ⟨_, rfl⟩
     obtain ⟨s2, hs2⟩ : ∃ x, x = ksB j2 := ⟨_, rfl⟩
     rw [← hs1] at K1 HNX hsz
     rw [← hs2] at K2 HNX hsz
     have x1 : IntKind.i64.wrap b = b := by rw [IntKind.wrap_i64]; omega
     have x2 : IntKind.i64.wrap (j1 : Int) = (j1 : Int) := by rw [IntKind.wrap_i64]; omega
     have x3 : IntKind.i64.wrap b2 = b2 := by rw [IntKind.wrap_i64]; omega
     have x4 : IntKind.i64.wrap (j2 : Int) = (j2 : Int) := by rw [IntKind.wrap_i64]; omega
     have x5 : IntKind.u8.wrap b2 = b2 := by simp [IntKind.wrap, IntKind.signed, IntKind.bits]; omega
     have lg : gb < W4.heap.size := by have := bw3.size; omega
     clear hgv hb hj1 hj2 hb2 hs1 hs2 hFK hc hrow7 hgc hgd hgt hv hnext hgr hgb bT hgl
     go_wp2_with fail
     obtain ⟨Y, hY⟩ : ∃ Y, Y = wr.alloc (.cells #[.int .i64 v.k, .int .i64 v.ln, .int .i64 v.co, .int .i64 v.fr, .int .i64 v.to, .string v.tx, .string v.va] 30) := ⟨_, rfl⟩
     have bY : Below W4.heap.size W4 Y := by rw [hY]; exact (unhide HBT) _
     have gY : Y.heap[wr.heap.size]? = some (.cells #[.int .i64 v.k, .int .i64 v.ln, .int .i64 v.co, .int .i64 v.fr, .int .i64 v.to, .string v.tx, .string v.va] 30 (0, 0)) := by rw [hY]; exact heap_alloc_new _ _
     rw [← hY]
     clear hY
     have lt := (Array.getElem?_eq_some_iff.1 gY).1
     have sY := bY.size
     have G0Y := (bY.cell (p := ⟨gb, go + k, none⟩) lg).trans G0
     have K1Y := (bY.cell (p := ⟨w3.heap.size, j1, none⟩) (show w3.heap.size < W4.heap.size by omega)).trans K1
     have K2Y := (bY.cell (p := ⟨w3.heap.size, j2, none⟩) (show w3.heap.size < W4.heap.size by omega)).trans K2
     have lgY : gb < Y.heap.size := by omega
     have lkY : w3.heap.size < Y.heap.size := by omega
     have n7 : ¬ ((7 : Int) = 0) := by decide
     have hss : ¬ (9223372036854775807 < s1.size + s2.size) := by omega
     have hS0 : Below Y.heap.size Y { Y with drawn := Y.drawn + 1 } := (Below.refl _ _).drew
     clear m0' m1 m2 m3 m4 m5 m6 G0 K1 K2
     refine wp_region_noPanic ?_
     refine wp_region_held (S := fun w' => Below Y.heap.size Y w') mixed ?_
     refine rgn.tl (i := 0) (v := ?v1) rfl (by kernel_rfl) (fun _ _ _ h => h) (by rfl) ?hy1 hS0 ?_
     case hy1 => (intro w' hw'; go_simp; try with_reducible rfl)
     simp only [rgn.l1, rgn.l2, rgn.l3, Act.put, rgn.l4, rgn.l5, rgn.l6]
     refine rgn.tl (i := 1) (v := ?v2) rfl (by kernel_rfl) (fun _ _ _ h => h) (by rfl) ?hy2 hS0 ?_
     case hy2 => (intro w' hw'; go_simp; try with_reducible rfl)
     simp only [rgn.l1, rgn.l2, rgn.l3, Act.put, rgn.l4, rgn.l5, rgn.l6]
     refine rgn.tl (i := 2) (v := ?v3) rfl (by kernel_rfl) (fun _ _ _ h => h) (by rfl) ?hy3 hS0 ?_
     case hy3 => (intro w' hw'; go_simp; try with_reducible rfl)
     simp only [rgn.l1, rgn.l2, rgn.l3, Act.put, rgn.l4, rgn.l5, rgn.l6]
     refine rgn.tl (i := 3) (v := ?v4) rfl (by kernel_rfl) (fun _ _ _ h => h) (by rfl) ?hy4 hS0 ?_
     case hy4 => (intro w' hw'; go_simp; try with_reducible rfl)
     simp only [rgn.l1, rgn.l2, rgn.l3, Act.put, rgn.l4, rgn.l5, rgn.l6]
     refine rgn.tl (i := 4) (v := ?v5) rfl (by kernel_rfl) (fun _ _ _ h => h) (by rfl) ?hy5 hS0 ?_
     case hy5 => (intro w' hw'; have q0 := (hw'.cell (p := ⟨gb, go + k, none⟩) lgY).trans G0Y; go_simp; try with_reducible rfl)
     simp only [rgn.l1, rgn.l2, rgn.l3, Act.put, rgn.l4, rgn.l5, rgn.l6]
     refine rgn.tl (i := 5) (v := ?v6) rfl (by kernel_rfl) (fun _ _ _ h => h) (by rfl) ?hy6 hS0 ?_
     case hy6 => (intro w' hw'; go_simp; try with_reducible rfl)
     simp only [rgn.l1, rgn.l2, rgn.l3, Act.put, rgn.l4, rgn.l5, rgn.l6]
     refine rgn.tl (i := 6) (v := ?v7) rfl (by kernel_rfl) (fun _ _ _ h => h) (by rfl) ?hy7 hS0 ?_
     case hy7 => (intro w' hw'; go_simp; try with_reducible rfl)
     simp only [rgn.l1, rgn.l2, rgn.l3, Act.put, rgn.l4, rgn.l5, rgn.l6]
     refine rgn.tl (i := 7) (v := ?v8) rfl (by kernel_rfl) (fun _ _ _ h => h) (by rfl) ?hy8 hS0 ?_
     case hy8 => (intro w' hw'; go_simp; try with_reducible rfl)
     simp only [rgn.l1, rgn.l2, rgn.l3, Act.put, rgn.l4, rgn.l5, rgn.l6]
     refine rgn.tl (i := 8) (v := ?v9) rfl (by kernel_rfl) (fun _ _ _ h => h) (by rfl) ?hy9 hS0 ?_
     case hy9 => (intro w' hw'; have q0 := r1; have q1 := x2; go_simp; try with_reducible rfl)
     simp only [rgn.l1, rgn.l2, rgn.l3, Act.put, rgn.l4, rgn.l5, rgn.l6]
     refine rgn.tl (i := 9) (v := ?v10) rfl (by kernel_rfl) (fun _ _ _ h => h) (by rfl) ?hy10 hS0 ?_
     case hy10 => (intro w' hw'; have q0 := l1; go_simp; try with_reducible rfl)
     simp only [rgn.l1, rgn.l2, rgn.l3, Act.put, rgn.l4, rgn.l5, rgn.l6]
     refine rgn.tl (i := 10) (v := ?v11) rfl (by kernel_rfl) (fun _ _ _ h => h) (by rfl) ?hy11 hS0 ?_
     case hy11 => (intro w' hw'; have q0 := (hw'.cell (p := ⟨w3.heap.size, j1, none⟩) lkY).trans K1Y; go_simp; try with_reducible rfl)
     simp only [rgn.l1, rgn.l2, rgn.l3, Act.put, rgn.l4, rgn.l5, rgn.l6]
     refine rgn.tl (i := 11) (v := ?v12) rfl (by kernel_rfl) (fun _ _ _ h => h) (by rfl) ?hy12 hS0 ?_
     case hy12 => (intro w' hw'; go_simp; try with_reducible rfl)
     simp only [rgn.l1, rgn.l2, rgn.l3, Act.put, rgn.l4, rgn.l5, rgn.l6]
     refine rgn.tl (i := 12) (v := ?v13) rfl (by kernel_rfl) (fun _ _ _ h => h) (by rfl) ?hy13 hS0 ?_
     case hy13 => (intro w' hw'; go_simp; try with_reducible rfl)
     simp only [rgn.l1, rgn.l2, rgn.l3, Act.put, rgn.l4, rgn.l5, rgn.l6]
     refine rgn.tl (i := 13) (v := ?v14) rfl (by kernel_rfl) (fun _ _ _ h => h) (by rfl) ?hy14 hS0 ?_
     case hy14 => (intro w' hw'; go_simp; try with_reducible rfl)
     simp only [rgn.l1, rgn.l2, rgn.l3, Act.put, rgn.l4, rgn.l5, rgn.l6]
     refine rgn.tl (i := 14) (v := ?v15) rfl (by kernel_rfl) (fun _ _ _ h => h) (by rfl) ?hy15 hS0 ?_
     case hy15 => (intro w' hw'; go_simp; try with_reducible rfl)
     simp only [rgn.l1, rgn.l2, rgn.l3, Act.put, rgn.l4, rgn.l5, rgn.l6]
     refine rgn.tl (i := 15) (v := ?v16) rfl (by kernel_rfl) (fun _ _ _ h => h) (by rfl) ?hy16 hS0 ?_
     case hy16 => (intro w' hw'; have q0 := (hw'.cell (p := ⟨gb, go + k, none⟩) lgY).trans G0Y; go_simp; try with_reducible rfl)
     simp only [rgn.l1, rgn.l2, rgn.l3, Act.put, rgn.l4, rgn.l5, rgn.l6]
     refine rgn.tl (i := 16) (v := ?v17) rfl (by kernel_rfl) (fun _ _ _ h => h) (by rfl) ?hy17 hS0 ?_
     case hy17 => (intro w' hw'; have q0 := d1; have q1 := x5; go_simp; try with_reducible rfl)
     simp only [rgn.l1, rgn.l2, rgn.l3, Act.put, rgn.l4, rgn.l5, rgn.l6]
     refine rgn.tl (i := 17) (v := ?v18) rfl (by kernel_rfl) (fun _ _ _ h => h) (by rfl) ?hy18 hS0 ?_
     case hy18 => (intro w' hw'; go_simp; try with_reducible rfl)
     simp only [rgn.l1, rgn.l2, rgn.l3, Act.put, rgn.l4, rgn.l5, rgn.l6]
     refine rgn.tl (i := 18) (v := ?v19) rfl (by kernel_rfl) (fun _ _ _ h => h) (by rfl) ?hy19 hS0 ?_
     case hy19 => (intro w' hw'; go_simp; try with_reducible rfl)
     simp only [rgn.l1, rgn.l2, rgn.l3, Act.put, rgn.l4, rgn.l5, rgn.l6]
     refine rgn.tl (i := 19) (v := ?v20) rfl (by kernel_rfl) (fun _ _ _ h => h) (by rfl) ?hy20 hS0 ?_
     case hy20 => (intro w' hw'; go_simp; try with_reducible rfl)
     simp only [rgn.l1, rgn.l2, rgn.l3, Act.put, rgn.l4, rgn.l5, rgn.l6]
     refine rgn.tl (i := 20) (v := ?v21) rfl (by kernel_rfl) (fun _ _ _ h => h) (by rfl) ?hy21 hS0 ?_
     case hy21 => (intro w' hw'; have q0 := r2; have q1 := x4; go_simp; try with_reducible rfl)
     simp only [rgn.l1, rgn.l2, rgn.l3, Act.put, rgn.l4, rgn.l5, rgn.l6]
     refine rgn.tl (i := 21) (v := ?v22) rfl (by kernel_rfl) (fun _ _ _ h => h) (by rfl) ?hy22 hS0 ?_
     case hy22 => (intro w' hw'; have q0 := l2; go_simp; try with_reducible rfl)
     simp only [rgn.l1, rgn.l2, rgn.l3, Act.put, rgn.l4, rgn.l5, rgn.l6]
     refine rgn.tl (i := 22) (v := ?v23) rfl (by kernel_rfl) (fun _ _ _ h => h) (by rfl) ?hy23 hS0 ?_
     case hy23 => (intro w' hw'; have q0 := (hw'.cell (p := ⟨w3.heap.size, j2, none⟩) lkY).trans K2Y; go_simp; try with_reducible rfl)
     simp only [rgn.l1, rgn.l2, rgn.l3, Act.put, rgn.l4, rgn.l5, rgn.l6]
     refine rgn.tl (i := 23) (v := ?v24) rfl (by kernel_rfl) (fun _ _ _ h => h) (by rfl) ?hy24 hS0 ?_
     case hy24 => (intro w' hw'; have q0 := hss; go_simp; try with_reducible rfl)
     simp only [rgn.l1, rgn.l2, rgn.l3, Act.put, rgn.l4, rgn.l5, rgn.l6]
     refine rgn.tl (i := 24) (v := ?v25) rfl (by kernel_rfl) (fun _ _ _ h => h) (by rfl) ?hy25 hS0 ?_
     case hy25 => (intro w' hw'; go_simp; try with_reducible rfl)
     simp only [rgn.l1, rgn.l2, rgn.l3, Act.put, rgn.l4, rgn.l5, rgn.l6]
     refine wpAnyH_done (by kernel_rfl) ?_ _; refine NoPanic.normal ?_
     obtain ⟨Y1, hY1⟩ : ∃ Y1, Y1 = { Y with drawn := Y.drawn + 1 } := ⟨_, rfl⟩
     rw [← hY1] at hS0 ⊢
     have TX : Y1.cell? ⟨wr.heap.size, 5, none⟩ = some (.string v.tx) := (hS0.cell (p := ⟨wr.heap.size, 5, none⟩) lt).trans ((dt.cell_cells gY 5).trans rfl)
     have BY1 := hide (bY.trans (hS0.mono bY.size))
     clear hY1 hS0 G0Y K1Y K2Y gY bY r1 r2 d1 x1 x2 x3 x4 x5
     go_wp2_with fail
     go_roundw
     case rel => exact ⟨k + 1, by omega, by go_num, by rw [unhide HNX], unhide BY1⟩
     case measure => first | (simp [intOf]; omega) | simp [intOf]
    ·have kg : ¬ (k : Int) < (gn : Int) := by omega
     have hgv : gB gz k = ⟨#[32]⟩ := by unfold gB; rw [if_neg (by omega)]
     rw [hgv] at HNX hsz
     clear hgv hFK hc hrow7 hgd hgt hv hnext hgr hgb bT
     go_wp2_with fail
     go_roundw
     case rel => exact ⟨k + 1, by omega, by go_num, by rw [unhide HNX], (unhide HBT) _⟩
     case measure => first | (simp [intOf]; omega) | simp [intOf]
   ·have ki : ¬ ((n : Int) < (n : Int)) := by omega
    have hkn2 : k = n := by omega
    rw [hkn2]
    clear hlt hkn hkn2
    obtain ⟨FAR, hFAR⟩ : ∃ F, F = farB gz ts n := ⟨_, rfl⟩
    have hfs := (unhide hBD) n (Nat.le_refl _)
    obtain ⟨hfl, hft⟩ := unhide HFT
    rw [unhide HZL] at hfs
    rw [← hFAR] at hfs hfl hft ⊢
    have HDA := hide (doc_alike (mem.bytesZ s) (mem.bytesZ FAR) d (by rw [hfl, ← unhide HTS]; exact unhide HNN) (fun q t h => hft q t (by rw [unhide HTS]; exact h)))
    have HFL := hide hfl
    clear hFAR hfl hft HFT hBD g4 HGR
    obtain ⟨cap5, W5, hc5, hrow5, b5⟩ := (unhide hcv) s wr
    have hP5 := hide ((unhide hPa) s W5 _ _ _ hrow5 (by omega))
    clear hrow5
    go_wp2_with fail
    refine (unhide hP5).mono ?_
    rintro e w6 ⟨sl, fs, rfl, hpp, b6⟩
    have b46 := hI.trans ((b5.trans (b6.mono b5.size)).mono hI.size)
    obtain ⟨a1, n1, c1, K1, fa1, fn1, fc1, rfl, rfl, hq1⟩ := par_formp (show ParPost (docG (mem.bytesZ s) d) W5.heap.size w6 sl fs from hpp)
    have HQ1 := hide hq1
    have b36 := b34.trans (b46.mono b34.size)
    have HRW6 := hide (fun i u hu => ((unhide HRW) i u hu).below b36)
    have bw6 := bw3.trans (b36.mono bw3.size)
    have p6 : p < w6.heap.size := Nat.lt_of_lt_of_le hp2 b36.size
    clear hq1 hpp hP5 hc5 b5 b6 hI b46 b34 bw3 b36 z4 HRW
    obtain ⟨X, hX⟩ : ∃ X, X = (w6.alloc (.cells #[.slice a1 n1 c1] 34)).alloc (.cells #[.int .i64 K1, .slice fa1 fn1 fc1, .slice none 0 0] 39) := ⟨_, rfl⟩
    have bX : Below w6.heap.size w6 X := by rw [hX]; exact two_alloc _ _ _
    obtain ⟨cap7, W7, hc7, hrow7, b7⟩ := (unhide hcv) FAR X
    have gX := (show X.heap[w6.heap.size]? = _ ∧ X.heap[w6.heap.size + 1]? = _ from by rw [hX]; exact two_at _ _ _ _ _)
    have zE : X.heap.size = w6.heap.size + 1 + 1 := by rw [hX]; simp
    rw [zE] at hc7 hrow7
    rw [hX] at hc7
    have hP7 := hide ((unhide hPa) FAR W7 _ _ _ hrow7 (by omega))
    have bX7 := bX.trans (b7.mono bX.size)
    have HG7 := hide (And.intro ((b7.block w6.heap.size (by omega)).trans gX.1) (And.intro ((b7.block (w6.heap.size + 1) (by omega)).trans gX.2) bX7))
    have z7 := b7.size
    clear hrow7 hX gX b7 bX bX7
    go_wp2_with fail
    refine (unhide hP7).mono ?_
    rintro e w8 ⟨sl, fs, rfl, hpp, b8⟩
    obtain ⟨a2, n2, c2, K2, fa2, fn2, fc2, rfl, rfl, hq2⟩ := par_formp (show ParPost (docG (mem.bytesZ FAR) d) W7.heap.size w8 sl fs from hpp)
    have HQ2 := hide hq2
    clear hq2
    have z8 := b8.size
    have g8 := (b8.block w6.heap.size (by omega)).trans (unhide HG7).1
    have g8' := (b8.block (w6.heap.size + 1) (by omega)).trans (unhide HG7).2.1
    have b68 : Below w6.heap.size w6 w8 := (unhide HG7).2.2.trans (b8.mono (unhide HG7).2.2.size)
    have bw8 := bw6.trans (b68.mono bw6.size)
    have z68 : w6.heap.size + 2 ≤ w8.heap.size := by omega
    clear hpp hP7 hc7 b8 HG7 zE z7 z8 hPa
    obtain ⟨Z, hZ⟩ : ∃ Z, Z = (w8.alloc (.cells #[.slice a2 n2 c2] 34)).alloc (.cells #[.int .i64 K2, .slice fa2 fn2 fc2, .slice none 0 0] 39) := ⟨_, rfl⟩
    have bZ : Below w8.heap.size w8 Z := by rw [hZ]; exact two_alloc _ _ _
    have gZ := (show Z.heap[w8.heap.size]? = _ ∧ Z.heap[w8.heap.size + 1]? = _ from by rw [hZ]; exact two_at _ _ _ _ _)
    have zZ : Z.heap.size = w8.heap.size + 2 := by rw [hZ]; simp
    have b6Z := b68.trans (bZ.mono b68.size)
    have bwZ := bw8.trans (bZ.mono bw8.size)
    have gD := (bZ.block w6.heap.size (by omega)).trans g8
    have gF := (bZ.block (w6.heap.size + 1) (by omega)).trans g8'
    clear bw6 bw8
    rcases unhide HDA with ⟨⟨r, r', f, e1, e2, e3⟩ | ⟨e1, e2⟩, hkd, hix⟩
    ·rcases unhide HQ1 with ⟨h, _⟩ | ⟨l1, F1, hr1, rfl, rfl, rfl, rfl, rfl, hls1, hF1, hc11, hc12⟩
     ·rw [e1] at h; cases h
     rcases unhide HQ2 with ⟨h, _⟩ | ⟨l2, F2, hr2, rfl, rfl, rfl, rfl, rfl, hls2, hF2, hc21, hc22⟩
     ·rw [e2] at h; cases h
     have hl1 := defsF_len _ _ _ _ _ (show (docS (newG (mem.bytesZ s) d)).1 = some l1 from hr1)
     rw [hr1] at e1
     rw [hr2] at e2
     obtain rfl := Option.some.inj e1
     obtain rfl := Option.some.inj e2
     have hSD := hide (sdoc_ok false l1 l2 (defs_f _ _ l1 l2 e3) Z a1 a2 c1 c2 F1 F2 (hls1.below hF1 b6Z) (hls2.below hF2 bZ) (fun b hb => Nat.lt_of_lt_of_le (hF1 b hb) b6Z.size) (fun b hb => Nat.lt_of_lt_of_le (hF2 b hb) bZ.size) hc11 hc21 hc12 hc22)
     have x0 : ∀ o o', ((w8.alloc o).alloc o').cell? ⟨w6.heap.size, 0, none⟩ = some (.slice a1 l1.length c1) := fun o o' => ((two_alloc w8 o o').cell (p := ⟨w6.heap.size, 0, none⟩) (show w6.heap.size < w8.heap.size by omega)).trans ((dt.cell_cells g8 0).trans rfl)
     have x1 : ∀ o o', ((w8.alloc o).alloc o').cell? ⟨w6.heap.size + 1, 0, none⟩ = some (.int .i64 0) := fun o o' => ((two_alloc w8 o o').cell (p := ⟨w6.heap.size + 1, 0, none⟩) (show w6.heap.size + 1 < w8.heap.size by omega)).trans ((dt.cell_cells g8' 0).trans rfl)
     have x2 : ∀ o o', ((w8.alloc o).alloc o').cell? ⟨w6.heap.size + 1, 1, none⟩ = some (.slice none 0 0) := fun o o' => ((two_alloc w8 o o').cell (p := ⟨w6.heap.size + 1, 1, none⟩) (show w6.heap.size + 1 < w8.heap.size by omega)).trans ((dt.cell_cells g8' 1).trans rfl)
     have hl0 : (0 : Int) < (l1.length : Int) := by omega
     have Y0 : Z.cell? ⟨w6.heap.size, 0, none⟩ = some (.slice a1 l1.length c1) := by rw [hZ]; exact x0 _ _
     have Y1 : Z.cell? ⟨w6.heap.size + 1, 0, none⟩ = some (.int .i64 0) := by rw [hZ]; exact x1 _ _
     have HY := hide (And.intro Y0 Y1)
     have hl0d : decide (0 < l1.length) = true := decide_eq_true hl1.1
     have z6Z : w6.heap.size + 2 ≤ Z.heap.size := by omega
     clear Y0 Y1 gD gF gZ g8 g8' hls1 hls2 hF1 hF2 hc11 hc12 hc21 hc22 e1 e2 e3 hr1 hr2 hl1 HQ1 HQ2 HDA HRW6 hcv hTk HTS HNN HFL hkd hix b68 b6Z bZ
     go_wp2_with fail
     rw [← hZ]
     refine (unhide hSD).mono ?_
     rintro e9 w9 ⟨rfl, b9⟩
     have v0 := (b9.cell (p := ⟨w6.heap.size, 0, none⟩) (show w6.heap.size < Z.heap.size by omega)).trans (unhide HY).1
     have v1 := (b9.cell (p := ⟨w6.heap.size + 1, 0, none⟩) (show w6.heap.size + 1 < Z.heap.size by omega)).trans (unhide HY).2
     clear hSD x0 x1 x2 HY hZ
     go_wp2_with fail
     go_ret
     exact ⟨rfl, bwZ.trans (b9.mono bwZ.size)⟩
    ·rcases unhide HQ1 with ⟨_, hK1, hK1', rfl, rfl, rfl, rfl, rfl, q1, rfl, lb1, cb1, cb1'⟩ | ⟨l1, F1, hr1, _⟩
     rotate_left
     ·rw [e1] at hr1; cases hr1
     rcases unhide HQ2 with ⟨_, _, hK2', rfl, rfl, rfl, rfl, rfl, q2, rfl, lb2, cb2, cb2'⟩ | ⟨l1, F1, hr1, _⟩
     rotate_left
     ·rw [e2] at hr1; cases hr1
     obtain rfl : K2 = K1 := by rw [hK2', hkd, hK1']
     have ht1 := doc_tok (mem.bytesZ s) d
     have ht2 := doc_tok (mem.bytesZ FAR) d
     rw [hix] at ht2
     obtain ⟨t1, ht1'⟩ : ∃ t, t = (docG (mem.bytesZ s) d).2.tok := ⟨_, rfl⟩
     obtain ⟨t2, ht2'⟩ : ∃ t, t = (docG (mem.bytesZ FAR) d).2.tok := ⟨_, rfl⟩
     obtain ⟨m, hm'⟩ : ∃ m, m = (docG (mem.bytesZ s) d).2.ix := ⟨_, rfl⟩
     rw [← ht1', ← hm'] at ht1
     rw [← ht2', ← hm'] at ht2
     rw [← ht1'] at cb1 cb1'
     rw [← ht2'] at cb2 cb2'
     have HT1 := hide (And.intro ht1 (fun q u (hq : (toks (mem.bytesZ s))[q]? = some u) e => toks_at _ hq ht1 e))
     have HT2 := hide (And.intro ht2 (fun q u (hq : (toks (mem.bytesZ FAR))[q]? = some u) e => toks_at _ hq ht2 e))
     rw [← unhide HTS] at HT1
     clear ht1 ht2 ht1' ht2' hm' hkd hix hK1' hK2'
     have hSD := hide (sdoc_ok false [] [] (defs_f 0 0 [] [] EqLs.nil) Z none none 0 0 [] [] (.inl rfl) (.inl rfl) (fun b hb => by cases hb) (fun b hb => by cases hb) (Nat.le_refl _) (Nat.le_refl _) (Nat.zero_le _) (Nat.zero_le _))
     have x0 : ∀ o o', ((w8.alloc o).alloc o').cell? ⟨w6.heap.size, 0, none⟩ = some (.slice none 0 0) := fun o o' => ((two_alloc w8 o o').cell (p := ⟨w6.heap.size, 0, none⟩) (show w6.heap.size < w8.heap.size by omega)).trans ((dt.cell_cells g8 0).trans rfl)
     have x1 : ∀ o o', ((w8.alloc o).alloc o').cell? ⟨w6.heap.size + 1, 0, none⟩ = some (.int .i64 K2) := fun o o' => ((two_alloc w8 o o').cell (p := ⟨w6.heap.size + 1, 0, none⟩) (show w6.heap.size + 1 < w8.heap.size by omega)).trans ((dt.cell_cells g8' 0).trans rfl)
     have x2 : ∀ o o', ((w8.alloc o).alloc o').cell? ⟨w6.heap.size + 1, 1, none⟩ = some (.slice (some ⟨q1, 0, none⟩) 1 1) := fun o o' => ((two_alloc w8 o o').cell (p := ⟨w6.heap.size + 1, 1, none⟩) (show w6.heap.size + 1 < w8.heap.size by omega)).trans ((dt.cell_cells g8' 1).trans rfl)
     have Y1 : Z.cell? ⟨w6.heap.size + 1, 0, none⟩ = some (.int .i64 K2) := by rw [hZ]; exact x1 _ _
     have Y2 : Z.cell? ⟨w6.heap.size + 1, 1, none⟩ = some (.slice (some ⟨q1, 0, none⟩) 1 1) := by rw [hZ]; exact x2 _ _
     have Y3 : Z.cell? ⟨w8.heap.size + 1, 1, none⟩ = some (.slice (some ⟨q2, 0, none⟩) 1 1) := (dt.cell_cells gZ.2 1).trans rfl
     have R1 := (b6Z.cell (p := ⟨q1, 0, none⟩) lb1).trans cb1
     have R1' := (b6Z.cell (p := ⟨q1, 1, none⟩) lb1).trans cb1'
     have R2 := (bZ.cell (p := ⟨q2, 0, none⟩) lb2).trans cb2
     have R2' := (bZ.cell (p := ⟨q2, 1, none⟩) lb2).trans cb2'
     have HRZ := hide (fun i u hu => ((unhide HRW6) i u hu).below b6Z)
     have lq1 : q1 < Z.heap.size := by have := b6Z.size; omega
     have lq2 : q2 < Z.heap.size := by have := bZ.size; omega
     have lpZ : p < Z.heap.size := by have := b6Z.size; omega
     have HY := hide (And.intro Y1 (And.intro Y2 (And.intro Y3 (And.intro R1 (And.intro R1' (And.intro R2 R2'))))))
     have z6Z : w6.heap.size + 2 ≤ Z.heap.size := by omega
     have hKb : (K2 == 0) = false := by simpa using hK1
     clear Y1 Y2 Y3 R1 R1' R2 R2' gD gF gZ g8 g8' e1 e2 HQ1 HQ2 HDA HRW6 b68 b6Z bZ cb1 cb1' cb2 cb2' lb1 lb2
     go_wp2_with fail
     rw [← hZ]
     refine (unhide hSD).mono ?_
     rintro e9 w9 ⟨rfl, b9⟩
     have v1 := (b9.cell (p := ⟨w6.heap.size + 1, 0, none⟩) (show w6.heap.size + 1 < Z.heap.size by omega)).trans (unhide HY).1
     have v2 := (b9.cell (p := ⟨w6.heap.size + 1, 1, none⟩) (show w6.heap.size + 1 < Z.heap.size by omega)).trans (unhide HY).2.1
     have v3 := (b9.cell (p := ⟨q1, 0, none⟩) lq1).trans (unhide HY).2.2.2.1
     have v4 := (b9.cell (p := ⟨q1, 1, none⟩) lq1).trans (unhide HY).2.2.2.2.1
     have hA1 := hide (fun W (bb : Below Z.heap.size Z W) => tokenAt_ok p n cp ts m t1 W (unhide HNN).symm (by omega) (Nat.lt_of_lt_of_le lpZ bb.size) (fun i u hu => ((unhide HRZ) i u hu).below bb) (unhide HT1).1 (unhide HT1).2)
     clear hSD x0 x1 x2 hZ
     go_wp2_with fail
     refine ((unhide hA1) _ b9).mono ?_
     rintro e10 w10 ⟨rfl, b10⟩
     clear hA1 v1 v2 v3 v4
     obtain ⟨U, hU⟩ : ∃ U, U = w10.alloc (.cells #[.int .i64 0, .int .i64 0, .int .i64 0, .int .i64 0, .int .i64 0, .string ⟨#[]⟩, .string ⟨#[]⟩] 30) := ⟨_, rfl⟩
     have bU : Below w10.heap.size w10 U := by rw [hU]; exact (Below.refl _ _).alloc (Nat.le_refl _) _
     have gU : U.heap[w10.heap.size]? = some (.cells #[.int .i64 0, .int .i64 0, .int .i64 0, .int .i64 0, .int .i64 0, .string ⟨#[]⟩, .string ⟨#[]⟩] 30 (0, 0)) := by rw [hU]; exact heap_alloc_new _ _
     have hth : U.there w10.heap.size 0 7 := dt.there_cells gU (by decide)
     rw [hU] at hth
     have HTH := hide hth
     have b10s := b10.size
     have bVa : Below Z.heap.size Z U := b9.trans ((b10.trans (bU.mono b10.size)).mono b9.size)
     have z9 := b9.size
     clear hth gU bU b9 b10
     go_wp2_with (first
      | refine wpList_store_mid (by rfl) 30 _ _ (by rfl) w10.heap.size 0 t1.cells.toArray (by rfl) (by rfl) (unhide HTH) infoTk9 (dt.one_cells (cs := t1.cells) (by rfl)) ?_)
     rw [← hU]
     obtain ⟨V, hV⟩ : ∃ V, V = U.setCells w10.heap.size 0 t1.cells.toArray.toList := ⟨_, rfl⟩
     have bV : Below Z.heap.size Z V := by rw [hV]; exact dt.below_setCells _ _ _ _ bVa (by omega)
     rw [← hV]
     clear hV hU HTH bVa
     have g0 := (bV.cell (p := ⟨w8.heap.size + 1, 1, none⟩) (show w8.heap.size + 1 < Z.heap.size by omega)).trans (unhide HY).2.2.1
     have p0 := (bV.cell (p := ⟨q2, 0, none⟩) lq2).trans (unhide HY).2.2.2.2.2.1
     have p1 := (bV.cell (p := ⟨q2, 1, none⟩) lq2).trans (unhide HY).2.2.2.2.2.2
     have sZV := bV.size
     have hfl2 : (toks (mem.bytesZ FAR)).length ≤ 4294967296 := by rw [unhide HFL]; omega
     have hal : ∀ W : World, (Instr.alloc 30 true (.tuple #[])).run Tryz.prog W = .ok (.pointer (some ⟨W.heap.size, 0, none⟩)) (W.alloc (.cells #[.int .i64 0, .int .i64 0, .int .i64 0, .int .i64 0, .int .i64 0, .string ⟨#[]⟩, .string ⟨#[]⟩] 30)) := fun W => by go_simp
     have hSY : Below V.heap.size V { V with drawn := V.drawn + 1 } := (Below.refl _ _).drew
     refine wp_region_noPanic ?_
     refine wp_region_held (S := fun w' => Below V.heap.size V w') mixed ?_
     obtain ⟨Y, hY⟩ : ∃ Y, Y = { V with drawn := V.drawn + 1 } := ⟨_, rfl⟩
     rw [← hY] at hSY ⊢
     clear hY
     have hS0 := hSY
     have sY := hSY.size
     refine rgn.tl (i := 0) (v := ?v26) rfl (by kernel_rfl) (fun _ _ _ h => h) (by rfl) ?hy26 hS0 ?_
     case hy26 => (intro w' hw'; go_simp; try with_reducible rfl)
     simp only [rgn.l1, rgn.l2, rgn.l3, Act.put, rgn.l4, rgn.l5, rgn.l6]
     refine rgn.tl (i := 3) (v := ?v27) rfl (by kernel_rfl) (fun _ _ _ h => h) (by rfl) ?hy27 hS0 ?_
     case hy27 => (intro w' hw'; go_simp; try with_reducible rfl)
     simp only [rgn.l1, rgn.l2, rgn.l3, Act.put, rgn.l4, rgn.l5, rgn.l6]
     refine rgn.tl (i := 4) (v := ?v28) rfl (by kernel_rfl) (fun _ _ _ h => h) (by rfl) ?hy28 hS0 ?_
     case hy28 => (intro w' hw'; have q0 := (hw'.cell (p := ⟨w8.heap.size + 1, 1, none⟩) (show w8.heap.size + 1 < V.heap.size by omega)).trans g0; go_simp; try with_reducible rfl)
     simp only [rgn.l1, rgn.l2, rgn.l3, Act.put, rgn.l4, rgn.l5, rgn.l6]
     refine rgn.tl (i := 5) (v := ?v29) rfl (by kernel_rfl) (fun _ _ _ h => h) (by rfl) ?hy29 hS0 ?_
     case hy29 => (intro w' hw'; go_simp; try with_reducible rfl)
     simp only [rgn.l1, rgn.l2, rgn.l3, Act.put, rgn.l4, rgn.l5, rgn.l6]
     refine rgn.tl (i := 6) (v := ?v30) rfl (by kernel_rfl) (fun _ _ _ h => h) (by rfl) ?hy30 hS0 ?_
     case hy30 => (intro w' hw'; have q0 := (hw'.cell (p := ⟨q2, 0, none⟩) (show q2 < V.heap.size by omega)).trans p0; have q1 := (hw'.cell (p := ⟨q2, 1, none⟩) (show q2 < V.heap.size by omega)).trans p1; go_simp; try with_reducible rfl)
     simp only [rgn.l1, rgn.l2, rgn.l3, Act.put, rgn.l4, rgn.l5, rgn.l6]
     refine rgn.two (i := 1) (j := 11) _ _ rfl rfl (by kernel_rfl) (by rfl) (by rfl) ?_ ?_
     ·try simp only [rgn.l1, rgn.l2, rgn.l3, Act.put, rgn.l4, rgn.l5, rgn.l6]
      obtain ⟨cv1, V1, hcv1, hrow1, bv1⟩ := (unhide hcv) FAR Y
      refine rgn.conv_wp 9 22 _ rfl (.string FAR) (by rfl) hcv1 ?_
      have sv1 := bv1.size
      have hSn1 := hS0.trans (bv1.mono hS0.size)
      refine ⟨hSn1, ?_⟩
      clear hS0
      have hS0 := hSn1
      try simp only [rgn.l1, rgn.l2, rgn.l3, Act.put, rgn.l4, rgn.l5, rgn.l6]
      clear hcv1
      refine rgn.two (i := 2) (j := 11) _ _ rfl rfl (by kernel_rfl) (by rfl) (by rfl) ?_ ?_
      ·try simp only [rgn.l1, rgn.l2, rgn.l3, Act.put, rgn.l4, rgn.l5, rgn.l6]
       refine rgn.call_wp _ _ _ _ rfl Tryz.func8 (by kernel_rfl) (by kernel_rfl) #[.slice (some ⟨Y.heap.size, 0, none⟩) FAR.size cv1] (by first | kernel_rfl | (simp only [List.map_toArray, List.map_cons, List.map_nil]; rfl)) ?_
       refine ((unhide hTk) FAR _ _ _ _ hrow1 (by omega)).mono ?_
       rintro e' V2 ⟨p2, ct2, rfl, hp12, hp22, hrw2, bv2⟩
       have sv2 := bv2.size
       have hSn2 := hS0.trans (bv2.mono hS0.size)
       refine ⟨_, rfl, hSn2, ?_⟩
       clear hS0
       have hS0 := hSn2
       try simp only [rgn.l1, rgn.l2, rgn.l3, Act.put, rgn.l4, rgn.l5, rgn.l6]
       refine rgn.two (i := 7) (j := 11) _ _ rfl rfl (by kernel_rfl) (by rfl) (by rfl) ?_ ?_
       ·try simp only [rgn.l1, rgn.l2, rgn.l3, Act.put, rgn.l4, rgn.l5, rgn.l6]
        refine rgn.call_wp _ _ _ _ rfl Tryz.func11 (by kernel_rfl) (by kernel_rfl) #[.slice (some ⟨p2, 0, none⟩) (toks (mem.bytesZ FAR)).length ct2, .agg #[.int .i64 t2.ln, .int .i64 t2.co]] (by first | kernel_rfl | (simp only [List.map_toArray, List.map_cons, List.map_nil]; rfl)) ?_
        refine (tokenAt_ok p2 _ ct2 (toks (mem.bytesZ FAR)) m t2 _ rfl (by omega) (by omega) hrw2 (unhide HT2).1 (unhide HT2).2).mono ?_
        rintro e' V3 ⟨rfl, bv3⟩
        have sv3 := bv3.size
        have hSn3 := hS0.trans (bv3.mono hS0.size)
        refine ⟨_, rfl, hSn3, ?_⟩
        clear hS0
        have hS0 := hSn3
        try simp only [rgn.l1, rgn.l2, rgn.l3, Act.put, rgn.l4, rgn.l5, rgn.l6]
        refine rgn.tl (i := 8) (v := ?v31) rfl (by kernel_rfl) (fun _ _ _ h => h) (by rfl) ?hy31 hS0 ?_
        case hy31 => (intro w' hw'; go_simp; try with_reducible rfl)
        simp only [rgn.l1, rgn.l2, rgn.l3, Act.put, rgn.l4, rgn.l5, rgn.l6]
        refine rgn.tl (i := 9) (v := ?v32) rfl (by kernel_rfl) (fun _ _ _ h => h) (by rfl) ?hy32 hS0 ?_
        case hy32 => (intro w' hw'; go_simp; try with_reducible rfl)
        simp only [rgn.l1, rgn.l2, rgn.l3, Act.put, rgn.l4, rgn.l5, rgn.l6]
        refine rgn.tl (i := 10) (v := ?v33) rfl (by kernel_rfl) (fun _ _ _ h => h) (by rfl) ?hy33 hS0 ?_
        case hy33 => (intro w' hw'; go_simp; try with_reducible rfl)
        simp only [rgn.l1, rgn.l2, rgn.l3, Act.put, rgn.l4, rgn.l5, rgn.l6]
        refine rgn.one (i := 11) _ rfl (by kernel_rfl) (by rfl) ?_
        try simp only [rgn.l1, rgn.l2, rgn.l3, Act.put, rgn.l4, rgn.l5, rgn.l6]
        refine rgn.alloc_wp 30 rfl (hal _) ?_
        obtain ⟨V4, hV4⟩ : ∃ V, V = V3.alloc (.cells #[.int .i64 0, .int .i64 0, .int .i64 0, .int .i64 0, .int .i64 0, .string ⟨#[]⟩, .string ⟨#[]⟩] 30) := ⟨_, rfl⟩
        have bv4 : Below V3.heap.size V3 V4 := by rw [hV4]; exact (Below.refl _ _).alloc (Nat.le_refl _) _
        have gT4 : V4.heap[V3.heap.size]? = some (.cells #[.int .i64 0, .int .i64 0, .int .i64 0, .int .i64 0, .int .i64 0, .string ⟨#[]⟩, .string ⟨#[]⟩] 30 (0, 0)) := by rw [hV4]; exact heap_alloc_new _ _
        have sv4 : V3.heap.size + 1 ≤ V4.heap.size := by rw [hV4]; simp
        rw [← hV4]
        clear hV4
        have hSn4 := hS0.trans (bv4.mono hS0.size)
        refine ⟨hSn4, ?_⟩
        clear hS0
        have hS0 := hSn4
        try simp only [rgn.l1, rgn.l2, rgn.l3, Act.put, rgn.l4, rgn.l5, rgn.l6]
        refine rgn.one (i := 12) _ rfl (by kernel_rfl) (by rfl) ?_
        try simp only [rgn.l1, rgn.l2, rgn.l3, Act.put, rgn.l4, rgn.l5, rgn.l6]
        have hth : V4.there V3.heap.size 0 7 := dt.there_cells gT4 (by decide)
        refine wp_store_mid 30 _ _ (by rfl) V3.heap.size 0 #[.int .i64 t2.k, .int .i64 t2.ln, .int .i64 t2.co, .int .i64 t2.fr, .int .i64 t2.to, .string t2.tx, .string t2.va] (by rfl) (by rfl) hth infoTk9 (dt.one_cells (cs := [.int .i64 t2.k, .int .i64 t2.ln, .int .i64 t2.co, .int .i64 t2.fr, .int .i64 t2.to, .string t2.tx, .string t2.va]) (by rfl)) ?_
        obtain ⟨Y2, hY2⟩ : ∃ Y2, Y2 = V4.setCells V3.heap.size 0 (#[.int .i64 t2.k, .int .i64 t2.ln, .int .i64 t2.co, .int .i64 t2.fr, .int .i64 t2.to, .string t2.tx, .string t2.va] : Array Value).toList := ⟨_, rfl⟩
        have bY2 : Below V.heap.size V Y2 := by rw [hY2]; exact dt.below_setCells _ _ _ _ hS0 (by omega)
        have gY2 : Y2.heap[V3.heap.size]? = some (.cells #[.int .i64 t2.k, .int .i64 t2.ln, .int .i64 t2.co, .int .i64 t2.fr, .int .i64 t2.to, .string t2.tx, .string t2.va] 30 (0, 0)) := by rw [hY2]; exact (dt.setCells_at [.int .i64 t2.k, .int .i64 t2.ln, .int .i64 t2.co, .int .i64 t2.fr, .int .i64 t2.to, .string t2.tx, .string t2.va] 0 V4 _ gT4).trans (by kernel_rfl)
        have qY2 : V3.heap.size < Y2.heap.size := (Array.getElem?_eq_some_iff.1 gY2).1
        rw [← hY2]
        clear hY2 hth
        refine ⟨bY2, ?_⟩
        clear hS0
        have hS0 := bY2
        try simp only [rgn.l1, rgn.l2, rgn.l3, Act.put, rgn.l4, rgn.l5, rgn.l6]
        refine rgn.tl (i := 13) (v := ?v34) rfl (by kernel_rfl) (fun _ _ _ h => h) (by rfl) ?hy34 hS0 ?_
        case hy34 => (intro w' hw'; go_simp; try with_reducible rfl)
        simp only [rgn.l1, rgn.l2, rgn.l3, Act.put, rgn.l4, rgn.l5, rgn.l6]
        refine wpAnyH_done (by kernel_rfl) ?_ _; refine NoPanic.normal ?_
        have BY := hide (bwZ.trans ((bV.trans (bY2.mono bV.size)).mono bwZ.size))
        have hm0 : (0 : Int) ≤ (m : Int) := by omega
        clear hS0 gY2 qY2
        go_wp2_with fail
        go_ret
        exact ⟨rfl, unhide BY⟩
       ·try simp only [rgn.l1, rgn.l2, rgn.l3, Act.put, rgn.l4, rgn.l5, rgn.l6]
        refine rgn.alloc_wp 30 rfl (hal _) ?_
        obtain ⟨V5, hV5⟩ : ∃ V, V = V2.alloc (.cells #[.int .i64 0, .int .i64 0, .int .i64 0, .int .i64 0, .int .i64 0, .string ⟨#[]⟩, .string ⟨#[]⟩] 30) := ⟨_, rfl⟩
        have bv5 : Below V2.heap.size V2 V5 := by rw [hV5]; exact (Below.refl _ _).alloc (Nat.le_refl _) _
        have gT5 : V5.heap[V2.heap.size]? = some (.cells #[.int .i64 0, .int .i64 0, .int .i64 0, .int .i64 0, .int .i64 0, .string ⟨#[]⟩, .string ⟨#[]⟩] 30 (0, 0)) := by rw [hV5]; exact heap_alloc_new _ _
        have sv5 : V2.heap.size + 1 ≤ V5.heap.size := by rw [hV5]; simp
        rw [← hV5]
        clear hV5
        have hSn5 := hS0.trans (bv5.mono hS0.size)
        refine ⟨hSn5, ?_⟩
        clear hS0
        have hS0 := hSn5
        have hrw5 := fun i u hu => (hrw2 i u hu).below bv5
        try simp only [rgn.l1, rgn.l2, rgn.l3, Act.put, rgn.l4, rgn.l5, rgn.l6]
        refine rgn.one (i := 7) _ rfl (by kernel_rfl) (by rfl) ?_
        try simp only [rgn.l1, rgn.l2, rgn.l3, Act.put, rgn.l4, rgn.l5, rgn.l6]
        refine rgn.call_wp _ _ _ _ rfl Tryz.func11 (by kernel_rfl) (by kernel_rfl) #[.slice (some ⟨p2, 0, none⟩) (toks (mem.bytesZ FAR)).length ct2, .agg #[.int .i64 t2.ln, .int .i64 t2.co]] (by first | kernel_rfl | (simp only [List.map_toArray, List.map_cons, List.map_nil]; rfl)) ?_
        refine (tokenAt_ok p2 _ ct2 (toks (mem.bytesZ FAR)) m t2 _ rfl (by omega) (by omega) hrw5 (unhide HT2).1 (unhide HT2).2).mono ?_
        rintro e' V6 ⟨rfl, bv6⟩
        have sv6 := bv6.size
        have hSn6 := hS0.trans (bv6.mono hS0.size)
        have gT6 := (bv6.block _ (by omega)).trans gT5
        refine ⟨_, rfl, hSn6, ?_⟩
        clear hS0
        have hS0 := hSn6
        try simp only [rgn.l1, rgn.l2, rgn.l3, Act.put, rgn.l4, rgn.l5, rgn.l6]
        refine rgn.tl (i := 8) (v := ?v35) rfl (by kernel_rfl) (fun _ _ _ h => h) (by rfl) ?hy35 hS0 ?_
        case hy35 => (intro w' hw'; go_simp; try with_reducible rfl)
        simp only [rgn.l1, rgn.l2, rgn.l3, Act.put, rgn.l4, rgn.l5, rgn.l6]
        refine rgn.tl (i := 9) (v := ?v36) rfl (by kernel_rfl) (fun _ _ _ h => h) (by rfl) ?hy36 hS0 ?_
        case hy36 => (intro w' hw'; go_simp; try with_reducible rfl)
        simp only [rgn.l1, rgn.l2, rgn.l3, Act.put, rgn.l4, rgn.l5, rgn.l6]
        refine rgn.tl (i := 10) (v := ?v37) rfl (by kernel_rfl) (fun _ _ _ h => h) (by rfl) ?hy37 hS0 ?_
        case hy37 => (intro w' hw'; go_simp; try with_reducible rfl)
        simp only [rgn.l1, rgn.l2, rgn.l3, Act.put, rgn.l4, rgn.l5, rgn.l6]
        refine rgn.one (i := 12) _ rfl (by kernel_rfl) (by rfl) ?_
        try simp only [rgn.l1, rgn.l2, rgn.l3, Act.put, rgn.l4, rgn.l5, rgn.l6]
        have hth : V6.there V2.heap.size 0 7 := dt.there_cells gT6 (by decide)
        refine wp_store_mid 30 _ _ (by rfl) V2.heap.size 0 #[.int .i64 t2.k, .int .i64 t2.ln, .int .i64 t2.co, .int .i64 t2.fr, .int .i64 t2.to, .string t2.tx, .string t2.va] (by rfl) (by rfl) hth infoTk9 (dt.one_cells (cs := [.int .i64 t2.k, .int .i64 t2.ln, .int .i64 t2.co, .int .i64 t2.fr, .int .i64 t2.to, .string t2.tx, .string t2.va]) (by rfl)) ?_
        obtain ⟨Y2, hY2⟩ : ∃ Y2, Y2 = V6.setCells V2.heap.size 0 (#[.int .i64 t2.k, .int .i64 t2.ln, .int .i64 t2.co, .int .i64 t2.fr, .int .i64 t2.to, .string t2.tx, .string t2.va] : Array Value).toList := ⟨_, rfl⟩
        have bY2 : Below V.heap.size V Y2 := by rw [hY2]; exact dt.below_setCells _ _ _ _ hS0 (by omega)
        have gY2 : Y2.heap[V2.heap.size]? = some (.cells #[.int .i64 t2.k, .int .i64 t2.ln, .int .i64 t2.co, .int .i64 t2.fr, .int .i64 t2.to, .string t2.tx, .string t2.va] 30 (0, 0)) := by rw [hY2]; exact (dt.setCells_at [.int .i64 t2.k, .int .i64 t2.ln, .int .i64 t2.co, .int .i64 t2.fr, .int .i64 t2.to, .string t2.tx, .string t2.va] 0 V6 _ gT6).trans (by kernel_rfl)
        have qY2 : V2.heap.size < Y2.heap.size := (Array.getElem?_eq_some_iff.1 gY2).1
        rw [← hY2]
        clear hY2 hth
        refine ⟨bY2, ?_⟩
        clear hS0
        have hS0 := bY2
        try simp only [rgn.l1, rgn.l2, rgn.l3, Act.put, rgn.l4, rgn.l5, rgn.l6]
        refine rgn.tl (i := 13) (v := ?v38) rfl (by kernel_rfl) (fun _ _ _ h => h) (by rfl) ?hy38 hS0 ?_
        case hy38 => (intro w' hw'; go_simp; try with_reducible rfl)
        simp only [rgn.l1, rgn.l2, rgn.l3, Act.put, rgn.l4, rgn.l5, rgn.l6]
        refine wpAnyH_done (by kernel_rfl) ?_ _; refine NoPanic.normal ?_
        have BY := hide (bwZ.trans ((bV.trans (bY2.mono bV.size)).mono bwZ.size))
        have hm0 : (0 : Int) ≤ (m : Int) := by omega
        clear hS0 gY2 qY2
        go_wp2_with fail
        go_ret
        exact ⟨rfl, unhide BY⟩
      ·try simp only [rgn.l1, rgn.l2, rgn.l3, Act.put, rgn.l4, rgn.l5, rgn.l6]
       refine rgn.alloc_wp 30 rfl (hal _) ?_
       obtain ⟨V7, hV7⟩ : ∃ V, V = V1.alloc (.cells #[.int .i64 0, .int .i64 0, .int .i64 0, .int .i64 0, .int .i64 0, .string ⟨#[]⟩, .string ⟨#[]⟩] 30) := ⟨_, rfl⟩
       have bv7 : Below V1.heap.size V1 V7 := by rw [hV7]; exact (Below.refl _ _).alloc (Nat.le_refl _) _
       have gT7 : V7.heap[V1.heap.size]? = some (.cells #[.int .i64 0, .int .i64 0, .int .i64 0, .int .i64 0, .int .i64 0, .string ⟨#[]⟩, .string ⟨#[]⟩] 30 (0, 0)) := by rw [hV7]; exact heap_alloc_new _ _
       have sv7 : V1.heap.size + 1 ≤ V7.heap.size := by rw [hV7]; simp
       rw [← hV7]
       clear hV7
       have hSn7 := hS0.trans (bv7.mono hS0.size)
       refine ⟨hSn7, ?_⟩
       clear hS0
       have hS0 := hSn7
       have hrow7 := hrow1.below bv7
       try simp only [rgn.l1, rgn.l2, rgn.l3, Act.put, rgn.l4, rgn.l5, rgn.l6]
       refine rgn.one (i := 2) _ rfl (by kernel_rfl) (by rfl) ?_
       try simp only [rgn.l1, rgn.l2, rgn.l3, Act.put, rgn.l4, rgn.l5, rgn.l6]
       refine rgn.call_wp _ _ _ _ rfl Tryz.func8 (by kernel_rfl) (by kernel_rfl) #[.slice (some ⟨Y.heap.size, 0, none⟩) FAR.size cv1] (by first | kernel_rfl | (simp only [List.map_toArray, List.map_cons, List.map_nil]; rfl)) ?_
       refine ((unhide hTk) FAR _ _ _ _ hrow7 (by omega)).mono ?_
       rintro e' V8 ⟨p8, ct8, rfl, hp18, hp28, hrw8, bv8⟩
       have sv8 := bv8.size
       have hSn8 := hS0.trans (bv8.mono hS0.size)
       have gT8 := (bv8.block _ (by omega)).trans gT7
       refine ⟨_, rfl, hSn8, ?_⟩
       clear hS0
       have hS0 := hSn8
       try simp only [rgn.l1, rgn.l2, rgn.l3, Act.put, rgn.l4, rgn.l5, rgn.l6]
       refine rgn.one (i := 7) _ rfl (by kernel_rfl) (by rfl) ?_
       try simp only [rgn.l1, rgn.l2, rgn.l3, Act.put, rgn.l4, rgn.l5, rgn.l6]
       refine rgn.call_wp _ _ _ _ rfl Tryz.func11 (by kernel_rfl) (by kernel_rfl) #[.slice (some ⟨p8, 0, none⟩) (toks (mem.bytesZ FAR)).length ct8, .agg #[.int .i64 t2.ln, .int .i64 t2.co]] (by first | kernel_rfl | (simp only [List.map_toArray, List.map_cons, List.map_nil]; rfl)) ?_
       refine (tokenAt_ok p8 _ ct8 (toks (mem.bytesZ FAR)) m t2 _ rfl (by omega) (by omega) hrw8 (unhide HT2).1 (unhide HT2).2).mono ?_
       rintro e' V9 ⟨rfl, bv9⟩
       have sv9 := bv9.size
       have hSn9 := hS0.trans (bv9.mono hS0.size)
       have gT9 := (bv9.block _ (by omega)).trans gT8
       refine ⟨_, rfl, hSn9, ?_⟩
       clear hS0
       have hS0 := hSn9
       try simp only [rgn.l1, rgn.l2, rgn.l3, Act.put, rgn.l4, rgn.l5, rgn.l6]
       refine rgn.tl (i := 8) (v := ?v39) rfl (by kernel_rfl) (fun _ _ _ h => h) (by rfl) ?hy39 hS0 ?_
       case hy39 => (intro w' hw'; go_simp; try with_reducible rfl)
       simp only [rgn.l1, rgn.l2, rgn.l3, Act.put, rgn.l4, rgn.l5, rgn.l6]
       refine rgn.tl (i := 9) (v := ?v40) rfl (by kernel_rfl) (fun _ _ _ h => h) (by rfl) ?hy40 hS0 ?_
       case hy40 => (intro w' hw'; go_simp; try with_reducible rfl)
       simp only [rgn.l1, rgn.l2, rgn.l3, Act.put, rgn.l4, rgn.l5, rgn.l6]
       refine rgn.tl (i := 10) (v := ?v41) rfl (by kernel_rfl) (fun _ _ _ h => h) (by rfl) ?hy41 hS0 ?_
       case hy41 => (intro w' hw'; go_simp; try with_reducible rfl)
       simp only [rgn.l1, rgn.l2, rgn.l3, Act.put, rgn.l4, rgn.l5, rgn.l6]
       refine rgn.one (i := 12) _ rfl (by kernel_rfl) (by rfl) ?_
       try simp only [rgn.l1, rgn.l2, rgn.l3, Act.put, rgn.l4, rgn.l5, rgn.l6]
       have hth : V9.there V1.heap.size 0 7 := dt.there_cells gT9 (by decide)
       refine wp_store_mid 30 _ _ (by rfl) V1.heap.size 0 #[.int .i64 t2.k, .int .i64 t2.ln, .int .i64 t2.co, .int .i64 t2.fr, .int .i64 t2.to, .string t2.tx, .string t2.va] (by rfl) (by rfl) hth infoTk9 (dt.one_cells (cs := [.int .i64 t2.k, .int .i64 t2.ln, .int .i64 t2.co, .int .i64 t2.fr, .int .i64 t2.to, .string t2.tx, .string t2.va]) (by rfl)) ?_
       obtain ⟨Y2, hY2⟩ : ∃ Y2, Y2 = V9.setCells V1.heap.size 0 (#[.int .i64 t2.k, .int .i64 t2.ln, .int .i64 t2.co, .int .i64 t2.fr, .int .i64 t2.to, .string t2.tx, .string t2.va] : Array Value).toList := ⟨_, rfl⟩
       have bY2 : Below V.heap.size V Y2 := by rw [hY2]; exact dt.below_setCells _ _ _ _ hS0 (by omega)
       have gY2 : Y2.heap[V1.heap.size]? = some (.cells #[.int .i64 t2.k, .int .i64 t2.ln, .int .i64 t2.co, .int .i64 t2.fr, .int .i64 t2.to, .string t2.tx, .string t2.va] 30 (0, 0)) := by rw [hY2]; exact (dt.setCells_at [.int .i64 t2.k, .int .i64 t2.ln, .int .i64 t2.co, .int .i64 t2.fr, .int .i64 t2.to, .string t2.tx, .string t2.va] 0 V9 _ gT9).trans (by kernel_rfl)
       have qY2 : V1.heap.size < Y2.heap.size := (Array.getElem?_eq_some_iff.1 gY2).1
       rw [← hY2]
       clear hY2 hth
       refine ⟨bY2, ?_⟩
       clear hS0
       have hS0 := bY2
       try simp only [rgn.l1, rgn.l2, rgn.l3, Act.put, rgn.l4, rgn.l5, rgn.l6]
       refine rgn.tl (i := 13) (v := ?v42) rfl (by kernel_rfl) (fun _ _ _ h => h) (by rfl) ?hy42 hS0 ?_
       case hy42 => (intro w' hw'; go_simp; try with_reducible rfl)
       simp only [rgn.l1, rgn.l2, rgn.l3, Act.put, rgn.l4, rgn.l5, rgn.l6]
       refine wpAnyH_done (by kernel_rfl) ?_ _; refine NoPanic.normal ?_
       have BY := hide (bwZ.trans ((bV.trans (bY2.mono bV.size)).mono bwZ.size))
       have hm0 : (0 : Int) ≤ (m : Int) := by omega
       clear hS0 gY2 qY2
       go_wp2_with fail
       go_ret
       exact ⟨rfl, unhide BY⟩
     ·try simp only [rgn.l1, rgn.l2, rgn.l3, Act.put, rgn.l4, rgn.l5, rgn.l6]
      refine rgn.alloc_wp 30 rfl (hal _) ?_
      obtain ⟨V10, hV10⟩ : ∃ V, V = Y.alloc (.cells #[.int .i64 0, .int .i64 0, .int .i64 0, .int .i64 0, .int .i64 0, .string ⟨#[]⟩, .string ⟨#[]⟩] 30) := ⟨_, rfl⟩
      have bv10 : Below Y.heap.size Y V10 := by rw [hV10]; exact (Below.refl _ _).alloc (Nat.le_refl _) _
      have gT10 : V10.heap[Y.heap.size]? = some (.cells #[.int .i64 0, .int .i64 0, .int .i64 0, .int .i64 0, .int .i64 0, .string ⟨#[]⟩, .string ⟨#[]⟩] 30 (0, 0)) := by rw [hV10]; exact heap_alloc_new _ _
      have sv10 : Y.heap.size + 1 ≤ V10.heap.size := by rw [hV10]; simp
      rw [← hV10]
      clear hV10
      have hSn10 := hS0.trans (bv10.mono hS0.size)
      refine ⟨hSn10, ?_⟩
      clear hS0
      have hS0 := hSn10
      try simp only [rgn.l1, rgn.l2, rgn.l3, Act.put, rgn.l4, rgn.l5, rgn.l6]
      refine rgn.one (i := 1) _ rfl (by kernel_rfl) (by rfl) ?_
      try simp only [rgn.l1, rgn.l2, rgn.l3, Act.put, rgn.l4, rgn.l5, rgn.l6]
      obtain ⟨cv11, V11, hcv11, hrow11, bv11⟩ := (unhide hcv) FAR V10
      refine rgn.conv_wp 9 22 _ rfl (.string FAR) (by rfl) hcv11 ?_
      have sv11 := bv11.size
      have hSn11 := hS0.trans (bv11.mono hS0.size)
      refine ⟨hSn11, ?_⟩
      clear hS0
      have hS0 := hSn11
      have gT11 := (bv11.block _ (by omega)).trans gT10
      try simp only [rgn.l1, rgn.l2, rgn.l3, Act.put, rgn.l4, rgn.l5, rgn.l6]
      clear hcv11
      refine rgn.one (i := 2) _ rfl (by kernel_rfl) (by rfl) ?_
      try simp only [rgn.l1, rgn.l2, rgn.l3, Act.put, rgn.l4, rgn.l5, rgn.l6]
      refine rgn.call_wp _ _ _ _ rfl Tryz.func8 (by kernel_rfl) (by kernel_rfl) #[.slice (some ⟨V10.heap.size, 0, none⟩) FAR.size cv11] (by first | kernel_rfl | (simp only [List.map_toArray, List.map_cons, List.map_nil]; rfl)) ?_
      refine ((unhide hTk) FAR _ _ _ _ hrow11 (by omega)).mono ?_
      rintro e' V12 ⟨p12, ct12, rfl, hp112, hp212, hrw12, bv12⟩
      have sv12 := bv12.size
      have hSn12 := hS0.trans (bv12.mono hS0.size)
      have gT12 := (bv12.block _ (by omega)).trans gT11
      refine ⟨_, rfl, hSn12, ?_⟩
      clear hS0
      have hS0 := hSn12
      try simp only [rgn.l1, rgn.l2, rgn.l3, Act.put, rgn.l4, rgn.l5, rgn.l6]
      refine rgn.one (i := 7) _ rfl (by kernel_rfl) (by rfl) ?_
      try simp only [rgn.l1, rgn.l2, rgn.l3, Act.put, rgn.l4, rgn.l5, rgn.l6]
      refine rgn.call_wp _ _ _ _ rfl Tryz.func11 (by kernel_rfl) (by kernel_rfl) #[.slice (some ⟨p12, 0, none⟩) (toks (mem.bytesZ FAR)).length ct12, .agg #[.int .i64 t2.ln, .int .i64 t2.co]] (by first | kernel_rfl | (simp only [List.map_toArray, List.map_cons, List.map_nil]; rfl)) ?_
      refine (tokenAt_ok p12 _ ct12 (toks (mem.bytesZ FAR)) m t2 _ rfl (by omega) (by omega) hrw12 (unhide HT2).1 (unhide HT2).2).mono ?_
      rintro e' V13 ⟨rfl, bv13⟩
      have sv13 := bv13.size
      have hSn13 := hS0.trans (bv13.mono hS0.size)
      have gT13 := (bv13.block _ (by omega)).trans gT12
      refine ⟨_, rfl, hSn13, ?_⟩
      clear hS0
      have hS0 := hSn13
      try simp only [rgn.l1, rgn.l2, rgn.l3, Act.put, rgn.l4, rgn.l5, rgn.l6]
      refine rgn.tl (i := 8) (v := ?v43) rfl (by kernel_rfl) (fun _ _ _ h => h) (by rfl) ?hy43 hS0 ?_
      case hy43 => (intro w' hw'; go_simp; try with_reducible rfl)
      simp only [rgn.l1, rgn.l2, rgn.l3, Act.put, rgn.l4, rgn.l5, rgn.l6]
      refine rgn.tl (i := 9) (v := ?v44) rfl (by kernel_rfl) (fun _ _ _ h => h) (by rfl) ?hy44 hS0 ?_
      case hy44 => (intro w' hw'; go_simp; try with_reducible rfl)
      simp only [rgn.l1, rgn.l2, rgn.l3, Act.put, rgn.l4, rgn.l5, rgn.l6]
      refine rgn.tl (i := 10) (v := ?v45) rfl (by kernel_rfl) (fun _ _ _ h => h) (by rfl) ?hy45 hS0 ?_
      case hy45 => (intro w' hw'; go_simp; try with_reducible rfl)
      simp only [rgn.l1, rgn.l2, rgn.l3, Act.put, rgn.l4, rgn.l5, rgn.l6]
      refine rgn.one (i := 12) _ rfl (by kernel_rfl) (by rfl) ?_
      try simp only [rgn.l1, rgn.l2, rgn.l3, Act.put, rgn.l4, rgn.l5, rgn.l6]
      have hth : V13.there Y.heap.size 0 7 := dt.there_cells gT13 (by decide)
      refine wp_store_mid 30 _ _ (by rfl) Y.heap.size 0 #[.int .i64 t2.k, .int .i64 t2.ln, .int .i64 t2.co, .int .i64 t2.fr, .int .i64 t2.to, .string t2.tx, .string t2.va] (by rfl) (by rfl) hth infoTk9 (dt.one_cells (cs := [.int .i64 t2.k, .int .i64 t2.ln, .int .i64 t2.co, .int .i64 t2.fr, .int .i64 t2.to, .string t2.tx, .string t2.va]) (by rfl)) ?_
      obtain ⟨Y2, hY2⟩ : ∃ Y2, Y2 = V13.setCells Y.heap.size 0 (#[.int .i64 t2.k, .int .i64 t2.ln, .int .i64 t2.co, .int .i64 t2.fr, .int .i64 t2.to, .string t2.tx, .string t2.va] : Array Value).toList := ⟨_, rfl⟩
      have bY2 : Below V.heap.size V Y2 := by rw [hY2]; exact dt.below_setCells _ _ _ _ hS0 (by omega)
      have gY2 : Y2.heap[Y.heap.size]? = some (.cells #[.int .i64 t2.k, .int .i64 t2.ln, .int .i64 t2.co, .int .i64 t2.fr, .int .i64 t2.to, .string t2.tx, .string t2.va] 30 (0, 0)) := by rw [hY2]; exact (dt.setCells_at [.int .i64 t2.k, .int .i64 t2.ln, .int .i64 t2.co, .int .i64 t2.fr, .int .i64 t2.to, .string t2.tx, .string t2.va] 0 V13 _ gT13).trans (by kernel_rfl)
      have qY2 : Y.heap.size < Y2.heap.size := (Array.getElem?_eq_some_iff.1 gY2).1
      rw [← hY2]
      clear hY2 hth
      refine ⟨bY2, ?_⟩
      clear hS0
      have hS0 := bY2
      try simp only [rgn.l1, rgn.l2, rgn.l3, Act.put, rgn.l4, rgn.l5, rgn.l6]
      refine rgn.tl (i := 13) (v := ?v46) rfl (by kernel_rfl) (fun _ _ _ h => h) (by rfl) ?hy46 hS0 ?_
      case hy46 => (intro w' hw'; go_simp; try with_reducible rfl)
      simp only [rgn.l1, rgn.l2, rgn.l3, Act.put, rgn.l4, rgn.l5, rgn.l6]
      refine wpAnyH_done (by kernel_rfl) ?_ _; refine NoPanic.normal ?_
      have BY := hide (bwZ.trans ((bV.trans (bY2.mono bV.size)).mono bwZ.size))
      have hm0 : (0 : Int) ≤ (m : Int) := by omega
      clear hS0 gY2 qY2
      go_wp2_with fail
      go_ret
      exact ⟨rfl, unhide BY⟩
 ·have hkb : (u.k != 0) = true := by simpa using hk
  obtain ⟨K, hK⟩ : ∃ K, K = u.k := ⟨_, rfl⟩
  rw [← hK] at m0 hkb hk
  clear hK hFA HGU HTS hcv hPa hTk
  go_wp2_with fail
  go_ret
  exact ⟨rfl, bw3⟩
end Go.Proofs.YtcebeajjpcbgcaaGreat.cu
