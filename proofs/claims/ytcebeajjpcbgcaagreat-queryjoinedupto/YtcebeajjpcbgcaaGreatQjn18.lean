import Derived.Test.YtcebeajjpcbgcaaGreatQjn17
set_option linter.unusedVariables false
set_option linter.unusedSimpArgs false
namespace Go.Proofs.YtcebeajjpcbgcaaGreat.cu
open Go.ChangeShapes Go.WideShapes Go.ChangeAt Go.RowKit
open ints (hide unhide)
open dt (Dt Kp RowAt Ow Grow OwIn)
open mem (Row)
set_option maxHeartbeats 8000000 in
set_option maxRecDepth 4000 in
theorem defs_f (f g : Nat) (l l' : List Dt) (h : EqLs (EqF false f g) l l') : SmLs 12 false 9 l l' := by
 intro w a a' c c' F G hl hl' hF hG hc hc' hm hm'
 obtain ⟨hlen, hel⟩ := h
 have HEL := hide hel
 have HL := hide hl
 have HL' := hide hl'
 have HF := hide hF
 have HG := hide hG
 obtain ⟨n, hn⟩ : ∃ n, n = l.length := ⟨_, rfl⟩
 have hn' : n = l'.length := hn.trans hlen
 rw [← hn] at hc ⊢
 rw [← hn'] at hc' ⊢
 have Hn := hide (And.intro hn hn')
 clear hel hl hl' hF hG hn hn' hlen
 unfold maxLen at hm hm'
 go_enter Tryz.func12, Tryz.ntmps12
 go_wp2_with fail
 go_loopw [7] (fun i wr => ∃ j : Nat, j ≤ n ∧ i = .int .i64 j ∧ Below w.heap.size w wr) (fun i _ => n - (intOf i).toNat)
 case atStart => exact ⟨0, Nat.zero_le _, rfl, Below.refl _ _⟩
 case round =>
  obtain ⟨j, hj, rfl, hI⟩ := hrel
  by_cases hlt : j < n
  ·have ji : (j : Int) < (n : Int) := by omega
   have hlt1 : j < l.length := by have := unhide Hn; omega
   have hlt2 : j < l'.length := by have := unhide Hn; omega
   obtain ⟨p, off, rfl, hpF, hget⟩ := (unhide HL).resolve_left (fun h0 => by rw [h0] at hlt1; exact absurd hlt1 (Nat.not_lt_zero _))
   obtain ⟨p', off', rfl, hpG, hget'⟩ := (unhide HL').resolve_left (fun h0 => by rw [h0] at hlt2; exact absurd hlt2 (Nat.not_lt_zero _))
   obtain ⟨ds, G1, hrow, hdl, hod, hGF⟩ := hget j _ (List.getElem?_eq_getElem hlt1)
   obtain ⟨ds', G2, hrow', hdl', hod', hGG⟩ := hget' j _ (List.getElem?_eq_getElem hlt2)
   obtain ⟨k, nm, on, sh, l1, l2, m1', m2', o1', o2', x1, y1, x2, y2, hx, hy, hxy, hq1', hq2', hq3'⟩ := (unhide HEL) j _ _ (List.getElem?_eq_getElem hlt1) (List.getElem?_eq_getElem hlt2)
   rw [hx] at hod
   rw [hy] at hod'
   obtain ⟨a1, c1, b1, d1, e1, g1, rfl, u1, hv1, hv2, hv3⟩ := def_cells hod
   obtain ⟨a2, c2, b2, d2, e2, g2, rfl, u2, hv1', hv2', hv3'⟩ := def_cells hod'
   clear hxy
   have hplt := (unhide HF) p hpF
   have hplt' := (unhide HG) p' hpG
   have hC4 := (fun W (hb : Below w.heap.size w W) => vars_f f l1 l2 hq1' W a1 a2 c1 c2 G1 G2 (hv1.below (fun b hb' => (unhide HF) b (hGF b hb')) hb) (hv1'.below (fun b hb' => (unhide HG) b (hGG b hb')) hb) (fun b hb' => Nat.lt_of_lt_of_le ((unhide HF) b (hGF b hb')) hb.size) (fun b hb' => Nat.lt_of_lt_of_le ((unhide HG) b (hGG b hb')) hb.size) u1.1 u2.1 u1.2.1 u2.2.1)
   have hC5 := (fun W (hb : Below w.heap.size w W) => dirs_f f m1' m2' hq2' W b1 b2 d1 d2 G1 G2 (hv2.below (fun b hb' => (unhide HF) b (hGF b hb')) hb) (hv2'.below (fun b hb' => (unhide HG) b (hGG b hb')) hb) (fun b hb' => Nat.lt_of_lt_of_le ((unhide HF) b (hGF b hb')) hb.size) (fun b hb' => Nat.lt_of_lt_of_le ((unhide HG) b (hGG b hb')) hb.size) u1.2.2.1 u2.2.2.1 u1.2.2.2.1 u2.2.2.2.1)
   have hC6 := (fun W (hb : Below w.heap.size w W) => sels_f f g o1' o2' hq3' W e1 e2 g1 g2 G1 G2 (hv3.below (fun b hb' => (unhide HF) b (hGF b hb')) hb) (hv3'.below (fun b hb' => (unhide HG) b (hGG b hb')) hb) (fun b hb' => Nat.lt_of_lt_of_le ((unhide HF) b (hGF b hb')) hb.size) (fun b hb' => Nat.lt_of_lt_of_le ((unhide HG) b (hGG b hb')) hb.size) u1.2.2.2.2.1 u2.2.2.2.2.1 u1.2.2.2.2.2 u2.2.2.2.2.2)
   obtain ⟨n1, hn1⟩ : ∃ z, z = l1.length := ⟨_, rfl⟩
   obtain ⟨n2, hn2⟩ : ∃ z, z = l2.length := ⟨_, rfl⟩
   rw [← hn1, ← hn2] at hC4
   replace hC4 := hide hC4
   rw [← hn1] at hrow
   rw [← hn2] at hrow'
   obtain ⟨m1, hm1⟩ : ∃ z, z = m1'.length := ⟨_, rfl⟩
   obtain ⟨m2, hm2⟩ : ∃ z, z = m2'.length := ⟨_, rfl⟩
   rw [← hm1, ← hm2] at hC5
   replace hC5 := hide hC5
   rw [← hm1] at hrow
   rw [← hm2] at hrow'
   obtain ⟨o1, ho1⟩ : ∃ z, z = o1'.length := ⟨_, rfl⟩
   obtain ⟨o2, ho2⟩ : ∃ z, z = o2'.length := ⟨_, rfl⟩
   rw [← ho1, ← ho2] at hC6
   replace hC6 := hide hC6
   rw [← ho1] at hrow
   rw [← ho2] at hrow'
   have hr := fun (q : Nat) (u : Value) hu => (hI.cell (p := ⟨p, off + j * 9 + q, none⟩) hplt).trans (hrow q u hu)
   have hr' := fun (q : Nat) (u : Value) hu => (hI.cell (p := ⟨p', off' + j * 9 + q, none⟩) hplt').trans (hrow' q u hu)
   have r0 : wr.cell? ⟨p, off + j * 9, none⟩ = some (.int .i64 k) := hr 0 _ rfl
   have r1 : wr.cell? ⟨p, off + j * 9 + 1, none⟩ = some (.string nm) := hr 1 _ rfl
   have r2 : wr.cell? ⟨p, off + j * 9 + 2, none⟩ = some (.string on) := hr 2 _ rfl
   have r3 : wr.cell? ⟨p, off + j * 9 + 3, none⟩ = some (.bool sh) := hr 3 _ rfl
   have r4 : wr.cell? ⟨p, off + j * 9 + 4, none⟩ = some (.slice a1 n1 c1) := hr 4 _ rfl
   have r5 : wr.cell? ⟨p, off + j * 9 + 5, none⟩ = some (.slice b1 m1 d1) := hr 5 _ rfl
   have r6 : wr.cell? ⟨p, off + j * 9 + 6, none⟩ = some (.slice e1 o1 g1) := hr 6 _ rfl
   have r7 : wr.cell? ⟨p, off + j * 9 + 7, none⟩ = some (.int .i64 x1) := hr 7 _ rfl
   have r8 : wr.cell? ⟨p, off + j * 9 + 8, none⟩ = some (.int .i64 y1) := hr 8 _ rfl
   have s0 : wr.cell? ⟨p', off' + j * 9, none⟩ = some (.int .i64 k) := hr' 0 _ rfl
   have s1 : wr.cell? ⟨p', off' + j * 9 + 1, none⟩ = some (.string nm) := hr' 1 _ rfl
   have s2 : wr.cell? ⟨p', off' + j * 9 + 2, none⟩ = some (.string on) := hr' 2 _ rfl
   have s3 : wr.cell? ⟨p', off' + j * 9 + 3, none⟩ = some (.bool sh) := hr' 3 _ rfl
   have s4 : wr.cell? ⟨p', off' + j * 9 + 4, none⟩ = some (.slice a2 n2 c2) := hr' 4 _ rfl
   have s5 : wr.cell? ⟨p', off' + j * 9 + 5, none⟩ = some (.slice b2 m2 d2) := hr' 5 _ rfl
   have s6 : wr.cell? ⟨p', off' + j * 9 + 6, none⟩ = some (.slice e2 o2 g2) := hr' 6 _ rfl
   have s7 : wr.cell? ⟨p', off' + j * 9 + 7, none⟩ = some (.int .i64 x2) := hr' 7 _ rfl
   have s8 : wr.cell? ⟨p', off' + j * 9 + 8, none⟩ = some (.int .i64 y2) := hr' 8 _ rfl
   obtain ⟨W2, hW2⟩ : ∃ W2, W2 = (wr.alloc (.cells #[.int .i64 k, .string nm, .string on, .bool sh, .slice a1 n1 c1, .slice b1 m1 d1, .slice e1 o1 g1, .int .i64 x1, .int .i64 y1] 53)).alloc (.cells #[.int .i64 k, .string nm, .string on, .bool sh, .slice a2 n2 c2, .slice b2 m2 d2, .slice e2 o2 g2, .int .i64 x2, .int .i64 y2] 53) := ⟨_, rfl⟩
   have hX := (show W2.heap[wr.heap.size]? = some (.cells #[.int .i64 k, .string nm, .string on, .bool sh, .slice a1 n1 c1, .slice b1 m1 d1, .slice e1 o1 g1, .int .i64 x1, .int .i64 y1] 53 (0, 0)) ∧ W2.heap[wr.heap.size + 1]? = some (.cells #[.int .i64 k, .string nm, .string on, .bool sh, .slice a2 n2 c2, .slice b2 m2 d2, .slice e2 o2 g2, .int .i64 x2, .int .i64 y2] 53 (0, 0)) from by rw [hW2]; exact two_at _ _ _ _ _)
   have bX : Below wr.heap.size wr W2 := by rw [hW2]; exact two_alloc _ _ _
   have zX : wr.heap.size + 2 ≤ W2.heap.size := by rw [hW2]; simp
   have bW := hI.trans (bX.mono hI.size)
   have HX := hide hX
   have hq1 : p < wr.heap.size := Nat.lt_of_lt_of_le hplt hI.size
   have hq2 : p' < wr.heap.size := Nat.lt_of_lt_of_le hplt' hI.size
   have s2 : ∀ o, (wr.alloc o).cell? ⟨p, 0, none⟩ = wr.cell? ⟨p, 0, none⟩ := fun o => ((Below.refl _ _).alloc (Nat.le_refl _) o).cell (p := ⟨p, 0, none⟩) hq1
   clear s2
   have s0x : ∀ o, (wr.alloc o).cell? ⟨p', off' + j * 9, none⟩ = some (.int .i64 k) := fun o => (((Below.refl _ _).alloc (Nat.le_refl _) o).cell (p := ⟨p', off' + j * 9, none⟩) hq2).trans s0
   have s1x : ∀ o, (wr.alloc o).cell? ⟨p', off' + j * 9 + 1, none⟩ = some (.string nm) := fun o => (((Below.refl _ _).alloc (Nat.le_refl _) o).cell (p := ⟨p', off' + j * 9 + 1, none⟩) hq2).trans s1
   have s2x : ∀ o, (wr.alloc o).cell? ⟨p', off' + j * 9 + 2, none⟩ = some (.string on) := fun o => (((Below.refl _ _).alloc (Nat.le_refl _) o).cell (p := ⟨p', off' + j * 9 + 2, none⟩) hq2).trans s2
   have s3x : ∀ o, (wr.alloc o).cell? ⟨p', off' + j * 9 + 3, none⟩ = some (.bool sh) := fun o => (((Below.refl _ _).alloc (Nat.le_refl _) o).cell (p := ⟨p', off' + j * 9 + 3, none⟩) hq2).trans s3
   have s4x : ∀ o, (wr.alloc o).cell? ⟨p', off' + j * 9 + 4, none⟩ = some (.slice a2 n2 c2) := fun o => (((Below.refl _ _).alloc (Nat.le_refl _) o).cell (p := ⟨p', off' + j * 9 + 4, none⟩) hq2).trans s4
   have s5x : ∀ o, (wr.alloc o).cell? ⟨p', off' + j * 9 + 5, none⟩ = some (.slice b2 m2 d2) := fun o => (((Below.refl _ _).alloc (Nat.le_refl _) o).cell (p := ⟨p', off' + j * 9 + 5, none⟩) hq2).trans s5
   have s6x : ∀ o, (wr.alloc o).cell? ⟨p', off' + j * 9 + 6, none⟩ = some (.slice e2 o2 g2) := fun o => (((Below.refl _ _).alloc (Nat.le_refl _) o).cell (p := ⟨p', off' + j * 9 + 6, none⟩) hq2).trans s6
   have s7x : ∀ o, (wr.alloc o).cell? ⟨p', off' + j * 9 + 7, none⟩ = some (.int .i64 x2) := fun o => (((Below.refl _ _).alloc (Nat.le_refl _) o).cell (p := ⟨p', off' + j * 9 + 7, none⟩) hq2).trans s7
   have s8x : ∀ o, (wr.alloc o).cell? ⟨p', off' + j * 9 + 8, none⟩ = some (.int .i64 y2) := fun o => (((Below.refl _ _).alloc (Nat.le_refl _) o).cell (p := ⟨p', off' + j * 9 + 8, none⟩) hq2).trans s8
   clear s0 s1 s2 s3 s4 s5 s6 s7 s8
   clear hr hr' hrow hrow' hdl hdl' hget hget' hod hod' hX hn1 hn2 hm1 hm2 ho1 ho2 hq1' hq2' hq3' u1 u2 hv1 hv2 hv3 hv1' hv2' hv3' hx hy
   go_wp2_with fail
   rw [← hW2]
   clear hW2 r0 s0x r1 s1x r2 s2x r3 s3x r4 s4x r5 s5x r6 s6x r7 s7x r8 s8x
   refine ((unhide hC4) W2 bW).mono ?_
   rintro e' v0 ⟨rfl, bb0⟩
   have ba0 := bW.trans (bb0.mono bW.size)
   have bx0 : Below W2.heap.size W2 v0 := bb0
   have y0 : v0.cell? ⟨wr.heap.size, 5, none⟩ = some (.slice b1 m1 d1) := (bx0.cell (p := ⟨wr.heap.size, 5, none⟩) (show wr.heap.size < W2.heap.size by omega)).trans ((dt.cell_cells (unhide HX).1 5).trans rfl)
   have z0 : v0.cell? ⟨wr.heap.size + 1, 5, none⟩ = some (.slice b2 m2 d2) := (bx0.cell (p := ⟨wr.heap.size + 1, 5, none⟩) (show wr.heap.size + 1 < W2.heap.size by omega)).trans ((dt.cell_cells (unhide HX).2 5).trans rfl)
   clear hC4
   go_wp2_with fail
   refine ((unhide hC5) v0 ba0).mono ?_
   rintro e' v1 ⟨rfl, bb1⟩
   have ba1 := ba0.trans (bb1.mono ba0.size)
   have bx1 : Below W2.heap.size W2 v1 := bx0.trans (bb1.mono bx0.size)
   have y1 : v1.cell? ⟨wr.heap.size, 6, none⟩ = some (.slice e1 o1 g1) := (bx1.cell (p := ⟨wr.heap.size, 6, none⟩) (show wr.heap.size < W2.heap.size by omega)).trans ((dt.cell_cells (unhide HX).1 6).trans rfl)
   have z1 : v1.cell? ⟨wr.heap.size + 1, 6, none⟩ = some (.slice e2 o2 g2) := (bx1.cell (p := ⟨wr.heap.size + 1, 6, none⟩) (show wr.heap.size + 1 < W2.heap.size by omega)).trans ((dt.cell_cells (unhide HX).2 6).trans rfl)
   clear hC5
   go_wp2_with fail
   refine ((unhide hC6) v1 ba1).mono ?_
   rintro e' v2 ⟨rfl, bb2⟩
   have ba2 := ba1.trans (bb2.mono ba1.size)
   have bx2 : Below W2.heap.size W2 v2 := bx1.trans (bb2.mono bx1.size)
   clear hC6
   go_wp2_with fail
   go_roundw
   case rel => exact ⟨j + 1, by omega, by go_num, ba2⟩
   case measure => first | (simp [intOf]; omega) | simp [intOf]
  ·have ji : ¬ (j : Int) < (n : Int) := by omega
   have hI9 := hide hI
   clear hlt
   go_wp2_with fail
   go_ret
   exact ⟨rfl, unhide hI9⟩
open lx (toks chs cln)
theorem bytesZ_app9 (a b : ByteArray) : mem.bytesZ (a ++ b) = mem.bytesZ a ++ mem.bytesZ b := by simp [mem.bytesZ]
theorem par_form {z : List Int} {d : Int} {lo : Nat} {w : World} {sl : Value} {fs : List Value} (h : ParPost (docG z d) lo w sl fs) : ∃ a n c K fa fn fc, sl = .slice a n c ∧ fs = [.int .i64 K, .slice fa fn fc, .slice none 0 0] ∧ (((docG z d).1 = none ∧ K ≠ 0 ∧ n = 0) ∨ ∃ l F, (docG z d).1 = some l ∧ K = 0 ∧ n = l.length ∧ Ls w 9 l a F ∧ (∀ b ∈ F, b < w.heap.size) ∧ n ≤ c ∧ c ≤ maxLen) := by
 unfold ParPost at h
 have hDN : (docG z d).1 = none → (docG z d).2.kd ≠ 0 := docS_faults _ (newG_ok' _ _)
 cases hr : (docG z d).1 with
 | none =>
  rw [hr] at h
  obtain ⟨rfl, hfl⟩ := h
  have hK0 := hDN hr
  unfold FltAt at hfl
  rw [if_neg hK0] at hfl
  obtain ⟨b, y1, y2, rfl, y4, y5⟩ := hfl
  exact ⟨none, 0, 0, _, _, _, _, rfl, rfl, .inl ⟨rfl, hK0, rfl⟩⟩
 | some l =>
  rw [hr] at h
  obtain ⟨⟨G, hg⟩, rfl⟩ := h
  obtain ⟨al, cl, F, rfl, hls, hFl, hc1, hc2⟩ := doc_ls hg
  exact ⟨al, _, cl, 0, none, 0, 0, rfl, rfl, .inr ⟨l, F, rfl, rfl, rfl, hls, hFl, hc1, hc2⟩⟩
set_option maxHeartbeats 4000000 in
set_option maxRecDepth 4000 in
theorem law_joined (s t : ByteArray) (d : Int) (w : World) (hs : s.size ≤ 1048576) (ht : t.size ≤ 1048576) (hd : (Lit.int .i64 d).wf = true) :
  Calls Tryz.prog 4 #[.string s, .string t, .int .i64 d] w fun e w' => e = .returned (.bool true) ∧ Below w.heap.size w w' := by
 have hPs := hide (fun W => parses_ok W)
 have hcv := hide (fun s W => conv_bytes9 s W)
 have hPa := hide (fun s W a n c (h : Row .u8 W a n c (mem.bytesZ s)) (hn : n ≤ 1073741824) => parse_ok a n c (mem.bytesZ s) d W h hn (mem.bytesZ_byt s) hd)
 have hDJ := hide (fun l1 l2 h1 h2 => doc_joined (mem.bytesZ s) (mem.bytesZ t) (mem.bytesZ_byt s) d (l1 := l1) (l2 := l2) h1 h2)
 clear hd
 go_enter Tryz.func4, Tryz.ntmps4
 go_wp2_with fail
 refine ((unhide hPs) _).mono ?_
 rintro e w1 ⟨rfl, b1⟩
 clear hPs
 obtain ⟨cap, W2, hc2, hrow2, b2⟩ := (unhide hcv) s w1
 have hP := hide ((unhide hPa) s W2 _ _ _ hrow2 (by omega))
 clear hrow2
 go_wp2_with fail
 refine (unhide hP).mono ?_
 rintro e w3 ⟨sl, fs, rfl, hpp, b3⟩
 have bw3 := b1.trans ((b2.trans (b3.mono b2.size)).mono b1.size)
 obtain ⟨a1, n1, c1, K1, fa1, fn1, fc1, rfl, rfl, hq1⟩ := par_form (show ParPost (docG (mem.bytesZ s) d) W2.heap.size w3 sl fs from hpp)
 have HQ1 := hide hq1
 clear hq1
 clear hpp hP hc2 b1 b2 b3
 obtain ⟨X, hX⟩ : ∃ X, X = (w3.alloc (.cells #[.slice a1 n1 c1] 34)).alloc (.cells #[.int .i64 K1, .slice fa1 fn1 fc1, .slice none 0 0] 39) := ⟨_, rfl⟩
 have bX : Below w3.heap.size w3 X := by rw [hX]; exact two_alloc _ _ _
 obtain ⟨cap2, W4, hc4, hrow4, b4⟩ := (unhide hcv) t X
 have gX := (show X.heap[w3.heap.size]? = _ ∧ X.heap[w3.heap.size + 1]? = _ from by rw [hX]; exact two_at _ _ _ _ _)
 have zX : w3.heap.size + 2 ≤ X.heap.size := by rw [hX]; simp
 have zE : X.heap.size = w3.heap.size + 1 + 1 := by rw [hX]; simp
 rw [zE] at hc4 hrow4
 rw [hX] at hc4
 have hP4 := hide ((unhide hPa) t W4 _ _ _ hrow4 (by omega))
 have bX4 := bX.trans (b4.mono bX.size)
 have HG4 := hide (And.intro ((b4.block w3.heap.size (by omega)).trans gX.1) (And.intro ((b4.block (w3.heap.size + 1) (by omega)).trans gX.2) bX4))
 have z4 := b4.size
 clear hrow4 hX gX b4 bX bX4
 go_wp2_with fail
 refine (unhide hP4).mono ?_
 rintro e w5 ⟨sl, fs, rfl, hpp, b5⟩
 obtain ⟨a2, n2, c2, K2, fa2, fn2, fc2, rfl, rfl, hq2⟩ := par_form (show ParPost (docG (mem.bytesZ t) d) W4.heap.size w5 sl fs from hpp)
 have HQ2 := hide hq2
 clear hq2
 have z5 := b5.size
 have g5 := (b5.block w3.heap.size (by omega)).trans (unhide HG4).1
 have g5' := (b5.block (w3.heap.size + 1) (by omega)).trans (unhide HG4).2.1
 have b35 : Below w3.heap.size w3 w5 := (unhide HG4).2.2.trans (b5.mono (unhide HG4).2.2.size)
 have bw5 := bw3.trans (b35.mono bw3.size)
 clear hpp hP4 hc4 b5 HG4
 have k0 : ∀ o o', ((w5.alloc o).alloc o').cell? ⟨w3.heap.size, 0, none⟩ = some (.slice a1 n1 c1) := fun o o' => ((two_alloc w5 o o').cell (p := ⟨w3.heap.size, 0, none⟩) (show w3.heap.size < w5.heap.size by omega)).trans ((dt.cell_cells g5 0).trans rfl)
 have k1 : ∀ o o', ((w5.alloc o).alloc o').cell? ⟨w3.heap.size + 1, 0, none⟩ = some (.int .i64 K1) := fun o o' => ((two_alloc w5 o o').cell (p := ⟨w3.heap.size + 1, 0, none⟩) (show w3.heap.size + 1 < w5.heap.size by omega)).trans ((dt.cell_cells g5' 0).trans rfl)
 by_cases hK1 : K1 = 0
 ·by_cases hK2 : K2 = 0
  ·subst hK1
   subst hK2
   obtain ⟨l1, F1, hr1, _, hn1, hls1, hF1, hc11, hc12⟩ := (unhide HQ1).resolve_left (fun x => x.2.1 rfl)
   obtain ⟨l2, F2, hr2, _, hn2, hls2, hF2, hc21, hc22⟩ := (unhide HQ2).resolve_left (fun x => x.2.1 rfl)
   obtain ⟨f1, f2, r1, r2, hrj, he1, he2⟩ := (unhide hDJ) l1 l2 hr1 hr2
   have hl1 := defsF_len _ _ _ _ _ (show (docS (newG (mem.bytesZ s) d)).1 = some l1 from hr1)
   have hl2 := defsF_len _ _ _ _ _ (show (docS (newG (mem.bytesZ t) d)).1 = some l2 from hr2)
   have HE := hide (And.intro he1 he2)
   have HL1 := hide (And.intro hls1 (And.intro hF1 (And.intro hc11 hc12)))
   have HL2 := hide (And.intro hls2 (And.intro hF2 (And.intro hc21 hc22)))
   have p1 : 0 < n1 := by omega
   have p2 : 0 < n2 := by omega
   have HN := hide (And.intro (hn1.trans he1.1) (And.intro (hn2.trans he2.1) (And.intro hn1 hn2)))
   obtain ⟨S, hS⟩ : ∃ S, S = s ++ ⟨#[10]⟩ ++ t := ⟨_, rfl⟩
   have hSz : mem.bytesZ S = mem.bytesZ s ++ 10 :: mem.bytesZ t := by
    rw [hS, bytesZ_app9, bytesZ_app9, List.append_assoc]
    rfl
   have hSs : S.size ≤ 2097153 := by
    rw [hS, size_app, size_app]
    show s.size + 1 + t.size ≤ 2097153
    omega
   rw [← hSz] at hrj
   obtain ⟨X5, hX5⟩ : ∃ X, X = (w5.alloc (.cells #[.slice a2 n2 c2] 34)).alloc (.cells #[.int .i64 0, .slice fa2 fn2 fc2, .slice none 0 0] 39) := ⟨_, rfl⟩
   have bX5 : Below w5.heap.size w5 X5 := by rw [hX5]; exact two_alloc _ _ _
   obtain ⟨cap6, W6, hc6, hrow6, b6⟩ := (unhide hcv) S X5
   have gX5 := (show X5.heap[w5.heap.size]? = _ ∧ X5.heap[w5.heap.size + 1]? = _ from by rw [hX5]; exact two_at _ _ _ _ _)
   have zE5 : X5.heap.size = w5.heap.size + 1 + 1 := by rw [hX5]; simp
   rw [zE5] at hc6 hrow6
   rw [hX5] at hc6
   have hP6 := hide ((unhide hPa) S W6 _ _ _ hrow6 (by omega))
   have b56 := bX5.trans (b6.mono bX5.size)
   have HG6 := hide (And.intro ((b6.block w5.heap.size (by omega)).trans gX5.1) (And.intro ((b56.block w3.heap.size (by omega)).trans g5) b56))
   have z6 := b6.size
   clear hrow6 hX5 gX5 b6 bX5 b56 hls1 hF1 hc11 hc12 hls2 hF2 hc21 hc22 he1 he2 hn1 hn2 hr1 hr2 hl1 hl2 HQ1 HQ2 hDJ hcv hPa g5 g5'
   have hc6' : (convert 9 22 (.string (s ++ ⟨#[10]⟩ ++ t))).run Tryz.prog ((w5.alloc (.cells #[.slice a2 n2 c2] 34)).alloc (.cells #[.int .i64 0, .slice fa2 fn2 fc2, .slice none 0 0] 39)) = .ok (.slice (some ⟨w5.heap.size + 1 + 1, 0, none⟩) S.size cap6) W6 := by rw [← hS]; exact hc6
   clear hc6
   have HSZ := hide hSz
   have z53 : w3.heap.size + 2 ≤ w5.heap.size := by omega
   have z65 : w5.heap.size + 2 ≤ W6.heap.size := by omega
   have HRJ := hide hrj
   clear hSz hS zE zE5 hrj zX z4 z5 z6
   go_wp2_with fail
   refine (unhide hP6).mono ?_
   rintro e w7 ⟨sl, fs, rfl, hpp, b7⟩
   obtain ⟨a7, n7, c7, K7, fa7, fn7, fc7, rfl, rfl, hq7⟩ := par_form (show ParPost (docG (mem.bytesZ S) d) W6.heap.size w7 sl fs from hpp)
   rcases hq7 with ⟨hx, _⟩ | ⟨l7, F7, hr7, hK7, hn7, hls7, hF7, hc71, hc72⟩
   ·rw [unhide HRJ] at hx; cases hx
   subst hK7
   obtain rfl : r1 ++ r2 = l7 := Option.some.inj ((unhide HRJ).symm.trans hr7)
   obtain ⟨e1, e2, e3, e4⟩ := unhide HN
   have e7 : n7 = n1 + n2 := by rw [hn7, List.length_append, ← e1, ← e2]
   obtain ⟨p, off, rfl, hpF, hgt⟩ := hls7.resolve_left (fun x => by
    have := congrArg List.length x
    rw [← hn7] at this
    simp at this
    omega)
   have z7 := b7.size
   have b57 := (unhide HG6).2.2.trans (b7.mono (unhide HG6).2.2.size)
   have g7 := (b7.block w5.heap.size (by omega)).trans (unhide HG6).1
   have g7' := (b7.block w3.heap.size (by omega)).trans (unhide HG6).2.1
   obtain ⟨Z, hZ⟩ : ∃ Z, Z = (w7.alloc (.cells #[.slice (some ⟨p, off, none⟩) n7 c7] 34)).alloc (.cells #[.int .i64 0, .slice fa7 fn7 fc7, .slice none 0 0] 39) := ⟨_, rfl⟩
   have bZ : Below w7.heap.size w7 Z := by rw [hZ]; exact two_alloc _ _ _
   have b37 := b35.trans (b57.mono b35.size)
   have b3Z := b37.trans (bZ.mono b37.size)
   have b5Z := b57.trans (bZ.mono b57.size)
   have x0 : ∀ o o', ((w7.alloc o).alloc o').cell? ⟨w3.heap.size, 0, none⟩ = some (.slice a1 n1 c1) := fun o o' => ((two_alloc w7 o o').cell (p := ⟨w3.heap.size, 0, none⟩) (show w3.heap.size < w7.heap.size by omega)).trans ((dt.cell_cells g7' 0).trans rfl)
   have x1 : ∀ o o', ((w7.alloc o).alloc o').cell? ⟨w5.heap.size, 0, none⟩ = some (.slice a2 n2 c2) := fun o o' => ((two_alloc w7 o o').cell (p := ⟨w5.heap.size, 0, none⟩) (show w5.heap.size < w7.heap.size by omega)).trans ((dt.cell_cells g7 0).trans rfl)
   have hrl1 : (r1 ++ r2).take n1 = r1 := by rw [e1]; simp
   have hrl2 : (r1 ++ r2).drop n1 = r2 := by rw [e1]; simp
   have HA1 := (Ls.take (l := r1 ++ r2) (.inr ⟨p, off, rfl, hpF, hgt⟩) n1 : Ls w7 9 ((r1 ++ r2).take n1) (some ⟨p, off, none⟩) F7)
   have HA2 := (Ls.drop (l := r1 ++ r2) (.inr ⟨p, off, rfl, hpF, hgt⟩) n1 : Ls w7 9 ((r1 ++ r2).drop n1) (some ⟨p, off + n1 * 9, none⟩) F7)
   rw [hrl1] at HA1
   rw [hrl2] at HA2
   have hFZ : ∀ b ∈ F7, b < Z.heap.size := fun b hb => Nat.lt_of_lt_of_le (hF7 b hb) bZ.size
   have hcc : n1 ≤ c7 := by omega
   have hS1 := fun W (bW : Below Z.heap.size Z W) => defs_t _ _ r1 l1 (EqLs.symm (unhide HE).1 fun _ _ => EqF.symm) W (some ⟨p, off, none⟩) a1 c7 c1 F7 F1 ((HA1.below hF7 bZ).below hFZ bW) (((unhide HL1).1.below (unhide HL1).2.1 b3Z).below (fun b hb => Nat.lt_of_lt_of_le ((unhide HL1).2.1 b hb) b3Z.size) bW) (fun b hb => Nat.lt_of_lt_of_le (hFZ b hb) bW.size) (fun b hb => Nat.lt_of_lt_of_le (Nat.lt_of_lt_of_le ((unhide HL1).2.1 b hb) b3Z.size) bW.size) (by rw [← e1]; exact hcc) (by rw [← e3]; exact (unhide HL1).2.2.1) hc72 (unhide HL1).2.2.2
   rw [← e1, ← e3] at hS1
   have HS1 := hide hS1
   have hS2 := fun W (bW : Below Z.heap.size Z W) => defs_f _ _ r2 l2 (EqLs.symm (unhide HE).2 fun _ _ => EqF.symm) W (some ⟨p, off + n1 * 9, none⟩) a2 (c7 - n1) c2 F7 F2 ((HA2.below hF7 bZ).below hFZ bW) (((unhide HL2).1.below (unhide HL2).2.1 b5Z).below (fun b hb => Nat.lt_of_lt_of_le ((unhide HL2).2.1 b hb) b5Z.size) bW) (fun b hb => Nat.lt_of_lt_of_le (hFZ b hb) bW.size) (fun b hb => Nat.lt_of_lt_of_le (Nat.lt_of_lt_of_le ((unhide HL2).2.1 b hb) b5Z.size) bW.size) (by rw [← e2]; omega) (by rw [← e4]; exact (unhide HL2).2.2.1) (by unfold maxLen at hc72 ⊢; omega) (unhide HL2).2.2.2
   rw [← e2, ← e4] at hS2
   have HS2 := hide hS2
   have hz0 : ∀ o o', ((w7.alloc o).alloc o').cell? ⟨w7.heap.size, 0, none⟩ = ((w7.alloc o).alloc o').cell? ⟨w7.heap.size, 0, none⟩ := fun _ _ => rfl
   have hlm : c7 ≤ 9223372036854775807 := by have := hc72; unfold maxLen at this; omega
   have hwr : IntKind.i64.wrap ((n1 : Int) + (n2 : Int)) = (n7 : Int) := by rw [IntKind.wrap_i64]; omega
   have q1 : (n1 : Int) ≤ (n7 : Int) := by omega
   have q2 : (n1 : Int) ≤ (c7 : Int) := by omega
   have q3 : (n7 : Int) ≤ (c7 : Int) := by omega
   have q4 : ¬ (c7 = n1) := by omega
   have q5 : ((n1 : Int) == 0) = false := by simp; omega
   have q6 : ((n2 : Int) == 0) = false := by simp; omega
   have q8 : ¬ n1 = 0 := by omega
   have q9 : ¬ n2 = 0 := by omega
   have q7 : n7 - n1 = n2 := by omega
   have Q7 := hide q7
   have BZ := hide (bw5.trans (b5Z.mono bw5.size))
   have HBZ := hide bZ
   clear hz0 hS1 hS2 HA1 HA2 hrl1 hrl2 hgt hpF hn7 hr7 hls7 hF7 hFZ e7 e1 e2 e3 e4 g7 g7' b37 b3Z b5Z b57 bZ HG6 HE HL1 HL2 HN HRJ HSZ hpp b7 k0 k1 hP6 hc6' hc71 hc72 q7 hcc
   have zZ : w7.heap.size + 2 ≤ Z.heap.size := by rw [hZ]; simp
   have gZ := (show Z.heap[w7.heap.size]? = _ ∧ Z.heap[w7.heap.size + 1]? = _ from by rw [hZ]; exact two_at _ _ _ _ _).1
   have C0 : Z.cell? ⟨w7.heap.size, 0, none⟩ = some (.slice (some ⟨p, off, none⟩) n7 c7) := (dt.cell_cells gZ 0).trans rfl
   have C1 : Z.cell? ⟨w3.heap.size, 0, none⟩ = some (.slice a1 n1 c1) := by rw [hZ]; exact x0 _ _
   have C2 : Z.cell? ⟨w5.heap.size, 0, none⟩ = some (.slice a2 n2 c2) := by rw [hZ]; exact x1 _ _
   have HC := hide (And.intro C0 (And.intro C1 C2))
   clear C0 C1 C2 gZ
   go_wp2_with fail
   rw [← hZ]
   clear hZ x0 x1 hwr q5 q6 q8 q9
   obtain ⟨C0, C1, C2⟩ := unhide HC
   have l0 : w7.heap.size < Z.heap.size := by omega
   have l1' : w3.heap.size < Z.heap.size := by omega
   have l2' : w5.heap.size < Z.heap.size := by omega
   have hS0 : Below Z.heap.size Z { Z with drawn := Z.drawn + 1 } := (Below.refl _ _).drew
   refine wp_region_noPanic ?_
   refine wp_region_held (S := fun w' => Below Z.heap.size Z w') mixed ?_
   refine rgn.tl (i := 0) (v := ?v1) rfl (by kernel_rfl) (fun _ _ _ h => h) (by rfl) ?hy1 hS0 ?_
   case hy1 => (intro w' hw'; go_simp; try with_reducible rfl)
   simp only [rgn.l1, rgn.l2, rgn.l3, Act.put, rgn.l4, rgn.l5, rgn.l6]
   refine rgn.tl (i := 1) (v := ?v2) rfl (by kernel_rfl) (fun _ _ _ h => h) (by rfl) ?hy2 hS0 ?_
   case hy2 => (intro w' hw'; have q0 := (hw'.cell (p := ⟨w7.heap.size, 0, none⟩) l0).trans C0; go_simp; try with_reducible rfl)
   simp only [rgn.l1, rgn.l2, rgn.l3, Act.put, rgn.l4, rgn.l5, rgn.l6]
   refine rgn.tl (i := 2) (v := ?v3) rfl (by kernel_rfl) (fun _ _ _ h => h) (by rfl) ?hy3 hS0 ?_
   case hy3 => (intro w' hw'; go_simp; try with_reducible rfl)
   simp only [rgn.l1, rgn.l2, rgn.l3, Act.put, rgn.l4, rgn.l5, rgn.l6]
   refine rgn.tl (i := 3) (v := ?v4) rfl (by kernel_rfl) (fun _ _ _ h => h) (by rfl) ?hy4 hS0 ?_
   case hy4 => (intro w' hw'; go_simp; try with_reducible rfl)
   simp only [rgn.l1, rgn.l2, rgn.l3, Act.put, rgn.l4, rgn.l5, rgn.l6]
   refine rgn.tl (i := 4) (v := ?v5) rfl (by kernel_rfl) (fun _ _ _ h => h) (by rfl) ?hy5 hS0 ?_
   case hy5 => (intro w' hw'; go_simp; try with_reducible rfl)
   simp only [rgn.l1, rgn.l2, rgn.l3, Act.put, rgn.l4, rgn.l5, rgn.l6]
   refine rgn.tl (i := 5) (v := ?v6) rfl (by kernel_rfl) (fun _ _ _ h => h) (by rfl) ?hy6 hS0 ?_
   case hy6 => (intro w' hw'; have q0 := (hw'.cell (p := ⟨w3.heap.size, 0, none⟩) l1').trans C1; go_simp; try with_reducible rfl)
   simp only [rgn.l1, rgn.l2, rgn.l3, Act.put, rgn.l4, rgn.l5, rgn.l6]
   refine rgn.one (i := 6) _ rfl (by kernel_rfl) (by rfl) ?_
   try simp only [rgn.l1, rgn.l2, rgn.l3, Act.put, rgn.l4, rgn.l5, rgn.l6]
   refine rgn.call_wp _ _ _ _ rfl Tryz.func12 (by kernel_rfl) (by kernel_rfl) #[.slice (some ⟨p, off, none⟩) n1 c7, .slice a1 n1 c1, .bool true] (by first | kernel_rfl | (simp only [List.map_toArray, List.map_cons, List.map_nil]; rfl)) ?_
   refine ((unhide HS1) _ hS0).mono ?_
   rintro e9 w9 ⟨rfl, b9⟩
   have hS9 := hS0.trans (b9.mono hS0.size)
   refine ⟨_, rfl, hS9, ?_⟩
   clear hS0 b9
   have hS0 := hS9
   try simp only [rgn.l1, rgn.l2, rgn.l3, Act.put, rgn.l4, rgn.l5, rgn.l6]
   refine rgn.tl (i := 7) (v := ?v7) rfl (by kernel_rfl) (fun _ _ _ h => h) (by rfl) ?hy7 hS0 ?_
   case hy7 => (intro w' hw'; go_simp; try with_reducible rfl)
   simp only [rgn.l1, rgn.l2, rgn.l3, Act.put, rgn.l4, rgn.l5, rgn.l6]
   refine rgn.tl (i := 8) (v := ?v8) rfl (by kernel_rfl) (fun _ _ _ h => h) (by rfl) ?hy8 hS0 ?_
   case hy8 => (intro w' hw'; go_simp; try with_reducible rfl)
   simp only [rgn.l1, rgn.l2, rgn.l3, Act.put, rgn.l4, rgn.l5, rgn.l6]
   refine rgn.tl (i := 9) (v := ?v9) rfl (by kernel_rfl) (fun _ _ _ h => h) (by rfl) ?hy9 hS0 ?_
   case hy9 => (intro w' hw'; have q0 := (hw'.cell (p := ⟨w7.heap.size, 0, none⟩) l0).trans C0; go_simp; try with_reducible rfl)
   simp only [rgn.l1, rgn.l2, rgn.l3, Act.put, rgn.l4, rgn.l5, rgn.l6]
   refine rgn.tl (i := 10) (v := ?v10) rfl (by kernel_rfl) (fun _ _ _ h => h) (by rfl) ?hy10 hS0 ?_
   case hy10 => (intro w' hw'; go_simp; try with_reducible rfl)
   simp only [rgn.l1, rgn.l2, rgn.l3, Act.put, rgn.l4, rgn.l5, rgn.l6]
   refine rgn.tl (i := 11) (v := ?v11) rfl (by kernel_rfl) (fun _ _ _ h => h) (by rfl) ?hy11 hS0 ?_
   case hy11 => (intro w' hw'; have hq7 := unhide Q7; go_simp; try with_reducible rfl)
   simp only [rgn.l1, rgn.l2, rgn.l3, Act.put, rgn.l4, rgn.l5, rgn.l6]
   refine rgn.tl (i := 12) (v := ?v12) rfl (by kernel_rfl) (fun _ _ _ h => h) (by rfl) ?hy12 hS0 ?_
   case hy12 => (intro w' hw'; go_simp; try with_reducible rfl)
   simp only [rgn.l1, rgn.l2, rgn.l3, Act.put, rgn.l4, rgn.l5, rgn.l6]
   refine rgn.tl (i := 13) (v := ?v13) rfl (by kernel_rfl) (fun _ _ _ h => h) (by rfl) ?hy13 hS0 ?_
   case hy13 => (intro w' hw'; have q0 := (hw'.cell (p := ⟨w5.heap.size, 0, none⟩) l2').trans C2; go_simp; try with_reducible rfl)
   simp only [rgn.l1, rgn.l2, rgn.l3, Act.put, rgn.l4, rgn.l5, rgn.l6]
   refine rgn.one (i := 14) _ rfl (by kernel_rfl) (by rfl) ?_
   try simp only [rgn.l1, rgn.l2, rgn.l3, Act.put, rgn.l4, rgn.l5, rgn.l6]
   refine rgn.call_wp _ _ _ _ rfl Tryz.func12 (by kernel_rfl) (by kernel_rfl) #[.slice (some ⟨p, off + n1 * 9, none⟩) n2 (c7 - n1), .slice a2 n2 c2, .bool false] (by first | kernel_rfl | (simp only [List.map_toArray, List.map_cons, List.map_nil]; rfl)) ?_
   refine ((unhide HS2) _ hS0).mono ?_
   rintro e9 w10 ⟨rfl, b10⟩
   have hS8 := hS0.trans (b10.mono hS0.size)
   refine ⟨_, rfl, hS8, ?_⟩
   clear hS0 b10
   have hS0 := hS8
   try simp only [rgn.l1, rgn.l2, rgn.l3, Act.put, rgn.l4, rgn.l5, rgn.l6]
   refine rgn.tl (i := 15) (v := ?v14) rfl (by kernel_rfl) (fun _ _ _ h => h) (by rfl) ?hy14 hS0 ?_
   case hy14 => (intro w' hw'; go_simp; try with_reducible rfl)
   simp only [rgn.l1, rgn.l2, rgn.l3, Act.put, rgn.l4, rgn.l5, rgn.l6]
   refine rgn.tl (i := 16) (v := ?v15) rfl (by kernel_rfl) (fun _ _ _ h => h) (by rfl) ?hy15 hS0 ?_
   case hy15 => (intro w' hw'; go_simp; try with_reducible rfl)
   simp only [rgn.l1, rgn.l2, rgn.l3, Act.put, rgn.l4, rgn.l5, rgn.l6]
   refine wpAnyH_done (by kernel_rfl) ?_ _; refine NoPanic.normal ?_
   go_wp2_with fail
   go_ret
   exact ⟨rfl, (unhide BZ).trans (hS8.mono (unhide BZ).size)⟩
  ·subst hK1
   have hb : (K2 != 0) = true := by simpa using hK2
   have hb' : (K2 == 0) = false := by simpa using hK2
   have hn2 : n2 = 0 := by
    rcases unhide HQ2 with ⟨_, _, h⟩ | ⟨_, _, _, h, _⟩
    ·exact h
    ·exact absurd h hK2
   subst hn2
   clear g5 g5' HQ1 HQ2 hDJ hcv hPa
   go_wp2_with fail
   go_ret
   exact ⟨rfl, bw5.trans ((two_alloc _ _ _).mono bw5.size)⟩
 ·have hb : (K1 != 0) = true := by simpa using hK1
  have hb' : (K1 == 0) = false := by simpa using hK1
  have hn1 : n1 = 0 := by
   rcases unhide HQ1 with ⟨_, _, h⟩ | ⟨_, _, _, h, _⟩
   ·exact h
   ·exact absurd h hK1
  subst hn1
  by_cases hK2 : K2 = 0
  ·subst hK2
   clear g5 g5' HQ1 HQ2 hDJ hcv hPa
   go_wp2_with fail
   go_ret
   exact ⟨rfl, bw5.trans ((two_alloc _ _ _).mono bw5.size)⟩
  ·have hd' : (K2 == 0) = false := by simpa using hK2
   have hn2 : n2 = 0 := by
    rcases unhide HQ2 with ⟨_, _, h⟩ | ⟨_, _, _, h, _⟩
    ·exact h
    ·exact absurd h hK2
   subst hn2
   clear g5 g5' HQ1 HQ2 hDJ hcv hPa
   go_wp2_with fail
   go_ret
   exact ⟨rfl, bw5.trans ((two_alloc _ _ _).mono bw5.size)⟩
end Go.Proofs.YtcebeajjpcbgcaaGreat.cu
