import Derived.Test.YtcebeajjpcbgcaaGreatQne18
import Derived.Test.YtcebeajjpcbgcaaGreatQne19
set_option linter.unusedVariables false
set_option linter.unusedSimpArgs false
namespace Go.Proofs.YtcebeajjpcbgcaaGreat.cu
open Go.ChangeShapes Go.WideShapes Go.ChangeAt Go.RowKit
open ints (hide unhide)
open dt (Dt Kp RowAt Ow Grow OwIn)
open mem (Row)
open lx (toks chs cln)
theorem bytesZ_app9 (a b : ByteArray) : mem.bytesZ (a ++ b) = mem.bytesZ a ++ mem.bytesZ b := by simp [mem.bytesZ]
theorem Ls.agree {w w' : World} {k : Nat} {l : List Dt} {a : Option Addr} {F : List Nat} (h : Ls w k l a F) (ha : dt.Agree F w w') : Ls w' k l a F := by
 rcases h with h | ⟨p, off, e, hp, h⟩
 ·exact .inl h
 ·refine .inr ⟨p, off, e, hp, fun i e he => ?_⟩
  obtain ⟨ds, G, h1, h2, h3, h4⟩ := h i e he
  exact ⟨ds, G, h1.agree hp ha, h2, dt.Ow.agree e ds G (fun b hb o => ha b (h4 b hb) o) h3, h4⟩
theorem infoSel9 : (Tryz.prog.info? 57).map (·.size) = some 9 := by kernel_rfl
theorem one_def {w : World} {k : Int} {nm on : ByteArray} {sh : Bool} {vs ds ss : List Dt} {x y : Int} {a : Option Addr} {F : List Nat} (h : Ls w 9 [defD k nm on sh vs ds ss x y] a F) : ∃ p off a1 c1 a2 c2 a3 c3, a = some ⟨p, off, none⟩ ∧ p ∈ F ∧ RowAt w p off [.int .i64 k, .string nm, .string on, .bool sh, .slice a1 vs.length c1, .slice a2 ds.length c2, .slice a3 ss.length c3, .int .i64 x, .int .i64 y] ∧ (ss.length ≤ c3 ∧ c3 ≤ maxLen) ∧ Ls w 9 ss a3 F := by
 rcases h with h | ⟨p, off, e, hp, h⟩
 ·cases h
 ·obtain ⟨cs, G, h1, h2, h3, h4⟩ := h 0 _ rfl
  obtain ⟨a1, c1, a2, c2, a3, c3, rfl, hb, _, _, h5⟩ := def_cells h3
  refine ⟨p, off, a1, c1, a2, c2, a3, c3, e, hp, by simpa using h1, ⟨hb.2.2.2.2.1, hb.2.2.2.2.2⟩, h5.mono h4⟩
theorem one_sel {w : World} {k : Int} {al nm on : ByteArray} {as1 ds ss : List Dt} {x y : Int} {a : Option Addr} {F : List Nat} (h : Ls w 9 [selD k al nm on as1 ds ss x y] a F) : ∃ p off a1 c1 a2 c2 a3 c3, a = some ⟨p, off, none⟩ ∧ p ∈ F ∧ RowAt w p off [.int .i64 k, .string al, .string nm, .string on, .slice a1 as1.length c1, .slice a2 ds.length c2, .slice a3 ss.length c3, .int .i64 x, .int .i64 y] ∧ (ss.length ≤ c3 ∧ c3 ≤ maxLen) ∧ Ls w 9 ss a3 F := by
 rcases h with h | ⟨p, off, e, hp, h⟩
 ·cases h
 ·obtain ⟨cs, G, h1, h2, h3, h4⟩ := h 0 _ rfl
  obtain ⟨a1, c1, a2, c2, a3, c3, rfl, hb, _, _, h5⟩ := sel_cells h3
  refine ⟨p, off, a1, c1, a2, c2, a3, c3, e, hp, by simpa using h1, ⟨hb.2.2.2.2.1, hb.2.2.2.2.2⟩, h5.mono h4⟩
theorem doc_lsr {w : World} {lo : Nat} {l : List Dt} {sl : Value} {G : List Nat} (h : Grow 53 9 w lo l sl G) : ∃ a c F, sl = .slice a l.length c ∧ Ls w 9 l a F ∧ (∀ b ∈ F, lo ≤ b ∧ b < w.heap.size) ∧ l.length ≤ c ∧ c ≤ maxLen := by
 obtain ⟨a, n, c, F, rfl, hs⟩ := Sh.of h
 obtain ⟨h1, h2⟩ := lst_ls hs.at_
 have hn := hs.len
 subst hn
 exact ⟨a, c, F, rfl, h2, fun b hb => ⟨(hs.rng b hb).1, Nat.lt_of_lt_of_le (hs.rng b hb).2 hs.hi⟩, hs.nc, hs.cm⟩
theorem par_formr {z : List Int} {d : Int} {lo : Nat} {w : World} {sl : Value} {fs : List Value} (h : ParPost (docG z d) lo w sl fs) : ∃ a n c K fa fn fc, sl = .slice a n c ∧ fs = [.int .i64 K, .slice fa fn fc, .slice none 0 0] ∧ (((docG z d).1 = none ∧ K ≠ 0 ∧ n = 0) ∨ ∃ l F, (docG z d).1 = some l ∧ K = 0 ∧ n = l.length ∧ Ls w 9 l a F ∧ (∀ b ∈ F, lo ≤ b ∧ b < w.heap.size) ∧ n ≤ c ∧ c ≤ maxLen) := by
 unfold ParPost at h
 have hDN : (docG z d).1 = none → (docG z d).2.kd ≠ 0 := docS_faults _ (newG_ok' _ _)
 cases hr : (docG z d).1 with
 | none =>
  rw [hr] at h
  obtain ⟨rfl, hfl⟩ := h
  have hK0 := hDN hr
  unfold FltAt at hfl
  rw [if_neg hK0] at hfl
  obtain ⟨b, y1, y2, rfl, y4, y5⟩ := hfl
  exact ⟨none, 0, 0, _, _, _, _, rfl, rfl, .inl ⟨rfl, hK0, rfl⟩⟩
 | some l =>
  rw [hr] at h
  obtain ⟨⟨G, hg⟩, rfl⟩ := h
  obtain ⟨al, cl, F, rfl, hls, hFl, hc1, hc2⟩ := doc_lsr hg
  exact ⟨al, _, cl, 0, none, 0, 0, rfl, rfl, .inr ⟨l, F, rfl, rfl, rfl, hls, hFl, hc1, hc2⟩⟩
theorem src_bytes (p q : List UInt8) (s : ByteArray) : mem.bytesZ (⟨p.toArray⟩ ++ s ++ ⟨q.toArray⟩) = p.map (fun b => (b.toNat : Int)) ++ mem.bytesZ s ++ q.map (fun b => (b.toNat : Int)) := by
 rw [bytesZ_app9, bytesZ_app9]
 unfold mem.bytesZ
 simp
set_option maxHeartbeats 4000000 in
set_option maxRecDepth 4000 in
theorem law_nested (s : ByteArray) (dv : Int) (w : World) (hs : s.size ≤ 1048576) (hdv : 0 ≤ dv ∧ dv ≤ 255) :
  Calls Tryz.prog 5 #[.string s, .int .u8 dv] w fun e w' => e = .returned (.bool true) ∧ Below w.heap.size w w' := by
 obtain ⟨d, hd⟩ : ∃ d, d = dv % 200 := ⟨_, rfl⟩
 have hd0 : 0 ≤ d ∧ d < 200 := by omega
 have hPs := hide (fun W => parses_ok W)
 have hcv := hide (fun s W => conv_bytes9 s W)
 have hPa := hide (fun s d W a n c (hd : (Lit.int .i64 d).wf = true) (h : Row .u8 W a n c (mem.bytesZ s)) (hn : n ≤ 1073741824) => parse_ok a n c (mem.bytesZ s) d W h hn (mem.bytesZ_byt s) hd)
 have hDJ := hide (fun x h => doc_nested (mem.bytesZ s) (mem.bytesZ_byt s) d hd0 (x := x) h)
 have hw1 : (Lit.int .i64 d).wf = true := by simp [Lit.wf, IntKind.min, IntKind.max, IntKind.signed, IntKind.bits]; omega
 have hw2 : (Lit.int .i64 (d + 1)).wf = true := by simp [Lit.wf, IntKind.min, IntKind.max, IntKind.signed, IntKind.bits]; omega
 go_enter Tryz.func5, Tryz.ntmps5
 go_wp2_with fail
 refine ((unhide hPs) _).mono ?_
 rintro e w1 ⟨rfl, b1⟩
 clear hPs
 obtain ⟨S1, hS1⟩ : ∃ S, S = (⟨#[123]⟩ : ByteArray) ++ s ++ ⟨#[10, 125]⟩ := ⟨_, rfl⟩
 have z1 : mem.bytesZ S1 = 123 :: mem.bytesZ s ++ [10, 125] := by rw [hS1]; exact src_bytes [123] [10, 125] s
 have l1 : S1.size ≤ 1048600 := by rw [hS1, size_app, size_app]; show 1 + s.size + 2 ≤ _; omega
 obtain ⟨cap, W2, hc2, hrow2, b2⟩ := (unhide hcv) S1 w1
 have hP := hide ((unhide hPa) S1 d W2 _ _ _ hw1 hrow2 (by omega))
 have hc2' : (convert 9 22 (.string ((⟨#[123]⟩ : ByteArray) ++ s ++ ⟨#[10, 125]⟩))).run Tryz.prog w1 = .ok (.slice (some ⟨w1.heap.size, 0, none⟩) S1.size cap) W2 := by rw [← hS1]; exact hc2
 have HZ1 := hide z1
 have HD := hide hd
 have hdm : dv % 200 = d := hd.symm
 clear hrow2 hc2 hS1 z1 hd
 go_wp2_with fail
 refine (unhide hP).mono ?_
 rintro e w3 ⟨sl, fs, rfl, hpp, b3⟩
 have bw3 := b1.trans ((b2.trans (b3.mono b2.size)).mono b1.size)
 obtain ⟨a1, n1, c1, K1, fa1, fn1, fc1, rfl, rfl, hq1⟩ := par_formr (show ParPost (docG (mem.bytesZ S1) d) W2.heap.size w3 sl fs from hpp)
 have HQ1 := hide hq1
 clear hq1 hpp hP hc2' b1 b2 b3
 by_cases hK1 : K1 = 0
 ·subst hK1
  by_cases hn1 : n1 = 1
  ·subst hn1
   rcases unhide HQ1 with ⟨_, h, _⟩ | ⟨ll, F1, hr1, _, hn1, hls1, hF1, hc11, hc12⟩
   ·exact absurd rfl h
   obtain ⟨x, rfl⟩ : ∃ x, ll = [x] := by
    cases ll with
    | nil => simp at hn1
    | cons x ll =>
     cases ll with
     | nil => exact ⟨x, rfl⟩
     | cons y ll => simp at hn1
   rw [unhide HZ1] at hr1
   obtain ⟨ff, ss, xa, xb, rfl, ⟨s2, ua1, ub1, ua2, ub2, hd2, he2⟩, ⟨s3, va1, vb1, va2, vb2, hd3, he3⟩, ⟨s4, ta2, tb2, hd4, he4⟩⟩ := (unhide hDJ) x hr1
   obtain ⟨pd, od, d1, e1, d2, e2, d3, e3, rfl, hpd, hrd, hbd, hlsd⟩ := one_def hls1
   obtain ⟨nss, hnss⟩ : ∃ n, n = ss.length := ⟨_, rfl⟩
   rw [← hnss] at hrd hbd
   have HSd := hide (And.intro hlsd (And.intro hF1 (And.intro hbd hnss)))
   have HD2 := hide (And.intro hd2 (EqLs.symm he2 fun _ _ => EqS.symm))
   have HD3 := hide (And.intro hd3 (EqLs.symm he3 fun _ _ => EqS.symm))
   have HD4 := hide (And.intro hd4 (EqLs.symm he4 fun _ _ => EqS.symm))
   have hpd1 := (hF1 pd hpd).2
   have HRD := hide hrd
   clear hr1 hd2 hd3 hd4 he2 he3 he4 hls1 hlsd hF1 hbd hnss hDJ hrd HZ1 hn1 hc11 hc12 HQ1
   obtain ⟨S2, hS2⟩ : ∃ S, S = (⟨#[123, 107, 58, 119, 123]⟩ : ByteArray) ++ s ++ ⟨#[10, 125, 125]⟩ := ⟨_, rfl⟩
   have z2 : mem.bytesZ S2 = P2 ++ [123] ++ mem.bytesZ s ++ [10, 125, 125] := by rw [hS2]; exact src_bytes [123, 107, 58, 119, 123] [10, 125, 125] s
   have l2 : S2.size ≤ 1048600 := by rw [hS2, size_app, size_app]; show 5 + s.size + 3 ≤ _; omega
   obtain ⟨X3, hX3⟩ : ∃ X, X = (w3.alloc (.cells #[.slice (some ⟨pd, od, none⟩) 1 c1] 34)).alloc (.cells #[.int .i64 0, .slice fa1 fn1 fc1, .slice none 0 0] 39) := ⟨_, rfl⟩
   have bX3 : Below w3.heap.size w3 X3 := by rw [hX3]; exact two_alloc _ _ _
   have gX3 := (show X3.heap[w3.heap.size]? = _ ∧ X3.heap[w3.heap.size + 1]? = _ from by rw [hX3]; exact two_at _ _ _ _ _)
   have zX3 : X3.heap.size = w3.heap.size + 1 + 1 := by rw [hX3]; simp
   obtain ⟨cap4, W4, hc4, hrow4, b4⟩ := (unhide hcv) S2 X3
   rw [zX3] at hc4 hrow4
   rw [hX3] at hc4
   have hP4 := hide ((unhide hPa) S2 (d + 1) W4 _ _ _ hw2 hrow4 (by omega))
   have hc4' : (convert 9 22 (.string ((⟨#[123, 107, 58, 119, 123]⟩ : ByteArray) ++ s ++ ⟨#[10, 125, 125]⟩))).run Tryz.prog ((w3.alloc (.cells #[.slice (some ⟨pd, od, none⟩) 1 c1] 34)).alloc (.cells #[.int .i64 0, .slice fa1 fn1 fc1, .slice none 0 0] 39)) = .ok (.slice (some ⟨w3.heap.size + 1 + 1, 0, none⟩) S2.size cap4) W4 := by rw [← hS2]; exact hc4
   have HZ2 := hide z2
   have b34 := bX3.trans (b4.mono bX3.size)
   have s4 := b4.size
   have HG4 := hide (And.intro ((b4.block w3.heap.size (by omega)).trans gX3.1) (And.intro ((b4.block (w3.heap.size + 1) (by omega)).trans gX3.2) b34))
   have s34 : w3.heap.size + 2 ≤ W4.heap.size := by omega
   have hd1 : IntKind.i64.wrap (d + 1) = d + 1 := by rw [IntKind.wrap_i64]; omega
   clear hrow4 hc4 hS2 z2 hX3 gX3 zX3 b4 bX3 b34 s4
   go_wp2_with fail
   refine (unhide hP4).mono ?_
   rintro e w5 ⟨sl, fs, rfl, hpp, b5⟩
   obtain ⟨a2, n2, c2, K2, fa2, fn2, fc2, rfl, rfl, hq2⟩ := par_formr (show ParPost (docG (mem.bytesZ S2) (d + 1)) W4.heap.size w5 sl fs from hpp)
   rw [unhide HZ2] at hq2
   rcases hq2 with ⟨hx, _⟩ | ⟨ll, F2, hr2, hK2, hn2, hls2, hF2, hc21, hc22⟩
   ·rw [(unhide HD2).1] at hx; cases hx
   obtain rfl := Option.some.inj ((unhide HD2).1.symm.trans hr2)
   subst hK2
   obtain rfl : n2 = 1 := hn2
   obtain ⟨p2, o2, g1, h1, g2, h2, g3, h3, rfl, hp2, hrow2, _, hlq2⟩ := one_def hls2
   obtain ⟨q2, r2, i1, j1, i2, j2, i3, j3, rfl, hq2, hsel2, hb2, hls2s⟩ := one_sel hlq2
   obtain ⟨m2, hm2⟩ : ∃ n, n = s2.length := ⟨_, rfl⟩
   rw [← hm2] at hsel2 hb2
   have s5 := b5.size
   have r2p := hF2 p2 hp2
   have r2q := hF2 q2 hq2
   obtain ⟨Y5, hY5⟩ : ∃ Y, Y = w5.alloc (.cells #[.slice (some ⟨p2, o2, none⟩) 1 c2] 34) := ⟨_, rfl⟩
   have bY5 : Below w5.heap.size w5 Y5 := by rw [hY5]; exact (Below.refl _ _).alloc (Nat.le_refl _) _
   have zY5 : w5.heap.size + 1 ≤ Y5.heap.size := by rw [hY5]; simp
   have gY5 : Y5.heap[w5.heap.size]? = some (.cells #[.slice (some ⟨p2, o2, none⟩) 1 c2] 34 (0, 0)) := by rw [hY5]; exact heap_alloc_new _ _
   have gf5 : Y5.heap[w3.heap.size + 1]? = some (.cells #[.int .i64 0, .slice fa1 fn1 fc1, .slice none 0 0] 39 (0, 0)) := (bY5.block _ (by omega)).trans ((b5.block _ (by omega)).trans (unhide HG4).2.1)
   have gd5 : Y5.heap[w3.heap.size]? = some (.cells #[.slice (some ⟨pd, od, none⟩) 1 c1] 34 (0, 0)) := (bY5.block _ (by omega)).trans ((b5.block _ (by omega)).trans (unhide HG4).1)
   have HT5 : Y5.there (w3.heap.size + 1) 0 3 := dt.there_cells gf5 (Nat.le_refl 3)
   obtain ⟨Z5, hZ5⟩ : ∃ Z, Z = Y5.setCells (w3.heap.size + 1) 0 [.int .i64 0, .slice fa2 fn2 fc2, .slice none 0 0] := ⟨_, rfl⟩
   have hne5 : ∀ b, b ≠ w3.heap.size + 1 → Z5.heap[b]? = Y5.heap[b]? := fun b hb => by rw [hZ5]; exact dt.heap_setCells _ _ hb _ _ _
   have gfZ : Z5.heap[w3.heap.size + 1]? = some (.cells #[.int .i64 0, .slice fa2 fn2 fc2, .slice none 0 0] 39 (0, 0)) := by rw [hZ5]; exact (dt.setCells_at _ 0 Y5 _ gf5).trans (by rfl)
   have zZ5 : Z5.heap.size = Y5.heap.size := by rw [hZ5]; exact dt.size_setCells _ _ _ _
   have b3Z : Below w3.heap.size w3 Z5 := by rw [hZ5]; exact dt.below_setCells _ _ _ _ ((unhide HG4).2.2.trans ((b5.trans (bY5.mono b5.size)).mono (unhide HG4).2.2.size)) (Nat.le_succ _)
   have gin : Z5.heap[w5.heap.size]? = some (.cells #[.slice (some ⟨p2, o2, none⟩) 1 c2] 34 (0, 0)) := (hne5 _ (by omega)).trans gY5
   have gdZ : Z5.heap[w3.heap.size]? = some (.cells #[.slice (some ⟨pd, od, none⟩) 1 c1] 34 (0, 0)) := (hne5 _ (by omega)).trans gd5
   have ag5 : dt.Agree F2 w5 Z5 := fun b hb o => (dt.cell_blk (hne5 b (by have := (hF2 b hb).1; omega)) o).trans (bY5.cell (p := ⟨b, o, none⟩) (hF2 b hb).2)
   have hrw2 := hrow2.agree hp2 ag5
   have hsl2 := hsel2.agree hq2 ag5
   have hrd5 := (unhide HRD).below b3Z
   have f0 : Z5.cell? ⟨w3.heap.size + 1, 0, none⟩ = some (.int .i64 0) := (dt.cell_cells gfZ 0).trans rfl
   have t0 : Z5.cell? ⟨w5.heap.size, 0, none⟩ = some (.slice (some ⟨p2, o2, none⟩) 1 c2) := (dt.cell_cells gin 0).trans rfl
   have u0 : Z5.cell? ⟨w3.heap.size, 0, none⟩ = some (.slice (some ⟨pd, od, none⟩) 1 c1) := (dt.cell_cells gdZ 0).trans rfl
   have v6 : Z5.cell? ⟨p2, o2 + 6, none⟩ = some (.slice (some ⟨q2, r2, none⟩) 1 h3) := hrw2 6 _ rfl
   have y0 : Z5.cell? ⟨q2, r2, none⟩ = some (.int .i64 1) := hsl2 0 _ rfl
   have y1 : Z5.cell? ⟨q2, r2 + 1, none⟩ = some (.string ⟨#[107]⟩) := hsl2 1 _ rfl
   have y2 : Z5.cell? ⟨q2, r2 + 2, none⟩ = some (.string ⟨#[119]⟩) := hsl2 2 _ rfl
   have y3 : Z5.cell? ⟨q2, r2 + 3, none⟩ = some (.string ⟨#[]⟩) := hsl2 3 _ rfl
   have y4 : Z5.cell? ⟨q2, r2 + 4, none⟩ = some (.slice i1 0 j1) := hsl2 4 _ rfl
   have y5 : Z5.cell? ⟨q2, r2 + 5, none⟩ = some (.slice i2 0 j2) := hsl2 5 _ rfl
   have y6 : Z5.cell? ⟨q2, r2 + 6, none⟩ = some (.slice i3 m2 j3) := hsl2 6 _ rfl
   have y7 : Z5.cell? ⟨q2, r2 + 7, none⟩ = some (.int .i64 ua1) := hsl2 7 _ rfl
   have y8 : Z5.cell? ⟨q2, r2 + 8, none⟩ = some (.int .i64 ub1) := hsl2 8 _ rfl
   have x6 : Z5.cell? ⟨pd, od + 6, none⟩ = some (.slice d3 nss e3) := hrd5 6 _ rfl
   have hq2l := hls2s.agree ag5
   have hF2Z : ∀ b ∈ F2, b < Z5.heap.size := fun b hb => by have := (hF2 b hb).2; omega
   have HL2 := hide (And.intro hq2l (And.intro hF2Z (And.intro hb2 hm2)))
   have HB5 := hide (And.intro b3Z (And.intro gfZ (And.intro gin gdZ)))
   have HF5 := hide (And.intro hF2 hm2)
   have HZY := hide hZ5
   have HYY := hide hY5
   have z35 : w3.heap.size + 2 ≤ w5.heap.size := by omega
   have z5Z : w5.heap.size + 1 ≤ Z5.heap.size := by omega
   have q2Z : q2 < Z5.heap.size := by omega
   have p2Z : p2 < Z5.heap.size := by omega
   have pdZ : pd < w3.heap.size := hpd1
   clear hpp hP4 hc4' hr2 HZ2 hm2 hb2 hq2l hF2Z hls2s hrw2 hsl2 hrd5 ag5 hsel2 hrow2 hlq2 hls2 zZ5 hne5 gY5 gf5 gd5 zY5 bY5 b3Z gfZ gin gdZ r2p r2q hF2 HG4 b5 s5 hp2 hq2 hc21 hc22 s34 hY5 hZ5
   go_wp2_with (first
    | (refine wpList_store_mid (by rfl) 39 _ _ (by rfl) (w3.heap.size + 1) 0 #[.int .i64 0, .slice fa2 fn2 fc2, .slice none 0 0] (by rfl) (by rfl) (by rw [← unhide HYY]; exact HT5) infoFl (dt.one_cells (cs := [.int .i64 0, .slice fa2 fn2 fc2, .slice none 0 0]) (by rfl)) ?_; rw [← unhide HYY, ← unhide HZY]))
   obtain ⟨V5, hV5⟩ : ∃ V, V = Z5.alloc (.cells #[.int .i64 1, .string ⟨#[107]⟩, .string ⟨#[119]⟩, .string ⟨#[]⟩, .slice i1 0 j1, .slice i2 0 j2, .slice i3 m2 j3, .int .i64 ua1, .int .i64 ub1] 57) := ⟨_, rfl⟩
   have bV5 : Below Z5.heap.size Z5 V5 := by rw [hV5]; exact (Below.refl _ _).alloc (Nat.le_refl _) _
   have gV5 : V5.heap[Z5.heap.size]? = some (.cells #[.int .i64 1, .string ⟨#[107]⟩, .string ⟨#[119]⟩, .string ⟨#[]⟩, .slice i1 0 j1, .slice i2 0 j2, .slice i3 m2 j3, .int .i64 ua1, .int .i64 ub1] 57 (0, 0)) := by rw [hV5]; exact heap_alloc_new _ _
   have zV5 : Z5.heap.size + 1 ≤ V5.heap.size := by rw [hV5]; simp
   rw [← hV5]
   clear hV5
   obtain ⟨b3Z, gfZ, gin, gdZ⟩ := unhide HB5
   have b3V := b3Z.trans (bV5.mono b3Z.size)
   have C0 : V5.cell? ⟨Z5.heap.size, 0, none⟩ = some (.int .i64 1) := (dt.cell_cells gV5 0).trans rfl
   have C1 : V5.cell? ⟨Z5.heap.size, 1, none⟩ = some (.string ⟨#[107]⟩) := (dt.cell_cells gV5 1).trans rfl
   have C2 : V5.cell? ⟨Z5.heap.size, 2, none⟩ = some (.string ⟨#[119]⟩) := (dt.cell_cells gV5 2).trans rfl
   have C6 : V5.cell? ⟨Z5.heap.size, 6, none⟩ = some (.slice i3 m2 j3) := (dt.cell_cells gV5 6).trans rfl
   have Cd : V5.cell? ⟨w3.heap.size, 0, none⟩ = some (.slice (some ⟨pd, od, none⟩) 1 c1) := (bV5.cell (p := ⟨w3.heap.size, 0, none⟩) (show w3.heap.size < Z5.heap.size by omega)).trans u0
   have Cx : V5.cell? ⟨pd, od + 6, none⟩ = some (.slice d3 nss e3) := (bV5.cell (p := ⟨pd, od + 6, none⟩) (show pd < Z5.heap.size by omega)).trans x6
   have L0 : Z5.heap.size < V5.heap.size := by omega
   have L1 : w3.heap.size < V5.heap.size := by omega
   have L2 : pd < V5.heap.size := by omega
   have hC := fun W (bW : Below V5.heap.size V5 W) => sels_f ff ff s2 ss (unhide HD2).2 W i3 d3 j3 e3 F2 F1 (((unhide HL2).1.below (unhide HL2).2.1 bV5).below (fun b hb => Nat.lt_of_lt_of_le ((unhide HL2).2.1 b hb) bV5.size) bW) (((unhide HSd).1.below (fun b hb => ((unhide HSd).2.1 b hb).2) b3V).below (fun b hb => Nat.lt_of_lt_of_le ((unhide HSd).2.1 b hb).2 b3V.size) bW) (fun b hb => Nat.lt_of_lt_of_le (Nat.lt_of_lt_of_le ((unhide HL2).2.1 b hb) bV5.size) bW.size) (fun b hb => Nat.lt_of_lt_of_le (Nat.lt_of_lt_of_le ((unhide HSd).2.1 b hb).2 b3V.size) bW.size) (by rw [← (unhide HL2).2.2.2]; exact (unhide HL2).2.2.1.1) (by rw [← (unhide HSd).2.2.2]; exact (unhide HSd).2.2.1.1) (unhide HL2).2.2.1.2 (unhide HSd).2.2.1.2
   rw [← (unhide HL2).2.2.2, ← (unhide HSd).2.2.2] at hC
   have HC := hide hC
   clear hC
   have hS0 : Below V5.heap.size V5 { V5 with drawn := V5.drawn + 1 } := (Below.refl _ _).drew
   refine wp_region_noPanic ?_
   refine wp_region_held (S := fun w' => Below V5.heap.size V5 w') mixed ?_
   refine rgn.tl (i := 0) (v := ?v1) rfl (by kernel_rfl) (fun _ _ _ h => h) (by rfl) ?hy1 hS0 ?_
   case hy1 => (intro w' hw'; go_simp; try with_reducible rfl)
   simp only [rgn.l1, rgn.l2, rgn.l3, Act.put, rgn.l4, rgn.l5, rgn.l6]
   refine rgn.tl (i := 1) (v := ?v2) rfl (by kernel_rfl) (fun _ _ _ h => h) (by rfl) ?hy2 hS0 ?_
   case hy2 => (intro w' hw'; have q0 := (hw'.cell (p := ⟨Z5.heap.size, 0, none⟩) L0).trans C0; go_simp; try with_reducible rfl)
   simp only [rgn.l1, rgn.l2, rgn.l3, Act.put, rgn.l4, rgn.l5, rgn.l6]
   refine rgn.tl (i := 2) (v := ?v3) rfl (by kernel_rfl) (fun _ _ _ h => h) (by rfl) ?hy3 hS0 ?_
   case hy3 => (intro w' hw'; go_simp; try with_reducible rfl)
   simp only [rgn.l1, rgn.l2, rgn.l3, Act.put, rgn.l4, rgn.l5, rgn.l6]
   refine rgn.tl (i := 3) (v := ?v4) rfl (by kernel_rfl) (fun _ _ _ h => h) (by rfl) ?hy4 hS0 ?_
   case hy4 => (intro w' hw'; go_simp; try with_reducible rfl)
   simp only [rgn.l1, rgn.l2, rgn.l3, Act.put, rgn.l4, rgn.l5, rgn.l6]
   refine rgn.tl (i := 4) (v := ?v5) rfl (by kernel_rfl) (fun _ _ _ h => h) (by rfl) ?hy5 hS0 ?_
   case hy5 => (intro w' hw'; go_simp; try with_reducible rfl)
   simp only [rgn.l1, rgn.l2, rgn.l3, Act.put, rgn.l4, rgn.l5, rgn.l6]
   refine rgn.tl (i := 5) (v := ?v6) rfl (by kernel_rfl) (fun _ _ _ h => h) (by rfl) ?hy6 hS0 ?_
   case hy6 => (intro w' hw'; have q0 := (hw'.cell (p := ⟨Z5.heap.size, 1, none⟩) L0).trans C1; go_simp; try with_reducible rfl)
   simp only [rgn.l1, rgn.l2, rgn.l3, Act.put, rgn.l4, rgn.l5, rgn.l6]
   refine rgn.tl (i := 6) (v := ?v7) rfl (by kernel_rfl) (fun _ _ _ h => h) (by rfl) ?hy7 hS0 ?_
   case hy7 => (intro w' hw'; go_simp; try with_reducible rfl)
   simp only [rgn.l1, rgn.l2, rgn.l3, Act.put, rgn.l4, rgn.l5, rgn.l6]
   refine rgn.tl (i := 7) (v := ?v8) rfl (by kernel_rfl) (fun _ _ _ h => h) (by rfl) ?hy8 hS0 ?_
   case hy8 => (intro w' hw'; go_simp; try with_reducible rfl)
   simp only [rgn.l1, rgn.l2, rgn.l3, Act.put, rgn.l4, rgn.l5, rgn.l6]
   refine rgn.tl (i := 8) (v := ?v9) rfl (by kernel_rfl) (fun _ _ _ h => h) (by rfl) ?hy9 hS0 ?_
   case hy9 => (intro w' hw'; go_simp; try with_reducible rfl)
   simp only [rgn.l1, rgn.l2, rgn.l3, Act.put, rgn.l4, rgn.l5, rgn.l6]
   refine rgn.tl (i := 9) (v := ?v10) rfl (by kernel_rfl) (fun _ _ _ h => h) (by rfl) ?hy10 hS0 ?_
   case hy10 => (intro w' hw'; go_simp; try with_reducible rfl)
   simp only [rgn.l1, rgn.l2, rgn.l3, Act.put, rgn.l4, rgn.l5, rgn.l6]
   refine rgn.tl (i := 10) (v := ?v11) rfl (by kernel_rfl) (fun _ _ _ h => h) (by rfl) ?hy11 hS0 ?_
   case hy11 => (intro w' hw'; have q0 := (hw'.cell (p := ⟨Z5.heap.size, 2, none⟩) L0).trans C2; go_simp; try with_reducible rfl)
   simp only [rgn.l1, rgn.l2, rgn.l3, Act.put, rgn.l4, rgn.l5, rgn.l6]
   refine rgn.tl (i := 11) (v := ?v12) rfl (by kernel_rfl) (fun _ _ _ h => h) (by rfl) ?hy12 hS0 ?_
   case hy12 => (intro w' hw'; go_simp; try with_reducible rfl)
   simp only [rgn.l1, rgn.l2, rgn.l3, Act.put, rgn.l4, rgn.l5, rgn.l6]
   refine rgn.tl (i := 12) (v := ?v13) rfl (by kernel_rfl) (fun _ _ _ h => h) (by rfl) ?hy13 hS0 ?_
   case hy13 => (intro w' hw'; go_simp; try with_reducible rfl)
   simp only [rgn.l1, rgn.l2, rgn.l3, Act.put, rgn.l4, rgn.l5, rgn.l6]
   refine rgn.tl (i := 13) (v := ?v14) rfl (by kernel_rfl) (fun _ _ _ h => h) (by rfl) ?hy14 hS0 ?_
   case hy14 => (intro w' hw'; go_simp; try with_reducible rfl)
   simp only [rgn.l1, rgn.l2, rgn.l3, Act.put, rgn.l4, rgn.l5, rgn.l6]
   refine rgn.tl (i := 14) (v := ?v15) rfl (by kernel_rfl) (fun _ _ _ h => h) (by rfl) ?hy15 hS0 ?_
   case hy15 => (intro w' hw'; go_simp; try with_reducible rfl)
   simp only [rgn.l1, rgn.l2, rgn.l3, Act.put, rgn.l4, rgn.l5, rgn.l6]
   refine rgn.tl (i := 15) (v := ?v16) rfl (by kernel_rfl) (fun _ _ _ h => h) (by rfl) ?hy16 hS0 ?_
   case hy16 => (intro w' hw'; have q0 := (hw'.cell (p := ⟨Z5.heap.size, 6, none⟩) L0).trans C6; go_simp; try with_reducible rfl)
   simp only [rgn.l1, rgn.l2, rgn.l3, Act.put, rgn.l4, rgn.l5, rgn.l6]
   refine rgn.tl (i := 16) (v := ?v17) rfl (by kernel_rfl) (fun _ _ _ h => h) (by rfl) ?hy17 hS0 ?_
   case hy17 => (intro w' hw'; go_simp; try with_reducible rfl)
   simp only [rgn.l1, rgn.l2, rgn.l3, Act.put, rgn.l4, rgn.l5, rgn.l6]
   refine rgn.tl (i := 17) (v := ?v18) rfl (by kernel_rfl) (fun _ _ _ h => h) (by rfl) ?hy18 hS0 ?_
   case hy18 => (intro w' hw'; have q0 := (hw'.cell (p := ⟨w3.heap.size, 0, none⟩) L1).trans Cd; go_simp; try with_reducible rfl)
   simp only [rgn.l1, rgn.l2, rgn.l3, Act.put, rgn.l4, rgn.l5, rgn.l6]
   refine rgn.tl (i := 18) (v := ?v19) rfl (by kernel_rfl) (fun _ _ _ h => h) (by rfl) ?hy19 hS0 ?_
   case hy19 => (intro w' hw'; go_simp; try with_reducible rfl)
   simp only [rgn.l1, rgn.l2, rgn.l3, Act.put, rgn.l4, rgn.l5, rgn.l6]
   refine rgn.tl (i := 19) (v := ?v20) rfl (by kernel_rfl) (fun _ _ _ h => h) (by rfl) ?hy20 hS0 ?_
   case hy20 => (intro w' hw'; go_simp; try with_reducible rfl)
   simp only [rgn.l1, rgn.l2, rgn.l3, Act.put, rgn.l4, rgn.l5, rgn.l6]
   refine rgn.tl (i := 20) (v := ?v21) rfl (by kernel_rfl) (fun _ _ _ h => h) (by rfl) ?hy21 hS0 ?_
   case hy21 => (intro w' hw'; have q0 := (hw'.cell (p := ⟨pd, od + 6, none⟩) L2).trans Cx; go_simp; try with_reducible rfl)
   simp only [rgn.l1, rgn.l2, rgn.l3, Act.put, rgn.l4, rgn.l5, rgn.l6]
   refine rgn.one (i := 21) _ rfl (by kernel_rfl) (by rfl) ?_
   try simp only [rgn.l1, rgn.l2, rgn.l3, Act.put, rgn.l4, rgn.l5, rgn.l6]
   refine rgn.call_wp _ _ _ _ rfl Tryz.func13 (by kernel_rfl) (by kernel_rfl) #[.slice i3 m2 j3, .slice d3 nss e3, .bool false] (by first | kernel_rfl | (simp only [List.map_toArray, List.map_cons, List.map_nil]; rfl)) ?_
   refine ((unhide HC) _ hS0).mono ?_
   rintro e9 w6 ⟨rfl, b6⟩
   have hS6 := hS0.trans (b6.mono hS0.size)
   refine ⟨_, rfl, hS6, ?_⟩
   clear hS0 b6
   have hS0 := hS6
   try simp only [rgn.l1, rgn.l2, rgn.l3, Act.put, rgn.l4, rgn.l5, rgn.l6]
   refine rgn.tl (i := 22) (v := ?v22) rfl (by kernel_rfl) (fun _ _ _ h => h) (by rfl) ?hy22 hS0 ?_
   case hy22 => (intro w' hw'; go_simp; try with_reducible rfl)
   simp only [rgn.l1, rgn.l2, rgn.l3, Act.put, rgn.l4, rgn.l5, rgn.l6]
   refine rgn.tl (i := 23) (v := ?v23) rfl (by kernel_rfl) (fun _ _ _ h => h) (by rfl) ?hy23 hS0 ?_
   case hy23 => (intro w' hw'; go_simp; try with_reducible rfl)
   simp only [rgn.l1, rgn.l2, rgn.l3, Act.put, rgn.l4, rgn.l5, rgn.l6]
   refine wpAnyH_done (by kernel_rfl) ?_ _; refine NoPanic.normal ?_
   have gin6 := (hS6.block _ (by omega)).trans ((bV5.block _ (by omega)).trans gin)
   have gf6 := (hS6.block _ (by omega)).trans ((bV5.block _ (by omega)).trans gfZ)
   have gd6 := (hS6.block _ (by omega)).trans ((bV5.block _ (by omega)).trans gdZ)
   have gw6 := (hS6.block _ L0).trans gV5
   have b36 := b3V.trans (hS6.mono b3V.size)
   have z6 := hS6.size
   have zz6 : w5.heap.size < Z5.heap.size ∧ Z5.heap.size < w6.heap.size := by omega
   obtain ⟨N5, hN5⟩ : ∃ n, n = Z5.heap.size := ⟨_, rfl⟩
   rw [← hN5] at gw6 zz6 ⊢
   have HG6 := hide (And.intro gin6 (And.intro gf6 (And.intro gd6 (And.intro gw6 b36))))
   clear C0 C1 C2 C6 Cd Cx L0 L1 L2 HC hS0 hS6 gin6 gf6 gd6 gw6 b36 b3V bV5 gV5 zV5 b3Z gfZ gin gdZ f0 t0 u0 v6 y0 y1 y2 y3 y4 y5 y6 y7 y8 x6 HL2 HB5 HF5 HZY HYY HD2 q2Z p2Z HT5 z5Z z6 hN5
   obtain ⟨S3, hS3⟩ : ∃ S, S = (⟨#[123, 46, 46, 46, 111, 110, 32, 84, 123]⟩ : ByteArray) ++ s ++ ⟨#[10, 125, 125]⟩ := ⟨_, rfl⟩
   have z3 : mem.bytesZ S3 = P3 ++ [123] ++ mem.bytesZ s ++ [10, 125, 125] := by rw [hS3]; exact src_bytes [123, 46, 46, 46, 111, 110, 32, 84, 123] [10, 125, 125] s
   have l3 : S3.size ≤ 1048600 := by rw [hS3, size_app, size_app]; show 9 + s.size + 3 ≤ _; omega
   obtain ⟨cap7, W7, hc7, hrow7, b7⟩ := (unhide hcv) S3 w6
   have hP7 := hide ((unhide hPa) S3 (d + 1) W7 _ _ _ hw2 hrow7 (by omega))
   have hc7' : (convert 9 22 (.string ((⟨#[123, 46, 46, 46, 111, 110, 32, 84, 123]⟩ : ByteArray) ++ s ++ ⟨#[10, 125, 125]⟩))).run Tryz.prog w6 = .ok (.slice (some ⟨w6.heap.size, 0, none⟩) S3.size cap7) W7 := by rw [← hS3]; exact hc7
   have HZ3 := hide z3
   have s7 := b7.size
   clear hrow7 hc7 hS3 z3
   go_wp2_with fail
   refine (unhide hP7).mono ?_
   rintro e w8 ⟨sl, fs, rfl, hpp, b8⟩
   obtain ⟨a3, n3, c3, K3, fa3, fn3, fc3, rfl, rfl, hq3⟩ := par_formr (show ParPost (docG (mem.bytesZ S3) (d + 1)) W7.heap.size w8 sl fs from hpp)
   rw [unhide HZ3] at hq3
   rcases hq3 with ⟨hx, _⟩ | ⟨ll, F3, hr3, hK3, hn3, hls3, hF3, hc31, hc32⟩
   ·rw [(unhide HD3).1] at hx; cases hx
   obtain rfl := Option.some.inj ((unhide HD3).1.symm.trans hr3)
   subst hK3
   obtain rfl : n3 = 1 := hn3
   obtain ⟨p3, o3, g1, h1, g2, h2, g3, h3', rfl, hp3, hrow3, _, hlq3⟩ := one_def hls3
   obtain ⟨q3, r3, i1, j1, i2, j2, i3, j3, rfl, hq3, hsel3, hb3, hls3s⟩ := one_sel hlq3
   obtain ⟨m3, hm3⟩ : ∃ n, n = s3.length := ⟨_, rfl⟩
   rw [← hm3] at hsel3 hb3
   have s8 := b8.size
   obtain ⟨gin6, gf6, gd6, gw6, b36⟩ := unhide HG6
   have b68 := b7.trans (b8.mono b7.size)
   have gi8 := (b68.block _ (by omega)).trans gin6
   have gf8 := (b68.block _ (by omega)).trans gf6
   have gd8 := (b68.block _ (by omega)).trans gd6
   have gw8 := (b68.block _ (by omega)).trans gw6
   have HT8 : w8.there w5.heap.size 0 1 := dt.there_cells gi8 (Nat.le_refl 1)
   obtain ⟨Y8, hY8⟩ : ∃ Z, Z = w8.setCells w5.heap.size 0 [.slice (some ⟨p3, o3, none⟩) 1 c3] := ⟨_, rfl⟩
   have ne1 : ∀ b, b ≠ w5.heap.size → Y8.heap[b]? = w8.heap[b]? := fun b hb => by rw [hY8]; exact dt.heap_setCells _ _ hb _ _ _
   have giY : Y8.heap[w5.heap.size]? = some (.cells #[.slice (some ⟨p3, o3, none⟩) 1 c3] 34 (0, 0)) := by rw [hY8]; exact (dt.setCells_at _ 0 w8 _ gi8).trans (by rfl)
   have zY8 : Y8.heap.size = w8.heap.size := by rw [hY8]; exact dt.size_setCells _ _ _ _
   have gfY := (ne1 _ (by omega)).trans gf8
   have HT8' : Y8.there (w3.heap.size + 1) 0 3 := dt.there_cells gfY (Nat.le_refl 3)
   obtain ⟨Z8, hZ8⟩ : ∃ Z, Z = Y8.setCells (w3.heap.size + 1) 0 [.int .i64 0, .slice fa3 fn3 fc3, .slice none 0 0] := ⟨_, rfl⟩
   have ne2 : ∀ b, b ≠ w3.heap.size + 1 → Z8.heap[b]? = Y8.heap[b]? := fun b hb => by rw [hZ8]; exact dt.heap_setCells _ _ hb _ _ _
   have gfZ : Z8.heap[w3.heap.size + 1]? = some (.cells #[.int .i64 0, .slice fa3 fn3 fc3, .slice none 0 0] 39 (0, 0)) := by rw [hZ8]; exact (dt.setCells_at _ 0 Y8 _ gfY).trans (by rfl)
   have zZ8 : Z8.heap.size = Y8.heap.size := by rw [hZ8]; exact dt.size_setCells _ _ _ _
   have b38 := b36.trans (b68.mono b36.size)
   have b3Z : Below w3.heap.size w3 Z8 := by rw [hZ8]; exact dt.below_setCells _ _ _ _ (by rw [hY8]; exact dt.below_setCells _ _ _ _ b38 (by omega)) (Nat.le_succ _)
   have giZ := (ne2 _ (by omega)).trans giY
   have gdZ := (ne2 _ (by omega)).trans ((ne1 _ (by omega)).trans gd8)
   have gwZ := (ne2 _ (by omega)).trans ((ne1 _ (by omega)).trans gw8)
   have HTw : Z8.there N5 0 9 := dt.there_cells gwZ (Nat.le_refl 9)
   obtain ⟨V8, hV8⟩ : ∃ Z, Z = Z8.setCells N5 0 [.int .i64 3, .string ⟨#[]⟩, .string ⟨#[]⟩, .string ⟨#[84]⟩, .slice i1 0 j1, .slice i2 0 j2, .slice i3 m3 j3, .int .i64 va1, .int .i64 vb1] := ⟨_, rfl⟩
   have ne3 : ∀ b, b ≠ N5 → V8.heap[b]? = Z8.heap[b]? := fun b hb => by rw [hV8]; exact dt.heap_setCells _ _ hb _ _ _
   have gwV : V8.heap[N5]? = some (.cells #[.int .i64 3, .string ⟨#[]⟩, .string ⟨#[]⟩, .string ⟨#[84]⟩, .slice i1 0 j1, .slice i2 0 j2, .slice i3 m3 j3, .int .i64 va1, .int .i64 vb1] 57 (0, 0)) := by rw [hV8]; exact (dt.setCells_at _ 0 Z8 _ gwZ).trans (by kernel_rfl)
   have zV8 : V8.heap.size = Z8.heap.size := by rw [hV8]; exact dt.size_setCells _ _ _ _
   have b3V : Below w3.heap.size w3 V8 := by rw [hV8]; exact dt.below_setCells _ _ _ _ b3Z (by omega)
   have giV := (ne3 _ (by omega)).trans giZ
   have gdV := (ne3 _ (by omega)).trans gdZ
   have gfV := (ne3 _ (by omega)).trans gfZ
   have agZ : dt.Agree F3 w8 Z8 := fun b hb o => dt.cell_blk ((ne2 b (by have := (hF3 b hb).1; omega)).trans (ne1 b (by have := (hF3 b hb).1; omega))) o
   have agV : dt.Agree F3 w8 V8 := fun b hb o => (dt.cell_blk (ne3 b (by have := (hF3 b hb).1; omega)) o).trans (agZ b hb o)
   have hrwZ := hrow3.agree hp3 agZ
   have hslZ := hsel3.agree hq3 agZ
   have f0 : Z8.cell? ⟨w3.heap.size + 1, 0, none⟩ = some (.int .i64 0) := (dt.cell_cells gfZ 0).trans rfl
   have t0 : Z8.cell? ⟨w5.heap.size, 0, none⟩ = some (.slice (some ⟨p3, o3, none⟩) 1 c3) := (dt.cell_cells giZ 0).trans rfl
   have v6 : Z8.cell? ⟨p3, o3 + 6, none⟩ = some (.slice (some ⟨q3, r3, none⟩) 1 h3') := hrwZ 6 _ rfl
   have y0 : Z8.cell? ⟨q3, r3, none⟩ = some (.int .i64 3) := hslZ 0 _ rfl
   have y1 : Z8.cell? ⟨q3, r3 + 1, none⟩ = some (.string ⟨#[]⟩) := hslZ 1 _ rfl
   have y2 : Z8.cell? ⟨q3, r3 + 2, none⟩ = some (.string ⟨#[]⟩) := hslZ 2 _ rfl
   have y3 : Z8.cell? ⟨q3, r3 + 3, none⟩ = some (.string ⟨#[84]⟩) := hslZ 3 _ rfl
   have y4 : Z8.cell? ⟨q3, r3 + 4, none⟩ = some (.slice i1 0 j1) := hslZ 4 _ rfl
   have y5 : Z8.cell? ⟨q3, r3 + 5, none⟩ = some (.slice i2 0 j2) := hslZ 5 _ rfl
   have y6 : Z8.cell? ⟨q3, r3 + 6, none⟩ = some (.slice i3 m3 j3) := hslZ 6 _ rfl
   have y7 : Z8.cell? ⟨q3, r3 + 7, none⟩ = some (.int .i64 va1) := hslZ 7 _ rfl
   have y8 : Z8.cell? ⟨q3, r3 + 8, none⟩ = some (.int .i64 vb1) := hslZ 8 _ rfl
   have hF3V : ∀ b ∈ F3, b < V8.heap.size := fun b hb => by have := (hF3 b hb).2; omega
   have HL3 := hide (And.intro (hls3s.agree agV) (And.intro hF3V (And.intro hb3 hm3)))
   have HB8 := hide (And.intro b3V (And.intro giV (And.intro gdV (And.intro gfV gwV))))
   have HRV := hide ((unhide HRD).below b3V)
   have HY8 := hide hY8
   have HZ8 := hide hZ8
   have HV8 := hide hV8
   have q8 : w3.heap.size + 2 ≤ w5.heap.size ∧ w5.heap.size < N5 ∧ N5 < V8.heap.size := by omega
   clear hpp hP7 hc7' hr3 HZ3 hm3 hb3 hF3V hls3s hrwZ hslZ agZ agV hsel3 hrow3 hlq3 hls3 ne1 ne2 ne3 zY8 zZ8 zV8 giY gfY gfZ giZ gdZ gwZ gwV giV gdV gfV gi8 gf8 gd8 gw8 b3Z b3V b38 b68 b36 gin6 gf6 gd6 gw6 HG6 b7 b8 s7 s8 hF3 hp3 hq3 hc31 hc32 hY8 hZ8 hV8 zz6
   go_wp2_with (first
    | (refine wpList_store_mid (by rfl) 34 _ _ (by rfl) w5.heap.size 0 #[.slice (some ⟨p3, o3, none⟩) 1 c3] (by rfl) (by rfl) HT8 infoDoc (dt.one_cells (cs := [.slice (some ⟨p3, o3, none⟩) 1 c3]) (by rfl)) ?_; rw [← unhide HY8])
    | (refine wpList_store_mid (by rfl) 39 _ _ (by rfl) (w3.heap.size + 1) 0 #[.int .i64 0, .slice fa3 fn3 fc3, .slice none 0 0] (by rfl) (by rfl) HT8' infoFl (dt.one_cells (cs := [.int .i64 0, .slice fa3 fn3 fc3, .slice none 0 0]) (by rfl)) ?_; rw [← unhide HZ8])
    | (refine wpList_store_mid (by rfl) 57 _ _ (by rfl) N5 0 #[.int .i64 3, .string ⟨#[]⟩, .string ⟨#[]⟩, .string ⟨#[84]⟩, .slice i1 0 j1, .slice i2 0 j2, .slice i3 m3 j3, .int .i64 va1, .int .i64 vb1] (by rfl) (by rfl) HTw infoSel9 (dt.one_cells (cs := [.int .i64 3, .string ⟨#[]⟩, .string ⟨#[]⟩, .string ⟨#[84]⟩, .slice i1 0 j1, .slice i2 0 j2, .slice i3 m3 j3, .int .i64 va1, .int .i64 vb1]) (by rfl)) ?_; rw [← unhide HV8]))
   obtain ⟨b3V, giV, gdV, gfV, gwV⟩ := unhide HB8
   have C0 : V8.cell? ⟨N5, 0, none⟩ = some (.int .i64 3) := (dt.cell_cells gwV 0).trans rfl
   have C3 : V8.cell? ⟨N5, 3, none⟩ = some (.string ⟨#[84]⟩) := (dt.cell_cells gwV 3).trans rfl
   have C6 : V8.cell? ⟨N5, 6, none⟩ = some (.slice i3 m3 j3) := (dt.cell_cells gwV 6).trans rfl
   have Cd : V8.cell? ⟨w3.heap.size, 0, none⟩ = some (.slice (some ⟨pd, od, none⟩) 1 c1) := (dt.cell_cells gdV 0).trans rfl
   have Cx : V8.cell? ⟨pd, od + 6, none⟩ = some (.slice d3 nss e3) := (unhide HRV) 6 _ rfl
   have L0 : N5 < V8.heap.size := q8.2.2
   have L1 : w3.heap.size < V8.heap.size := by omega
   have L2 : pd < V8.heap.size := by omega
   have hC := fun W (bW : Below V8.heap.size V8 W) => sels_f ff ff s3 ss (unhide HD3).2 W i3 d3 j3 e3 F3 F1 ((unhide HL3).1.below (unhide HL3).2.1 bW) (((unhide HSd).1.below (fun b hb => ((unhide HSd).2.1 b hb).2) b3V).below (fun b hb => Nat.lt_of_lt_of_le ((unhide HSd).2.1 b hb).2 b3V.size) bW) (fun b hb => Nat.lt_of_lt_of_le ((unhide HL3).2.1 b hb) bW.size) (fun b hb => Nat.lt_of_lt_of_le (Nat.lt_of_lt_of_le ((unhide HSd).2.1 b hb).2 b3V.size) bW.size) (by rw [← (unhide HL3).2.2.2]; exact (unhide HL3).2.2.1.1) (by rw [← (unhide HSd).2.2.2]; exact (unhide HSd).2.2.1.1) (unhide HL3).2.2.1.2 (unhide HSd).2.2.1.2
   rw [← (unhide HL3).2.2.2, ← (unhide HSd).2.2.2] at hC
   have HC := hide hC
   clear hC
   have hS0 : Below V8.heap.size V8 { V8 with drawn := V8.drawn + 1 } := (Below.refl _ _).drew
   refine wp_region_noPanic ?_
   refine wp_region_held (S := fun w' => Below V8.heap.size V8 w') mixed ?_
   refine rgn.tl (i := 0) (v := ?v24) rfl (by kernel_rfl) (fun _ _ _ h => h) (by rfl) ?hy24 hS0 ?_
   case hy24 => (intro w' hw'; go_simp; try with_reducible rfl)
   simp only [rgn.l1, rgn.l2, rgn.l3, Act.put, rgn.l4, rgn.l5, rgn.l6]
   refine rgn.tl (i := 1) (v := ?v25) rfl (by kernel_rfl) (fun _ _ _ h => h) (by rfl) ?hy25 hS0 ?_
   case hy25 => (intro w' hw'; have q0 := (hw'.cell (p := ⟨N5, 0, none⟩) L0).trans C0; go_simp; try with_reducible rfl)
   simp only [rgn.l1, rgn.l2, rgn.l3, Act.put, rgn.l4, rgn.l5, rgn.l6]
   refine rgn.tl (i := 2) (v := ?v26) rfl (by kernel_rfl) (fun _ _ _ h => h) (by rfl) ?hy26 hS0 ?_
   case hy26 => (intro w' hw'; go_simp; try with_reducible rfl)
   simp only [rgn.l1, rgn.l2, rgn.l3, Act.put, rgn.l4, rgn.l5, rgn.l6]
   refine rgn.tl (i := 3) (v := ?v27) rfl (by kernel_rfl) (fun _ _ _ h => h) (by rfl) ?hy27 hS0 ?_
   case hy27 => (intro w' hw'; go_simp; try with_reducible rfl)
   simp only [rgn.l1, rgn.l2, rgn.l3, Act.put, rgn.l4, rgn.l5, rgn.l6]
   refine rgn.tl (i := 4) (v := ?v28) rfl (by kernel_rfl) (fun _ _ _ h => h) (by rfl) ?hy28 hS0 ?_
   case hy28 => (intro w' hw'; go_simp; try with_reducible rfl)
   simp only [rgn.l1, rgn.l2, rgn.l3, Act.put, rgn.l4, rgn.l5, rgn.l6]
   refine rgn.tl (i := 5) (v := ?v29) rfl (by kernel_rfl) (fun _ _ _ h => h) (by rfl) ?hy29 hS0 ?_
   case hy29 => (intro w' hw'; have q0 := (hw'.cell (p := ⟨N5, 3, none⟩) L0).trans C3; go_simp; try with_reducible rfl)
   simp only [rgn.l1, rgn.l2, rgn.l3, Act.put, rgn.l4, rgn.l5, rgn.l6]
   refine rgn.tl (i := 6) (v := ?v30) rfl (by kernel_rfl) (fun _ _ _ h => h) (by rfl) ?hy30 hS0 ?_
   case hy30 => (intro w' hw'; go_simp; try with_reducible rfl)
   simp only [rgn.l1, rgn.l2, rgn.l3, Act.put, rgn.l4, rgn.l5, rgn.l6]
   refine rgn.tl (i := 7) (v := ?v31) rfl (by kernel_rfl) (fun _ _ _ h => h) (by rfl) ?hy31 hS0 ?_
   case hy31 => (intro w' hw'; go_simp; try with_reducible rfl)
   simp only [rgn.l1, rgn.l2, rgn.l3, Act.put, rgn.l4, rgn.l5, rgn.l6]
   refine rgn.tl (i := 8) (v := ?v32) rfl (by kernel_rfl) (fun _ _ _ h => h) (by rfl) ?hy32 hS0 ?_
   case hy32 => (intro w' hw'; go_simp; try with_reducible rfl)
   simp only [rgn.l1, rgn.l2, rgn.l3, Act.put, rgn.l4, rgn.l5, rgn.l6]
   refine rgn.tl (i := 9) (v := ?v33) rfl (by kernel_rfl) (fun _ _ _ h => h) (by rfl) ?hy33 hS0 ?_
   case hy33 => (intro w' hw'; go_simp; try with_reducible rfl)
   simp only [rgn.l1, rgn.l2, rgn.l3, Act.put, rgn.l4, rgn.l5, rgn.l6]
   refine rgn.tl (i := 10) (v := ?v34) rfl (by kernel_rfl) (fun _ _ _ h => h) (by rfl) ?hy34 hS0 ?_
   case hy34 => (intro w' hw'; have q0 := (hw'.cell (p := ⟨N5, 6, none⟩) L0).trans C6; go_simp; try with_reducible rfl)
   simp only [rgn.l1, rgn.l2, rgn.l3, Act.put, rgn.l4, rgn.l5, rgn.l6]
   refine rgn.tl (i := 11) (v := ?v35) rfl (by kernel_rfl) (fun _ _ _ h => h) (by rfl) ?hy35 hS0 ?_
   case hy35 => (intro w' hw'; go_simp; try with_reducible rfl)
   simp only [rgn.l1, rgn.l2, rgn.l3, Act.put, rgn.l4, rgn.l5, rgn.l6]
   refine rgn.tl (i := 12) (v := ?v36) rfl (by kernel_rfl) (fun _ _ _ h => h) (by rfl) ?hy36 hS0 ?_
   case hy36 => (intro w' hw'; have q0 := (hw'.cell (p := ⟨w3.heap.size, 0, none⟩) L1).trans Cd; go_simp; try with_reducible rfl)
   simp only [rgn.l1, rgn.l2, rgn.l3, Act.put, rgn.l4, rgn.l5, rgn.l6]
   refine rgn.tl (i := 13) (v := ?v37) rfl (by kernel_rfl) (fun _ _ _ h => h) (by rfl) ?hy37 hS0 ?_
   case hy37 => (intro w' hw'; go_simp; try with_reducible rfl)
   simp only [rgn.l1, rgn.l2, rgn.l3, Act.put, rgn.l4, rgn.l5, rgn.l6]
   refine rgn.tl (i := 14) (v := ?v38) rfl (by kernel_rfl) (fun _ _ _ h => h) (by rfl) ?hy38 hS0 ?_
   case hy38 => (intro w' hw'; go_simp; try with_reducible rfl)
   simp only [rgn.l1, rgn.l2, rgn.l3, Act.put, rgn.l4, rgn.l5, rgn.l6]
   refine rgn.tl (i := 15) (v := ?v39) rfl (by kernel_rfl) (fun _ _ _ h => h) (by rfl) ?hy39 hS0 ?_
   case hy39 => (intro w' hw'; have q0 := (hw'.cell (p := ⟨pd, od + 6, none⟩) L2).trans Cx; go_simp; try with_reducible rfl)
   simp only [rgn.l1, rgn.l2, rgn.l3, Act.put, rgn.l4, rgn.l5, rgn.l6]
   refine rgn.one (i := 16) _ rfl (by kernel_rfl) (by rfl) ?_
   try simp only [rgn.l1, rgn.l2, rgn.l3, Act.put, rgn.l4, rgn.l5, rgn.l6]
   refine rgn.call_wp _ _ _ _ rfl Tryz.func13 (by kernel_rfl) (by kernel_rfl) #[.slice i3 m3 j3, .slice d3 nss e3, .bool false] (by first | kernel_rfl | (simp only [List.map_toArray, List.map_cons, List.map_nil]; rfl)) ?_
   refine ((unhide HC) _ hS0).mono ?_
   rintro e9 w9 ⟨rfl, b9⟩
   have hS9 := hS0.trans (b9.mono hS0.size)
   refine ⟨_, rfl, hS9, ?_⟩
   clear hS0 b9
   have hS0 := hS9
   try simp only [rgn.l1, rgn.l2, rgn.l3, Act.put, rgn.l4, rgn.l5, rgn.l6]
   refine rgn.tl (i := 17) (v := ?v40) rfl (by kernel_rfl) (fun _ _ _ h => h) (by rfl) ?hy40 hS0 ?_
   case hy40 => (intro w' hw'; go_simp; try with_reducible rfl)
   simp only [rgn.l1, rgn.l2, rgn.l3, Act.put, rgn.l4, rgn.l5, rgn.l6]
   refine rgn.tl (i := 18) (v := ?v41) rfl (by kernel_rfl) (fun _ _ _ h => h) (by rfl) ?hy41 hS0 ?_
   case hy41 => (intro w' hw'; go_simp; try with_reducible rfl)
   simp only [rgn.l1, rgn.l2, rgn.l3, Act.put, rgn.l4, rgn.l5, rgn.l6]
   refine wpAnyH_done (by kernel_rfl) ?_ _; refine NoPanic.normal ?_
   have gi9 := (hS9.block _ (by omega)).trans giV
   have gf9 := (hS9.block _ (by omega)).trans gfV
   have gd9 := (hS9.block _ (by omega)).trans gdV
   have b39 := b3V.trans (hS9.mono b3V.size)
   have z9 := hS9.size
   have HG9 := hide (And.intro gi9 (And.intro gf9 (And.intro gd9 b39)))
   have zz9 : w5.heap.size < w9.heap.size := by omega
   clear C0 C3 C6 Cd Cx L0 L1 L2 HC hS0 hS9 gi9 gf9 gd9 b39 b3V giV gdV gfV gwV f0 t0 v6 y0 y1 y2 y3 y4 y5 y6 y7 y8 HL3 HB8 HRV HY8 HZ8 HV8 HD3 HT8 HT8' HTw z9 q8
   obtain ⟨S4, hS4⟩ : ∃ S, S = (⟨#[102, 114, 97, 103, 109, 101, 110, 116, 32, 70, 32, 111, 110, 32, 84, 123]⟩ : ByteArray) ++ s ++ ⟨#[10, 125]⟩ := ⟨_, rfl⟩
   have z4 : mem.bytesZ S4 = P4 ++ [123] ++ mem.bytesZ s ++ [10, 125] := by rw [hS4]; exact src_bytes [102, 114, 97, 103, 109, 101, 110, 116, 32, 70, 32, 111, 110, 32, 84, 123] [10, 125] s
   have l4 : S4.size ≤ 1048600 := by rw [hS4, size_app, size_app]; show 16 + s.size + 2 ≤ _; omega
   obtain ⟨cap10, W10, hc10, hrow10, b10⟩ := (unhide hcv) S4 w9
   have hP10 := hide ((unhide hPa) S4 d W10 _ _ _ hw1 hrow10 (by omega))
   have hc10' : (convert 9 22 (.string ((⟨#[102, 114, 97, 103, 109, 101, 110, 116, 32, 70, 32, 111, 110, 32, 84, 123]⟩ : ByteArray) ++ s ++ ⟨#[10, 125]⟩))).run Tryz.prog w9 = .ok (.slice (some ⟨w9.heap.size, 0, none⟩) S4.size cap10) W10 := by rw [← hS4]; exact hc10
   have HZ4 := hide z4
   have s10 := b10.size
   clear hrow10 hc10 hS4 z4
   go_wp2_with fail
   refine (unhide hP10).mono ?_
   rintro e w11 ⟨sl, fs, rfl, hpp, b11⟩
   obtain ⟨a4, n4, c4, K4, fa4, fn4, fc4, rfl, rfl, hq4⟩ := par_formr (show ParPost (docG (mem.bytesZ S4) d) W10.heap.size w11 sl fs from hpp)
   rw [unhide HZ4] at hq4
   rcases hq4 with ⟨hx, _⟩ | ⟨ll, F4, hr4, hK4, hn4, hls4, hF4, hc41, hc42⟩
   ·rw [(unhide HD4).1] at hx; cases hx
   obtain rfl := Option.some.inj ((unhide HD4).1.symm.trans hr4)
   subst hK4
   obtain rfl : n4 = 1 := hn4
   obtain ⟨p4, o4, i1, j1, i2, j2, i3, j3, rfl, hp4, hrow4, hb4, hls4s⟩ := one_def hls4
   obtain ⟨m4, hm4⟩ : ∃ n, n = s4.length := ⟨_, rfl⟩
   rw [← hm4] at hrow4 hb4
   have s11 := b11.size
   obtain ⟨gi9, gf9, gd9, b39⟩ := unhide HG9
   have b911 := b10.trans (b11.mono b10.size)
   have gi11 := (b911.block _ (by omega)).trans gi9
   have gf11 := (b911.block _ (by omega)).trans gf9
   have gd11 := (b911.block _ (by omega)).trans gd9
   have HT11 : w11.there w5.heap.size 0 1 := dt.there_cells gi11 (Nat.le_refl 1)
   obtain ⟨Y11, hY11⟩ : ∃ Z, Z = w11.setCells w5.heap.size 0 [.slice (some ⟨p4, o4, none⟩) 1 c4] := ⟨_, rfl⟩
   have ne1 : ∀ b, b ≠ w5.heap.size → Y11.heap[b]? = w11.heap[b]? := fun b hb => by rw [hY11]; exact dt.heap_setCells _ _ hb _ _ _
   have giY : Y11.heap[w5.heap.size]? = some (.cells #[.slice (some ⟨p4, o4, none⟩) 1 c4] 34 (0, 0)) := by rw [hY11]; exact (dt.setCells_at _ 0 w11 _ gi11).trans (by rfl)
   have zY11 : Y11.heap.size = w11.heap.size := by rw [hY11]; exact dt.size_setCells _ _ _ _
   have gfY := (ne1 _ (by omega)).trans gf11
   have HT11' : Y11.there (w3.heap.size + 1) 0 3 := dt.there_cells gfY (Nat.le_refl 3)
   obtain ⟨Z11, hZ11⟩ : ∃ Z, Z = Y11.setCells (w3.heap.size + 1) 0 [.int .i64 0, .slice fa4 fn4 fc4, .slice none 0 0] := ⟨_, rfl⟩
   have ne2 : ∀ b, b ≠ w3.heap.size + 1 → Z11.heap[b]? = Y11.heap[b]? := fun b hb => by rw [hZ11]; exact dt.heap_setCells _ _ hb _ _ _
   have gfZ : Z11.heap[w3.heap.size + 1]? = some (.cells #[.int .i64 0, .slice fa4 fn4 fc4, .slice none 0 0] 39 (0, 0)) := by rw [hZ11]; exact (dt.setCells_at _ 0 Y11 _ gfY).trans (by rfl)
   have zZ11 : Z11.heap.size = Y11.heap.size := by rw [hZ11]; exact dt.size_setCells _ _ _ _
   have b311 := b39.trans (b911.mono b39.size)
   have b3Z : Below w3.heap.size w3 Z11 := by rw [hZ11]; exact dt.below_setCells _ _ _ _ (by rw [hY11]; exact dt.below_setCells _ _ _ _ b311 (by omega)) (Nat.le_succ _)
   have giZ := (ne2 _ (by omega)).trans giY
   have gdZ := (ne2 _ (by omega)).trans ((ne1 _ (by omega)).trans gd11)
   have agZ : dt.Agree F4 w11 Z11 := fun b hb o => dt.cell_blk ((ne2 b (by have := (hF4 b hb).1; omega)).trans (ne1 b (by have := (hF4 b hb).1; omega))) o
   have hrwZ := hrow4.agree hp4 agZ
   have f0 : Z11.cell? ⟨w3.heap.size + 1, 0, none⟩ = some (.int .i64 0) := (dt.cell_cells gfZ 0).trans rfl
   have t0 : Z11.cell? ⟨w5.heap.size, 0, none⟩ = some (.slice (some ⟨p4, o4, none⟩) 1 c4) := (dt.cell_cells giZ 0).trans rfl
   have y0 : Z11.cell? ⟨p4, o4, none⟩ = some (.int .i64 4) := hrwZ 0 _ rfl
   have y1 : Z11.cell? ⟨p4, o4 + 1, none⟩ = some (.string ⟨#[70]⟩) := hrwZ 1 _ rfl
   have y2 : Z11.cell? ⟨p4, o4 + 2, none⟩ = some (.string ⟨#[84]⟩) := hrwZ 2 _ rfl
   have y3 : Z11.cell? ⟨p4, o4 + 3, none⟩ = some (.bool false) := hrwZ 3 _ rfl
   have y4 : Z11.cell? ⟨p4, o4 + 4, none⟩ = some (.slice i1 0 j1) := hrwZ 4 _ rfl
   have y5 : Z11.cell? ⟨p4, o4 + 5, none⟩ = some (.slice i2 0 j2) := hrwZ 5 _ rfl
   have y6 : Z11.cell? ⟨p4, o4 + 6, none⟩ = some (.slice i3 m4 j3) := hrwZ 6 _ rfl
   have y7 : Z11.cell? ⟨p4, o4 + 7, none⟩ = some (.int .i64 ta2) := hrwZ 7 _ rfl
   have y8 : Z11.cell? ⟨p4, o4 + 8, none⟩ = some (.int .i64 tb2) := hrwZ 8 _ rfl
   have hF4Z : ∀ b ∈ F4, b < Z11.heap.size := fun b hb => by have := (hF4 b hb).2; omega
   have HL4 := hide (And.intro (hls4s.agree agZ) (And.intro hF4Z (And.intro hb4 hm4)))
   have HB11 := hide (And.intro b3Z (And.intro gdZ ((unhide HRD).below b3Z)))
   have HY11 := hide hY11
   have HZ11 := hide hZ11
   have q11 : w3.heap.size + 2 ≤ w5.heap.size ∧ w5.heap.size < Z11.heap.size := by omega
   clear hpp hP10 hc10' hr4 HZ4 hm4 hb4 hF4Z hls4s hrwZ agZ hrow4 hls4 ne1 ne2 zY11 zZ11 giY gfY gfZ giZ gdZ gi11 gf11 gd11 b3Z b311 b911 b39 gi9 gf9 gd9 HG9 b10 b11 s10 s11 hF4 hp4 hc41 hc42 hY11 hZ11 zz9
   go_wp2_with (first
    | (refine wpList_store_mid (by rfl) 34 _ _ (by rfl) w5.heap.size 0 #[.slice (some ⟨p4, o4, none⟩) 1 c4] (by rfl) (by rfl) HT11 infoDoc (dt.one_cells (cs := [.slice (some ⟨p4, o4, none⟩) 1 c4]) (by rfl)) ?_; rw [← unhide HY11])
    | (refine wpList_store_mid (by rfl) 39 _ _ (by rfl) (w3.heap.size + 1) 0 #[.int .i64 0, .slice fa4 fn4 fc4, .slice none 0 0] (by rfl) (by rfl) HT11' infoFl (dt.one_cells (cs := [.int .i64 0, .slice fa4 fn4 fc4, .slice none 0 0]) (by rfl)) ?_; rw [← unhide HZ11]))
   obtain ⟨V11, hV11⟩ : ∃ V, V = Z11.alloc (.cells #[.int .i64 4, .string ⟨#[70]⟩, .string ⟨#[84]⟩, .bool false, .slice i1 0 j1, .slice i2 0 j2, .slice i3 m4 j3, .int .i64 ta2, .int .i64 tb2] 53) := ⟨_, rfl⟩
   have bV : Below Z11.heap.size Z11 V11 := by rw [hV11]; exact (Below.refl _ _).alloc (Nat.le_refl _) _
   have gV : V11.heap[Z11.heap.size]? = some (.cells #[.int .i64 4, .string ⟨#[70]⟩, .string ⟨#[84]⟩, .bool false, .slice i1 0 j1, .slice i2 0 j2, .slice i3 m4 j3, .int .i64 ta2, .int .i64 tb2] 53 (0, 0)) := by rw [hV11]; exact heap_alloc_new _ _
   have zV : Z11.heap.size + 1 ≤ V11.heap.size := by rw [hV11]; simp
   rw [← hV11]
   clear hV11
   obtain ⟨b3Z, gdZ, hrdZ⟩ := unhide HB11
   have b3V := b3Z.trans (bV.mono b3Z.size)
   have C0 : V11.cell? ⟨Z11.heap.size, 0, none⟩ = some (.int .i64 4) := (dt.cell_cells gV 0).trans rfl
   have C1 : V11.cell? ⟨Z11.heap.size, 1, none⟩ = some (.string ⟨#[70]⟩) := (dt.cell_cells gV 1).trans rfl
   have C2 : V11.cell? ⟨Z11.heap.size, 2, none⟩ = some (.string ⟨#[84]⟩) := (dt.cell_cells gV 2).trans rfl
   have C3 : V11.cell? ⟨Z11.heap.size, 3, none⟩ = some (.bool false) := (dt.cell_cells gV 3).trans rfl
   have C6 : V11.cell? ⟨Z11.heap.size, 6, none⟩ = some (.slice i3 m4 j3) := (dt.cell_cells gV 6).trans rfl
   have Cd : V11.cell? ⟨w3.heap.size, 0, none⟩ = some (.slice (some ⟨pd, od, none⟩) 1 c1) := (bV.cell (p := ⟨w3.heap.size, 0, none⟩) (show w3.heap.size < Z11.heap.size by omega)).trans ((dt.cell_cells gdZ 0).trans rfl)
   have Cx : V11.cell? ⟨pd, od + 6, none⟩ = some (.slice d3 nss e3) := (bV.cell (p := ⟨pd, od + 6, none⟩) (show pd < Z11.heap.size by omega)).trans (hrdZ 6 _ rfl)
   have L0 : Z11.heap.size < V11.heap.size := by omega
   have L1 : w3.heap.size < V11.heap.size := by omega
   have L2 : pd < V11.heap.size := by omega
   have hC := fun W (bW : Below V11.heap.size V11 W) => sels_f ff ff s4 ss (unhide HD4).2 W i3 d3 j3 e3 F4 F1 (((unhide HL4).1.below (unhide HL4).2.1 bV).below (fun b hb => Nat.lt_of_lt_of_le ((unhide HL4).2.1 b hb) bV.size) bW) (((unhide HSd).1.below (fun b hb => ((unhide HSd).2.1 b hb).2) b3V).below (fun b hb => Nat.lt_of_lt_of_le ((unhide HSd).2.1 b hb).2 b3V.size) bW) (fun b hb => Nat.lt_of_lt_of_le (Nat.lt_of_lt_of_le ((unhide HL4).2.1 b hb) bV.size) bW.size) (fun b hb => Nat.lt_of_lt_of_le (Nat.lt_of_lt_of_le ((unhide HSd).2.1 b hb).2 b3V.size) bW.size) (by rw [← (unhide HL4).2.2.2]; exact (unhide HL4).2.2.1.1) (by rw [← (unhide HSd).2.2.2]; exact (unhide HSd).2.2.1.1) (unhide HL4).2.2.1.2 (unhide HSd).2.2.1.2
   rw [← (unhide HL4).2.2.2, ← (unhide HSd).2.2.2] at hC
   have HC := hide hC
   clear hC
   have hS0 : Below V11.heap.size V11 { V11 with drawn := V11.drawn + 1 } := (Below.refl _ _).drew
   refine wp_region_noPanic ?_
   refine wp_region_held (S := fun w' => Below V11.heap.size V11 w') mixed ?_
   refine rgn.tl (i := 0) (v := ?v42) rfl (by kernel_rfl) (fun _ _ _ h => h) (by rfl) ?hy42 hS0 ?_
   case hy42 => (intro w' hw'; go_simp; try with_reducible rfl)
   simp only [rgn.l1, rgn.l2, rgn.l3, Act.put, rgn.l4, rgn.l5, rgn.l6]
   refine rgn.tl (i := 1) (v := ?v43) rfl (by kernel_rfl) (fun _ _ _ h => h) (by rfl) ?hy43 hS0 ?_
   case hy43 => (intro w' hw'; have q0 := (hw'.cell (p := ⟨Z11.heap.size, 0, none⟩) L0).trans C0; go_simp; try with_reducible rfl)
   simp only [rgn.l1, rgn.l2, rgn.l3, Act.put, rgn.l4, rgn.l5, rgn.l6]
   refine rgn.tl (i := 2) (v := ?v44) rfl (by kernel_rfl) (fun _ _ _ h => h) (by rfl) ?hy44 hS0 ?_
   case hy44 => (intro w' hw'; go_simp; try with_reducible rfl)
   simp only [rgn.l1, rgn.l2, rgn.l3, Act.put, rgn.l4, rgn.l5, rgn.l6]
   refine rgn.tl (i := 3) (v := ?v45) rfl (by kernel_rfl) (fun _ _ _ h => h) (by rfl) ?hy45 hS0 ?_
   case hy45 => (intro w' hw'; go_simp; try with_reducible rfl)
   simp only [rgn.l1, rgn.l2, rgn.l3, Act.put, rgn.l4, rgn.l5, rgn.l6]
   refine rgn.tl (i := 4) (v := ?v46) rfl (by kernel_rfl) (fun _ _ _ h => h) (by rfl) ?hy46 hS0 ?_
   case hy46 => (intro w' hw'; go_simp; try with_reducible rfl)
   simp only [rgn.l1, rgn.l2, rgn.l3, Act.put, rgn.l4, rgn.l5, rgn.l6]
   refine rgn.tl (i := 5) (v := ?v47) rfl (by kernel_rfl) (fun _ _ _ h => h) (by rfl) ?hy47 hS0 ?_
   case hy47 => (intro w' hw'; have q0 := (hw'.cell (p := ⟨Z11.heap.size, 1, none⟩) L0).trans C1; go_simp; try with_reducible rfl)
   simp only [rgn.l1, rgn.l2, rgn.l3, Act.put, rgn.l4, rgn.l5, rgn.l6]
   refine rgn.tl (i := 6) (v := ?v48) rfl (by kernel_rfl) (fun _ _ _ h => h) (by rfl) ?hy48 hS0 ?_
   case hy48 => (intro w' hw'; go_simp; try with_reducible rfl)
   simp only [rgn.l1, rgn.l2, rgn.l3, Act.put, rgn.l4, rgn.l5, rgn.l6]
   refine rgn.tl (i := 7) (v := ?v49) rfl (by kernel_rfl) (fun _ _ _ h => h) (by rfl) ?hy49 hS0 ?_
   case hy49 => (intro w' hw'; go_simp; try with_reducible rfl)
   simp only [rgn.l1, rgn.l2, rgn.l3, Act.put, rgn.l4, rgn.l5, rgn.l6]
   refine rgn.tl (i := 8) (v := ?v50) rfl (by kernel_rfl) (fun _ _ _ h => h) (by rfl) ?hy50 hS0 ?_
   case hy50 => (intro w' hw'; go_simp; try with_reducible rfl)
   simp only [rgn.l1, rgn.l2, rgn.l3, Act.put, rgn.l4, rgn.l5, rgn.l6]
   refine rgn.tl (i := 9) (v := ?v51) rfl (by kernel_rfl) (fun _ _ _ h => h) (by rfl) ?hy51 hS0 ?_
   case hy51 => (intro w' hw'; go_simp; try with_reducible rfl)
   simp only [rgn.l1, rgn.l2, rgn.l3, Act.put, rgn.l4, rgn.l5, rgn.l6]
   refine rgn.tl (i := 10) (v := ?v52) rfl (by kernel_rfl) (fun _ _ _ h => h) (by rfl) ?hy52 hS0 ?_
   case hy52 => (intro w' hw'; have q0 := (hw'.cell (p := ⟨Z11.heap.size, 2, none⟩) L0).trans C2; go_simp; try with_reducible rfl)
   simp only [rgn.l1, rgn.l2, rgn.l3, Act.put, rgn.l4, rgn.l5, rgn.l6]
   refine rgn.tl (i := 11) (v := ?v53) rfl (by kernel_rfl) (fun _ _ _ h => h) (by rfl) ?hy53 hS0 ?_
   case hy53 => (intro w' hw'; go_simp; try with_reducible rfl)
   simp only [rgn.l1, rgn.l2, rgn.l3, Act.put, rgn.l4, rgn.l5, rgn.l6]
   refine rgn.tl (i := 12) (v := ?v54) rfl (by kernel_rfl) (fun _ _ _ h => h) (by rfl) ?hy54 hS0 ?_
   case hy54 => (intro w' hw'; go_simp; try with_reducible rfl)
   simp only [rgn.l1, rgn.l2, rgn.l3, Act.put, rgn.l4, rgn.l5, rgn.l6]
   refine rgn.tl (i := 13) (v := ?v55) rfl (by kernel_rfl) (fun _ _ _ h => h) (by rfl) ?hy55 hS0 ?_
   case hy55 => (intro w' hw'; go_simp; try with_reducible rfl)
   simp only [rgn.l1, rgn.l2, rgn.l3, Act.put, rgn.l4, rgn.l5, rgn.l6]
   refine rgn.tl (i := 14) (v := ?v56) rfl (by kernel_rfl) (fun _ _ _ h => h) (by rfl) ?hy56 hS0 ?_
   case hy56 => (intro w' hw'; go_simp; try with_reducible rfl)
   simp only [rgn.l1, rgn.l2, rgn.l3, Act.put, rgn.l4, rgn.l5, rgn.l6]
   refine rgn.tl (i := 15) (v := ?v57) rfl (by kernel_rfl) (fun _ _ _ h => h) (by rfl) ?hy57 hS0 ?_
   case hy57 => (intro w' hw'; have q0 := (hw'.cell (p := ⟨Z11.heap.size, 3, none⟩) L0).trans C3; go_simp; try with_reducible rfl)
   simp only [rgn.l1, rgn.l2, rgn.l3, Act.put, rgn.l4, rgn.l5, rgn.l6]
   refine rgn.tl (i := 16) (v := ?v58) rfl (by kernel_rfl) (fun _ _ _ h => h) (by rfl) ?hy58 hS0 ?_
   case hy58 => (intro w' hw'; go_simp; try with_reducible rfl)
   simp only [rgn.l1, rgn.l2, rgn.l3, Act.put, rgn.l4, rgn.l5, rgn.l6]
   refine rgn.tl (i := 17) (v := ?v59) rfl (by kernel_rfl) (fun _ _ _ h => h) (by rfl) ?hy59 hS0 ?_
   case hy59 => (intro w' hw'; go_simp; try with_reducible rfl)
   simp only [rgn.l1, rgn.l2, rgn.l3, Act.put, rgn.l4, rgn.l5, rgn.l6]
   refine rgn.tl (i := 18) (v := ?v60) rfl (by kernel_rfl) (fun _ _ _ h => h) (by rfl) ?hy60 hS0 ?_
   case hy60 => (intro w' hw'; go_simp; try with_reducible rfl)
   simp only [rgn.l1, rgn.l2, rgn.l3, Act.put, rgn.l4, rgn.l5, rgn.l6]
   refine rgn.tl (i := 19) (v := ?v61) rfl (by kernel_rfl) (fun _ _ _ h => h) (by rfl) ?hy61 hS0 ?_
   case hy61 => (intro w' hw'; go_simp; try with_reducible rfl)
   simp only [rgn.l1, rgn.l2, rgn.l3, Act.put, rgn.l4, rgn.l5, rgn.l6]
   refine rgn.tl (i := 20) (v := ?v62) rfl (by kernel_rfl) (fun _ _ _ h => h) (by rfl) ?hy62 hS0 ?_
   case hy62 => (intro w' hw'; have q0 := (hw'.cell (p := ⟨Z11.heap.size, 6, none⟩) L0).trans C6; go_simp; try with_reducible rfl)
   simp only [rgn.l1, rgn.l2, rgn.l3, Act.put, rgn.l4, rgn.l5, rgn.l6]
   refine rgn.tl (i := 21) (v := ?v63) rfl (by kernel_rfl) (fun _ _ _ h => h) (by rfl) ?hy63 hS0 ?_
   case hy63 => (intro w' hw'; go_simp; try with_reducible rfl)
   simp only [rgn.l1, rgn.l2, rgn.l3, Act.put, rgn.l4, rgn.l5, rgn.l6]
   refine rgn.tl (i := 22) (v := ?v64) rfl (by kernel_rfl) (fun _ _ _ h => h) (by rfl) ?hy64 hS0 ?_
   case hy64 => (intro w' hw'; have q0 := (hw'.cell (p := ⟨w3.heap.size, 0, none⟩) L1).trans Cd; go_simp; try with_reducible rfl)
   simp only [rgn.l1, rgn.l2, rgn.l3, Act.put, rgn.l4, rgn.l5, rgn.l6]
   refine rgn.tl (i := 23) (v := ?v65) rfl (by kernel_rfl) (fun _ _ _ h => h) (by rfl) ?hy65 hS0 ?_
   case hy65 => (intro w' hw'; go_simp; try with_reducible rfl)
   simp only [rgn.l1, rgn.l2, rgn.l3, Act.put, rgn.l4, rgn.l5, rgn.l6]
   refine rgn.tl (i := 24) (v := ?v66) rfl (by kernel_rfl) (fun _ _ _ h => h) (by rfl) ?hy66 hS0 ?_
   case hy66 => (intro w' hw'; go_simp; try with_reducible rfl)
   simp only [rgn.l1, rgn.l2, rgn.l3, Act.put, rgn.l4, rgn.l5, rgn.l6]
   refine rgn.tl (i := 25) (v := ?v67) rfl (by kernel_rfl) (fun _ _ _ h => h) (by rfl) ?hy67 hS0 ?_
   case hy67 => (intro w' hw'; have q0 := (hw'.cell (p := ⟨pd, od + 6, none⟩) L2).trans Cx; go_simp; try with_reducible rfl)
   simp only [rgn.l1, rgn.l2, rgn.l3, Act.put, rgn.l4, rgn.l5, rgn.l6]
   refine rgn.one (i := 26) _ rfl (by kernel_rfl) (by rfl) ?_
   try simp only [rgn.l1, rgn.l2, rgn.l3, Act.put, rgn.l4, rgn.l5, rgn.l6]
   refine rgn.call_wp _ _ _ _ rfl Tryz.func13 (by kernel_rfl) (by kernel_rfl) #[.slice i3 m4 j3, .slice d3 nss e3, .bool false] (by first | kernel_rfl | (simp only [List.map_toArray, List.map_cons, List.map_nil]; rfl)) ?_
   refine ((unhide HC) _ hS0).mono ?_
   rintro e9 w12 ⟨rfl, b12⟩
   have hS12 := hS0.trans (b12.mono hS0.size)
   refine ⟨_, rfl, hS12, ?_⟩
   clear hS0 b12
   have hS0 := hS12
   try simp only [rgn.l1, rgn.l2, rgn.l3, Act.put, rgn.l4, rgn.l5, rgn.l6]
   refine rgn.tl (i := 27) (v := ?v68) rfl (by kernel_rfl) (fun _ _ _ h => h) (by rfl) ?hy68 hS0 ?_
   case hy68 => (intro w' hw'; go_simp; try with_reducible rfl)
   simp only [rgn.l1, rgn.l2, rgn.l3, Act.put, rgn.l4, rgn.l5, rgn.l6]
   refine rgn.tl (i := 28) (v := ?v69) rfl (by kernel_rfl) (fun _ _ _ h => h) (by rfl) ?hy69 hS0 ?_
   case hy69 => (intro w' hw'; go_simp; try with_reducible rfl)
   simp only [rgn.l1, rgn.l2, rgn.l3, Act.put, rgn.l4, rgn.l5, rgn.l6]
   refine wpAnyH_done (by kernel_rfl) ?_ _; refine NoPanic.normal ?_
   have BF := hide (bw3.trans ((b3V.trans (hS12.mono b3V.size)).mono bw3.size))
   clear C0 C1 C2 C3 C6 Cd Cx L0 L1 L2 HC hS0 hS12 b3V b3Z bV gV zV gdZ hrdZ f0 t0 y0 y1 y2 y3 y4 y5 y6 y7 y8
   go_wp2_with fail
   go_ret
   exact ⟨rfl, unhide BF⟩
  ·have hni : ((n1 : Int) != 1) = true := by simp; omega
   have hnj : ¬ ((n1 : Int) = 1) := by omega
   clear HQ1 hDJ hcv hPa
   go_wp2_with fail
   go_ret
   exact ⟨rfl, bw3.trans ((two_alloc _ _ _).mono bw3.size)⟩
 ·have hb : (K1 != 0) = true := by simpa using hK1
  have hb' : (K1 == 0) = false := by simpa using hK1
  have hn1 : n1 = 0 := by
   rcases unhide HQ1 with ⟨_, _, h⟩ | ⟨_, _, _, h, _⟩
   ·exact h
   ·exact absurd h hK1
  subst hn1
  clear HQ1 hDJ hcv hPa
  go_wp2_with fail
  go_ret
  exact ⟨rfl, bw3.trans ((two_alloc _ _ _).mono bw3.size)⟩
end Go.Proofs.YtcebeajjpcbgcaaGreat.cu
