import Derived.Test.YtnkaoapnooanlaaGreatSdd26
set_option linter.unusedVariables false
set_option linter.unusedSimpArgs false
namespace Go.Proofs.YtnkaoapnooanlaaGreat.cu
open Go.ChangeShapes Go.WideShapes Go.ChangeAt Go.RowKit
open ints (Hi uh)
open dt (Dt Kp RowAt Ow Grow OwIn)
open mem (Row)
theorem infoSD : (Tryz.prog.info? 62).map (·.size) = some 17 := by kernel_rfl
set_option maxHeartbeats 8000000 in
set_option maxRecDepth 4000 in
theorem sdefs_t (f : Nat) (l l' : List Dt) (h : EqLs (EqD true f) l l') : SmLs 16 true 17 l l' := by
 intro w a a' c c' F G hl hl' hF hG hc hc' hm hm'
 obtain ⟨hlen, hel⟩ := h
 have HEL := Hi hel
 have HL := Hi hl
 have HL' := Hi hl'
 have HF := Hi hF
 have HG := Hi hG
 obtain ⟨n, hn⟩ : ∃ n, n = l.length := ⟨_, rfl⟩
 have hn' : n = l'.length := hn.trans hlen
 rw [← hn] at hc ⊢
 rw [← hn'] at hc' ⊢
 have Hn := Hi (And.intro hn hn')
 clear hel hl hl' hF hG hn hn' hlen
 unfold maxLen at hm hm'
 go_enter Tryz.func16, Tryz.ntmps16
 go_wp2_with fail
 go_loopw [7] (fun i wr => ∃ j : Nat, j ≤ n ∧ i = .int .i64 j ∧ Below w.heap.size w wr) (fun i _ => n - (intOf i).toNat)
 case atStart => exact ⟨0, Nat.zero_le _, rfl, Below.refl _ _⟩
 case round =>
  obtain ⟨j, hj, rfl, hI⟩ := hrel
  by_cases hlt : j < n
  ·have ji : (j : Int) < (n : Int) := by omega
   have hlt1 : j < l.length := by have := uh Hn; omega
   have hlt2 : j < l'.length := by have := uh Hn; omega
   obtain ⟨p, off, rfl, hpF, hget⟩ := (uh HL).resolve_left (fun h0 => by rw [h0] at hlt1; exact absurd hlt1 (Nat.not_lt_zero _))
   obtain ⟨p', off', rfl, hpG, hget'⟩ := (uh HL').resolve_left (fun h0 => by rw [h0] at hlt2; exact absurd hlt2 (Nat.not_lt_zero _))
   obtain ⟨ds, G1, hrow, hdl, hod, hGF⟩ := hget j _ (List.getElem?_eq_getElem hlt1)
   obtain ⟨ds', G2, hrow', hdl', hod', hGG⟩ := hget' j _ (List.getElem?_eq_getElem hlt2)
   obtain ⟨s, s', hx, hy, hS⟩ := (uh HEL) j _ _ (List.getElem?_eq_getElem hlt1) (List.getElem?_eq_getElem hlt2)
   rw [hx] at hod
   rw [hy] at hod'
   have hplt := (uh HF) p hpF
   have hplt' := (uh HG) p' hpG
   have hq1 : p < wr.heap.size := Nat.lt_of_lt_of_le hplt hI.size
   have hq2 : p' < wr.heap.size := Nat.lt_of_lt_of_le hplt' hI.size
   have hC := Hi (fun W (hb : Below w.heap.size w W) => def_t f s s' hS W ds ds' G1 G2 (dt.Ow.agree s.d _ G1 (fun b hb' o => hb.cell (p := ⟨b, o, none⟩) ((uh HF) b (hGF b hb'))) hod) (dt.Ow.agree s'.d _ G2 (fun b hb' o => hb.cell (p := ⟨b, o, none⟩) ((uh HG) b (hGG b hb'))) hod') (fun b hb' => Nat.lt_of_lt_of_le ((uh HF) b (hGF b hb')) hb.size) (fun b hb' => Nat.lt_of_lt_of_le ((uh HG) b (hGG b hb')) hb.size))
   have hR1 := Hi (fun W (hb : Below wr.heap.size wr W) => show W.rangeAt p (off + j * 17) ds from fun i u hu => (hb.cell (p := ⟨p, off + j * 17 + i, none⟩) hq1).trans ((hI.cell (p := ⟨p, off + j * 17 + i, none⟩) hplt).trans (hrow i u hu)))
   have hR2 := Hi (fun W (hb : Below wr.heap.size wr W) => show W.rangeAt p' (off' + j * 17) ds' from fun i u hu => (hb.cell (p := ⟨p', off' + j * 17 + i, none⟩) hq2).trans ((hI.cell (p := ⟨p', off' + j * 17 + i, none⟩) hplt').trans (hrow' i u hu)))
   have hL1 := Hi (show (Tryz.prog.info? 62).map (·.size) = some ds.length by rw [hdl]; exact infoSD)
   have hL2 := Hi (show (Tryz.prog.info? 62).map (·.size) = some ds'.length by rw [hdl']; exact infoSD)
   clear hrow hrow' hdl hdl' hget hget' hod hod' hx hy hS
   go_wp2_with fail
   have hS0 : Below wr.heap.size wr { wr with drawn := wr.drawn + 1 } := (Below.refl _ _).drew
   have bD := hI.trans (hS0.mono hI.size)
   refine wp_region_noPanic ?_
   refine wp_region_held (S := fun w' => Below wr.heap.size wr w') mixed ?_
   refine rgn.tl (i := 0) (v := ?v1) rfl (by kernel_rfl) (fun _ _ _ h => h) (by rfl) ?hy1 hS0 ?_
   case hy1 => (intro w' hw'; go_simp; try with_reducible rfl)
   simp only [zA, zB, zC, Act.put, zD, zE, zF]
   refine rgn.tl (i := 1) (v := ?v2) rfl (by kernel_rfl) (fun _ _ _ h => h) (by rfl) ?hy2 hS0 ?_
   case hy2 => (intro w' hw'; go_simp; try with_reducible rfl)
   simp only [zA, zB, zC, Act.put, zD, zE, zF]
   refine rgn.tl (i := 2) (v := ?v3) rfl (by kernel_rfl) (fun _ _ _ h => h) (by rfl) ?hy3 hS0 ?_
   case hy3 => (intro w' hw'; go_simp; try with_reducible rfl)
   simp only [zA, zB, zC, Act.put, zD, zE, zF]
   refine rgn.tk (i := 3) rfl (by kernel_rfl) (fun _ _ _ h => h) (yieldsIf_load_mid (by rfl) 62 _ (by rfl) p (off + j * 17) (by rfl) ds _ (uh hR1) Tryz.underlying62 (by rfl) (uh hL1)) hS0 ?_
   simp only [zA, zB, zC, Act.put, zD, zE, zF]
   refine rgn.tl (i := 4) (v := ?v4) rfl (by kernel_rfl) (fun _ _ _ h => h) (by rfl) ?hy4 hS0 ?_
   case hy4 => (intro w' hw'; go_simp; try with_reducible rfl)
   simp only [zA, zB, zC, Act.put, zD, zE, zF]
   refine rgn.tl (i := 5) (v := ?v5) rfl (by kernel_rfl) (fun _ _ _ h => h) (by rfl) ?hy5 hS0 ?_
   case hy5 => (intro w' hw'; go_simp; try with_reducible rfl)
   simp only [zA, zB, zC, Act.put, zD, zE, zF]
   refine rgn.tl (i := 6) (v := ?v6) rfl (by kernel_rfl) (fun _ _ _ h => h) (by rfl) ?hy6 hS0 ?_
   case hy6 => (intro w' hw'; go_simp; try with_reducible rfl)
   simp only [zA, zB, zC, Act.put, zD, zE, zF]
   refine rgn.tk (i := 7) rfl (by kernel_rfl) (fun _ _ _ h => h) (yieldsIf_load_mid (by rfl) 62 _ (by rfl) p' (off' + j * 17) (by rfl) ds' _ (uh hR2) Tryz.underlying62 (by rfl) (uh hL2)) hS0 ?_
   simp only [zA, zB, zC, Act.put, zD, zE, zF]
   refine rgn.tl (i := 8) (v := ?v7) rfl (by kernel_rfl) (fun _ _ _ h => h) (by rfl) ?hy7 hS0 ?_
   case hy7 => (intro w' hw'; go_simp; try with_reducible rfl)
   simp only [zA, zB, zC, Act.put, zD, zE, zF]
   refine rgn.one (i := 9) _ rfl (by kernel_rfl) (by rfl) ?_
   simp only [zA, zB, zC, Act.put, zD, zE, zF]
   go_wp2_with fail
   refine ((uh hC) _ bD).mono ?_
   rintro e' w2 ⟨rfl, b2⟩
   have b02 : Below wr.heap.size wr w2 := hS0.trans (b2.mono hS0.size)
   refine ⟨b02, ?_⟩
   clear hS0 b2 bD hC
   have hS0 := b02
   try simp only [zA, zB, zC, Act.put, zD, zE, zF]
   refine rgn.tl (i := 10) (v := ?v8) rfl (by kernel_rfl) (fun _ _ _ h => h) (by rfl) ?hy8 hS0 ?_
   case hy8 => (intro w' hw'; go_simp; try with_reducible rfl)
   simp only [zA, zB, zC, Act.put, zD, zE, zF]
   refine wpAnyH_done (by kernel_rfl) ?_ _; refine NoPanic.normal ?_
   have hI2 := hI.trans (b02.mono hI.size)
   go_wp2_with fail
   go_roundw
   case rel => exact ⟨j + 1, by omega, by go_num, hI2⟩
   case measure => first | (simp [intOf]; omega) | simp [intOf]
  ·have ji : ¬ (j : Int) < (n : Int) := by omega
   have hI9 := Hi hI
   clear hlt
   go_wp2_with fail
   go_ret
   exact ⟨rfl, uh hI9⟩
open lx (toks chs cln)
theorem Sh.ls {w : World} {k : Nat} {l : List Dt} {lo hi : Nat} {a : Option Addr} {n c : Nat} {F : List Nat} (hs : Sh w k l lo hi a n c F) : Ls w k l a F ∧ (∀ b ∈ F, b < w.heap.size) ∧ l.length ≤ c ∧ c ≤ maxLen := by
 obtain ⟨h1, h2⟩ := lst_ls hs.at_
 exact ⟨h2, fun b hb => Nat.lt_of_lt_of_le (hs.rng b hb).2 hs.hi, by rw [← hs.len]; exact hs.nc, hs.cm⟩
theorem depth_pure (z : List Int) (d : Int) (l : List Dt) (hd0 : 0 ≤ d) (hd1 : d < 8) (hl : (sdocG z 200).1 = some l) :
  ((ops d (toks z) (toks z).length).2.1 ≤ d ∧ (sdocG z d).1 = some l ∧ (sdocG z d).2.kd = 0) ∨
  (∃ (j : Nat) (t : Tk), d < (ops d (toks z) (toks z).length).2.1 ∧ (sdocG z d).1 = none ∧ (sdocG z d).2.kd = 71 ∧ (sdocG z d).2.tok = t ∧ (ops d (toks z) (toks z).length).2.2 = (j : Int) ∧ (toks z)[j]? = some t ∧ (sdocG z 0).2.kd = 71) := by
 have hm : (mostS d : Int) = d := by unfold mostS; omega
 have h := sdoc_depth z d l hl
 rw [hm] at h
 rcases h with h | ⟨h1, h2, h3, h4⟩
 ·exact .inl h
 ·right
  refine ⟨(sdocG z d).2.ix, _, h1, h2, h3, rfl, h4, sdocG_tok z d, ?_⟩
  rcases sdoc_depth z 0 l hl with ⟨k1, k2, k3⟩ | ⟨k1, k2, k3, k4⟩
  ·exfalso
   obtain ⟨x1, x2, x3, x4⟩ := ops_most d (toks z) (toks z).length
   have x5 := (ops_most (mostS 0) (toks z) (toks z).length).1 x2 x3
   have h0 : (mostS 0 : Int) = 0 := rfl
   rw [h0] at k1 x5
   omega
  ·exact k3
set_option maxHeartbeats 8000000 in
set_option maxRecDepth 4000 in
theorem law_depths (a : Option Addr) (n c : Nat) (z : List Int) (d : Int) (w : World) (h : Row .u8 w a n c z) (hz : mem.Byt z) (hn : n ≤ 1048576) (hd : (Lit.int .i64 d).wf = true) :
  Calls Tryz.prog 4 #[.slice a n c, .int .i64 d] w fun e w' => e = .returned (.bool true) ∧ Below w.heap.size w w' := by
 have hAw := Hi (fun W => awake10_ok W)
 have hCo := Hi (fun W (bb : Below w.heap.size w W) => copied10_ok a n c z W (h.below bb) (by omega))
 have hPz := Hi (fun D (hD : (Lit.int .i64 D).wf = true) W g base cap (hb : Bsl W base g n cap z) => parse_ct (some ⟨g, 0, none⟩) n cap z D W hb.row (by omega) hz hD)
 have hTk := Hi (fun W g base cap (hb : Bsl W base g n cap z) => lx.tokensG_ok (some ⟨g, 0, none⟩) n cap z W hb.row (by omega) hz)
 have hDP := Hi (fun D l h0 h1 => depth_pure z D l h0 h1)
 have hFA := Hi (sdocG_faults z 200)
 have hRf := Hi (fun l (hl : (sdocG z 200).1 = some l) => sdocS_refl true (newG z 200) (newG_ok' _ _) hl)
 have e201 := Hi (show sdocS (newG z 201) = sdocS (newG z 200) from rfl)
 have em7 := Hi (show sdocS (newG z (-7)) = sdocS (newG z 0) from rfl)
 have hzl := h.len
 have htl := toks_len z hz
 rw [hzl] at htl
 have hdr : -9223372036854775808 ≤ d ∧ d ≤ 9223372036854775807 := by
  simp [Lit.wf, IntKind.min, IntKind.max, IntKind.signed, IntKind.bits] at hd
  exact hd
 clear h hz hd
 go_enter Tryz.func4, Tryz.ntmps4
 go_wp2_with fail
 refine ((uh hAw) _).mono ?_
 rintro e w1 ⟨rfl, b1⟩
 clear hAw
 have hc1 := Hi ((uh hCo) w1 b1)
 go_wp2_with fail
 refine (uh hc1).mono ?_
 rintro e w2 ⟨rfl, hb2, b2⟩
 have bw2 := b1.trans (b2.mono b1.size)
 have hp2 := Hi ((uh hPz) 200 (by rfl) w2 _ _ _ hb2)
 clear hc1 hb2 b1 b2
 go_wp2_with fail
 refine (uh hp2).mono ?_
 rintro e w3 ⟨r, C, a3, n3, c3, F3, fs, hq, rfl, hsh, hfl, b3⟩
 have bw3 := bw2.trans (b3.mono bw2.size)
 have q1 : (sdocG z 200).1 = r := congrArg Prod.fst hq
 have q2 : (sdocG z 200).2 = C := congrArg Prod.snd hq
 clear hp2 bw2 b3
 by_cases hk : C.kd = 0
 ·-- it is read
  cases r with
  | none => exact absurd (q2 ▸ hk) ((uh hFA) q1)
  | some l =>
  have HRF := Hi ((uh hRf) l q1)
  obtain ⟨hls, hFl, hlc, hcm⟩ := hsh.ls
  simp only [Option.getD_some] at hls hlc
  have hn3 : n3 = l.length := by have := hsh.len; simpa using this
  unfold FltAt at hfl
  rw [if_pos hk] at hfl
  subst hfl
  obtain ⟨D, hD⟩ : ∃ D : Int, D = (if d < 0 then -(d + 1) else d).tmod 8 := ⟨_, rfl⟩
  have hD0 : 0 ≤ D ∧ D < 8 := by
   rw [hD]
   split
   ·rw [Int.tmod_eq_emod_of_nonneg (by omega)]; omega
   ·rw [Int.tmod_eq_emod_of_nonneg (by omega)]; omega
  obtain ⟨X, hX⟩ : ∃ X, X = w3.alloc (.cells #[.int .i64 0, .slice none 0 0, .slice none 0 0] 29) := ⟨_, rfl⟩
  have bX : Below w3.heap.size w3 X := by rw [hX]; exact ba
  have bwX := bw3.trans (bX.mono bw3.size)
  have hcX := Hi ((uh hCo) X bwX)
  have HX := Hi hX
  have HDP := Hi ((uh hDP) D l hD0.1 hD0.2 q1)
  have HN3 := Hi hn3
  have HDW := Hi (show (Lit.int .i64 D).wf = true by simp [Lit.wf, IntKind.min, IntKind.max, IntKind.signed, IntKind.bits]; omega)
  have HLS := Hi (And.intro hls (And.intro hFl (And.intro hlc hcm)))
  have HB := Hi (And.intro bX bwX)
  clear hFA hRf hq q1 q2 hk hsh bw3 bX bwX hX hls hFl hlc hcm hDP e201 hn3
  by_cases hd0 : d < 0
  case' pos => (have x1 : IntKind.i64.wrap (d + 1) = d + 1 := by rw [IntKind.wrap_i64]; omega); (have x2 : IntKind.i64.wrap (-(d + 1)) = -(d + 1) := by rw [IntKind.wrap_i64]; omega); have x3 : (-(d + 1)).tmod 8 = D := by rw [hD, if_pos hd0]
  case' neg => have x3 : d.tmod 8 = D := by rw [hD, if_neg hd0]
  all_goals
   have x4 : IntKind.i64.wrap D = D := by rw [IntKind.wrap_i64]; omega
   clear hD
   go_wp2_with fail
   rw [← uh HX]
   clear HX
   refine (uh hcX).mono ?_
   rintro e w4 ⟨rfl, hb4, b4⟩
   have ht4 := Hi ((uh hTk) w4 _ _ _ hb4)
   clear hcX hb4
   go_wp2_with fail
   refine (uh ht4).mono ?_
   rintro e w5 ⟨p, cp, rfl, hp0, hp1, hrows, b5⟩
   obtain ⟨bX, bwX⟩ := uh HB
   have hOp := Hi (opens_ok p (toks z).length cp (toks z) D w5 rfl (by omega) (by omega) hp1 hrows)
   have b45 := b4.trans (b5.mono b4.size)
   have bw5 := bwX.trans (b45.mono bwX.size)
   have bX5 := bX.trans (b45.mono bX.size)
   have HR := Hi (And.intro hrows (And.intro bw5 bX5))
   have hbd := ops_bd D (toks z) (toks z).length
   obtain ⟨nt, hnt⟩ : ∃ nt, nt = (toks z).length := ⟨_, rfl⟩
   rw [← hnt] at hOp HDP hbd htl ⊢
   obtain ⟨q, hq⟩ : ∃ q, q = ops D (toks z) nt := ⟨_, rfl⟩
   rw [← hq] at hOp HDP hbd
   obtain ⟨oo, mm, ff⟩ := q
   simp only at hOp HDP hbd
   have HNT := Hi hnt
   clear ht4 hTk b4 b5 b45 hrows bw5 bX5 bX bwX HB hq hnt hp0
   go_wp2_with fail
   refine (uh hOp).mono ?_
   rintro e w6 ⟨rfl, b6⟩
   clear hOp
   obtain ⟨hrows, bw5, bX5⟩ := uh HR
   have bw6 := bw5.trans (b6.mono bw5.size)
   have hc6 := Hi ((uh hCo) w6 bw6)
   have HR2 := Hi (And.intro hrows (And.intro b6 (And.intro bw6 (bX5.trans (b6.mono bX5.size)))))
   clear HR hrows bw5 bX5 b6 bw6
   go_wp2_with fail
   refine (uh hc6).mono ?_
   rintro e w7 ⟨rfl, hb7, b7⟩
   have hp7 := Hi ((uh hPz) D (uh HDW) w7 _ _ _ hb7)
   clear hc6 hb7
   go_wp2_with fail
   refine (uh hp7).mono ?_
   rintro e w8 ⟨r8, C8, a8, n8, c8, F8, fs8, hq8, rfl, hsh8, hfl8, b8⟩
   obtain ⟨hrows, b6, bw6, b36⟩ := uh HR2
   have q1 : (sdocG z D).1 = r8 := congrArg Prod.fst hq8
   have q2 : (sdocG z D).2 = C8 := congrArg Prod.snd hq8
   have b78 := b7.trans (b8.mono b7.size)
   have b58 := b6.trans (b78.mono b6.size)
   have b38 := b36.trans (b78.mono b36.size)
   have bw8 := bw6.trans (b78.mono bw6.size)
   clear hp7 hq8 HR2 b7 b8 b6 bw6 b36 b78
   rcases uh HDP with ⟨hm, e1, e2⟩ | ⟨j, t, hm, e1, e2, e3, e4, e5, e6⟩
   ·rw [q1] at e1
    subst e1
    rw [q2] at e2
    unfold FltAt at hfl8
    rw [if_pos e2] at hfl8
    subst hfl8
    obtain ⟨hls8, hF8, hlc8, hcm8⟩ := hsh8.ls
    simp only [Option.getD_some] at hls8 hlc8
    have hn8 : n8 = l.length := by have := hsh8.len; simpa using this
    obtain ⟨hls, hFl, hlc, hcm⟩ := uh HLS
    have hSD := sdefs_t _ l l (uh HRF)
    unfold SmLs at hSD
    have hn3' := uh HN3
    have hSD := Hi (fun W (bb : Below w8.heap.size w8 W) => hSD W a8 a3 c8 c3 F8 F3 (hls8.below hF8 bb) (hls.below hFl (b38.trans (bb.mono b38.size))) (fun b hb => Nat.lt_of_lt_of_le (hF8 b hb) bb.size) (fun b hb => Nat.lt_of_lt_of_le (hFl b hb) (b38.trans (bb.mono b38.size)).size) hlc8 hlc hcm8 hcm)
    rw [← hn3'] at hSD hn8
    subst hn8
    have hm1 : mm ≤ D := hm
    have BB := Hi bw8
    clear hrows HDP hm e2 hsh8 hls8 hF8 hlc8 hcm8 hls hFl hlc hcm HLS HRF HN3 hn3' q1 q2 b58 b38 bw8 hCo hPz em7
    go_wp2_with fail
    refine ((uh hSD) _ (ba)).mono ?_
    rintro e w9 ⟨rfl, b9⟩
    clear hSD
    go_wp2_with fail
    go_ret
    have b89 := ((Below.refl w8.heap.size w8).alloc (Nat.le_refl _) _).trans (b9.mono (by simp))
    exact ⟨rfl, (uh BB).trans (b89.mono (uh BB).size)⟩
   ·rw [q1] at e1
    subst e1
    have hn8 : n8 = 0 := by have := hsh8.len; simpa using this
    subst hn8
    rw [q2] at e2 e3
    unfold FltAt at hfl8
    rw [if_neg (by rw [e2]; decide), e2, e3] at hfl8
    obtain ⟨b, y1, y2, rfl, y4, y5⟩ := hfl8
    subst e4
    have hjl : j < nt := by rw [uh HNT]; exact (List.getElem?_eq_some_iff.1 e5).1
    have hrow7 := hrows j t e5
    unfold Tk.cells at hrow7
    obtain ⟨Y, hY⟩ : ∃ Y, Y = w8.alloc (.cells #[.int .i64 71, .slice (some ⟨b, 0, none⟩) 1 1, .slice none 0 0] 29) := ⟨_, rfl⟩
    have bY : Below w8.heap.size w8 Y := by rw [hY]; exact ba
    have gY : Y.heap[w8.heap.size]? = some (.cells #[.int .i64 71, .slice (some ⟨b, 0, none⟩) 1 1, .slice none 0 0] 29 (0, 0)) := by rw [hY]; exact heap_alloc_new _ _
    have f0 : Y.cell? ⟨w8.heap.size, 0, none⟩ = some (.int .i64 71) := (dt.cell_cells gY 0).trans rfl
    have f1 : Y.cell? ⟨w8.heap.size, 1, none⟩ = some (.slice (some ⟨b, 0, none⟩) 1 1) := (dt.cell_cells gY 1).trans rfl
    have p0 : Y.cell? ⟨b, 0, none⟩ = some (.int .i64 t.ln) := (bY.cell (p := ⟨b, 0, none⟩) y2).trans y4
    have p1 : Y.cell? ⟨b, 1, none⟩ = some (.int .i64 t.co) := (bY.cell (p := ⟨b, 1, none⟩) y2).trans y5
    have b5Y := b58.trans (bY.mono b58.size)
    have l1 : Y.cell? ⟨p, j * 7 + 1, none⟩ = some (.int .i64 t.ln) := (b5Y.cell (p := ⟨p, j * 7 + 1, none⟩) hp1).trans (hrow7 1 _ rfl)
    have l2 : Y.cell? ⟨p, j * 7 + 2, none⟩ = some (.int .i64 t.co) := (b5Y.cell (p := ⟨p, j * 7 + 2, none⟩) hp1).trans (hrow7 2 _ rfl)
    have bwY := bw8.trans (bY.mono bw8.size)
    have ji : (j : Int) < (nt : Int) := by omega
    have jn : ¬ ((j : Int) < 0) := by omega
    have hm1 : ¬ (mm ≤ D) := by omega
    have HY := Hi hY
    have HBY := Hi bwY
    have HE6 := Hi e6
    clear hrows hrow7 HDP hm e2 e3 e5 e6 hsh8 q1 q2 b58 b38 bw8 hY bY gY b5Y bwY y1 y2 y4 y5 HLS HRF HN3 HNT
    go_wp2_with fail
    rw [← uh HY]
    clear HY
    go_quiet (fail)
    obtain ⟨Z, hZ⟩ : ∃ Z, Z = Y.drewN nq := ⟨_, rfl⟩
    have bQ : Below Y.heap.size Y Z := by rw [hZ]; exact Go.below_drewN (Below.refl _ _) nq
    have bwZ := (uh HBY).trans (bQ.mono (uh HBY).size)
    rw [← hZ]
    clear hZ f0 f1 p0 p1 l1 l2 ji jn hm1 bQ HBY
    have hcZ := Hi ((uh hCo) Z bwZ)
    go_wp2_with fail
    refine (uh hcZ).mono ?_
    rintro e v1 ⟨rfl, hB1, e1⟩
    have hp1 := Hi ((uh hPz) (-7) (by rfl) v1 _ _ _ hB1)
    clear hcZ hB1
    go_wp2_with fail
    refine (uh hp1).mono ?_
    rintro e v2 ⟨r2, C2, a2, n2, c2, F2, fs2, hq2, rfl, hsh2, hfl2, e2⟩
    obtain ⟨C0, hC0⟩ : ∃ C0, C0 = (sdocG z 0).2 := ⟨_, rfl⟩
    have EQC := Hi (show (sdocS (newG z 0)).2 = C0 from hC0.symm)
    have hC2 : C2 = C0 := (congrArg Prod.snd hq2).symm.trans ((congrArg Prod.snd (uh em7)).trans (uh EQC))
    have e6 := uh HE6
    rw [← hC0] at e6
    rw [hC2] at hfl2
    unfold FltAt at hfl2
    rw [if_neg (by rw [e6]; decide), e6] at hfl2
    obtain ⟨bk, x1, x2, rfl, x4, x5⟩ := hfl2
    have HK0 := Hi (show C0.kd ≠ 0 by rw [e6]; decide)
    have HK := Hi e6
    have e12 := e1.trans (e2.mono e1.size)
    have bv2 := bwZ.trans (e12.mono bwZ.size)
    obtain ⟨X, hX⟩ : ∃ X, X = v2.alloc (.cells #[.int .i64 71, .slice (some ⟨bk, 0, none⟩) 1 1, .slice none 0 0] 29) := ⟨_, rfl⟩
    have bX : Below v2.heap.size v2 X := by rw [hX]; exact ba
    have gX : X.heap[v2.heap.size]? = some (.cells #[.int .i64 71, .slice (some ⟨bk, 0, none⟩) 1 1, .slice none 0 0] 29 (0, 0)) := by rw [hX]; exact heap_alloc_new _ _
    have zX : v2.heap.size + 1 ≤ X.heap.size := by rw [hX]; simp
    have p0 : X.cell? ⟨bk, 0, none⟩ = some (.int .i64 C0.tok.ln) := (bX.cell (p := ⟨bk, 0, none⟩) x2).trans x4
    have p1 : X.cell? ⟨bk, 1, none⟩ = some (.int .i64 C0.tok.co) := (bX.cell (p := ⟨bk, 1, none⟩) x2).trans x5
    have bwX := bv2.trans (bX.mono bv2.size)
    have zb : bk < X.heap.size := by omega
    have zk : v2.heap.size < X.heap.size := by omega
    have HX := Hi hX
    clear hp1 hq2 hsh2 hC2 e6 HE6 x4 x5 x1 e1 e2 e12 bv2 bwZ hC0 bX hX em7
    have hcS := Hi ((uh hCo) X bwX)
    have HGX := Hi (And.intro gX (And.intro p0 (And.intro p1 bwX)))
    clear gX p0 p1 bwX
    go_wp2_with fail
    rw [← uh HX]
    clear HX
    refine (uh hcS).mono ?_
    rintro e v4 ⟨rfl, hB4, e4⟩
    have hp4 := Hi ((uh hPz) (0) (by rfl) v4 _ _ _ hB4)
    clear hcS hB4
    go_wp2_with fail
    refine (uh hp4).mono ?_
    rintro e v5 ⟨r5, C5, a5, n5, c5, F5, fs5, hq, rfl, hsh5, hfl5, e5⟩
    obtain ⟨gX, p0, p1, bwX⟩ := uh HGX
    have hC5 : C5 = C0 := (congrArg Prod.snd hq).symm.trans (uh EQC)
    rw [hC5] at hfl5
    unfold FltAt at hfl5
    rw [if_neg (uh HK0), uh HK] at hfl5
    obtain ⟨b5, y1, y25, rfl, y45, y55⟩ := hfl5
    have e45 := e4.trans (e5.mono e4.size)
    have s5 := e45.size
    have eB := fun o => show Below v5.heap.size v5 (v5.alloc o) from ba
    have g5 := (e45.block v2.heap.size zk).trans gX
    have k5 : ∀ o, (v5.alloc o).heap[v2.heap.size]? = some (.cells #[.int .i64 71, .slice (some ⟨bk, 0, none⟩) 1 1, .slice none 0 0] 29 (0, 0)) := fun o => ((eB o).block (v2.heap.size) (by omega)).trans g5
    have j0 : ∀ o, (v5.alloc o).cell? ⟨v2.heap.size, 0, none⟩ = some (.int .i64 71) := fun o => (dt.cell_cells (k5 o) 0).trans rfl
    have j1 : ∀ o, (v5.alloc o).cell? ⟨v2.heap.size, 1, none⟩ = some (.slice (some ⟨bk, 0, none⟩) 1 1) := fun o => (dt.cell_cells (k5 o) 1).trans rfl
    have j2 : ∀ o, (v5.alloc o).cell? ⟨v2.heap.size, 2, none⟩ = some (.slice none 0 0) := fun o => (dt.cell_cells (k5 o) 2).trans rfl
    have hSF := Hi (fun o => sameFault_ok (v5.alloc o) (71) (some ⟨bk, 0, none⟩) (some ⟨b5, 0, none⟩) 1 1 1 1 (fun W bb => by
     have x0 := ((e45.trans ((eB o).mono e45.size)).cell (p := ⟨bk, 0, none⟩) zb).trans p0
     have x1 := ((e45.trans ((eB o).mono e45.size)).cell (p := ⟨bk, 1, none⟩) zb).trans p1
     have y0 := ((eB o).cell (p := ⟨b5, 0, none⟩) y25).trans y45
     have y1 := ((eB o).cell (p := ⟨b5, 1, none⟩) y25).trans y55
     have zo : v5.heap.size + 1 = (v5.alloc o).heap.size := by simp
     have zbb := bb.size
     exact pos_one W bk b5 C0.tok.ln C0.tok.co ((bb.cell (p := ⟨bk, 0, none⟩) (show bk < (v5.alloc o).heap.size by omega)).trans x0) ((bb.cell (p := ⟨bk, 1, none⟩) (show bk < (v5.alloc o).heap.size by omega)).trans x1) ((bb.cell (p := ⟨b5, 0, none⟩) (show b5 < (v5.alloc o).heap.size by omega)).trans y0) ((bb.cell (p := ⟨b5, 1, none⟩) (show b5 < (v5.alloc o).heap.size by omega)).trans y1) (by omega) (by omega)))
    have bv5 := bwX.trans (e45.mono bwX.size)
    have HB5 := Hi (And.intro bv5 eB)
    clear hq hsh5 hC5 gX p0 p1 bwX e4 e5 e45 eB g5 k5 bv5 y45 y55 hp4 HGX EQC HK0 HK
    go_wp2_with fail
    refine ((uh hSF) _).mono ?_
    rintro e v6 ⟨rfl, e6⟩
    clear hSF j0 j1 j2
    go_wp2_with fail
    go_ret
    obtain ⟨bv5, eB⟩ := uh HB5
    have e56 := (eB _).trans (e6.mono (eB _).size)
    exact ⟨rfl, bv5.trans (e56.mono bv5.size)⟩
 ·skip
  obtain ⟨C0, hC0⟩ : ∃ C0, C0 = C := ⟨_, rfl⟩
  have EQC := Hi (show (sdocS (newG z 201)).2 = C0 from by rw [uh e201, hC0]; exact q2)
  have HK0 := Hi (show C0.kd ≠ 0 by rw [hC0]; exact hk)
  obtain ⟨K, hK⟩ : ∃ K, K = C.kd := ⟨_, rfl⟩
  have HK := Hi (show C0.kd = K by rw [hC0]; exact hK.symm)
  unfold FltAt at hfl
  rw [if_neg hk, ← hK, ← hC0] at hfl
  obtain ⟨b, y1, y2, rfl, y4, y5⟩ := hfl
  have hKb : (K != 0) = true := by rw [← hK] at hk; simpa using hk
  obtain ⟨X, hX⟩ : ∃ X, X = w3.alloc (.cells #[.int .i64 K, .slice (some ⟨b, 0, none⟩) 1 1, .slice none 0 0] 29) := ⟨_, rfl⟩
  have bX : Below w3.heap.size w3 X := by rw [hX]; exact ba
  have gX : X.heap[w3.heap.size]? = some (.cells #[.int .i64 K, .slice (some ⟨b, 0, none⟩) 1 1, .slice none 0 0] 29 (0, 0)) := by rw [hX]; exact heap_alloc_new _ _
  have zX : w3.heap.size + 1 ≤ X.heap.size := by rw [hX]; simp
  have p0 : X.cell? ⟨b, 0, none⟩ = some (.int .i64 C0.tok.ln) := (bX.cell (p := ⟨b, 0, none⟩) y2).trans y4
  have p1 : X.cell? ⟨b, 1, none⟩ = some (.int .i64 C0.tok.co) := (bX.cell (p := ⟨b, 1, none⟩) y2).trans y5
  have bwX := bw3.trans (bX.mono bw3.size)
  have zb : b < X.heap.size := by omega
  have zk : w3.heap.size < X.heap.size := by omega
  have HX := Hi hX
  clear hFA hRf hDP hTk e201 em7 hq q1 q2 hk hsh bw3 bX hX y1 y4 y5 hC0 hK
  have hcS := Hi ((uh hCo) X bwX)
  have HGX := Hi (And.intro gX (And.intro p0 (And.intro p1 bwX)))
  clear gX p0 p1 bwX
  go_wp2_with fail
  rw [← uh HX]
  clear HX
  refine (uh hcS).mono ?_
  rintro e v4 ⟨rfl, hB4, e4⟩
  have hp4 := Hi ((uh hPz) (201) (by rfl) v4 _ _ _ hB4)
  clear hcS hB4
  go_wp2_with fail
  refine (uh hp4).mono ?_
  rintro e v5 ⟨r5, C5, a5, n5, c5, F5, fs5, hq, rfl, hsh5, hfl5, e5⟩
  obtain ⟨gX, p0, p1, bwX⟩ := uh HGX
  have hC5 : C5 = C0 := (congrArg Prod.snd hq).symm.trans (uh EQC)
  rw [hC5] at hfl5
  unfold FltAt at hfl5
  rw [if_neg (uh HK0), uh HK] at hfl5
  obtain ⟨b5, y1, y25, rfl, y45, y55⟩ := hfl5
  have e45 := e4.trans (e5.mono e4.size)
  have s5 := e45.size
  have eB := fun o => show Below v5.heap.size v5 (v5.alloc o) from ba
  have g5 := (e45.block w3.heap.size zk).trans gX
  have k5 : ∀ o, (v5.alloc o).heap[w3.heap.size]? = some (.cells #[.int .i64 K, .slice (some ⟨b, 0, none⟩) 1 1, .slice none 0 0] 29 (0, 0)) := fun o => ((eB o).block (w3.heap.size) (by omega)).trans g5
  have j0 : ∀ o, (v5.alloc o).cell? ⟨w3.heap.size, 0, none⟩ = some (.int .i64 K) := fun o => (dt.cell_cells (k5 o) 0).trans rfl
  have j1 : ∀ o, (v5.alloc o).cell? ⟨w3.heap.size, 1, none⟩ = some (.slice (some ⟨b, 0, none⟩) 1 1) := fun o => (dt.cell_cells (k5 o) 1).trans rfl
  have j2 : ∀ o, (v5.alloc o).cell? ⟨w3.heap.size, 2, none⟩ = some (.slice none 0 0) := fun o => (dt.cell_cells (k5 o) 2).trans rfl
  have hSF := Hi (fun o => sameFault_ok (v5.alloc o) (K) (some ⟨b, 0, none⟩) (some ⟨b5, 0, none⟩) 1 1 1 1 (fun W bb => by
   have x0 := ((e45.trans ((eB o).mono e45.size)).cell (p := ⟨b, 0, none⟩) zb).trans p0
   have x1 := ((e45.trans ((eB o).mono e45.size)).cell (p := ⟨b, 1, none⟩) zb).trans p1
   have y0 := ((eB o).cell (p := ⟨b5, 0, none⟩) y25).trans y45
   have y1 := ((eB o).cell (p := ⟨b5, 1, none⟩) y25).trans y55
   have zo : v5.heap.size + 1 = (v5.alloc o).heap.size := by simp
   have zbb := bb.size
   exact pos_one W b b5 C0.tok.ln C0.tok.co ((bb.cell (p := ⟨b, 0, none⟩) (show b < (v5.alloc o).heap.size by omega)).trans x0) ((bb.cell (p := ⟨b, 1, none⟩) (show b < (v5.alloc o).heap.size by omega)).trans x1) ((bb.cell (p := ⟨b5, 0, none⟩) (show b5 < (v5.alloc o).heap.size by omega)).trans y0) ((bb.cell (p := ⟨b5, 1, none⟩) (show b5 < (v5.alloc o).heap.size by omega)).trans y1) (by omega) (by omega)))
  have bv5 := bwX.trans (e45.mono bwX.size)
  have HB5 := Hi (And.intro bv5 eB)
  clear hq hsh5 hC5 gX p0 p1 bwX e4 e5 e45 eB g5 k5 bv5 y45 y55 hp4 HGX EQC HK0 HK
  go_wp2_with fail
  refine ((uh hSF) _).mono ?_
  rintro e v6 ⟨rfl, e6⟩
  clear hSF j0 j1 j2
  go_wp2_with fail
  go_ret
  obtain ⟨bv5, eB⟩ := uh HB5
  have e56 := (eB _).trans (e6.mono (eB _).size)
  exact ⟨rfl, bv5.trans (e56.mono bv5.size)⟩
end Go.Proofs.YtnkaoapnooanlaaGreat.cu
