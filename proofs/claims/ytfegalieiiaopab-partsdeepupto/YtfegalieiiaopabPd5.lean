import Derived.Test.YtfegalieiiaopabPd4
namespace Go.Proofs.Ytfegalieiiaopab.cu
open Go.ChangeShapes Go.WideShapes Go.ChangeAt Go.RowKit
open ints (hide unhide)
open dt (Dt Kp RowAt Ow OwIn)
open mem (Row)
set_option linter.unusedVariables false
set_option linter.unusedSimpArgs false
theorem infoB : ∃ i z, Try.prog.info? 5 = some i ∧ i.zero = some z ∧ i.size = 1 ∧ i.bytes = 1 ∧ z.cells.size = 1 := by
  have hin : (Try.prog.info? 5).map (fun i => (i.bytes, i.size, i.zero.map (·.cells.size))) = some (1, 1, some 1) := by kernel_rfl
  cases hq : Try.prog.info? 5 with
  | none => simp [hq] at hin
  | some i =>
    simp [hq] at hin
    obtain ⟨h1, h2, z, hz, h3⟩ := hin
    exact ⟨i, z, rfl, hz, h2, h1, h3⟩
theorem infoN : ∃ i z, Try.prog.info? 3 = some i ∧ i.zero = some z ∧ i.size = 1 ∧ i.bytes = 8 ∧ z.cells.size = 1 := by
  have hin : (Try.prog.info? 3).map (fun i => (i.bytes, i.size, i.zero.map (·.cells.size))) = some (8, 1, some 1) := by kernel_rfl
  cases hq : Try.prog.info? 3 with
  | none => simp [hq] at hin
  | some i =>
    simp [hq] at hin
    obtain ⟨h1, h2, z, hz, h3⟩ := hin
    exact ⟨i, z, rfl, hz, h2, h1, h3⟩
def colsL (t : List Bool) : List Int := (List.range t.length).map (fun i => ((opD (t.take i)).length : Int) + 1)
theorem colsL_snoc (t : List Bool) (b : Bool) : colsL (t ++ [b]) = colsL t ++ [((opD t).length : Int) + 1] := by
  unfold colsL
  rw [List.length_append, List.length_singleton, List.range_succ, List.map_append]
  congr 1
  · apply List.map_congr_left
    intro i hi
    have : i < t.length := by simpa using hi
    rw [List.take_append_of_le_length (by omega)]
  · simp
theorem opD_snoc (t : List Bool) (b : Bool) : opD (t ++ [b]) = opD t ++ (if b then [123, 97, 58] else [91]) := by unfold opD; simp
theorem opD_len (t : List Bool) : (opD t).length ≤ 3 * t.length := by
  induction t with
  | nil => simp [opD]
  | cons b r ih => cases b <;> simp [opD] at * <;> omega
/-- what the first loop keeps -/
structure D1 (B : Nat) (w : World) (vs vc : Value) (t : List Bool) : Prop where
  s : w.ownsRow B 5 1 vs (opD t).length ((opD t).map (Value.int .u8))
  c : w.ownsRow B 3 1 vc t.length ((colsL t).map (Value.int .i64))
def kb (x : Int) : Bool := decide (x % 2 = 1)
theorem take_kb {ms : List Int} {k : Nat} (h : k < ms.length) : (ms.map kb).take (k + 1) = (ms.map kb).take k ++ [kb (ms.getD k 0)] := by
  rw [List.take_add_one]
  congr 1
  simp [h]
set_option maxRecDepth 4000 in
set_option maxHeartbeats 4000000 in
theorem law_deep (a : Option Addr) (n c : Nat) (ms : List Int) (d : Int) (w : World) (h : Row .u8 w a n c ms) (hb : mem.Byt ms) (hn : n ≤ 1048576) (hd : (Lit.int .i64 d).wf = true) :
    Calls Try.prog 4 #[.slice a n c, .int .i64 d] w fun e w' => e = .returned (.bool true) ∧ Below w.heap.size w w' := by
  obtain ⟨it, zt, q1, q2, q3, q4, q5⟩ := infoB
  have HQ := hide (And.intro q1 (And.intro q2 (And.intro q3 (And.intro q4 q5))))
  clear q1 q2 q3 q4 q5
  obtain ⟨jt, yt, q1, q2, q3, q4, q5⟩ := infoN
  have HN := hide (And.intro q1 (And.intro q2 (And.intro q3 (And.intro q4 q5))))
  clear q1 q2 q3 q4 q5
  obtain ⟨i0, hi0, hz0, hz1, hz2⟩ := info_parts mem.info8
  have H8 := hide (And.intro hi0 (And.intro hz0 (And.intro hz1 hz2)))
  clear hi0 hz0 hz1 hz2
  have hone : ∀ x : Int, Hid (∀ u ∈ [Value.int .u8 x], u.oneCell' = true) := fun x => hide (by intro u hu; simp at hu; subst hu; rfl)
  have honi : ∀ x : Int, Hid (∀ u ∈ [Value.int .i64 x], u.oneCell' = true) := fun x => hide (by intro u hu; simp at hu; subst hu; rfl)
  have hne : (5 : TypeId) ≠ 3 := by decide
  have hF := hide (fixed_ok w)
  have hl := hide h.len
  obtain ⟨ks, hks⟩ : ∃ ks, ks = ms.map kb := ⟨_, rfl⟩
  have hkl := hide (show ks.length = n from by rw [hks, List.length_map, h.len])
  have Hks := hide hks
  clear hks
  go_enter Try.func4, Try.ntmps4
  go_wp2_with fail
  refine (unhide hF).mono ?_
  rintro e w1 ⟨rfl, b1⟩
  clear hF
  go_wp2_with fail
  go_loopg [5, 6, 7] (n + 1) (fun g vs vc vi wr => ∃ k : Nat, k ≤ n ∧ n + 1 ≤ g + k ∧ vi = .int .i64 k ∧ Hid (D1 w1.heap.size wr vs vc (ks.take k)) ∧ Below w1.heap.size w1 wr)
  case atStart => exact ⟨0, Nat.zero_le _, by omega, rfl, hide ⟨World.ownsRow_nil _ _ _ _, World.ownsRow_nil _ _ _ _⟩, Below.refl _ _⟩
  case round =>
    obtain ⟨k, hk, hg, rfl, hD, hbr⟩ := hrel
    by_cases hlt : k < n
    · have ki : (k : Int) < (n : Int) := by omega
      rcases h.at_ with h0 | ⟨ab, off, rfl, hab, hcell⟩
      · omega
      have hx := mem.byt_getD hb k
      have htk := take_kb (ms := ms) (k := k) (by rw [unhide hl]; exact hlt)
      rw [← unhide Hks] at htk
      have c1 := ((b1.trans (hbr.mono b1.size)).cell (p := ⟨ab, off + k, none⟩) hab).trans (hcell k hlt)
      obtain ⟨x, ex⟩ : ∃ x, x = ms.getD k 0 := ⟨_, rfl⟩
      rw [← ex] at c1 hx htk
      clear ex hcell
      obtain ⟨t, et⟩ : ∃ t, t = ks.take k := ⟨_, rfl⟩
      have htl : t.length ≤ k := by rw [et]; simp; omega
      rw [← et] at hD htk
      clear et
      have hol := opD_len t
      obtain ⟨a5, c5, rfl, hrs⟩ := mem.own_row (unhide hD).s
      clear hrs
      have hsz := hbr.size
      have Htk := hide htk
      clear htk
      have hsw : ab < w1.heap.size := Nat.lt_of_lt_of_le hab b1.size
      by_cases hpar : x % 2 = 0
      · go_wp2_with (first
          | (at_builtin; refine dt.wp_snoc (by rfl) _ _ (by rfl) Try.underlying43 (unhide HN).1 (unhide HN).2.1 (unhide HN).2.2.1 (unhide HN).2.2.2.1 (unhide HN).2.2.2.2 (by omega) w1.heap.size t.length ((colsL t).map (Value.int .i64)) _ (by rfl) (unhide hD).c [.int .i64 (((opD t).length : Int) + 1)] (by rfl) (unhide (honi _)) _ rfl (by rfl) (by omega) (by unfold maxLen; omega) hsz ?_; intro sl' w7 hr7 b7 hold7 hat7; have M7 := hide (And.intro hr7 (dt.owns_keep (unhide hD).s (fun b hb _ ho => hold7 b hb (fun e => two_types (unhide hD).s (unhide hD).c hne b ho e)))); have hsz7 := Nat.le_trans hsz b7.size; have c7 := (b7.cell (p := ⟨ab, off + k, none⟩) hsw).trans c1; have B7 := hide b7; clear hr7 b7 hold7 hat7)
          | (at_builtin; refine dt.wp_snoc (by rfl) _ _ (by rfl) Try.underlying22 (unhide HQ).1 (unhide HQ).2.1 (unhide HQ).2.2.1 (unhide HQ).2.2.2.1 (unhide HQ).2.2.2.2 (by omega) w1.heap.size (opD t).length ((opD t).map (Value.int .u8)) _ (by rfl) (unhide M7).2 [.int .u8 91] (by rfl) (unhide (hone 91)) _ rfl (by rfl) (by omega) (by unfold maxLen; omega) hsz7 ?_; intro sl2 w8 hr8 b8 hold8 hat8; have M8 := hide (And.intro hr8 (dt.owns_keep (unhide M7).1 (fun b hb _ ho => hold8 b hb (fun e => two_types (unhide M7).2 (unhide M7).1 hne b e ho)))); have B8 := hide b8; clear hr8 b8 hold8 hat8))
        go_roundg (gk - 1)
        case rel =>
          obtain ⟨r1, r2⟩ := unhide M8
          have hb0 : kb x = false := by unfold kb; simp; omega
          refine ⟨k + 1, by omega, by omega, by go_num, hide ?_, (hbr.trans (unhide B7)).trans (unhide B8)⟩
          rw [unhide Htk, hb0]
          refine ⟨?_, ?_⟩
          · rw [opD_snoc]; simpa using r1
          · rw [colsL_snoc]; simpa using r2
        case measure => omega
      · have hpar1 : x % 2 = 1 := by omega
        go_wp2_with (first
          | (at_builtin; refine dt.wp_snoc (by rfl) _ _ (by rfl) Try.underlying43 (unhide HN).1 (unhide HN).2.1 (unhide HN).2.2.1 (unhide HN).2.2.2.1 (unhide HN).2.2.2.2 (by omega) w1.heap.size t.length ((colsL t).map (Value.int .i64)) _ (by rfl) (unhide hD).c [.int .i64 (((opD t).length : Int) + 1)] (by rfl) (unhide (honi _)) _ rfl (by rfl) (by omega) (by unfold maxLen; omega) hsz ?_; intro sl' w7 hr7 b7 hold7 hat7; have M7 := hide (And.intro hr7 (dt.owns_keep (unhide hD).s (fun b hb _ ho => hold7 b hb (fun e => two_types (unhide hD).s (unhide hD).c hne b ho e)))); have hsz7 := Nat.le_trans hsz b7.size; have c7 := (b7.cell (p := ⟨ab, off + k, none⟩) hsw).trans c1; have B7 := hide b7; clear hr7 b7 hold7 hat7)
          | (at_builtin; refine Lib.wpList_append_own_string _ rfl _ _ 22 9 rfl w1.heap.size 5 i0 Try.underlying22 Try.underlying9 (unhide H8).1 (unhide H8).2.1 (unhide H8).2.2.1 (unhide H8).2.2.2 _ _ _ rfl (unhide M7).2 ⟨#[123, 97, 58]⟩ rfl (by show _ + 3 ≤ _; unfold maxLen; omega) (by show _ + 3 ≤ _; omega) hsz7 ?_; intro sl2 w8 hr8 hgr8 _; have M8 := hide (And.intro hr8 (dt.owns_keep (unhide M7).1 (fun b hb _ ho => hgr8.block b hb (fun e => two_types (unhide M7).2 (unhide M7).1 hne b e.symm ho)))); have B8 := hide ((Below.refl w1.heap.size w7).grown hgr8 hsz7 (fun q hq => ((unhide M7).2.lt q hq).1)); clear hr8 hgr8))
        go_roundg (gk - 1)
        case rel =>
          obtain ⟨r1, r2⟩ := unhide M8
          have hb0 : kb x = true := by unfold kb; simp; omega
          refine ⟨k + 1, by omega, by omega, by go_num, hide ?_, (hbr.trans (unhide B7)).trans (unhide B8)⟩
          rw [unhide Htk, hb0]
          refine ⟨?_, ?_⟩
          · rw [opD_snoc]
            have e3 : (opD t ++ (if true = true then [123, 97, 58] else [91])).length = (opD t).length + (⟨#[123, 97, 58]⟩ : ByteArray).size := by simp; rfl
            rw [e3, List.map_append]
            exact r1
          · rw [colsL_snoc]; simpa using r2
        case measure => omega
    · obtain rfl : k = n := by omega
      have htn : ks.take k = ks := List.take_of_length_le (by rw [unhide hkl]; exact Nat.le_refl _)
      rw [htn] at hD
      clear htn
      have hol := opD_len ks
      rw [unhide hkl] at hol
      obtain ⟨a5, c5, rfl, hrs⟩ := mem.own_row (unhide hD).s
      clear hrs
      have hsz := hbr.size
      obtain ⟨NA, hNA⟩ : ∃ NA, NA = (opD ks).length := ⟨_, rfl⟩
      rw [← hNA] at hol ⊢
      have HNA := hide hNA
      have HD := hide (show wr.ownsRow w1.heap.size 5 1 (.slice a5 NA c5) NA ((opD ks).map (Value.int .u8)) from by rw [hNA]; exact (unhide hD).s)
      have HC := hide (unhide hD).c
      clear hD hNA
      go_wp2_with (first
        | (at_builtin; refine dt.wp_snoc (by rfl) _ _ (by rfl) Try.underlying22 (unhide HQ).1 (unhide HQ).2.1 (unhide HQ).2.2.1 (unhide HQ).2.2.2.1 (unhide HQ).2.2.2.2 (by omega) w1.heap.size NA ((opD ks).map (Value.int .u8)) _ (by rfl) (unhide HD) [.int .u8 49] (by rfl) (unhide (hone 49)) _ rfl (by rfl) (by omega) (by unfold maxLen; omega) hsz ?_; intro sl' w7 hr7 b7 hold7 hat7; have M7 := hide (And.intro hr7 (dt.owns_keep (unhide HC) (fun b hb _ ho => hold7 b hb (fun e => two_types (unhide HD) (unhide HC) hne b e ho)))); have hsz7 := Nat.le_trans hsz b7.size; have B7 := hide (hbr.trans b7); clear hr7 b7 hold7 hat7))
      clear hsz hbr HD HC
      go_loopg [5, 9] (k + 1) (fun g vs vi wq => ∃ (j : Nat) (z : Int), j ≤ k ∧ j + 1 ≤ g ∧ vi = .int .i64 z ∧ z = (j : Int) - 1 ∧ Hid (wq.ownsRow w1.heap.size 5 1 vs (NA + 1 + (k - j)) ((opD ks ++ [49] ++ clD (ks.drop j)).map (Value.int .u8))) ∧ Hid (wq.ownsRow w1.heap.size 3 1 u6 ks.length ((colsL ks).map (Value.int .i64))) ∧ Below w1.heap.size w1 wq)
      case atStart =>
        obtain ⟨r1, r2⟩ := unhide M7
        refine ⟨k, (k : Int) - 1, Nat.le_refl _, Nat.le_refl _, rfl, rfl, hide ?_, hide r2, unhide B7⟩
        rw [List.drop_of_length_le (by rw [unhide hkl]; exact Nat.le_refl _), Nat.sub_self]
        simpa [clD] using r1
      case round =>
        obtain ⟨j, z, hjk, hjg, rfl, hz, hos, hoc, hbq⟩ := hrel
        have hsq := hbq.size
        cases j with
        | zero =>
          obtain rfl : z = -1 := by omega
          clear hz
          have hsrc : opD ks ++ [49] ++ clD (ks.drop 0) = srcD ks := by rw [srcD_eq]; rfl
          rw [hsrc] at hos
          have hll := (unhide hos).1
          rw [List.length_map, Nat.mul_one] at hll
          rw [← hll] at hos
          have HLL := hide hll
          clear hsrc hll
          obtain ⟨as5, cs5, rfl, hrow⟩ := mem.own_row (unhide hos)
          have hle := srcD_le ks
          rw [unhide hkl] at hle
          have hRL := hide (readLit_ok as5 (srcD ks).length cs5 (srcD ks) true d wr hrow (by omega) (srcD_plain ks) hd)
          obtain ⟨SL, hSL⟩ : ∃ SL, SL = (srcD ks).length := ⟨_, rfl⟩
          rw [← hSL] at hRL hle ⊢
          clear hSL hrow hos
          go_wp2_with fail
          refine (unhide hRL).mono ?_
          rintro e w4 ⟨vs4, F4, fs, rfl, hpo, hfl, b4⟩
          obtain ⟨kk, tt, bl, ai, ni, ci, af, nf, cf, ln, co, rfl⟩ := hpo.shape
          have hlim : (min (max d 0) 200) = ((mostS d : Nat) : Int) := by unfold mostS; omega
          obtain ⟨M, hM⟩ : ∃ M, M = mostS d := ⟨_, rfl⟩
          rw [← hM] at hlim
          have hfin := hide (b1.trans ((hbq.trans (b4.mono hsq)).mono b1.size))
          clear hRL
          have two : ∀ o o', Below w4.heap.size w4 ((w4.alloc o).alloc o') := fun o o' => ((Below.refl _ _).alloc (Nat.le_refl _) o).alloc (by simp) o'
          have hfin2 := hide (fun o o' => (unhide hfin).trans ((two o o').mono (unhide hfin).size))
          by_cases hdp : k ≤ M
          · obtain ⟨r1, r2⟩ := readD_yes ks d (by rw [← hM, unhide hkl]; exact hdp)
            rw [r1] at hpo
            unfold FltAt at hfl
            rw [if_pos r2] at hfl
            subst hfl
            clear r1 r2 hM
            have HO := hide hpo.own
            clear hpo
            have hdp' : ¬ ((M : Int) < (k : Int)) := by omega
            go_wp2_with fail
            have hV0 : ((w4.alloc (.cells #[Value.int .i64 kk, .string tt, .bool bl, .slice ai ni ci, .slice af nf cf, .int .i64 ln, .int .i64 co] 32)).alloc (.cells #[Value.int .i64 0, .slice none 0 0, .slice none 0 0] 37)).heap[w4.heap.size]? = some (.cells #[Value.int .i64 kk, .string tt, .bool bl, .slice ai ni ci, .slice af nf cf, .int .i64 ln, .int .i64 co] 32 (0, 0)) := (Below.heap_alloc _ _ w4.heap.size (by simp)).trans (heap_alloc_new w4 _)
            have hF0 : ((w4.alloc (.cells #[Value.int .i64 kk, .string tt, .bool bl, .slice ai ni ci, .slice af nf cf, .int .i64 ln, .int .i64 co] 32)).alloc (.cells #[Value.int .i64 0, .slice none 0 0, .slice none 0 0] 37)).heap[w4.heap.size + 1]? = some (.cells #[Value.int .i64 0, .slice none 0 0, .slice none 0 0] 37 (0, 0)) := by
              have := heap_alloc_new (w4.alloc (.cells #[Value.int .i64 kk, .string tt, .bool bl, .slice ai ni ci, .slice af nf cf, .int .i64 ln, .int .i64 co] 32)) (.cells #[Value.int .i64 0, .slice none 0 0, .slice none 0 0] 37)
              simpa using this
            have bV0 := two (.cells #[Value.int .i64 kk, .string tt, .bool bl, .slice ai ni ci, .slice af nf cf, .int .i64 ln, .int .i64 co] 32) (.cells #[Value.int .i64 0, .slice none 0 0, .slice none 0 0] 37)
            obtain ⟨W5, eW5⟩ : ∃ W5, W5 = (w4.alloc (.cells #[Value.int .i64 kk, .string tt, .bool bl, .slice ai ni ci, .slice af nf cf, .int .i64 ln, .int .i64 co] 32)).alloc (.cells #[Value.int .i64 0, .slice none 0 0, .slice none 0 0] 37) := ⟨_, rfl⟩
            rw [← eW5] at hV0 hF0 bV0 ⊢
            have hdec : decide (M < k) = false := decide_eq_false (by omega)
            simp only [hdec]
            clear eW5 two hdec hlim
            go_loopg [] (ks.length + 1) (fun g wx => ∃ (o : Nat) (r : List Bool) (cs : List Value) (G : List Nat), Hid (Ow w4 (dD o r) cs G) ∧ Hid (wx.heap[w4.heap.size]? = some (.cells cs.toArray 32 (0, 0))) ∧ Hid (wx.heap[w4.heap.size + 1]? = some (.cells #[Value.int .i64 0, .slice none 0 0, .slice none 0 0] 37 (0, 0))) ∧ Below w4.heap.size w4 wx ∧ Hid (o + (opD r).length = NA) ∧ r.length + 1 ≤ g)
            case atStart => exact ⟨0, ks, _, _, HO, hide hV0, hide hF0, bV0, hide (by rw [Nat.zero_add]; exact (unhide HNA).symm), Nat.le_refl _⟩
            case round =>
              obtain ⟨o, r, cs, G, hO, hV, hFx, hbx, hoo, hrg⟩ := hrel
              have f0 : wr.cell? ⟨w4.heap.size + 1, 0, none⟩ = some (.int .i64 0) := (dt.cell_cells (unhide hFx) 0).trans rfl
              cases r with
              | nil =>
                obtain ⟨xa, xc, xa', xc', rfl⟩ := dD_end (unhide hO)
                have v0 : wr.cell? ⟨w4.heap.size, 0, none⟩ = some (.int .i64 2) := (dt.cell_cells (unhide hV) 0).trans rfl
                have v1 : wr.cell? ⟨w4.heap.size, 1, none⟩ = some (.string ⟨#[49]⟩) := (dt.cell_cells (unhide hV) 1).trans rfl
                have v3 : wr.cell? ⟨w4.heap.size, 3, none⟩ = some (.slice xa 0 xc) := (dt.cell_cells (unhide hV) 3).trans rfl
                have v4 : wr.cell? ⟨w4.heap.size, 4, none⟩ = some (.slice xa' 0 xc') := (dt.cell_cells (unhide hV) 4).trans rfl
                have v5 : wr.cell? ⟨w4.heap.size, 5, none⟩ = some (.int .i64 1) := (dt.cell_cells (unhide hV) 5).trans rfl
                have ho : o = NA := by have := unhide hoo; simpa [opD] using this
                subst ho
                have v6 : wr.cell? ⟨w4.heap.size, 6, none⟩ = some (.int .i64 ((o : Int) + 1)) := (dt.cell_cells (unhide hV) 6).trans rfl
                go_wp2_with fail
                go_ret
                exact ⟨rfl, (unhide hfin).trans (hbx.mono (unhide hfin).size)⟩
              | cons b r =>
                obtain ⟨p, es, G', x0, xa, xc, xa', xc', x5, x6, rfl, hp, hra, hes, hpl⟩ := dD_step (unhide hO)
                obtain ⟨k2, t2, b2, ai2, ni2, ci2, af2, nf2, cf2, ln2, co2, rfl⟩ := dD_shape hes
                cases b
                · obtain rfl : xa = some ⟨p, 0, none⟩ := hp
                  have v3 : wr.cell? ⟨w4.heap.size, 3, none⟩ = some (.slice (some ⟨p, 0, none⟩) 1 xc) := (dt.cell_cells (unhide hV) 3).trans rfl
                  have v4 : wr.cell? ⟨w4.heap.size, 4, none⟩ = some (.slice xa' 0 xc') := (dt.cell_cells (unhide hV) 4).trans rfl
                  have hrg2 := hide (show wr.rangeAt p 0 [.int .i64 k2, .string t2, .bool b2, .slice ai2 ni2 ci2, .slice af2 nf2 cf2, .int .i64 ln2, .int .i64 co2] from fun j u hu => (dt.cell_blk (hbx.block p hpl) _).trans (hra j u hu))
                  have hth := hide (show wr.there w4.heap.size 0 7 from dt.there_cells (unhide hV) (by simp))
                  have HES := hide hes
                  clear hra hes
                  go_wp2_with (first
                    | refine wpList_load_mid (by rfl) 32 _ (by rfl) p 0 (by rfl) [.int .i64 k2, .string t2, .bool b2, .slice ai2 ni2 ci2, .slice af2 nf2 cf2, .int .i64 ln2, .int .i64 co2] _ (unhide hrg2) Try.underlying32 (by rfl) infoLt ?_
                    | refine wpList_store_mid (by rfl) 32 _ _ (by rfl) w4.heap.size 0 #[.int .i64 k2, .string t2, .bool b2, .slice ai2 ni2 ci2, .slice af2 nf2 cf2, .int .i64 ln2, .int .i64 co2] (by rfl) (by rfl) (unhide hth) infoLt (dt.one_cells (cs := [.int .i64 k2, .string t2, .bool b2, .slice ai2 ni2 ci2, .slice af2 nf2 cf2, .int .i64 ln2, .int .i64 co2]) (by rfl)) ?_)
                  go_roundg (gk - 1)
                  case rel =>
                    refine ⟨o + 1, r, _, _, HES, hide ((dt.setCells_at [.int .i64 k2, .string t2, .bool b2, .slice ai2 ni2 ci2, .slice af2 nf2 cf2, .int .i64 ln2, .int .i64 co2] 0 wr _ (unhide hV)).trans rfl), hide ((dt.heap_setCells w4.heap.size (w4.heap.size + 1) (by omega) _ 0 wr).trans (unhide hFx)), dt.below_setCells _ _ _ _ hbx (Nat.le_refl _), hide (by have := unhide hoo; simp [opD] at this ⊢; omega), by simp at hrg; omega⟩
                  case measure => simp at hrg; omega
                · obtain rfl : xa' = some ⟨p, 0, none⟩ := hp
                  have v3 : wr.cell? ⟨w4.heap.size, 3, none⟩ = some (.slice xa 0 xc) := (dt.cell_cells (unhide hV) 3).trans rfl
                  have v4 : wr.cell? ⟨w4.heap.size, 4, none⟩ = some (.slice (some ⟨p, 0, none⟩) 1 xc') := (dt.cell_cells (unhide hV) 4).trans rfl
                  have hrg2 := hide (show wr.rangeAt p 1 [.int .i64 k2, .string t2, .bool b2, .slice ai2 ni2 ci2, .slice af2 nf2 cf2, .int .i64 ln2, .int .i64 co2] from fun j u hu => (dt.cell_blk (hbx.block p hpl) _).trans (hra j u hu))
                  have hth := hide (show wr.there w4.heap.size 0 7 from dt.there_cells (unhide hV) (by simp))
                  have HES := hide hes
                  clear hra hes
                  go_wp2_with (first
                    | refine wpList_load_mid (by rfl) 32 _ (by rfl) p 1 (by rfl) [.int .i64 k2, .string t2, .bool b2, .slice ai2 ni2 ci2, .slice af2 nf2 cf2, .int .i64 ln2, .int .i64 co2] _ (unhide hrg2) Try.underlying32 (by rfl) infoLt ?_
                    | refine wpList_store_mid (by rfl) 32 _ _ (by rfl) w4.heap.size 0 #[.int .i64 k2, .string t2, .bool b2, .slice ai2 ni2 ci2, .slice af2 nf2 cf2, .int .i64 ln2, .int .i64 co2] (by rfl) (by rfl) (unhide hth) infoLt (dt.one_cells (cs := [.int .i64 k2, .string t2, .bool b2, .slice ai2 ni2 ci2, .slice af2 nf2 cf2, .int .i64 ln2, .int .i64 co2]) (by rfl)) ?_)
                  go_roundg (gk - 1)
                  case rel =>
                    refine ⟨o + 3, r, _, _, HES, hide ((dt.setCells_at [.int .i64 k2, .string t2, .bool b2, .slice ai2 ni2 ci2, .slice af2 nf2 cf2, .int .i64 ln2, .int .i64 co2] 0 wr _ (unhide hV)).trans rfl), hide ((dt.heap_setCells w4.heap.size (w4.heap.size + 1) (by omega) _ 0 wr).trans (unhide hFx)), dt.below_setCells _ _ _ _ hbx (Nat.le_refl _), hide (by have := unhide hoo; simp [opD] at this ⊢; omega), by simp at hrg; omega⟩
                  case measure => simp at hrg; omega
          · obtain ⟨r1, r2, r3, r4⟩ := readD_no ks d (by rw [← hM, unhide hkl]; omega)
            unfold FltAt at hfl
            rw [if_neg (by rw [r2]; decide), r2, r3, r4, ← hM] at hfl
            obtain ⟨bb, f1, f2, rfl, f4, f5⟩ := hfl
            clear r1 r2 r3 r4 hM hpo
            have hMk : M < ks.length := by rw [unhide hkl]; omega
            obtain ⟨ac, cc, rfl, hrc⟩ := mem.own_row (unhide hoc)
            have hrc4 := hrc.below b4
            rcases hrc4.at_ with h0 | ⟨bc, offc, rfl, hbc, hcc⟩
            · omega
            have q1 := hcc M hMk
            have hcv : (colsL ks).getD M 0 = (offD ks M : Int) + 1 := by
              unfold colsL
              rw [List.getD_eq_getElem?_getD, List.getElem?_map, List.getElem?_range hMk, offD_eq ks M hMk]
              rfl
            rw [hcv] at q1
            obtain ⟨OM, hOM⟩ : ∃ OM, OM = offD ks M := ⟨_, rfl⟩
            rw [← hOM] at q1 f5
            have p0 : ∀ o o', ((w4.alloc o).alloc o').cell? ⟨bb, 0, none⟩ = some (.int .i64 1) := fun o o' => ((two o o').cell (p := ⟨bb, 0, none⟩) f2).trans f4
            have p1 : ∀ o o', ((w4.alloc o).alloc o').cell? ⟨bb, 1, none⟩ = some (.int .i64 ((OM : Int) + 1)) := fun o o' => ((two o o').cell (p := ⟨bb, 1, none⟩) f2).trans f5
            have p2 : ∀ o o', ((w4.alloc o).alloc o').cell? ⟨bc, offc + M, none⟩ = some (.int .i64 ((OM : Int) + 1)) := fun o o' => ((two o o').cell (p := ⟨bc, offc + M, none⟩) hbc).trans q1
            have hMk1 : (M : Int) < (k : Int) := by omega
            obtain ⟨KL, hKL⟩ : ∃ KL, KL = ks.length := ⟨_, rfl⟩
            rw [← hKL] at hMk ⊢
            have hMk2 : (M : Int) < (KL : Int) := by omega
            clear two hdp f4 f5 q1 hcv hOM hrc hrc4 hcc hoc hKL
            go_wp2_with fail
            go_region
            go_wp2
            go_ret
            exact ⟨rfl, Go.below_drewN ((unhide hfin2) _ _) 1⟩
        | succ m =>
          obtain rfl : z = (m : Int) := by omega
          clear hz
          rcases h.at_ with h0 | ⟨ab, off, rfl, hab, hcell⟩
          · omega
          have hx := mem.byt_getD hb m
          have c1 := ((b1.trans (hbq.mono b1.size)).cell (p := ⟨ab, off + m, none⟩) hab).trans (hcell m (by omega))
          have hdr : ks.drop m = kb (ms.getD m 0) :: ks.drop (m + 1) := by
            rw [unhide Hks]
            have hm : m < ms.length := by rw [unhide hl]; omega
            rw [List.drop_eq_getElem_cons (by simpa using hm)]
            simp [hm]
          obtain ⟨x, ex⟩ : ∃ x, x = ms.getD m 0 := ⟨_, rfl⟩
          rw [← ex] at c1 hx hdr
          have Hdr := hide hdr
          clear ex hcell hdr
          have mi : (m : Int) < (k : Int) := by omega
          have m0 : (0 : Int) ≤ (m : Int) := by omega
          by_cases hpar : x % 2 = 0
          · go_wp2_with (first
              | (at_builtin; refine dt.wp_snoc (by rfl) _ _ (by rfl) Try.underlying22 (unhide HQ).1 (unhide HQ).2.1 (unhide HQ).2.2.1 (unhide HQ).2.2.2.1 (unhide HQ).2.2.2.2 (by omega) w1.heap.size (NA + 1 + (k - (m + 1))) ((opD ks ++ [49] ++ clD (ks.drop (m + 1))).map (Value.int .u8)) _ (by rfl) (unhide hos) [.int .u8 93] (by rfl) (unhide (hone 93)) _ rfl (by rfl) (by omega) (by unfold maxLen; omega) hsq ?_; intro sl' w8 hr8 b8 hold8 hat8; have M8 := hide (And.intro hr8 (dt.owns_keep (unhide hoc) (fun b hb _ ho => hold8 b hb (fun e => two_types (unhide hos) (unhide hoc) hne b e ho)))); have B8 := hide b8; clear hr8 b8 hold8 hat8))
            go_roundg (gk - 1)
            case rel =>
              obtain ⟨r1, r2⟩ := unhide M8
              have hb0 : kb x = false := by unfold kb; simp; omega
              refine ⟨m, (m : Int) - 1, by omega, by omega, by go_num, rfl, hide ?_, hide r2, hbq.trans (unhide B8)⟩
              rw [unhide Hdr, hb0, show NA + 1 + (k - m) = NA + 1 + (k - (m + 1)) + 1 by omega]
              simpa [clD] using r1
            case measure => omega
          · have hpar1 : x % 2 = 1 := by omega
            go_wp2_with (first
              | (at_builtin; refine dt.wp_snoc (by rfl) _ _ (by rfl) Try.underlying22 (unhide HQ).1 (unhide HQ).2.1 (unhide HQ).2.2.1 (unhide HQ).2.2.2.1 (unhide HQ).2.2.2.2 (by omega) w1.heap.size (NA + 1 + (k - (m + 1))) ((opD ks ++ [49] ++ clD (ks.drop (m + 1))).map (Value.int .u8)) _ (by rfl) (unhide hos) [.int .u8 125] (by rfl) (unhide (hone 125)) _ rfl (by rfl) (by omega) (by unfold maxLen; omega) hsq ?_; intro sl' w8 hr8 b8 hold8 hat8; have M8 := hide (And.intro hr8 (dt.owns_keep (unhide hoc) (fun b hb _ ho => hold8 b hb (fun e => two_types (unhide hos) (unhide hoc) hne b e ho)))); have B8 := hide b8; clear hr8 b8 hold8 hat8))
            go_roundg (gk - 1)
            case rel =>
              obtain ⟨r1, r2⟩ := unhide M8
              have hb0 : kb x = true := by unfold kb; simp; omega
              refine ⟨m, (m : Int) - 1, by omega, by omega, by go_num, rfl, hide ?_, hide r2, hbq.trans (unhide B8)⟩
              rw [unhide Hdr, hb0, show NA + 1 + (k - m) = NA + 1 + (k - (m + 1)) + 1 by omega]
              simpa [clD] using r1
            case measure => omega
end Go.Proofs.Ytfegalieiiaopab.cu
