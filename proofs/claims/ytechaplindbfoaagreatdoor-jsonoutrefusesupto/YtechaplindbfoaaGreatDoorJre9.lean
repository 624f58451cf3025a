import Derived.Test.YtechaplindbfoaaGreatDoorJre8
import Derived.Test.YtechaplindbfoaaGreatDoorJpa13
namespace Go.Proofs.YtechaplindbfoaaGreatDoor.jsn
open Go.ChangeShapes Go.WideShapes Go.ChangeAt Go.RowKit
open mem
open vl hiding hide unhide Hid
open ints (hide unhide)
open og (kids ffE ffn flw nmF ffn_kids)
set_option linter.unusedVariables false
set_option linter.unusedSimpArgs false
/-- the first of some faults -/
def fst0 : List Int → Int
  | [] => 0
  | x :: r => if x = 0 then fst0 r else x
theorem ffE_pos {v : Vl} (h : ffE v ≠ 0) : ∃ q, ffn v = some q ∧ flw q.2 = ffE v := by
  unfold ffE at h ⊢
  cases hn : ffn v with
  | none => rw [hn] at h; exact absurd rfl h
  | some q => exact ⟨q, rfl, rfl⟩
theorem ffE_none' {v : Vl} (h : ffE v = 0) : ffn v = none := by
  unfold ffE at h
  cases hn : ffn v with
  | none => rfl
  | some q =>
    rw [hn] at h
    have := List.find?_some (show (og.pts v []).find? (fun q => flw q.2 != 0) = some q from hn)
    simp at this
    exact absurd h this
theorem ffE_kids (v : Vl) (h : flw v = 0) : ffE v = fst0 ((kids v).map (fun q => ffE q.2)) := by
  have e := ffn_kids v
  rw [if_pos h] at e
  unfold ffE at ⊢
  rw [e]
  generalize kids v = L
  induction L with
  | nil => rfl
  | cons q r ih =>
    rw [List.findSome?_cons, List.map_cons, fst0]
    by_cases h0 : ffE q.2 = 0
    · have h1 : (match ffn q.2 with | none => (0 : Int) | some q => flw q.2) = 0 := h0
      rw [ffE_none' h0]
      simp only [Option.map_none]
      first | rw [if_pos trivial] | rw [if_pos rfl]
      exact ih
    · obtain ⟨x, hx, hf⟩ := ffE_pos h0
      have h1 : ¬ (match ffn q.2 with | none => (0 : Int) | some q => flw q.2) = 0 := h0
      rw [hx] at h1 ⊢
      simp only [Option.map_some] at h1 ⊢
      rw [if_neg h1]
theorem jfL_fst : ∀ l : Vls, jfL l = fst0 (l.list.map jfE)
  | .nil => rfl
  | .cons v r => by rw [jfL, Vls.list, List.map_cons, fst0, jfL_fst r]
theorem jfF_fst : ∀ l : Fls, jfF l = fst0 (l.list.map (fun q => jfE q.2))
  | .nil => rfl
  | .cons nm v r => by rw [jfF, Fls.list, List.map_cons, fst0, jfF_fst r]
theorem nm_same : ∀ (l : List ByteArray) (seen : List (List UInt8)), nmF seen l = nmJ seen l
  | [], seen => rfl
  | s :: r, seen => by
    rw [nmF, nmJ, nm_same r]
    rfl
theorem zip_fst {α β : Type} (g : α → β) : ∀ (l : List α) (i : Nat), (l.zipIdx i).map (fun p => g p.1) = l.map g
  | [], i => rfl
  | a :: l, i => by simp only [List.zipIdx_cons, List.map_cons]; rw [zip_fst g l (i + 1)]
/-- Write refuses with the fault that Sound tells -/
theorem jfE_ff : ∀ v : Vl, jfE v = ffE v := by
  refine Vl.all ?_
  intro kd b n f tx ty its fls ihI ihF
  have kidE := ffE_kids (.mk kd b n f tx ty its fls)
  have own : ∀ h : flw (.mk kd b n f tx ty its fls) ≠ 0, ffE (.mk kd b n f tx ty its fls) = flw (.mk kd b n f tx ty its fls) := fun h => (og.ff_own h).2
  have hnm := nm_same (fls.list.map (·.1)) []
  have eI : its.list.map jfE = its.list.map ffE := List.map_congr_left ihI
  have eF : fls.list.map (fun q => jfE q.2) = fls.list.map (fun q => ffE q.2) := List.map_congr_left ihF
  generalize ffE (.mk kd b n f tx ty its fls) = E at *
  rw [jfE, jfL_fst, jfF_fst, eI, eF]
  rw [flw] at kidE own
  rw [kids] at kidE
  rw [hnm] at kidE own
  by_cases h5 : kd = 5
  · subst h5
    simp only [show ¬ ((5 : Int) = 0 ∨ (5 : Int) = 1 ∨ (5 : Int) = 2) by decide, show ¬ ((5 : Int) = 3) by decide, show ¬ ((5 : Int) = 4) by decide, show ¬ ((5 : Int) = 6) by decide, show ¬ ((5 : Int) < 0 ∨ (7 : Int) ≤ 5) by decide, if_true, if_false, forall_const] at kidE own ⊢
    rw [kidE, List.map_map]
    have := zip_fst ffE its.list 0
    simp only [Function.comp_def]
    rw [this]
  by_cases h6 : kd = 6
  · subst h6
    simp only [show ¬ ((6 : Int) = 0 ∨ (6 : Int) = 1 ∨ (6 : Int) = 2) by decide, show ¬ ((6 : Int) = 3) by decide, show ¬ ((6 : Int) = 4) by decide, show ¬ ((6 : Int) = 5) by decide, show ¬ ((6 : Int) < 0 ∨ (7 : Int) ≤ 6) by decide, if_true, if_false] at kidE own ⊢
    by_cases hz : nmJ [] (fls.list.map (·.1)) = 0
    · rw [if_pos hz, kidE hz, List.map_map]
      rfl
    · rw [if_neg hz, own hz]
  simp only [h5, h6, if_false, List.map_nil, fst0] at kidE own ⊢
  by_cases hr : kd < 0 ∨ 7 ≤ kd
  · rw [if_pos hr] at own
    rw [if_neg (by omega), if_neg (by omega), if_neg (by omega), own (by decide)]
  rw [if_neg hr] at kidE own
  by_cases h3 : kd = 3
  · subst h3
    rw [if_pos rfl] at kidE own
    rw [if_neg (by decide), if_pos rfl]
    have hb : og.badF f = fto.badF f := rfl
    rw [hb] at kidE own
    cases hq : fto.badF f
    · rw [hq] at kidE
      rw [kidE (by simp)]
      simp
    · rw [hq] at own
      rw [own (by simp)]
  rw [if_neg h3] at kidE own
  by_cases h4 : kd = 4
  · subst h4
    rw [if_pos rfl] at kidE own
    rw [if_neg (by decide), if_neg (by decide), if_pos rfl]
    have hb : og.clnS tx = cln tx := rfl
    rw [hb] at kidE own
    cases hq : cln tx
    · rw [hq] at own
      rw [own (by simp)]
    · rw [hq] at kidE
      rw [kidE (by simp)]
      simp
  rw [if_neg h4] at kidE
  rw [if_pos (by omega), kidE rfl]
mutual
theorem small_of : ∀ v : Vl, FlV v → wtV v ≤ 1048576 → Small v
  | .mk kd b n f tx ty its fls, h, hw => by
    rw [wtV] at hw
    unfold FlV at h
    unfold Small
    obtain ⟨-, h2, h3, h4⟩ := h
    have l1 : its.list.length ≤ wtI its := by rw [wtI_sum]; exact take_ge wtV wt_pos _
    have l2 : fls.list.length ≤ wtF fls := by rw [wtF_sum]; exact take_ge (fun q : ByteArray × Vl => q.1.size + wtV q.2) (fun q => by have := wt_pos q.2; omega) _
    exact ⟨by omega, by omega, h2, small_ofI its h3 (by omega), small_ofF fls h4 (by omega)⟩
theorem small_ofI : ∀ l : Vls, FlI l → wtI l ≤ 1048576 → SmallI l
  | .nil, h, hw => by unfold SmallI; trivial
  | .cons v r, h, hw => by
    rw [wtI] at hw
    unfold FlI at h
    unfold SmallI
    exact ⟨small_of v h.1 (by omega), small_ofI r h.2 (by omega)⟩
theorem small_ofF : ∀ l : Fls, FlF l → wtF l ≤ 1048576 → SmallF l
  | .nil, h, hw => by unfold SmallF; trivial
  | .cons nm v r, h, hw => by
    rw [wtF] at hw
    unfold FlF at h
    unfold SmallF
    exact ⟨small_of v h.1 (by omega), small_ofF r h.2 (by omega)⟩
end
mutual
theorem cnt_of : ∀ v : Vl, og.cnt v ≤ wtV v
  | .mk kd b n f tx ty its fls => by
    have h1 := cnt_ofI its
    have h2 := cnt_ofF fls
    rw [og.cnt, wtV]
    split
    · omega
    · split <;> omega
theorem cnt_ofI : ∀ l : Vls, og.cntI l ≤ wtI l
  | .nil => Nat.le_refl _
  | .cons v r => by have h1 := cnt_of v; have h2 := cnt_ofI r; rw [og.cntI, wtI]; omega
theorem cnt_ofF : ∀ l : Fls, og.cntF l ≤ wtF l
  | .nil => Nat.le_refl _
  | .cons _ v r => by have h1 := cnt_of v; have h2 := cnt_ofF r; rw [og.cntF, wtF]; omega
end
theorem itB_pos (n : Int) : 1 ≤ (fto.itB n).size := by
  show 1 ≤ (Lib.itoa n).toArray.size
  rw [List.size_toArray]
  have hn : ∀ u, 1 ≤ Lib.nDigits u := fun u => by rw [Lib.nDigits]; split <;> omega
  unfold Lib.itoa
  split
  · rw [List.length_cons]; omega
  · rw [Lib.decDigits_length]; exact hn _
theorem js_pos (v : Vl) (hf : FlV v) (h : jfE v = 0) : 1 ≤ (js NZ v).length := by
  obtain ⟨kd, b, n, f, tx, ty, its, fls⟩ := v
  have hok := okV_of _ hf h
  unfold okV at hok
  unfold js
  rcases hok with rfl | rfl | ⟨rfl, hp⟩ | ⟨rfl, hp⟩ | ⟨rfl, hc⟩ | ⟨rfl, hL⟩ | ⟨rfl, hc, hd, hO⟩
  · simp
  · have e : 1 ≤ ((if b then [116, 114, 117, 101] else [102, 97, 108, 115, 101] : List UInt8)).length := by split <;> simp
    simpa only [show ¬ ((1 : Int) = 0) by decide, if_false, if_true] using e
  · have e : 1 ≤ (NZ.wt n).length := by
      show 1 ≤ (fto.itB n).data.toList.length
      rw [size_list]
      exact itB_pos n
    simpa only [show ¬ ((2 : Int) = 0) by decide, show ¬ ((2 : Int) = 1) by decide, if_false, if_true] using e
  · have e : 1 ≤ (NZ.ft f).length := by
      show 1 ≤ (ftZ f).data.toList.length
      rw [size_list]
      exact (ftZ_ok hp.1 hp.2).2.1
    simpa only [show ¬ ((3 : Int) = 0) by decide, show ¬ ((3 : Int) = 1) by decide, show ¬ ((3 : Int) = 2) by decide, if_false, if_true] using e
  · have e : 1 ≤ (txt tx.data.toList).length := by rw [txt_len]; omega
    simpa only [show ¬ ((4 : Int) = 0) by decide, show ¬ ((4 : Int) = 1) by decide, show ¬ ((4 : Int) = 2) by decide, show ¬ ((4 : Int) = 3) by decide, if_false, if_true] using e
  · simp only [show ¬ ((5 : Int) = 0) by decide, show ¬ ((5 : Int) = 1) by decide, show ¬ ((5 : Int) = 2) by decide, show ¬ ((5 : Int) = 3) by decide, show ¬ ((5 : Int) = 4) by decide, if_false, if_true, List.length_append, List.length_cons, List.length_nil]
    omega
  · simp only [show ¬ ((6 : Int) = 0) by decide, show ¬ ((6 : Int) = 1) by decide, show ¬ ((6 : Int) = 2) by decide, show ¬ ((6 : Int) = 3) by decide, show ¬ ((6 : Int) = 4) by decide, show ¬ ((6 : Int) = 5) by decide, if_false, List.length_append, List.length_cons, List.length_nil]
    omega
set_option maxHeartbeats 4000000 in
set_option maxRecDepth 100000 in
theorem law_refuses (v : Vl) (cs : List Value) (w : World) (hE : fto.Fx w) (hv : VlC w v cs) (hfl : FlV v) (hwt : wtV v ≤ 1048576) :
    Calls Tryz.prog 6 #[.agg cs.toArray] w fun e w' => e = .returned (.bool true) ∧ Below w.heap.size w w' := by
  have hsf := storeF
  have HV := hide hv
  obtain ⟨v', hvv⟩ : ∃ v', v' = v := ⟨_, rfl⟩
  have HW := hide (And.intro hfl hwt)
  cases v with
  | mk kd bb ni f tx ty its fls =>
  rw [← hvv] at HV HW
  have iu := hide (show (Tryz.prog.info? 29).map (·.size) = some cs.length by rw [hv.cells]; exact infoV)
  unfold VlC at hv
  obtain ⟨ai, nI, ci, af, nf, cf, hcs, -⟩ := hv
  clear hvv
  obtain ⟨L, hL⟩ : ∃ L, L = cs := ⟨_, rfl⟩
  rw [← hL] at HV iu
  rw [hcs] at hL ⊢
  have hL2 := hide (show L.toArray = #[.int .i64 kd, .bool bb, .int .i64 ni, .float .f64 f, .string tx, .string ty, .slice ai nI ci, .slice af nf cf] by rw [hL])
  clear hL hcs hfl hwt
  obtain ⟨W0, eW⟩ : ∃ W0, W0 = w.alloc (.cells #[.int .i64 kd, .bool bb, .int .i64 ni, .float .f64 f, .string tx, .string ty, .slice ai nI ci, .slice af nf cf] 29) := ⟨_, rfl⟩
  have b0 : Below w.heap.size w W0 := by rw [eW]; exact (Below.refl _ _).alloc (Nat.le_refl _) _
  have hrng : ∀ W, Below W0.heap.size W0 W → W.rangeAt w.heap.size 0 L := fun W hW => by
    rw [eW] at hW
    have := range_box hW
    rw [← unhide hL2] at this
    exact this
  have EW := hide eW
  have HR := hide hrng
  clear eW hrng
  go_enter Tryz.func6, Tryz.ntmps6
  go_wp2_with fail
  rw [← unhide EW]
  clear EW
  refine (awake_ok W0).mono ?_
  rintro e w1 ⟨rfl, b1⟩
  have r1 := hide (unhide HR w1 b1)
  go_wp2_with (first
    | refine wpList_load_mid (by rfl) 29 _ (by rfl) w.heap.size 0 (by rfl) L _ (unhide r1) Tryz.underlying29 (by rfl) (unhide iu) ?_)
  have v1 := hide (VlC.below (b0.trans (b1.mono b0.size)) _ _ (unhide HV))
  refine (og.sound_ok v' L w1 (unhide v1) (small_of v' (unhide HW).1 (unhide HW).2) (Nat.le_trans (cnt_of v') (unhide HW).2)).mono ?_
  rw [← jfE_ff v']
  generalize hjf : jfE v' = E
  rintro e w2 ⟨aj, nj, cj, rfl, -, b2⟩
  have b02 : Below W0.heap.size W0 w2 := b1.trans (b2.mono b1.size)
  have r2 := hide (unhide HR w2 b02)
  have bw2 : Below w.heap.size w w2 := b0.trans (b02.mono b0.size)
  have v2 := hide (VlC.below bw2 _ _ (unhide HV))
  have E2 := hide (hE.below bw2)
  have JF := hide hjf
  clear r1 v1 hE hjf
  go_wp2_with (first
    | refine wpList_load_mid (by rfl) 29 _ (by rfl) w.heap.size 0 (by rfl) L _ (unhide r2) Tryz.underlying29 (by rfl) (unhide iu) ?_)
  refine (write_any v' L w2 (unhide E2) (unhide v2) (unhide HW).1 (by have := (unhide HW).2; omega)).mono ?_
  rw [unhide JF]
  rintro e w3 ⟨ra, rfl, ho, b3⟩
  obtain ⟨aa, ca, rfl, ct⟩ := own_text ho rfl
  have b03 : Below W0.heap.size W0 w3 := b02.trans (b3.mono b02.size)
  have r3 := hide (unhide HR w3 b03)
  have bw3 : Below w.heap.size w w3 := b0.trans (b03.mono b0.size)
  have v3 := hide (VlC.below bw3 _ _ (unhide HV))
  have E3 := hide ((unhide E2).below b3)
  clear r2 v2 ho ct E2
  go_wp2_with (first
    | refine wpList_load_mid (by rfl) 29 _ (by rfl) w.heap.size 0 (by rfl) L _ (unhide r3) Tryz.underlying29 (by rfl) (unhide iu) ?_)
  refine (size_any v' L w3 (unhide E3) (unhide v3) (unhide HW).1 (by have := (unhide HW).2; omega)).mono ?_
  rw [unhide JF]
  rintro e w4 ⟨rfl, b4⟩
  have hfin := hide (b0.trans ((b03.trans (b4.mono b03.size)).mono b0.size))
  have hl : (E = 0 → 1 ≤ (wv v').length) ∧ (E ≠ 0 → (wv v').length = 0) := by
    refine ⟨fun h => ?_, fun h => ?_⟩
    · unfold wv
      rw [unhide JF, if_pos h]
      exact js_pos v' (unhide HW).1 (by rw [unhide JF, h])
    · unfold wv
      rw [unhide JF, if_neg h]
      rfl
  clear b4 b3 b2 b1 v3 E3 r3 HW HV JF HR b03 b02 bw2 bw3 b0
  generalize (wv v').length = lv at *
  by_cases h0 : E = 0
  · subst h0
    have h1 := hl.1 rfl
    have h2 : ¬ (lv : Int) = 0 := by omega
    clear hl h1
    go_wp2
    go_ret
    refine ⟨?_, unhide hfin⟩
    simp
    omega
  · have h1 := hl.2 h0
    subst h1
    clear hl
    go_wp2
    go_ret
    refine ⟨?_, unhide hfin⟩
    simp [h0]
end Go.Proofs.YtechaplindbfoaaGreatDoor.jsn
