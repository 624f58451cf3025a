import Derived.Test.YtiblkdedbimggaaTct6
import Derived.Test.YtiblkdedbimggaaTct7
import Derived.Test.YtiblkdedbimggaaTct5
namespace Go.Proofs.Ytiblkdedbimggaa.og
open Go.ChangeShapes Go.WideShapes Go.ChangeAt Go.RowKit
open vl hiding cB cFl cS cF cI cK cIt
set_option linter.unusedVariables false
set_option linter.unusedSimpArgs false
theorem two_eq : (ordV twoV twoV == 0) = true := by rw [ordV_self]; rfl
theorem two_ne : (ordV twoV (turnV twoV) == 0) = false := by kernel_rfl
theorem two_cnt : wrap64 (cnt twoV : Nat) = 6 := by
  have : cnt twoV = 6 := by kernel_rfl
  rw [this]
  unfold wrap64
  omega
theorem two_dep : depW twoV = 3 := by kernel_rfl
set_option maxHeartbeats 4000000 in
set_option maxRecDepth 6000 in
theorem known_ok (w : World) : Calls Try.prog 8 #[] w fun e w' => e = .returned (.bool true) ∧ Below w.heap.size w w' := by
  go_enter Try.func8, Try.ntmps8
  go_wp2_with fail
  refine (two_ok _).mono ?_
  rintro e w1 ⟨b1, t1, rfl, v1⟩
  generalize twoC t1 = c1 at *
  go_wp2_with fail
  refine (two_ok _).mono ?_
  rintro e w2 ⟨b2, t2, rfl, v2⟩
  generalize twoC t2 = c2 at *
  go_wp2_with fail
  refine (equal_ok twoV twoV Small.twoV Small.twoV _ _ _ (VlC.below b2 _ _ v1) v2).mono ?_
  rintro e w3 ⟨rfl, b3⟩
  rw [two_eq]
  have B3 : Below w.heap.size w w3 := (b1.trans (b2.mono b1.size)).trans (b3.mono (Nat.le_trans b1.size b2.size))
  clear b1 b2 b3 v1 v2
  go_wp2_with fail
  refine (two_ok _).mono ?_
  rintro e w4 ⟨b4, t3, rfl, v3⟩
  generalize twoC t3 = c3 at *
  go_wp2_with fail
  refine (two_ok _).mono ?_
  rintro e w5 ⟨b5, t4, rfl, v4⟩
  generalize twoC t4 = c4 at *
  go_wp2_with fail
  refine (turned_ok twoV Small.twoV (fun _ => False) c4 _ (fun b hb => hb.elim) (AvC.of _ _ v4)).mono ?_
  rintro e w6 ⟨u, d4, rfl, rfl, a4, b6⟩
  go_wp2_with fail
  refine (equal_ok twoV (turnV twoV) Small.twoV (Small.turn _ Small.twoV) _ _ _ (VlC.below b6 _ _ (VlC.below b5 _ _ v3)) (AvC.read _ _ a4)).mono ?_
  rintro e w7 ⟨rfl, b7⟩
  rw [two_ne]
  have B7 : Below w.heap.size w w7 := by
    have s4 := b4.size; have s5 := b5.size; have s6 := b6.size; have s3 := B3.size
    exact (((B3.trans (b4.mono s3)).trans (b5.mono (by omega))).trans (b6.mono (by omega))).trans (b7.mono (by omega))
  clear b4 b5 b6 b7 v3 v4 a4 B3
  go_wp2_with fail
  refine (two_ok _).mono ?_
  rintro e w8 ⟨b8, t5, rfl, v5⟩
  generalize twoC t5 = c5 at *
  go_wp2_with fail
  refine (two_ok _).mono ?_
  rintro e w9 ⟨b9, t6, rfl, v6⟩
  generalize twoC t6 = c6 at *
  go_wp2_with fail
  refine (turned_ok twoV Small.twoV (fun _ => False) c6 _ (fun b hb => hb.elim) (AvC.of _ _ v6)).mono ?_
  rintro e wa ⟨u, d6, rfl, rfl, a6, ba⟩
  go_wp2_with fail
  refine (same_ok twoV (turnV twoV) Small.twoV (Small.turn _ Small.twoV) _ _ _ (VlC.below ba _ _ (VlC.below b9 _ _ v5)) (AvC.read _ _ a6)).mono ?_
  rintro e wb ⟨v', u', h1, h2, rfl, bb⟩
  rw [show (ordV v' u' == 0) = true by rw [pm_srt twoV Small.twoV _ (Small.turn _ Small.twoV) (Pm.turn twoV) v' u' h1 h2]; rfl]
  have Bb : Below w.heap.size w wb := by
    have s4 := b8.size; have s5 := b9.size; have s6 := ba.size; have s3 := B7.size
    exact (((B7.trans (b8.mono s3)).trans (b9.mono (by omega))).trans (ba.mono (by omega))).trans (bb.mono (by omega))
  clear b8 b9 ba bb v5 v6 a6 B7 h1 h2
  go_wp2_with fail
  refine (two_ok _).mono ?_
  rintro e wc ⟨bc, t7, rfl, v7⟩
  generalize twoC t7 = c7 at *
  go_wp2_with fail
  refine (count_ok twoV Small.twoV _ _ v7).mono ?_
  rintro e wd ⟨rfl, bd⟩
  rw [two_cnt]
  have Bd : Below w.heap.size w wd := (Bb.trans (bc.mono Bb.size)).trans (bd.mono (Nat.le_trans Bb.size bc.size))
  clear bc bd Bb v7
  go_wp2_with fail
  refine (two_ok _).mono ?_
  rintro e we ⟨be, t8, rfl, v8⟩
  generalize twoC t8 = c8 at *
  go_wp2_with fail
  refine (depth_ok twoV Small.twoV _ _ v8).mono ?_
  rintro e wf ⟨rfl, bf⟩
  rw [two_dep]
  have Bf : Below w.heap.size w wf := (Bd.trans (be.mono Bd.size)).trans (bf.mono (Nat.le_trans Bd.size be.size))
  clear be bf Bd v8
  go_wp2
  go_ret
  exact ⟨rfl, Bf⟩
end Go.Proofs.Ytiblkdedbimggaa.og
namespace Go.Proofs.Ytiblkdedbimggaa.og
open Go.ChangeShapes Go.WideShapes Go.ChangeAt Go.RowKit
open vl hiding cB cFl cS cF cI cK cIt
set_option linter.unusedVariables false
set_option linter.unusedSimpArgs false
/-- what was there is there -/
def Gb (a w : World) : Prop := Below a.heap.size a w
theorem Gb.refl (a : World) : Gb a a := Below.refl _ _
theorem Gb.drew {a w : World} (h : Gb a w) : Gb a { w with drawn := w.drawn + 1 } := Below.drew h
theorem Gb.size {a w : World} (h : Gb a w) : a.heap.size ≤ w.heap.size := Below.size h
theorem Gb.trans {a w x : World} (h : Gb a w) (k : Below a.heap.size w x) : Gb a x := Below.trans h k
theorem sum_perm {l m : List Nat} (h : l.Perm m) : l.sum = m.sum := by
  induction h with
  | nil => rfl
  | cons x _ ih => simp [ih]
  | swap x y l => simp; omega
  | trans _ _ h1 h2 => exact h1.trans h2
theorem fmax_perm {l m : List Int} (h : l.Perm m) : ∀ a : Int, l.foldl max a = m.foldl max a := by
  induction h with
  | nil => intro a; rfl
  | cons x _ ih => intro a; exact ih _
  | swap x y l => intro a; simp only [List.foldl_cons]; rw [show max (max a y) x = max (max a x) y by omega]
  | trans _ _ h1 h2 => intro a; exact (h1 a).trans (h2 a)
theorem cnt_turn : ∀ v : Vl, cnt (turnV v) = cnt v := by
  refine Vl.all ?_
  intro kd b n f tx ty its fls hI hF
  rw [turnV, cnt, cnt, cntI_sum, cntI_sum, cntF_sum, cntF_sum, turnI_list, turnF_list]
  have e1 : ((its.list.map turnV).map cnt) = its.list.map cnt := by
    rw [List.map_map]; exact List.map_congr_left (fun v hv => hI v hv)
  have e2 : ((fls.list.reverse.map (fun q => (q.1, turnV q.2)) ++ (Fls.nil).list).map (fun q => cnt q.2)).sum = (fls.list.map (fun q => cnt q.2)).sum := by
    simp only [Fls.list, List.append_nil, List.map_map]
    rw [show fls.list.reverse.map ((fun q : ByteArray × Vl => cnt q.2) ∘ fun q => (q.1, turnV q.2)) = fls.list.reverse.map (fun q => cnt q.2) from List.map_congr_left (fun q hq => hF q (List.mem_reverse.1 hq))]
    exact sum_perm ((List.reverse_perm _).map _)
  rw [e1, e2]
theorem dep_turn : ∀ v : Vl, depW (turnV v) = depW v := by
  refine Vl.all ?_
  intro kd b n f tx ty its fls hI hF
  rw [turnV, depW, depW, mxI_fold, mxI_fold, mxF_fold, mxF_fold, turnI_list, turnF_list]
  have e1 : ((its.list.map turnV).map depW) = its.list.map depW := by
    rw [List.map_map]; exact List.map_congr_left (fun v hv => hI v hv)
  have e2 : ((fls.list.reverse.map (fun q => (q.1, turnV q.2)) ++ (Fls.nil).list).map (fun q => depW q.2)).foldl max 0 = (fls.list.map (fun q => depW q.2)).foldl max 0 := by
    simp only [Fls.list, List.append_nil, List.map_map]
    rw [show fls.list.reverse.map ((fun q : ByteArray × Vl => depW q.2) ∘ fun q => (q.1, turnV q.2)) = fls.list.reverse.map (fun q => depW q.2) from List.map_congr_left (fun q hq => hF q (List.mem_reverse.1 hq))]
    exact fmax_perm ((List.reverse_perm _).map _) 0
  rw [e1, e2]
open Classical in
/-- what tree.Same answers -/
noncomputable def smB (v u : Vl) : Bool := decide (∃ v' u', Srt v v' ∧ Srt u u' ∧ ordV v' u' = 0)
theorem srt_lvl {v v1 v2 : Vl} (hv : Small v) (h1 : Srt v v1) (h2 : Srt v v2) : ordV v1 v2 = 0 := pm_srt v hv v hv (Pm.refl v) v1 v2 h1 h2
theorem ordV_zero_trans {a b c : Vl} (ha : Small a) (hb : Small b) (hc : Small c) (h : ordV a b = 0) (k : ordV b c = 0) : ordV a c = 0 := ((Tr.ordV a ha b hb c hc).1 h).trans k
theorem ordV_zero_symm {a b : Vl} (ha : Small a) (hb : Small b) (h : ordV a b = 0) : ordV b a = 0 := by rw [ordV_anti a b ha hb, h]; rfl
theorem smB_of {v u v' u' : Vl} (hv : Small v) (hu : Small u) (h1 : Srt v v') (h2 : Srt u u') : smB v u = (ordV v' u' == 0) := by
  unfold smB
  by_cases h : ordV v' u' = 0
  · rw [h]
    exact @decide_eq_true _ (_) ⟨v', u', h1, h2, h⟩
  · rw [show (ordV v' u' == 0) = false by simpa using h]
    refine @decide_eq_false _ (_) ?_
    rintro ⟨a, b, ka, kb, k⟩
    have sa := Srt.small _ _ hv ka
    have sb := Srt.small _ _ hu kb
    have s1 := Srt.small _ _ hv h1
    have s2 := Srt.small _ _ hu h2
    exact h (ordV_zero_trans s1 sa s2 (srt_lvl hv h1 ka) (ordV_zero_trans sa sb s2 k (srt_lvl hu kb h2)))
theorem same_okB (v u : Vl) (hv : Small v) (hu : Small u) (cs ds : List Value) (w : World) (h1 : VlC w v cs) (h2 : VlC w u ds) : Calls Try.prog 12 #[.agg cs.toArray, .agg ds.toArray] w fun e w' => e = .returned (.bool (smB v u)) ∧ Below w.heap.size w w' ∧ (∃ v', Srt v v') ∧ ∃ u', Srt u u' :=
  (same_ok v u hv hu cs ds w h1 h2).mono fun e w' ⟨v', u', k1, k2, k3, k4⟩ => ⟨by rw [smB_of hv hu k1 k2]; exact k3, k4, ⟨v', k1⟩, ⟨u', k2⟩⟩
theorem smB_pm {v u : Vl} (hv : Small v) (hu : Small u) (hp : Pm v u) (h1 : ∃ v', Srt v v') (h2 : ∃ u', Srt u u') : smB v u = true := by
  obtain ⟨v', h1⟩ := h1
  obtain ⟨u', h2⟩ := h2
  rw [smB_of hv hu h1 h2, pm_srt v hv u hu hp v' u' h1 h2]
  rfl
theorem smB_symm {v u : Vl} (hv : Small v) (hu : Small u) : smB u v = smB v u := by
  unfold smB
  refine (@decide_eq_decide _ _ (_) (_)).2 ⟨?_, ?_⟩
  · rintro ⟨a, b, ka, kb, k⟩
    exact ⟨b, a, kb, ka, ordV_zero_symm (Srt.small _ _ hu ka) (Srt.small _ _ hv kb) k⟩
  · rintro ⟨a, b, ka, kb, k⟩
    exact ⟨b, a, kb, ka, ordV_zero_symm (Srt.small _ _ hv ka) (Srt.small _ _ hu kb) k⟩
theorem smB_left {v t u : Vl} (hv : Small v) (ht : Small t) (hu : Small u) (hp : Pm v t) (h1 : ∃ v', Srt v v') (h2 : ∃ u', Srt t u') : smB t u = smB v u := by
  unfold smB
  obtain ⟨x, h1⟩ := h1
  obtain ⟨y, h2⟩ := h2
  have sx := Srt.small _ _ hv h1
  have sy := Srt.small _ _ ht h2
  refine (@decide_eq_decide _ _ (_) (_)).2 ⟨?_, ?_⟩
  · rintro ⟨a, b, ka, kb, k⟩
    exact ⟨x, b, h1, kb, ordV_zero_trans sx (Srt.small _ _ ht ka) (Srt.small _ _ hu kb) (pm_srt v hv t ht hp x a h1 ka) k⟩
  · rintro ⟨a, b, ka, kb, k⟩
    exact ⟨y, b, h2, kb, ordV_zero_trans sy (Srt.small _ _ hv ka) (Srt.small _ _ hu kb) (ordV_zero_symm (Srt.small _ _ hv ka) sy (pm_srt v hv t ht hp a y ka h2)) k⟩
end Go.Proofs.Ytiblkdedbimggaa.og
namespace Go.Proofs.Ytiblkdedbimggaa.og
open Go.ChangeShapes Go.WideShapes Go.ChangeAt Go.RowKit
open vl hiding cB cFl cS cF cI cK cIt
open stp (c3 c3_lt c3_gt c3_eq cB cB_tri)
open mem (dec_fin dec_inf dec_nan word_of order_fin sv)
set_option linter.unusedVariables false
set_option linter.unusedSimpArgs false
set_option maxHeartbeats 4000000 in
theorem rkind_ok (v : Vl) (cs : List Value) (w w0 : World) (hv : VlC w0 v cs) : Calls Try.prog 28 #[.agg cs.toArray] w fun e w' => e = .returned (.int .i64 (kdV v)) ∧ Below w.heap.size w w' := by
  obtain ⟨kd, b, n, f, tx, ty, its, fls⟩ := v
  unfold VlC at hv
  obtain ⟨ai, ni, ci, af, nf, cf, rfl, -⟩ := hv
  unfold kdV
  have hB : Below w.heap.size w (w.alloc (.cells #[.int .i64 kd, .bool b, .int .i64 n, .float .f64 f, .string tx, .string ty, .slice ai ni ci, .slice af nf cf] 27)) := (Below.refl _ _).alloc (Nat.le_refl _) _
  by_cases h1 : kd < 0
  · have hr := hide (show kdOf kd = 0 by unfold kdOf; rw [if_pos (.inl h1)])
    go_enter Try.func28, Try.ntmps28
    go_wp2
    go_ret
    exact ⟨by rw [unhide hr]; rfl, hB⟩
  · by_cases h2 : 7 < kd
    · have hr := hide (show kdOf kd = 0 by unfold kdOf; rw [if_pos (.inr h2)])
      go_enter Try.func28, Try.ntmps28
      go_wp2
      go_ret
      exact ⟨by rw [unhide hr]; rfl, hB⟩
    · have hr := hide (show kdOf kd = kd by unfold kdOf; rw [if_neg (by omega)])
      go_enter Try.func28, Try.ntmps28
      go_wp2
      go_ret
      exact ⟨by rw [unhide hr]; rfl, hB⟩
theorem keyF_inj (a b : Nat) (ha : a < 18446744073709551616) (hb : b < 18446744073709551616) (na : nanF a = false) (nb : nanF b = false) (h : keyF a = keyF b) : a = b := by
  unfold keyF at h
  rw [na, nb] at h
  simp only [Bool.false_eq_true, if_false] at h
  by_cases h1 : 9223372036854775808 ≤ a <;> by_cases h2 : 9223372036854775808 ≤ b <;> simp only [h1, h2, if_true, if_false] at h <;> omega
theorem cFl_num (a b : Nat) (ha : a < 18446744073709551616) (hb : b < 18446744073709551616) (na : nanF a = false) (nb : nanF b = false) : (cFl a b == 0) = (a == b) := by
  by_cases h : a = b
  · subst h
    simp [cFl, sameF]
  · rw [show (a == b) = false by simpa using h, cFl_key a b ha hb]
    have : c3 (keyF a) (keyF b) ≠ 0 := fun e => h (keyF_inj a b ha hb na nb (c3_zero e))
    simpa using this
theorem cFl_one (a b : Nat) (ha : a < 18446744073709551616) (hb : b < 18446744073709551616) (h : nanF a ≠ nanF b) : (cFl a b == 0) = false := by
  have : c3 (keyF a) (keyF b) ≠ 0 := fun e => by
    have e := c3_zero e
    unfold keyF at e
    cases ha' : nanF a <;> cases hb' : nanF b <;> simp only [ha', hb', Bool.false_eq_true, if_false, if_true] at e h
    · exact h rfl
    · split at e <;> omega
    · split at e <;> omega
    · exact h rfl
  rw [cFl_key a b ha hb]
  simpa using this
theorem cFl_two (a b : Nat) (na : nanF a = true) (nb : nanF b = true) : (cFl a b == 0) = true := by
  simp [cFl, sameF, na, nb]
theorem ord_eq (a b : Nat) (ha : a < 18446744073709551616) (hb : b < 18446744073709551616) (na : nanF a = false) (nb : nanF b = false) (hz : ¬ (a % 9223372036854775808 = 0 ∧ b % 9223372036854775808 = 0)) : (FloatKind.f64.format.order a b == some Ordering.eq) = (a == b) := by
  by_cases h : a = b
  · subst h
    rw [(ordSelf a ha).2, na]
    simp
  · rw [show (a == b) = false by simpa using h]
    have nA : a % 9223372036854775808 ≤ 9218868437227405312 := by unfold nanF at na; simpa using na
    have nB : b % 9223372036854775808 ≤ 9218868437227405312 := by unfold nanF at nb; simpa using nb
    have ho := ord_num (sgn a) (sgn b) _ _ nA nB
    unfold sgn at ho
    rw [word_of a ha, word_of b hb] at ho
    rw [ho]
    have vm : ∀ x y : Nat, x < y → mem.vR x < mem.vR y := fun x y h => mem.vR_mono h
    have z0 : mem.vR 0 = 0 := by simp [mem.vR, mem.mantR, mem.b52]
    have hzz : ∀ x : Nat, mem.vR x = 0 → x = 0 := fun x hx => by
      rcases Nat.eq_zero_or_pos x with h | h
      · exact h
      · have := vm 0 x h; omega
    have inj : ∀ x y : Nat, mem.vR x = mem.vR y → x = y := fun x y hx => by
      rcases Nat.lt_trichotomy x y with h | h | h
      · have := vm _ _ h; omega
      · exact h
      · have := vm _ _ h; omega
    have hne : sv (decide (9223372036854775808 ≤ a)) (mem.vR (a % 9223372036854775808)) ≠ sv (decide (9223372036854775808 ≤ b)) (mem.vR (b % 9223372036854775808)) := by
      intro e
      by_cases sa : 9223372036854775808 ≤ a <;> by_cases sb : 9223372036854775808 ≤ b <;> simp only [sa, sb, decide_true, decide_false, sv, if_true, if_false, Bool.false_eq_true] at e
      · have := inj _ _ (show mem.vR (a % 9223372036854775808) = mem.vR (b % 9223372036854775808) by omega); omega
      · have h1 := hzz _ (show mem.vR (a % 9223372036854775808) = 0 by omega)
        have h2 := hzz _ (show mem.vR (b % 9223372036854775808) = 0 by omega)
        exact hz ⟨h1, h2⟩
      · have h1 := hzz _ (show mem.vR (a % 9223372036854775808) = 0 by omega)
        have h2 := hzz _ (show mem.vR (b % 9223372036854775808) = 0 by omega)
        exact hz ⟨h1, h2⟩
      · have := inj _ _ (show mem.vR (a % 9223372036854775808) = mem.vR (b % 9223372036854775808) by omega); omega
    have : compare (sv (decide (9223372036854775808 ≤ a)) (mem.vR (a % 9223372036854775808))) (sv (decide (9223372036854775808 ≤ b)) (mem.vR (b % 9223372036854775808))) ≠ Ordering.eq := fun e => hne (Int.compare_eq_eq.1 e)
    generalize compare (sv (decide (9223372036854775808 ≤ a)) (mem.vR (a % 9223372036854775808))) (sv (decide (9223372036854775808 ≤ b)) (mem.vR (b % 9223372036854775808))) = o at *
    cases o <;> first | rfl | exact absurd rfl this
set_option maxHeartbeats 4000000 in
/-- ref03.SameFloat -/
theorem sfl_ok (a b : Nat) (ha : a < 18446744073709551616) (hb : b < 18446744073709551616) (w : World) : Calls Try.prog 29 #[.float .f64 a, .float .f64 b] w fun e w' => e = .returned (.bool (cFl a b == 0)) ∧ w = w' := by
  obtain ⟨sa, -⟩ := ordSelf a ha
  obtain ⟨sb, -⟩ := ordSelf b hb
  cases na : nanF a with
  | true =>
    rw [na] at sa
    cases nb : nanF b with
    | true =>
      rw [nb] at sb
      rw [cFl_two a b na nb]
      clear ha hb na nb
      go_enter Try.func29, Try.ntmps29
      go_wp2
      go_ret
      exact ⟨rfl, rfl⟩
    | false =>
      rw [nb] at sb
      rw [cFl_one a b ha hb (by rw [na, nb]; decide)]
      clear ha hb na nb
      go_enter Try.func29, Try.ntmps29
      go_wp2
      go_ret
      exact ⟨rfl, rfl⟩
  | false =>
    rw [na] at sa
    cases nb : nanF b with
    | true =>
      rw [nb] at sb
      rw [cFl_one a b ha hb (by rw [na, nb]; decide)]
      clear ha hb na nb
      go_enter Try.func29, Try.ntmps29
      go_wp2
      go_ret
      exact ⟨rfl, rfl⟩
    | false =>
      rw [nb] at sb
      rw [cFl_num a b ha hb na nb]
      by_cases hz : a % 9223372036854775808 = 0 ∧ b % 9223372036854775808 = 0
      · have q0 : ∀ w, (binOp .quo 23 (.float .f64 4607182418800017408) (.float .f64 0)).run Try.prog w = .ok (.float .f64 9218868437227405312) w := fun w => run_float_arith w _ _ _ _ _ _ (by decide)
        have q1 : ∀ w, (binOp .quo 23 (.float .f64 4607182418800017408) (.float .f64 9223372036854775808)).run Try.prog w = .ok (.float .f64 18442240474082181120) w := fun w => run_float_arith w _ _ _ _ _ _ (by decide)
        have z0 : (FloatKind.f64.format.order 0 0 == some Ordering.eq) = true := by decide
        have z1 : (FloatKind.f64.format.order 9223372036854775808 0 == some Ordering.eq) = true := by decide
        have i0 : (FloatKind.f64.format.order 9218868437227405312 9218868437227405312 == some Ordering.eq) = true := by decide
        have i1 : (FloatKind.f64.format.order 18442240474082181120 18442240474082181120 == some Ordering.eq) = true := by decide
        have i2 : (FloatKind.f64.format.order 18442240474082181120 9218868437227405312 == some Ordering.eq) = false := by decide
        have i3 : (FloatKind.f64.format.order 9218868437227405312 18442240474082181120 == some Ordering.eq) = false := by decide
        have y0 : (FloatKind.f64.format.order 0 0 != some Ordering.eq) = false := by decide
        have y1 : (FloatKind.f64.format.order 9223372036854775808 9223372036854775808 != some Ordering.eq) = false := by decide
        rcases (show a = 0 ∨ a = 9223372036854775808 by omega) with rfl | rfl <;> rcases (show b = 0 ∨ b = 9223372036854775808 by omega) with rfl | rfl
        all_goals
          clear ha hb na nb hz sa sb
          go_enter Try.func29, Try.ntmps29
          go_wp2
          go_ret
          exact ⟨rfl, rfl⟩
      · have he := ord_eq a b ha hb na nb hz
        by_cases za : a % 9223372036854775808 = 0
        · have zb : b % 9223372036854775808 ≠ 0 := fun h => hz ⟨za, h⟩
          have oz := ordZero b hb zb
          have oa : (FloatKind.f64.format.order a 0 == some Ordering.eq) = true := by
            rcases (show a = 0 ∨ a = 9223372036854775808 by omega) with rfl | rfl <;> decide
          clear ha hb na nb hz za zb
          go_enter Try.func29, Try.ntmps29
          go_wp2
          go_ret
          exact ⟨by simp [he], rfl⟩
        · have oz := ordZero a ha za
          clear ha hb na nb hz za
          go_enter Try.func29, Try.ntmps29
          go_wp2
          go_ret
          exact ⟨by simp [he], rfl⟩
end Go.Proofs.Ytiblkdedbimggaa.og
namespace Go.Proofs.Ytiblkdedbimggaa.og
open Go.ChangeShapes Go.WideShapes Go.ChangeAt Go.RowKit
open vl hiding cB cFl cS cF cI cK cIt
set_option linter.unusedVariables false
set_option linter.unusedSimpArgs false
/-- a new list that grows: what its elements' cells are -/
def GrV {E : Type} (R : E → List Value → Prop) (t : TypeId) (size : Nat) (B : Nat) (l : List E) (sl : Value) (w : World) : Prop := ∃ xss : List (List Value), w.ownsRow B t size sl l.length xss.flatten ∧ P2 R l xss
theorem P2.snoc {α β : Type} {R : α → β → Prop} {a : α} {b : β} (hab : R a b) : ∀ {l : List α} {r : List β}, P2 R l r → P2 R (l ++ [a]) (r ++ [b])
  | [], [], _ => ⟨hab, trivial⟩
  | _ :: _, _ :: _, h => ⟨h.1, P2.snoc hab h.2⟩
  | [], _ :: _, h => h.elim
  | _ :: _, [], h => h.elim
theorem GrV.nil {E : Type} {R : E → List Value → Prop} {t : TypeId} {size B : Nat} {w : World} : GrV R t size B [] (.slice none 0 0) w := ⟨[], ⟨by simp, .inl ⟨rfl, rfl⟩⟩, trivial⟩
theorem GrV.kept {E : Type} {R : E → List Value → Prop} {t : TypeId} {size B : Nat} {l : List E} {sl : Value} {w w' : World} {row : Option Nat} (h : GrV R t size B l sl w) (hg : w.grownBy w' row) (hne : sl.ownBlock = none ∨ sl.ownBlock ≠ row) : GrV R t size B l sl w' := by
  obtain ⟨xss, h1, h2⟩ := h
  exact ⟨xss, h1.kept hg hne, h2⟩
theorem GrV.lt {E : Type} {R : E → List Value → Prop} {t : TypeId} {size B : Nat} {l : List E} {sl : Value} {w : World} (h : GrV R t size B l sl w) : ∀ k, sl.ownBlock = some k → B ≤ k ∧ k < w.heap.size := by
  obtain ⟨xss, h1, h2⟩ := h
  exact h1.lt
theorem wp_grv {E : Type} {R : E → List Value → Prop} {P : Program} {t e : TypeId} {size bytes : Nat} {i : TypeInfo} {z : Value} {w : World} {ops : Array Oper} {rest : List Oper} {o : Oper} {a : Act} {Q : Exit → Act → World → Prop} (hgd : o.guard = none) (s x : Operand)
    (ho : o.op = .call { callee := .builtin .append, args := #[s, x], argTypes := #[t, t] }) (ht : P.underlying t = some (.slice e)) (hi : P.info? e = some i) (hz : i.zero = some z)
    (hsize : i.size = size) (hby : i.bytes = bytes) (hzs : z.cells.size = size) (hsz : 0 < size)
    (B : Nat) (l : List E) (sl : Value) (hs : a.eval s = sl) (hg : GrV R e size B l sl w) (v : E) (ds : List Value) (hv : R v ds) (hl : ds.length = size) (h1 : ∀ u ∈ ds, u.oneCell' = true)
    (N : Nat) (hN : N = w.heap.size) (hx : a.eval x = .slice (some ⟨N, 0, none⟩) 1 1) (hbytes : (l.length + 1) * bytes ≤ 140737488355328) (h63 : l.length + 1 ≤ maxLen) (hB : B ≤ w.heap.size)
    (h : ∀ g cap w', GrV R e size B (l ++ [v]) (.slice (some ⟨g, 0, none⟩) (l.length + 1) cap) w' → (w.alloc (.cells ds.toArray e)).grownBy w' sl.ownBlock → (sl.ownBlock = some g ∨ g = w.heap.size + 1) → g < w'.heap.size → wpList P ops Q rest (a.put o.dst (.slice (some ⟨g, 0, none⟩) (l.length + 1) cap)) w') : wpList P ops Q (o :: rest) a (w.alloc (.cells ds.toArray e)) := by
  subst hN
  obtain ⟨xss, hrow, hol⟩ := hg
  refine wpList_append_lies _ hgd s x t ho B e i z size bytes ht hi hz hsize hby hzs hsz sl l.length xss.flatten hs (World.ownsRow.alloc hrow _) ⟨w.heap.size, 0, none⟩ 1 1 ds hx (by rw [hl]; omega) (fun j u hu => by
    rw [Addr.add_mid, Nat.zero_add, World.cell?_alloc_at _ _ _ _ rfl]; simpa using hu) h1 (by omega) h63 hbytes (by simp; omega) (w.heap.size + 1) (by simp) ?_
  intro g cap w' hrow' hgr hat hlt
  exact h g cap w' ⟨xss ++ [ds], by simpa using hrow', hol.snoc hv⟩ hgr hat hlt
theorem GrV.read {W : World} : ∀ {l : List Vl} {xss : List (List Value)} (p off : Nat) (w : World), P2 (fun v cs => VlC W v cs) l xss → Below W.heap.size W w → (∀ j u, xss.flatten[j]? = some u → w.cell? ⟨p, off + j, none⟩ = some u) → VlsAt w (Vls.of l) (some ⟨p, off, none⟩) l.length
  | [], [], p, off, w, h, hb, hc => by
    simp only [Vls.of]
    unfold VlsAt
    rfl
  | v :: r, cs :: xss, p, off, w, h, hb, hc => by
    have h8 := h.1.cells
    simp only [Vls.of]
    unfold VlsAt
    refine ⟨p, off, r.length, cs, rfl, rfl, fun j u hu => hc j u ?_, VlC.below hb _ _ h.1, GrV.read p (off + 8) w h.2 hb (fun j u hu => ?_)⟩
    · rw [List.flatten_cons, List.getElem?_append_left (List.getElem?_eq_some_iff.1 hu).1]; exact hu
    · rw [show off + 8 + j = off + (8 + j) by omega]
      refine hc (8 + j) u ?_
      rw [List.flatten_cons, List.getElem?_append_right (by omega), h8]
      simpa using hu
  | [], _ :: _, p, off, w, h, _, _ => h.elim
  | _ :: _, [], p, off, w, h, _, _ => h.elim
theorem GrV.vals {W w : World} {B : Nat} {l : List Vl} {sl : Value} (h : GrV (fun v cs => VlC W v cs) 27 8 B l sl w) (hb : Below W.heap.size W w) : ∃ aj cj, sl = .slice aj l.length cj ∧ VlsAt w (Vls.of l) aj l.length := by
  obtain ⟨xss, h1, h2⟩ := h
  have hc := fun (g : Nat) (hg : sl.ownBlock = some g) => h1.cells hg
  rcases h1.2 with ⟨rfl, h0⟩ | ⟨g, cap, cur, rfl, hg, hh, hc1, hc2, r⟩
  · have hl0 : l = [] := List.length_eq_zero_iff.1 h0
    subst hl0
    exact ⟨none, 0, rfl, by simp only [Vls.of]; unfold VlsAt; rfl⟩
  · exact ⟨_, _, rfl, GrV.read g 0 w h2 hb (fun j u hu => by have := hc g rfl j u hu; rw [Addr.add_mid] at this; exact this)⟩
/-- the two lists of Children as they grow -/
structure ChS (W : World) (l4 : List (List Value)) (l5 : List Vl) (s4 s5 : Value) (w : World) : Prop where
  g4 : GrV (fun s cs => cs = s) 39 3 W.heap.size l4 s4 w
  g5 : GrV (fun v cs => VlC W v cs) 27 8 W.heap.size l5 s5 w
  ne : ∀ b, s4.ownBlock = some b → s5.ownBlock ≠ some b
  bel : Below W.heap.size W w
theorem ChS.nil (W : World) : ChS W [] [] (.slice none 0 0) (.slice none 0 0) W := ⟨GrV.nil, GrV.nil, fun b h => by simp [Value.ownBlock] at h, Below.refl _ _⟩
theorem infoSz : ∃ i z, Try.prog.info? 39 = some i ∧ i.zero = some z ∧ i.size = 3 ∧ i.bytes = 32 ∧ z.cells.size = 3 := by
  have hin : (Try.prog.info? 39).map (fun i => (i.bytes, i.size, i.zero.isSome, (i.zero.map (fun z => z.cells.size)))) = some (32, 3, true, some 3) := by kernel_rfl
  cases hq : Try.prog.info? 39 with
  | none => simp [hq] at hin
  | some i =>
    simp [hq] at hin
    obtain ⟨h1, h2, h3, z, hz, h4⟩ := hin
    exact ⟨i, z, rfl, hz, h2, h1, h4⟩
theorem wp_put4 {W w : World} {l4 : List (List Value)} {l5 : List Vl} {s4 s5 : Value} {ops : Array Oper} {rest : List Oper} {o : Oper} {a : Act} {Q : Exit → Act → World → Prop} (hS : ChS W l4 l5 s4 s5 w) (hgd : o.guard = none) (s x : Operand)
    (ho : o.op = .call { callee := .builtin .append, args := #[s, x], argTypes := #[34, 34] }) (hs : a.eval s = s4) (ds : List Value) (hl : ds.length = 3) (h1 : ∀ u ∈ ds, u.oneCell' = true) (N : Nat) (hN : N = w.heap.size) (hx : a.eval x = .slice (some ⟨N, 0, none⟩) 1 1) (hn : l4.length + 1 ≤ 1256584717458)
    (h : ∀ g n cap w', ChS W (l4 ++ [ds]) l5 (.slice (some ⟨g, 0, none⟩) n cap) s5 w' → wpList Try.prog ops Q rest (a.put o.dst (.slice (some ⟨g, 0, none⟩) n cap)) w') : wpList Try.prog ops Q (o :: rest) a (w.alloc (.cells ds.toArray 39)) := by
  obtain ⟨i, z, hi, hz, hsz, hb, hc⟩ := infoSz
  have hlt4 := hS.g4.lt
  have hlt5 := hS.g5.lt
  refine wp_grv hgd s x ho Try.underlying34 hi hz hsz hb hc (by omega) W.heap.size l4 s4 hs hS.g4 ds ds rfl hl h1 N hN hx (by omega) (by unfold maxLen; omega) hS.bel.size ?_
  intro g cap w' hg hgr hat hlt
  refine h g _ cap w' ⟨hg, ?_, ?_, ?_⟩
  · refine (hS.g5.kept (World.grownBy_alloc w _ none) (by cases hv : s5.ownBlock <;> simp)).kept hgr ?_
    cases h5 : s5.ownBlock with
    | none => exact .inl rfl
    | some b => exact .inr (fun e => hS.ne b e.symm h5)
  · intro b hb' h5
    have hb' : g = b := by simpa [Value.ownBlock] using hb'
    subst hb'
    rcases hat with hat | hat
    · exact hS.ne _ hat h5
    · have := (hlt5 _ h5).2; omega
  · exact (hS.bel.alloc hS.bel.size _).grown hgr (by have := hS.bel.size; simp; omega) (fun k hk => (hlt4 k hk).1)
theorem wp_put5 {W w : World} {l4 : List (List Value)} {l5 : List Vl} {s4 s5 : Value} {ops : Array Oper} {rest : List Oper} {o : Oper} {a : Act} {Q : Exit → Act → World → Prop} (hS : ChS W l4 l5 s4 s5 w) (hgd : o.guard = none) (s x : Operand)
    (ho : o.op = .call { callee := .builtin .append, args := #[s, x], argTypes := #[24, 24] }) (hs : a.eval s = s5) (v : Vl) (ds : List Value) (hv : VlC W v ds) (N : Nat) (hN : N = w.heap.size) (hx : a.eval x = .slice (some ⟨N, 0, none⟩) 1 1) (hn : l5.length + 1 ≤ 1256584717458)
    (h : ∀ g n cap w', ChS W l4 (l5 ++ [v]) s4 (.slice (some ⟨g, 0, none⟩) n cap) w' → wpList Try.prog ops Q rest (a.put o.dst (.slice (some ⟨g, 0, none⟩) n cap)) w') : wpList Try.prog ops Q (o :: rest) a (w.alloc (.cells ds.toArray 27)) := by
  obtain ⟨i, z, hi, hz, hsz, hb, hc⟩ := infoVz
  have hlt4 := hS.g4.lt
  have hlt5 := hS.g5.lt
  have d1 := hv.one
  have hone : ∀ u ∈ ds, u.oneCell' = true := fun u hu => (Array.all_eq_true_iff_forall_mem.1 d1) u (by simpa using hu)
  refine wp_grv hgd s x ho Try.underlying24 hi hz hsz hb hc (by omega) W.heap.size l5 s5 hs hS.g5 v ds hv hv.cells hone N hN hx (by omega) (by unfold maxLen; omega) hS.bel.size ?_
  intro g cap w' hg hgr hat hlt
  refine h g _ cap w' ⟨?_, hg, ?_, ?_⟩
  · refine (hS.g4.kept (World.grownBy_alloc w _ none) (by cases hv : s4.ownBlock <;> simp)).kept hgr ?_
    cases h4 : s4.ownBlock with
    | none => exact .inl rfl
    | some b => exact .inr (fun e => hS.ne b h4 e.symm)
  · intro b hb' h5
    have h5 : g = b := by simpa [Value.ownBlock] using h5
    subst h5
    rcases hat with hat | hat
    · exact hS.ne _ hb' hat
    · have := (hlt4 _ hb').2; omega
  · exact (hS.bel.alloc hS.bel.size _).grown hgr (by have := hS.bel.size; simp; omega) (fun k hk => (hlt5 k hk).1)
end Go.Proofs.Ytiblkdedbimggaa.og
namespace Go.Proofs.Ytiblkdedbimggaa.og
open Go.ChangeShapes Go.WideShapes Go.ChangeAt Go.RowKit
open vl hiding cB cFl cS cF cI cK cIt
set_option linter.unusedVariables false
set_option linter.unusedSimpArgs false
/-- the parts one step below -/
def chV : Vl → List Vl
  | .mk kd _ _ _ _ _ its fls => if kd = 5 then its.list else if kd = 6 then fls.list.map (fun q => q.2) else []
def ChAt (v : Vl) : Prop := ∀ (cs : List Value) (w : World), VlC w v cs → Calls Try.prog 32 #[.agg cs.toArray] w fun e w' => ∃ s4 aj cj, e = .returned (.tuple #[s4, .slice aj (chV v).length cj]) ∧ VlsAt w' (Vls.of (chV v)) aj (chV v).length ∧ Below w.heap.size w w'
theorem buildS (x y z : Value) (hx : ∃ s, x = .string s) (hy : ∃ i, y = .int .i64 i) (hz : ∃ c, z = .bool c) (w : World) : (Instr.buildSlice 34 1 #[(0, .agg #[x, y, z])]).run Try.prog w = .ok (.slice (some ⟨w.heap.size, 0, none⟩) 1 1) (w.alloc (.cells #[x, y, z] 39)) := by
  obtain ⟨s, rfl⟩ := hx
  obtain ⟨i, rfl⟩ := hy
  obtain ⟨c, rfl⟩ := hz
  go_simp
set_option maxHeartbeats 8000000 in
set_option maxRecDepth 6000 in
theorem ch_5 (b : Bool) (n : Int) (f : Nat) (tx ty : ByteArray) (its : Vls) (fls : Fls) (hsl : its.list.length ≤ 1256584717458) : ChAt (.mk 5 b n f tx ty its fls) := by
  intro cs w hv
  have gv := hv
  unfold VlC at gv
  obtain ⟨ai, ni, ci, af, nf, cf, rfl, vI, vF, q1, q2, q3, q4, q5, q6, q7, q8, q9, q10⟩ := gv
  obtain ⟨W, eW⟩ : ∃ W, W = w.alloc (.cells #[.int .i64 5, .bool b, .int .i64 n, .float .f64 f, .string tx, .string ty, .slice ai ni ci, .slice af nf cf] 27) := ⟨_, rfl⟩
  have BW : Below w.heap.size w W := by rw [eW]; exact (Below.refl _ _).alloc (Nat.le_refl _) _
  have R_a := hide (show Row8 W w.heap.size 0 [.int .i64 5, .bool b, .int .i64 n, .float .f64 f, .string tx, .string ty, .slice ai ni ci, .slice af nf cf] from fun j x hx => by
    rw [eW, Nat.zero_add, World.cell?_alloc_at _ _ _ _ rfl]; simpa using hx)
  have V_a := hide (VlC.below BW _ _ hv)
  have EW := hide eW
  clear eW q5 q6 q7 q8
  go_enter Try.func32, Try.ntmps32
  go_wp2_with (rw [← unhide EW]; refine wpList_load_mid (by rfl) 27 _ (by rfl) w.heap.size 0 (by rfl) [.int .i64 5, .bool b, .int .i64 n, .float .f64 f, .string tx, .string ty, .slice ai ni ci, .slice af nf cf] _ (unhide R_a) Try.underlying27 (by rfl) infoV ?_)
  clear EW
  refine (rkind_ok (.mk 5 b n f tx ty its fls) _ _ _ (unhide V_a)).mono ?_
  rintro e w1 ⟨rfl, g⟩
  rw [show kdV (Vl.mk 5 b n f tx ty its fls) = 5 from (by decide : kdOf 5 = 5)]
  have R_a := hide (Row8.below (unhide R_a) g)
  have BW : Below w.heap.size w w1 := BW.trans (g.mono BW.size)
  have HI := hide (VlsAt.below BW its _ _ vI)
  have HF := hide (FlsAt.below BW fls _ _ vF)
  clear g V_a hv vI vF
  have x : w1.cell? ⟨w.heap.size, 6, none⟩ = some (.slice ai ni ci) := (unhide R_a) 6 _ rfl
  have l1 := VlsAt.len its _ _ (unhide HI)
  have BN : ni ≤ 1256584717458 := by omega
  have L1 := hide l1
  have HN0 := hide (ChS.nil w1)
  clear l1
  go_wp2_with fail
  go_loopw [6, 4, 5] (fun vi v4 v5 wr => ∃ (k : Nat) (s4 s5 : Value) (st : List (List Value)), k ≤ ni ∧ vi = .int .i64 k ∧ v4 = s4 ∧ v5 = s5 ∧ vl.Hid (ChS w1 st (its.list.take k) s4 s5 wr) ∧ vl.Hid (st.length = k)) (fun vi _ _ _ => ni - (intOf vi).toNat)
  case atStart => exact ⟨0, _, _, [], Nat.zero_le _, rfl, rfl, rfl, by rw [List.take_zero]; exact HN0, rfl⟩
  case round =>
    clear x HN0
    obtain ⟨k, s4, s5, st, hk1, rfl, rfl, rfl, HS, hst⟩ := hrel
    have x : wr.cell? ⟨w.heap.size, 6, none⟩ = some (.slice ai ni ci) := (Row8.below (unhide R_a) (unhide HS).bel) 6 _ rfl
    by_cases hlt : k < ni
    · have ki : (k : Int) < (ni : Int) := by omega
      obtain ⟨p, off, v, us, rfl, hg, hr, hv⟩ := VlsAt.get its _ _ (unhide HI) k hlt
      have Hg := hide (show its.list[k]? = some v from hg)
      have iu : (Try.prog.info? 27).map (·.size) = some us.length := by rw [hv.cells]; exact infoV
      have hone : ∀ u ∈ ([Value.string { data := #[] }, Value.int .i64 k, Value.bool true] : List Value), u.oneCell' = true := by simp [Value.oneCell']
      have hbS := buildS (Value.string { data := #[] }) (Value.int .i64 k) (Value.bool true) ⟨_, rfl⟩ ⟨_, rfl⟩ ⟨_, rfl⟩
      have hbV := buildV hv
      have hn4 : st.length + 1 ≤ 1256584717458 := by rw [unhide hst]; omega
      have hn5 : (its.list.take k).length + 1 ≤ 1256584717458 := by have h1 := List.length_take_le k its.list; omega
      have A := hide (And.intro hr (And.intro hv (And.intro iu (And.intro hone (And.intro hbS (And.intro hbV (And.intro hn4 hn5)))))))
      clear hr hv iu hone hbS hbV hn4 hn5 hg
      go_wp2_with (first
        | refine wpList_buildOne (by rfl) 34 _ (by rfl) (.agg #[Value.string { data := #[] }, Value.int .i64 k, Value.bool true]) _ (by rfl) ((unhide A).2.2.2.2.1 wr) ?_
        | (at_builtin; refine wp_put4 (unhide HS) (by rfl) _ _ (by rfl) (by rfl) [Value.string { data := #[] }, Value.int .i64 k, Value.bool true] rfl (unhide A).2.2.2.1 wr.heap.size rfl (by rfl) (unhide A).2.2.2.2.2.2.1 ?_; intro g4 n4 c4 w3 hS3; have x3 : w3.cell? ⟨w.heap.size, 6, none⟩ = some (.slice (some ⟨p, off, none⟩) ni ci) := (Row8.below (unhide R_a) hS3.bel) 6 _ rfl; have HS3 := hide hS3; clear hS3)
        | refine wpList_load_mid (by rfl) 27 _ (by rfl) p (off + k * 8) (by rfl) us _ (Row8.below (unhide A).1 (unhide HS3).bel) Try.underlying27 (by rfl) (unhide A).2.2.1 ?_
        | refine wpList_buildOne (by rfl) 24 _ (by rfl) (.agg us.toArray) _ (by rfl) ((unhide A).2.2.2.2.2.1 w3) ?_
        | (at_builtin; refine wp_put5 (unhide HS3) (by rfl) _ _ (by rfl) (by rfl) v us (unhide A).2.1 w3.heap.size rfl (by rfl) (unhide A).2.2.2.2.2.2.2 ?_; intro g5 n5 c5 w4 hS4; have HS4 := hide hS4; clear hS4))
      go_roundw
      case rel => exact ⟨k + 1, _, _, st ++ [[Value.string { data := #[] }, Value.int .i64 k, Value.bool true]], by omega, by go_num, rfl, rfl, by rw [List.take_add_one, unhide Hg]; exact HS4, by show (st ++ [[Value.string { data := #[] }, Value.int .i64 k, Value.bool true]]).length = k + 1; rw [List.length_append, unhide hst]; rfl⟩
      case measure => simp [intOf]; omega
    · obtain rfl : k = ni := by omega
      have hS := unhide HS
      rw [List.take_of_length_le (by first | exact Nat.le_of_eq (unhide L1) | (rw [List.length_map]; exact Nat.le_of_eq (unhide L1)))] at hS
      have G2 : Below w.heap.size w wr := BW.trans (hS.bel.mono BW.size)
      obtain ⟨aj, cj, rfl, hvs⟩ := hS.g5.vals hS.bel
      have HV := hide hvs
      clear hS hvs HS
      go_wp2
      go_ret2
      have hch : chV (.mk 5 b n f tx ty its fls) = its.list := by simp [chV]
      rw [hch]
      exact ⟨_, aj, cj, rfl, unhide HV, G2⟩
set_option maxHeartbeats 8000000 in
set_option maxRecDepth 6000 in
theorem ch_6 (b : Bool) (n : Int) (f : Nat) (tx ty : ByteArray) (its : Vls) (fls : Fls) (hsl : fls.list.length ≤ 1099511627776) : ChAt (.mk 6 b n f tx ty its fls) := by
  intro cs w hv
  have gv := hv
  unfold VlC at gv
  obtain ⟨ai, ni, ci, af, nf, cf, rfl, vI, vF, q1, q2, q3, q4, q5, q6, q7, q8, q9, q10⟩ := gv
  obtain ⟨W, eW⟩ : ∃ W, W = w.alloc (.cells #[.int .i64 6, .bool b, .int .i64 n, .float .f64 f, .string tx, .string ty, .slice ai ni ci, .slice af nf cf] 27) := ⟨_, rfl⟩
  have BW : Below w.heap.size w W := by rw [eW]; exact (Below.refl _ _).alloc (Nat.le_refl _) _
  have R_a := hide (show Row8 W w.heap.size 0 [.int .i64 6, .bool b, .int .i64 n, .float .f64 f, .string tx, .string ty, .slice ai ni ci, .slice af nf cf] from fun j x hx => by
    rw [eW, Nat.zero_add, World.cell?_alloc_at _ _ _ _ rfl]; simpa using hx)
  have V_a := hide (VlC.below BW _ _ hv)
  have EW := hide eW
  clear eW q5 q6 q7 q8
  go_enter Try.func32, Try.ntmps32
  go_wp2_with (rw [← unhide EW]; refine wpList_load_mid (by rfl) 27 _ (by rfl) w.heap.size 0 (by rfl) [.int .i64 6, .bool b, .int .i64 n, .float .f64 f, .string tx, .string ty, .slice ai ni ci, .slice af nf cf] _ (unhide R_a) Try.underlying27 (by rfl) infoV ?_)
  clear EW
  refine (rkind_ok (.mk 6 b n f tx ty its fls) _ _ _ (unhide V_a)).mono ?_
  rintro e w1 ⟨rfl, g⟩
  rw [show kdV (Vl.mk 6 b n f tx ty its fls) = 6 from (by decide : kdOf 6 = 6)]
  have R_a := hide (Row8.below (unhide R_a) g)
  have BW : Below w.heap.size w w1 := BW.trans (g.mono BW.size)
  have HI := hide (VlsAt.below BW its _ _ vI)
  have HF := hide (FlsAt.below BW fls _ _ vF)
  clear g V_a hv vI vF
  have x : w1.cell? ⟨w.heap.size, 7, none⟩ = some (.slice af nf cf) := (unhide R_a) 7 _ rfl
  have l1 := FlsAt.len fls _ _ (unhide HF)
  have BN : nf ≤ 1256584717458 := by omega
  have L1 := hide l1
  have HN0 := hide (ChS.nil w1)
  clear l1
  go_wp2_with fail
  go_loopw [7, 4, 5] (fun vi v4 v5 wr => ∃ (k : Nat) (s4 s5 : Value) (st : List (List Value)), k ≤ nf ∧ vi = .int .i64 k ∧ v4 = s4 ∧ v5 = s5 ∧ vl.Hid (ChS w1 st ((fls.list.map (fun q => q.2)).take k) s4 s5 wr) ∧ vl.Hid (st.length = k)) (fun vi _ _ _ => nf - (intOf vi).toNat)
  case atStart => exact ⟨0, _, _, [], Nat.zero_le _, rfl, rfl, rfl, by rw [List.take_zero]; exact HN0, rfl⟩
  case round =>
    clear x HN0
    obtain ⟨k, s4, s5, st, hk1, rfl, rfl, rfl, HS, hst⟩ := hrel
    have x : wr.cell? ⟨w.heap.size, 7, none⟩ = some (.slice af nf cf) := (Row8.below (unhide R_a) (unhide HS).bel) 7 _ rfl
    by_cases hlt : k < nf
    · have ki : (k : Int) < (nf : Int) := by omega
      obtain ⟨p, off, nm, v, us, rfl, hg, hn0, hz, hr, hv⟩ := FlsAt.get fls _ _ (unhide HF) k hlt
      have Hg := hide (show (fls.list.map (fun q => q.2))[k]? = some v by rw [List.getElem?_map, hg]; rfl)
      have cn : wr.cell? ⟨p, off + k * 9, none⟩ = some (.string nm) := (Below.cell (unhide HS).bel (p := ⟨p, off + k * 9, none⟩) (World.block_lt_of_cell? w1 _ hn0)).trans hn0
      clear hn0
      have iu : (Try.prog.info? 27).map (·.size) = some us.length := by rw [hv.cells]; exact infoV
      have hone : ∀ u ∈ ([Value.string nm, Value.int .i64 0, Value.bool false] : List Value), u.oneCell' = true := by simp [Value.oneCell']
      have hbS := buildS (Value.string nm) (Value.int .i64 0) (Value.bool false) ⟨_, rfl⟩ ⟨_, rfl⟩ ⟨_, rfl⟩
      have hbV := buildV hv
      have hn4 : st.length + 1 ≤ 1256584717458 := by rw [unhide hst]; omega
      have hn5 : ((fls.list.map (fun q => q.2)).take k).length + 1 ≤ 1256584717458 := by have h1 := List.length_take_le k (fls.list.map (fun q => q.2)); omega
      have A := hide (And.intro hr (And.intro hv (And.intro iu (And.intro hone (And.intro hbS (And.intro hbV (And.intro hn4 hn5)))))))
      clear hr hv iu hone hbS hbV hn4 hn5 hg
      go_wp2_with (first
        | refine wpList_buildOne (by rfl) 34 _ (by rfl) (.agg #[Value.string nm, Value.int .i64 0, Value.bool false]) _ (by rfl) ((unhide A).2.2.2.2.1 wr) ?_
        | (at_builtin; refine wp_put4 (unhide HS) (by rfl) _ _ (by rfl) (by rfl) [Value.string nm, Value.int .i64 0, Value.bool false] rfl (unhide A).2.2.2.1 wr.heap.size rfl (by rfl) (unhide A).2.2.2.2.2.2.1 ?_; intro g4 n4 c4 w3 hS3; have x3 : w3.cell? ⟨w.heap.size, 7, none⟩ = some (.slice (some ⟨p, off, none⟩) nf cf) := (Row8.below (unhide R_a) hS3.bel) 7 _ rfl; have HS3 := hide hS3; clear hS3)
        | refine wpList_load_mid (by rfl) 27 _ (by rfl) p (off + k * 9 + 1) (by rfl) us _ (Row8.below (unhide A).1 (unhide HS3).bel) Try.underlying27 (by rfl) (unhide A).2.2.1 ?_
        | refine wpList_buildOne (by rfl) 24 _ (by rfl) (.agg us.toArray) _ (by rfl) ((unhide A).2.2.2.2.2.1 w3) ?_
        | (at_builtin; refine wp_put5 (unhide HS3) (by rfl) _ _ (by rfl) (by rfl) v us (unhide A).2.1 w3.heap.size rfl (by rfl) (unhide A).2.2.2.2.2.2.2 ?_; intro g5 n5 c5 w4 hS4; have HS4 := hide hS4; clear hS4))
      go_roundw
      case rel => exact ⟨k + 1, _, _, st ++ [[Value.string nm, Value.int .i64 0, Value.bool false]], by omega, by go_num, rfl, rfl, by rw [List.take_add_one, unhide Hg]; exact HS4, by show (st ++ [[Value.string nm, Value.int .i64 0, Value.bool false]]).length = k + 1; rw [List.length_append, unhide hst]; rfl⟩
      case measure => simp [intOf]; omega
    · obtain rfl : k = nf := by omega
      have hS := unhide HS
      rw [List.take_of_length_le (by first | exact Nat.le_of_eq (unhide L1) | (rw [List.length_map]; exact Nat.le_of_eq (unhide L1)))] at hS
      have G2 : Below w.heap.size w wr := BW.trans (hS.bel.mono BW.size)
      obtain ⟨aj, cj, rfl, hvs⟩ := hS.g5.vals hS.bel
      have HV := hide hvs
      clear hS hvs HS
      go_wp2
      go_ret2
      have hch : chV (.mk 6 b n f tx ty its fls) = (fls.list.map (fun q => q.2)) := by simp [chV]
      rw [hch]
      exact ⟨_, aj, cj, rfl, unhide HV, G2⟩
set_option maxHeartbeats 8000000 in
set_option maxRecDepth 6000 in
theorem ch_0 (kd : Int) (b : Bool) (n : Int) (f : Nat) (tx ty : ByteArray) (its : Vls) (fls : Fls) (K : Int) (hk : kdOf kd = K) (h5 : K ≠ 5) (h6 : K ≠ 6) : ChAt (.mk kd b n f tx ty its fls) := by
  intro cs w hv
  have gv := hv
  unfold VlC at gv
  obtain ⟨ai, ni, ci, af, nf, cf, rfl, vI, vF, q1, q2, q3, q4, q5, q6, q7, q8, q9, q10⟩ := gv
  obtain ⟨W, eW⟩ : ∃ W, W = w.alloc (.cells #[.int .i64 kd, .bool b, .int .i64 n, .float .f64 f, .string tx, .string ty, .slice ai ni ci, .slice af nf cf] 27) := ⟨_, rfl⟩
  have BW : Below w.heap.size w W := by rw [eW]; exact (Below.refl _ _).alloc (Nat.le_refl _) _
  have R_a := hide (show Row8 W w.heap.size 0 [.int .i64 kd, .bool b, .int .i64 n, .float .f64 f, .string tx, .string ty, .slice ai ni ci, .slice af nf cf] from fun j x hx => by
    rw [eW, Nat.zero_add, World.cell?_alloc_at _ _ _ _ rfl]; simpa using hx)
  have V_a := hide (VlC.below BW _ _ hv)
  have EW := hide eW
  clear eW q5 q6 q7 q8
  go_enter Try.func32, Try.ntmps32
  go_wp2_with (rw [← unhide EW]; refine wpList_load_mid (by rfl) 27 _ (by rfl) w.heap.size 0 (by rfl) [.int .i64 kd, .bool b, .int .i64 n, .float .f64 f, .string tx, .string ty, .slice ai ni ci, .slice af nf cf] _ (unhide R_a) Try.underlying27 (by rfl) infoV ?_)
  clear EW
  refine (rkind_ok (.mk kd b n f tx ty its fls) _ _ _ (unhide V_a)).mono ?_
  rintro e w1 ⟨rfl, g⟩
  rw [show kdV (Vl.mk kd b n f tx ty its fls) = K from hk]
  have R_a := hide (Row8.below (unhide R_a) g)
  have BW : Below w.heap.size w w1 := BW.trans (g.mono BW.size)
  have HI := hide (VlsAt.below BW its _ _ vI)
  have HF := hide (FlsAt.below BW fls _ _ vF)
  clear g V_a hv vI vF
  have h5' : kd ≠ 5 := fun e => h5 (by rw [← hk, e]; decide)
  have h6' : kd ≠ 6 := fun e => h6 (by rw [← hk, e]; decide)
  go_wp2
  go_ret2
  have hch : chV (.mk kd b n f tx ty its fls) = [] := by simp [chV, h5', h6']
  rw [hch]
  exact ⟨_, none, 0, rfl, by simp only [Vls.of]; unfold VlsAt; rfl, BW⟩
theorem ch_ok (v : Vl) (hv : Small v) : ChAt v := by
  obtain ⟨kd, b, n, f, tx, ty, its, fls⟩ := v
  unfold Small at hv
  by_cases h5 : kdOf kd = 5
  · obtain rfl := kdOf_five h5
    exact ch_5 _ _ _ _ _ _ _ hv.1
  · by_cases h6 : kdOf kd = 6
    · obtain rfl := kdOf_six h6
      exact ch_6 _ _ _ _ _ _ _ hv.2.1
    · exact ch_0 _ _ _ _ _ _ _ _ _ rfl h5 h6
end Go.Proofs.Ytiblkdedbimggaa.og
namespace Go.Proofs.Ytiblkdedbimggaa.og
open Go.ChangeShapes Go.WideShapes Go.ChangeAt Go.RowKit
open vl hiding cB cFl cS cF cI cK cIt
set_option linter.unusedVariables false
set_option linter.unusedSimpArgs false
theorem list_of : ∀ l : List Vl, (Vls.of l).list = l
  | [] => by simp [Vls.of, Vls.list]
  | v :: r => by simp [Vls.of, Vls.list, list_of r]
theorem chV_mem {P : Vl → Prop} {kd : Int} {b : Bool} {n : Int} {f : Nat} {tx ty : ByteArray} {its : Vls} {fls : Fls} (hI : ∀ v ∈ its.list, P v) (hF : ∀ q ∈ fls.list, P q.2) : ∀ v ∈ chV (.mk kd b n f tx ty its fls), P v := by
  intro v hv
  unfold chV at hv
  simp only at hv
  split at hv
  · exact hI v hv
  · split at hv
    · obtain ⟨q, hq, rfl⟩ := List.mem_map.1 hv
      exact hF q hq
    · simp at hv
theorem cnt_ch (v : Vl) : cnt v = 1 + ((chV v).map cnt).sum := by
  obtain ⟨kd, b, n, f, tx, ty, its, fls⟩ := v
  rw [cnt, cntI_sum, cntF_sum]
  unfold chV
  simp only
  split
  · rfl
  · split
    · rw [List.map_map]; rfl
    · simp
theorem dep_ch (kd : Int) (b : Bool) (n : Int) (f : Nat) (tx ty : ByteArray) (its : Vls) (fls : Fls) (h : kd = 5 ∨ kd = 6) : depW (.mk kd b n f tx ty its fls) = wrap64 (1 + ((chV (.mk kd b n f tx ty its fls)).map depW).foldl max 0) := by
  rw [depW, mxI_fold, mxF_fold]
  unfold chV
  rcases h with rfl | rfl
  · simp
  · simp [List.map_map, Function.comp_def]
theorem sum_step {l : List Vl} {k : Nat} {v : Vl} (h : l[k]? = some v) : ((l.take (k + 1)).map cnt).sum = ((l.take k).map cnt).sum + cnt v := by
  rw [List.take_add_one, h]; simp
theorem max_step {l : List Vl} {k : Nat} {v : Vl} (h : l[k]? = some v) : ((l.take (k + 1)).map depW).foldl max 0 = max (((l.take k).map depW).foldl max 0) (depW v) := by
  rw [List.take_add_one, h]; simp [List.foldl_append]
/-- the count so far, and the greatest depth so far -/
def ctk (l : List Vl) (k : Nat) : Int := wrap64 ((1 + ((l.take k).map cnt).sum : Nat) : Int)
def dpk (l : List Vl) (k : Nat) : Int := ((l.take k).map depW).foldl max 0
theorem ctk_zero (l : List Vl) : ctk l 0 = 1 := by simp [ctk, wrap64]
theorem dpk_zero (l : List Vl) : dpk l 0 = 0 := by simp [dpk]
theorem ctk_step {l : List Vl} {k : Nat} {v : Vl} (h : l[k]? = some v) : wrap64 (ctk l k + wrap64 (cnt v : Nat)) = ctk l (k + 1) := by
  unfold ctk
  rw [wrap_add, sum_step h]
  congr 1
  omega
theorem dpk_step {l : List Vl} {k : Nat} {v : Vl} (h : l[k]? = some v) : dpk l (k + 1) = max (dpk l k) (depW v) := max_step h
theorem ctk_all (v : Vl) : ctk (chV v) (chV v).length = wrap64 (cnt v : Nat) := by
  unfold ctk
  rw [List.take_length, cnt_ch v]
def RCn (v : Vl) : Prop := ∀ (cs : List Value) (w : World), VlC w v cs → Calls Try.prog 16 #[.agg cs.toArray] w fun e w' => e = .returned (.int .i64 (wrap64 (cnt v : Nat))) ∧ Below w.heap.size w w'
def RDn (v : Vl) : Prop := ∀ (cs : List Value) (w : World), VlC w v cs → Calls Try.prog 17 #[.agg cs.toArray] w fun e w' => e = .returned (.int .i64 (depW v)) ∧ Below w.heap.size w w'
set_option maxHeartbeats 8000000 in
set_option maxRecDepth 6000 in
theorem rcount_step (v : Vl) (hsm : Small v) (ih : ∀ u ∈ chV v, RCn u) : RCn v := by
  intro cs w hv
  have iv : (Try.prog.info? 27).map (·.size) = some cs.length := by rw [hv.cells]; exact infoV
  obtain ⟨W, eW⟩ : ∃ W, W = w.alloc (.cells cs.toArray 27) := ⟨_, rfl⟩
  have BW : Below w.heap.size w W := by rw [eW]; exact (Below.refl _ _).alloc (Nat.le_refl _) _
  have R_a := hide (show W.rangeAt w.heap.size 0 cs from fun j x hx => by
    rw [eW, Nat.zero_add, World.cell?_alloc_at _ _ _ _ rfl]; simpa using hx)
  have HC := hide (ch_ok v hsm cs W (VlC.below BW _ _ hv))
  have IV := hide iv
  have EW := hide eW
  have HL := hide (show (chV v).length ≤ 9223372036854775807 by
    obtain ⟨kd, b, n, f, tx, ty, its, fls⟩ := v
    unfold Small at hsm
    unfold chV
    simp only
    split
    · omega
    · split
      · rw [List.length_map]; omega
      · simp)
  have HCN := hide (ctk_all v)
  clear eW hv iv
  go_enter Try.func16, Try.ntmps16
  go_wp2_with (rw [← unhide EW]; refine wpList_load_mid (by rfl) 27 _ (by rfl) w.heap.size 0 (by rfl) cs _ (unhide R_a) Try.underlying27 (by rfl) (unhide IV) ?_)
  clear EW
  refine (unhide HC).mono ?_
  rintro e w1 ⟨s4, aj, cj, rfl, hvs, g⟩
  have BW : Below w.heap.size w w1 := BW.trans (g.mono BW.size)
  have HV := hide hvs
  clear g hvs HC R_a IV
  generalize hl : chV v = l at *
  have LE := unhide HL
  have HLV := hide hl
  clear hl HL
  go_wp2_with fail
  go_loopw [6, 3] (fun vi vn wr => ∃ k : Nat, k ≤ l.length ∧ vi = .int .i64 k ∧ vn = .int .i64 (ctk l k) ∧ vl.Hid (Gb w1 wr)) (fun vi _ _ => l.length - (intOf vi).toNat)
  case atStart => exact ⟨0, Nat.zero_le _, rfl, by rw [ctk_zero], Gb.refl _⟩
  case round =>
    obtain ⟨k, hk1, rfl, rfl, HB⟩ := hrel
    have G2 : Below w.heap.size w wr := BW.trans (Below.mono (unhide HB) BW.size)
    by_cases hlt : k < l.length
    · have ki : (k : Int) < (l.length : Int) := by omega
      obtain ⟨p, off, u, us, rfl, hg, hr, hu⟩ := VlsAt.get _ _ _ (VlsAt.below (unhide HB) _ _ _ (unhide HV)) k hlt
      rw [list_of] at hg
      have iu : (Try.prog.info? 27).map (·.size) = some us.length := by rw [hu.cells]; exact infoV
      have IH := hide (ih u (List.mem_of_getElem? hg) us wr hu)
      have A := hide (And.intro hr iu)
      have HS := hide (ctk_step hg)
      clear hr hu iu hg
      go_wp2_with (refine wpList_load_mid (by rfl) 27 _ (by rfl) p (off + k * 8) (by rfl) us _ (unhide A).1 Try.underlying27 (by rfl) (unhide A).2 ?_)
      refine (unhide IH).mono ?_
      rintro e w3 ⟨rfl, g3⟩
      have HB3 := hide (show Gb w1 w3 from (unhide HB).trans (g3.mono (unhide HB).size))
      clear g3
      generalize wrap64 (cnt u : Nat) = cu at *
      go_wp2
      go_roundw
      case rel => exact ⟨k + 1, by omega, by go_num, by rw [← unhide HS], HB3⟩
      case measure => simp [intOf]; omega
    · obtain rfl : k = l.length := by omega
      go_wp2
      go_ret
      exact ⟨by rw [← unhide HCN]; rfl, G2⟩
theorem rcount_ok : ∀ v : Vl, Small v → RCn v := by
  refine Vl.all ?_
  intro kd b n f tx ty its fls hI hF hv
  have hv0 := hv
  unfold Small at hv
  exact rcount_step _ hv0 (chV_mem (P := RCn) (fun v hm => hI v hm (hv.2.2.2.1.all _ hm)) (fun q hm => hF q hm (hv.2.2.2.2.all _ hm)))
end Go.Proofs.Ytiblkdedbimggaa.og
namespace Go.Proofs.Ytiblkdedbimggaa.og
open Go.ChangeShapes Go.WideShapes Go.ChangeAt Go.RowKit
open vl hiding cB cFl cS cF cI cK cIt
set_option linter.unusedVariables false
set_option linter.unusedSimpArgs false
theorem dpk_all (kd : Int) (b : Bool) (n : Int) (f : Nat) (tx ty : ByteArray) (its : Vls) (fls : Fls) (h : kd = 5 ∨ kd = 6) : wrap64 (dpk (chV (.mk kd b n f tx ty its fls)) (chV (.mk kd b n f tx ty its fls)).length + 1) = depW (.mk kd b n f tx ty its fls) := by
  unfold dpk
  rw [List.take_length, dep_ch kd b n f tx ty its fls h, Int.add_comm]
set_option maxHeartbeats 8000000 in
set_option maxRecDepth 6000 in
theorem rdep_5 (b : Bool) (n : Int) (f : Nat) (tx ty : ByteArray) (its : Vls) (fls : Fls) (hsm : Small (.mk 5 b n f tx ty its fls)) (ih : ∀ u ∈ chV (.mk 5 b n f tx ty its fls), RDn u) : RDn (.mk 5 b n f tx ty its fls) := by
  have hk : kdOf 5 = 5 := by decide
  intro cs w hv
  have iv : (Try.prog.info? 27).map (·.size) = some cs.length := by rw [hv.cells]; exact infoV
  obtain ⟨W, eW⟩ : ∃ W, W = w.alloc (.cells cs.toArray 27) := ⟨_, rfl⟩
  have BW : Below w.heap.size w W := by rw [eW]; exact (Below.refl _ _).alloc (Nat.le_refl _) _
  have R_a := hide (show Row8 W w.heap.size 0 cs from fun j x hx => by
    rw [eW, Nat.zero_add, World.cell?_alloc_at _ _ _ _ rfl]; simpa using hx)
  have V_a := hide (VlC.below BW _ _ hv)
  have IV := hide iv
  have EW := hide eW
  clear eW hv iv
  go_enter Try.func17, Try.ntmps17
  go_wp2_with (rw [← unhide EW]; refine wpList_load_mid (by rfl) 27 _ (by rfl) w.heap.size 0 (by rfl) cs _ (unhide R_a) Try.underlying27 (by rfl) (unhide IV) ?_)
  clear EW
  refine (rkind_ok (.mk 5 b n f tx ty its fls) _ _ _ (unhide V_a)).mono ?_
  rintro e w1 ⟨rfl, g⟩
  rw [show kdV (Vl.mk 5 b n f tx ty its fls) = 5 from hk]
  have R_a := hide (Row8.below (unhide R_a) g)
  have V_a := hide (VlC.below g _ _ (unhide V_a))
  have BW : Below w.heap.size w w1 := BW.trans (g.mono BW.size)
  clear g
  have HC := hide (ch_ok (.mk 5 b n f tx ty its fls) hsm cs w1 (unhide V_a))
  have HL := hide (show (chV (.mk 5 b n f tx ty its fls)).length ≤ 9223372036854775807 by
    unfold Small at hsm
    unfold chV
    simp only
    split
    · omega
    · split
      · rw [List.length_map]; omega
      · simp)
  have HCN := hide (dpk_all 5 b n f tx ty its fls (by omega))
  go_wp2_with (refine wpList_load_mid (by rfl) 27 _ (by rfl) w.heap.size 0 (by rfl) cs _ (unhide R_a) Try.underlying27 (by rfl) (unhide IV) ?_)
  refine (unhide HC).mono ?_
  rintro e w2 ⟨s4, aj, cj, rfl, hvs, g⟩
  have BW : Below w.heap.size w w2 := BW.trans (g.mono BW.size)
  have HV := hide hvs
  clear g hvs HC R_a IV V_a
  generalize hl : chV (.mk 5 b n f tx ty its fls) = l at *
  have LE := unhide HL
  clear hl HL
  go_wp2_with fail
  go_loopw [7, 4] (fun vi vm wr => ∃ k : Nat, k ≤ l.length ∧ vi = .int .i64 k ∧ vm = .int .i64 (dpk l k) ∧ vl.Hid (Gb w2 wr)) (fun vi _ _ => l.length - (intOf vi).toNat)
  case atStart => exact ⟨0, Nat.zero_le _, rfl, by rw [dpk_zero], Gb.refl _⟩
  case round =>
    obtain ⟨k, hk1, rfl, rfl, HB⟩ := hrel
    have G2 : Below w.heap.size w wr := BW.trans (Below.mono (unhide HB) BW.size)
    by_cases hlt : k < l.length
    · have ki : (k : Int) < (l.length : Int) := by omega
      obtain ⟨p, off, u, us, rfl, hg, hr, hu⟩ := VlsAt.get _ _ _ (VlsAt.below (unhide HB) _ _ _ (unhide HV)) k hlt
      rw [list_of] at hg
      have iu : (Try.prog.info? 27).map (·.size) = some us.length := by rw [hu.cells]; exact infoV
      have IH := hide (ih u (List.mem_of_getElem? hg) us wr hu)
      have A := hide (And.intro hr iu)
      have HS := hide (dpk_step hg)
      clear hr hu iu hg
      go_wp2_with (refine wpList_load_mid (by rfl) 27 _ (by rfl) p (off + k * 8) (by rfl) us _ (unhide A).1 Try.underlying27 (by rfl) (unhide A).2 ?_)
      refine (unhide IH).mono ?_
      rintro e w3 ⟨rfl, g3⟩
      have HB3 := hide (show Gb w2 w3 from (unhide HB).trans (g3.mono (unhide HB).size))
      clear g3
      generalize depW u = d at *
      by_cases hgt : dpk l k < d
      · go_wp2
        go_roundw
        case rel => exact ⟨k + 1, by omega, by go_num, by rw [unhide HS, show max (dpk l k) d = d by omega], HB3⟩
        case measure => simp [intOf]; omega
      · go_wp2
        go_roundw
        case rel => exact ⟨k + 1, by omega, by go_num, by rw [unhide HS, show max (dpk l k) d = dpk l k by omega], HB3⟩
        case measure => simp [intOf]; omega
    · obtain rfl : k = l.length := by omega
      go_wp2
      go_ret
      exact ⟨by rw [← unhide HCN]; rfl, G2⟩
set_option maxHeartbeats 8000000 in
set_option maxRecDepth 6000 in
theorem rdep_6 (b : Bool) (n : Int) (f : Nat) (tx ty : ByteArray) (its : Vls) (fls : Fls) (hsm : Small (.mk 6 b n f tx ty its fls)) (ih : ∀ u ∈ chV (.mk 6 b n f tx ty its fls), RDn u) : RDn (.mk 6 b n f tx ty its fls) := by
  have hk : kdOf 6 = 6 := by decide
  intro cs w hv
  have iv : (Try.prog.info? 27).map (·.size) = some cs.length := by rw [hv.cells]; exact infoV
  obtain ⟨W, eW⟩ : ∃ W, W = w.alloc (.cells cs.toArray 27) := ⟨_, rfl⟩
  have BW : Below w.heap.size w W := by rw [eW]; exact (Below.refl _ _).alloc (Nat.le_refl _) _
  have R_a := hide (show Row8 W w.heap.size 0 cs from fun j x hx => by
    rw [eW, Nat.zero_add, World.cell?_alloc_at _ _ _ _ rfl]; simpa using hx)
  have V_a := hide (VlC.below BW _ _ hv)
  have IV := hide iv
  have EW := hide eW
  clear eW hv iv
  go_enter Try.func17, Try.ntmps17
  go_wp2_with (rw [← unhide EW]; refine wpList_load_mid (by rfl) 27 _ (by rfl) w.heap.size 0 (by rfl) cs _ (unhide R_a) Try.underlying27 (by rfl) (unhide IV) ?_)
  clear EW
  refine (rkind_ok (.mk 6 b n f tx ty its fls) _ _ _ (unhide V_a)).mono ?_
  rintro e w1 ⟨rfl, g⟩
  rw [show kdV (Vl.mk 6 b n f tx ty its fls) = 6 from hk]
  have R_a := hide (Row8.below (unhide R_a) g)
  have V_a := hide (VlC.below g _ _ (unhide V_a))
  have BW : Below w.heap.size w w1 := BW.trans (g.mono BW.size)
  clear g
  have HC := hide (ch_ok (.mk 6 b n f tx ty its fls) hsm cs w1 (unhide V_a))
  have HL := hide (show (chV (.mk 6 b n f tx ty its fls)).length ≤ 9223372036854775807 by
    unfold Small at hsm
    unfold chV
    simp only
    split
    · omega
    · split
      · rw [List.length_map]; omega
      · simp)
  have HCN := hide (dpk_all 6 b n f tx ty its fls (by omega))
  go_wp2_with (refine wpList_load_mid (by rfl) 27 _ (by rfl) w.heap.size 0 (by rfl) cs _ (unhide R_a) Try.underlying27 (by rfl) (unhide IV) ?_)
  refine (unhide HC).mono ?_
  rintro e w2 ⟨s4, aj, cj, rfl, hvs, g⟩
  have BW : Below w.heap.size w w2 := BW.trans (g.mono BW.size)
  have HV := hide hvs
  clear g hvs HC R_a IV V_a
  generalize hl : chV (.mk 6 b n f tx ty its fls) = l at *
  have LE := unhide HL
  clear hl HL
  go_wp2_with fail
  go_loopw [7, 4] (fun vi vm wr => ∃ k : Nat, k ≤ l.length ∧ vi = .int .i64 k ∧ vm = .int .i64 (dpk l k) ∧ vl.Hid (Gb w2 wr)) (fun vi _ _ => l.length - (intOf vi).toNat)
  case atStart => exact ⟨0, Nat.zero_le _, rfl, by rw [dpk_zero], Gb.refl _⟩
  case round =>
    obtain ⟨k, hk1, rfl, rfl, HB⟩ := hrel
    have G2 : Below w.heap.size w wr := BW.trans (Below.mono (unhide HB) BW.size)
    by_cases hlt : k < l.length
    · have ki : (k : Int) < (l.length : Int) := by omega
      obtain ⟨p, off, u, us, rfl, hg, hr, hu⟩ := VlsAt.get _ _ _ (VlsAt.below (unhide HB) _ _ _ (unhide HV)) k hlt
      rw [list_of] at hg
      have iu : (Try.prog.info? 27).map (·.size) = some us.length := by rw [hu.cells]; exact infoV
      have IH := hide (ih u (List.mem_of_getElem? hg) us wr hu)
      have A := hide (And.intro hr iu)
      have HS := hide (dpk_step hg)
      clear hr hu iu hg
      go_wp2_with (refine wpList_load_mid (by rfl) 27 _ (by rfl) p (off + k * 8) (by rfl) us _ (unhide A).1 Try.underlying27 (by rfl) (unhide A).2 ?_)
      refine (unhide IH).mono ?_
      rintro e w3 ⟨rfl, g3⟩
      have HB3 := hide (show Gb w2 w3 from (unhide HB).trans (g3.mono (unhide HB).size))
      clear g3
      generalize depW u = d at *
      by_cases hgt : dpk l k < d
      · go_wp2
        go_roundw
        case rel => exact ⟨k + 1, by omega, by go_num, by rw [unhide HS, show max (dpk l k) d = d by omega], HB3⟩
        case measure => simp [intOf]; omega
      · go_wp2
        go_roundw
        case rel => exact ⟨k + 1, by omega, by go_num, by rw [unhide HS, show max (dpk l k) d = dpk l k by omega], HB3⟩
        case measure => simp [intOf]; omega
    · obtain rfl : k = l.length := by omega
      go_wp2
      go_ret
      exact ⟨by rw [← unhide HCN]; rfl, G2⟩
set_option maxHeartbeats 4000000 in
set_option maxRecDepth 6000 in
theorem rdep_0 (kd : Int) (b : Bool) (n : Int) (f : Nat) (tx ty : ByteArray) (its : Vls) (fls : Fls) (hk : kdOf kd = 0) : RDn (.mk kd b n f tx ty its fls) := by
  intro cs w hv
  have iv : (Try.prog.info? 27).map (·.size) = some cs.length := by rw [hv.cells]; exact infoV
  obtain ⟨W, eW⟩ : ∃ W, W = w.alloc (.cells cs.toArray 27) := ⟨_, rfl⟩
  have BW : Below w.heap.size w W := by rw [eW]; exact (Below.refl _ _).alloc (Nat.le_refl _) _
  have R_a := hide (show Row8 W w.heap.size 0 cs from fun j x hx => by
    rw [eW, Nat.zero_add, World.cell?_alloc_at _ _ _ _ rfl]; simpa using hx)
  have V_a := hide (VlC.below BW _ _ hv)
  have IV := hide iv
  have EW := hide eW
  clear eW hv iv
  go_enter Try.func17, Try.ntmps17
  go_wp2_with (rw [← unhide EW]; refine wpList_load_mid (by rfl) 27 _ (by rfl) w.heap.size 0 (by rfl) cs _ (unhide R_a) Try.underlying27 (by rfl) (unhide IV) ?_)
  clear EW
  refine (rkind_ok (.mk kd b n f tx ty its fls) _ _ _ (unhide V_a)).mono ?_
  rintro e w1 ⟨rfl, g⟩
  rw [show kdV (Vl.mk kd b n f tx ty its fls) = 0 from hk]
  have R_a := hide (Row8.below (unhide R_a) g)
  have V_a := hide (VlC.below g _ _ (unhide V_a))
  have BW : Below w.heap.size w w1 := BW.trans (g.mono BW.size)
  clear g
  have h5' : kd ≠ 5 := fun e => by rw [e] at hk; exact absurd hk (by decide)
  have h6' : kd ≠ 6 := fun e => by rw [e] at hk; exact absurd hk (by decide)
  go_wp2
  go_ret
  exact ⟨by rw [depW, if_neg h5', if_neg h6']; rfl, BW⟩
set_option maxHeartbeats 4000000 in
set_option maxRecDepth 6000 in
theorem rdep_1 (kd : Int) (b : Bool) (n : Int) (f : Nat) (tx ty : ByteArray) (its : Vls) (fls : Fls) (hk : kdOf kd = 1) : RDn (.mk kd b n f tx ty its fls) := by
  intro cs w hv
  have iv : (Try.prog.info? 27).map (·.size) = some cs.length := by rw [hv.cells]; exact infoV
  obtain ⟨W, eW⟩ : ∃ W, W = w.alloc (.cells cs.toArray 27) := ⟨_, rfl⟩
  have BW : Below w.heap.size w W := by rw [eW]; exact (Below.refl _ _).alloc (Nat.le_refl _) _
  have R_a := hide (show Row8 W w.heap.size 0 cs from fun j x hx => by
    rw [eW, Nat.zero_add, World.cell?_alloc_at _ _ _ _ rfl]; simpa using hx)
  have V_a := hide (VlC.below BW _ _ hv)
  have IV := hide iv
  have EW := hide eW
  clear eW hv iv
  go_enter Try.func17, Try.ntmps17
  go_wp2_with (rw [← unhide EW]; refine wpList_load_mid (by rfl) 27 _ (by rfl) w.heap.size 0 (by rfl) cs _ (unhide R_a) Try.underlying27 (by rfl) (unhide IV) ?_)
  clear EW
  refine (rkind_ok (.mk kd b n f tx ty its fls) _ _ _ (unhide V_a)).mono ?_
  rintro e w1 ⟨rfl, g⟩
  rw [show kdV (Vl.mk kd b n f tx ty its fls) = 1 from hk]
  have R_a := hide (Row8.below (unhide R_a) g)
  have V_a := hide (VlC.below g _ _ (unhide V_a))
  have BW : Below w.heap.size w w1 := BW.trans (g.mono BW.size)
  clear g
  have h5' : kd ≠ 5 := fun e => by rw [e] at hk; exact absurd hk (by decide)
  have h6' : kd ≠ 6 := fun e => by rw [e] at hk; exact absurd hk (by decide)
  go_wp2
  go_ret
  exact ⟨by rw [depW, if_neg h5', if_neg h6']; rfl, BW⟩
set_option maxHeartbeats 4000000 in
set_option maxRecDepth 6000 in
theorem rdep_2 (kd : Int) (b : Bool) (n : Int) (f : Nat) (tx ty : ByteArray) (its : Vls) (fls : Fls) (hk : kdOf kd = 2) : RDn (.mk kd b n f tx ty its fls) := by
  intro cs w hv
  have iv : (Try.prog.info? 27).map (·.size) = some cs.length := by rw [hv.cells]; exact infoV
  obtain ⟨W, eW⟩ : ∃ W, W = w.alloc (.cells cs.toArray 27) := ⟨_, rfl⟩
  have BW : Below w.heap.size w W := by rw [eW]; exact (Below.refl _ _).alloc (Nat.le_refl _) _
  have R_a := hide (show Row8 W w.heap.size 0 cs from fun j x hx => by
    rw [eW, Nat.zero_add, World.cell?_alloc_at _ _ _ _ rfl]; simpa using hx)
  have V_a := hide (VlC.below BW _ _ hv)
  have IV := hide iv
  have EW := hide eW
  clear eW hv iv
  go_enter Try.func17, Try.ntmps17
  go_wp2_with (rw [← unhide EW]; refine wpList_load_mid (by rfl) 27 _ (by rfl) w.heap.size 0 (by rfl) cs _ (unhide R_a) Try.underlying27 (by rfl) (unhide IV) ?_)
  clear EW
  refine (rkind_ok (.mk kd b n f tx ty its fls) _ _ _ (unhide V_a)).mono ?_
  rintro e w1 ⟨rfl, g⟩
  rw [show kdV (Vl.mk kd b n f tx ty its fls) = 2 from hk]
  have R_a := hide (Row8.below (unhide R_a) g)
  have V_a := hide (VlC.below g _ _ (unhide V_a))
  have BW : Below w.heap.size w w1 := BW.trans (g.mono BW.size)
  clear g
  have h5' : kd ≠ 5 := fun e => by rw [e] at hk; exact absurd hk (by decide)
  have h6' : kd ≠ 6 := fun e => by rw [e] at hk; exact absurd hk (by decide)
  go_wp2
  go_ret
  exact ⟨by rw [depW, if_neg h5', if_neg h6']; rfl, BW⟩
set_option maxHeartbeats 4000000 in
set_option maxRecDepth 6000 in
theorem rdep_3 (kd : Int) (b : Bool) (n : Int) (f : Nat) (tx ty : ByteArray) (its : Vls) (fls : Fls) (hk : kdOf kd = 3) : RDn (.mk kd b n f tx ty its fls) := by
  intro cs w hv
  have iv : (Try.prog.info? 27).map (·.size) = some cs.length := by rw [hv.cells]; exact infoV
  obtain ⟨W, eW⟩ : ∃ W, W = w.alloc (.cells cs.toArray 27) := ⟨_, rfl⟩
  have BW : Below w.heap.size w W := by rw [eW]; exact (Below.refl _ _).alloc (Nat.le_refl _) _
  have R_a := hide (show Row8 W w.heap.size 0 cs from fun j x hx => by
    rw [eW, Nat.zero_add, World.cell?_alloc_at _ _ _ _ rfl]; simpa using hx)
  have V_a := hide (VlC.below BW _ _ hv)
  have IV := hide iv
  have EW := hide eW
  clear eW hv iv
  go_enter Try.func17, Try.ntmps17
  go_wp2_with (rw [← unhide EW]; refine wpList_load_mid (by rfl) 27 _ (by rfl) w.heap.size 0 (by rfl) cs _ (unhide R_a) Try.underlying27 (by rfl) (unhide IV) ?_)
  clear EW
  refine (rkind_ok (.mk kd b n f tx ty its fls) _ _ _ (unhide V_a)).mono ?_
  rintro e w1 ⟨rfl, g⟩
  rw [show kdV (Vl.mk kd b n f tx ty its fls) = 3 from hk]
  have R_a := hide (Row8.below (unhide R_a) g)
  have V_a := hide (VlC.below g _ _ (unhide V_a))
  have BW : Below w.heap.size w w1 := BW.trans (g.mono BW.size)
  clear g
  have h5' : kd ≠ 5 := fun e => by rw [e] at hk; exact absurd hk (by decide)
  have h6' : kd ≠ 6 := fun e => by rw [e] at hk; exact absurd hk (by decide)
  go_wp2
  go_ret
  exact ⟨by rw [depW, if_neg h5', if_neg h6']; rfl, BW⟩
set_option maxHeartbeats 4000000 in
set_option maxRecDepth 6000 in
theorem rdep_4 (kd : Int) (b : Bool) (n : Int) (f : Nat) (tx ty : ByteArray) (its : Vls) (fls : Fls) (hk : kdOf kd = 4) : RDn (.mk kd b n f tx ty its fls) := by
  intro cs w hv
  have iv : (Try.prog.info? 27).map (·.size) = some cs.length := by rw [hv.cells]; exact infoV
  obtain ⟨W, eW⟩ : ∃ W, W = w.alloc (.cells cs.toArray 27) := ⟨_, rfl⟩
  have BW : Below w.heap.size w W := by rw [eW]; exact (Below.refl _ _).alloc (Nat.le_refl _) _
  have R_a := hide (show Row8 W w.heap.size 0 cs from fun j x hx => by
    rw [eW, Nat.zero_add, World.cell?_alloc_at _ _ _ _ rfl]; simpa using hx)
  have V_a := hide (VlC.below BW _ _ hv)
  have IV := hide iv
  have EW := hide eW
  clear eW hv iv
  go_enter Try.func17, Try.ntmps17
  go_wp2_with (rw [← unhide EW]; refine wpList_load_mid (by rfl) 27 _ (by rfl) w.heap.size 0 (by rfl) cs _ (unhide R_a) Try.underlying27 (by rfl) (unhide IV) ?_)
  clear EW
  refine (rkind_ok (.mk kd b n f tx ty its fls) _ _ _ (unhide V_a)).mono ?_
  rintro e w1 ⟨rfl, g⟩
  rw [show kdV (Vl.mk kd b n f tx ty its fls) = 4 from hk]
  have R_a := hide (Row8.below (unhide R_a) g)
  have V_a := hide (VlC.below g _ _ (unhide V_a))
  have BW : Below w.heap.size w w1 := BW.trans (g.mono BW.size)
  clear g
  have h5' : kd ≠ 5 := fun e => by rw [e] at hk; exact absurd hk (by decide)
  have h6' : kd ≠ 6 := fun e => by rw [e] at hk; exact absurd hk (by decide)
  go_wp2
  go_ret
  exact ⟨by rw [depW, if_neg h5', if_neg h6']; rfl, BW⟩
set_option maxHeartbeats 4000000 in
set_option maxRecDepth 6000 in
theorem rdep_7 (kd : Int) (b : Bool) (n : Int) (f : Nat) (tx ty : ByteArray) (its : Vls) (fls : Fls) (hk : kdOf kd = 7) : RDn (.mk kd b n f tx ty its fls) := by
  intro cs w hv
  have iv : (Try.prog.info? 27).map (·.size) = some cs.length := by rw [hv.cells]; exact infoV
  obtain ⟨W, eW⟩ : ∃ W, W = w.alloc (.cells cs.toArray 27) := ⟨_, rfl⟩
  have BW : Below w.heap.size w W := by rw [eW]; exact (Below.refl _ _).alloc (Nat.le_refl _) _
  have R_a := hide (show Row8 W w.heap.size 0 cs from fun j x hx => by
    rw [eW, Nat.zero_add, World.cell?_alloc_at _ _ _ _ rfl]; simpa using hx)
  have V_a := hide (VlC.below BW _ _ hv)
  have IV := hide iv
  have EW := hide eW
  clear eW hv iv
  go_enter Try.func17, Try.ntmps17
  go_wp2_with (rw [← unhide EW]; refine wpList_load_mid (by rfl) 27 _ (by rfl) w.heap.size 0 (by rfl) cs _ (unhide R_a) Try.underlying27 (by rfl) (unhide IV) ?_)
  clear EW
  refine (rkind_ok (.mk kd b n f tx ty its fls) _ _ _ (unhide V_a)).mono ?_
  rintro e w1 ⟨rfl, g⟩
  rw [show kdV (Vl.mk kd b n f tx ty its fls) = 7 from hk]
  have R_a := hide (Row8.below (unhide R_a) g)
  have V_a := hide (VlC.below g _ _ (unhide V_a))
  have BW : Below w.heap.size w w1 := BW.trans (g.mono BW.size)
  clear g
  have h5' : kd ≠ 5 := fun e => by rw [e] at hk; exact absurd hk (by decide)
  have h6' : kd ≠ 6 := fun e => by rw [e] at hk; exact absurd hk (by decide)
  go_wp2
  go_ret
  exact ⟨by rw [depW, if_neg h5', if_neg h6']; rfl, BW⟩
theorem rdepth_ok : ∀ v : Vl, Small v → RDn v := by
  refine Vl.all ?_
  intro kd b n f tx ty its fls hI hF hv
  have hv0 := hv
  unfold Small at hv
  rcases kdOf_rng kd with h | h | h | h | h | h | h | h
  · exact rdep_0 _ _ _ _ _ _ _ _ h
  · exact rdep_1 _ _ _ _ _ _ _ _ h
  · exact rdep_2 _ _ _ _ _ _ _ _ h
  · exact rdep_3 _ _ _ _ _ _ _ _ h
  · exact rdep_4 _ _ _ _ _ _ _ _ h
  · obtain rfl := kdOf_five h
    exact rdep_5 _ _ _ _ _ _ _ hv0 (chV_mem (P := RDn) (fun v hm => hI v hm (hv.2.2.2.1.all _ hm)) (fun q hm => hF q hm (hv.2.2.2.2.all _ hm)))
  · obtain rfl := kdOf_six h
    exact rdep_6 _ _ _ _ _ _ _ hv0 (chV_mem (P := RDn) (fun v hm => hI v hm (hv.2.2.2.1.all _ hm)) (fun q hm => hF q hm (hv.2.2.2.2.all _ hm)))
  · exact rdep_7 _ _ _ _ _ _ _ _ h
end Go.Proofs.Ytiblkdedbimggaa.og
namespace Go.Proofs.Ytiblkdedbimggaa.og
open Go.ChangeShapes Go.WideShapes Go.ChangeAt Go.RowKit
open vl hiding cB cFl cS cF cI cK cIt
set_option linter.unusedVariables false
set_option linter.unusedSimpArgs false
/-- a list of a value, twice -/
def dbV (v : Vl) : Vl := .mk 5 false 0 0 { data := #[] } { data := #[] } (.cons v (.cons v .nil)) .nil
def dbC (b : Nat) : List Value := [.int .i64 5, .bool false, .int .i64 0, .float .f64 0, .string { data := #[] }, .string { data := #[] }, .slice (some ⟨b, 0, none⟩) 2 2, .slice none 0 0]
theorem Small.db {v : Vl} (h : Small v) : Small (dbV v) := by
  unfold dbV Small
  refine ⟨by simp [Vls.list], by simp [Fls.list], by omega, ?_, ?_⟩
  · unfold SmallI; refine ⟨h, ?_⟩; unfold SmallI; refine ⟨h, ?_⟩; unfold SmallI; trivial
  · unfold SmallF; trivial
theorem db_VlC {w : World} {v : Vl} {cs : List Value} {b : Nat} (hv : VlC w v cs) (hr : w.rangeAt b 0 (cs ++ cs)) : VlC w (dbV v) (dbC b) := by
  have c8 := hv.cells
  unfold dbV VlC
  refine ⟨some ⟨b, 0, none⟩, 2, 2, none, 0, 0, rfl, ?_, ?_, Nat.le_refl _, Nat.le_refl _, fun e => (by cases e), fun _ => rfl, by decide, by decide, Nat.zero_le _, Nat.zero_le _, by unfold maxLen; omega, by unfold maxLen; omega⟩
  · unfold VlsAt
    refine ⟨b, 0, 1, cs, rfl, rfl, fun j u hu => ?_, hv, ?_⟩
    · have := hr j u (by rw [List.getElem?_append_left (List.getElem?_eq_some_iff.1 hu).1]; exact hu); exact this
    · unfold VlsAt
      refine ⟨b, 8, 0, cs, rfl, rfl, fun j u hu => ?_, hv, ?_⟩
      · have := hr (8 + j) u (by rw [List.getElem?_append_right (by omega), c8]; simpa using hu); rw [Nat.zero_add] at this; exact this
      · unfold VlsAt; rfl
  · unfold FlsAt; rfl
theorem wrapE (n : Int) : IntKind.i64.wrap n = wrap64 n := by rw [IntKind.wrap_i64]; unfold wrap64; omega
theorem db_cnt (v : Vl) : wrap64 (cnt (dbV v) : Nat) = wrap64 (1 + wrap64 (2 * wrap64 (cnt v : Nat))) := by
  have : cnt (dbV v) = 1 + (cnt v + (cnt v + 0)) := by unfold dbV; rw [cnt, if_pos rfl, cntI, cntI, cntI]
  rw [this]
  unfold wrap64
  omega
theorem db_dep (v : Vl) (h : 0 ≤ depW v) : depW (dbV v) = wrap64 (1 + depW v) := by
  unfold dbV
  rw [depW, if_pos rfl, mxI, mxI, mxI]
  congr 2
  omega
theorem build2V {w0 : World} {v : Vl} {ds : List Value} (h : VlC w0 v ds) (w : World) : (Instr.buildSlice 24 2 #[(0, .agg ds.toArray), (1, .agg ds.toArray)]).run Try.prog w = .ok (.slice (some ⟨w.heap.size, 0, none⟩) 2 2) (w.alloc (.cells (ds ++ ds).toArray 27)) := by
  cases v
  unfold VlC at h
  obtain ⟨_, _, _, _, _, _, rfl, -⟩ := h
  go_simp
theorem wpList_build2 {P : Program} {ops : Array Oper} {rest : List Oper} {o : Oper} {a : Act} {w w' : World} {Q : Exit → Act → World → Prop} (hgd : o.guard = none) (t : TypeId) (x y : Operand) (ho : o.op = .buildSlice t 2 #[(0, x), (1, y)]) (v u sl : Value) (hx : a.eval x = v) (hy : a.eval y = u) (hr : (Instr.buildSlice t 2 #[(0, v), (1, u)]).run P w = .ok sl w')
    (h : wpList P ops Q rest (a.put o.dst sl) w') : wpList P ops Q (o :: rest) a w :=
  wpList_plain hgd fun _ hK => by
    unfold Oper.wp execOp
    simp only [ho, List.map_toArray, List.map_cons, List.map_nil, hx, hy, Sem.run_bind, hr, Result.andThen_ok, Sem.run_pure]
    exact hK _ _ h
set_option maxHeartbeats 8000000 in
set_option maxRecDepth 6000 in
theorem law_counts (v : Vl) (cs : List Value) (w : World) (hv : VlC w v cs) (hsv : Small v) (hD : 0 ≤ depW v) :
    Calls Try.prog 5 #[.agg cs.toArray] w fun e w' => e = .returned (.bool true) ∧ Below w.heap.size w w' := by
  have hst := Small.db hsv
  have hbd := build2V hv
  have HBD := hide hbd
  clear hbd
  have c8 := hv.cells
  have I_a := hide (show (Try.prog.info? 27).map (·.size) = some cs.length by rw [hv.cells]; exact infoV)
  obtain ⟨W, eW⟩ : ∃ W, W = w.alloc (.cells cs.toArray 27) := ⟨_, rfl⟩
  have BW : Below w.heap.size w W := by rw [eW]; exact (Below.refl _ _).alloc (Nat.le_refl _) _
  have R_a := hide (show W.rangeAt w.heap.size 0 cs from fun j u hu => by
    rw [Nat.zero_add, eW, World.cell?_alloc_at _ _ _ _ rfl]; simpa using hu)
  have V_a := hide (VlC.below BW _ _ hv)
  have EW := hide eW
  clear eW hv
  go_enter Try.func5, Try.ntmps5
  go_wp2_with fail
  rw [← unhide EW]
  clear EW
  refine (known_ok W).mono ?_
  rintro e w1 ⟨rfl, bG⟩
  have R_a := hide (Row8.below (unhide R_a) bG)
  have V_a := hide (VlC.below bG _ _ (unhide V_a))
  have BW : Below w.heap.size w w1 := BW.trans (bG.mono BW.size)
  clear bG
  have R1 := R_a
  obtain ⟨Y, eY⟩ : ∃ Y, Y = w1.alloc (.cells (cs ++ cs).toArray 27) := ⟨_, rfl⟩
  have sY : Y.heap.size = w1.heap.size + 1 := by rw [eY]; simp
  have bY : Below w1.heap.size w1 Y := by rw [eY]; exact (Below.refl _ _).alloc (Nat.le_refl _) _
  have rY : Y.rangeAt w1.heap.size 0 (cs ++ cs) := fun j u hu => by rw [Nat.zero_add, eY, World.cell?_alloc_at _ _ _ _ rfl]; simpa using hu
  have hY := unhide HBD w1
  rw [← eY] at hY
  have HY := hide hY
  clear HBD hY eY
  have R_a := hide (Row8.below (unhide R_a) bY)
  have V_a := hide (VlC.below bY _ _ (unhide V_a))
  have BW : Below w.heap.size w Y := BW.trans (bY.mono BW.size)
  clear bY
  have hfr : VlC Y (dbV v) (dbC w1.heap.size) := db_VlC (unhide V_a) rY
  clear rY
  have d1_t := hfr.one
  have I_t := hide (show (Try.prog.info? 27).map (·.size) = some (dbC w1.heap.size).length by exact infoV)
  have J_t := hide (show (Try.prog.info? 27).map (·.size) = some (dbC w1.heap.size).toArray.size by exact infoV)
  have T_t := hide (show (Y.alloc (.cells #[.int .i64 0, .bool false, .int .i64 0, .float .f64 0, .string { data := #[] }, .string { data := #[] }, .slice none 0 0, .slice none 0 0] 27)).there (w1.heap.size + 1) 0 (dbC w1.heap.size).toArray.size by rw [← sY]; exact there_new rfl)
  obtain ⟨X, eX⟩ : ∃ X, X = (Y.alloc (.cells #[.int .i64 0, .bool false, .int .i64 0, .float .f64 0, .string { data := #[] }, .string { data := #[] }, .slice none 0 0, .slice none 0 0] 27)).setCells (w1.heap.size + 1) 0 (dbC w1.heap.size) := ⟨_, rfl⟩
  have bX : Below Y.heap.size Y X := by rw [eX]; exact below_setCells _ _ _ _ ((Below.refl _ _).alloc (Nat.le_refl _) _) (by omega)
  have R_t := hide (show X.rangeAt (w1.heap.size + 1) 0 (dbC w1.heap.size) by rw [eX]; exact World.rangeAt_setCells_same _ _ _ _ (unhide T_t))
  have V_t := hide (VlC.below bX _ _ hfr)
  have E_t := hide eX
  clear eX hfr
  have R_a := hide (Row8.below (unhide R_a) bX)
  have V_a := hide (VlC.below bX _ _ (unhide V_a))
  have BW : Below w.heap.size w X := BW.trans (bX.mono BW.size)
  clear bX
  have SY := hide sY
  clear sY
  go_wp2_with (first
    | (refine wpList_load_mid (by rfl) 27 _ (by rfl) w.heap.size 0 (by rfl) cs _ (unhide R1) Try.underlying27 (by rfl) (unhide I_a) ?_)
    | (refine wpList_build2 (by rfl) 24 _ _ (by rfl) (.agg cs.toArray) (.agg cs.toArray) _ (by rfl) (by rfl) (unhide HY) ?_)
    | (rw [unhide SY]; refine wpList_store_mid (by rfl) 27 _ _ (by rfl) (w1.heap.size + 1) 0 (dbC w1.heap.size).toArray (by rfl) (by rfl) (unhide T_t) (unhide J_t) d1_t ?_; rw [show (Y.alloc (.cells #[.int .i64 0, .bool false, .int .i64 0, .float .f64 0, .string { data := #[] }, .string { data := #[] }, .slice none 0 0, .slice none 0 0] 27)).setCells (w1.heap.size + 1) 0 (dbC w1.heap.size).toArray.toList = X from (unhide E_t).symm])
    | (refine wpList_store_mid (by rfl) 27 _ _ (by rfl) (w1.heap.size + 1) 0 (dbC w1.heap.size).toArray (by rfl) (by rfl) (unhide T_t) (unhide J_t) d1_t ?_; rw [show (Y.alloc (.cells #[.int .i64 0, .bool false, .int .i64 0, .float .f64 0, .string { data := #[] }, .string { data := #[] }, .slice none 0 0, .slice none 0 0] 27)).setCells (w1.heap.size + 1) 0 (dbC w1.heap.size).toArray.toList = X from (unhide E_t).symm]))
  clear T_t J_t E_t d1_t R1 HY c8
  have hC1 := db_cnt v
  have hC2 := db_dep v hD
  have HC1 := hide hC1
  have HC2 := hide hC2
  clear hC1 hC2 hD
  have hS0 : Gb X { X with drawn := X.drawn + 1 } := Gb.drew (Gb.refl _)
  refine wp_region_noPanic ?_
  refine wp_region_held (S := fun w' => Gb X w') mixed ?_
  refine wpAnyH_take (i := 0) rfl (by kernel_rfl) (by kernel_rfl) (by kernel_rfl) (fun _ _ _ h => h) (yieldsIf_load_mid (by rfl) 27 _ (by rfl) w.heap.size 0 (by rfl) cs _ (fun w' hw' => Row8.below (unhide R_a) hw') Try.underlying27 (by rfl) (unhide I_a)) hS0 ?_
  simp only [List.getElem_toArray, List.getElem_cons_zero, List.getElem_cons_succ, Act.put, List.setIfInBounds_toArray, List.set_cons_zero, List.set_cons_succ]
  refine wpAnyH_take (i := 2) rfl (by kernel_rfl) (by kernel_rfl) (by kernel_rfl) (fun _ _ _ h => h) (yieldsIf_load_mid (by rfl) 27 _ (by rfl) w.heap.size 0 (by rfl) cs _ (fun w' hw' => Row8.below (unhide R_a) hw') Try.underlying27 (by rfl) (unhide I_a)) hS0 ?_
  simp only [List.getElem_toArray, List.getElem_cons_zero, List.getElem_cons_succ, Act.put, List.setIfInBounds_toArray, List.set_cons_zero, List.set_cons_succ]
  refine rgn.one (i := 1) _ rfl (by kernel_rfl) (by rfl) ?_
  simp only [List.getElem_toArray, List.getElem_cons_zero, List.getElem_cons_succ, Act.put, List.setIfInBounds_toArray, List.set_cons_zero, List.set_cons_succ]
  go_wp2_with fail
  refine (count_ok v hsv cs _ (VlC.below hS0 _ _ (unhide V_a))).mono ?_
  rintro e y3 ⟨rfl, g⟩
  have hS0 : Gb X y3 := hS0.trans (g.mono hS0.size)
  clear g
  refine ⟨hS0, ?_⟩
  refine rgn.one (i := 3) _ rfl (by kernel_rfl) (by rfl) ?_
  simp only [List.getElem_toArray, List.getElem_cons_zero, List.getElem_cons_succ, Act.put, List.setIfInBounds_toArray, List.set_cons_zero, List.set_cons_succ]
  go_wp2_with fail
  refine (rcount_ok v hsv cs _ (VlC.below hS0 _ _ (unhide V_a))).mono ?_
  rintro e y4 ⟨rfl, g⟩
  generalize hC : wrap64 (cnt v : Nat) = C at *
  have EC := hide hC
  clear hC
  have hS0 : Gb X y4 := hS0.trans (g.mono hS0.size)
  clear g
  refine ⟨hS0, ?_⟩
  refine rgn.take (i := 4) _ (.bool true) rfl (by kernel_rfl) (by kernel_rfl) (by kernel_rfl) (fun _ _ _ h => h) (by rfl) hS0 (fun w' hw' => by clear hw'; go_simp) ?_
  simp only [List.getElem_toArray, List.getElem_cons_zero, List.getElem_cons_succ, Act.put, List.setIfInBounds_toArray, List.set_cons_zero, List.set_cons_succ]
  refine rgn.take (i := 5) _ (.bool true) rfl (by kernel_rfl) (by kernel_rfl) (by kernel_rfl) (fun _ _ _ h => h) (by rfl) hS0 (fun w' hw' => by clear hw'; go_simp) ?_
  simp only [List.getElem_toArray, List.getElem_cons_zero, List.getElem_cons_succ, Act.put, List.setIfInBounds_toArray, List.set_cons_zero, List.set_cons_succ]
  refine wpAnyH_take (i := 6) rfl (by kernel_rfl) (by kernel_rfl) (by kernel_rfl) (fun _ _ _ h => h) (yieldsIf_load_mid (by rfl) 27 _ (by rfl) w.heap.size 0 (by rfl) cs _ (fun w' hw' => Row8.below (unhide R_a) hw') Try.underlying27 (by rfl) (unhide I_a)) hS0 ?_
  simp only [List.getElem_toArray, List.getElem_cons_zero, List.getElem_cons_succ, Act.put, List.setIfInBounds_toArray, List.set_cons_zero, List.set_cons_succ]
  refine wpAnyH_take (i := 8) rfl (by kernel_rfl) (by kernel_rfl) (by kernel_rfl) (fun _ _ _ h => h) (yieldsIf_load_mid (by rfl) 27 _ (by rfl) w.heap.size 0 (by rfl) cs _ (fun w' hw' => Row8.below (unhide R_a) hw') Try.underlying27 (by rfl) (unhide I_a)) hS0 ?_
  simp only [List.getElem_toArray, List.getElem_cons_zero, List.getElem_cons_succ, Act.put, List.setIfInBounds_toArray, List.set_cons_zero, List.set_cons_succ]
  refine rgn.one (i := 7) _ rfl (by kernel_rfl) (by rfl) ?_
  simp only [List.getElem_toArray, List.getElem_cons_zero, List.getElem_cons_succ, Act.put, List.setIfInBounds_toArray, List.set_cons_zero, List.set_cons_succ]
  go_wp2_with fail
  refine (depth_ok v hsv cs _ (VlC.below hS0 _ _ (unhide V_a))).mono ?_
  rintro e y9 ⟨rfl, g⟩
  have hS0 : Gb X y9 := hS0.trans (g.mono hS0.size)
  clear g
  refine ⟨hS0, ?_⟩
  refine rgn.one (i := 9) _ rfl (by kernel_rfl) (by rfl) ?_
  simp only [List.getElem_toArray, List.getElem_cons_zero, List.getElem_cons_succ, Act.put, List.setIfInBounds_toArray, List.set_cons_zero, List.set_cons_succ]
  go_wp2_with fail
  refine (rdepth_ok v hsv cs _ (VlC.below hS0 _ _ (unhide V_a))).mono ?_
  rintro e y10 ⟨rfl, g⟩
  generalize hC : depW v = D at *
  have ED := hide hC
  clear hC
  have hS0 : Gb X y10 := hS0.trans (g.mono hS0.size)
  clear g
  refine ⟨hS0, ?_⟩
  refine rgn.take (i := 10) _ (.bool true) rfl (by kernel_rfl) (by kernel_rfl) (by kernel_rfl) (fun _ _ _ h => h) (by rfl) hS0 (fun w' hw' => by clear hw'; go_simp) ?_
  simp only [List.getElem_toArray, List.getElem_cons_zero, List.getElem_cons_succ, Act.put, List.setIfInBounds_toArray, List.set_cons_zero, List.set_cons_succ]
  refine rgn.take (i := 11) _ (.bool true) rfl (by kernel_rfl) (by kernel_rfl) (by kernel_rfl) (fun _ _ _ h => h) (by rfl) hS0 (fun w' hw' => by clear hw'; go_simp) ?_
  simp only [List.getElem_toArray, List.getElem_cons_zero, List.getElem_cons_succ, Act.put, List.setIfInBounds_toArray, List.set_cons_zero, List.set_cons_succ]
  refine rgn.take (i := 12) _ (.bool true) rfl (by kernel_rfl) (by kernel_rfl) (by kernel_rfl) (fun _ _ _ h => h) (by rfl) hS0 (fun w' hw' => by clear hw'; go_simp) ?_
  simp only [List.getElem_toArray, List.getElem_cons_zero, List.getElem_cons_succ, Act.put, List.setIfInBounds_toArray, List.set_cons_zero, List.set_cons_succ]
  refine wpAnyH_take (i := 13) rfl (by kernel_rfl) (by kernel_rfl) (by kernel_rfl) (fun _ _ _ h => h) (yieldsIf_load_mid (by rfl) 27 _ (by rfl) (w1.heap.size + 1) 0 (by rfl) (dbC w1.heap.size) _ (fun w' hw' => Row8.below (unhide R_t) hw') Try.underlying27 (by rfl) (unhide I_t)) hS0 ?_
  simp only [List.getElem_toArray, List.getElem_cons_zero, List.getElem_cons_succ, Act.put, List.setIfInBounds_toArray, List.set_cons_zero, List.set_cons_succ]
  refine wpAnyH_take (i := 15) rfl (by kernel_rfl) (by kernel_rfl) (by kernel_rfl) (fun _ _ _ h => h) (yieldsIf_load_mid (by rfl) 27 _ (by rfl) w.heap.size 0 (by rfl) cs _ (fun w' hw' => Row8.below (unhide R_a) hw') Try.underlying27 (by rfl) (unhide I_a)) hS0 ?_
  simp only [List.getElem_toArray, List.getElem_cons_zero, List.getElem_cons_succ, Act.put, List.setIfInBounds_toArray, List.set_cons_zero, List.set_cons_succ]
  refine rgn.one (i := 14) _ rfl (by kernel_rfl) (by rfl) ?_
  simp only [List.getElem_toArray, List.getElem_cons_zero, List.getElem_cons_succ, Act.put, List.setIfInBounds_toArray, List.set_cons_zero, List.set_cons_succ]
  go_wp2_with fail
  refine (count_ok (dbV v) hst (dbC w1.heap.size) _ (VlC.below hS0 _ _ (unhide V_t))).mono ?_
  rintro e y16 ⟨rfl, g⟩
  rw [unhide HC1]
  have hS0 : Gb X y16 := hS0.trans (g.mono hS0.size)
  clear g
  refine ⟨hS0, ?_⟩
  refine rgn.one (i := 16) _ rfl (by kernel_rfl) (by rfl) ?_
  simp only [List.getElem_toArray, List.getElem_cons_zero, List.getElem_cons_succ, Act.put, List.setIfInBounds_toArray, List.set_cons_zero, List.set_cons_succ]
  go_wp2_with fail
  refine (count_ok v hsv cs _ (VlC.below hS0 _ _ (unhide V_a))).mono ?_
  rintro e y17 ⟨rfl, g⟩
  rw [unhide EC]
  have hS0 : Gb X y17 := hS0.trans (g.mono hS0.size)
  clear g
  refine ⟨hS0, ?_⟩
  refine rgn.take (i := 17) _ (.int .i64 (wrap64 (2 * C))) rfl (by kernel_rfl) (by kernel_rfl) (by kernel_rfl) (fun _ _ _ h => h) (by rfl) hS0 (fun w' hw' => by clear hw'; go_simp; exact wrapE _) ?_
  simp only [List.getElem_toArray, List.getElem_cons_zero, List.getElem_cons_succ, Act.put, List.setIfInBounds_toArray, List.set_cons_zero, List.set_cons_succ]
  refine rgn.take (i := 18) _ (.int .i64 (wrap64 (1 + wrap64 (2 * C)))) rfl (by kernel_rfl) (by kernel_rfl) (by kernel_rfl) (fun _ _ _ h => h) (by rfl) hS0 (fun w' hw' => by clear hw'; go_simp; exact wrapE _) ?_
  simp only [List.getElem_toArray, List.getElem_cons_zero, List.getElem_cons_succ, Act.put, List.setIfInBounds_toArray, List.set_cons_zero, List.set_cons_succ]
  refine rgn.take (i := 19) _ (.bool true) rfl (by kernel_rfl) (by kernel_rfl) (by kernel_rfl) (fun _ _ _ h => h) (by rfl) hS0 (fun w' hw' => by clear hw'; go_simp) ?_
  simp only [List.getElem_toArray, List.getElem_cons_zero, List.getElem_cons_succ, Act.put, List.setIfInBounds_toArray, List.set_cons_zero, List.set_cons_succ]
  refine rgn.take (i := 20) _ (.bool true) rfl (by kernel_rfl) (by kernel_rfl) (by kernel_rfl) (fun _ _ _ h => h) (by rfl) hS0 (fun w' hw' => by clear hw'; go_simp) ?_
  simp only [List.getElem_toArray, List.getElem_cons_zero, List.getElem_cons_succ, Act.put, List.setIfInBounds_toArray, List.set_cons_zero, List.set_cons_succ]
  refine rgn.take (i := 21) _ (.bool true) rfl (by kernel_rfl) (by kernel_rfl) (by kernel_rfl) (fun _ _ _ h => h) (by rfl) hS0 (fun w' hw' => by clear hw'; go_simp) ?_
  simp only [List.getElem_toArray, List.getElem_cons_zero, List.getElem_cons_succ, Act.put, List.setIfInBounds_toArray, List.set_cons_zero, List.set_cons_succ]
  refine wpAnyH_take (i := 22) rfl (by kernel_rfl) (by kernel_rfl) (by kernel_rfl) (fun _ _ _ h => h) (yieldsIf_load_mid (by rfl) 27 _ (by rfl) (w1.heap.size + 1) 0 (by rfl) (dbC w1.heap.size) _ (fun w' hw' => Row8.below (unhide R_t) hw') Try.underlying27 (by rfl) (unhide I_t)) hS0 ?_
  simp only [List.getElem_toArray, List.getElem_cons_zero, List.getElem_cons_succ, Act.put, List.setIfInBounds_toArray, List.set_cons_zero, List.set_cons_succ]
  refine wpAnyH_take (i := 24) rfl (by kernel_rfl) (by kernel_rfl) (by kernel_rfl) (fun _ _ _ h => h) (yieldsIf_load_mid (by rfl) 27 _ (by rfl) w.heap.size 0 (by rfl) cs _ (fun w' hw' => Row8.below (unhide R_a) hw') Try.underlying27 (by rfl) (unhide I_a)) hS0 ?_
  simp only [List.getElem_toArray, List.getElem_cons_zero, List.getElem_cons_succ, Act.put, List.setIfInBounds_toArray, List.set_cons_zero, List.set_cons_succ]
  refine rgn.one (i := 23) _ rfl (by kernel_rfl) (by rfl) ?_
  simp only [List.getElem_toArray, List.getElem_cons_zero, List.getElem_cons_succ, Act.put, List.setIfInBounds_toArray, List.set_cons_zero, List.set_cons_succ]
  go_wp2_with fail
  refine (depth_ok (dbV v) hst (dbC w1.heap.size) _ (VlC.below hS0 _ _ (unhide V_t))).mono ?_
  rintro e y25 ⟨rfl, g⟩
  rw [unhide HC2]
  have hS0 : Gb X y25 := hS0.trans (g.mono hS0.size)
  clear g
  refine ⟨hS0, ?_⟩
  refine rgn.one (i := 25) _ rfl (by kernel_rfl) (by rfl) ?_
  simp only [List.getElem_toArray, List.getElem_cons_zero, List.getElem_cons_succ, Act.put, List.setIfInBounds_toArray, List.set_cons_zero, List.set_cons_succ]
  go_wp2_with fail
  refine (depth_ok v hsv cs _ (VlC.below hS0 _ _ (unhide V_a))).mono ?_
  rintro e y26 ⟨rfl, g⟩
  rw [unhide ED]
  have hS0 : Gb X y26 := hS0.trans (g.mono hS0.size)
  clear g
  refine ⟨hS0, ?_⟩
  refine rgn.take (i := 26) _ (.int .i64 (wrap64 (1 + D))) rfl (by kernel_rfl) (by kernel_rfl) (by kernel_rfl) (fun _ _ _ h => h) (by rfl) hS0 (fun w' hw' => by clear hw'; go_simp; exact wrapE _) ?_
  simp only [List.getElem_toArray, List.getElem_cons_zero, List.getElem_cons_succ, Act.put, List.setIfInBounds_toArray, List.set_cons_zero, List.set_cons_succ]
  refine rgn.take (i := 27) _ (.bool true) rfl (by kernel_rfl) (by kernel_rfl) (by kernel_rfl) (fun _ _ _ h => h) (by rfl) hS0 (fun w' hw' => by clear hw'; go_simp) ?_
  simp only [List.getElem_toArray, List.getElem_cons_zero, List.getElem_cons_succ, Act.put, List.setIfInBounds_toArray, List.set_cons_zero, List.set_cons_succ]
  refine rgn.take (i := 28) _ (.bool true) rfl (by kernel_rfl) (by kernel_rfl) (by kernel_rfl) (fun _ _ _ h => h) (by rfl) hS0 (fun w' hw' => by clear hw'; go_simp) ?_
  simp only [List.getElem_toArray, List.getElem_cons_zero, List.getElem_cons_succ, Act.put, List.setIfInBounds_toArray, List.set_cons_zero, List.set_cons_succ]
  refine rgn.take (i := 29) _ (.bool true) rfl (by kernel_rfl) (by kernel_rfl) (by kernel_rfl) (fun _ _ _ h => h) (by rfl) hS0 (fun w' hw' => by clear hw'; go_simp) ?_
  simp only [List.getElem_toArray, List.getElem_cons_zero, List.getElem_cons_succ, Act.put, List.setIfInBounds_toArray, List.set_cons_zero, List.set_cons_succ]
  refine wpAnyH_done (by kernel_rfl) ?_ _; refine NoPanic.normal ?_
  have G := BW.trans (Below.mono hS0 BW.size)
  go_wp2
  go_ret
  exact ⟨rfl, G⟩
end Go.Proofs.Ytiblkdedbimggaa.og
namespace Go.Proofs.Ytiblkdedbimggaa.vl
open Go.ChangeShapes Go.WideShapes Go.ChangeAt Go.RowKit
open stp (St Pth St3)
set_option linter.unusedVariables false
set_option linter.unusedSimpArgs false
theorem wpList_loadG {P : Program} {ops : Array Oper} {rest : List Oper} {op : Oper} {a : Act} {w : World} {Q : Exit → Act → World → Prop} (hw : Region.wanted op (yielded ops a.tmps) = true) (ty : TypeId) (x : Operand) (ho : op.op = .load ty x)
    (b o : Nat) (hx : a.eval x = .pointer (some ⟨b, o, none⟩)) (cs : List Value) (d : TypeDesc) (hc : w.rangeAt b o cs) (hu : P.underlying ty = some d) (hd : d.isRow = true) (hi : (P.info? ty).map (·.size) = some cs.length)
    (h : wpList P ops Q rest (a.put op.dst (.agg cs.toArray)) w) : wpList P ops Q (op :: rest) a w :=
  wpList_step fun K hK => by rw [if_pos hw]; exact wp_load_mid ty x ho b o hx cs d hc hu hd hi (hK _ _ h)
theorem SmallI.of {l : List Vl} (h : ∀ v ∈ l, Small v) : SmallI (Vls.of l) := by
  induction l with
  | nil => simp [Vls.of, SmallI]
  | cons v r ih => simp only [Vls.of, SmallI]; exact ⟨h v (List.mem_cons_self ..), ih (fun u hu => h u (List.mem_cons_of_mem _ hu))⟩
theorem SmallF.of {l : List (ByteArray × Vl)} (h : ∀ q ∈ l, Small q.2) : SmallF (Fls.of l) := by
  induction l with
  | nil => simp [Fls.of, SmallF]
  | cons v r ih => simp only [Fls.of, SmallF]; exact ⟨h v (List.mem_cons_self ..), ih (fun u hu => h u (List.mem_cons_of_mem _ hu))⟩
theorem mem_modify {α : Type} {f : α → α} : ∀ {l : List α} {i : Nat} {y : α}, y ∈ l.modify i f → y ∈ l ∨ ∃ z ∈ l, y = f z
  | [], i, y, h => by simp at h
  | a :: r, 0, y, h => by
    simp at h
    rcases h with h | h
    · exact .inr ⟨a, List.mem_cons_self .., h⟩
    · exact .inl (List.mem_cons_of_mem _ h)
  | a :: r, i + 1, y, h => by
    simp at h
    rcases h with h | h
    · exact .inl (h ▸ List.mem_cons_self ..)
    · rcases mem_modify h with h | ⟨z, hz, h⟩
      · exact .inl (List.mem_cons_of_mem _ h)
      · exact .inr ⟨z, List.mem_cons_of_mem _ hz, h⟩
theorem Small.setS {v x : Vl} {s : St} {i : Nat} (hv : Small v) (hx : Small x) : Small (setS v s i x) := by
  obtain ⟨kd, bb, ni, f, tx, ty, its, fls⟩ := v
  unfold Small at hv
  obtain ⟨h1, h2, h3, h4, h5⟩ := hv
  simp only [vl.setS]
  split
  · unfold Small
    refine ⟨by rw [Vls.list_of, List.length_set]; exact h1, h2, h3, SmallI.of (fun u hu => ?_), h5⟩
    rcases List.mem_or_eq_of_mem_set hu with h | rfl
    · exact h4.all u h
    · exact hx
  · unfold Small
    refine ⟨h1, by rw [Fls.list_of, List.length_modify]; exact h2, h3, h4, SmallF.of (fun q hq => ?_)⟩
    rcases mem_modify hq with h | ⟨z, hz, rfl⟩
    · exact h5.all q h
    · exact hx
theorem Small.setP : ∀ {ss : List St} {v x u : Vl}, Small v → Small x → setP v ss x = some u → Small u
  | [], v, x, u, hv, hx, h => by simp only [vl.setP, Option.some.injEq] at h; rw [← h]; exact hx
  | s :: r, v, x, u, hv, hx, h => by
    simp only [vl.setP] at h
    cases hc : chI v s with
    | none => rw [hc] at h; simp at h
    | some i =>
      cases hs : vl.getS v s with
      | none => rw [hc, hs] at h; simp at h
      | some y =>
        rw [hc, hs] at h
        simp only [Option.map_eq_some_iff] at h
        obtain ⟨z, hz, rfl⟩ := h
        exact Small.setS hv (Small.setP (hv.getS hs) hx hz)
theorem Small.z0 : Small z0 := by simp [vl.z0, Small, SmallI, SmallF, Vls.list, Fls.list]
theorem same_get {v u u' : Vl} {ss : List St} {a b : Bool} (h : if a = true then getP v ss = some u else getP v ss = none ∧ u = z0) (h' : if b = true then getP v ss = some u' else getP v ss = none ∧ u' = z0) (hv : Small v) : a = b ∧ u = u' ∧ Small u := by
  cases a <;> cases b
  · simp at h h'
    exact ⟨rfl, h.2.trans h'.2.symm, h.2 ▸ Small.z0⟩
  · simp at h h'
    rw [h.1] at h'; cases h'
  · simp at h h'
    rw [h'.1] at h; cases h
  · simp at h h'
    exact ⟨rfl, Option.some.inj (h.symm.trans h'), hv.getP h⟩
theorem same_set {v x u u' : Vl} {ss : List St} {a b : Bool} (h : if a = true then setP v ss x = some u else getP v ss = none ∧ u = z0) (h' : if b = true then setP v ss x = some u' else getP v ss = none ∧ u' = z0) (hv : Small v) (hx : Small x) : a = b ∧ u = u' ∧ Small u := by
  cases a <;> cases b
  · simp at h h'
    exact ⟨rfl, h.2.trans h'.2.symm, h.2 ▸ Small.z0⟩
  · simp at h h'
    rw [setP_none x h.1] at h'; cases h'
  · simp at h h'
    rw [setP_none x h'.1] at h; cases h
  · simp at h h'
    exact ⟨rfl, Option.some.inj (h.symm.trans h'), Small.setP hv hx h⟩
end Go.Proofs.Ytiblkdedbimggaa.vl
