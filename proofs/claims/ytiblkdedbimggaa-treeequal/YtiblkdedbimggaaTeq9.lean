import Derived.Test.YtiblkdedbimggaaTeq8
import Derived.Test.YtiblkdedbimggaaTeq5
namespace Go.Proofs.Ytiblkdedbimggaa.og
open Go.ChangeShapes Go.WideShapes Go.ChangeAt Go.RowKit
open vl hiding cB cFl cS cF cI cK cIt
open stp (c3 c3_lt c3_gt c3_eq cB cB_tri)
set_option linter.unusedVariables false
set_option linter.unusedSimpArgs false
def RSm (v u : Vl) : Prop := ∀ (cs ds : List Value) (w : World), VlC w v cs → VlC w u ds → Calls Try.prog 13 #[.agg cs.toArray, .agg ds.toArray] w fun e w' => e = .returned (.bool (pmB v u)) ∧ Below w.heap.size w w'
set_option maxHeartbeats 8000000 in
set_option maxRecDepth 6000 in
theorem rsm_ne (kd : Int) (b : Bool) (n : Int) (f : Nat) (tx ty : ByteArray) (its : Vls) (fls : Fls) (kd' : Int) (b' : Bool) (n' : Int) (f' : Nat) (tx' ty' : ByteArray) (its' : Vls) (fls' : Fls) (K K' : Int) (hk : kdOf kd = K) (hk' : kdOf kd' = K') (hne : K ≠ K') : RSm (.mk kd b n f tx ty its fls) (.mk kd' b' n' f' tx' ty' its' fls') := by
  intro cs ds w h1 h2
  have hv := h1
  have hu := h2
  unfold VlC at hv hu
  obtain ⟨ai, ni, ci, af, nf, cf, rfl, vI, vF, q1, q2, q3, q4, q5, q6, q7, q8, q9, q10⟩ := hv
  obtain ⟨ai', ni', ci', af', nf', cf', rfl, uI, uF, p1, p2, p3, p4, p5, p6, p7, p8, p9, p10⟩ := hu
  obtain ⟨W, eW⟩ : ∃ W, W = ((w.alloc (.cells #[.int .i64 kd, .bool b, .int .i64 n, .float .f64 f, .string tx, .string ty, .slice ai ni ci, .slice af nf cf] 27)).alloc (.cells #[.int .i64 kd', .bool b', .int .i64 n', .float .f64 f', .string tx', .string ty', .slice ai' ni' ci', .slice af' nf' cf'] 27)) := ⟨_, rfl⟩
  have BW : Below w.heap.size w W := by rw [eW]; exact ((Below.refl _ _).alloc (Nat.le_refl _) _).alloc (by simp) _
  have R_a := hide (show Row8 W w.heap.size 0 [.int .i64 kd, .bool b, .int .i64 n, .float .f64 f, .string tx, .string ty, .slice ai ni ci, .slice af nf cf] from fun j x hx => by
    rw [eW, Nat.zero_add, World.cell?_alloc_past _ _ _ (by simp), World.cell?_alloc_at _ _ _ _ rfl]; simpa using hx)
  have R_b := hide (show Row8 W (w.heap.size + 1) 0 [.int .i64 kd', .bool b', .int .i64 n', .float .f64 f', .string tx', .string ty', .slice ai' ni' ci', .slice af' nf' cf'] from fun j x hx => by
    rw [eW, Nat.zero_add, World.cell?_alloc_at _ _ _ _ (by simp)]; simpa using hx)
  have V_a := hide (VlC.below BW _ _ h1)
  have V_b := hide (VlC.below BW _ _ h2)
  have EW := hide eW
  have HI := hide (And.intro vI uI)
  have HF := hide (And.intro vF uF)
  clear eW h1 h2 vI vF uI uF q5 q6 q7 q8 p5 p6 p7 p8
  go_enter Try.func13, Try.ntmps13
  go_wp2_with (rw [← unhide EW]; refine wpList_load_mid (by rfl) 27 _ (by rfl) w.heap.size 0 (by rfl) [.int .i64 kd, .bool b, .int .i64 n, .float .f64 f, .string tx, .string ty, .slice ai ni ci, .slice af nf cf] _ (unhide R_a) Try.underlying27 (by rfl) infoV ?_)
  clear EW
  refine (rkind_ok (.mk kd b n f tx ty its fls) _ _ _ (unhide V_a)).mono ?_
  rintro e w1 ⟨rfl, g⟩
  rw [show kdV (Vl.mk kd b n f tx ty its fls) = K from hk]
  have R_a := hide (Row8.below (unhide R_a) g)
  have R_b := hide (Row8.below (unhide R_b) g)
  have V_a := hide (VlC.below g _ _ (unhide V_a))
  have V_b := hide (VlC.below g _ _ (unhide V_b))
  have BW : Below w.heap.size w w1 := BW.trans (g.mono BW.size)
  clear g
  go_wp2_with (refine wpList_load_mid (by rfl) 27 _ (by rfl) (w.heap.size + 1) 0 (by rfl) [.int .i64 kd', .bool b', .int .i64 n', .float .f64 f', .string tx', .string ty', .slice ai' ni' ci', .slice af' nf' cf'] _ (unhide R_b) Try.underlying27 (by rfl) infoV ?_)
  refine (rkind_ok (.mk kd' b' n' f' tx' ty' its' fls') _ _ _ (unhide V_b)).mono ?_
  rintro e w2 ⟨rfl, g⟩
  rw [show kdV (Vl.mk kd' b' n' f' tx' ty' its' fls') = K' from hk']
  have R_a := hide (Row8.below (unhide R_a) g)
  have R_b := hide (Row8.below (unhide R_b) g)
  have V_a := hide (VlC.below g _ _ (unhide V_a))
  have V_b := hide (VlC.below g _ _ (unhide V_b))
  have BW : Below w.heap.size w w2 := BW.trans (g.mono BW.size)
  clear g
  go_wp2
  go_ret
  exact ⟨by rw [pmB_ne (by show kdOf kd ≠ kdOf kd'; rw [hk, hk']; exact hne)]; rfl, BW⟩
set_option maxHeartbeats 8000000 in
set_option maxRecDepth 6000 in
theorem rsm_leaf (kd : Int) (b : Bool) (n : Int) (f : Nat) (tx ty : ByteArray) (its : Vls) (fls : Fls) (kd' : Int) (b' : Bool) (n' : Int) (f' : Nat) (tx' ty' : ByteArray) (its' : Vls) (fls' : Fls) (K : Int) (hk : kdOf kd = K) (hk' : kdOf kd' = K) (h5 : K ≠ 5) (h6 : K ≠ 6) (hv : Small (.mk kd b n f tx ty its fls)) (hu : Small (.mk kd' b' n' f' tx' ty' its' fls')) : RSm (.mk kd b n f tx ty its fls) (.mk kd' b' n' f' tx' ty' its' fls') := by
  intro cs ds w h1 h2
  have gv := h1
  have gu := h2
  unfold VlC at gv gu
  obtain ⟨ai, ni, ci, af, nf, cf, rfl, vI, vF, q1, q2, q3, q4, q5, q6, q7, q8, q9, q10⟩ := gv
  obtain ⟨ai', ni', ci', af', nf', cf', rfl, uI, uF, p1, p2, p3, p4, p5, p6, p7, p8, p9, p10⟩ := gu
  obtain ⟨W, eW⟩ : ∃ W, W = ((w.alloc (.cells #[.int .i64 kd, .bool b, .int .i64 n, .float .f64 f, .string tx, .string ty, .slice ai ni ci, .slice af nf cf] 27)).alloc (.cells #[.int .i64 kd', .bool b', .int .i64 n', .float .f64 f', .string tx', .string ty', .slice ai' ni' ci', .slice af' nf' cf'] 27)) := ⟨_, rfl⟩
  have BW : Below w.heap.size w W := by rw [eW]; exact ((Below.refl _ _).alloc (Nat.le_refl _) _).alloc (by simp) _
  have R_a := hide (show Row8 W w.heap.size 0 [.int .i64 kd, .bool b, .int .i64 n, .float .f64 f, .string tx, .string ty, .slice ai ni ci, .slice af nf cf] from fun j x hx => by
    rw [eW, Nat.zero_add, World.cell?_alloc_past _ _ _ (by simp), World.cell?_alloc_at _ _ _ _ rfl]; simpa using hx)
  have R_b := hide (show Row8 W (w.heap.size + 1) 0 [.int .i64 kd', .bool b', .int .i64 n', .float .f64 f', .string tx', .string ty', .slice ai' ni' ci', .slice af' nf' cf'] from fun j x hx => by
    rw [eW, Nat.zero_add, World.cell?_alloc_at _ _ _ _ (by simp)]; simpa using hx)
  have V_a := hide (VlC.below BW _ _ h1)
  have V_b := hide (VlC.below BW _ _ h2)
  have EW := hide eW
  have HI := hide (And.intro vI uI)
  have HF := hide (And.intro vF uF)
  clear eW h1 h2 vI vF uI uF q5 q6 q7 q8 p5 p6 p7 p8
  go_enter Try.func13, Try.ntmps13
  go_wp2_with (rw [← unhide EW]; refine wpList_load_mid (by rfl) 27 _ (by rfl) w.heap.size 0 (by rfl) [.int .i64 kd, .bool b, .int .i64 n, .float .f64 f, .string tx, .string ty, .slice ai ni ci, .slice af nf cf] _ (unhide R_a) Try.underlying27 (by rfl) infoV ?_)
  clear EW
  refine (rkind_ok (.mk kd b n f tx ty its fls) _ _ _ (unhide V_a)).mono ?_
  rintro e w1 ⟨rfl, g⟩
  rw [show kdV (Vl.mk kd b n f tx ty its fls) = K from hk]
  have R_a := hide (Row8.below (unhide R_a) g)
  have R_b := hide (Row8.below (unhide R_b) g)
  have V_a := hide (VlC.below g _ _ (unhide V_a))
  have V_b := hide (VlC.below g _ _ (unhide V_b))
  have BW : Below w.heap.size w w1 := BW.trans (g.mono BW.size)
  clear g
  go_wp2_with (refine wpList_load_mid (by rfl) 27 _ (by rfl) (w.heap.size + 1) 0 (by rfl) [.int .i64 kd', .bool b', .int .i64 n', .float .f64 f', .string tx', .string ty', .slice ai' ni' ci', .slice af' nf' cf'] _ (unhide R_b) Try.underlying27 (by rfl) infoV ?_)
  refine (rkind_ok (.mk kd' b' n' f' tx' ty' its' fls') _ _ _ (unhide V_b)).mono ?_
  rintro e w2 ⟨rfl, g⟩
  rw [show kdV (Vl.mk kd' b' n' f' tx' ty' its' fls') = K from hk']
  have R_a := hide (Row8.below (unhide R_a) g)
  have R_b := hide (Row8.below (unhide R_b) g)
  have V_a := hide (VlC.below g _ _ (unhide V_a))
  have V_b := hide (VlC.below g _ _ (unhide V_b))
  have BW : Below w.heap.size w w2 := BW.trans (g.mono BW.size)
  clear g
  go_wp2_with (first
    | (refine wpList_load_mid (by rfl) 27 _ (by rfl) w.heap.size 0 (by rfl) [.int .i64 kd, .bool b, .int .i64 n, .float .f64 f, .string tx, .string ty, .slice ai ni ci, .slice af nf cf] _ (unhide R_a) Try.underlying27 (by rfl) infoV ?_)
    | (refine wpList_load_mid (by rfl) 27 _ (by rfl) (w.heap.size + 1) 0 (by rfl) [.int .i64 kd', .bool b', .int .i64 n', .float .f64 f', .string tx', .string ty', .slice ai' ni' ci', .slice af' nf' cf'] _ (unhide R_b) Try.underlying27 (by rfl) infoV ?_))
  refine (req_ok (.mk kd b n f tx ty its fls) hv (.mk kd' b' n' f' tx' ty' its' fls') hu _ _ _ (unhide V_a) (unhide V_b)).mono ?_
  rintro e w3 ⟨rfl, g⟩
  have G := BW.trans (g.mono BW.size)
  go_wp2
  go_ret
  exact ⟨by rw [pmB_leaf (hk.trans hk'.symm) (by rw [hk]; exact h5) (by rw [hk]; exact h6)]; rfl, G⟩
set_option maxHeartbeats 8000000 in
set_option maxRecDepth 6000 in
theorem rsm_5 (kd : Int) (b : Bool) (n : Int) (f : Nat) (tx ty : ByteArray) (its : Vls) (fls : Fls) (kd' : Int) (b' : Bool) (n' : Int) (f' : Nat) (tx' ty' : ByteArray) (its' : Vls) (fls' : Fls) (hk : kdOf kd = 5) (hk' : kdOf kd' = 5) (ih : ∀ v ∈ its.list, ∀ u ∈ its'.list, RSm v u) : RSm (.mk kd b n f tx ty its fls) (.mk kd' b' n' f' tx' ty' its' fls') := by
  intro cs ds w h1 h2
  have hv := h1
  have hu := h2
  unfold VlC at hv hu
  obtain ⟨ai, ni, ci, af, nf, cf, rfl, vI, vF, q1, q2, q3, q4, q5, q6, q7, q8, q9, q10⟩ := hv
  obtain ⟨ai', ni', ci', af', nf', cf', rfl, uI, uF, p1, p2, p3, p4, p5, p6, p7, p8, p9, p10⟩ := hu
  obtain ⟨W, eW⟩ : ∃ W, W = ((w.alloc (.cells #[.int .i64 kd, .bool b, .int .i64 n, .float .f64 f, .string tx, .string ty, .slice ai ni ci, .slice af nf cf] 27)).alloc (.cells #[.int .i64 kd', .bool b', .int .i64 n', .float .f64 f', .string tx', .string ty', .slice ai' ni' ci', .slice af' nf' cf'] 27)) := ⟨_, rfl⟩
  have BW : Below w.heap.size w W := by rw [eW]; exact ((Below.refl _ _).alloc (Nat.le_refl _) _).alloc (by simp) _
  have R_a := hide (show Row8 W w.heap.size 0 [.int .i64 kd, .bool b, .int .i64 n, .float .f64 f, .string tx, .string ty, .slice ai ni ci, .slice af nf cf] from fun j x hx => by
    rw [eW, Nat.zero_add, World.cell?_alloc_past _ _ _ (by simp), World.cell?_alloc_at _ _ _ _ rfl]; simpa using hx)
  have R_b := hide (show Row8 W (w.heap.size + 1) 0 [.int .i64 kd', .bool b', .int .i64 n', .float .f64 f', .string tx', .string ty', .slice ai' ni' ci', .slice af' nf' cf'] from fun j x hx => by
    rw [eW, Nat.zero_add, World.cell?_alloc_at _ _ _ _ (by simp)]; simpa using hx)
  have V_a := hide (VlC.below BW _ _ h1)
  have V_b := hide (VlC.below BW _ _ h2)
  have EW := hide eW
  have HI := hide (And.intro vI uI)
  have HF := hide (And.intro vF uF)
  clear eW h1 h2 vI vF uI uF q5 q6 q7 q8 p5 p6 p7 p8
  go_enter Try.func13, Try.ntmps13
  go_wp2_with (rw [← unhide EW]; refine wpList_load_mid (by rfl) 27 _ (by rfl) w.heap.size 0 (by rfl) [.int .i64 kd, .bool b, .int .i64 n, .float .f64 f, .string tx, .string ty, .slice ai ni ci, .slice af nf cf] _ (unhide R_a) Try.underlying27 (by rfl) infoV ?_)
  clear EW
  refine (rkind_ok (.mk kd b n f tx ty its fls) _ _ _ (unhide V_a)).mono ?_
  rintro e w1 ⟨rfl, g⟩
  rw [show kdV (Vl.mk kd b n f tx ty its fls) = 5 from hk]
  have R_a := hide (Row8.below (unhide R_a) g)
  have R_b := hide (Row8.below (unhide R_b) g)
  have V_a := hide (VlC.below g _ _ (unhide V_a))
  have V_b := hide (VlC.below g _ _ (unhide V_b))
  have BW : Below w.heap.size w w1 := BW.trans (g.mono BW.size)
  clear g
  go_wp2_with (refine wpList_load_mid (by rfl) 27 _ (by rfl) (w.heap.size + 1) 0 (by rfl) [.int .i64 kd', .bool b', .int .i64 n', .float .f64 f', .string tx', .string ty', .slice ai' ni' ci', .slice af' nf' cf'] _ (unhide R_b) Try.underlying27 (by rfl) infoV ?_)
  refine (rkind_ok (.mk kd' b' n' f' tx' ty' its' fls') _ _ _ (unhide V_b)).mono ?_
  rintro e w2 ⟨rfl, g⟩
  rw [show kdV (Vl.mk kd' b' n' f' tx' ty' its' fls') = 5 from hk']
  have R_a := hide (Row8.below (unhide R_a) g)
  have R_b := hide (Row8.below (unhide R_b) g)
  have V_a := hide (VlC.below g _ _ (unhide V_a))
  have V_b := hide (VlC.below g _ _ (unhide V_b))
  have BW : Below w.heap.size w w2 := BW.trans (g.mono BW.size)
  clear g
  have x : w2.cell? ⟨w.heap.size, 6, none⟩ = some (.slice ai ni ci) := (unhide R_a) 6 _ rfl
  have y : w2.cell? ⟨w.heap.size + 1, 6, none⟩ = some (.slice ai' ni' ci') := (unhide R_b) 6 _ rfl
  have l1 := hide (VlsAt.len its _ _ (unhide HI).1)
  have l2 := hide (VlsAt.len its' _ _ (unhide HI).2)
  have HG := hide (pmB_five (b := b) (b' := b') (n := n) (n' := n') (f := f) (f' := f') (tx := tx) (tx' := tx') (ty := ty) (ty' := ty') (its := its) (its' := its') (fls := fls) (fls' := fls') hk hk')
  by_cases hn : ni = ni'
  · subst hn
    have BN : ni ≤ 9223372036854775807 := by have h9 := q9; unfold maxLen at h9; omega
    go_wp2_with fail
    go_loopw [6] (fun vi wr => ∃ k : Nat, k ≤ ni ∧ vi = .int .i64 k ∧ vl.Hid (Gb w2 wr) ∧ vl.Hid (al2 pmB its.list its'.list = al2 pmB (its.list.drop k) (its'.list.drop k))) (fun vi _ => ni - (intOf vi).toNat)
    case atStart => exact ⟨0, Nat.zero_le _, rfl, Gb.refl _, rfl⟩
    case round =>
      clear x y
      obtain ⟨k, hk1, rfl, HB, hl⟩ := hrel
      have x : wr.cell? ⟨w.heap.size, 6, none⟩ = some (.slice ai ni ci) := (Row8.below (unhide R_a) (unhide HB)) 6 _ rfl
      have y : wr.cell? ⟨w.heap.size + 1, 6, none⟩ = some (.slice ai' ni ci') := (Row8.below (unhide R_b) (unhide HB)) 6 _ rfl
      have G2 : Below w.heap.size w wr := BW.trans (Below.mono (unhide HB) BW.size)
      by_cases hlt : k < ni
      · have ki : (k : Int) < (ni : Int) := by omega
        obtain ⟨p, off, v, us, rfl, hg, hr, hv⟩ := VlsAt.get its _ _ (VlsAt.below G2 its _ _ (unhide HI).1) k hlt
        obtain ⟨p', off', u, us', rfl, hg', hr', hv'⟩ := VlsAt.get its' _ _ (VlsAt.below G2 its' _ _ (unhide HI).2) k hlt
        have IH := hide (ih v (List.mem_of_getElem? hg) u (List.mem_of_getElem? hg'))
        have iu : (Try.prog.info? 27).map (·.size) = some us.length := by rw [hv.cells]; exact infoV
        have iu' : (Try.prog.info? 27).map (·.size) = some us'.length := by rw [hv'.cells]; exact infoV
        have HS := hide (al2_step (M := pmB) hg hg')
        have U1 := hide (And.intro hr (And.intro hv iu))
        have U2 := hide (And.intro hr' (And.intro hv' iu'))
        clear hg hg' hr hr' hv hv' iu iu'
        go_wp2_with fail
        refine wp_region_noPanic ?_
        have hS0 : Gb wr { wr with drawn := wr.drawn + 1 } ∧ ({ wr with drawn := wr.drawn + 1 } : World).cell? ⟨w.heap.size, 6, none⟩ = some (.slice (some ⟨p, off, none⟩) ni ci) ∧ ({ wr with drawn := wr.drawn + 1 } : World).cell? ⟨w.heap.size + 1, 6, none⟩ = some (.slice (some ⟨p', off', none⟩) ni ci') := ⟨Gb.drew (Gb.refl _), x, y⟩
        have mkS : ∀ w', Gb wr w' → Gb wr w' ∧ w'.cell? ⟨w.heap.size, 6, none⟩ = some (.slice (some ⟨p, off, none⟩) ni ci) ∧ w'.cell? ⟨w.heap.size + 1, 6, none⟩ = some (.slice (some ⟨p', off', none⟩) ni ci') := fun w' h => ⟨h, (Row8.below (Row8.below (unhide R_a) (unhide HB)) h) 6 _ rfl, (Row8.below (Row8.below (unhide R_b) (unhide HB)) h) 6 _ rfl⟩
        have MK := hide mkS
        clear mkS x y
        refine wp_region_held (S := fun w' => Gb wr w' ∧ w'.cell? ⟨w.heap.size, 6, none⟩ = some (.slice (some ⟨p, off, none⟩) ni ci) ∧ w'.cell? ⟨w.heap.size + 1, 6, none⟩ = some (.slice (some ⟨p', off', none⟩) ni ci')) mixed ?_
        refine wpAnyH_take (i := 0) (v := ?v1) rfl (by kernel_rfl) (by kernel_rfl) (by kernel_rfl) (fun _ _ _ h => h) (Or.inl ⟨by rfl, ?hy1⟩) hS0 ?_
        case hy1 => (intro w' hw'; obtain ⟨hb', c7, d7⟩ := hw'; clear hb'; go_simp; try with_reducible rfl)
        simp only [List.getElem_toArray, List.getElem_cons_zero, List.getElem_cons_succ, Act.put, List.setIfInBounds_toArray, List.set_cons_zero, List.set_cons_succ]
        refine wpAnyH_take (i := 1) (v := ?v2) rfl (by kernel_rfl) (by kernel_rfl) (by kernel_rfl) (fun _ _ _ h => h) (Or.inl ⟨by rfl, ?hy2⟩) hS0 ?_
        case hy2 => (intro w' hw'; obtain ⟨hb', c7, d7⟩ := hw'; clear hb'; go_simp; try with_reducible rfl)
        simp only [List.getElem_toArray, List.getElem_cons_zero, List.getElem_cons_succ, Act.put, List.setIfInBounds_toArray, List.set_cons_zero, List.set_cons_succ]
        refine wpAnyH_take (i := 2) (v := ?v3) rfl (by kernel_rfl) (by kernel_rfl) (by kernel_rfl) (fun _ _ _ h => h) (Or.inl ⟨by rfl, ?hy3⟩) hS0 ?_
        case hy3 => (intro w' hw'; obtain ⟨hb', c7, d7⟩ := hw'; clear hb'; go_simp; try with_reducible rfl)
        simp only [List.getElem_toArray, List.getElem_cons_zero, List.getElem_cons_succ, Act.put, List.setIfInBounds_toArray, List.set_cons_zero, List.set_cons_succ]
        refine wpAnyH_take (i := 3) (v := ?v4) rfl (by kernel_rfl) (by kernel_rfl) (by kernel_rfl) (fun _ _ _ h => h) (Or.inl ⟨by rfl, ?hy4⟩) hS0 ?_
        case hy4 => (intro w' hw'; obtain ⟨hb', c7, d7⟩ := hw'; clear hb'; go_simp; try with_reducible rfl)
        simp only [List.getElem_toArray, List.getElem_cons_zero, List.getElem_cons_succ, Act.put, List.setIfInBounds_toArray, List.set_cons_zero, List.set_cons_succ]
        refine wpAnyH_take (i := 4) rfl (by kernel_rfl) (by kernel_rfl) (by kernel_rfl) (fun _ _ _ h => h) (yieldsIf_load_mid (by rfl) 27 _ (by rfl) p (off + k * 8) (by rfl) us _ (fun w' hw' => Row8.below (unhide U1).1 hw'.1) Try.underlying27 (by rfl) (unhide U1).2.2) hS0 ?_
        simp only [List.getElem_toArray, List.getElem_cons_zero, List.getElem_cons_succ, Act.put, List.setIfInBounds_toArray, List.set_cons_zero, List.set_cons_succ]
        refine wpAnyH_take (i := 5) (v := ?v5) rfl (by kernel_rfl) (by kernel_rfl) (by kernel_rfl) (fun _ _ _ h => h) (Or.inl ⟨by rfl, ?hy5⟩) hS0 ?_
        case hy5 => (intro w' hw'; obtain ⟨hb', c7, d7⟩ := hw'; clear hb'; go_simp; try with_reducible rfl)
        simp only [List.getElem_toArray, List.getElem_cons_zero, List.getElem_cons_succ, Act.put, List.setIfInBounds_toArray, List.set_cons_zero, List.set_cons_succ]
        refine wpAnyH_take (i := 6) (v := ?v6) rfl (by kernel_rfl) (by kernel_rfl) (by kernel_rfl) (fun _ _ _ h => h) (Or.inl ⟨by rfl, ?hy6⟩) hS0 ?_
        case hy6 => (intro w' hw'; obtain ⟨hb', c7, d7⟩ := hw'; clear hb'; go_simp; try with_reducible rfl)
        simp only [List.getElem_toArray, List.getElem_cons_zero, List.getElem_cons_succ, Act.put, List.setIfInBounds_toArray, List.set_cons_zero, List.set_cons_succ]
        refine wpAnyH_take (i := 7) (v := ?v7) rfl (by kernel_rfl) (by kernel_rfl) (by kernel_rfl) (fun _ _ _ h => h) (Or.inl ⟨by rfl, ?hy7⟩) hS0 ?_
        case hy7 => (intro w' hw'; obtain ⟨hb', c7, d7⟩ := hw'; clear hb'; go_simp; try with_reducible rfl)
        simp only [List.getElem_toArray, List.getElem_cons_zero, List.getElem_cons_succ, Act.put, List.setIfInBounds_toArray, List.set_cons_zero, List.set_cons_succ]
        refine wpAnyH_take (i := 8) (v := ?v8) rfl (by kernel_rfl) (by kernel_rfl) (by kernel_rfl) (fun _ _ _ h => h) (Or.inl ⟨by rfl, ?hy8⟩) hS0 ?_
        case hy8 => (intro w' hw'; obtain ⟨hb', c7, d7⟩ := hw'; clear hb'; go_simp; try with_reducible rfl)
        simp only [List.getElem_toArray, List.getElem_cons_zero, List.getElem_cons_succ, Act.put, List.setIfInBounds_toArray, List.set_cons_zero, List.set_cons_succ]
        refine wpAnyH_take (i := 9) rfl (by kernel_rfl) (by kernel_rfl) (by kernel_rfl) (fun _ _ _ h => h) (yieldsIf_load_mid (by rfl) 27 _ (by rfl) p' (off' + k * 8) (by rfl) us' _ (fun w' hw' => Row8.below (unhide U2).1 hw'.1) Try.underlying27 (by rfl) (unhide U2).2.2) hS0 ?_
        simp only [List.getElem_toArray, List.getElem_cons_zero, List.getElem_cons_succ, Act.put, List.setIfInBounds_toArray, List.set_cons_zero, List.set_cons_succ]
        refine rgn.one (i := 10) _ rfl (by kernel_rfl) (by rfl) ?_
        simp only [List.getElem_toArray, List.getElem_cons_zero, List.getElem_cons_succ, Act.put, List.setIfInBounds_toArray, List.set_cons_zero, List.set_cons_succ]
        go_wp2_with fail
        refine ((unhide IH) us us' _ (VlC.below hS0.1 _ _ (unhide U1).2.1) (VlC.below hS0.1 _ _ (unhide U2).2.1)).mono ?_
        rintro e w3 ⟨rfl, g3⟩
        have hS0 := (unhide MK) w3 (hS0.1.trans (g3.mono hS0.1.size))
        refine ⟨hS0, ?_⟩
        obtain ⟨hb, -, -⟩ := hS0
        have hS0 := (unhide MK) w3 hb
        cases hc : pmB v u with
        | true =>
          have hc2 := hide hc
          clear hc
          refine wpAnyH_take (i := 11) (v := ?v9) rfl (by kernel_rfl) (by kernel_rfl) (by kernel_rfl) (fun _ _ _ h => h) (Or.inl ⟨by rfl, ?hy9⟩) hS0 ?_
          case hy9 => (intro w' hw'; clear hw'; go_simp; try with_reducible rfl)
          simp only [List.getElem_toArray, List.getElem_cons_zero, List.getElem_cons_succ, Act.put, List.setIfInBounds_toArray, List.set_cons_zero, List.set_cons_succ]
          refine wpAnyH_done (by kernel_rfl) ?_ _; refine NoPanic.normal ?_
          clear hS0
          go_wp2
          go_roundw
          case rel => exact ⟨k + 1, by omega, by go_num, (unhide HB).trans (Below.mono hb (unhide HB).size), (unhide hl).trans ((unhide HS).trans (by rw [unhide hc2, Bool.true_and]))⟩
          case measure => simp [intOf]; omega
        | false =>
          have hc2 := hide hc
          clear hc
          refine wpAnyH_take (i := 11) (v := ?v10) rfl (by kernel_rfl) (by kernel_rfl) (by kernel_rfl) (fun _ _ _ h => h) (Or.inl ⟨by rfl, ?hy10⟩) hS0 ?_
          case hy10 => (intro w' hw'; clear hw'; go_simp; try with_reducible rfl)
          simp only [List.getElem_toArray, List.getElem_cons_zero, List.getElem_cons_succ, Act.put, List.setIfInBounds_toArray, List.set_cons_zero, List.set_cons_succ]
          refine wpAnyH_done (by kernel_rfl) ?_ _; refine NoPanic.normal ?_
          have G3 := G2.trans (Below.mono hb G2.size)
          clear hS0
          go_wp2
          go_ret
          exact ⟨by rw [unhide HG, unhide hl, unhide HS, unhide hc2]; rfl, G3⟩
      · obtain rfl : k = ni := by omega
        go_wp2
        go_ret
        exact ⟨by rw [unhide HG, unhide hl, al2_end (by rw [unhide l1]; omega) (by rw [unhide l2]; omega)]; rfl, G2⟩
  · have HN := hide (pmB_len5 (b := b) (b' := b') (n := n) (n' := n') (f := f) (f' := f') (tx := tx) (tx' := tx') (ty := ty) (ty' := ty') (its := its) (its' := its') (fls := fls) (fls' := fls') (kd' := kd') hk (by rw [unhide l1, unhide l2]; exact hn))
    have hn2 : (ni : Int) ≠ ni' := by omega
    go_wp2
    go_ret
    exact ⟨by rw [unhide HN]; rfl, BW⟩
end Go.Proofs.Ytiblkdedbimggaa.og
namespace Go.Proofs.Ytiblkdedbimggaa.og
open Go.ChangeShapes Go.WideShapes Go.ChangeAt Go.RowKit
open vl hiding cB cFl cS cF cI cK cIt
open stp (c3 c3_lt c3_gt c3_eq cB cB_tri)
set_option linter.unusedVariables false
set_option linter.unusedSimpArgs false
theorem makeB (n : Nat) (w : World) (hn : n ≤ 1099511627776) : (Instr.makeSlice 51 (.int .i64 n) (.int .i64 n)).run Try.prog w = .ok (.slice (some ⟨w.heap.size, 0, none⟩) n n) (w.alloc (.cells (madeCells #[.bool false] n) 4)) := by
  have hin : (Try.prog.info? 4).map (fun i => (i.bytes, i.size, i.zero)) = some (1, 1, some (Value.bool false)) := by kernel_rfl
  cases hq : Try.prog.info? 4 with
  | none => simp [hq] at hin
  | some i =>
    simp [hq] at hin
    obtain ⟨h1, h2, h3⟩ := hin
    have := run_make (P := Try.prog) w 51 4 i (.bool false) Try.underlying51 hq h3 .i64 .i64 n n (by omega) (Int.le_refl _) (by rw [h1]; omega) (by omega)
    simp only [Int.toNat_natCast, h2, Nat.mul_one] at this
    exact this
/-- which are taken -/
structure SmS (w2 : World) (n : Nat) (ts : List Bool) (w : World) : Prop where
  bel : Gb w2 w
  len : ts.length = n
  cel : ∀ (j : Nat) (t : Bool), ts[j]? = some t → w.cell? ⟨w2.heap.size, j, none⟩ = some (.bool t)
  frz : ∀ j, w.frozen? ⟨w2.heap.size, j, none⟩ = false
  siz : w2.heap.size < w.heap.size
theorem SmS.new (w2 : World) (n : Nat) : SmS w2 n (List.replicate n false) (w2.alloc (.cells (madeCells #[.bool false] n) 4)) where
  bel := (Below.refl _ _).alloc (Nat.le_refl _) _
  len := by simp
  cel := fun j t h => by
    rw [World.cell?_alloc_at _ _ _ _ rfl]
    have hj : j < n := by have := (List.getElem?_eq_some_iff.1 h).1; simpa using this
    obtain rfl : false = t := by rw [List.getElem?_replicate, if_pos hj] at h; simpa using h
    show (madeCells #[.bool false] n)[j]? = _
    rw [← Array.getElem?_toList, toList_madeCells_one, List.getElem?_replicate, if_pos hj]
  frz := fun j => by rw [World.frozen?_alloc_at _ _ _ _ rfl]
  siz := by simp
theorem SmS.below {w2 : World} {n : Nat} {ts : List Bool} {w w' : World} (h : SmS w2 n ts w) (g : Gb w w') : SmS w2 n ts w' where
  bel := h.bel.trans (Below.mono g h.bel.size)
  len := h.len
  cel := fun j t hj => (Below.cell g (p := ⟨w2.heap.size, j, none⟩) h.siz).trans (h.cel j t hj)
  frz := fun j => (Below.frozen g (p := ⟨w2.heap.size, j, none⟩) h.siz).trans (h.frz j)
  siz := Nat.lt_of_lt_of_le h.siz g.size
theorem SmS.put {w2 : World} {n : Nat} {ts : List Bool} {w : World} {j : Nat} (h : SmS w2 n ts w) (hj : ts[j]? = some false) : SmS w2 n (ts.set j true) (w.setCell ⟨w2.heap.size, j, none⟩ (.bool true)) where
  bel := show Below w2.heap.size w2 (w.setCells w2.heap.size j [Value.bool true]) from below_setCells _ _ _ _ h.bel (Nat.le_refl _)
  len := by simp [h.len]
  cel := fun i t hi => by
    by_cases e : j = i
    · subst e
      obtain rfl : true = t := by rw [List.getElem?_set_self (List.getElem?_eq_some_iff.1 hj).1] at hi; simpa using hi
      exact World.cell?_setCell_same _ _ _ (h.cel _ _ hj)
    · rw [List.getElem?_set_ne e] at hi
      rw [World.cell?_setCell_other _ _ _ _ (by simp)]
      exact h.cel i t hi
  frz := fun i => by
    show (w.setCells w2.heap.size j [Value.bool true]).frozen? _ = false
    rw [World.frozen?_setCells]
    exact h.frz i
  siz := by
    show w2.heap.size < (w.setCells w2.heap.size j [Value.bool true]).heap.size
    rw [size_setCells]
    exact h.siz
set_option maxHeartbeats 8000000 in
set_option maxRecDepth 6000 in
theorem rsm_6 (kd : Int) (b : Bool) (n : Int) (f : Nat) (tx ty : ByteArray) (its : Vls) (fls : Fls) (kd' : Int) (b' : Bool) (n' : Int) (f' : Nat) (tx' ty' : ByteArray) (its' : Vls) (fls' : Fls) (hk : kdOf kd = 6) (hk' : kdOf kd' = 6) (sl : fls.list.length ≤ 1099511627776) (sF : SmallF fls) (sF' : SmallF fls') (ih : ∀ q ∈ fls.list, ∀ r ∈ fls'.list, RSm q.2 r.2) : RSm (.mk kd b n f tx ty its fls) (.mk kd' b' n' f' tx' ty' its' fls') := by
  intro cs ds w h1 h2
  have hv := h1
  have hu := h2
  unfold VlC at hv hu
  obtain ⟨ai, ni, ci, af, nf, cf, rfl, vI, vF, q1, q2, q3, q4, q5, q6, q7, q8, q9, q10⟩ := hv
  obtain ⟨ai', ni', ci', af', nf', cf', rfl, uI, uF, p1, p2, p3, p4, p5, p6, p7, p8, p9, p10⟩ := hu
  obtain ⟨W, eW⟩ : ∃ W, W = ((w.alloc (.cells #[.int .i64 kd, .bool b, .int .i64 n, .float .f64 f, .string tx, .string ty, .slice ai ni ci, .slice af nf cf] 27)).alloc (.cells #[.int .i64 kd', .bool b', .int .i64 n', .float .f64 f', .string tx', .string ty', .slice ai' ni' ci', .slice af' nf' cf'] 27)) := ⟨_, rfl⟩
  have BW : Below w.heap.size w W := by rw [eW]; exact ((Below.refl _ _).alloc (Nat.le_refl _) _).alloc (by simp) _
  have R_a := hide (show Row8 W w.heap.size 0 [.int .i64 kd, .bool b, .int .i64 n, .float .f64 f, .string tx, .string ty, .slice ai ni ci, .slice af nf cf] from fun j x hx => by
    rw [eW, Nat.zero_add, World.cell?_alloc_past _ _ _ (by simp), World.cell?_alloc_at _ _ _ _ rfl]; simpa using hx)
  have R_b := hide (show Row8 W (w.heap.size + 1) 0 [.int .i64 kd', .bool b', .int .i64 n', .float .f64 f', .string tx', .string ty', .slice ai' ni' ci', .slice af' nf' cf'] from fun j x hx => by
    rw [eW, Nat.zero_add, World.cell?_alloc_at _ _ _ _ (by simp)]; simpa using hx)
  have V_a := hide (VlC.below BW _ _ h1)
  have V_b := hide (VlC.below BW _ _ h2)
  have EW := hide eW
  have HI := hide (And.intro vI uI)
  have HF := hide (And.intro vF uF)
  clear eW h1 h2 vI vF uI uF q5 q6 q7 q8 p5 p6 p7 p8
  go_enter Try.func13, Try.ntmps13
  go_wp2_with (rw [← unhide EW]; refine wpList_load_mid (by rfl) 27 _ (by rfl) w.heap.size 0 (by rfl) [.int .i64 kd, .bool b, .int .i64 n, .float .f64 f, .string tx, .string ty, .slice ai ni ci, .slice af nf cf] _ (unhide R_a) Try.underlying27 (by rfl) infoV ?_)
  clear EW
  refine (rkind_ok (.mk kd b n f tx ty its fls) _ _ _ (unhide V_a)).mono ?_
  rintro e w1 ⟨rfl, g⟩
  rw [show kdV (Vl.mk kd b n f tx ty its fls) = 6 from hk]
  have R_a := hide (Row8.below (unhide R_a) g)
  have R_b := hide (Row8.below (unhide R_b) g)
  have V_a := hide (VlC.below g _ _ (unhide V_a))
  have V_b := hide (VlC.below g _ _ (unhide V_b))
  have BW : Below w.heap.size w w1 := BW.trans (g.mono BW.size)
  clear g
  go_wp2_with (refine wpList_load_mid (by rfl) 27 _ (by rfl) (w.heap.size + 1) 0 (by rfl) [.int .i64 kd', .bool b', .int .i64 n', .float .f64 f', .string tx', .string ty', .slice ai' ni' ci', .slice af' nf' cf'] _ (unhide R_b) Try.underlying27 (by rfl) infoV ?_)
  refine (rkind_ok (.mk kd' b' n' f' tx' ty' its' fls') _ _ _ (unhide V_b)).mono ?_
  rintro e w2 ⟨rfl, g⟩
  rw [show kdV (Vl.mk kd' b' n' f' tx' ty' its' fls') = 6 from hk']
  have R_a := hide (Row8.below (unhide R_a) g)
  have R_b := hide (Row8.below (unhide R_b) g)
  have V_a := hide (VlC.below g _ _ (unhide V_a))
  have V_b := hide (VlC.below g _ _ (unhide V_b))
  have BW : Below w.heap.size w w2 := BW.trans (g.mono BW.size)
  clear g
  have x : w2.cell? ⟨w.heap.size, 7, none⟩ = some (.slice af nf cf) := (unhide R_a) 7 _ rfl
  have y : w2.cell? ⟨w.heap.size + 1, 7, none⟩ = some (.slice af' nf' cf') := (unhide R_b) 7 _ rfl
  have l1 := hide (FlsAt.len fls _ _ (unhide HF).1)
  have l2 := hide (FlsAt.len fls' _ _ (unhide HF).2)
  by_cases hn : nf = nf'
  · subst hn
    have HG := hide (pmB_six (b := b) (b' := b') (n := n) (n' := n') (f := f) (f' := f') (tx := tx) (tx' := tx') (ty := ty) (ty' := ty') (its := its) (its' := its') (fls := fls) (fls' := fls') hk hk' sF sF' (by rw [unhide l1, unhide l2]))
    have BN : nf ≤ 1099511627776 := by rw [← unhide l1]; exact sl
    have hmk := makeB nf w2 BN
    have HN0 := hide (SmS.new w2 nf)
    go_wp2_with fail
    clear hmk
    go_loopw [8] (fun vi wr => ∃ (k : Nat) (ts : List Bool), k ≤ nf ∧ vi = .int .i64 k ∧ vl.Hid (SmS w2 nf ts wr) ∧ vl.Hid (grd mmB fls.list fls'.list = grd mmB (fls.list.drop k) (rem fls'.list ts))) (fun vi _ => nf - (intOf vi).toNat)
    case atStart => exact ⟨0, List.replicate nf false, Nat.zero_le _, rfl, HN0, by rw [List.drop_zero, show nf = fls'.list.length from (unhide l2).symm, rem_all]; exact rfl⟩
    case round =>
      clear x y HN0
      obtain ⟨k, ts, hk1, rfl, HT, hl⟩ := hrel
      have x : wr.cell? ⟨w.heap.size, 7, none⟩ = some (.slice af nf cf) := (Row8.below (unhide R_a) (unhide HT).bel) 7 _ rfl
      by_cases hlt : k < nf
      · have ki : (k : Int) < (nf : Int) := by omega
        have HG1 := hide (BW.trans (Below.mono (unhide HT).bel BW.size))
        obtain ⟨nm, v, hg⟩ : ∃ nm v, fls.list[k]? = some (nm, v) := by
          have hk2 : k < fls.list.length := by rw [unhide l1]; exact hlt
          exact ⟨_, _, List.getElem?_eq_getElem hk2⟩
        have HS := hide (grd_step (M := mmB) (r := rem fls'.list ts) hg)
        have HGK := hide hg
        clear hg
        go_wp2_with fail
        go_loopw [10, 9] (fun vj vf wr => ∃ (j : Nat) (ts' : List Bool) (fd : Bool), j ≤ nf ∧ vj = .int .i64 j ∧ vf = .bool fd ∧ vl.Hid (SmS w2 nf ts' wr) ∧ vl.Hid (if fd = true then rmF mmB (nm, v) (rem fls'.list ts) = some (rem fls'.list ts') else ts' = ts ∧ ∀ q, q < j → ∀ b, fls'.list[q]? = some b → ts[q]? = some true ∨ mmB (nm, v) b = false)) (fun vj _ _ => nf - (intOf vj).toNat)
        case atStart => exact ⟨0, ts, false, Nat.zero_le _, rfl, rfl, HT, ⟨rfl, fun q hq => absurd hq (Nat.not_lt_zero _)⟩⟩
        case round =>
          clear x HG1
          have LT := hide (unhide HT).len
          clear HT
          obtain ⟨j, ts', fd, hj1, rfl, rfl, HT, hf⟩ := hrel
          have G2 : Below w.heap.size w wr := BW.trans (Below.mono (unhide HT).bel BW.size)
          have x : wr.cell? ⟨w.heap.size, 7, none⟩ = some (.slice af nf cf) := (Row8.below (unhide R_a) (unhide HT).bel) 7 _ rfl
          have y : wr.cell? ⟨w.heap.size + 1, 7, none⟩ = some (.slice af' nf cf') := (Row8.below (unhide R_b) (unhide HT).bel) 7 _ rfl
          cases fd with
          | true =>
            have hf2 : rmF mmB (nm, v) (rem fls'.list ts) = some (rem fls'.list ts') := by simpa using (unhide hf)
            have HF2 := hide hf2
            clear hf2 hf
            by_cases hjn : j < nf
            · have ji : (j : Int) < (nf : Int) := by omega
              go_wp2
              go_roundw
              case rel => exact ⟨k + 1, ts', by omega, by go_num, HT, (unhide hl).trans ((unhide HS).trans (by rw [unhide HF2]))⟩
              case measure => simp [intOf]; omega
            · have ji : ¬ (j : Int) < (nf : Int) := by omega
              go_wp2
              go_roundw
              case rel => exact ⟨k + 1, ts', by omega, by go_num, HT, (unhide hl).trans ((unhide HS).trans (by rw [unhide HF2]))⟩
              case measure => simp [intOf]; omega
          | false =>
            obtain ⟨rfl, hall⟩ : ts' = ts ∧ ∀ q, q < j → ∀ b, fls'.list[q]? = some b → ts[q]? = some true ∨ mmB (nm, v) b = false := by simpa using (unhide hf)
            have HALL := hide hall
            clear hf hall
            by_cases hjn : j < nf
            · have ji : (j : Int) < (nf : Int) := by omega
              obtain ⟨p', off', nm', u, us', rfl, hg', hn0', hz', hr', hv'⟩ := FlsAt.get fls' _ _ (FlsAt.below G2 fls' _ _ (unhide HF).2) j hjn
              obtain ⟨t, ht⟩ : ∃ t, ts'[j]? = some t := ⟨_, List.getElem?_eq_getElem (by rw [unhide LT]; exact hjn)⟩
              have tj : wr.cell? ⟨w2.heap.size, j, none⟩ = some (.bool t) := (unhide HT).cel j t ht
              obtain ⟨p, off, nm2, v2, us, rfl, hg, hn0, hz, hr, hv⟩ := FlsAt.get fls _ _ (FlsAt.below G2 fls _ _ (unhide HF).1) k hlt
              obtain ⟨rfl, rfl⟩ : nm = nm2 ∧ v = v2 := by have := (unhide HGK).symm.trans hg; simpa using this
              have IH := hide (ih (nm, v) (List.mem_of_getElem? hg) (nm', u) (List.mem_of_getElem? hg'))
              have LB := hide (World.block_lt_of_cell? wr _ hn0)
              have LB' := hide (World.block_lt_of_cell? wr _ hn0')
              have N0 := hide hn0
              have N1 := hide hn0'
              have iu : (Try.prog.info? 27).map (·.size) = some us.length := by rw [hv.cells]; exact infoV
              have iu' : (Try.prog.info? 27).map (·.size) = some us'.length := by rw [hv'.cells]; exact infoV
              have U1 := hide (And.intro hr (And.intro hv iu))
              have U2 := hide (And.intro hr' (And.intro hv' iu'))
              have more : (ts'[j]? = some true ∨ mmB (nm, v) (nm', u) = false) → ∀ q, q < j + 1 → ∀ b, fls'.list[q]? = some b → ts'[q]? = some true ∨ mmB (nm, v) b = false := fun hh q hq b hb => by
                rcases Nat.lt_or_ge q j with h | h
                · exact (unhide HALL) q h b hb
                · obtain rfl : q = j := by omega
                  obtain rfl : (nm', u) = b := by rw [hg'] at hb; simpa using hb
                  exact hh
              have MORE := hide more
              have HHT := hide ht
              have HGJ := hide hg'
              clear more hg hg' hr hr' hv hv' iu iu' hn0 hn0' hz hz' ht
              go_wp2_with fail
              refine wp_region_noPanic ?_
              have hS0 : Gb wr { wr with drawn := wr.drawn + 1 } ∧ ({ wr with drawn := wr.drawn + 1 } : World).cell? ⟨w.heap.size, 7, none⟩ = some (.slice (some ⟨p, off, none⟩) nf cf) ∧ ({ wr with drawn := wr.drawn + 1 } : World).cell? ⟨w.heap.size + 1, 7, none⟩ = some (.slice (some ⟨p', off', none⟩) nf cf') ∧ ({ wr with drawn := wr.drawn + 1 } : World).cell? ⟨w2.heap.size, j, none⟩ = some (.bool t) := ⟨Gb.drew (Gb.refl _), x, y, tj⟩
              have mkS : ∀ w', Gb wr w' → Gb wr w' ∧ w'.cell? ⟨w.heap.size, 7, none⟩ = some (.slice (some ⟨p, off, none⟩) nf cf) ∧ w'.cell? ⟨w.heap.size + 1, 7, none⟩ = some (.slice (some ⟨p', off', none⟩) nf cf') ∧ w'.cell? ⟨w2.heap.size, j, none⟩ = some (.bool t) := fun w' h => ⟨h, (Row8.below (Row8.below (unhide R_a) (unhide HT).bel) h) 7 _ rfl, (Row8.below (Row8.below (unhide R_b) (unhide HT).bel) h) 7 _ rfl, ((unhide HT).below h).cel j t (unhide HHT)⟩
              have MK := hide mkS
              clear mkS x y tj
              refine wp_region_held (S := fun w' => Gb wr w' ∧ w'.cell? ⟨w.heap.size, 7, none⟩ = some (.slice (some ⟨p, off, none⟩) nf cf) ∧ w'.cell? ⟨w.heap.size + 1, 7, none⟩ = some (.slice (some ⟨p', off', none⟩) nf cf') ∧ w'.cell? ⟨w2.heap.size, j, none⟩ = some (.bool t)) mixed ?_
              cases t with
              | true =>
                refine wpAnyH_take (i := 0) (v := ?v1) rfl (by kernel_rfl) (by kernel_rfl) (by kernel_rfl) (fun _ _ _ h => h) (Or.inl ⟨by rfl, ?hy1⟩) hS0 ?_
                case hy1 => (intro w' hw'; obtain ⟨hb', c7, d7, t7⟩ := hw'; clear hb'; go_simp; try with_reducible rfl)
                simp only [List.getElem_toArray, List.getElem_cons_zero, List.getElem_cons_succ, Act.put, List.setIfInBounds_toArray, List.set_cons_zero, List.set_cons_succ]
                refine wpAnyH_take (i := 1) (v := ?v2) rfl (by kernel_rfl) (by kernel_rfl) (by kernel_rfl) (fun _ _ _ h => h) (Or.inl ⟨by rfl, ?hy2⟩) hS0 ?_
                case hy2 => (intro w' hw'; obtain ⟨hb', c7, d7, t7⟩ := hw'; clear hb'; go_simp; try with_reducible rfl)
                simp only [List.getElem_toArray, List.getElem_cons_zero, List.getElem_cons_succ, Act.put, List.setIfInBounds_toArray, List.set_cons_zero, List.set_cons_succ]
                refine wpAnyH_take (i := 2) (v := ?v3) rfl (by kernel_rfl) (by kernel_rfl) (by kernel_rfl) (fun _ _ _ h => h) (Or.inl ⟨by rfl, ?hy3⟩) hS0 ?_
                case hy3 => (intro w' hw'; obtain ⟨hb', c7, d7, t7⟩ := hw'; clear hb'; go_simp; try with_reducible rfl)
                simp only [List.getElem_toArray, List.getElem_cons_zero, List.getElem_cons_succ, Act.put, List.setIfInBounds_toArray, List.set_cons_zero, List.set_cons_succ]
                refine wpAnyH_take (i := 3) (v := ?v4) rfl (by kernel_rfl) (by kernel_rfl) (by kernel_rfl) (fun _ _ _ h => h) (Or.inl ⟨by rfl, ?hy4⟩) hS0 ?_
                case hy4 => (intro w' hw'; obtain ⟨hb', c7, d7, t7⟩ := hw'; clear hb'; go_simp; try with_reducible rfl)
                simp only [List.getElem_toArray, List.getElem_cons_zero, List.getElem_cons_succ, Act.put, List.setIfInBounds_toArray, List.set_cons_zero, List.set_cons_succ]
                refine wpAnyH_take (i := 4) (v := ?v5) rfl (by kernel_rfl) (by kernel_rfl) (by kernel_rfl) (fun _ _ _ h => h) (Or.inl ⟨by rfl, ?hy5⟩) hS0 ?_
                case hy5 => (intro w' hw'; obtain ⟨hb', c7, d7, t7⟩ := hw'; clear hb'; go_simp; try with_reducible rfl)
                simp only [List.getElem_toArray, List.getElem_cons_zero, List.getElem_cons_succ, Act.put, List.setIfInBounds_toArray, List.set_cons_zero, List.set_cons_succ]
                refine wpAnyH_take (i := 5) (v := ?v6) rfl (by kernel_rfl) (by kernel_rfl) (by kernel_rfl) (fun _ _ _ h => h) (Or.inl ⟨by rfl, ?hy6⟩) hS0 ?_
                case hy6 => (intro w' hw'; obtain ⟨hb', c7, d7, t7⟩ := hw'; clear hb'; go_simp; try with_reducible rfl)
                simp only [List.getElem_toArray, List.getElem_cons_zero, List.getElem_cons_succ, Act.put, List.setIfInBounds_toArray, List.set_cons_zero, List.set_cons_succ]
                refine wpAnyH_take (i := 6) (v := undef) rfl (by kernel_rfl) (by kernel_rfl) (by kernel_rfl) (fun _ _ _ h => h) (Or.inr ⟨by rfl, rfl⟩) hS0 ?_
                simp only [List.getElem_toArray, List.getElem_cons_zero, List.getElem_cons_succ, Act.put, List.setIfInBounds_toArray, List.set_cons_zero, List.set_cons_succ]
                refine wpAnyH_take (i := 7) (v := undef) rfl (by kernel_rfl) (by kernel_rfl) (by kernel_rfl) (fun _ _ _ h => h) (Or.inr ⟨by rfl, rfl⟩) hS0 ?_
                simp only [List.getElem_toArray, List.getElem_cons_zero, List.getElem_cons_succ, Act.put, List.setIfInBounds_toArray, List.set_cons_zero, List.set_cons_succ]
                refine wpAnyH_take (i := 8) (v := undef) rfl (by kernel_rfl) (by kernel_rfl) (by kernel_rfl) (fun _ _ _ h => h) (Or.inr ⟨by rfl, rfl⟩) hS0 ?_
                simp only [List.getElem_toArray, List.getElem_cons_zero, List.getElem_cons_succ, Act.put, List.setIfInBounds_toArray, List.set_cons_zero, List.set_cons_succ]
                refine wpAnyH_take (i := 9) (v := undef) rfl (by kernel_rfl) (by kernel_rfl) (by kernel_rfl) (fun _ _ _ h => h) (Or.inr ⟨by rfl, rfl⟩) hS0 ?_
                simp only [List.getElem_toArray, List.getElem_cons_zero, List.getElem_cons_succ, Act.put, List.setIfInBounds_toArray, List.set_cons_zero, List.set_cons_succ]
                refine wpAnyH_take (i := 10) (v := undef) rfl (by kernel_rfl) (by kernel_rfl) (by kernel_rfl) (fun _ _ _ h => h) (Or.inr ⟨by rfl, rfl⟩) hS0 ?_
                simp only [List.getElem_toArray, List.getElem_cons_zero, List.getElem_cons_succ, Act.put, List.setIfInBounds_toArray, List.set_cons_zero, List.set_cons_succ]
                refine wpAnyH_take (i := 11) (v := undef) rfl (by kernel_rfl) (by kernel_rfl) (by kernel_rfl) (fun _ _ _ h => h) (Or.inr ⟨by rfl, rfl⟩) hS0 ?_
                simp only [List.getElem_toArray, List.getElem_cons_zero, List.getElem_cons_succ, Act.put, List.setIfInBounds_toArray, List.set_cons_zero, List.set_cons_succ]
                refine wpAnyH_take (i := 12) (v := undef) rfl (by kernel_rfl) (by kernel_rfl) (by kernel_rfl) (fun _ _ _ h => h) (Or.inr ⟨by rfl, rfl⟩) hS0 ?_
                simp only [List.getElem_toArray, List.getElem_cons_zero, List.getElem_cons_succ, Act.put, List.setIfInBounds_toArray, List.set_cons_zero, List.set_cons_succ]
                refine wpAnyH_take (i := 13) (v := undef) rfl (by kernel_rfl) (by kernel_rfl) (by kernel_rfl) (fun _ _ _ h => h) (Or.inr ⟨by rfl, rfl⟩) hS0 ?_
                simp only [List.getElem_toArray, List.getElem_cons_zero, List.getElem_cons_succ, Act.put, List.setIfInBounds_toArray, List.set_cons_zero, List.set_cons_succ]
                refine wpAnyH_take (i := 14) (v := undef) rfl (by kernel_rfl) (by kernel_rfl) (by kernel_rfl) (fun _ _ _ h => h) (Or.inr ⟨by rfl, rfl⟩) hS0 ?_
                simp only [List.getElem_toArray, List.getElem_cons_zero, List.getElem_cons_succ, Act.put, List.setIfInBounds_toArray, List.set_cons_zero, List.set_cons_succ]
                refine wpAnyH_take (i := 15) (v := undef) rfl (by kernel_rfl) (by kernel_rfl) (by kernel_rfl) (fun _ _ _ h => h) (Or.inr ⟨by rfl, rfl⟩) hS0 ?_
                simp only [List.getElem_toArray, List.getElem_cons_zero, List.getElem_cons_succ, Act.put, List.setIfInBounds_toArray, List.set_cons_zero, List.set_cons_succ]
                refine wpAnyH_take (i := 16) (v := undef) rfl (by kernel_rfl) (by kernel_rfl) (by kernel_rfl) (fun _ _ _ h => h) (Or.inr ⟨by rfl, rfl⟩) hS0 ?_
                simp only [List.getElem_toArray, List.getElem_cons_zero, List.getElem_cons_succ, Act.put, List.setIfInBounds_toArray, List.set_cons_zero, List.set_cons_succ]
                refine wpAnyH_take (i := 17) (v := undef) rfl (by kernel_rfl) (by kernel_rfl) (by kernel_rfl) (fun _ _ _ h => h) (Or.inr ⟨by rfl, rfl⟩) hS0 ?_
                simp only [List.getElem_toArray, List.getElem_cons_zero, List.getElem_cons_succ, Act.put, List.setIfInBounds_toArray, List.set_cons_zero, List.set_cons_succ]
                refine wpAnyH_take (i := 18) (v := undef) rfl (by kernel_rfl) (by kernel_rfl) (by kernel_rfl) (fun _ _ _ h => h) (Or.inr ⟨by rfl, rfl⟩) hS0 ?_
                simp only [List.getElem_toArray, List.getElem_cons_zero, List.getElem_cons_succ, Act.put, List.setIfInBounds_toArray, List.set_cons_zero, List.set_cons_succ]
                refine wpAnyH_take (i := 19) (v := ?v7) rfl (by kernel_rfl) (by kernel_rfl) (by kernel_rfl) (fun _ _ _ h => h) (Or.inl ⟨by rfl, ?hy7⟩) hS0 ?_
                case hy7 => (intro w' hw'; clear hw'; go_simp; try with_reducible rfl)
                simp only [List.getElem_toArray, List.getElem_cons_zero, List.getElem_cons_succ, Act.put, List.setIfInBounds_toArray, List.set_cons_zero, List.set_cons_succ]
                refine wpAnyH_take (i := 20) (v := ?v8) rfl (by kernel_rfl) (by kernel_rfl) (by kernel_rfl) (fun _ _ _ h => h) (Or.inl ⟨by rfl, ?hy8⟩) hS0 ?_
                case hy8 => (intro w' hw'; clear hw'; go_simp; try with_reducible rfl)
                simp only [List.getElem_toArray, List.getElem_cons_zero, List.getElem_cons_succ, Act.put, List.setIfInBounds_toArray, List.set_cons_zero, List.set_cons_succ]
                refine wpAnyH_take (i := 21) (v := undef) rfl (by kernel_rfl) (by kernel_rfl) (by kernel_rfl) (fun _ _ _ h => h) (Or.inr ⟨by rfl, rfl⟩) hS0 ?_
                simp only [List.getElem_toArray, List.getElem_cons_zero, List.getElem_cons_succ, Act.put, List.setIfInBounds_toArray, List.set_cons_zero, List.set_cons_succ]
                refine wpAnyH_take (i := 22) (v := undef) rfl (by kernel_rfl) (by kernel_rfl) (by kernel_rfl) (fun _ _ _ h => h) (Or.inr ⟨by rfl, rfl⟩) hS0 ?_
                simp only [List.getElem_toArray, List.getElem_cons_zero, List.getElem_cons_succ, Act.put, List.setIfInBounds_toArray, List.set_cons_zero, List.set_cons_succ]
                refine wpAnyH_take (i := 23) (v := undef) rfl (by kernel_rfl) (by kernel_rfl) (by kernel_rfl) (fun _ _ _ h => h) (Or.inr ⟨by rfl, rfl⟩) hS0 ?_
                simp only [List.getElem_toArray, List.getElem_cons_zero, List.getElem_cons_succ, Act.put, List.setIfInBounds_toArray, List.set_cons_zero, List.set_cons_succ]
                refine wpAnyH_take (i := 24) (v := undef) rfl (by kernel_rfl) (by kernel_rfl) (by kernel_rfl) (fun _ _ _ h => h) (Or.inr ⟨by rfl, rfl⟩) hS0 ?_
                simp only [List.getElem_toArray, List.getElem_cons_zero, List.getElem_cons_succ, Act.put, List.setIfInBounds_toArray, List.set_cons_zero, List.set_cons_succ]
                refine wpAnyH_take (i := 25) (v := undef) rfl (by kernel_rfl) (by kernel_rfl) (by kernel_rfl) (fun _ _ _ h => h) (Or.inr ⟨by rfl, rfl⟩) hS0 ?_
                simp only [List.getElem_toArray, List.getElem_cons_zero, List.getElem_cons_succ, Act.put, List.setIfInBounds_toArray, List.set_cons_zero, List.set_cons_succ]
                refine wpAnyH_take (i := 26) (v := undef) rfl (by kernel_rfl) (by kernel_rfl) (by kernel_rfl) (fun _ _ _ h => h) (Or.inr ⟨by rfl, rfl⟩) hS0 ?_
                simp only [List.getElem_toArray, List.getElem_cons_zero, List.getElem_cons_succ, Act.put, List.setIfInBounds_toArray, List.set_cons_zero, List.set_cons_succ]
                refine wpAnyH_take (i := 27) (v := undef) rfl (by kernel_rfl) (by kernel_rfl) (by kernel_rfl) (fun _ _ _ h => h) (Or.inr ⟨by rfl, rfl⟩) hS0 ?_
                simp only [List.getElem_toArray, List.getElem_cons_zero, List.getElem_cons_succ, Act.put, List.setIfInBounds_toArray, List.set_cons_zero, List.set_cons_succ]
                refine wpAnyH_take (i := 28) (v := undef) rfl (by kernel_rfl) (by kernel_rfl) (by kernel_rfl) (fun _ _ _ h => h) (Or.inr ⟨by rfl, rfl⟩) hS0 ?_
                simp only [List.getElem_toArray, List.getElem_cons_zero, List.getElem_cons_succ, Act.put, List.setIfInBounds_toArray, List.set_cons_zero, List.set_cons_succ]
                refine wpAnyH_take (i := 29) (v := undef) rfl (by kernel_rfl) (by kernel_rfl) (by kernel_rfl) (fun _ _ _ h => h) (Or.inr ⟨by rfl, rfl⟩) hS0 ?_
                simp only [List.getElem_toArray, List.getElem_cons_zero, List.getElem_cons_succ, Act.put, List.setIfInBounds_toArray, List.set_cons_zero, List.set_cons_succ]
                refine wpAnyH_take (i := 30) (v := undef) rfl (by kernel_rfl) (by kernel_rfl) (by kernel_rfl) (fun _ _ _ h => h) (Or.inr ⟨by rfl, rfl⟩) hS0 ?_
                simp only [List.getElem_toArray, List.getElem_cons_zero, List.getElem_cons_succ, Act.put, List.setIfInBounds_toArray, List.set_cons_zero, List.set_cons_succ]
                refine wpAnyH_take (i := 31) (v := undef) rfl (by kernel_rfl) (by kernel_rfl) (by kernel_rfl) (fun _ _ _ h => h) (Or.inr ⟨by rfl, rfl⟩) hS0 ?_
                simp only [List.getElem_toArray, List.getElem_cons_zero, List.getElem_cons_succ, Act.put, List.setIfInBounds_toArray, List.set_cons_zero, List.set_cons_succ]
                refine wpAnyH_take (i := 32) (v := undef) rfl (by kernel_rfl) (by kernel_rfl) (by kernel_rfl) (fun _ _ _ h => h) (Or.inr ⟨by rfl, rfl⟩) hS0 ?_
                simp only [List.getElem_toArray, List.getElem_cons_zero, List.getElem_cons_succ, Act.put, List.setIfInBounds_toArray, List.set_cons_zero, List.set_cons_succ]
                refine wpAnyH_take (i := 33) (v := undef) rfl (by kernel_rfl) (by kernel_rfl) (by kernel_rfl) (fun _ _ _ h => h) (Or.inr ⟨by rfl, rfl⟩) hS0 ?_
                simp only [List.getElem_toArray, List.getElem_cons_zero, List.getElem_cons_succ, Act.put, List.setIfInBounds_toArray, List.set_cons_zero, List.set_cons_succ]
                refine wpAnyH_take (i := 34) (v := ?v9) rfl (by kernel_rfl) (by kernel_rfl) (by kernel_rfl) (fun _ _ _ h => h) (Or.inl ⟨by rfl, ?hy9⟩) hS0 ?_
                case hy9 => (intro w' hw'; clear hw'; go_simp; try with_reducible rfl)
                simp only [List.getElem_toArray, List.getElem_cons_zero, List.getElem_cons_succ, Act.put, List.setIfInBounds_toArray, List.set_cons_zero, List.set_cons_succ]
                refine wpAnyH_done (by kernel_rfl) ?_ _; refine NoPanic.normal ?_
                have HB := hide hS0.1
                clear hS0 MK
                go_wp2
                go_roundw
                case rel => exact ⟨j + 1, ts', false, by omega, by go_num, rfl, (unhide HT).below (unhide HB), ⟨rfl, (unhide MORE) (.inl (unhide HHT))⟩⟩
                case measure => simp [intOf]; omega
              | false =>
                refine wpAnyH_take (i := 0) (v := ?v10) rfl (by kernel_rfl) (by kernel_rfl) (by kernel_rfl) (fun _ _ _ h => h) (Or.inl ⟨by rfl, ?hy10⟩) hS0 ?_
                case hy10 => (intro w' hw'; obtain ⟨hb', c7, d7, t7⟩ := hw'; clear hb'; go_simp; try with_reducible rfl)
                simp only [List.getElem_toArray, List.getElem_cons_zero, List.getElem_cons_succ, Act.put, List.setIfInBounds_toArray, List.set_cons_zero, List.set_cons_succ]
                refine wpAnyH_take (i := 1) (v := ?v11) rfl (by kernel_rfl) (by kernel_rfl) (by kernel_rfl) (fun _ _ _ h => h) (Or.inl ⟨by rfl, ?hy11⟩) hS0 ?_
                case hy11 => (intro w' hw'; obtain ⟨hb', c7, d7, t7⟩ := hw'; clear hb'; go_simp; try with_reducible rfl)
                simp only [List.getElem_toArray, List.getElem_cons_zero, List.getElem_cons_succ, Act.put, List.setIfInBounds_toArray, List.set_cons_zero, List.set_cons_succ]
                refine wpAnyH_take (i := 2) (v := ?v12) rfl (by kernel_rfl) (by kernel_rfl) (by kernel_rfl) (fun _ _ _ h => h) (Or.inl ⟨by rfl, ?hy12⟩) hS0 ?_
                case hy12 => (intro w' hw'; obtain ⟨hb', c7, d7, t7⟩ := hw'; clear hb'; go_simp; try with_reducible rfl)
                simp only [List.getElem_toArray, List.getElem_cons_zero, List.getElem_cons_succ, Act.put, List.setIfInBounds_toArray, List.set_cons_zero, List.set_cons_succ]
                refine wpAnyH_take (i := 3) (v := ?v13) rfl (by kernel_rfl) (by kernel_rfl) (by kernel_rfl) (fun _ _ _ h => h) (Or.inl ⟨by rfl, ?hy13⟩) hS0 ?_
                case hy13 => (intro w' hw'; obtain ⟨hb', c7, d7, t7⟩ := hw'; clear hb'; go_simp; try with_reducible rfl)
                simp only [List.getElem_toArray, List.getElem_cons_zero, List.getElem_cons_succ, Act.put, List.setIfInBounds_toArray, List.set_cons_zero, List.set_cons_succ]
                refine wpAnyH_take (i := 4) (v := ?v14) rfl (by kernel_rfl) (by kernel_rfl) (by kernel_rfl) (fun _ _ _ h => h) (Or.inl ⟨by rfl, ?hy14⟩) hS0 ?_
                case hy14 => (intro w' hw'; obtain ⟨hb', c7, d7, t7⟩ := hw'; clear hb'; go_simp; try with_reducible rfl)
                simp only [List.getElem_toArray, List.getElem_cons_zero, List.getElem_cons_succ, Act.put, List.setIfInBounds_toArray, List.set_cons_zero, List.set_cons_succ]
                refine wpAnyH_take (i := 5) (v := ?v15) rfl (by kernel_rfl) (by kernel_rfl) (by kernel_rfl) (fun _ _ _ h => h) (Or.inl ⟨by rfl, ?hy15⟩) hS0 ?_
                case hy15 => (intro w' hw'; obtain ⟨hb', c7, d7, t7⟩ := hw'; clear hb'; go_simp; try with_reducible rfl)
                simp only [List.getElem_toArray, List.getElem_cons_zero, List.getElem_cons_succ, Act.put, List.setIfInBounds_toArray, List.set_cons_zero, List.set_cons_succ]
                refine wpAnyH_take (i := 6) (v := ?v16) rfl (by kernel_rfl) (by kernel_rfl) (by kernel_rfl) (fun _ _ _ h => h) (Or.inl ⟨by rfl, ?hy16⟩) hS0 ?_
                case hy16 => (intro w' hw'; obtain ⟨hb', c7, d7, t7⟩ := hw'; clear hb'; go_simp; try with_reducible rfl)
                simp only [List.getElem_toArray, List.getElem_cons_zero, List.getElem_cons_succ, Act.put, List.setIfInBounds_toArray, List.set_cons_zero, List.set_cons_succ]
                refine wpAnyH_take (i := 7) (v := ?v17) rfl (by kernel_rfl) (by kernel_rfl) (by kernel_rfl) (fun _ _ _ h => h) (Or.inl ⟨by rfl, ?hy17⟩) hS0 ?_
                case hy17 => (intro w' hw'; obtain ⟨hb', c7, d7, t7⟩ := hw'; clear hb'; go_simp; try with_reducible rfl)
                simp only [List.getElem_toArray, List.getElem_cons_zero, List.getElem_cons_succ, Act.put, List.setIfInBounds_toArray, List.set_cons_zero, List.set_cons_succ]
                refine wpAnyH_take (i := 8) (v := ?v18) rfl (by kernel_rfl) (by kernel_rfl) (by kernel_rfl) (fun _ _ _ h => h) (Or.inl ⟨by rfl, ?hy18⟩) hS0 ?_
                case hy18 => (intro w' hw'; obtain ⟨hb', c7, d7, t7⟩ := hw'; clear hb'; go_simp; try with_reducible rfl)
                simp only [List.getElem_toArray, List.getElem_cons_zero, List.getElem_cons_succ, Act.put, List.setIfInBounds_toArray, List.set_cons_zero, List.set_cons_succ]
                refine wpAnyH_take (i := 9) (v := ?v19) rfl (by kernel_rfl) (by kernel_rfl) (by kernel_rfl) (fun _ _ _ h => h) (Or.inl ⟨by rfl, ?hy19⟩) hS0 ?_
                case hy19 => (intro w' hw'; obtain ⟨hb', c7, d7, t7⟩ := hw'; clear hb'; go_simp; try with_reducible rfl)
                simp only [List.getElem_toArray, List.getElem_cons_zero, List.getElem_cons_succ, Act.put, List.setIfInBounds_toArray, List.set_cons_zero, List.set_cons_succ]
                refine wpAnyH_take (i := 10) (v := ?v20) rfl (by kernel_rfl) (by kernel_rfl) (by kernel_rfl) (fun _ _ _ h => h) (Or.inl ⟨by rfl, ?hy20⟩) hS0 ?_
                case hy20 => (intro w' hw'; obtain ⟨hb', c7, d7, t7⟩ := hw'; clear hb'; go_simp; try with_reducible rfl)
                simp only [List.getElem_toArray, List.getElem_cons_zero, List.getElem_cons_succ, Act.put, List.setIfInBounds_toArray, List.set_cons_zero, List.set_cons_succ]
                refine wpAnyH_take (i := 11) (v := ?v21) rfl (by kernel_rfl) (by kernel_rfl) (by kernel_rfl) (fun _ _ _ h => h) (Or.inl ⟨by rfl, ?hy21⟩) hS0 ?_
                case hy21 => (intro w' hw'; have cn := (Below.cell hw'.1 (p := ⟨p, off + k * 9, none⟩) (unhide LB)).trans (unhide N0); obtain ⟨hb', c7, d7, t7⟩ := hw'; clear hb'; go_simp; try with_reducible rfl)
                simp only [List.getElem_toArray, List.getElem_cons_zero, List.getElem_cons_succ, Act.put, List.setIfInBounds_toArray, List.set_cons_zero, List.set_cons_succ]
                refine wpAnyH_take (i := 12) (v := ?v22) rfl (by kernel_rfl) (by kernel_rfl) (by kernel_rfl) (fun _ _ _ h => h) (Or.inl ⟨by rfl, ?hy22⟩) hS0 ?_
                case hy22 => (intro w' hw'; obtain ⟨hb', c7, d7, t7⟩ := hw'; clear hb'; go_simp; try with_reducible rfl)
                simp only [List.getElem_toArray, List.getElem_cons_zero, List.getElem_cons_succ, Act.put, List.setIfInBounds_toArray, List.set_cons_zero, List.set_cons_succ]
                refine wpAnyH_take (i := 13) (v := ?v23) rfl (by kernel_rfl) (by kernel_rfl) (by kernel_rfl) (fun _ _ _ h => h) (Or.inl ⟨by rfl, ?hy23⟩) hS0 ?_
                case hy23 => (intro w' hw'; obtain ⟨hb', c7, d7, t7⟩ := hw'; clear hb'; go_simp; try with_reducible rfl)
                simp only [List.getElem_toArray, List.getElem_cons_zero, List.getElem_cons_succ, Act.put, List.setIfInBounds_toArray, List.set_cons_zero, List.set_cons_succ]
                refine wpAnyH_take (i := 14) (v := ?v24) rfl (by kernel_rfl) (by kernel_rfl) (by kernel_rfl) (fun _ _ _ h => h) (Or.inl ⟨by rfl, ?hy24⟩) hS0 ?_
                case hy24 => (intro w' hw'; obtain ⟨hb', c7, d7, t7⟩ := hw'; clear hb'; go_simp; try with_reducible rfl)
                simp only [List.getElem_toArray, List.getElem_cons_zero, List.getElem_cons_succ, Act.put, List.setIfInBounds_toArray, List.set_cons_zero, List.set_cons_succ]
                refine wpAnyH_take (i := 15) (v := ?v25) rfl (by kernel_rfl) (by kernel_rfl) (by kernel_rfl) (fun _ _ _ h => h) (Or.inl ⟨by rfl, ?hy25⟩) hS0 ?_
                case hy25 => (intro w' hw'; obtain ⟨hb', c7, d7, t7⟩ := hw'; clear hb'; go_simp; try with_reducible rfl)
                simp only [List.getElem_toArray, List.getElem_cons_zero, List.getElem_cons_succ, Act.put, List.setIfInBounds_toArray, List.set_cons_zero, List.set_cons_succ]
                refine wpAnyH_take (i := 16) (v := ?v26) rfl (by kernel_rfl) (by kernel_rfl) (by kernel_rfl) (fun _ _ _ h => h) (Or.inl ⟨by rfl, ?hy26⟩) hS0 ?_
                case hy26 => (intro w' hw'; obtain ⟨hb', c7, d7, t7⟩ := hw'; clear hb'; go_simp; try with_reducible rfl)
                simp only [List.getElem_toArray, List.getElem_cons_zero, List.getElem_cons_succ, Act.put, List.setIfInBounds_toArray, List.set_cons_zero, List.set_cons_succ]
                refine wpAnyH_take (i := 17) (v := ?v27) rfl (by kernel_rfl) (by kernel_rfl) (by kernel_rfl) (fun _ _ _ h => h) (Or.inl ⟨by rfl, ?hy27⟩) hS0 ?_
                case hy27 => (intro w' hw'; have cn := (Below.cell hw'.1 (p := ⟨p', off' + j * 9, none⟩) (unhide LB')).trans (unhide N1); obtain ⟨hb', c7, d7, t7⟩ := hw'; clear hb'; go_simp; try with_reducible rfl)
                simp only [List.getElem_toArray, List.getElem_cons_zero, List.getElem_cons_succ, Act.put, List.setIfInBounds_toArray, List.set_cons_zero, List.set_cons_succ]
                by_cases hm : nm = nm'
                · subst hm
                  refine rgn.take (i := 18) _ (.bool true) rfl (by kernel_rfl) (by kernel_rfl) (by kernel_rfl) (fun _ _ _ h => h) (by rfl) hS0 (fun w' hw' => by clear hw'; go_simp) ?_
                  simp only [List.getElem_toArray, List.getElem_cons_zero, List.getElem_cons_succ, Act.put, List.setIfInBounds_toArray, List.set_cons_zero, List.set_cons_succ]
                  refine wpAnyH_take (i := 19) (v := ?v28) rfl (by kernel_rfl) (by kernel_rfl) (by kernel_rfl) (fun _ _ _ h => h) (Or.inl ⟨by rfl, ?hy28⟩) hS0 ?_
                  case hy28 => (intro w' hw'; obtain ⟨hb', c7, d7, t7⟩ := hw'; clear hb'; go_simp; try with_reducible rfl)
                  simp only [List.getElem_toArray, List.getElem_cons_zero, List.getElem_cons_succ, Act.put, List.setIfInBounds_toArray, List.set_cons_zero, List.set_cons_succ]
                  refine wpAnyH_take (i := 20) (v := ?v29) rfl (by kernel_rfl) (by kernel_rfl) (by kernel_rfl) (fun _ _ _ h => h) (Or.inl ⟨by rfl, ?hy29⟩) hS0 ?_
                  case hy29 => (intro w' hw'; obtain ⟨hb', c7, d7, t7⟩ := hw'; clear hb'; go_simp; try with_reducible rfl)
                  simp only [List.getElem_toArray, List.getElem_cons_zero, List.getElem_cons_succ, Act.put, List.setIfInBounds_toArray, List.set_cons_zero, List.set_cons_succ]
                  refine wpAnyH_take (i := 21) (v := ?v30) rfl (by kernel_rfl) (by kernel_rfl) (by kernel_rfl) (fun _ _ _ h => h) (Or.inl ⟨by rfl, ?hy30⟩) hS0 ?_
                  case hy30 => (intro w' hw'; obtain ⟨hb', c7, d7, t7⟩ := hw'; clear hb'; go_simp; try with_reducible rfl)
                  simp only [List.getElem_toArray, List.getElem_cons_zero, List.getElem_cons_succ, Act.put, List.setIfInBounds_toArray, List.set_cons_zero, List.set_cons_succ]
                  refine wpAnyH_take (i := 22) (v := ?v31) rfl (by kernel_rfl) (by kernel_rfl) (by kernel_rfl) (fun _ _ _ h => h) (Or.inl ⟨by rfl, ?hy31⟩) hS0 ?_
                  case hy31 => (intro w' hw'; obtain ⟨hb', c7, d7, t7⟩ := hw'; clear hb'; go_simp; try with_reducible rfl)
                  simp only [List.getElem_toArray, List.getElem_cons_zero, List.getElem_cons_succ, Act.put, List.setIfInBounds_toArray, List.set_cons_zero, List.set_cons_succ]
                  refine wpAnyH_take (i := 23) (v := ?v32) rfl (by kernel_rfl) (by kernel_rfl) (by kernel_rfl) (fun _ _ _ h => h) (Or.inl ⟨by rfl, ?hy32⟩) hS0 ?_
                  case hy32 => (intro w' hw'; obtain ⟨hb', c7, d7, t7⟩ := hw'; clear hb'; go_simp; try with_reducible rfl)
                  simp only [List.getElem_toArray, List.getElem_cons_zero, List.getElem_cons_succ, Act.put, List.setIfInBounds_toArray, List.set_cons_zero, List.set_cons_succ]
                  refine wpAnyH_take (i := 24) (v := ?v33) rfl (by kernel_rfl) (by kernel_rfl) (by kernel_rfl) (fun _ _ _ h => h) (Or.inl ⟨by rfl, ?hy33⟩) hS0 ?_
                  case hy33 => (intro w' hw'; obtain ⟨hb', c7, d7, t7⟩ := hw'; clear hb'; go_simp; try with_reducible rfl)
                  simp only [List.getElem_toArray, List.getElem_cons_zero, List.getElem_cons_succ, Act.put, List.setIfInBounds_toArray, List.set_cons_zero, List.set_cons_succ]
                  refine wpAnyH_take (i := 25) (v := ?v34) rfl (by kernel_rfl) (by kernel_rfl) (by kernel_rfl) (fun _ _ _ h => h) (Or.inl ⟨by rfl, ?hy34⟩) hS0 ?_
                  case hy34 => (intro w' hw'; obtain ⟨hb', c7, d7, t7⟩ := hw'; clear hb'; go_simp; try with_reducible rfl)
                  simp only [List.getElem_toArray, List.getElem_cons_zero, List.getElem_cons_succ, Act.put, List.setIfInBounds_toArray, List.set_cons_zero, List.set_cons_succ]
                  refine wpAnyH_take (i := 26) rfl (by kernel_rfl) (by kernel_rfl) (by kernel_rfl) (fun _ _ _ h => h) (yieldsIf_load_mid (by rfl) 27 _ (by rfl) p (off + k * 9 + 1) (by rfl) us _ (fun w' hw' => Row8.below (unhide U1).1 hw'.1) Try.underlying27 (by rfl) (unhide U1).2.2) hS0 ?_
                  simp only [List.getElem_toArray, List.getElem_cons_zero, List.getElem_cons_succ, Act.put, List.setIfInBounds_toArray, List.set_cons_zero, List.set_cons_succ]
                  refine wpAnyH_take (i := 27) (v := ?v35) rfl (by kernel_rfl) (by kernel_rfl) (by kernel_rfl) (fun _ _ _ h => h) (Or.inl ⟨by rfl, ?hy35⟩) hS0 ?_
                  case hy35 => (intro w' hw'; obtain ⟨hb', c7, d7, t7⟩ := hw'; clear hb'; go_simp; try with_reducible rfl)
                  simp only [List.getElem_toArray, List.getElem_cons_zero, List.getElem_cons_succ, Act.put, List.setIfInBounds_toArray, List.set_cons_zero, List.set_cons_succ]
                  refine wpAnyH_take (i := 28) (v := ?v36) rfl (by kernel_rfl) (by kernel_rfl) (by kernel_rfl) (fun _ _ _ h => h) (Or.inl ⟨by rfl, ?hy36⟩) hS0 ?_
                  case hy36 => (intro w' hw'; obtain ⟨hb', c7, d7, t7⟩ := hw'; clear hb'; go_simp; try with_reducible rfl)
                  simp only [List.getElem_toArray, List.getElem_cons_zero, List.getElem_cons_succ, Act.put, List.setIfInBounds_toArray, List.set_cons_zero, List.set_cons_succ]
                  refine wpAnyH_take (i := 29) (v := ?v37) rfl (by kernel_rfl) (by kernel_rfl) (by kernel_rfl) (fun _ _ _ h => h) (Or.inl ⟨by rfl, ?hy37⟩) hS0 ?_
                  case hy37 => (intro w' hw'; obtain ⟨hb', c7, d7, t7⟩ := hw'; clear hb'; go_simp; try with_reducible rfl)
                  simp only [List.getElem_toArray, List.getElem_cons_zero, List.getElem_cons_succ, Act.put, List.setIfInBounds_toArray, List.set_cons_zero, List.set_cons_succ]
                  refine wpAnyH_take (i := 30) (v := ?v38) rfl (by kernel_rfl) (by kernel_rfl) (by kernel_rfl) (fun _ _ _ h => h) (Or.inl ⟨by rfl, ?hy38⟩) hS0 ?_
                  case hy38 => (intro w' hw'; obtain ⟨hb', c7, d7, t7⟩ := hw'; clear hb'; go_simp; try with_reducible rfl)
                  simp only [List.getElem_toArray, List.getElem_cons_zero, List.getElem_cons_succ, Act.put, List.setIfInBounds_toArray, List.set_cons_zero, List.set_cons_succ]
                  refine wpAnyH_take (i := 31) (v := ?v39) rfl (by kernel_rfl) (by kernel_rfl) (by kernel_rfl) (fun _ _ _ h => h) (Or.inl ⟨by rfl, ?hy39⟩) hS0 ?_
                  case hy39 => (intro w' hw'; obtain ⟨hb', c7, d7, t7⟩ := hw'; clear hb'; go_simp; try with_reducible rfl)
                  simp only [List.getElem_toArray, List.getElem_cons_zero, List.getElem_cons_succ, Act.put, List.setIfInBounds_toArray, List.set_cons_zero, List.set_cons_succ]
                  refine wpAnyH_take (i := 32) rfl (by kernel_rfl) (by kernel_rfl) (by kernel_rfl) (fun _ _ _ h => h) (yieldsIf_load_mid (by rfl) 27 _ (by rfl) p' (off' + j * 9 + 1) (by rfl) us' _ (fun w' hw' => Row8.below (unhide U2).1 hw'.1) Try.underlying27 (by rfl) (unhide U2).2.2) hS0 ?_
                  simp only [List.getElem_toArray, List.getElem_cons_zero, List.getElem_cons_succ, Act.put, List.setIfInBounds_toArray, List.set_cons_zero, List.set_cons_succ]
                  refine rgn.one (i := 33) _ rfl (by kernel_rfl) (by rfl) ?_
                  simp only [List.getElem_toArray, List.getElem_cons_zero, List.getElem_cons_succ, Act.put, List.setIfInBounds_toArray, List.set_cons_zero, List.set_cons_succ]
                  go_wp2_with fail
                  refine ((unhide IH) us us' _ (VlC.below hS0.1 _ _ (unhide U1).2.1) (VlC.below hS0.1 _ _ (unhide U2).2.1)).mono ?_
                  rintro e w3 ⟨rfl, g3⟩
                  have hS0 := (unhide MK) w3 (hS0.1.trans (g3.mono hS0.1.size))
                  refine ⟨hS0, ?_⟩
                  obtain ⟨hb, -, -, -⟩ := hS0
                  have hS0 := (unhide MK) w3 hb
                  rw [show pmB (nm, v).2 (nm, u).2 = pmB v u from rfl]
                  cases hc : pmB v u with
                  | true =>
                    have hc2 := hide (show mmB (nm, v) (nm, u) = true by unfold mmB; rw [show pmB (nm, v).2 (nm, u).2 = true from hc]; simp)
                    clear hc
                    refine wpAnyH_take (i := 34) (v := ?v40) rfl (by kernel_rfl) (by kernel_rfl) (by kernel_rfl) (fun _ _ _ h => h) (Or.inl ⟨by rfl, ?hy40⟩) hS0 ?_
                    case hy40 => (intro w' hw'; clear hw'; go_simp; try with_reducible rfl)
                    simp only [List.getElem_toArray, List.getElem_cons_zero, List.getElem_cons_succ, Act.put, List.setIfInBounds_toArray, List.set_cons_zero, List.set_cons_succ]
                    refine wpAnyH_done (by kernel_rfl) ?_ _; refine NoPanic.normal ?_
                    clear hS0 MK
                    have H3 := hide ((unhide HT).below hb)
                    have tj : w3.cell? ⟨w2.heap.size, j, none⟩ = some (.bool false) := (unhide H3).cel j _ (unhide HHT)
                    have fj : w3.frozen? ⟨w2.heap.size, j, none⟩ = false := (unhide H3).frz j
                    go_wp2
                    go_roundw
                    case rel => exact ⟨j + 1, ts'.set j true, true, by omega, by go_num, rfl, (unhide H3).put (unhide HHT), by rw [if_pos rfl]; exact rem_hit mmB (nm, v) _ _ j _ (unhide HGJ) (unhide HHT) (unhide hc2) (unhide HALL)⟩
                    case measure => simp [intOf]; omega
                  | false =>
                    have hc2 := hide (show mmB (nm, v) (nm, u) = false by unfold mmB; rw [show pmB (nm, v).2 (nm, u).2 = false from hc]; simp)
                    clear hc
                    refine wpAnyH_take (i := 34) (v := ?v41) rfl (by kernel_rfl) (by kernel_rfl) (by kernel_rfl) (fun _ _ _ h => h) (Or.inl ⟨by rfl, ?hy41⟩) hS0 ?_
                    case hy41 => (intro w' hw'; clear hw'; go_simp; try with_reducible rfl)
                    simp only [List.getElem_toArray, List.getElem_cons_zero, List.getElem_cons_succ, Act.put, List.setIfInBounds_toArray, List.set_cons_zero, List.set_cons_succ]
                    refine wpAnyH_done (by kernel_rfl) ?_ _; refine NoPanic.normal ?_
                    clear hS0 MK
                    go_wp2
                    go_roundw
                    case rel => exact ⟨j + 1, ts', false, by omega, by go_num, rfl, (unhide HT).below hb, ⟨rfl, (unhide MORE) (.inr (unhide hc2))⟩⟩
                    case measure => simp [intOf]; omega
                · have hmn : ¬ nm.toList = nm'.toList := by simpa using str_bne hm
                  have hc2 := hide (show mmB (nm, v) (nm', u) = false by unfold mmB; rw [show decide ((nm, v).1 = (nm', u).1) = false from decide_eq_false hm]; rfl)
                  refine rgn.take (i := 18) _ (.bool false) rfl (by kernel_rfl) (by kernel_rfl) (by kernel_rfl) (fun _ _ _ h => h) (by rfl) hS0 (fun w' hw' => by clear hw'; go_simp) ?_
                  simp only [List.getElem_toArray, List.getElem_cons_zero, List.getElem_cons_succ, Act.put, List.setIfInBounds_toArray, List.set_cons_zero, List.set_cons_succ]
                  refine wpAnyH_take (i := 19) (v := ?v42) rfl (by kernel_rfl) (by kernel_rfl) (by kernel_rfl) (fun _ _ _ h => h) (Or.inl ⟨by rfl, ?hy42⟩) hS0 ?_
                  case hy42 => (intro w' hw'; clear hw'; go_simp; try with_reducible rfl)
                  simp only [List.getElem_toArray, List.getElem_cons_zero, List.getElem_cons_succ, Act.put, List.setIfInBounds_toArray, List.set_cons_zero, List.set_cons_succ]
                  refine wpAnyH_take (i := 20) (v := ?v43) rfl (by kernel_rfl) (by kernel_rfl) (by kernel_rfl) (fun _ _ _ h => h) (Or.inl ⟨by rfl, ?hy43⟩) hS0 ?_
                  case hy43 => (intro w' hw'; clear hw'; go_simp; try with_reducible rfl)
                  simp only [List.getElem_toArray, List.getElem_cons_zero, List.getElem_cons_succ, Act.put, List.setIfInBounds_toArray, List.set_cons_zero, List.set_cons_succ]
                  refine wpAnyH_take (i := 21) (v := undef) rfl (by kernel_rfl) (by kernel_rfl) (by kernel_rfl) (fun _ _ _ h => h) (Or.inr ⟨by rfl, rfl⟩) hS0 ?_
                  simp only [List.getElem_toArray, List.getElem_cons_zero, List.getElem_cons_succ, Act.put, List.setIfInBounds_toArray, List.set_cons_zero, List.set_cons_succ]
                  refine wpAnyH_take (i := 22) (v := undef) rfl (by kernel_rfl) (by kernel_rfl) (by kernel_rfl) (fun _ _ _ h => h) (Or.inr ⟨by rfl, rfl⟩) hS0 ?_
                  simp only [List.getElem_toArray, List.getElem_cons_zero, List.getElem_cons_succ, Act.put, List.setIfInBounds_toArray, List.set_cons_zero, List.set_cons_succ]
                  refine wpAnyH_take (i := 23) (v := undef) rfl (by kernel_rfl) (by kernel_rfl) (by kernel_rfl) (fun _ _ _ h => h) (Or.inr ⟨by rfl, rfl⟩) hS0 ?_
                  simp only [List.getElem_toArray, List.getElem_cons_zero, List.getElem_cons_succ, Act.put, List.setIfInBounds_toArray, List.set_cons_zero, List.set_cons_succ]
                  refine wpAnyH_take (i := 24) (v := undef) rfl (by kernel_rfl) (by kernel_rfl) (by kernel_rfl) (fun _ _ _ h => h) (Or.inr ⟨by rfl, rfl⟩) hS0 ?_
                  simp only [List.getElem_toArray, List.getElem_cons_zero, List.getElem_cons_succ, Act.put, List.setIfInBounds_toArray, List.set_cons_zero, List.set_cons_succ]
                  refine wpAnyH_take (i := 25) (v := undef) rfl (by kernel_rfl) (by kernel_rfl) (by kernel_rfl) (fun _ _ _ h => h) (Or.inr ⟨by rfl, rfl⟩) hS0 ?_
                  simp only [List.getElem_toArray, List.getElem_cons_zero, List.getElem_cons_succ, Act.put, List.setIfInBounds_toArray, List.set_cons_zero, List.set_cons_succ]
                  refine wpAnyH_take (i := 26) (v := undef) rfl (by kernel_rfl) (by kernel_rfl) (by kernel_rfl) (fun _ _ _ h => h) (Or.inr ⟨by rfl, rfl⟩) hS0 ?_
                  simp only [List.getElem_toArray, List.getElem_cons_zero, List.getElem_cons_succ, Act.put, List.setIfInBounds_toArray, List.set_cons_zero, List.set_cons_succ]
                  refine wpAnyH_take (i := 27) (v := undef) rfl (by kernel_rfl) (by kernel_rfl) (by kernel_rfl) (fun _ _ _ h => h) (Or.inr ⟨by rfl, rfl⟩) hS0 ?_
                  simp only [List.getElem_toArray, List.getElem_cons_zero, List.getElem_cons_succ, Act.put, List.setIfInBounds_toArray, List.set_cons_zero, List.set_cons_succ]
                  refine wpAnyH_take (i := 28) (v := undef) rfl (by kernel_rfl) (by kernel_rfl) (by kernel_rfl) (fun _ _ _ h => h) (Or.inr ⟨by rfl, rfl⟩) hS0 ?_
                  simp only [List.getElem_toArray, List.getElem_cons_zero, List.getElem_cons_succ, Act.put, List.setIfInBounds_toArray, List.set_cons_zero, List.set_cons_succ]
                  refine wpAnyH_take (i := 29) (v := undef) rfl (by kernel_rfl) (by kernel_rfl) (by kernel_rfl) (fun _ _ _ h => h) (Or.inr ⟨by rfl, rfl⟩) hS0 ?_
                  simp only [List.getElem_toArray, List.getElem_cons_zero, List.getElem_cons_succ, Act.put, List.setIfInBounds_toArray, List.set_cons_zero, List.set_cons_succ]
                  refine wpAnyH_take (i := 30) (v := undef) rfl (by kernel_rfl) (by kernel_rfl) (by kernel_rfl) (fun _ _ _ h => h) (Or.inr ⟨by rfl, rfl⟩) hS0 ?_
                  simp only [List.getElem_toArray, List.getElem_cons_zero, List.getElem_cons_succ, Act.put, List.setIfInBounds_toArray, List.set_cons_zero, List.set_cons_succ]
                  refine wpAnyH_take (i := 31) (v := undef) rfl (by kernel_rfl) (by kernel_rfl) (by kernel_rfl) (fun _ _ _ h => h) (Or.inr ⟨by rfl, rfl⟩) hS0 ?_
                  simp only [List.getElem_toArray, List.getElem_cons_zero, List.getElem_cons_succ, Act.put, List.setIfInBounds_toArray, List.set_cons_zero, List.set_cons_succ]
                  refine wpAnyH_take (i := 32) (v := undef) rfl (by kernel_rfl) (by kernel_rfl) (by kernel_rfl) (fun _ _ _ h => h) (Or.inr ⟨by rfl, rfl⟩) hS0 ?_
                  simp only [List.getElem_toArray, List.getElem_cons_zero, List.getElem_cons_succ, Act.put, List.setIfInBounds_toArray, List.set_cons_zero, List.set_cons_succ]
                  refine wpAnyH_take (i := 33) (v := undef) rfl (by kernel_rfl) (by kernel_rfl) (by kernel_rfl) (fun _ _ _ h => h) (Or.inr ⟨by rfl, rfl⟩) hS0 ?_
                  simp only [List.getElem_toArray, List.getElem_cons_zero, List.getElem_cons_succ, Act.put, List.setIfInBounds_toArray, List.set_cons_zero, List.set_cons_succ]
                  refine wpAnyH_take (i := 34) (v := ?v44) rfl (by kernel_rfl) (by kernel_rfl) (by kernel_rfl) (fun _ _ _ h => h) (Or.inl ⟨by rfl, ?hy44⟩) hS0 ?_
                  case hy44 => (intro w' hw'; clear hw'; go_simp; try with_reducible rfl)
                  simp only [List.getElem_toArray, List.getElem_cons_zero, List.getElem_cons_succ, Act.put, List.setIfInBounds_toArray, List.set_cons_zero, List.set_cons_succ]
                  refine wpAnyH_done (by kernel_rfl) ?_ _; refine NoPanic.normal ?_
                  have HB := hide hS0.1
                  clear hS0 MK
                  go_wp2
                  go_roundw
                  case rel => exact ⟨j + 1, ts', false, by omega, by go_num, rfl, (unhide HT).below (unhide HB), ⟨rfl, (unhide MORE) (.inr (unhide hc2))⟩⟩
                  case measure => simp [intOf]; omega
            · have ji : ¬ (j : Int) < (nf : Int) := by omega
              have hno := hide (rem_miss mmB (nm, v) fls'.list ts' (by rw [unhide l2, unhide LT]) (fun q b hb => (unhide HALL) q (by have := (List.getElem?_eq_some_iff.1 hb).1; rw [unhide l2] at this; omega) b hb))
              go_wp2
              go_ret
              exact ⟨by rw [unhide HG, unhide hl, unhide HS, unhide hno]; rfl, G2⟩
      · obtain rfl : k = nf := by omega
        have G2 : Below w.heap.size w wr := BW.trans (Below.mono (unhide HT).bel BW.size)
        go_wp2
        go_ret
        exact ⟨by rw [unhide HG, unhide hl, grd_end (by rw [unhide l1]; omega)]; rfl, G2⟩
  · have HN := hide (pmB_len (b := b) (b' := b') (n := n) (n' := n') (f := f) (f' := f') (tx := tx) (tx' := tx') (ty := ty) (ty' := ty') (its := its) (its' := its') (fls := fls) (fls' := fls') (kd' := kd') hk (by rw [unhide l1, unhide l2]; exact hn))
    have hn2 : (nf : Int) ≠ nf' := by omega
    go_wp2
    go_ret
    exact ⟨by rw [unhide HN]; rfl, BW⟩
theorem rsm_ok : ∀ v : Vl, Small v → ∀ u : Vl, Small u → RSm v u := by
  refine Vl.all ?_
  intro kd b n f tx ty its fls hI hF hv u hu
  obtain ⟨kd', b', n', f', tx', ty', its', fls'⟩ := u
  have hv0 := hv
  have hu0 := hu
  unfold Small at hv hu
  obtain ⟨-, sl, -, sI, sF⟩ := hv
  obtain ⟨-, -, -, sI', sF'⟩ := hu
  by_cases hk : kdOf kd = kdOf kd'
  · by_cases h5 : kdOf kd = 5
    · exact rsm_5 _ _ _ _ _ _ _ _ _ _ _ _ _ _ _ _ h5 (hk.symm.trans h5) (fun v hv u hu => hI v hv (sI.all _ hv) u (sI'.all _ hu))
    · by_cases h6 : kdOf kd = 6
      · exact rsm_6 _ _ _ _ _ _ _ _ _ _ _ _ _ _ _ _ h6 (hk.symm.trans h6) sl sF sF' (fun v hv u hu => hF v hv (sF.all _ hv) u.2 (sF'.all _ hu))
      · exact rsm_leaf _ _ _ _ _ _ _ _ _ _ _ _ _ _ _ _ _ rfl hk.symm h5 h6 hv0 hu0
  · exact rsm_ne _ _ _ _ _ _ _ _ _ _ _ _ _ _ _ _ _ _ rfl rfl hk
end Go.Proofs.Ytiblkdedbimggaa.og
namespace Go.Proofs.Ytiblkdedbimggaa.og
open Go.ChangeShapes Go.WideShapes Go.ChangeAt Go.RowKit
open vl hiding cB cFl cS cF cI cK cIt
set_option linter.unusedVariables false
set_option linter.unusedSimpArgs false
set_option maxHeartbeats 8000000 in
set_option maxRecDepth 6000 in
theorem law_equal (v x : Vl) (cs xs : List Value) (w : World) (hv : VlC w v cs) (hx : VlC w x xs) (hsv : Small v) (hsx : Small x) :
    Calls Try.prog 3 #[.agg cs.toArray, .agg xs.toArray] w fun e w' => e = .returned (.bool true) ∧ Below w.heap.size w w' := by
  have hst := Small.turn v hsv
  have I_a := hide (show (Try.prog.info? 27).map (·.size) = some cs.length by rw [hv.cells]; exact infoV)
  have I_b := hide (show (Try.prog.info? 27).map (·.size) = some xs.length by rw [hx.cells]; exact infoV)
  obtain ⟨W, eW⟩ : ∃ W, W = ((w.alloc (.cells cs.toArray 27)).alloc (.cells xs.toArray 27)) := ⟨_, rfl⟩
  have BW : Below w.heap.size w W := by rw [eW]; exact ((Below.refl _ _).alloc (Nat.le_refl _) _).alloc (by simp) _
  have R_a := hide (show W.rangeAt w.heap.size 0 cs from fun j u hu => by
    rw [Nat.zero_add, eW, World.cell?_alloc_past _ _ _ (by simp), World.cell?_alloc_at _ _ _ _ rfl]; simpa using hu)
  have R_b := hide (show W.rangeAt (w.heap.size + 1) 0 xs from fun j u hu => by
    rw [Nat.zero_add, eW, World.cell?_alloc_at _ _ _ _ (by simp)]; simpa using hu)
  have V_a := hide (VlC.below BW _ _ hv)
  have V_b := hide (VlC.below BW _ _ hx)
  have EW := hide eW
  clear eW hv hx
  go_enter Try.func3, Try.ntmps3
  go_wp2_with fail
  rw [← unhide EW]
  clear EW
  refine (known_ok W).mono ?_
  rintro e w1 ⟨rfl, bG⟩
  have R_a := hide (Row8.below (unhide R_a) bG)
  have V_a := hide (VlC.below bG _ _ (unhide V_a))
  have R_b := hide (Row8.below (unhide R_b) bG)
  have V_b := hide (VlC.below bG _ _ (unhide V_b))
  have BW : Below w.heap.size w w1 := BW.trans (bG.mono BW.size)
  clear bG
  go_wp2_with (refine wpList_load_mid (by rfl) 27 _ (by rfl) (w.heap.size) 0 (by rfl) cs _ (unhide R_a) Try.underlying27 (by rfl) (unhide I_a) ?_)
  refine (turned_ok v hsv (fun _ => False) cs _ (fun b hb => hb.elim) (AvC.of _ _ (unhide V_a))).mono ?_
  rintro e w2 ⟨u, ts, rfl, rfl, hat, bG⟩
  have hfr := AvC.read _ _ hat
  clear hat
  have R_a := hide (Row8.below (unhide R_a) bG)
  have V_a := hide (VlC.below bG _ _ (unhide V_a))
  have R_b := hide (Row8.below (unhide R_b) bG)
  have V_b := hide (VlC.below bG _ _ (unhide V_b))
  have BW : Below w.heap.size w w2 := BW.trans (bG.mono BW.size)
  clear bG
  have d8 := hfr.cells
  have d1_t := hfr.one
  have I_t := hide (show (Try.prog.info? 27).map (·.size) = some ts.length by rw [d8]; exact infoV)
  have J_t := hide (show (Try.prog.info? 27).map (·.size) = some ts.toArray.size by simp [d8, infoV])
  have T_t := hide (show (w2.alloc (.cells #[.int .i64 0, .bool false, .int .i64 0, .float .f64 0, .string { data := #[] }, .string { data := #[] }, .slice none 0 0, .slice none 0 0] 27)).there w2.heap.size 0 ts.toArray.size from there_new (by simp [d8]))
  obtain ⟨X, eX⟩ : ∃ X, X = (w2.alloc (.cells #[.int .i64 0, .bool false, .int .i64 0, .float .f64 0, .string { data := #[] }, .string { data := #[] }, .slice none 0 0, .slice none 0 0] 27)).setCells w2.heap.size 0 ts := ⟨_, rfl⟩
  have bX : Below w2.heap.size w2 X := by rw [eX]; exact below_setCells _ _ _ _ ((Below.refl _ _).alloc (Nat.le_refl _) _) (Nat.le_refl _)
  have R_t := hide (show X.rangeAt w2.heap.size 0 ts by rw [eX]; exact World.rangeAt_setCells_same _ _ _ _ (unhide T_t))
  have V_t := hide (VlC.below bX _ _ hfr)
  have E_t := hide eX
  clear eX d8 hfr
  have R_a := hide (Row8.below (unhide R_a) bX)
  have V_a := hide (VlC.below bX _ _ (unhide V_a))
  have R_b := hide (Row8.below (unhide R_b) bX)
  have V_b := hide (VlC.below bX _ _ (unhide V_b))
  have BW : Below w.heap.size w X := BW.trans (bX.mono BW.size)
  clear bX
  go_wp2_with (refine wpList_store_mid (by rfl) 27 _ _ (by rfl) w2.heap.size 0 ts.toArray (by rfl) (by rfl) (unhide T_t) (unhide J_t) d1_t ?_; rw [show (w2.alloc (.cells #[.int .i64 0, .bool false, .int .i64 0, .float .f64 0, .string { data := #[] }, .string { data := #[] }, .slice none 0 0, .slice none 0 0] 27)).setCells w2.heap.size 0 ts.toArray.toList = X from (unhide E_t).symm])
  clear T_t J_t E_t d1_t
  have hS0 : Gb X { X with drawn := X.drawn + 1 } := Gb.drew (Gb.refl _)
  refine wp_region_noPanic ?_
  refine wp_region_held (S := fun w' => Gb X w') mixed ?_
  refine wpAnyH_take (i := 0) rfl (by kernel_rfl) (by kernel_rfl) (by kernel_rfl) (fun _ _ _ h => h) (yieldsIf_load_mid (by rfl) 27 _ (by rfl) w.heap.size 0 (by rfl) cs _ (fun w' hw' => Row8.below (unhide R_a) hw') Try.underlying27 (by rfl) (unhide I_a)) hS0 ?_
  simp only [List.getElem_toArray, List.getElem_cons_zero, List.getElem_cons_succ, Act.put, List.setIfInBounds_toArray, List.set_cons_zero, List.set_cons_succ]
  refine wpAnyH_take (i := 1) rfl (by kernel_rfl) (by kernel_rfl) (by kernel_rfl) (fun _ _ _ h => h) (yieldsIf_load_mid (by rfl) 27 _ (by rfl) (w.heap.size + 1) 0 (by rfl) xs _ (fun w' hw' => Row8.below (unhide R_b) hw') Try.underlying27 (by rfl) (unhide I_b)) hS0 ?_
  simp only [List.getElem_toArray, List.getElem_cons_zero, List.getElem_cons_succ, Act.put, List.setIfInBounds_toArray, List.set_cons_zero, List.set_cons_succ]
  refine wpAnyH_take (i := 3) rfl (by kernel_rfl) (by kernel_rfl) (by kernel_rfl) (fun _ _ _ h => h) (yieldsIf_load_mid (by rfl) 27 _ (by rfl) w.heap.size 0 (by rfl) cs _ (fun w' hw' => Row8.below (unhide R_a) hw') Try.underlying27 (by rfl) (unhide I_a)) hS0 ?_
  simp only [List.getElem_toArray, List.getElem_cons_zero, List.getElem_cons_succ, Act.put, List.setIfInBounds_toArray, List.set_cons_zero, List.set_cons_succ]
  refine wpAnyH_take (i := 4) rfl (by kernel_rfl) (by kernel_rfl) (by kernel_rfl) (fun _ _ _ h => h) (yieldsIf_load_mid (by rfl) 27 _ (by rfl) (w.heap.size + 1) 0 (by rfl) xs _ (fun w' hw' => Row8.below (unhide R_b) hw') Try.underlying27 (by rfl) (unhide I_b)) hS0 ?_
  simp only [List.getElem_toArray, List.getElem_cons_zero, List.getElem_cons_succ, Act.put, List.setIfInBounds_toArray, List.set_cons_zero, List.set_cons_succ]
  refine rgn.one (i := 2) _ rfl (by kernel_rfl) (by rfl) ?_
  simp only [List.getElem_toArray, List.getElem_cons_zero, List.getElem_cons_succ, Act.put, List.setIfInBounds_toArray, List.set_cons_zero, List.set_cons_succ]
  go_wp2_with fail
  refine (equal_ok v x hsv hsx cs xs _ (VlC.below hS0 _ _ (unhide V_a)) (VlC.below hS0 _ _ (unhide V_b))).mono ?_
  rintro e y5 ⟨rfl, g⟩
  generalize hq : (ordV v x == 0) = q at *
  have HQ := hide hq
  clear hq
  have hS0 : Gb X y5 := hS0.trans (g.mono hS0.size)
  clear g
  refine ⟨hS0, ?_⟩
  refine rgn.one (i := 5) _ rfl (by kernel_rfl) (by rfl) ?_
  simp only [List.getElem_toArray, List.getElem_cons_zero, List.getElem_cons_succ, Act.put, List.setIfInBounds_toArray, List.set_cons_zero, List.set_cons_succ]
  go_wp2_with fail
  refine (req_ok v hsv x hsx cs xs _ (VlC.below hS0 _ _ (unhide V_a)) (VlC.below hS0 _ _ (unhide V_b))).mono ?_
  rintro e y6 ⟨rfl, g⟩
  rw [unhide HQ]
  have hS0 : Gb X y6 := hS0.trans (g.mono hS0.size)
  clear g
  refine ⟨hS0, ?_⟩
  refine rgn.take (i := 6) _ (.bool true) rfl (by kernel_rfl) (by kernel_rfl) (by kernel_rfl) (fun _ _ _ h => h) (by rfl) hS0 (fun w' hw' => by clear hw'; cases q <;> go_simp) ?_
  simp only [List.getElem_toArray, List.getElem_cons_zero, List.getElem_cons_succ, Act.put, List.setIfInBounds_toArray, List.set_cons_zero, List.set_cons_succ]
  refine rgn.take (i := 7) _ (.bool true) rfl (by kernel_rfl) (by kernel_rfl) (by kernel_rfl) (fun _ _ _ h => h) (by rfl) hS0 (fun w' hw' => by clear hw'; go_simp) ?_
  simp only [List.getElem_toArray, List.getElem_cons_zero, List.getElem_cons_succ, Act.put, List.setIfInBounds_toArray, List.set_cons_zero, List.set_cons_succ]
  refine wpAnyH_take (i := 8) rfl (by kernel_rfl) (by kernel_rfl) (by kernel_rfl) (fun _ _ _ h => h) (yieldsIf_load_mid (by rfl) 27 _ (by rfl) w.heap.size 0 (by rfl) cs _ (fun w' hw' => Row8.below (unhide R_a) hw') Try.underlying27 (by rfl) (unhide I_a)) hS0 ?_
  simp only [List.getElem_toArray, List.getElem_cons_zero, List.getElem_cons_succ, Act.put, List.setIfInBounds_toArray, List.set_cons_zero, List.set_cons_succ]
  refine wpAnyH_take (i := 9) rfl (by kernel_rfl) (by kernel_rfl) (by kernel_rfl) (fun _ _ _ h => h) (yieldsIf_load_mid (by rfl) 27 _ (by rfl) (w.heap.size + 1) 0 (by rfl) xs _ (fun w' hw' => Row8.below (unhide R_b) hw') Try.underlying27 (by rfl) (unhide I_b)) hS0 ?_
  simp only [List.getElem_toArray, List.getElem_cons_zero, List.getElem_cons_succ, Act.put, List.setIfInBounds_toArray, List.set_cons_zero, List.set_cons_succ]
  refine wpAnyH_take (i := 11) rfl (by kernel_rfl) (by kernel_rfl) (by kernel_rfl) (fun _ _ _ h => h) (yieldsIf_load_mid (by rfl) 27 _ (by rfl) w.heap.size 0 (by rfl) cs _ (fun w' hw' => Row8.below (unhide R_a) hw') Try.underlying27 (by rfl) (unhide I_a)) hS0 ?_
  simp only [List.getElem_toArray, List.getElem_cons_zero, List.getElem_cons_succ, Act.put, List.setIfInBounds_toArray, List.set_cons_zero, List.set_cons_succ]
  refine wpAnyH_take (i := 12) rfl (by kernel_rfl) (by kernel_rfl) (by kernel_rfl) (fun _ _ _ h => h) (yieldsIf_load_mid (by rfl) 27 _ (by rfl) (w.heap.size + 1) 0 (by rfl) xs _ (fun w' hw' => Row8.below (unhide R_b) hw') Try.underlying27 (by rfl) (unhide I_b)) hS0 ?_
  simp only [List.getElem_toArray, List.getElem_cons_zero, List.getElem_cons_succ, Act.put, List.setIfInBounds_toArray, List.set_cons_zero, List.set_cons_succ]
  refine rgn.one (i := 10) _ rfl (by kernel_rfl) (by rfl) ?_
  simp only [List.getElem_toArray, List.getElem_cons_zero, List.getElem_cons_succ, Act.put, List.setIfInBounds_toArray, List.set_cons_zero, List.set_cons_succ]
  go_wp2_with fail
  refine (same_okB v x hsv hsx cs xs _ (VlC.below hS0 _ _ (unhide V_a)) (VlC.below hS0 _ _ (unhide V_b))).mono ?_
  rintro e y13 ⟨rfl, g, e1, e2⟩
  rw [smB_pmB hsv hsx e1 e2]
  clear e1 e2
  generalize hr : pmB v x = r at *
  have HR := hide hr
  clear hr
  have hS0 : Gb X y13 := hS0.trans (g.mono hS0.size)
  clear g
  refine ⟨hS0, ?_⟩
  refine rgn.one (i := 13) _ rfl (by kernel_rfl) (by rfl) ?_
  simp only [List.getElem_toArray, List.getElem_cons_zero, List.getElem_cons_succ, Act.put, List.setIfInBounds_toArray, List.set_cons_zero, List.set_cons_succ]
  go_wp2_with fail
  refine (rsm_ok v hsv x hsx cs xs _ (VlC.below hS0 _ _ (unhide V_a)) (VlC.below hS0 _ _ (unhide V_b))).mono ?_
  rintro e y14 ⟨rfl, g⟩
  rw [unhide HR]
  have hS0 : Gb X y14 := hS0.trans (g.mono hS0.size)
  clear g
  refine ⟨hS0, ?_⟩
  refine rgn.take (i := 14) _ (.bool true) rfl (by kernel_rfl) (by kernel_rfl) (by kernel_rfl) (fun _ _ _ h => h) (by rfl) hS0 (fun w' hw' => by clear hw'; cases r <;> go_simp) ?_
  simp only [List.getElem_toArray, List.getElem_cons_zero, List.getElem_cons_succ, Act.put, List.setIfInBounds_toArray, List.set_cons_zero, List.set_cons_succ]
  refine rgn.take (i := 15) _ (.bool true) rfl (by kernel_rfl) (by kernel_rfl) (by kernel_rfl) (fun _ _ _ h => h) (by rfl) hS0 (fun w' hw' => by clear hw'; go_simp) ?_
  simp only [List.getElem_toArray, List.getElem_cons_zero, List.getElem_cons_succ, Act.put, List.setIfInBounds_toArray, List.set_cons_zero, List.set_cons_succ]
  refine rgn.take (i := 16) _ (.bool true) rfl (by kernel_rfl) (by kernel_rfl) (by kernel_rfl) (fun _ _ _ h => h) (by rfl) hS0 (fun w' hw' => by clear hw'; go_simp) ?_
  simp only [List.getElem_toArray, List.getElem_cons_zero, List.getElem_cons_succ, Act.put, List.setIfInBounds_toArray, List.set_cons_zero, List.set_cons_succ]
  refine wpAnyH_take (i := 17) rfl (by kernel_rfl) (by kernel_rfl) (by kernel_rfl) (fun _ _ _ h => h) (yieldsIf_load_mid (by rfl) 27 _ (by rfl) w.heap.size 0 (by rfl) cs _ (fun w' hw' => Row8.below (unhide R_a) hw') Try.underlying27 (by rfl) (unhide I_a)) hS0 ?_
  simp only [List.getElem_toArray, List.getElem_cons_zero, List.getElem_cons_succ, Act.put, List.setIfInBounds_toArray, List.set_cons_zero, List.set_cons_succ]
  refine wpAnyH_take (i := 18) rfl (by kernel_rfl) (by kernel_rfl) (by kernel_rfl) (fun _ _ _ h => h) (yieldsIf_load_mid (by rfl) 27 _ (by rfl) w2.heap.size 0 (by rfl) ts _ (fun w' hw' => Row8.below (unhide R_t) hw') Try.underlying27 (by rfl) (unhide I_t)) hS0 ?_
  simp only [List.getElem_toArray, List.getElem_cons_zero, List.getElem_cons_succ, Act.put, List.setIfInBounds_toArray, List.set_cons_zero, List.set_cons_succ]
  refine wpAnyH_take (i := 20) rfl (by kernel_rfl) (by kernel_rfl) (by kernel_rfl) (fun _ _ _ h => h) (yieldsIf_load_mid (by rfl) 27 _ (by rfl) w.heap.size 0 (by rfl) cs _ (fun w' hw' => Row8.below (unhide R_a) hw') Try.underlying27 (by rfl) (unhide I_a)) hS0 ?_
  simp only [List.getElem_toArray, List.getElem_cons_zero, List.getElem_cons_succ, Act.put, List.setIfInBounds_toArray, List.set_cons_zero, List.set_cons_succ]
  refine wpAnyH_take (i := 21) rfl (by kernel_rfl) (by kernel_rfl) (by kernel_rfl) (fun _ _ _ h => h) (yieldsIf_load_mid (by rfl) 27 _ (by rfl) w2.heap.size 0 (by rfl) ts _ (fun w' hw' => Row8.below (unhide R_t) hw') Try.underlying27 (by rfl) (unhide I_t)) hS0 ?_
  simp only [List.getElem_toArray, List.getElem_cons_zero, List.getElem_cons_succ, Act.put, List.setIfInBounds_toArray, List.set_cons_zero, List.set_cons_succ]
  refine rgn.one (i := 19) _ rfl (by kernel_rfl) (by rfl) ?_
  simp only [List.getElem_toArray, List.getElem_cons_zero, List.getElem_cons_succ, Act.put, List.setIfInBounds_toArray, List.set_cons_zero, List.set_cons_succ]
  go_wp2_with fail
  refine (equal_ok v (turnV v) hsv hst cs ts _ (VlC.below hS0 _ _ (unhide V_a)) (VlC.below hS0 _ _ (unhide V_t))).mono ?_
  rintro e y22 ⟨rfl, g⟩
  generalize hs : (ordV v (turnV v) == 0) = s at *
  have HS := hide hs
  clear hs
  have hS0 : Gb X y22 := hS0.trans (g.mono hS0.size)
  clear g
  refine ⟨hS0, ?_⟩
  refine rgn.one (i := 22) _ rfl (by kernel_rfl) (by rfl) ?_
  simp only [List.getElem_toArray, List.getElem_cons_zero, List.getElem_cons_succ, Act.put, List.setIfInBounds_toArray, List.set_cons_zero, List.set_cons_succ]
  go_wp2_with fail
  refine (req_ok v hsv (turnV v) hst cs ts _ (VlC.below hS0 _ _ (unhide V_a)) (VlC.below hS0 _ _ (unhide V_t))).mono ?_
  rintro e y23 ⟨rfl, g⟩
  rw [unhide HS]
  have hS0 : Gb X y23 := hS0.trans (g.mono hS0.size)
  clear g
  refine ⟨hS0, ?_⟩
  refine rgn.take (i := 23) _ (.bool true) rfl (by kernel_rfl) (by kernel_rfl) (by kernel_rfl) (fun _ _ _ h => h) (by rfl) hS0 (fun w' hw' => by clear hw'; cases s <;> go_simp) ?_
  simp only [List.getElem_toArray, List.getElem_cons_zero, List.getElem_cons_succ, Act.put, List.setIfInBounds_toArray, List.set_cons_zero, List.set_cons_succ]
  refine rgn.take (i := 24) _ (.bool true) rfl (by kernel_rfl) (by kernel_rfl) (by kernel_rfl) (fun _ _ _ h => h) (by rfl) hS0 (fun w' hw' => by clear hw'; go_simp) ?_
  simp only [List.getElem_toArray, List.getElem_cons_zero, List.getElem_cons_succ, Act.put, List.setIfInBounds_toArray, List.set_cons_zero, List.set_cons_succ]
  refine rgn.take (i := 25) _ (.bool true) rfl (by kernel_rfl) (by kernel_rfl) (by kernel_rfl) (fun _ _ _ h => h) (by rfl) hS0 (fun w' hw' => by clear hw'; go_simp) ?_
  simp only [List.getElem_toArray, List.getElem_cons_zero, List.getElem_cons_succ, Act.put, List.setIfInBounds_toArray, List.set_cons_zero, List.set_cons_succ]
  refine wpAnyH_take (i := 26) rfl (by kernel_rfl) (by kernel_rfl) (by kernel_rfl) (fun _ _ _ h => h) (yieldsIf_load_mid (by rfl) 27 _ (by rfl) w.heap.size 0 (by rfl) cs _ (fun w' hw' => Row8.below (unhide R_a) hw') Try.underlying27 (by rfl) (unhide I_a)) hS0 ?_
  simp only [List.getElem_toArray, List.getElem_cons_zero, List.getElem_cons_succ, Act.put, List.setIfInBounds_toArray, List.set_cons_zero, List.set_cons_succ]
  refine wpAnyH_take (i := 27) rfl (by kernel_rfl) (by kernel_rfl) (by kernel_rfl) (fun _ _ _ h => h) (yieldsIf_load_mid (by rfl) 27 _ (by rfl) w.heap.size 0 (by rfl) cs _ (fun w' hw' => Row8.below (unhide R_a) hw') Try.underlying27 (by rfl) (unhide I_a)) hS0 ?_
  simp only [List.getElem_toArray, List.getElem_cons_zero, List.getElem_cons_succ, Act.put, List.setIfInBounds_toArray, List.set_cons_zero, List.set_cons_succ]
  refine rgn.one (i := 28) _ rfl (by kernel_rfl) (by rfl) ?_
  simp only [List.getElem_toArray, List.getElem_cons_zero, List.getElem_cons_succ, Act.put, List.setIfInBounds_toArray, List.set_cons_zero, List.set_cons_succ]
  go_wp2_with fail
  refine (equal_ok v v hsv hsv cs cs _ (VlC.below hS0 _ _ (unhide V_a)) (VlC.below hS0 _ _ (unhide V_a))).mono ?_
  rintro e y29 ⟨rfl, g⟩
  rw [show (ordV v v == 0) = true by rw [ordV_self]; rfl]
  have hS0 : Gb X y29 := hS0.trans (g.mono hS0.size)
  clear g
  refine ⟨hS0, ?_⟩
  refine rgn.take (i := 29) _ (.bool true) rfl (by kernel_rfl) (by kernel_rfl) (by kernel_rfl) (fun _ _ _ h => h) (by rfl) hS0 (fun w' hw' => by clear hw'; go_simp) ?_
  simp only [List.getElem_toArray, List.getElem_cons_zero, List.getElem_cons_succ, Act.put, List.setIfInBounds_toArray, List.set_cons_zero, List.set_cons_succ]
  refine rgn.take (i := 30) _ (.bool true) rfl (by kernel_rfl) (by kernel_rfl) (by kernel_rfl) (fun _ _ _ h => h) (by rfl) hS0 (fun w' hw' => by clear hw'; go_simp) ?_
  simp only [List.getElem_toArray, List.getElem_cons_zero, List.getElem_cons_succ, Act.put, List.setIfInBounds_toArray, List.set_cons_zero, List.set_cons_succ]
  refine wpAnyH_take (i := 31) rfl (by kernel_rfl) (by kernel_rfl) (by kernel_rfl) (fun _ _ _ h => h) (yieldsIf_load_mid (by rfl) 27 _ (by rfl) (w.heap.size + 1) 0 (by rfl) xs _ (fun w' hw' => Row8.below (unhide R_b) hw') Try.underlying27 (by rfl) (unhide I_b)) hS0 ?_
  simp only [List.getElem_toArray, List.getElem_cons_zero, List.getElem_cons_succ, Act.put, List.setIfInBounds_toArray, List.set_cons_zero, List.set_cons_succ]
  refine wpAnyH_take (i := 32) rfl (by kernel_rfl) (by kernel_rfl) (by kernel_rfl) (fun _ _ _ h => h) (yieldsIf_load_mid (by rfl) 27 _ (by rfl) (w.heap.size + 1) 0 (by rfl) xs _ (fun w' hw' => Row8.below (unhide R_b) hw') Try.underlying27 (by rfl) (unhide I_b)) hS0 ?_
  simp only [List.getElem_toArray, List.getElem_cons_zero, List.getElem_cons_succ, Act.put, List.setIfInBounds_toArray, List.set_cons_zero, List.set_cons_succ]
  refine rgn.one (i := 33) _ rfl (by kernel_rfl) (by rfl) ?_
  simp only [List.getElem_toArray, List.getElem_cons_zero, List.getElem_cons_succ, Act.put, List.setIfInBounds_toArray, List.set_cons_zero, List.set_cons_succ]
  go_wp2_with fail
  refine (same_okB x x hsx hsx xs xs _ (VlC.below hS0 _ _ (unhide V_b)) (VlC.below hS0 _ _ (unhide V_b))).mono ?_
  rintro e y34 ⟨rfl, g, e1, e2⟩
  rw [smB_pm hsx hsx (Pm.refl x) e1 e2]
  clear e1 e2
  have hS0 : Gb X y34 := hS0.trans (g.mono hS0.size)
  clear g
  refine ⟨hS0, ?_⟩
  refine rgn.take (i := 34) _ (.bool true) rfl (by kernel_rfl) (by kernel_rfl) (by kernel_rfl) (fun _ _ _ h => h) (by rfl) hS0 (fun w' hw' => by clear hw'; go_simp) ?_
  simp only [List.getElem_toArray, List.getElem_cons_zero, List.getElem_cons_succ, Act.put, List.setIfInBounds_toArray, List.set_cons_zero, List.set_cons_succ]
  refine rgn.take (i := 35) _ (.bool true) rfl (by kernel_rfl) (by kernel_rfl) (by kernel_rfl) (fun _ _ _ h => h) (by rfl) hS0 (fun w' hw' => by clear hw'; go_simp) ?_
  simp only [List.getElem_toArray, List.getElem_cons_zero, List.getElem_cons_succ, Act.put, List.setIfInBounds_toArray, List.set_cons_zero, List.set_cons_succ]
  refine wpAnyH_done (by kernel_rfl) ?_ _; refine NoPanic.normal ?_
  have G := BW.trans (Below.mono hS0 BW.size)
  go_wp2
  go_ret
  exact ⟨rfl, G⟩
end Go.Proofs.Ytiblkdedbimggaa.og
