import Derived.Test.YtjlafneklcfgoabVlR2
namespace Go.Proofs.Ytjlafneklcfgoab.vl
open Go.ChangeShapes Go.WideShapes Go.ChangeAt Go.RowKit
open stp (St Pth St3)
set_option linter.unusedVariables false
set_option linter.unusedSimpArgs false
theorem allocV (w : World) : (Instr.alloc 27 true (.tuple #[])).run Try.prog w = .ok (.pointer (some ⟨w.heap.size, 0, none⟩)) (w.alloc (.cells #[.int .i64 0, .bool false, .int .i64 0, .float .f64 0, .string { data := #[] }, .string { data := #[] }, .slice none 0 0, .slice none 0 0] 27)) := by go_simp
theorem wpO_alloc {P : Program} {o : Oper} {a : Act} {w w' : World} {K : Act → World → Prop} {Q : Exit → Act → World → Prop} (t : TypeId) (ho : o.op = .alloc t) (v : Value) (hr : (Instr.alloc t true (.tuple #[])).run P w = .ok v w') (h : K (a.put o.dst v) w') : o.wp P a w K Q := by
  unfold Oper.wp execOp
  simp only [ho, Sem.run_bind, hr, Result.andThen_ok, Sem.run_pure]
  exact h
set_option maxHeartbeats 6000000 in
set_option maxRecDepth 6000 in
theorem rset_cons (s : St) (r : List St) (ih : RSetAt r) : RSetAt (s :: r) := by
  intro v x cs xs w ap n c hv hx hsv hsx hp hnc hac hcb
  have hlen := hp.len
  obtain ⟨m, rfl⟩ : ∃ m, n = m + 1 := ⟨r.length, by simpa using hlen.symm⟩
  obtain ⟨bp, offp, rfl, hbp, hst⟩ : ∃ bp off, ap = some ⟨bp, off, none⟩ ∧ bp < w.heap.size ∧ ∀ i, i < m + 1 → ∃ t, (s :: r)[i]? = some t ∧ St3 w bp (off + i * 3) t.nm t.ix t.it := by
    rcases hp.at_ with h | h
    · omega
    · exact h
  have h3 : St3 w bp offp s.nm s.ix s.it := by
    obtain ⟨t, ht, h⟩ := hst 0 (by omega)
    simp at ht
    rw [ht]
    simpa using h
  have hpr : Pth w (some ⟨bp, offp + 3, none⟩) m r := by
    refine ⟨by simpa using hlen, ?_⟩
    by_cases h0 : m = 0
    · exact .inl h0
    · refine .inr ⟨bp, offp + 3, rfl, hbp, fun i hi => ?_⟩
      obtain ⟨t, ht, h⟩ := hst (i + 1) (by omega)
      exact ⟨t, by simpa using ht, by rw [show offp + 3 + i * 3 = offp + (i + 1) * 3 by omega]; exact h⟩
  obtain ⟨ar, har⟩ : ∃ ar : Option Addr, ar = if c = 1 then some ⟨bp, offp, none⟩ else some ⟨bp, offp + 3, none⟩ := ⟨_, rfl⟩
  have hpa : Pth w ar m r := by
    by_cases h1 : c = 1
    · have h0 : m = 0 := by omega
      exact ⟨hpr.len, .inl h0⟩
    · rw [har, if_neg h1]; exact hpr
  have har0 : ar = none → c - 1 = 0 := fun h => by
    rw [har] at h
    by_cases h1 : c = 1
    · omega
    · rw [if_neg h1] at h; cases h
  have Har := hide har
  have Hpa := hide hpa
  have Har0 := hide har0
  clear har hpa har0
  obtain ⟨W, eW⟩ : ∃ W, W = (((w.alloc (.cells cs.toArray 27)).alloc (.cells xs.toArray 27)).alloc (.cells #[.int .i64 0, .bool false, .int .i64 0, .float .f64 0, .string { data := #[] }, .string { data := #[] }, .slice none 0 0, .slice none 0 0] 27)) := ⟨_, rfl⟩
  have bW : Below w.heap.size w W := by rw [eW]; exact (((Below.refl _ _).alloc (Nat.le_refl _) _).alloc (by simp) _).alloc (by simp; omega) _
  have hsz : w.heap.size + 3 ≤ W.heap.size := by rw [eW]; simp
  have hrow : W.rangeAt w.heap.size 0 cs := fun j u hu => by
    rw [Nat.zero_add, eW, World.cell?_alloc_past _ _ _ (by simp; omega), World.cell?_alloc_past _ _ _ (by simp), World.cell?_alloc_at _ _ _ _ rfl]; simpa using hu
  have hrox : W.rangeAt (w.heap.size + 1) 0 xs := fun j u hu => by
    rw [Nat.zero_add, eW, World.cell?_alloc_past _ _ _ (by simp), World.cell?_alloc_at _ _ _ _ (by simp)]; simpa using hu
  have hth : W.there (w.heap.size + 2) 0 8 := by
    rw [eW]
    have h := there_new (w := (w.alloc (.cells cs.toArray 27)).alloc (.cells xs.toArray 27)) (Z := #[.int .i64 0, .bool false, .int .i64 0, .float .f64 0, .string { data := #[] }, .string { data := #[] }, .slice none 0 0, .slice none 0 0]) (t := 27) (n := 8) rfl
    simpa using h
  have iC : (Try.prog.info? 27).map (·.size) = some cs.length := by rw [hv.cells]; exact infoV
  have iX : (Try.prog.info? 27).map (·.size) = some xs.length := by rw [hx.cells]; exact infoV
  have h3W := h3.below hbp bW
  have EW := hide eW
  have HH := hide (And.intro hrow (And.intro hrox (And.intro hth (And.intro iC (And.intro iX (And.intro hv (And.intro hx (And.intro hpr h3W))))))))
  have bn : m + 1 ≤ 4611686018427387903 := by omega
  have hbW : bp < W.heap.size := by omega
  clear eW hrow hrox hth iC iX hst hv hx hp hpr h3 h3W hlen hac
  go_enter Try.func14, Try.ntmps14
  go_wp2_with fail
  rw [← unhide EW]
  clear EW
  obtain ⟨nm, ix, it⟩ := s
  have hS0 : Below W.heap.size W { W with drawn := W.drawn + 1 } := (Below.refl _ _).drew
  have off0 : offp + 0 * 3 = offp := by omega
  refine wp_region_noPanic ?_
  refine wp_region_held (S := fun w' => Below W.heap.size W w') mixed ?_
  refine wpAnyH_take (i := 0) rfl (by kernel_rfl) (by kernel_rfl) (by kernel_rfl) (fun _ _ _ h => h) (yieldsIf_load_mid (by rfl) 27 _ (by rfl) w.heap.size 0 (by rfl) cs _ (fun w' hw' => Row8.below (unhide HH).1 hw') Try.underlying27 (by rfl) (unhide HH).2.2.2.1) hS0 ?_
  simp only [List.getElem_toArray, List.getElem_cons_zero, List.getElem_cons_succ, Act.put, List.setIfInBounds_toArray, List.set_cons_zero, List.set_cons_succ]
  refine wpAnyH_take (i := 1) (v := ?v1) rfl (by kernel_rfl) (by kernel_rfl) (by kernel_rfl) (fun _ _ _ h => h) (Or.inl ⟨by rfl, ?hy1⟩) hS0 ?_
  case hy1 => (intro w' hw'; obtain ⟨q0, q1, q2⟩ := (unhide HH).2.2.2.2.2.2.2.2.below hbW hw'; go_simp; try with_reducible rfl)
  simp only [List.getElem_toArray, List.getElem_cons_zero, List.getElem_cons_succ, Act.put, List.setIfInBounds_toArray, List.set_cons_zero, List.set_cons_succ]
  refine wpAnyH_take (i := 2) (v := ?v2) rfl (by kernel_rfl) (by kernel_rfl) (by kernel_rfl) (fun _ _ _ h => h) (Or.inl ⟨by rfl, ?hy2⟩) hS0 ?_
  case hy2 => (intro w' hw'; obtain ⟨q0, q1, q2⟩ := (unhide HH).2.2.2.2.2.2.2.2.below hbW hw'; go_simp; try with_reducible rfl)
  simp only [List.getElem_toArray, List.getElem_cons_zero, List.getElem_cons_succ, Act.put, List.setIfInBounds_toArray, List.set_cons_zero, List.set_cons_succ]
  refine wpAnyH_take (i := 3) (v := ?v3) rfl (by kernel_rfl) (by kernel_rfl) (by kernel_rfl) (fun _ _ _ h => h) (Or.inl ⟨by rfl, ?hy3⟩) hS0 ?_
  case hy3 => (intro w' hw'; obtain ⟨q0, q1, q2⟩ := (unhide HH).2.2.2.2.2.2.2.2.below hbW hw'; go_simp; try with_reducible rfl)
  simp only [List.getElem_toArray, List.getElem_cons_zero, List.getElem_cons_succ, Act.put, List.setIfInBounds_toArray, List.set_cons_zero, List.set_cons_succ]
  refine rgn.one (i := 4) _ rfl (by kernel_rfl) (by rfl) ?_
  simp only [List.getElem_toArray, List.getElem_cons_zero, List.getElem_cons_succ, Act.put, List.setIfInBounds_toArray, List.set_cons_zero, List.set_cons_succ]
  go_wp2_with fail
  obtain ⟨hrow, hrox, hth, iC, iX, hv, hx, hpr, h3⟩ := unhide HH
  clear HH
  refine (find_ok v cs ⟨nm, ix, it⟩ _ (VlC.below (bW.trans (hS0.mono bW.size)) v cs hv)).mono ?_
  rintro e w1 ⟨b1, rfl⟩
  have hS0 : Below W.heap.size W w1 := hS0.trans b1
  have bb1 : Below w.heap.size w w1 := bW.trans (hS0.mono bW.size)
  have hs1 := hS0.size
  refine ⟨hS0, ?_⟩
  cases hc : chI v ⟨nm, ix, it⟩ with
  | none =>
    have hno : getP v (⟨nm, ix, it⟩ :: r) = none := by simp only [getP, getS_none hc]; rfl
    have HT := hide (there_below hth hS0 (by omega))
    have Hno := hide hno
    clear hrow hrox hth iC iX hv hx hpr h3 hc hno b1
    refine wpAnyH_take (i := 5) (v := ?v4) rfl (by kernel_rfl) (by kernel_rfl) (by kernel_rfl) (fun _ _ _ h => h) (Or.inl ⟨by rfl, ?hy4⟩) hS0 ?_
    case hy4 => (intro w' hw';  go_simp; try with_reducible rfl)
    simp only [List.getElem_toArray, List.getElem_cons_zero, List.getElem_cons_succ, Act.put, List.setIfInBounds_toArray, List.set_cons_zero, List.set_cons_succ]
    refine wpAnyH_done (by kernel_rfl) ?_ _; refine NoPanic.normal ?_
    go_wp2_with (first
      | refine wpList_store_mid (by rfl) 27 _ _ (by rfl) (w.heap.size + 1 + 1) 0 z8.toArray (by rfl) (by rfl) (unhide HT) z8i z8o ?_)
    have hr4 : (w1.setCells (w.heap.size + 1 + 1) 0 z8).rangeAt (w.heap.size + 1 + 1) 0 z8 := World.rangeAt_setCells_same _ _ _ _ (unhide HT)
    refine bodyPost_ret (rgn.result_row_tmp rfl _ _ (w.heap.size + 1 + 1) 0 z8 _ rfl hr4 Try.underlying27 rfl z8i) rfl ?_
    exact ⟨below_setCells _ _ _ _ bb1 (by omega), false, z0, z8, rfl, FrC.of (OwC.zero _) (by simp), by simp; exact unhide Hno⟩
  | some i =>
    have hneg : decide (((i : Nat) : Int) < 0) = false := by simp
    have HR := hide (show w1.rangeAt w.heap.size 0 cs from Row8.below hrow hS0)
    have HiC := hide iC
    have HV := hide hv
    have hrox1 := hide (Row8.below hrox hS0)
    have hth1 := hide (there_below hth hS0 (by omega))
    have h31 := hide (h3.below hbW hS0)
    have hiX := hide iX
    have HX := hide hx
    have Hpr := hide hpr
    have Hc := hide hc
    clear hrow hrox hth iC iX hv hx hpr h3 hc b1
    refine wpAnyH_take (i := 5) (v := ?v5) rfl (by kernel_rfl) (by kernel_rfl) (by kernel_rfl) (fun _ _ _ h => h) (Or.inl ⟨by rfl, ?hy5⟩) hS0 ?_
    case hy5 => (intro w' hw';  go_simp; try with_reducible rfl)
    simp only [List.getElem_toArray, List.getElem_cons_zero, List.getElem_cons_succ, Act.put, List.setIfInBounds_toArray, List.set_cons_zero, List.set_cons_succ]
    refine wpAnyH_done (by kernel_rfl) ?_ _; refine NoPanic.normal ?_
    go_wp2_with (first
      | refine wpList_load_mid (by rfl) 27 _ (by rfl) w.heap.size 0 (by rfl) cs _ (unhide HR) Try.underlying27 (by rfl) (unhide HiC) ?_)
    refine (rcopy_ok v hsv cs w1 (VlC.below bb1 v cs (unhide HV))).mono ?_
    rintro e w2 ⟨ds, F, rfl, hO2, hnd, hF, b2, z2⟩
    obtain ⟨V, eV⟩ : ∃ V, V = (w2.alloc (.cells #[.int .i64 0, .bool false, .int .i64 0, .float .f64 0, .string { data := #[] }, .string { data := #[] }, .slice none 0 0, .slice none 0 0] 27)).setCells w2.heap.size 0 ds := ⟨_, rfl⟩
    have d8 := (OwC.read v ds F hO2).cells
    have d1 := (OwC.read v ds F hO2).one
    have th : (w2.alloc (.cells #[.int .i64 0, .bool false, .int .i64 0, .float .f64 0, .string { data := #[] }, .string { data := #[] }, .slice none 0 0, .slice none 0 0] 27)).there w2.heap.size 0 ds.toArray.size := there_new (by simp [d8])
    have bV : Below w2.heap.size w2 V := by rw [eV]; exact below_setCells _ _ _ _ ((Below.refl _ _).alloc (Nat.le_refl _) _) (Nat.le_refl _)
    have hrV : V.rangeAt w2.heap.size 0 ds := by rw [eV]; exact World.rangeAt_setCells_same _ _ _ _ (by simpa using th)
    have sV : w2.heap.size + 1 ≤ V.heap.size := by rw [eV, size_setCells]; simp
    have i8 : (Try.prog.info? 27).map (·.size) = some ds.toArray.size := by simp [d8, infoV]
    have A := hide (And.intro th (And.intro i8 eV))
    have s2 := b2.size
    have OV : OwC V v ds F := OwC.agree v ds F (Agree.of_below bV (fun b hb => (hF b hb).2)) hO2
    have zV := z2.below bV (fun b hb => (hF b hb).2)
    have bbV : Below w1.heap.size w1 V := b2.trans (bV.mono b2.size)
    obtain ⟨q0, q1, q2⟩ := (unhide h31).below (by omega) bbV
    have B := hide (And.intro OV (And.intro zV (And.intro hrV (And.intro hnd (And.intro hF d8)))))
    clear th i8 eV hO2 OV zV hrV hnd hF d8 z2 b2 bV hneg HR HiC
    cases it with
    | true =>
      go_wp2_with (first
        | (refine wpList_store_mid (by rfl) 27 _ _ (by rfl) w2.heap.size 0 ds.toArray (by rfl) (by rfl) (unhide A).1 (unhide A).2.1 d1 ?_; rw [show (w2.alloc (.cells #[.int .i64 0, .bool false, .int .i64 0, .float .f64 0, .string { data := #[] }, .string { data := #[] }, .slice none 0 0, .slice none 0 0] 27)).setCells w2.heap.size 0 ds.toArray.toList = V from (unhide A).2.2.symm]))
      obtain ⟨OV, zV, hrV, hnd, hF, d8⟩ := unhide B
      have hc := unhide Hc
      have hs2 := bbV.size
      obtain ⟨p, off, us, u', hloc, hrc, hvc, hgS, nI, cI, x6, ii⟩ : ∃ p off us u', Loc ds ⟨nm, ix, true⟩ i p (off + i * 8) ∧ Row8 V p (off + i * 8) us ∧ VlC V u' us ∧ getS v ⟨nm, ix, true⟩ = some u' ∧ ∃ (nI cI : Nat), V.cell? ⟨w2.heap.size, 6, none⟩ = some (.slice (some ⟨p, off, none⟩) nI cI) ∧ ((i : Nat) : Int) < (nI : Int) := by
        have hrd := OwC.read v ds F OV
        have hrd' := hrd
        obtain ⟨kd, bb, ni, f, tx, ty, its, fls⟩ := v
        have hc' := hc
        rw [chI_mk, if_pos rfl] at hc'
        by_cases hcc : kd = 5 ∧ 0 ≤ ix ∧ ix < its.list.length
        · rw [if_pos hcc] at hc'
          unfold VlC at hrd
          obtain ⟨ai, nI, ci, af, nf, cf, rfl, hI, -⟩ := hrd
          have hlen := VlsAt.len its _ _ hI
          have hi : ix.toNat = i := Option.some.inj hc'
          have hcc : kd = 5 ∧ 0 ≤ ix ∧ ix < its.list.length := hcc
          obtain ⟨p, off, _, _, rfl, _, _, _⟩ := VlsAt.get its _ nI hI i (by omega)
          have hloc : Loc [.int .i64 kd, .bool bb, .int .i64 ni, .float .f64 f, .string tx, .string ty, .slice (some ⟨p, off, none⟩) nI ci, .slice af nf cf] ⟨nm, ix, true⟩ i p (off + i * 8) := ⟨p, off, nI, ci, by simp⟩
          obtain ⟨u', us, g1, g2, g3⟩ := hrd'.child hc hloc
          exact ⟨p, off, us, u', hloc, g2, g3, g1, nI, ci, hrV 6 _ rfl, by omega⟩
        · rw [if_neg hcc] at hc'
          cases hc'
      have iu : (Try.prog.info? 27).map (·.size) = some us.length := by rw [hvc.cells]; exact infoV
      have roxV := Row8.below (unhide hrox1) bbV
      have hb2 : w2.heap.size < V.heap.size := by omega
      have hm1 : (m : Int) + 1 ≤ (c : Int) := by omega
      have hS0 : Below V.heap.size V { V with drawn := V.drawn + 1 } := (Below.refl _ _).drew
      refine wp_region_noPanic ?_
      refine wp_region_held (S := fun w' => Below V.heap.size V w') mixed ?_
      refine wpAnyH_take (i := 0) (v := ?v6) rfl (by kernel_rfl) (by kernel_rfl) (by kernel_rfl) (fun _ _ _ h => h) (Or.inl ⟨by rfl, ?hy6⟩) hS0 ?_
      case hy6 => (intro w' hw'; have c6 := keepC hw' hb2 x6; go_simp; try with_reducible rfl)
      simp only [List.getElem_toArray, List.getElem_cons_zero, List.getElem_cons_succ, Act.put, List.setIfInBounds_toArray, List.set_cons_zero, List.set_cons_succ]
      refine wpAnyH_take (i := 1) (v := ?v7) rfl (by kernel_rfl) (by kernel_rfl) (by kernel_rfl) (fun _ _ _ h => h) (Or.inl ⟨by rfl, ?hy7⟩) hS0 ?_
      case hy7 => (intro w' hw'; have c6 := keepC hw' hb2 x6; go_simp; try with_reducible rfl)
      simp only [List.getElem_toArray, List.getElem_cons_zero, List.getElem_cons_succ, Act.put, List.setIfInBounds_toArray, List.set_cons_zero, List.set_cons_succ]
      refine wpAnyH_take (i := 2) (v := ?v8) rfl (by kernel_rfl) (by kernel_rfl) (by kernel_rfl) (fun _ _ _ h => h) (Or.inl ⟨by rfl, ?hy8⟩) hS0 ?_
      case hy8 => (intro w' hw'; have c6 := keepC hw' hb2 x6; go_simp; try with_reducible rfl)
      simp only [List.getElem_toArray, List.getElem_cons_zero, List.getElem_cons_succ, Act.put, List.setIfInBounds_toArray, List.set_cons_zero, List.set_cons_succ]
      refine wpAnyH_take (i := 3) (v := ?v9) rfl (by kernel_rfl) (by kernel_rfl) (by kernel_rfl) (fun _ _ _ h => h) (Or.inl ⟨by rfl, ?hy9⟩) hS0 ?_
      case hy9 => (intro w' hw'; have c6 := keepC hw' hb2 x6; go_simp; try with_reducible rfl)
      simp only [List.getElem_toArray, List.getElem_cons_zero, List.getElem_cons_succ, Act.put, List.setIfInBounds_toArray, List.set_cons_zero, List.set_cons_succ]
      refine wpAnyH_take (i := 4) rfl (by kernel_rfl) (by kernel_rfl) (by kernel_rfl) (fun _ _ _ h => h) (yieldsIf_load_mid (by rfl) 27 _ (by rfl) p (off + i * 8) (by rfl) us _ (fun w' hw' => Row8.below hrc hw') Try.underlying27 (by rfl) iu) hS0 ?_
      simp only [List.getElem_toArray, List.getElem_cons_zero, List.getElem_cons_succ, Act.put, List.setIfInBounds_toArray, List.set_cons_zero, List.set_cons_succ]
      refine wpAnyH_take (i := 5) (v := ?v10) rfl (by kernel_rfl) (by kernel_rfl) (by kernel_rfl) (fun _ _ _ h => h) (Or.inl ⟨by rfl, ?hy10⟩) hS0 ?_
      case hy10 => (intro w' hw';  go_simp; try with_reducible rfl)
      simp only [List.getElem_toArray, List.getElem_cons_zero, List.getElem_cons_succ, Act.put, List.setIfInBounds_toArray, List.set_cons_zero, List.set_cons_succ]
      refine rgn.take (i := 6) _ (.slice ar m (c - 1)) rfl (by kernel_rfl) (by kernel_rfl) (by kernel_rfl) (fun _ _ _ h => h) (by rfl) hS0 (fun w' hw' => by
        have h1m : (1 : Int) ≤ (m : Int) + 1 := by omega
        rw [unhide Har]
        go_simp) ?_
      simp only [List.getElem_toArray, List.getElem_cons_zero, List.getElem_cons_succ, Act.put, List.setIfInBounds_toArray, List.set_cons_zero, List.set_cons_succ]
      refine wpAnyH_take (i := 7) rfl (by kernel_rfl) (by kernel_rfl) (by kernel_rfl) (fun _ _ _ h => h) (yieldsIf_load_mid (by rfl) 27 _ (by rfl) (w.heap.size + 1) 0 (by rfl) xs _ (fun w' hw' => Row8.below roxV hw') Try.underlying27 (by rfl) (unhide hiX)) hS0 ?_
      simp only [List.getElem_toArray, List.getElem_cons_zero, List.getElem_cons_succ, Act.put, List.setIfInBounds_toArray, List.set_cons_zero, List.set_cons_succ]
      have bwV : Below w.heap.size w V := bb1.trans (bbV.mono bb1.size)
      have hd : Below V.heap.size V V.drew := (Below.refl _ _).drew
      refine rgn.two (i := 8) (j := 12) _ _ rfl rfl (by kernel_rfl) (by rfl) (by rfl) ?_ ?_
      · simp only [List.getElem_toArray, List.getElem_cons_zero, List.getElem_cons_succ, Act.put, List.setIfInBounds_toArray, List.set_cons_zero, List.set_cons_succ]
        go_wp2_with fail
        refine (ih u' x us xs V.drew ar m (c - 1) (VlC.below hd u' us hvc) (VlC.below (bwV.trans (hd.mono bwV.size)) x xs (unhide HX)) (hsv.getS hgS) hsx ((unhide Hpa).below (bwV.trans (hd.mono bwV.size))) (by omega) (unhide Har0) (by omega)).mono ?_
        rintro e w3 ⟨b3, ok, u2, es, rfl, hfr, hif⟩
        have e8 := hfr.read.cells
        have e1 := hfr.read.one
        have ie : (Try.prog.info? 27).map (·.size) = some es.toArray.size := by simp [e8, infoV]
        have hS1 : Below V.heap.size V w3 := hd.trans (b3.mono (hd.size))
        have s3 := b3.size
        have hS0 := hS1
        refine ⟨hS0, ?_⟩
        refine wpAnyH_take (i := 9) (v := ?v11) rfl (by kernel_rfl) (by kernel_rfl) (by kernel_rfl) (fun _ _ _ h => h) (Or.inl ⟨by rfl, ?hy11⟩) hS0 ?_
        case hy11 => (intro w' hw';  go_simp; try with_reducible rfl)
        simp only [List.getElem_toArray, List.getElem_cons_zero, List.getElem_cons_succ, Act.put, List.setIfInBounds_toArray, List.set_cons_zero, List.set_cons_succ]
        refine wpAnyH_take (i := 10) (v := ?v12) rfl (by kernel_rfl) (by kernel_rfl) (by kernel_rfl) (fun _ _ _ h => h) (Or.inl ⟨by rfl, ?hy12⟩) hS0 ?_
        case hy12 => (intro w' hw';  go_simp; try with_reducible rfl)
        simp only [List.getElem_toArray, List.getElem_cons_zero, List.getElem_cons_succ, Act.put, List.setIfInBounds_toArray, List.set_cons_zero, List.set_cons_succ]
        refine wpAnyH_take (i := 11) (v := ?v13) rfl (by kernel_rfl) (by kernel_rfl) (by kernel_rfl) (fun _ _ _ h => h) (Or.inl ⟨by rfl, ?hy13⟩) hS0 ?_
        case hy13 => (intro w' hw';  go_simp; try with_reducible rfl)
        simp only [List.getElem_toArray, List.getElem_cons_zero, List.getElem_cons_succ, Act.put, List.setIfInBounds_toArray, List.set_cons_zero, List.set_cons_succ]
        refine rgn.one (i := 12) _ rfl (by kernel_rfl) (by rfl) ?_
        simp only [List.getElem_toArray, List.getElem_cons_zero, List.getElem_cons_succ, Act.put, List.setIfInBounds_toArray, List.set_cons_zero, List.set_cons_succ]
        refine wpO_alloc 27 (by rfl) _ (allocV _) ?_
        have hS0 : Below V.heap.size V (w3.alloc (.cells #[.int .i64 0, .bool false, .int .i64 0, .float .f64 0, .string { data := #[] }, .string { data := #[] }, .slice none 0 0, .slice none 0 0] 27)) := hS1.alloc hS1.size _
        refine ⟨hS0, ?_⟩
        simp only [List.getElem_toArray, List.getElem_cons_zero, List.getElem_cons_succ, Act.put, List.setIfInBounds_toArray, List.set_cons_zero, List.set_cons_succ]
        refine rgn.one (i := 13) _ rfl (by kernel_rfl) (by rfl) ?_
        simp only [List.getElem_toArray, List.getElem_cons_zero, List.getElem_cons_succ, Act.put, List.setIfInBounds_toArray, List.set_cons_zero, List.set_cons_succ]
        have thx : (w3.alloc (.cells #[.int .i64 0, .bool false, .int .i64 0, .float .f64 0, .string { data := #[] }, .string { data := #[] }, .slice none 0 0, .slice none 0 0] 27)).there w3.heap.size 0 es.toArray.size := there_new (by simp [e8])
        refine wp_store_mid 27 _ _ (by rfl) w3.heap.size 0 es.toArray (by rfl) (by rfl) thx ie e1 ?_
        obtain ⟨W5, e5⟩ : ∃ W5, W5 = (w3.alloc (.cells #[.int .i64 0, .bool false, .int .i64 0, .float .f64 0, .string { data := #[] }, .string { data := #[] }, .slice none 0 0, .slice none 0 0] 27)).setCells w3.heap.size 0 es := ⟨_, rfl⟩
        have b5 : Below w3.heap.size w3 W5 := by rw [e5]; exact below_setCells _ _ _ _ ((Below.refl _ _).alloc (Nat.le_refl _) _) (Nat.le_refl _)
        have t1 : Below V.heap.size V W5 := hS1.trans (b5.mono hS1.size)
        have t2 : W5.rangeAt w3.heap.size 0 es := by rw [e5]; exact World.rangeAt_setCells_same _ _ _ _ thx
        have t3 : FrC V.heap.size W5 u2 es := FrC.below hfr b5
        have t4 : V.heap.size ≤ w3.heap.size := hS1.size
        rw [show (w3.alloc (.cells #[.int .i64 0, .bool false, .int .i64 0, .float .f64 0, .string { data := #[] }, .string { data := #[] }, .slice none 0 0, .slice none 0 0] 27)).setCells w3.heap.size 0 es.toArray.toList = W5 from e5.symm]
        have hS0 := t1
        refine ⟨hS0, ?_⟩
        simp only [List.getElem_toArray, List.getElem_cons_zero, List.getElem_cons_succ, Act.put, List.setIfInBounds_toArray, List.set_cons_zero, List.set_cons_succ]
        refine wpAnyH_take (i := 14) (v := ?v14) rfl (by kernel_rfl) (by kernel_rfl) (by kernel_rfl) (fun _ _ _ h => h) (Or.inl ⟨by rfl, ?hy14⟩) hS0 ?_
        case hy14 => (intro w' hw';  go_simp; try with_reducible rfl)
        simp only [List.getElem_toArray, List.getElem_cons_zero, List.getElem_cons_succ, Act.put, List.setIfInBounds_toArray, List.set_cons_zero, List.set_cons_succ]
        refine wpAnyH_done (by kernel_rfl) ?_ _; refine NoPanic.normal ?_
        clear thx b5 e5 hS1
        generalize w3.heap.size = XB at *
        have hl2 : w.heap.size + 1 + 1 < w1.heap.size := by omega
        have hT5 : W5.there (w.heap.size + 1 + 1) 0 8 := there_below (there_below (unhide hth1) bbV hl2) t1 (by omega)
        have bb5 : Below w.heap.size w W5 := bwV.trans (t1.mono bwV.size)
        have hpF : p ∈ F := OV.locIn hnd hc hloc
        have hpl := hF p hpF
        have hplo : w1.heap.size ≤ p := hpl.1
        have x65 := keepC t1 hb2 x6
        have hu8 := hvc.cells
        have hTp : W5.there p (off + i * 8) es.toArray.size := by
          rw [show es.toArray.size = 8 by simp [e8]]
          exact there_below (fun j hj => ⟨by rw [hrc j _ (List.getElem?_eq_getElem (by omega))]; rfl, zV p hpF _⟩) t1 (by omega)
        have ie' : (Try.prog.info? 27).map (·.size) = some es.length := by rw [e8]; exact infoV
        have id' : (Try.prog.info? 27).map (·.size) = some ds.length := by rw [d8]; exact infoV
        have id : (Try.prog.info? 27).map (·.size) = some ds.toArray.size := by simp [d8, infoV]
        obtain ⟨W6, e6⟩ : ∃ W6, W6 = W5.setCells p (off + i * 8) es := ⟨_, rfl⟩
        have row6 : W6.rangeAt w2.heap.size 0 ds := by
          rw [e6]
          intro j y hy
          rw [World.cell?_setCells_out _ _ _ _ _ (fun e _ => by have e : w2.heap.size = p := e; omega)]
          exact (t1.cell (p := ⟨w2.heap.size, 0 + j, none⟩) hb2).trans (hrV j y hy)
        have th6 : W6.there (w.heap.size + 1 + 1) 0 ds.toArray.size := by rw [show ds.toArray.size = 8 by simp [d8], e6]; exact World.there_setCells hT5 _ _ _
        have fr6 : FrC w1.heap.size W6 (setS v ⟨nm, ix, true⟩ i u2) ds := by
          refine FrC.put OV hnd (fun b hb => ⟨(hF b hb).1, by rw [e6, size_setCells]; have := hF b hb; have := t1.size; omega⟩) hc hloc (fun b hb j hj => ?_) (by rw [e6]; exact World.rangeAt_setCells_same _ _ _ _ hTp) (by rw [e6]; exact FrC.mono (t3.setCells p (off + i * 8) es (by omega)) (by omega))
          rw [e6, World.cell?_setCells_out _ _ _ _ _ (fun e _ => by
            have e : b = p := e
            show j < off + i * 8 ∨ off + i * 8 + es.length ≤ j
            rw [e8]
            rcases hj with hj | hj
            · exact absurd e hj
            · exact hj)]
          exact t1.cell (p := ⟨b, j, none⟩) (by have := hF b hb; show b < V.heap.size; omega)
        have P := hide (And.intro hT5 (And.intro t2 (And.intro hTp (And.intro ie' (And.intro id' (And.intro id (And.intro row6 (And.intro th6 (And.intro fr6 e6)))))))))
        have J := hide (And.intro hif (And.intro hgS hc))
        have IE := hide ie
        clear hT5 t2 hTp ie' id' id row6 th6 fr6 e6 hif hgS hc ie OV zV hrV hnd hF d8 e8 hrc hvc hloc x6 roxV iu hu8 t3 hfr hpl hpF
        cases ok with
        | false =>
          go_wp2_with (first
            | refine wpList_store_mid (by rfl) 27 _ _ (by rfl) (w.heap.size + 1 + 1) 0 z8.toArray (by rfl) (by rfl) (unhide P).1 z8i z8o ?_)
          have hr4 : (W5.setCells (w.heap.size + 1 + 1) 0 z8).rangeAt (w.heap.size + 1 + 1) 0 z8 := World.rangeAt_setCells_same _ _ _ _ (unhide P).1
          refine bodyPost_ret (rgn.result_row_tmp rfl _ _ (w.heap.size + 1 + 1) 0 z8 _ rfl hr4 Try.underlying27 rfl z8i) rfl ?_
          obtain ⟨hif, hgS, hc⟩ := unhide J
          rw [if_neg (by simp)] at hif
          have hnone : getP v (⟨nm, ix, true⟩ :: r) = none := by simp only [getP, hgS]; exact hif.1
          have hbl := below_setCells (w.heap.size + 1 + 1) z8 0 _ bb5 (by omega)
          have hfr9 : FrC w.heap.size (W5.setCells (w.heap.size + 1 + 1) 0 z8) z0 z8 := FrC.of (OwC.zero _) (by simp)
          first
            | exact ⟨hbl, false, z0, z8, rfl, hfr9, by rw [if_neg (by simp)]; exact ⟨hnone, rfl⟩⟩
            | exact ⟨hbl, .inl ⟨z0, z8, rfl, hfr9, hnone, rfl⟩⟩
        | true =>
          go_wp2_with (first
            | refine wpList_load_mid (by rfl) 27 _ (by rfl) XB 0 (by rfl) es _ (unhide P).2.1 Try.underlying27 (by rfl) (unhide P).2.2.2.1 ?_
            | (refine wpList_store_mid (by rfl) 27 _ _ (by rfl) p (off + i * 8) es.toArray (by rfl) (by rfl) (unhide P).2.2.1 (unhide IE) e1 ?_; rw [show W5.setCells p (off + i * 8) es.toArray.toList = W6 from (unhide P).2.2.2.2.2.2.2.2.2.symm])
            | refine wpList_load_mid (by rfl) 27 _ (by rfl) w2.heap.size 0 (by rfl) ds _ (unhide P).2.2.2.2.2.2.1 Try.underlying27 (by rfl) (unhide P).2.2.2.2.1 ?_
            | refine wpList_store_mid (by rfl) 27 _ _ (by rfl) (w.heap.size + 1 + 1) 0 ds.toArray (by rfl) (by rfl) (unhide P).2.2.2.2.2.2.2.1 (unhide P).2.2.2.2.2.1 d1 ?_)
          obtain ⟨hT5, t2, hTp, ie', id', id, row6, th6, fr6, e6⟩ := unhide P
          have hr4 : (W6.setCells (w.heap.size + 1 + 1) 0 ds).rangeAt (w.heap.size + 1 + 1) 0 ds := World.rangeAt_setCells_same _ _ _ _ th6
          refine bodyPost_ret (rgn.result_row_tmp rfl _ _ (w.heap.size + 1 + 1) 0 ds _ rfl hr4 Try.underlying27 rfl id') rfl ?_
          obtain ⟨hif, hgS, hc⟩ := unhide J
          have hif : setP u' r x = some u2 := hif
          have hset : setP v (⟨nm, ix, true⟩ :: r) x = some (setS v ⟨nm, ix, true⟩ i u2) := by simp only [setP, hc, hgS, hif]; rfl
          have hbl : Below w.heap.size w (W6.setCells (w.heap.size + 1 + 1) 0 ds) := by
            rw [e6]
            exact below_setCells _ _ _ _ (below_setCells _ _ _ _ bb5 (by have := hplo; omega)) (by omega)
          have hfr9 : FrC w.heap.size (W6.setCells (w.heap.size + 1 + 1) 0 ds) (setS v ⟨nm, ix, true⟩ i u2) ds := FrC.mono (fr6.setCells (w.heap.size + 1 + 1) 0 ds (by omega)) (by omega)
          first
            | exact ⟨hbl, true, _, ds, rfl, hfr9, by rw [if_pos rfl]; exact hset⟩
            | exact ⟨hbl, .inr ⟨_, ds, rfl, hfr9, hset⟩⟩
      · simp only [List.getElem_toArray, List.getElem_cons_zero, List.getElem_cons_succ, Act.put, List.setIfInBounds_toArray, List.set_cons_zero, List.set_cons_succ]
        refine wpO_alloc 27 (by rfl) _ (allocV _) ?_
        obtain ⟨A0, eA⟩ : ∃ A0, A0 = ({ V with drawn := V.drawn + 1 } : World).alloc (.cells #[.int .i64 0, .bool false, .int .i64 0, .float .f64 0, .string { data := #[] }, .string { data := #[] }, .slice none 0 0, .slice none 0 0] 27) := ⟨_, rfl⟩
        have hA : Below V.heap.size V A0 := by rw [eA]; exact hd.alloc (Nat.le_refl _) _
        have sA : V.heap.size + 1 ≤ A0.heap.size := by rw [eA]; simp
        have thA : A0.there V.heap.size 0 8 := by rw [eA]; exact there_new (w := ({ V with drawn := V.drawn + 1 } : World)) rfl
        rw [← eA]
        clear eA
        have hS0 := hA
        refine ⟨hS0, ?_⟩
        simp only [List.getElem_toArray, List.getElem_cons_zero, List.getElem_cons_succ, Act.put, List.setIfInBounds_toArray, List.set_cons_zero, List.set_cons_succ]
        refine rgn.one (i := 8) _ rfl (by kernel_rfl) (by rfl) ?_
        simp only [List.getElem_toArray, List.getElem_cons_zero, List.getElem_cons_succ, Act.put, List.setIfInBounds_toArray, List.set_cons_zero, List.set_cons_succ]
        go_wp2_with fail
        refine (ih u' x us xs A0 ar m (c - 1) (VlC.below hA u' us hvc) (VlC.below (bwV.trans (hA.mono bwV.size)) x xs (unhide HX)) (hsv.getS hgS) hsx ((unhide Hpa).below (bwV.trans (hA.mono bwV.size))) (by omega) (unhide Har0) (by omega)).mono ?_
        rintro e w3 ⟨b3, ok, u2, es, rfl, hfr, hif⟩
        have e8 := hfr.read.cells
        have e1 := hfr.read.one
        have ie : (Try.prog.info? 27).map (·.size) = some es.toArray.size := by simp [e8, infoV]
        have hS1 : Below V.heap.size V w3 := hA.trans (b3.mono (hA.size))
        have s3 := b3.size
        have hS0 := hS1
        refine ⟨hS0, ?_⟩
        refine wpAnyH_take (i := 9) (v := ?v15) rfl (by kernel_rfl) (by kernel_rfl) (by kernel_rfl) (fun _ _ _ h => h) (Or.inl ⟨by rfl, ?hy15⟩) hS0 ?_
        case hy15 => (intro w' hw';  go_simp; try with_reducible rfl)
        simp only [List.getElem_toArray, List.getElem_cons_zero, List.getElem_cons_succ, Act.put, List.setIfInBounds_toArray, List.set_cons_zero, List.set_cons_succ]
        refine wpAnyH_take (i := 10) (v := ?v16) rfl (by kernel_rfl) (by kernel_rfl) (by kernel_rfl) (fun _ _ _ h => h) (Or.inl ⟨by rfl, ?hy16⟩) hS0 ?_
        case hy16 => (intro w' hw';  go_simp; try with_reducible rfl)
        simp only [List.getElem_toArray, List.getElem_cons_zero, List.getElem_cons_succ, Act.put, List.setIfInBounds_toArray, List.set_cons_zero, List.set_cons_succ]
        refine wpAnyH_take (i := 11) (v := ?v17) rfl (by kernel_rfl) (by kernel_rfl) (by kernel_rfl) (fun _ _ _ h => h) (Or.inl ⟨by rfl, ?hy17⟩) hS0 ?_
        case hy17 => (intro w' hw';  go_simp; try with_reducible rfl)
        simp only [List.getElem_toArray, List.getElem_cons_zero, List.getElem_cons_succ, Act.put, List.setIfInBounds_toArray, List.set_cons_zero, List.set_cons_succ]
        refine rgn.one (i := 13) _ rfl (by kernel_rfl) (by rfl) ?_
        simp only [List.getElem_toArray, List.getElem_cons_zero, List.getElem_cons_succ, Act.put, List.setIfInBounds_toArray, List.set_cons_zero, List.set_cons_succ]
        have thx : w3.there V.heap.size 0 es.toArray.size := by rw [show es.toArray.size = 8 by simp [e8]]; exact there_below thA b3 (by omega)
        refine wp_store_mid 27 _ _ (by rfl) V.heap.size 0 es.toArray (by rfl) (by rfl) thx ie e1 ?_
        obtain ⟨W5, e5⟩ : ∃ W5, W5 = w3.setCells V.heap.size 0 es := ⟨_, rfl⟩
        have t1 : Below V.heap.size V W5 := by rw [e5]; exact below_setCells _ _ _ _ hS1 (Nat.le_refl _)
        have t2 : W5.rangeAt V.heap.size 0 es := by rw [e5]; exact World.rangeAt_setCells_same _ _ _ _ thx
        have t3 : FrC V.heap.size W5 u2 es := by rw [e5]; exact FrC.mono (hfr.setCells V.heap.size 0 es (by omega)) (by omega)
        rw [show w3.setCells V.heap.size 0 es.toArray.toList = W5 from e5.symm]
        have hS0 := t1
        refine ⟨hS0, ?_⟩
        simp only [List.getElem_toArray, List.getElem_cons_zero, List.getElem_cons_succ, Act.put, List.setIfInBounds_toArray, List.set_cons_zero, List.set_cons_succ]
        refine wpAnyH_take (i := 14) (v := ?v18) rfl (by kernel_rfl) (by kernel_rfl) (by kernel_rfl) (fun _ _ _ h => h) (Or.inl ⟨by rfl, ?hy18⟩) hS0 ?_
        case hy18 => (intro w' hw';  go_simp; try with_reducible rfl)
        simp only [List.getElem_toArray, List.getElem_cons_zero, List.getElem_cons_succ, Act.put, List.setIfInBounds_toArray, List.set_cons_zero, List.set_cons_succ]
        refine wpAnyH_done (by kernel_rfl) ?_ _; refine NoPanic.normal ?_
        clear thx e5 hS1
        obtain ⟨XB, eXB⟩ : ∃ XB, XB = V.heap.size := ⟨_, rfl⟩
        rw [← eXB] at t2 ⊢
        clear eXB
        have hl2 : w.heap.size + 1 + 1 < w1.heap.size := by omega
        have hT5 : W5.there (w.heap.size + 1 + 1) 0 8 := there_below (there_below (unhide hth1) bbV hl2) t1 (by omega)
        have bb5 : Below w.heap.size w W5 := bwV.trans (t1.mono bwV.size)
        have hpF : p ∈ F := OV.locIn hnd hc hloc
        have hpl := hF p hpF
        have hplo : w1.heap.size ≤ p := hpl.1
        have x65 := keepC t1 hb2 x6
        have hu8 := hvc.cells
        have hTp : W5.there p (off + i * 8) es.toArray.size := by
          rw [show es.toArray.size = 8 by simp [e8]]
          exact there_below (fun j hj => ⟨by rw [hrc j _ (List.getElem?_eq_getElem (by omega))]; rfl, zV p hpF _⟩) t1 (by omega)
        have ie' : (Try.prog.info? 27).map (·.size) = some es.length := by rw [e8]; exact infoV
        have id' : (Try.prog.info? 27).map (·.size) = some ds.length := by rw [d8]; exact infoV
        have id : (Try.prog.info? 27).map (·.size) = some ds.toArray.size := by simp [d8, infoV]
        obtain ⟨W6, e6⟩ : ∃ W6, W6 = W5.setCells p (off + i * 8) es := ⟨_, rfl⟩
        have row6 : W6.rangeAt w2.heap.size 0 ds := by
          rw [e6]
          intro j y hy
          rw [World.cell?_setCells_out _ _ _ _ _ (fun e _ => by have e : w2.heap.size = p := e; omega)]
          exact (t1.cell (p := ⟨w2.heap.size, 0 + j, none⟩) hb2).trans (hrV j y hy)
        have th6 : W6.there (w.heap.size + 1 + 1) 0 ds.toArray.size := by rw [show ds.toArray.size = 8 by simp [d8], e6]; exact World.there_setCells hT5 _ _ _
        have fr6 : FrC w1.heap.size W6 (setS v ⟨nm, ix, true⟩ i u2) ds := by
          refine FrC.put OV hnd (fun b hb => ⟨(hF b hb).1, by rw [e6, size_setCells]; have := hF b hb; have := t1.size; omega⟩) hc hloc (fun b hb j hj => ?_) (by rw [e6]; exact World.rangeAt_setCells_same _ _ _ _ hTp) (by rw [e6]; exact FrC.mono (t3.setCells p (off + i * 8) es (by omega)) (by omega))
          rw [e6, World.cell?_setCells_out _ _ _ _ _ (fun e _ => by
            have e : b = p := e
            show j < off + i * 8 ∨ off + i * 8 + es.length ≤ j
            rw [e8]
            rcases hj with hj | hj
            · exact absurd e hj
            · exact hj)]
          exact t1.cell (p := ⟨b, j, none⟩) (by have := hF b hb; show b < V.heap.size; omega)
        have P := hide (And.intro hT5 (And.intro t2 (And.intro hTp (And.intro ie' (And.intro id' (And.intro id (And.intro row6 (And.intro th6 (And.intro fr6 e6)))))))))
        have J := hide (And.intro hif (And.intro hgS hc))
        have IE := hide ie
        clear hT5 t2 hTp ie' id' id row6 th6 fr6 e6 hif hgS hc ie OV zV hrV hnd hF d8 e8 hrc hvc hloc x6 roxV iu hu8 t3 hfr hpl hpF
        cases ok with
        | false =>
          go_wp2_with (first
            | refine wpList_store_mid (by rfl) 27 _ _ (by rfl) (w.heap.size + 1 + 1) 0 z8.toArray (by rfl) (by rfl) (unhide P).1 z8i z8o ?_)
          have hr4 : (W5.setCells (w.heap.size + 1 + 1) 0 z8).rangeAt (w.heap.size + 1 + 1) 0 z8 := World.rangeAt_setCells_same _ _ _ _ (unhide P).1
          refine bodyPost_ret (rgn.result_row_tmp rfl _ _ (w.heap.size + 1 + 1) 0 z8 _ rfl hr4 Try.underlying27 rfl z8i) rfl ?_
          obtain ⟨hif, hgS, hc⟩ := unhide J
          rw [if_neg (by simp)] at hif
          have hnone : getP v (⟨nm, ix, true⟩ :: r) = none := by simp only [getP, hgS]; exact hif.1
          have hbl := below_setCells (w.heap.size + 1 + 1) z8 0 _ bb5 (by omega)
          have hfr9 : FrC w.heap.size (W5.setCells (w.heap.size + 1 + 1) 0 z8) z0 z8 := FrC.of (OwC.zero _) (by simp)
          first
            | exact ⟨hbl, false, z0, z8, rfl, hfr9, by rw [if_neg (by simp)]; exact ⟨hnone, rfl⟩⟩
            | exact ⟨hbl, .inl ⟨z0, z8, rfl, hfr9, hnone, rfl⟩⟩
        | true =>
          go_wp2_with (first
            | refine wpList_load_mid (by rfl) 27 _ (by rfl) XB 0 (by rfl) es _ (unhide P).2.1 Try.underlying27 (by rfl) (unhide P).2.2.2.1 ?_
            | (refine wpList_store_mid (by rfl) 27 _ _ (by rfl) p (off + i * 8) es.toArray (by rfl) (by rfl) (unhide P).2.2.1 (unhide IE) e1 ?_; rw [show W5.setCells p (off + i * 8) es.toArray.toList = W6 from (unhide P).2.2.2.2.2.2.2.2.2.symm])
            | refine wpList_load_mid (by rfl) 27 _ (by rfl) w2.heap.size 0 (by rfl) ds _ (unhide P).2.2.2.2.2.2.1 Try.underlying27 (by rfl) (unhide P).2.2.2.2.1 ?_
            | refine wpList_store_mid (by rfl) 27 _ _ (by rfl) (w.heap.size + 1 + 1) 0 ds.toArray (by rfl) (by rfl) (unhide P).2.2.2.2.2.2.2.1 (unhide P).2.2.2.2.2.1 d1 ?_)
          obtain ⟨hT5, t2, hTp, ie', id', id, row6, th6, fr6, e6⟩ := unhide P
          have hr4 : (W6.setCells (w.heap.size + 1 + 1) 0 ds).rangeAt (w.heap.size + 1 + 1) 0 ds := World.rangeAt_setCells_same _ _ _ _ th6
          refine bodyPost_ret (rgn.result_row_tmp rfl _ _ (w.heap.size + 1 + 1) 0 ds _ rfl hr4 Try.underlying27 rfl id') rfl ?_
          obtain ⟨hif, hgS, hc⟩ := unhide J
          have hif : setP u' r x = some u2 := hif
          have hset : setP v (⟨nm, ix, true⟩ :: r) x = some (setS v ⟨nm, ix, true⟩ i u2) := by simp only [setP, hc, hgS, hif]; rfl
          have hbl : Below w.heap.size w (W6.setCells (w.heap.size + 1 + 1) 0 ds) := by
            rw [e6]
            exact below_setCells _ _ _ _ (below_setCells _ _ _ _ bb5 (by have := hplo; omega)) (by omega)
          have hfr9 : FrC w.heap.size (W6.setCells (w.heap.size + 1 + 1) 0 ds) (setS v ⟨nm, ix, true⟩ i u2) ds := FrC.mono (fr6.setCells (w.heap.size + 1 + 1) 0 ds (by omega)) (by omega)
          first
            | exact ⟨hbl, true, _, ds, rfl, hfr9, by rw [if_pos rfl]; exact hset⟩
            | exact ⟨hbl, .inr ⟨_, ds, rfl, hfr9, hset⟩⟩
    | false =>
      go_wp2_with (first
        | (refine wpList_store_mid (by rfl) 27 _ _ (by rfl) w2.heap.size 0 ds.toArray (by rfl) (by rfl) (unhide A).1 (unhide A).2.1 d1 ?_; rw [show (w2.alloc (.cells #[.int .i64 0, .bool false, .int .i64 0, .float .f64 0, .string { data := #[] }, .string { data := #[] }, .slice none 0 0, .slice none 0 0] 27)).setCells w2.heap.size 0 ds.toArray.toList = V from (unhide A).2.2.symm]))
      obtain ⟨OV, zV, hrV, hnd, hF, d8⟩ := unhide B
      have hc := unhide Hc
      have hs2 := bbV.size
      obtain ⟨p, off, us, u', hloc, hrc, hvc, hgS, nI, cI, x6, ii⟩ : ∃ p off us u', Loc ds ⟨nm, ix, false⟩ i p (off + i * 9 + 1) ∧ Row8 V p (off + i * 9 + 1) us ∧ VlC V u' us ∧ getS v ⟨nm, ix, false⟩ = some u' ∧ ∃ (nI cI : Nat), V.cell? ⟨w2.heap.size, 7, none⟩ = some (.slice (some ⟨p, off, none⟩) nI cI) ∧ ((i : Nat) : Int) < (nI : Int) := by
        have hrd := OwC.read v ds F OV
        have hrd' := hrd
        obtain ⟨kd, bb, ni, f, tx, ty, its, fls⟩ := v
        have hc' := hc
        rw [chI_mk, if_neg (by simp)] at hc'
        by_cases hcc : kd = 6
        · rw [if_pos hcc] at hc'
          unfold VlC at hrd
          obtain ⟨ai, nI, ci, af, nf, cf, rfl, hI, hF', -⟩ := hrd
          have hlen := FlsAt.len fls _ _ hF'
          obtain ⟨q, hq, _⟩ := findIdx_get hc'
          have hin : i < nf := by rw [← hlen]; exact (List.getElem?_eq_some_iff.1 hq).1
          obtain ⟨p, off, _, _, _, rfl, _, _, _, _, _⟩ := FlsAt.get fls _ nf hF' i hin
          have hloc : Loc [.int .i64 kd, .bool bb, .int .i64 ni, .float .f64 f, .string tx, .string ty, .slice ai nI ci, .slice (some ⟨p, off, none⟩) nf cf] ⟨nm, ix, false⟩ i p (off + i * 9 + 1) := ⟨p, off, nf, cf, by simp⟩
          obtain ⟨u', us, g1, g2, g3⟩ := hrd'.child hc hloc
          exact ⟨p, off, us, u', hloc, g2, g3, g1, nf, cf, hrV 7 _ rfl, by omega⟩
        · rw [if_neg hcc] at hc'
          cases hc'
      have iu : (Try.prog.info? 27).map (·.size) = some us.length := by rw [hvc.cells]; exact infoV
      have roxV := Row8.below (unhide hrox1) bbV
      have hb2 : w2.heap.size < V.heap.size := by omega
      have hm1 : (m : Int) + 1 ≤ (c : Int) := by omega
      have hS0 : Below V.heap.size V { V with drawn := V.drawn + 1 } := (Below.refl _ _).drew
      refine wp_region_noPanic ?_
      refine wp_region_held (S := fun w' => Below V.heap.size V w') mixed ?_
      refine wpAnyH_take (i := 0) (v := ?v19) rfl (by kernel_rfl) (by kernel_rfl) (by kernel_rfl) (fun _ _ _ h => h) (Or.inl ⟨by rfl, ?hy19⟩) hS0 ?_
      case hy19 => (intro w' hw'; have c6 := keepC hw' hb2 x6; go_simp; try with_reducible rfl)
      simp only [List.getElem_toArray, List.getElem_cons_zero, List.getElem_cons_succ, Act.put, List.setIfInBounds_toArray, List.set_cons_zero, List.set_cons_succ]
      refine wpAnyH_take (i := 1) (v := ?v20) rfl (by kernel_rfl) (by kernel_rfl) (by kernel_rfl) (fun _ _ _ h => h) (Or.inl ⟨by rfl, ?hy20⟩) hS0 ?_
      case hy20 => (intro w' hw'; have c6 := keepC hw' hb2 x6; go_simp; try with_reducible rfl)
      simp only [List.getElem_toArray, List.getElem_cons_zero, List.getElem_cons_succ, Act.put, List.setIfInBounds_toArray, List.set_cons_zero, List.set_cons_succ]
      refine wpAnyH_take (i := 2) (v := ?v21) rfl (by kernel_rfl) (by kernel_rfl) (by kernel_rfl) (fun _ _ _ h => h) (Or.inl ⟨by rfl, ?hy21⟩) hS0 ?_
      case hy21 => (intro w' hw'; have c6 := keepC hw' hb2 x6; go_simp; try with_reducible rfl)
      simp only [List.getElem_toArray, List.getElem_cons_zero, List.getElem_cons_succ, Act.put, List.setIfInBounds_toArray, List.set_cons_zero, List.set_cons_succ]
      refine wpAnyH_take (i := 3) (v := ?v22) rfl (by kernel_rfl) (by kernel_rfl) (by kernel_rfl) (fun _ _ _ h => h) (Or.inl ⟨by rfl, ?hy22⟩) hS0 ?_
      case hy22 => (intro w' hw'; have c6 := keepC hw' hb2 x6; go_simp; try with_reducible rfl)
      simp only [List.getElem_toArray, List.getElem_cons_zero, List.getElem_cons_succ, Act.put, List.setIfInBounds_toArray, List.set_cons_zero, List.set_cons_succ]
      refine wpAnyH_take (i := 4) (v := ?v23) rfl (by kernel_rfl) (by kernel_rfl) (by kernel_rfl) (fun _ _ _ h => h) (Or.inl ⟨by rfl, ?hy23⟩) hS0 ?_
      case hy23 => (intro w' hw'; have c6 := keepC hw' hb2 x6; go_simp; try with_reducible rfl)
      simp only [List.getElem_toArray, List.getElem_cons_zero, List.getElem_cons_succ, Act.put, List.setIfInBounds_toArray, List.set_cons_zero, List.set_cons_succ]
      refine wpAnyH_take (i := 5) rfl (by kernel_rfl) (by kernel_rfl) (by kernel_rfl) (fun _ _ _ h => h) (yieldsIf_load_mid (by rfl) 27 _ (by rfl) p (off + i * 9 + 1) (by rfl) us _ (fun w' hw' => Row8.below hrc hw') Try.underlying27 (by rfl) iu) hS0 ?_
      simp only [List.getElem_toArray, List.getElem_cons_zero, List.getElem_cons_succ, Act.put, List.setIfInBounds_toArray, List.set_cons_zero, List.set_cons_succ]
      refine wpAnyH_take (i := 6) (v := ?v24) rfl (by kernel_rfl) (by kernel_rfl) (by kernel_rfl) (fun _ _ _ h => h) (Or.inl ⟨by rfl, ?hy24⟩) hS0 ?_
      case hy24 => (intro w' hw';  go_simp; try with_reducible rfl)
      simp only [List.getElem_toArray, List.getElem_cons_zero, List.getElem_cons_succ, Act.put, List.setIfInBounds_toArray, List.set_cons_zero, List.set_cons_succ]
      refine rgn.take (i := 7) _ (.slice ar m (c - 1)) rfl (by kernel_rfl) (by kernel_rfl) (by kernel_rfl) (fun _ _ _ h => h) (by rfl) hS0 (fun w' hw' => by
        have h1m : (1 : Int) ≤ (m : Int) + 1 := by omega
        rw [unhide Har]
        go_simp) ?_
      simp only [List.getElem_toArray, List.getElem_cons_zero, List.getElem_cons_succ, Act.put, List.setIfInBounds_toArray, List.set_cons_zero, List.set_cons_succ]
      refine wpAnyH_take (i := 8) rfl (by kernel_rfl) (by kernel_rfl) (by kernel_rfl) (fun _ _ _ h => h) (yieldsIf_load_mid (by rfl) 27 _ (by rfl) (w.heap.size + 1) 0 (by rfl) xs _ (fun w' hw' => Row8.below roxV hw') Try.underlying27 (by rfl) (unhide hiX)) hS0 ?_
      simp only [List.getElem_toArray, List.getElem_cons_zero, List.getElem_cons_succ, Act.put, List.setIfInBounds_toArray, List.set_cons_zero, List.set_cons_succ]
      have bwV : Below w.heap.size w V := bb1.trans (bbV.mono bb1.size)
      have hd : Below V.heap.size V V.drew := (Below.refl _ _).drew
      refine rgn.two (i := 9) (j := 13) _ _ rfl rfl (by kernel_rfl) (by rfl) (by rfl) ?_ ?_
      · simp only [List.getElem_toArray, List.getElem_cons_zero, List.getElem_cons_succ, Act.put, List.setIfInBounds_toArray, List.set_cons_zero, List.set_cons_succ]
        go_wp2_with fail
        refine (ih u' x us xs V.drew ar m (c - 1) (VlC.below hd u' us hvc) (VlC.below (bwV.trans (hd.mono bwV.size)) x xs (unhide HX)) (hsv.getS hgS) hsx ((unhide Hpa).below (bwV.trans (hd.mono bwV.size))) (by omega) (unhide Har0) (by omega)).mono ?_
        rintro e w3 ⟨b3, ok, u2, es, rfl, hfr, hif⟩
        have e8 := hfr.read.cells
        have e1 := hfr.read.one
        have ie : (Try.prog.info? 27).map (·.size) = some es.toArray.size := by simp [e8, infoV]
        have hS1 : Below V.heap.size V w3 := hd.trans (b3.mono (hd.size))
        have s3 := b3.size
        have hS0 := hS1
        refine ⟨hS0, ?_⟩
        refine wpAnyH_take (i := 10) (v := ?v25) rfl (by kernel_rfl) (by kernel_rfl) (by kernel_rfl) (fun _ _ _ h => h) (Or.inl ⟨by rfl, ?hy25⟩) hS0 ?_
        case hy25 => (intro w' hw';  go_simp; try with_reducible rfl)
        simp only [List.getElem_toArray, List.getElem_cons_zero, List.getElem_cons_succ, Act.put, List.setIfInBounds_toArray, List.set_cons_zero, List.set_cons_succ]
        refine wpAnyH_take (i := 11) (v := ?v26) rfl (by kernel_rfl) (by kernel_rfl) (by kernel_rfl) (fun _ _ _ h => h) (Or.inl ⟨by rfl, ?hy26⟩) hS0 ?_
        case hy26 => (intro w' hw';  go_simp; try with_reducible rfl)
        simp only [List.getElem_toArray, List.getElem_cons_zero, List.getElem_cons_succ, Act.put, List.setIfInBounds_toArray, List.set_cons_zero, List.set_cons_succ]
        refine wpAnyH_take (i := 12) (v := ?v27) rfl (by kernel_rfl) (by kernel_rfl) (by kernel_rfl) (fun _ _ _ h => h) (Or.inl ⟨by rfl, ?hy27⟩) hS0 ?_
        case hy27 => (intro w' hw';  go_simp; try with_reducible rfl)
        simp only [List.getElem_toArray, List.getElem_cons_zero, List.getElem_cons_succ, Act.put, List.setIfInBounds_toArray, List.set_cons_zero, List.set_cons_succ]
        refine rgn.one (i := 13) _ rfl (by kernel_rfl) (by rfl) ?_
        simp only [List.getElem_toArray, List.getElem_cons_zero, List.getElem_cons_succ, Act.put, List.setIfInBounds_toArray, List.set_cons_zero, List.set_cons_succ]
        refine wpO_alloc 27 (by rfl) _ (allocV _) ?_
        have hS0 : Below V.heap.size V (w3.alloc (.cells #[.int .i64 0, .bool false, .int .i64 0, .float .f64 0, .string { data := #[] }, .string { data := #[] }, .slice none 0 0, .slice none 0 0] 27)) := hS1.alloc hS1.size _
        refine ⟨hS0, ?_⟩
        simp only [List.getElem_toArray, List.getElem_cons_zero, List.getElem_cons_succ, Act.put, List.setIfInBounds_toArray, List.set_cons_zero, List.set_cons_succ]
        refine rgn.one (i := 14) _ rfl (by kernel_rfl) (by rfl) ?_
        simp only [List.getElem_toArray, List.getElem_cons_zero, List.getElem_cons_succ, Act.put, List.setIfInBounds_toArray, List.set_cons_zero, List.set_cons_succ]
        have thx : (w3.alloc (.cells #[.int .i64 0, .bool false, .int .i64 0, .float .f64 0, .string { data := #[] }, .string { data := #[] }, .slice none 0 0, .slice none 0 0] 27)).there w3.heap.size 0 es.toArray.size := there_new (by simp [e8])
        refine wp_store_mid 27 _ _ (by rfl) w3.heap.size 0 es.toArray (by rfl) (by rfl) thx ie e1 ?_
        obtain ⟨W5, e5⟩ : ∃ W5, W5 = (w3.alloc (.cells #[.int .i64 0, .bool false, .int .i64 0, .float .f64 0, .string { data := #[] }, .string { data := #[] }, .slice none 0 0, .slice none 0 0] 27)).setCells w3.heap.size 0 es := ⟨_, rfl⟩
        have b5 : Below w3.heap.size w3 W5 := by rw [e5]; exact below_setCells _ _ _ _ ((Below.refl _ _).alloc (Nat.le_refl _) _) (Nat.le_refl _)
        have t1 : Below V.heap.size V W5 := hS1.trans (b5.mono hS1.size)
        have t2 : W5.rangeAt w3.heap.size 0 es := by rw [e5]; exact World.rangeAt_setCells_same _ _ _ _ thx
        have t3 : FrC V.heap.size W5 u2 es := FrC.below hfr b5
        have t4 : V.heap.size ≤ w3.heap.size := hS1.size
        rw [show (w3.alloc (.cells #[.int .i64 0, .bool false, .int .i64 0, .float .f64 0, .string { data := #[] }, .string { data := #[] }, .slice none 0 0, .slice none 0 0] 27)).setCells w3.heap.size 0 es.toArray.toList = W5 from e5.symm]
        have hS0 := t1
        refine ⟨hS0, ?_⟩
        simp only [List.getElem_toArray, List.getElem_cons_zero, List.getElem_cons_succ, Act.put, List.setIfInBounds_toArray, List.set_cons_zero, List.set_cons_succ]
        refine wpAnyH_take (i := 15) (v := ?v28) rfl (by kernel_rfl) (by kernel_rfl) (by kernel_rfl) (fun _ _ _ h => h) (Or.inl ⟨by rfl, ?hy28⟩) hS0 ?_
        case hy28 => (intro w' hw';  go_simp; try with_reducible rfl)
        simp only [List.getElem_toArray, List.getElem_cons_zero, List.getElem_cons_succ, Act.put, List.setIfInBounds_toArray, List.set_cons_zero, List.set_cons_succ]
        refine wpAnyH_done (by kernel_rfl) ?_ _; refine NoPanic.normal ?_
        clear thx b5 e5 hS1
        generalize w3.heap.size = XB at *
        have hl2 : w.heap.size + 1 + 1 < w1.heap.size := by omega
        have hT5 : W5.there (w.heap.size + 1 + 1) 0 8 := there_below (there_below (unhide hth1) bbV hl2) t1 (by omega)
        have bb5 : Below w.heap.size w W5 := bwV.trans (t1.mono bwV.size)
        have hpF : p ∈ F := OV.locIn hnd hc hloc
        have hpl := hF p hpF
        have hplo : w1.heap.size ≤ p := hpl.1
        have x65 := keepC t1 hb2 x6
        have hu8 := hvc.cells
        have hTp : W5.there p (off + i * 9 + 1) es.toArray.size := by
          rw [show es.toArray.size = 8 by simp [e8]]
          exact there_below (fun j hj => ⟨by rw [hrc j _ (List.getElem?_eq_getElem (by omega))]; rfl, zV p hpF _⟩) t1 (by omega)
        have ie' : (Try.prog.info? 27).map (·.size) = some es.length := by rw [e8]; exact infoV
        have id' : (Try.prog.info? 27).map (·.size) = some ds.length := by rw [d8]; exact infoV
        have id : (Try.prog.info? 27).map (·.size) = some ds.toArray.size := by simp [d8, infoV]
        obtain ⟨W6, e6⟩ : ∃ W6, W6 = W5.setCells p (off + i * 9 + 1) es := ⟨_, rfl⟩
        have row6 : W6.rangeAt w2.heap.size 0 ds := by
          rw [e6]
          intro j y hy
          rw [World.cell?_setCells_out _ _ _ _ _ (fun e _ => by have e : w2.heap.size = p := e; omega)]
          exact (t1.cell (p := ⟨w2.heap.size, 0 + j, none⟩) hb2).trans (hrV j y hy)
        have th6 : W6.there (w.heap.size + 1 + 1) 0 ds.toArray.size := by rw [show ds.toArray.size = 8 by simp [d8], e6]; exact World.there_setCells hT5 _ _ _
        have fr6 : FrC w1.heap.size W6 (setS v ⟨nm, ix, false⟩ i u2) ds := by
          refine FrC.put OV hnd (fun b hb => ⟨(hF b hb).1, by rw [e6, size_setCells]; have := hF b hb; have := t1.size; omega⟩) hc hloc (fun b hb j hj => ?_) (by rw [e6]; exact World.rangeAt_setCells_same _ _ _ _ hTp) (by rw [e6]; exact FrC.mono (t3.setCells p (off + i * 9 + 1) es (by omega)) (by omega))
          rw [e6, World.cell?_setCells_out _ _ _ _ _ (fun e _ => by
            have e : b = p := e
            show j < off + i * 9 + 1 ∨ off + i * 9 + 1 + es.length ≤ j
            rw [e8]
            rcases hj with hj | hj
            · exact absurd e hj
            · exact hj)]
          exact t1.cell (p := ⟨b, j, none⟩) (by have := hF b hb; show b < V.heap.size; omega)
        have P := hide (And.intro hT5 (And.intro t2 (And.intro hTp (And.intro ie' (And.intro id' (And.intro id (And.intro row6 (And.intro th6 (And.intro fr6 e6)))))))))
        have J := hide (And.intro hif (And.intro hgS hc))
        have IE := hide ie
        clear hT5 t2 hTp ie' id' id row6 th6 fr6 e6 hif hgS hc ie OV zV hrV hnd hF d8 e8 hrc hvc hloc x6 roxV iu hu8 t3 hfr hpl hpF
        cases ok with
        | false =>
          go_wp2_with (first
            | refine wpList_store_mid (by rfl) 27 _ _ (by rfl) (w.heap.size + 1 + 1) 0 z8.toArray (by rfl) (by rfl) (unhide P).1 z8i z8o ?_)
          have hr4 : (W5.setCells (w.heap.size + 1 + 1) 0 z8).rangeAt (w.heap.size + 1 + 1) 0 z8 := World.rangeAt_setCells_same _ _ _ _ (unhide P).1
          refine bodyPost_ret (rgn.result_row_tmp rfl _ _ (w.heap.size + 1 + 1) 0 z8 _ rfl hr4 Try.underlying27 rfl z8i) rfl ?_
          obtain ⟨hif, hgS, hc⟩ := unhide J
          rw [if_neg (by simp)] at hif
          have hnone : getP v (⟨nm, ix, false⟩ :: r) = none := by simp only [getP, hgS]; exact hif.1
          have hbl := below_setCells (w.heap.size + 1 + 1) z8 0 _ bb5 (by omega)
          have hfr9 : FrC w.heap.size (W5.setCells (w.heap.size + 1 + 1) 0 z8) z0 z8 := FrC.of (OwC.zero _) (by simp)
          first
            | exact ⟨hbl, false, z0, z8, rfl, hfr9, by rw [if_neg (by simp)]; exact ⟨hnone, rfl⟩⟩
            | exact ⟨hbl, .inl ⟨z0, z8, rfl, hfr9, hnone, rfl⟩⟩
        | true =>
          go_wp2_with (first
            | refine wpList_load_mid (by rfl) 27 _ (by rfl) XB 0 (by rfl) es _ (unhide P).2.1 Try.underlying27 (by rfl) (unhide P).2.2.2.1 ?_
            | (refine wpList_store_mid (by rfl) 27 _ _ (by rfl) p (off + i * 9 + 1) es.toArray (by rfl) (by rfl) (unhide P).2.2.1 (unhide IE) e1 ?_; rw [show W5.setCells p (off + i * 9 + 1) es.toArray.toList = W6 from (unhide P).2.2.2.2.2.2.2.2.2.symm])
            | refine wpList_load_mid (by rfl) 27 _ (by rfl) w2.heap.size 0 (by rfl) ds _ (unhide P).2.2.2.2.2.2.1 Try.underlying27 (by rfl) (unhide P).2.2.2.2.1 ?_
            | refine wpList_store_mid (by rfl) 27 _ _ (by rfl) (w.heap.size + 1 + 1) 0 ds.toArray (by rfl) (by rfl) (unhide P).2.2.2.2.2.2.2.1 (unhide P).2.2.2.2.2.1 d1 ?_)
          obtain ⟨hT5, t2, hTp, ie', id', id, row6, th6, fr6, e6⟩ := unhide P
          have hr4 : (W6.setCells (w.heap.size + 1 + 1) 0 ds).rangeAt (w.heap.size + 1 + 1) 0 ds := World.rangeAt_setCells_same _ _ _ _ th6
          refine bodyPost_ret (rgn.result_row_tmp rfl _ _ (w.heap.size + 1 + 1) 0 ds _ rfl hr4 Try.underlying27 rfl id') rfl ?_
          obtain ⟨hif, hgS, hc⟩ := unhide J
          have hif : setP u' r x = some u2 := hif
          have hset : setP v (⟨nm, ix, false⟩ :: r) x = some (setS v ⟨nm, ix, false⟩ i u2) := by simp only [setP, hc, hgS, hif]; rfl
          have hbl : Below w.heap.size w (W6.setCells (w.heap.size + 1 + 1) 0 ds) := by
            rw [e6]
            exact below_setCells _ _ _ _ (below_setCells _ _ _ _ bb5 (by have := hplo; omega)) (by omega)
          have hfr9 : FrC w.heap.size (W6.setCells (w.heap.size + 1 + 1) 0 ds) (setS v ⟨nm, ix, false⟩ i u2) ds := FrC.mono (fr6.setCells (w.heap.size + 1 + 1) 0 ds (by omega)) (by omega)
          first
            | exact ⟨hbl, true, _, ds, rfl, hfr9, by rw [if_pos rfl]; exact hset⟩
            | exact ⟨hbl, .inr ⟨_, ds, rfl, hfr9, hset⟩⟩
      · simp only [List.getElem_toArray, List.getElem_cons_zero, List.getElem_cons_succ, Act.put, List.setIfInBounds_toArray, List.set_cons_zero, List.set_cons_succ]
        refine wpO_alloc 27 (by rfl) _ (allocV _) ?_
        obtain ⟨A0, eA⟩ : ∃ A0, A0 = ({ V with drawn := V.drawn + 1 } : World).alloc (.cells #[.int .i64 0, .bool false, .int .i64 0, .float .f64 0, .string { data := #[] }, .string { data := #[] }, .slice none 0 0, .slice none 0 0] 27) := ⟨_, rfl⟩
        have hA : Below V.heap.size V A0 := by rw [eA]; exact hd.alloc (Nat.le_refl _) _
        have sA : V.heap.size + 1 ≤ A0.heap.size := by rw [eA]; simp
        have thA : A0.there V.heap.size 0 8 := by rw [eA]; exact there_new (w := ({ V with drawn := V.drawn + 1 } : World)) rfl
        rw [← eA]
        clear eA
        have hS0 := hA
        refine ⟨hS0, ?_⟩
        simp only [List.getElem_toArray, List.getElem_cons_zero, List.getElem_cons_succ, Act.put, List.setIfInBounds_toArray, List.set_cons_zero, List.set_cons_succ]
        refine rgn.one (i := 9) _ rfl (by kernel_rfl) (by rfl) ?_
        simp only [List.getElem_toArray, List.getElem_cons_zero, List.getElem_cons_succ, Act.put, List.setIfInBounds_toArray, List.set_cons_zero, List.set_cons_succ]
        go_wp2_with fail
        refine (ih u' x us xs A0 ar m (c - 1) (VlC.below hA u' us hvc) (VlC.below (bwV.trans (hA.mono bwV.size)) x xs (unhide HX)) (hsv.getS hgS) hsx ((unhide Hpa).below (bwV.trans (hA.mono bwV.size))) (by omega) (unhide Har0) (by omega)).mono ?_
        rintro e w3 ⟨b3, ok, u2, es, rfl, hfr, hif⟩
        have e8 := hfr.read.cells
        have e1 := hfr.read.one
        have ie : (Try.prog.info? 27).map (·.size) = some es.toArray.size := by simp [e8, infoV]
        have hS1 : Below V.heap.size V w3 := hA.trans (b3.mono (hA.size))
        have s3 := b3.size
        have hS0 := hS1
        refine ⟨hS0, ?_⟩
        refine wpAnyH_take (i := 10) (v := ?v29) rfl (by kernel_rfl) (by kernel_rfl) (by kernel_rfl) (fun _ _ _ h => h) (Or.inl ⟨by rfl, ?hy29⟩) hS0 ?_
        case hy29 => (intro w' hw';  go_simp; try with_reducible rfl)
        simp only [List.getElem_toArray, List.getElem_cons_zero, List.getElem_cons_succ, Act.put, List.setIfInBounds_toArray, List.set_cons_zero, List.set_cons_succ]
        refine wpAnyH_take (i := 11) (v := ?v30) rfl (by kernel_rfl) (by kernel_rfl) (by kernel_rfl) (fun _ _ _ h => h) (Or.inl ⟨by rfl, ?hy30⟩) hS0 ?_
        case hy30 => (intro w' hw';  go_simp; try with_reducible rfl)
        simp only [List.getElem_toArray, List.getElem_cons_zero, List.getElem_cons_succ, Act.put, List.setIfInBounds_toArray, List.set_cons_zero, List.set_cons_succ]
        refine wpAnyH_take (i := 12) (v := ?v31) rfl (by kernel_rfl) (by kernel_rfl) (by kernel_rfl) (fun _ _ _ h => h) (Or.inl ⟨by rfl, ?hy31⟩) hS0 ?_
        case hy31 => (intro w' hw';  go_simp; try with_reducible rfl)
        simp only [List.getElem_toArray, List.getElem_cons_zero, List.getElem_cons_succ, Act.put, List.setIfInBounds_toArray, List.set_cons_zero, List.set_cons_succ]
        refine rgn.one (i := 14) _ rfl (by kernel_rfl) (by rfl) ?_
        simp only [List.getElem_toArray, List.getElem_cons_zero, List.getElem_cons_succ, Act.put, List.setIfInBounds_toArray, List.set_cons_zero, List.set_cons_succ]
        have thx : w3.there V.heap.size 0 es.toArray.size := by rw [show es.toArray.size = 8 by simp [e8]]; exact there_below thA b3 (by omega)
        refine wp_store_mid 27 _ _ (by rfl) V.heap.size 0 es.toArray (by rfl) (by rfl) thx ie e1 ?_
        obtain ⟨W5, e5⟩ : ∃ W5, W5 = w3.setCells V.heap.size 0 es := ⟨_, rfl⟩
        have t1 : Below V.heap.size V W5 := by rw [e5]; exact below_setCells _ _ _ _ hS1 (Nat.le_refl _)
        have t2 : W5.rangeAt V.heap.size 0 es := by rw [e5]; exact World.rangeAt_setCells_same _ _ _ _ thx
        have t3 : FrC V.heap.size W5 u2 es := by rw [e5]; exact FrC.mono (hfr.setCells V.heap.size 0 es (by omega)) (by omega)
        rw [show w3.setCells V.heap.size 0 es.toArray.toList = W5 from e5.symm]
        have hS0 := t1
        refine ⟨hS0, ?_⟩
        simp only [List.getElem_toArray, List.getElem_cons_zero, List.getElem_cons_succ, Act.put, List.setIfInBounds_toArray, List.set_cons_zero, List.set_cons_succ]
        refine wpAnyH_take (i := 15) (v := ?v32) rfl (by kernel_rfl) (by kernel_rfl) (by kernel_rfl) (fun _ _ _ h => h) (Or.inl ⟨by rfl, ?hy32⟩) hS0 ?_
        case hy32 => (intro w' hw';  go_simp; try with_reducible rfl)
        simp only [List.getElem_toArray, List.getElem_cons_zero, List.getElem_cons_succ, Act.put, List.setIfInBounds_toArray, List.set_cons_zero, List.set_cons_succ]
        refine wpAnyH_done (by kernel_rfl) ?_ _; refine NoPanic.normal ?_
        clear thx e5 hS1
        obtain ⟨XB, eXB⟩ : ∃ XB, XB = V.heap.size := ⟨_, rfl⟩
        rw [← eXB] at t2 ⊢
        clear eXB
        have hl2 : w.heap.size + 1 + 1 < w1.heap.size := by omega
        have hT5 : W5.there (w.heap.size + 1 + 1) 0 8 := there_below (there_below (unhide hth1) bbV hl2) t1 (by omega)
        have bb5 : Below w.heap.size w W5 := bwV.trans (t1.mono bwV.size)
        have hpF : p ∈ F := OV.locIn hnd hc hloc
        have hpl := hF p hpF
        have hplo : w1.heap.size ≤ p := hpl.1
        have x65 := keepC t1 hb2 x6
        have hu8 := hvc.cells
        have hTp : W5.there p (off + i * 9 + 1) es.toArray.size := by
          rw [show es.toArray.size = 8 by simp [e8]]
          exact there_below (fun j hj => ⟨by rw [hrc j _ (List.getElem?_eq_getElem (by omega))]; rfl, zV p hpF _⟩) t1 (by omega)
        have ie' : (Try.prog.info? 27).map (·.size) = some es.length := by rw [e8]; exact infoV
        have id' : (Try.prog.info? 27).map (·.size) = some ds.length := by rw [d8]; exact infoV
        have id : (Try.prog.info? 27).map (·.size) = some ds.toArray.size := by simp [d8, infoV]
        obtain ⟨W6, e6⟩ : ∃ W6, W6 = W5.setCells p (off + i * 9 + 1) es := ⟨_, rfl⟩
        have row6 : W6.rangeAt w2.heap.size 0 ds := by
          rw [e6]
          intro j y hy
          rw [World.cell?_setCells_out _ _ _ _ _ (fun e _ => by have e : w2.heap.size = p := e; omega)]
          exact (t1.cell (p := ⟨w2.heap.size, 0 + j, none⟩) hb2).trans (hrV j y hy)
        have th6 : W6.there (w.heap.size + 1 + 1) 0 ds.toArray.size := by rw [show ds.toArray.size = 8 by simp [d8], e6]; exact World.there_setCells hT5 _ _ _
        have fr6 : FrC w1.heap.size W6 (setS v ⟨nm, ix, false⟩ i u2) ds := by
          refine FrC.put OV hnd (fun b hb => ⟨(hF b hb).1, by rw [e6, size_setCells]; have := hF b hb; have := t1.size; omega⟩) hc hloc (fun b hb j hj => ?_) (by rw [e6]; exact World.rangeAt_setCells_same _ _ _ _ hTp) (by rw [e6]; exact FrC.mono (t3.setCells p (off + i * 9 + 1) es (by omega)) (by omega))
          rw [e6, World.cell?_setCells_out _ _ _ _ _ (fun e _ => by
            have e : b = p := e
            show j < off + i * 9 + 1 ∨ off + i * 9 + 1 + es.length ≤ j
            rw [e8]
            rcases hj with hj | hj
            · exact absurd e hj
            · exact hj)]
          exact t1.cell (p := ⟨b, j, none⟩) (by have := hF b hb; show b < V.heap.size; omega)
        have P := hide (And.intro hT5 (And.intro t2 (And.intro hTp (And.intro ie' (And.intro id' (And.intro id (And.intro row6 (And.intro th6 (And.intro fr6 e6)))))))))
        have J := hide (And.intro hif (And.intro hgS hc))
        have IE := hide ie
        clear hT5 t2 hTp ie' id' id row6 th6 fr6 e6 hif hgS hc ie OV zV hrV hnd hF d8 e8 hrc hvc hloc x6 roxV iu hu8 t3 hfr hpl hpF
        cases ok with
        | false =>
          go_wp2_with (first
            | refine wpList_store_mid (by rfl) 27 _ _ (by rfl) (w.heap.size + 1 + 1) 0 z8.toArray (by rfl) (by rfl) (unhide P).1 z8i z8o ?_)
          have hr4 : (W5.setCells (w.heap.size + 1 + 1) 0 z8).rangeAt (w.heap.size + 1 + 1) 0 z8 := World.rangeAt_setCells_same _ _ _ _ (unhide P).1
          refine bodyPost_ret (rgn.result_row_tmp rfl _ _ (w.heap.size + 1 + 1) 0 z8 _ rfl hr4 Try.underlying27 rfl z8i) rfl ?_
          obtain ⟨hif, hgS, hc⟩ := unhide J
          rw [if_neg (by simp)] at hif
          have hnone : getP v (⟨nm, ix, false⟩ :: r) = none := by simp only [getP, hgS]; exact hif.1
          have hbl := below_setCells (w.heap.size + 1 + 1) z8 0 _ bb5 (by omega)
          have hfr9 : FrC w.heap.size (W5.setCells (w.heap.size + 1 + 1) 0 z8) z0 z8 := FrC.of (OwC.zero _) (by simp)
          first
            | exact ⟨hbl, false, z0, z8, rfl, hfr9, by rw [if_neg (by simp)]; exact ⟨hnone, rfl⟩⟩
            | exact ⟨hbl, .inl ⟨z0, z8, rfl, hfr9, hnone, rfl⟩⟩
        | true =>
          go_wp2_with (first
            | refine wpList_load_mid (by rfl) 27 _ (by rfl) XB 0 (by rfl) es _ (unhide P).2.1 Try.underlying27 (by rfl) (unhide P).2.2.2.1 ?_
            | (refine wpList_store_mid (by rfl) 27 _ _ (by rfl) p (off + i * 9 + 1) es.toArray (by rfl) (by rfl) (unhide P).2.2.1 (unhide IE) e1 ?_; rw [show W5.setCells p (off + i * 9 + 1) es.toArray.toList = W6 from (unhide P).2.2.2.2.2.2.2.2.2.symm])
            | refine wpList_load_mid (by rfl) 27 _ (by rfl) w2.heap.size 0 (by rfl) ds _ (unhide P).2.2.2.2.2.2.1 Try.underlying27 (by rfl) (unhide P).2.2.2.2.1 ?_
            | refine wpList_store_mid (by rfl) 27 _ _ (by rfl) (w.heap.size + 1 + 1) 0 ds.toArray (by rfl) (by rfl) (unhide P).2.2.2.2.2.2.2.1 (unhide P).2.2.2.2.2.1 d1 ?_)
          obtain ⟨hT5, t2, hTp, ie', id', id, row6, th6, fr6, e6⟩ := unhide P
          have hr4 : (W6.setCells (w.heap.size + 1 + 1) 0 ds).rangeAt (w.heap.size + 1 + 1) 0 ds := World.rangeAt_setCells_same _ _ _ _ th6
          refine bodyPost_ret (rgn.result_row_tmp rfl _ _ (w.heap.size + 1 + 1) 0 ds _ rfl hr4 Try.underlying27 rfl id') rfl ?_
          obtain ⟨hif, hgS, hc⟩ := unhide J
          have hif : setP u' r x = some u2 := hif
          have hset : setP v (⟨nm, ix, false⟩ :: r) x = some (setS v ⟨nm, ix, false⟩ i u2) := by simp only [setP, hc, hgS, hif]; rfl
          have hbl : Below w.heap.size w (W6.setCells (w.heap.size + 1 + 1) 0 ds) := by
            rw [e6]
            exact below_setCells _ _ _ _ (below_setCells _ _ _ _ bb5 (by have := hplo; omega)) (by omega)
          have hfr9 : FrC w.heap.size (W6.setCells (w.heap.size + 1 + 1) 0 ds) (setS v ⟨nm, ix, false⟩ i u2) ds := FrC.mono (fr6.setCells (w.heap.size + 1 + 1) 0 ds (by omega)) (by omega)
          first
            | exact ⟨hbl, true, _, ds, rfl, hfr9, by rw [if_pos rfl]; exact hset⟩
            | exact ⟨hbl, .inr ⟨_, ds, rfl, hfr9, hset⟩⟩
end Go.Proofs.Ytjlafneklcfgoab.vl
