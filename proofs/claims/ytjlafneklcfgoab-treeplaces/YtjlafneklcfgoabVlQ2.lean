import Derived.Test.YtjlafneklcfgoabVlQ1
namespace Go.Proofs.Ytjlafneklcfgoab.vl
open Go.ChangeShapes Go.WideShapes Go.ChangeAt Go.RowKit
set_option linter.unusedVariables false
set_option linter.unusedSimpArgs false
theorem infoVz : ∃ i z, Try.prog.info? 27 = some i ∧ i.zero = some z ∧ i.size = 8 ∧ i.bytes = 112 ∧ z.cells.size = 8 := by
  have hin : (Try.prog.info? 27).map (fun i => (i.bytes, i.size, i.zero.map (·.cells.size))) = some (112, 8, some 8) := by kernel_rfl
  cases hq : Try.prog.info? 27 with
  | none => simp [hq] at hin
  | some i =>
    simp [hq] at hin
    obtain ⟨h1, h2, z, hz, h3⟩ := hin
    exact ⟨i, z, rfl, hz, h2, h1, h3⟩
theorem loadSM (w : World) (b o : Nat) (u : Value) (h : w.cell? ⟨b, o, none⟩ = some u) : (Instr.loadAt 25 (.pointer (some ⟨b, o, none⟩))).run Try.prog w = .ok u w := by go_simp
theorem wpO_load1 {P : Program} {o : Oper} {a : Act} {w : World} {K : Act → World → Prop} {Q : Exit → Act → World → Prop} (t : TypeId) (x : Operand) (ho : o.op = .load t x) (y v : Value) (hx : a.eval x = y) (hr : (Instr.loadAt t y).run P w = .ok v w) (h : K (a.put o.dst v) w) : o.wp P a w K Q := by
  unfold Oper.wp execOp
  simp only [ho, hx, Sem.run_bind, hr, Result.andThen_ok, Sem.run_pure]
  exact h
theorem infoMz : ∃ i z, Try.prog.info? 68 = some i ∧ i.zero = some z ∧ i.size = 9 ∧ i.bytes = 128 ∧ z.cells.size = 9 := by
  have hin : (Try.prog.info? 68).map (fun i => (i.bytes, i.size, i.zero.map (·.cells.size))) = some (128, 9, some 9) := by kernel_rfl
  cases hq : Try.prog.info? 68 with
  | none => simp [hq] at hin
  | some i =>
    simp [hq] at hin
    obtain ⟨h1, h2, z, hz, h3⟩ := hin
    exact ⟨i, z, rfl, hz, h2, h1, h3⟩
set_option maxHeartbeats 6000000 in
set_option maxRecDepth 6000 in
theorem rcopy_ok : ∀ v : Vl, Small v → RCopyAt v := by
  refine Vl.all ?_
  intro kd bb ni f tx ty its fls ihI ihF hsm cs w hv
  unfold Small at hsm
  obtain ⟨hl1, hl2, -, hsI, hsF⟩ := hsm
  unfold VlC at hv
  obtain ⟨ai, nI, ci, af, nf, cf, rfl, hI, hF, hni, hnf, hai, haf, hk1, hk2, hk3, hk4, hci, hcf⟩ := hv
  have hlI := VlsAt.len its _ _ hI
  have hlF := FlsAt.len fls _ _ hF
  have hsf := storeF
  obtain ⟨W, eW⟩ : ∃ W, W = (((w.alloc (.cells #[.int .i64 kd, .bool bb, .int .i64 ni, .float .f64 f, .string tx, .string ty, .slice ai nI ci, .slice af nf cf] 27)).alloc (.cells #[.int .i64 0, .bool false, .int .i64 0, .float .f64 0, .string { data := #[] }, .string { data := #[] }, .slice none 0 0, .slice none 0 0] 27)).alloc (.cells #[.int .i64 kd, .bool bb, .int .i64 ni, .float .f64 f, .string tx, .string ty, .slice none 0 0, .slice none 0 0] 27)) := ⟨_, rfl⟩
  have hV0 : Vars w kd bb ni f tx ty ai nI ci af nf cf (.slice none 0 0) (.slice none 0 0) W := by
    rw [eW]
    refine ⟨((World.cell?_alloc_past _ _ _ (by simp; omega)).trans ((World.cell?_alloc_past _ _ _ (by simp)).trans ((World.cell?_alloc_at _ _ _ _ rfl).trans rfl))), ((World.cell?_alloc_past _ _ _ (by simp; omega)).trans ((World.cell?_alloc_past _ _ _ (by simp)).trans ((World.cell?_alloc_at _ _ _ _ rfl).trans rfl))), ?_, ?_, ?_, (((Below.refl _ _).alloc (Nat.le_refl _) _).alloc (by simp) _).alloc (by simp; omega) _, by simp⟩
    · have h := there_new (w := w.alloc (.cells #[.int .i64 kd, .bool bb, .int .i64 ni, .float .f64 f, .string tx, .string ty, .slice ai nI ci, .slice af nf cf] 27)) (Z := #[.int .i64 0, .bool false, .int .i64 0, .float .f64 0, .string { data := #[] }, .string { data := #[] }, .slice none 0 0, .slice none 0 0]) (t := 27) (n := 8) rfl
      exact World.there_alloc (by simpa using h) _
    · intro j u hu
      rw [Nat.zero_add, World.cell?_alloc_at _ _ _ _ (by simp)]
      simpa using hu
    · have h := there_new (w := (w.alloc (.cells #[.int .i64 kd, .bool bb, .int .i64 ni, .float .f64 f, .string tx, .string ty, .slice ai nI ci, .slice af nf cf] 27)).alloc (.cells #[.int .i64 0, .bool false, .int .i64 0, .float .f64 0, .string { data := #[] }, .string { data := #[] }, .slice none 0 0, .slice none 0 0] 27)) (Z := #[.int .i64 kd, .bool bb, .int .i64 ni, .float .f64 f, .string tx, .string ty, .slice none 0 0, .slice none 0 0]) (t := 27) (n := 8) rfl
      simpa using h
  have EW := hide eW
  have HH := hide (And.intro hI (And.intro hF (And.intro hl1 (And.intro hl2 (And.intro hlI hlF)))))
  have HK := hide (And.intro hni (And.intro hnf (And.intro hk1 (And.intro hk2 (And.intro hk3 hk4)))))
  have bI : nI ≤ 1256584717458 := by omega
  have bF : nf ≤ 1099511627776 := by omega
  clear eW hI hF hl1 hl2 hlI hlF hni hnf hk1 hk2 hk3 hk4 hci hcf hai haf
  go_enter Try.func33, Try.ntmps33
  go_wp2_with fail
  rw [← unhide EW]
  clear EW
  go_loopw [4] (fun vi wr => ∃ (k : Nat) (sl : Value) (G : List Nat), k ≤ nI ∧ vi = .int .i64 k ∧ Hid (Vars w kd bb ni f tx ty ai nI ci af nf cf sl (.slice none 0 0) wr) ∧ Hid (Grow OwC 27 8 wr (w.heap.size + 3) (its.list.take k) sl G)) (fun vi _ => nI - (intOf vi).toNat)
  case atStart => exact ⟨0, .slice none 0 0, [], Nat.zero_le _, rfl, hide hV0, hide (by rw [List.take_zero]; exact Grow.nil)⟩
  case round =>
    obtain ⟨k, sl, G, hk, rfl, hV, hG⟩ := hrel
    have x6 := (unhide hV).x6
    have x7 := (unhide hV).x7
    by_cases hlt : k < nI
    · have ki : (k : Int) < (nI : Int) := by omega
      obtain ⟨p, off, v, us, rfl, hg, hr, hv⟩ := VlsAt.get its _ nI (unhide HH).1 k hlt
      have hcop := hide (ihI v (List.mem_of_getElem? hg) (hsI.all v (List.mem_of_getElem? hg)) us)
      have hr' := hide (Row8.below hr (unhide hV).bel)
      have hv' := hide (VlC.below (unhide hV).bel v us hv)
      have iu := hide (show (Try.prog.info? 27).map (·.size) = some us.length by rw [hv.cells]; exact infoV)
      have Hg := hide hg
      clear hr hv hg
      go_wp2_with (first
        | refine wpList_load_mid (by rfl) 27 _ (by rfl) p (off + k * 8) (by rfl) us _ (unhide hr') Try.underlying27 (by rfl) (unhide iu) ?_)
      refine ((unhide hcop) wr (unhide hv')).mono ?_
      rintro e w1 ⟨ds, F, rfl, hO1, hnd1, hF1, b1, z1⟩
      obtain ⟨V, eV⟩ : ∃ V, V = (w1.alloc (.cells #[.int .i64 0, .bool false, .int .i64 0, .float .f64 0, .string { data := #[] }, .string { data := #[] }, .slice none 0 0, .slice none 0 0] 27)).setCells w1.heap.size 0 ds := ⟨_, rfl⟩
      have d8 := (OwC.read v ds F hO1).cells
      have d1 := (OwC.read v ds F hO1).one
      have th : (w1.alloc (.cells #[.int .i64 0, .bool false, .int .i64 0, .float .f64 0, .string { data := #[] }, .string { data := #[] }, .slice none 0 0, .slice none 0 0] 27)).there w1.heap.size 0 ds.toArray.size := there_new (by simp [d8])
      have b2 : Below w1.heap.size w1 V := by rw [eV]; exact below_setCells _ _ _ _ ((Below.refl _ _).alloc (Nat.le_refl _) _) (Nat.le_refl _)
      have hrV : V.rangeAt w1.heap.size 0 ds := by rw [eV]; exact World.rangeAt_setCells_same _ _ _ _ (by simpa using th)
      have s1 := b1.size
      have s2 := b2.size
      have sV := (unhide hV).siz
      have V2 := ((unhide hV).below (b1.mono sV)).below (b2.mono (by omega))
      have G2 := ((unhide hG).below agV b1).below agV b2
      have O2 : OwC V v ds F := OwC.agree v ds F (Agree.of_below b2 (fun b hb => (hF1 b hb).2)) hO1
      have z2 := z1.below b2 (fun b hb => (hF1 b hb).2)
      have hown := fun b (hb : sl.ownBlock = some b) => (let ⟨xss, hr, _⟩ := (unhide hG).row; (hr.lt b hb).2)
      have hr2 : ∀ b ∈ F, w.heap.size + 3 ≤ b ∧ b < V.heap.size ∧ b ∉ G ∧ sl.ownBlock ≠ some b := fun b hb => by
        have h1 := hF1 b hb
        refine ⟨by omega, by omega, fun h => ?_, fun h => ?_⟩
        · have := ((unhide hG).rng b h).2; omega
        · have := hown b h; omega
      have c6 : V.cell? ⟨w.heap.size + 1 + 1, 6, none⟩ = some sl := V2.row 6 _ rfl
      have hlen : (its.list.take k).length = k := by rw [List.length_take, (unhide HH).2.2.2.2.1]; omega
      obtain ⟨i0, z0', hi0, hz0, hs0, hb0, hc0⟩ := infoVz
      have i8 : (Try.prog.info? 27).map (·.size) = some ds.toArray.size := by simp [d8, infoV]
      have i8' : (Try.prog.info? 27).map (·.size) = some ds.length := by rw [d8]; exact infoV
      have hone : ∀ u ∈ ds, u.oneCell' = true := fun u hu => (Array.all_eq_true_iff_forall_mem.1 d1) u (by simpa using hu)
      have hby : ((its.list.take k).length + 1) * 112 ≤ 140737488355328 := by rw [hlen]; omega
      have hml : (its.list.take k).length + 1 ≤ maxLen := by rw [hlen]; unfold maxLen; omega
      have hbd := buildV (OwC.read v ds F hO1)
      have hBV : w.heap.size + 3 ≤ V.heap.size := by omega
      have A := hide (And.intro th (And.intro hrV (And.intro i8 (And.intro i8' (And.intro hone (And.intro hby (And.intro hml hbd)))))))
      have C := hide (And.intro hi0 (And.intro hz0 (And.intro hs0 (And.intro hb0 hc0))))
      have D := hide (And.intro V2 (And.intro G2 (And.intro O2 (And.intro z2 (And.intro hr2 hnd1)))))
      have EV := hide eV
      have EL := hide hlen
      clear th hrV i8 i8' hone hby hml hbd hi0 hz0 hs0 hb0 hc0 V2 G2 O2 z2 hr2 hnd1 eV hO1 d8 hF1 z1 hown hlen x6 x7 hr' hv' iu hcop b1 b2
      have dl : ds.length = 8 := by have := (unhide A).2.2.2.1; rw [infoV] at this; exact (Option.some.inj this).symm
      have DL := hide dl
      clear dl
      go_wp2_with (first
        | (refine wpList_store_mid (by rfl) 27 _ _ (by rfl) w1.heap.size 0 ds.toArray (by rfl) (by rfl) (unhide A).1 (unhide A).2.2.1 d1 ?_; rw [show (w1.alloc (.cells #[.int .i64 0, .bool false, .int .i64 0, .float .f64 0, .string { data := #[] }, .string { data := #[] }, .slice none 0 0, .slice none 0 0] 27)).setCells w1.heap.size 0 ds.toArray.toList = V from (unhide EV).symm])
        | refine wpList_load_mid (by rfl) 27 _ (by rfl) w1.heap.size 0 (by rfl) ds _ (unhide A).2.1 Try.underlying27 (by rfl) (unhide A).2.2.2.1 ?_
        | refine wpList_buildOne (by rfl) 24 _ (by rfl) (.agg ds.toArray) _ (by rfl) ((unhide A).2.2.2.2.2.2.2 V) ?_
        | (at_builtin; refine wp_grow agV (by rfl) _ _ (by rfl) Try.underlying24 (unhide C).1 (unhide C).2.1 (unhide C).2.2.1 (unhide C).2.2.2.1 (unhide C).2.2.2.2 (by omega) (w.heap.size + 3) (its.list.take k) sl G (by rfl) (unhide D).2.1 v ds F (unhide D).2.2.1 (unhide DL) (unhide A).2.2.2.2.1 (unhide D).2.2.2.2.2 (unhide D).2.2.2.2.1 (unhide D).2.2.2.1 V.heap.size rfl (by rfl) (unhide A).2.2.2.2.2.1 (unhide A).2.2.2.2.2.2.1 hBV ?_; intro sl' w4 g4 b4; obtain ⟨aj, nj, cj, rfl⟩ := g4.form; have V4 := (unhide D).1.below b4; have e6 : w4.cell? ⟨w.heap.size + 1 + 1, 6, none⟩ = some sl := V4.row 6 _ rfl; have f6 : w4.frozen? ⟨w.heap.size + 1 + 1, 6, none⟩ = false := (V4.may 6 (by omega)).2; have HV4 := hide V4; have HG4 := hide g4; clear V4 g4))
      refine ⟨⟨k + 1, .slice aj nj cj, G ++ F, by omega, by go_num, hide ((unhide HV4).put6 _), hide ?_⟩, by simp only [intOf]; omega⟩
      rw [List.take_add_one, unhide Hg]
      exact Grow.setCells agV (unhide HG4) (w.heap.size + 1 + 1) 6 [.slice aj nj cj] (by omega)
    · obtain rfl : k = nI := by omega
      have hG' := hide (show Grow OwC 27 8 wr (w.heap.size + 3) its.list sl G by have := unhide hG; rwa [List.take_of_length_le (Nat.le_of_eq (unhide HH).2.2.2.2.1)] at this)
      clear hG
      go_wp2_with fail
      have hM0 := (unhide hV).siz
      have hGM : ∀ b, (b ∈ G ∨ sl.ownBlock = some b) → b < wr.heap.size := fun b hb => by
        rcases hb with hb | hb
        · exact ((unhide hG').rng b hb).2
        · obtain ⟨xss, hr, _⟩ := (unhide hG').row
          exact (hr.lt b hb).2
      have HGM := hide hGM
      clear hGM x6 x7 hlt
      obtain ⟨M, eM⟩ : ∃ M, M = wr.heap.size := ⟨_, rfl⟩
      rw [← eM] at hM0 HGM
      go_loopw [6] (fun vi wr' => ∃ (q : Nat) (sm : Value) (H : List Nat), q ≤ nf ∧ vi = .int .i64 q ∧ Hid (Vars w kd bb ni f tx ty ai k ci af nf cf sl sm wr') ∧ Hid (Grow OwC 27 8 wr' (w.heap.size + 3) its.list sl G) ∧ Hid (Grow OwM 68 9 wr' M (fls.list.take q) sm H) ∧ M ≤ wr'.heap.size) (fun vi _ => nf - (intOf vi).toNat)
      case atStart => exact ⟨0, .slice none 0 0, [], Nat.zero_le _, rfl, hV, hG', hide (by rw [List.take_zero]; exact Grow.nil), Nat.le_of_eq eM⟩
      case round =>
        clear hV hG' eM hk
        obtain ⟨q, sm, H, hq, rfl, hV, hG', hH, hMs⟩ := hrel
        have x6 := (unhide hV).x6
        have x7 := (unhide hV).x7
        by_cases hlt : q < nf
        · have ki : (q : Int) < (nf : Int) := by omega
          obtain ⟨p, off, nm, v, us, rfl, hg, hn0, hnz, hr, hv⟩ := FlsAt.get fls _ nf (unhide HH).2.1 q hlt
          have hcop := hide (ihF (nm, v) (List.mem_of_getElem? hg) (hsF.all (nm, v) (List.mem_of_getElem? hg)) us)
          have hr' := hide (Row8.below hr (unhide hV).bel)
          have hv' := hide (VlC.below (unhide hV).bel v us hv)
          have iu := hide (show (Try.prog.info? 27).map (·.size) = some us.length by rw [hv.cells]; exact infoV)
          have hpl := World.block_lt_of_cell? w _ hn0
          have hn1 := hide (keepC (unhide hV).bel hpl hn0)
          have Hg := hide hg
          clear hr hv hg hn0
          go_wp2_with (first
            | refine wpList_load_mid (by rfl) 27 _ (by rfl) p (off + q * 9 + 1) (by rfl) us _ (unhide hr') Try.underlying27 (by rfl) (unhide iu) ?_)
          refine ((unhide hcop) wr (unhide hv')).mono ?_
          rintro e w1 ⟨ds, F, rfl, hO1, hnd1, hF1, b1, z1⟩
          obtain ⟨V, eV⟩ : ∃ V, V = (w1.alloc (.cells #[.int .i64 0, .bool false, .int .i64 0, .float .f64 0, .string { data := #[] }, .string { data := #[] }, .slice none 0 0, .slice none 0 0] 27)).setCells w1.heap.size 0 ds := ⟨_, rfl⟩
          have d8 := (OwC.read v ds F hO1).cells
          have d1 := (OwC.read v ds F hO1).one
          have th : (w1.alloc (.cells #[.int .i64 0, .bool false, .int .i64 0, .float .f64 0, .string { data := #[] }, .string { data := #[] }, .slice none 0 0, .slice none 0 0] 27)).there w1.heap.size 0 ds.toArray.size := there_new (by simp [d8])
          have b2 : Below w1.heap.size w1 V := by rw [eV]; exact below_setCells _ _ _ _ ((Below.refl _ _).alloc (Nat.le_refl _) _) (Nat.le_refl _)
          have hrV : V.rangeAt w1.heap.size 0 ds := by rw [eV]; exact World.rangeAt_setCells_same _ _ _ _ (by simpa using th)
          have sV1 : V.heap.size = w1.heap.size + 1 := by rw [eV, size_setCells]; simp
          have s1 := b1.size
          have sV := (unhide hV).siz
          have V2 := ((unhide hV).below (b1.mono sV)).below (b2.mono (by omega))
          have G2 := ((unhide hG').below agV b1).below agV b2
          have H2 := ((unhide hH).below agM b1).below agM b2
          have O2 : OwC V v ds F := OwC.agree v ds F (Agree.of_below b2 (fun b hb => (hF1 b hb).2)) hO1
          have z2 := z1.below b2 (fun b hb => (hF1 b hb).2)
          have hown := fun b (hb : sm.ownBlock = some b) => (let ⟨xss, hr, _⟩ := (unhide hH).row; (hr.lt b hb).2)
          have hr2 : ∀ b ∈ F, M ≤ b ∧ b < V.heap.size ∧ b ∉ H ∧ sm.ownBlock ≠ some b := fun b hb => by
            have h1 := hF1 b hb
            refine ⟨by omega, by omega, fun h => ?_, fun h => ?_⟩
            · have := ((unhide hH).rng b h).2; omega
            · have := hown b h; omega
          have hlen : (fls.list.take q).length = q := by rw [List.length_take, (unhide HH).2.2.2.2.2]; omega
          obtain ⟨i0, z0', hi0, hz0, hs0, hb0, hc0⟩ := infoMz
          have i8 : (Try.prog.info? 27).map (·.size) = some ds.toArray.size := by simp [d8, infoV]
          have hn2 := keepC b2 (by omega) (keepC b1 (by have := (unhide hV).bel.size; omega) (unhide hn1))
          have A := hide (And.intro th (And.intro hrV i8))
          have EV := hide eV
          have HV2 := hide V2
          clear eV hrV i8 th V2 x6 x7 hr' hv' iu hcop hn1
          go_wp2_with (first
            | (refine wpList_store_mid (by rfl) 27 _ _ (by rfl) w1.heap.size 0 ds.toArray (by rfl) (by rfl) (unhide A).1 (unhide A).2.2 d1 ?_; rw [show (w1.alloc (.cells #[.int .i64 0, .bool false, .int .i64 0, .float .f64 0, .string { data := #[] }, .string { data := #[] }, .slice none 0 0, .slice none 0 0] 27)).setCells w1.heap.size 0 ds.toArray.toList = V from (unhide EV).symm]))
          have hS0 : Below (w.heap.size + 1 + 1) V { V with drawn := V.drawn + 1 } ∧ ({ V with drawn := V.drawn + 1 } : World).rangeAt w1.heap.size 0 ds := ⟨(Below.refl _ _).drew, (unhide A).2.1⟩
          have y7 := (unhide HV2).x7
          have i8' : (Try.prog.info? 27).map (·.size) = some ds.length := by rw [d8]; exact infoV
          refine wp_region_noPanic ?_
          refine wp_region_held (S := fun w' => Below (w.heap.size + 1 + 1) V w' ∧ w'.rangeAt w1.heap.size 0 ds) mixed ?_
          refine wpAnyH_take (i := 0) (v := ?v1) rfl (by kernel_rfl) (by kernel_rfl) (by kernel_rfl) (fun _ _ _ h => h) (Or.inl ⟨by rfl, ?hy1⟩) hS0 ?_
          case hy1 => (intro w' hw';  go_simp; try with_reducible rfl)
          simp only [List.getElem_toArray, List.getElem_cons_zero, List.getElem_cons_succ, Act.put, List.setIfInBounds_toArray, List.set_cons_zero, List.set_cons_succ]
          refine wpAnyH_take (i := 2) (v := ?v2) rfl (by kernel_rfl) (by kernel_rfl) (by kernel_rfl) (fun _ _ _ h => h) (Or.inl ⟨by rfl, ?hy2⟩) hS0 ?_
          case hy2 => (intro w' hw'; have c7 := (hw'.1.cell (p := ⟨w.heap.size, 7, none⟩) (show w.heap.size < w.heap.size + 1 + 1 by omega)).trans y7; have cn := (hw'.1.cell (p := ⟨p, off + q * 9, none⟩) (show p < w.heap.size + 1 + 1 by omega)).trans hn2; go_simp; try with_reducible rfl)
          simp only [List.getElem_toArray, List.getElem_cons_zero, List.getElem_cons_succ, Act.put, List.setIfInBounds_toArray, List.set_cons_zero, List.set_cons_succ]
          refine wpAnyH_take (i := 3) (v := ?v3) rfl (by kernel_rfl) (by kernel_rfl) (by kernel_rfl) (fun _ _ _ h => h) (Or.inl ⟨by rfl, ?hy3⟩) hS0 ?_
          case hy3 => (intro w' hw'; have c7 := (hw'.1.cell (p := ⟨w.heap.size, 7, none⟩) (show w.heap.size < w.heap.size + 1 + 1 by omega)).trans y7; have cn := (hw'.1.cell (p := ⟨p, off + q * 9, none⟩) (show p < w.heap.size + 1 + 1 by omega)).trans hn2; go_simp; try with_reducible rfl)
          simp only [List.getElem_toArray, List.getElem_cons_zero, List.getElem_cons_succ, Act.put, List.setIfInBounds_toArray, List.set_cons_zero, List.set_cons_succ]
          refine wpAnyH_take (i := 4) (v := ?v4) rfl (by kernel_rfl) (by kernel_rfl) (by kernel_rfl) (fun _ _ _ h => h) (Or.inl ⟨by rfl, ?hy4⟩) hS0 ?_
          case hy4 => (intro w' hw'; have c7 := (hw'.1.cell (p := ⟨w.heap.size, 7, none⟩) (show w.heap.size < w.heap.size + 1 + 1 by omega)).trans y7; have cn := (hw'.1.cell (p := ⟨p, off + q * 9, none⟩) (show p < w.heap.size + 1 + 1 by omega)).trans hn2; go_simp; try with_reducible rfl)
          simp only [List.getElem_toArray, List.getElem_cons_zero, List.getElem_cons_succ, Act.put, List.setIfInBounds_toArray, List.set_cons_zero, List.set_cons_succ]
          refine wpAnyH_take (i := 5) (v := ?v5) rfl (by kernel_rfl) (by kernel_rfl) (by kernel_rfl) (fun _ _ _ h => h) (Or.inl ⟨by rfl, ?hy5⟩) hS0 ?_
          case hy5 => (intro w' hw'; have c7 := (hw'.1.cell (p := ⟨w.heap.size, 7, none⟩) (show w.heap.size < w.heap.size + 1 + 1 by omega)).trans y7; have cn := (hw'.1.cell (p := ⟨p, off + q * 9, none⟩) (show p < w.heap.size + 1 + 1 by omega)).trans hn2; go_simp; try with_reducible rfl)
          simp only [List.getElem_toArray, List.getElem_cons_zero, List.getElem_cons_succ, Act.put, List.setIfInBounds_toArray, List.set_cons_zero, List.set_cons_succ]
          refine wpAnyH_take (i := 6) (v := ?v6) rfl (by kernel_rfl) (by kernel_rfl) (by kernel_rfl) (fun _ _ _ h => h) (Or.inl ⟨by rfl, ?hy6⟩) hS0 ?_
          case hy6 => (intro w' hw'; have c7 := (hw'.1.cell (p := ⟨w.heap.size, 7, none⟩) (show w.heap.size < w.heap.size + 1 + 1 by omega)).trans y7; have cn := (hw'.1.cell (p := ⟨p, off + q * 9, none⟩) (show p < w.heap.size + 1 + 1 by omega)).trans hn2; go_simp; try with_reducible rfl)
          simp only [List.getElem_toArray, List.getElem_cons_zero, List.getElem_cons_succ, Act.put, List.setIfInBounds_toArray, List.set_cons_zero, List.set_cons_succ]
          refine wpAnyH_take (i := 7) (v := ?v7) rfl (by kernel_rfl) (by kernel_rfl) (by kernel_rfl) (fun _ _ _ h => h) (Or.inl ⟨by rfl, ?hy7⟩) hS0 ?_
          case hy7 => (intro w' hw'; have c7 := (hw'.1.cell (p := ⟨w.heap.size, 7, none⟩) (show w.heap.size < w.heap.size + 1 + 1 by omega)).trans y7; have cn := (hw'.1.cell (p := ⟨p, off + q * 9, none⟩) (show p < w.heap.size + 1 + 1 by omega)).trans hn2; go_simp; try with_reducible rfl)
          simp only [List.getElem_toArray, List.getElem_cons_zero, List.getElem_cons_succ, Act.put, List.setIfInBounds_toArray, List.set_cons_zero, List.set_cons_succ]
          refine wpAnyH_take (i := 8) rfl (by kernel_rfl) (by kernel_rfl) (by kernel_rfl) (fun _ _ _ h => h) (yieldsIf_load_mid (by rfl) 27 _ (by rfl) w1.heap.size 0 (by rfl) ds _ (fun w' hw' => hw'.2) Try.underlying27 (by rfl) i8') hS0 ?_
          simp only [List.getElem_toArray, List.getElem_cons_zero, List.getElem_cons_succ, Act.put, List.setIfInBounds_toArray, List.set_cons_zero, List.set_cons_succ]
          refine rgn.take (i := 9) _ (.agg (Value.string nm :: ds).toArray) rfl (by kernel_rfl) (by kernel_rfl) (by kernel_rfl) (fun _ _ _ h => h) (by rfl) hS0 (fun w' hw' => by
            have hO4 := hO1
            clear hO1 d8 d1 A O2 G2 H2 hr2 hS0 i8' hw' EV sV1
            obtain ⟨kd, bb, ni, f, tx, ty, its, fls⟩ := v
            unfold OwC at hO4
            obtain ⟨ai, nI, ci, af, nf, cf, Fi, Ff, rfl, -⟩ := hO4
            go_simp) ?_
          simp only [List.getElem_toArray, List.getElem_cons_zero, List.getElem_cons_succ, Act.put, List.setIfInBounds_toArray, List.set_cons_zero, List.set_cons_succ]
          have hone : ∀ u ∈ (Value.string nm :: ds), u.oneCell' = true := fun u hu => (Array.all_eq_true_iff_forall_mem.1 (one9 nm (OwC.read v ds F hO1))) u (by simpa using hu)
          have hby : ((fls.list.take q).length + 1) * 128 ≤ 140737488355328 := by rw [hlen]; omega
          have hml : (fls.list.take q).length + 1 ≤ maxLen := by rw [hlen]; unfold maxLen; omega
          have hbd := buildM nm (OwC.read v ds F hO1) ({ V with drawn := V.drawn + 1 } : World)
          have hOM : OwM ({ V with drawn := V.drawn + 1 } : World) (nm, v) (Value.string nm :: ds) F := ⟨ds, rfl, hnz, OwC.agree v ds F (show Agree F V ({ V with drawn := V.drawn + 1 } : World) from fun b _ j => rfl) O2⟩
          have hH3 : Grow OwM 68 9 ({ V with drawn := V.drawn + 1 } : World) M (fls.list.take q) sm H := H2.keep agM (Nat.le_refl _) (fun b _ _ _ => rfl)
          have hMV : M ≤ V.heap.size := by omega
          have c7m : V.cell? ⟨w.heap.size + 1 + 1, 7, none⟩ = some sm := (unhide HV2).row 7 _ rfl
          have hl9 : (Value.string nm :: ds).length = 9 := by simp [d8]
          obtain ⟨X, eX⟩ : ∃ X, X = ({ V with drawn := V.drawn + 1 } : World).alloc (.cells (Value.string nm :: ds).toArray 68) := ⟨_, rfl⟩
          have hSX : Below (w.heap.size + 1 + 1) V X ∧ X.rangeAt w1.heap.size 0 ds := by
            rw [eX]
            refine ⟨hS0.1.alloc (show w.heap.size + 1 + 1 ≤ V.heap.size by omega) _, World.rangeAt_alloc hS0.2 _⟩
          have bX : Below V.heap.size V X := by rw [eX]; exact (Below.refl V.heap.size V).drew.alloc (Nat.le_refl _) _
          have c7x := keepC bX (show w.heap.size + 1 + 1 < V.heap.size by omega) c7m
          refine rgn.two (i := 1) (j := 10) _ _ rfl rfl (by kernel_rfl) (by rfl) (by rfl) ?_ ?_
          · simp only [List.getElem_toArray, List.getElem_cons_zero, List.getElem_cons_succ, Act.put, List.setIfInBounds_toArray, List.set_cons_zero, List.set_cons_succ]
            clear c7x
            go_wp2_with fail
            refine ⟨hS0, ?_⟩
            refine rgn.one (i := 10) _ rfl (by kernel_rfl) (by rfl) ?_
            simp only [List.getElem_toArray, List.getElem_cons_zero, List.getElem_cons_succ, Act.put, List.setIfInBounds_toArray, List.set_cons_zero, List.set_cons_succ]
            refine wpO_buildOne 25 _ (by rfl) (.agg (Value.string nm :: ds).toArray) _ (by rfl) hbd ?_
            rw [← eX]
            refine ⟨hSX, ?_⟩
            simp only [List.getElem_toArray, List.getElem_cons_zero, List.getElem_cons_succ, Act.put, List.setIfInBounds_toArray, List.set_cons_zero, List.set_cons_succ]
            refine rgn.one (i := 11) _ rfl (by kernel_rfl) (by rfl) ?_
            simp only [List.getElem_toArray, List.getElem_cons_zero, List.getElem_cons_succ, Act.put, List.setIfInBounds_toArray, List.set_cons_zero, List.set_cons_succ]
            rw [eX]
            refine wpO_grow agM _ _ (by rfl) Try.underlying25 hi0 hz0 hs0 hb0 hc0 (by omega) M (fls.list.take q) sm H (by rfl) hH3 (nm, v) (Value.string nm :: ds) F hOM hl9 hone hnd1 hr2 (fun b hb j => z2 b hb j) V.heap.size rfl (by rfl) hby hml hMV ?_
            intro sl' w4 g4 b4 far
            obtain ⟨aj, nj, cj, rfl⟩ := g4.form
            have b4' : Below M V w4 := (Below.refl _ _).drew.trans b4
            have hS4 : Below (w.heap.size + 1 + 1) V w4 ∧ w4.rangeAt w1.heap.size 0 ds := ⟨b4'.mono (by omega), fun j u hu => by
              rw [cell_blk (far w1.heap.size (show w1.heap.size < V.heap.size by omega) (fun h => by have := hown _ h; omega)) (0 + j)]
              exact (unhide A).2.1 j u hu⟩
            have V4 := (unhide HV2).below (b4'.mono hM0)
            have e7 : w4.cell? ⟨w.heap.size + 1 + 1, 7, none⟩ = some sm := V4.row 7 _ rfl
            have f7 : w4.frozen? ⟨w.heap.size + 1 + 1, 7, none⟩ = false := (V4.may 7 (by omega)).2
            refine ⟨hS4, ?_⟩
            have hS0 := hS4
            simp only [List.getElem_toArray, List.getElem_cons_zero, List.getElem_cons_succ, Act.put, List.setIfInBounds_toArray, List.set_cons_zero, List.set_cons_succ]
            refine rgn.take (i := 12) _ (.pointer (some ⟨w.heap.size + 1 + 1, 7, none⟩)) rfl (by kernel_rfl) (by kernel_rfl) (by kernel_rfl) (fun _ _ _ h => h) (by rfl) hS0 (fun w' hw' => by go_simp) ?_
            simp only [List.getElem_toArray, List.getElem_cons_zero, List.getElem_cons_succ, Act.put, List.setIfInBounds_toArray, List.set_cons_zero, List.set_cons_succ]
            refine rgn.one (i := 13) _ rfl (by kernel_rfl) (by rfl) ?_
            simp only [List.getElem_toArray, List.getElem_cons_zero, List.getElem_cons_succ, Act.put, List.setIfInBounds_toArray, List.set_cons_zero, List.set_cons_succ]
            have V5 := V4.put7 (.slice aj nj cj)
            have G5 : Grow OwC 27 8 (w4.setCells (w.heap.size + 1 + 1) 7 [.slice aj nj cj]) (w.heap.size + 3) its.list sl G := Grow.setCells agV (G2.keep agV b4'.size (fun b hb _ hm => b4'.block b (unhide HGM b hm))) _ _ _ (by omega)
            have H5 : Grow OwM 68 9 (w4.setCells (w.heap.size + 1 + 1) 7 [.slice aj nj cj]) M (fls.list.take q ++ [(nm, v)]) (.slice aj nj cj) (H ++ F) := Grow.setCells agM g4 _ _ _ (by omega)
            have hS5 : Below (w.heap.size + 1 + 1) V (w4.setCells (w.heap.size + 1 + 1) 7 [.slice aj nj cj]) ∧ (w4.setCells (w.heap.size + 1 + 1) 7 [.slice aj nj cj]).rangeAt w1.heap.size 0 ds := ⟨below_setCells _ _ _ _ hS4.1 (Nat.le_refl _), fun j u hu => by
              rw [World.cell?_setCells_out _ _ _ _ _ (fun e _ => by have e : w1.heap.size = w.heap.size + 1 + 1 := e; omega)]
              exact hS4.2 j u hu⟩
            have hs5 : M ≤ (w4.setCells (w.heap.size + 1 + 1) 7 [.slice aj nj cj]).heap.size := by rw [size_setCells]; exact Nat.le_trans hMV b4'.size
            have HF := hide (And.intro V5 (And.intro G5 (And.intro H5 (And.intro hS5 hs5))))
            clear V5 G5 H5 hS5 hs5 V4 hS4 hS0 g4 b4 b4' far hSX eX
            go_wp2_with fail
            refine ⟨(unhide HF).2.2.2.1, ?_⟩
            refine wpAnyH_done (by kernel_rfl) ?_ _
            refine NoPanic.normal ?_
            go_wp2
            exact ⟨⟨q + 1, .slice aj nj cj, H ++ F, by omega, by go_num, hide (unhide HF).1, hide (unhide HF).2.1, hide (by rw [List.take_add_one, unhide Hg]; exact (unhide HF).2.2.1), (unhide HF).2.2.2.2⟩, by simp only [intOf]; omega⟩
          · simp only [List.getElem_toArray, List.getElem_cons_zero, List.getElem_cons_succ, Act.put, List.setIfInBounds_toArray, List.set_cons_zero, List.set_cons_succ]
            refine wpO_buildOne 25 _ (by rfl) (.agg (Value.string nm :: ds).toArray) _ (by rfl) hbd ?_
            rw [← eX]
            refine ⟨hSX, ?_⟩
            simp only [List.getElem_toArray, List.getElem_cons_zero, List.getElem_cons_succ, Act.put, List.setIfInBounds_toArray, List.set_cons_zero, List.set_cons_succ]
            refine rgn.one (i := 1) _ rfl (by kernel_rfl) (by rfl) ?_
            simp only [List.getElem_toArray, List.getElem_cons_zero, List.getElem_cons_succ, Act.put, List.setIfInBounds_toArray, List.set_cons_zero, List.set_cons_succ]
            refine wpO_load1 25 _ (by rfl) _ sm (by rfl) (loadSM X (w.heap.size + 1 + 1) 7 sm c7x) ?_
            refine ⟨hSX, ?_⟩
            simp only [List.getElem_toArray, List.getElem_cons_zero, List.getElem_cons_succ, Act.put, List.setIfInBounds_toArray, List.set_cons_zero, List.set_cons_succ]
            refine rgn.one (i := 11) _ rfl (by kernel_rfl) (by rfl) ?_
            simp only [List.getElem_toArray, List.getElem_cons_zero, List.getElem_cons_succ, Act.put, List.setIfInBounds_toArray, List.set_cons_zero, List.set_cons_succ]
            rw [eX]
            refine wpO_grow agM _ _ (by rfl) Try.underlying25 hi0 hz0 hs0 hb0 hc0 (by omega) M (fls.list.take q) sm H (by rfl) hH3 (nm, v) (Value.string nm :: ds) F hOM hl9 hone hnd1 hr2 (fun b hb j => z2 b hb j) V.heap.size rfl (by rfl) hby hml hMV ?_
            intro sl' w4 g4 b4 far
            obtain ⟨aj, nj, cj, rfl⟩ := g4.form
            have b4' : Below M V w4 := (Below.refl _ _).drew.trans b4
            have hS4 : Below (w.heap.size + 1 + 1) V w4 ∧ w4.rangeAt w1.heap.size 0 ds := ⟨b4'.mono (by omega), fun j u hu => by
              rw [cell_blk (far w1.heap.size (show w1.heap.size < V.heap.size by omega) (fun h => by have := hown _ h; omega)) (0 + j)]
              exact (unhide A).2.1 j u hu⟩
            have V4 := (unhide HV2).below (b4'.mono hM0)
            have e7 : w4.cell? ⟨w.heap.size + 1 + 1, 7, none⟩ = some sm := V4.row 7 _ rfl
            have f7 : w4.frozen? ⟨w.heap.size + 1 + 1, 7, none⟩ = false := (V4.may 7 (by omega)).2
            refine ⟨hS4, ?_⟩
            have hS0 := hS4
            simp only [List.getElem_toArray, List.getElem_cons_zero, List.getElem_cons_succ, Act.put, List.setIfInBounds_toArray, List.set_cons_zero, List.set_cons_succ]
            refine rgn.take (i := 12) _ (.pointer (some ⟨w.heap.size + 1 + 1, 7, none⟩)) rfl (by kernel_rfl) (by kernel_rfl) (by kernel_rfl) (fun _ _ _ h => h) (by rfl) hS0 (fun w' hw' => by go_simp) ?_
            simp only [List.getElem_toArray, List.getElem_cons_zero, List.getElem_cons_succ, Act.put, List.setIfInBounds_toArray, List.set_cons_zero, List.set_cons_succ]
            refine rgn.one (i := 13) _ rfl (by kernel_rfl) (by rfl) ?_
            simp only [List.getElem_toArray, List.getElem_cons_zero, List.getElem_cons_succ, Act.put, List.setIfInBounds_toArray, List.set_cons_zero, List.set_cons_succ]
            have V5 := V4.put7 (.slice aj nj cj)
            have G5 : Grow OwC 27 8 (w4.setCells (w.heap.size + 1 + 1) 7 [.slice aj nj cj]) (w.heap.size + 3) its.list sl G := Grow.setCells agV (G2.keep agV b4'.size (fun b hb _ hm => b4'.block b (unhide HGM b hm))) _ _ _ (by omega)
            have H5 : Grow OwM 68 9 (w4.setCells (w.heap.size + 1 + 1) 7 [.slice aj nj cj]) M (fls.list.take q ++ [(nm, v)]) (.slice aj nj cj) (H ++ F) := Grow.setCells agM g4 _ _ _ (by omega)
            have hS5 : Below (w.heap.size + 1 + 1) V (w4.setCells (w.heap.size + 1 + 1) 7 [.slice aj nj cj]) ∧ (w4.setCells (w.heap.size + 1 + 1) 7 [.slice aj nj cj]).rangeAt w1.heap.size 0 ds := ⟨below_setCells _ _ _ _ hS4.1 (Nat.le_refl _), fun j u hu => by
              rw [World.cell?_setCells_out _ _ _ _ _ (fun e _ => by have e : w1.heap.size = w.heap.size + 1 + 1 := e; omega)]
              exact hS4.2 j u hu⟩
            have hs5 : M ≤ (w4.setCells (w.heap.size + 1 + 1) 7 [.slice aj nj cj]).heap.size := by rw [size_setCells]; exact Nat.le_trans hMV b4'.size
            have HF := hide (And.intro V5 (And.intro G5 (And.intro H5 (And.intro hS5 hs5))))
            clear V5 G5 H5 hS5 hs5 V4 hS4 hS0 g4 b4 b4' far hSX eX
            go_wp2_with fail
            refine ⟨(unhide HF).2.2.2.1, ?_⟩
            refine wpAnyH_done (by kernel_rfl) ?_ _
            refine NoPanic.normal ?_
            go_wp2
            exact ⟨⟨q + 1, .slice aj nj cj, H ++ F, by omega, by go_num, hide (unhide HF).1, hide (unhide HF).2.1, hide (by rw [List.take_add_one, unhide Hg]; exact (unhide HF).2.2.1), (unhide HF).2.2.2.2⟩, by simp only [intOf]; omega⟩
        · obtain rfl : q = nf := by omega
          have hH' := hide (show Grow OwM 68 9 wr M fls.list sm H by have := unhide hH; rwa [List.take_of_length_le (Nat.le_of_eq (unhide HH).2.2.2.2.2)] at this)
          clear hH
          obtain ⟨L, eL⟩ : ∃ L : List Value, L = [.int .i64 kd, .bool bb, .int .i64 ni, .float .f64 f, .string tx, .string ty, sl, sm] := ⟨_, rfl⟩
          have hrL : wr.rangeAt (w.heap.size + 1 + 1) 0 L := by rw [eL]; exact (unhide hV).row
          have hL8 : L.length = 8 := by rw [eL]; rfl
          obtain ⟨aj, nj, cj, rfl⟩ := (unhide hG').form
          obtain ⟨ag, ng, cg, rfl⟩ := (unhide hH').form
          have ho8 : L.toArray.all (·.oneCell') = true := by rw [eL]; simp [Value.oneCell']
          have iL : (Try.prog.info? 27).map (·.size) = some L.length := by rw [hL8]; exact infoV
          have iL' : (Try.prog.info? 27).map (·.size) = some L.toArray.size := by simp [hL8, infoV]
          have hT : wr.there (w.heap.size + 1) 0 L.toArray.size := by rw [show L.toArray.size = 8 by simp [hL8]]; exact (unhide hV).res
          have A := hide (And.intro hrL (And.intro iL (And.intro iL' (And.intro hT (And.intro hL8 eL)))))
          clear hrL iL iL' hT hL8 eL
          go_wp2_with (first
            | refine wpList_load_mid (by rfl) 27 _ (by rfl) (w.heap.size + 1 + 1) 0 (by rfl) L _ (unhide A).1 Try.underlying27 (by rfl) (unhide A).2.1 ?_
            | refine wpList_store_mid (by rfl) 27 _ _ (by rfl) (w.heap.size + 1) 0 L.toArray (by rfl) (by rfl) (unhide A).2.2.2.1 (unhide A).2.2.1 ho8 ?_)
          obtain ⟨hrL, iL, iL', hT, hL8, eL⟩ := unhide A
          have V9 := unhide hV
          have hr9 : (wr.setCells (w.heap.size + 1) 0 L).rangeAt (w.heap.size + 1) 0 L := World.rangeAt_setCells_same _ _ _ _ hT
          refine bodyPost_ret (rgn.result_row rfl _ _ (w.heap.size + 1) 0 L _ rfl hr9 Try.underlying27 rfl iL) rfl ?_
          have G9 := Grow.setCells agV (unhide hG') (w.heap.size + 1) 0 L (by omega)
          have H9 := Grow.setCells agM (unhide hH') (w.heap.size + 1) 0 L (by omega)
          have hG6 := unhide HGM
          obtain ⟨aj', cj', Fi, e6, hOI, ndI, rnI, fzI, q1, q2, q3⟩ := G9.parts
          obtain ⟨ag', cg', Ff, e7, hOF, ndF, rnF, fzF, r1, r2, r3⟩ := H9.parts
          simp only [Value.slice.injEq] at e6 e7
          obtain ⟨rfl, rfl, rfl⟩ := e6
          obtain ⟨rfl, rfl, rfl⟩ := e7
          have hfi : ∀ b ∈ Fi, b < M := fun b hb => by
            rcases hOI with ⟨_, _, _, rfl⟩ | ⟨p, xss, hp, rfl, _⟩
            · simp at hb
            · rcases List.mem_cons.1 hb with rfl | hb
              · exact hG6 _ (.inr (by rw [hp]; rfl))
              · exact hG6 b (.inl hb)
          have hsz9 := size_setCells (w.heap.size + 1) L 0 wr
          obtain ⟨_, _, hk1, hk2, hk3, hk4⟩ := unhide HK
          have hlI := (unhide HH).2.2.2.2.1
          have hlF := (unhide HH).2.2.2.2.2
          rw [hlI] at eL q1 hOI
          rw [hlF] at eL r1 hOF
          refine ⟨L, rfl, Fi ++ Ff, ?_, ?_, ?_, below_setCells _ _ _ _ V9.bel (by omega), fzI.app fzF⟩
          · unfold OwC
            refine ⟨_, _, _, _, _, _, Fi, Ff, eL, ?_, ?_, q1, r1, q2, r2, hk1, hk2, hk3, hk4, q3, r3, rfl⟩
            · rcases hOI with ⟨h1, h2, h3, h4⟩ | ⟨p, xss, hp, rfl, hl, hc⟩
              · exact .inl ⟨h1, by rw [← Vls.of_list its, h2]; rfl, h3, h4⟩
              · refine .inr ⟨p, G, hp, rfl, ?_⟩
                have := OwL.insV p 0 hl hc
                rwa [Vls.of_list, hlI] at this
            · rcases hOF with ⟨h1, h2, h3, h4⟩ | ⟨p, xss, hp, rfl, hl, hc⟩
              · exact .inl ⟨h1, by rw [← Fls.of_list fls, h2]; rfl, h3, h4⟩
              · refine .inr ⟨p, H, hp, rfl, ?_⟩
                have := OwL.insM p 0 hl hc
                rwa [Fls.of_list, hlF] at this
          · rw [List.nodup_append]
            exact ⟨ndI, ndF, fun x hx y hy e => by have h1 := hfi x hx; have h2 := (rnF y hy).1; omega⟩
          · intro b hb
            rcases List.mem_append.1 hb with h | h
            · have := rnI b h; omega
            · have := rnF b h; omega
end Go.Proofs.Ytjlafneklcfgoab.vl
