import Derived.Test.YtjlafneklcfgoabVlT2
namespace Go.Proofs.Ytjlafneklcfgoab.vl
open Go.ChangeShapes Go.WideShapes Go.ChangeAt Go.RowKit
open stp (St Pth St3)
set_option linter.unusedVariables false
set_option linter.unusedSimpArgs false
theorem wpList_loadG {P : Program} {ops : Array Oper} {rest : List Oper} {op : Oper} {a : Act} {w : World} {Q : Exit → Act → World → Prop} (hw : Region.wanted op (yielded ops a.tmps) = true) (ty : TypeId) (x : Operand) (ho : op.op = .load ty x)
    (b o : Nat) (hx : a.eval x = .pointer (some ⟨b, o, none⟩)) (cs : List Value) (d : TypeDesc) (hc : w.rangeAt b o cs) (hu : P.underlying ty = some d) (hd : d.isRow = true) (hi : (P.info? ty).map (·.size) = some cs.length)
    (h : wpList P ops Q rest (a.put op.dst (.agg cs.toArray)) w) : wpList P ops Q (op :: rest) a w :=
  wpList_step fun K hK => by rw [if_pos hw]; exact wp_load_mid ty x ho b o hx cs d hc hu hd hi (hK _ _ h)
theorem SmallI.of {l : List Vl} (h : ∀ v ∈ l, Small v) : SmallI (Vls.of l) := by
  induction l with
  | nil => simp [Vls.of, SmallI]
  | cons v r ih => simp only [Vls.of, SmallI]; exact ⟨h v (List.mem_cons_self ..), ih (fun u hu => h u (List.mem_cons_of_mem _ hu))⟩
theorem SmallF.of {l : List (ByteArray × Vl)} (h : ∀ q ∈ l, Small q.2) : SmallF (Fls.of l) := by
  induction l with
  | nil => simp [Fls.of, SmallF]
  | cons v r ih => simp only [Fls.of, SmallF]; exact ⟨h v (List.mem_cons_self ..), ih (fun u hu => h u (List.mem_cons_of_mem _ hu))⟩
theorem mem_modify {α : Type} {f : α → α} : ∀ {l : List α} {i : Nat} {y : α}, y ∈ l.modify i f → y ∈ l ∨ ∃ z ∈ l, y = f z
  | [], i, y, h => by simp at h
  | a :: r, 0, y, h => by
    simp at h
    rcases h with h | h
    · exact .inr ⟨a, List.mem_cons_self .., h⟩
    · exact .inl (List.mem_cons_of_mem _ h)
  | a :: r, i + 1, y, h => by
    simp at h
    rcases h with h | h
    · exact .inl (h ▸ List.mem_cons_self ..)
    · rcases mem_modify h with h | ⟨z, hz, h⟩
      · exact .inl (List.mem_cons_of_mem _ h)
      · exact .inr ⟨z, List.mem_cons_of_mem _ hz, h⟩
theorem Small.setS {v x : Vl} {s : St} {i : Nat} (hv : Small v) (hx : Small x) : Small (setS v s i x) := by
  obtain ⟨kd, bb, ni, f, tx, ty, its, fls⟩ := v
  unfold Small at hv
  obtain ⟨h1, h2, h3, h4, h5⟩ := hv
  simp only [vl.setS]
  split
  · unfold Small
    refine ⟨by rw [Vls.list_of, List.length_set]; exact h1, h2, h3, SmallI.of (fun u hu => ?_), h5⟩
    rcases List.mem_or_eq_of_mem_set hu with h | rfl
    · exact h4.all u h
    · exact hx
  · unfold Small
    refine ⟨h1, by rw [Fls.list_of, List.length_modify]; exact h2, h3, h4, SmallF.of (fun q hq => ?_)⟩
    rcases mem_modify hq with h | ⟨z, hz, rfl⟩
    · exact h5.all q h
    · exact hx
theorem Small.setP : ∀ {ss : List St} {v x u : Vl}, Small v → Small x → setP v ss x = some u → Small u
  | [], v, x, u, hv, hx, h => by simp only [vl.setP, Option.some.injEq] at h; rw [← h]; exact hx
  | s :: r, v, x, u, hv, hx, h => by
    simp only [vl.setP] at h
    cases hc : chI v s with
    | none => rw [hc] at h; simp at h
    | some i =>
      cases hs : vl.getS v s with
      | none => rw [hc, hs] at h; simp at h
      | some y =>
        rw [hc, hs] at h
        simp only [Option.map_eq_some_iff] at h
        obtain ⟨z, hz, rfl⟩ := h
        exact Small.setS hv (Small.setP (hv.getS hs) hx hz)
theorem Small.z0 : Small z0 := by simp [vl.z0, Small, SmallI, SmallF, Vls.list, Fls.list]
theorem same_get {v u u' : Vl} {ss : List St} {a b : Bool} (h : if a = true then getP v ss = some u else getP v ss = none ∧ u = z0) (h' : if b = true then getP v ss = some u' else getP v ss = none ∧ u' = z0) (hv : Small v) : a = b ∧ u = u' ∧ Small u := by
  cases a <;> cases b
  · simp at h h'
    exact ⟨rfl, h.2.trans h'.2.symm, h.2 ▸ Small.z0⟩
  · simp at h h'
    rw [h.1] at h'; cases h'
  · simp at h h'
    rw [h'.1] at h; cases h
  · simp at h h'
    exact ⟨rfl, Option.some.inj (h.symm.trans h'), hv.getP h⟩
theorem same_set {v x u u' : Vl} {ss : List St} {a b : Bool} (h : if a = true then setP v ss x = some u else getP v ss = none ∧ u = z0) (h' : if b = true then setP v ss x = some u' else getP v ss = none ∧ u' = z0) (hv : Small v) (hx : Small x) : a = b ∧ u = u' ∧ Small u := by
  cases a <;> cases b
  · simp at h h'
    exact ⟨rfl, h.2.trans h'.2.symm, h.2 ▸ Small.z0⟩
  · simp at h h'
    rw [setP_none x h.1] at h'; cases h'
  · simp at h h'
    rw [setP_none x h'.1] at h; cases h
  · simp at h h'
    exact ⟨rfl, Option.some.inj (h.symm.trans h'), Small.setP hv hx h⟩
set_option maxHeartbeats 6000000 in
set_option maxRecDepth 6000 in
theorem law_places (v x : Vl) (cs xs : List Value) (w : World) (hv : VlC w v cs) (hx : VlC w x xs) (hsv : Small v) (hsx : Small x) (ap : Option Addr) (n c : Nat) (ss : List St) (hp : Pth w ap n ss) (hnc : n ≤ c) (hac : ap = none → c = 0) (hcb : c ≤ 4611686018427387903) :
    Calls Try.prog 3 #[.agg cs.toArray, .slice ap n c, .agg xs.toArray] w fun e w' => e = .returned (.bool true) ∧ Below w.heap.size w w' := by
  have iC := hide (show (Try.prog.info? 27).map (·.size) = some cs.length by rw [hv.cells]; exact infoV)
  have iX := hide (show (Try.prog.info? 27).map (·.size) = some xs.length by rw [hx.cells]; exact infoV)
  have HV := hide hv
  have HX := hide hx
  have HP := hide hp
  clear hv hx hp
  obtain ⟨W, eW⟩ : ∃ W, W = ((w.alloc (.cells cs.toArray 27)).alloc (.cells xs.toArray 27)) := ⟨_, rfl⟩
  have bW : Below w.heap.size w W := by rw [eW]; exact ((Below.refl _ _).alloc (Nat.le_refl _) _).alloc (by simp) _
  have hsz : w.heap.size + 2 ≤ W.heap.size := by rw [eW]; simp
  have hrow : W.rangeAt w.heap.size 0 cs := fun j u hu => by
    rw [Nat.zero_add, eW, World.cell?_alloc_past _ _ _ (by simp), World.cell?_alloc_at _ _ _ _ rfl]; simpa using hu
  have hrox : W.rangeAt (w.heap.size + 1) 0 xs := fun j u hu => by
    rw [Nat.zero_add, eW, World.cell?_alloc_at _ _ _ _ (by simp)]; simpa using hu
  have EW := hide eW
  have HR := hide (And.intro hrow hrox)
  clear eW hrow hrox
  go_enter Try.func3, Try.ntmps3
  go_wp2_with fail
  rw [← unhide EW]
  clear EW
  refine (two_ok W).mono ?_
  rintro e w1 ⟨b1, tb, rfl, htw⟩
  have Htw := hide htw
  clear htw
  go_wp2_with fail
  obtain ⟨W2, e2⟩ : ∃ W2, W2 = w1.alloc (.cells #[.string { data := #[97] }, .int .i64 0, .bool false, .string { data := #[] }, .int .i64 0, .bool true] 33) := ⟨_, rfl⟩
  have b2 : Below w1.heap.size w1 W2 := by rw [e2]; exact (Below.refl _ _).alloc (Nat.le_refl _) _
  have hp2 : Pth W2 (some ⟨w1.heap.size, 0, none⟩) 2 [⟨{ data := #[97] }, 0, false⟩, ⟨{ data := #[] }, 0, true⟩] := by
    refine ⟨rfl, .inr ⟨w1.heap.size, 0, rfl, by rw [e2]; simp, fun i hi => ?_⟩⟩
    rcases (by omega : i = 0 ∨ i = 1) with rfl | rfl
    · exact ⟨_, rfl, by rw [e2]; exact ⟨by simp, by simp, by simp⟩⟩
    · exact ⟨_, rfl, by rw [e2]; exact ⟨by simp, by simp, by simp⟩⟩
  rw [← e2]
  clear e2
  refine (get_ok twoV (twoC tb) W2 (VlC.below b2 _ _ (unhide Htw)) Small.twoV _ 2 2 _ hp2 (by omega)).mono ?_
  rintro e w3 ⟨b3, ok, u, ds, rfl, hO3, hif⟩
  have hgp : getP twoV [⟨{ data := #[97] }, 0, false⟩, ⟨{ data := #[] }, 0, true⟩] = some (.mk 2 false 1 0 eS eS .nil .nil) := by kernel_rfl
  obtain ⟨rfl, rfl⟩ : ok = true ∧ u = .mk 2 false 1 0 eS eS .nil .nil := by
    cases ok with
    | true => rw [if_pos rfl, hgp] at hif; exact ⟨rfl, (Option.some.inj hif).symm⟩
    | false => rw [if_neg (by simp), hgp] at hif; cases hif.1
  clear hif hgp
  have hO3 := hO3.read
  unfold VlC at hO3
  obtain ⟨ai, nI, ci, af, nf, cf, rfl, -⟩ := hO3
  have bb3 : Below w.heap.size w w3 := ((bW.trans (b1.mono bW.size)).trans (b2.mono (Nat.le_trans bW.size b1.size))).trans (b3.mono (Nat.le_trans (Nat.le_trans bW.size b1.size) b2.size))
  have bW3 : Below W.heap.size W w3 := (b1.trans (b2.mono b1.size)).trans (b3.mono (Nat.le_trans b1.size b2.size))
  clear hp2 b2 b3 b1 Htw
  have hsf := storeF
  obtain ⟨GC, eG⟩ : ∃ GC : List Value, GC = [.int .i64 2, .bool false, .int .i64 1, .float .f64 0, .string eS, .string eS, .slice ai nI ci, .slice af nf cf] := ⟨_, rfl⟩
  obtain ⟨W3, e3⟩ : ∃ W3, W3 = w3.alloc (.cells GC.toArray 27) := ⟨_, rfl⟩
  have b3 : Below w3.heap.size w3 W3 := by rw [e3]; exact (Below.refl _ _).alloc (Nat.le_refl _) _
  have s3 : w3.heap.size + 1 ≤ W3.heap.size := by rw [e3]; simp
  have thG : W3.there w3.heap.size 0 8 := by rw [e3]; exact there_new (by rw [eG]; rfl)
  have E3 := hide (And.intro e3 eG)
  have hR3 := hide (Row8.below (unhide HR).1 (bW3.trans (b3.mono bW3.size)))
  have hX3 := hide (Row8.below (unhide HR).2 (bW3.trans (b3.mono bW3.size)))
  clear e3 eG
  go_wp2_with (first
    | refine wpList_load_mid (by rfl) 27 _ (by rfl) w.heap.size 0 (by rfl) cs _ (by rw [show (w3.alloc (.cells #[.int .i64 2, .bool false, .int .i64 1, .float .f64 0, .string eS, .string eS, .slice ai nI ci, .slice af nf cf] 27)) = W3 by rw [(unhide E3).1, (unhide E3).2]]; exact unhide hR3) Try.underlying27 (by rfl) (unhide iC) ?_)
  rw [show (w3.alloc (.cells #[.int .i64 2, .bool false, .int .i64 1, .float .f64 0, .string eS, .string eS, .slice ai nI ci, .slice af nf cf] 27)) = W3 by rw [(unhide E3).1, (unhide E3).2]]
  clear E3
  have bwW3 : Below w.heap.size w W3 := bb3.trans (b3.mono bb3.size)
  refine (get_ok v cs W3 (VlC.below bwW3 v cs (unhide HV)) hsv ap n c ss ((unhide HP).below bwW3) (by omega)).mono ?_
  rintro e w4 ⟨b4, ok1, u1, ds1, rfl, hfr1, hif4⟩
  have d8 := hfr1.read.cells
  have d1 := hfr1.read.one
  have s4 := b4.size
  have id1 := hide (show (Try.prog.info? 27).map (·.size) = some ds1.toArray.size by simp [d8, infoV])
  have id1' := hide (show (Try.prog.info? 27).map (·.size) = some ds1.length by rw [d8]; exact infoV)
  have thG4 := hide (show w4.there w3.heap.size 0 ds1.toArray.size by rw [show ds1.toArray.size = 8 by simp [d8]]; exact there_below thG b4 (by omega))
  obtain ⟨W5, e5⟩ : ∃ W5, W5 = w4.setCells w3.heap.size 0 ds1 := ⟨_, rfl⟩
  have sz5 : w4.heap.size ≤ W5.heap.size := by rw [e5, size_setCells]; exact Nat.le_refl _
  have sb3 := bb3.size
  have sW3 := bW3.size
  have b45 : Below w3.heap.size W3 W5 := by rw [e5]; exact below_setCells _ _ _ _ (b4.mono (by omega)) (Nat.le_refl _)
  have row5 : W5.rangeAt w3.heap.size 0 ds1 := by rw [e5]; exact World.rangeAt_setCells_same _ _ _ _ (unhide thG4)
  have may5 : W5.there w3.heap.size 0 8 := by rw [e5]; exact World.there_setCells (there_below thG b4 (by omega)) _ _ _
  have fr5 : FrC W3.heap.size W5 u1 ds1 := by rw [e5]; exact hfr1.setCells _ _ _ (by omega)
  have rv5 := hide (show W5.rangeAt w.heap.size 0 cs from fun j y hy => (b45.cell (p := ⟨w.heap.size, 0 + j, none⟩) (show w.heap.size < w3.heap.size by omega)).trans (unhide hR3 j y hy))
  have rx5 := hide (show W5.rangeAt (w.heap.size + 1) 0 xs from fun j y hy => (b45.cell (p := ⟨w.heap.size + 1, 0 + j, none⟩) (show w.heap.size + 1 < w3.heap.size by omega)).trans (unhide hX3 j y hy))
  have bw5 : Below w.heap.size w W5 := bwW3.trans (b45.mono sb3)
  have E5 := hide e5
  have P5 := hide (And.intro row5 (And.intro may5 (And.intro fr5 hif4)))
  clear e5 row5 may5 fr5 hif4 hfr1 d8 hR3 hX3 thG
  go_wp2_with (first
    | (refine wpList_store_mid (by rfl) 27 _ _ (by rfl) w3.heap.size 0 ds1.toArray (by rfl) (by rfl) (unhide thG4) (unhide id1) d1 ?_; rw [show w4.setCells w3.heap.size 0 ds1.toArray.toList = W5 from (unhide E5).symm])
    | refine wpList_load_mid (by rfl) 27 _ (by rfl) w.heap.size 0 (by rfl) cs _ (unhide rv5) Try.underlying27 (by rfl) (unhide iC) ?_)
  refine (rget_ok v cs W5 (VlC.below bw5 v cs (unhide HV)) hsv ap n c ss ((unhide HP).below bw5) (by omega)).mono ?_
  rintro e w6 ⟨b6, ok2, u2, ds2, rfl, hfr2, hif6⟩
  obtain ⟨row5, may5, fr5, hif4⟩ := unhide P5
  obtain ⟨rfl, rfl, hsu⟩ := same_get hif4 hif6 hsv
  have e8 := hfr2.read.cells
  have e1 := hfr2.read.one
  have s6 := b6.size
  obtain ⟨W7, e7⟩ : ∃ W7, W7 = (w6.alloc (.cells #[.int .i64 0, .bool false, .int .i64 0, .float .f64 0, .string { data := #[] }, .string { data := #[] }, .slice none 0 0, .slice none 0 0] 27)).setCells w6.heap.size 0 ds2 := ⟨_, rfl⟩
  have id2 := hide (show (Try.prog.info? 27).map (·.size) = some ds2.toArray.size by simp [e8, infoV])
  have id2' := hide (show (Try.prog.info? 27).map (·.size) = some ds2.length by rw [e8]; exact infoV)
  have thW := hide (show (w6.alloc (.cells #[.int .i64 0, .bool false, .int .i64 0, .float .f64 0, .string { data := #[] }, .string { data := #[] }, .slice none 0 0, .slice none 0 0] 27)).there w6.heap.size 0 ds2.toArray.size from there_new (by simp [e8]))
  have b67 : Below w6.heap.size w6 W7 := by rw [e7]; exact below_setCells _ _ _ _ ((Below.refl _ _).alloc (Nat.le_refl _) _) (Nat.le_refl _)
  have b57 : Below W5.heap.size W5 W7 := b6.trans (b67.mono b6.size)
  have s7 : w6.heap.size + 1 ≤ W7.heap.size := by rw [e7, size_setCells]; simp
  have rowG := Row8.below row5 b57
  have rowW : W7.rangeAt w6.heap.size 0 ds2 := by rw [e7]; exact World.rangeAt_setCells_same _ _ _ _ (unhide thW)
  have mayG := there_below may5 b57 (by omega)
  have mayW : W7.there w6.heap.size 0 8 := by rw [e7]; exact World.there_setCells (there_new rfl) _ _ _
  have v1 := (fr5.below b57).read
  have v2 := (hfr2.below b67).read
  have rv7 := Row8.below (unhide rv5) b57
  have rx7 := Row8.below (unhide rx5) b57
  have bw7 : Below w.heap.size w W7 := bw5.trans (b57.mono (by omega))
  have E7 := hide e7
  have P7 := hide (And.intro rowG (And.intro rowW (And.intro mayG (And.intro mayW (And.intro v1 (And.intro v2 (And.intro rv7 rx7)))))))
  clear e7 rowG rowW mayG mayW v1 v2 rv7 rx7 row5 may5 fr5 hif4 hif6 hfr2 e8 rv5 rx5
  go_wp2_with (first
    | (refine wpList_store_mid (by rfl) 27 _ _ (by rfl) w6.heap.size 0 ds2.toArray (by rfl) (by rfl) (unhide thW) (unhide id2) e1 ?_; rw [show (w6.alloc (.cells #[.int .i64 0, .bool false, .int .i64 0, .float .f64 0, .string { data := #[] }, .string { data := #[] }, .slice none 0 0, .slice none 0 0] 27)).setCells w6.heap.size 0 ds2.toArray.toList = W7 from (unhide E7).symm])
    | refine wpList_loadG (by rfl) 27 _ (by rfl) w3.heap.size 0 (by rfl) ds1 _ (unhide P7).1 Try.underlying27 (by rfl) (unhide id1') ?_
    | refine wpList_loadG (by rfl) 27 _ (by rfl) w6.heap.size 0 (by rfl) ds2 _ (unhide P7).2.1 Try.underlying27 (by rfl) (unhide id2') ?_)
  refine (whole_eq u1 hsu ds1 ds2 W7 (unhide P7).2.2.2.2.1 (unhide P7).2.2.2.2.2.1).mono ?_
  rintro e w8 ⟨rfl, b8⟩
  obtain ⟨rowG, rowW, mayG, mayW, -, -, rv7, rx7⟩ := unhide P7
  have mG8 := hide (there_below mayG b8 (by omega))
  have mW8 := hide (there_below mayW b8 (by omega))
  have rv8 := hide (Row8.below rv7 b8)
  have rx8 := hide (Row8.below rx7 b8)
  have bw8 : Below w.heap.size w w8 := bw7.trans (b8.mono (by omega))
  have s8 := b8.size
  clear rowG rowW mayG mayW rv7 rx7 P7 E7 thW id2 id2' b67 b57 b6 E5 id1 id1' thG4
  go_wp2_with (first
    | refine wpList_load_mid (by rfl) 27 _ (by rfl) w.heap.size 0 (by rfl) cs _ (unhide rv8) Try.underlying27 (by rfl) (unhide iC) ?_
    | refine wpList_load_mid (by rfl) 27 _ (by rfl) (w.heap.size + 1) 0 (by rfl) xs _ (unhide rx8) Try.underlying27 (by rfl) (unhide iX) ?_)
  refine (set_ok v x cs xs w8 (VlC.below bw8 v cs (unhide HV)) (VlC.below bw8 x xs (unhide HX)) hsv hsx ap n c ss ((unhide HP).below bw8) (by omega)).mono ?_
  rintro e w9 ⟨b9, ok3, u3, ds3, rfl, hfr3, hif9⟩
  have d8 := hfr3.read.cells
  have d1 := hfr3.read.one
  have s9 := b9.size
  have id3 := hide (show (Try.prog.info? 27).map (·.size) = some ds3.toArray.size by simp [d8, infoV])
  have id3' := hide (show (Try.prog.info? 27).map (·.size) = some ds3.length by rw [d8]; exact infoV)
  have thG9 := hide (show w9.there w3.heap.size 0 ds3.toArray.size by rw [show ds3.toArray.size = 8 by simp [d8]]; exact there_below (unhide mG8) b9 (by omega))
  obtain ⟨WA, eA⟩ : ∃ WA, WA = w9.setCells w3.heap.size 0 ds3 := ⟨_, rfl⟩
  have szA : w9.heap.size ≤ WA.heap.size := by rw [eA, size_setCells]; exact Nat.le_refl _
  have bA : Below w3.heap.size w8 WA := by rw [eA]; exact below_setCells _ _ _ _ (b9.mono (by omega)) (Nat.le_refl _)
  have rowA : WA.rangeAt w3.heap.size 0 ds3 := by rw [eA]; exact World.rangeAt_setCells_same _ _ _ _ (unhide thG9)
  have mWA : WA.there w6.heap.size 0 8 := by rw [eA]; exact World.there_setCells (there_below (unhide mW8) b9 (by omega)) _ _ _
  have frA : FrC w8.heap.size WA u3 ds3 := by rw [eA]; exact hfr3.setCells _ _ _ (by omega)
  have rvA := hide (show WA.rangeAt w.heap.size 0 cs from fun j y hy => (bA.cell (p := ⟨w.heap.size, 0 + j, none⟩) (show w.heap.size < w3.heap.size by omega)).trans (unhide rv8 j y hy))
  have rxA := hide (show WA.rangeAt (w.heap.size + 1) 0 xs from fun j y hy => (bA.cell (p := ⟨w.heap.size + 1, 0 + j, none⟩) (show w.heap.size + 1 < w3.heap.size by omega)).trans (unhide rx8 j y hy))
  have bwA : Below w.heap.size w WA := bw8.trans (bA.mono sb3)
  have EA := hide eA
  have PA := hide (And.intro rowA (And.intro mWA (And.intro frA hif9)))
  clear eA rowA mWA frA hif9 hfr3 d8 mG8 mW8 rv8 rx8
  go_wp2_with (first
    | (refine wpList_store_mid (by rfl) 27 _ _ (by rfl) w3.heap.size 0 ds3.toArray (by rfl) (by rfl) (unhide thG9) (unhide id3) d1 ?_; rw [show w9.setCells w3.heap.size 0 ds3.toArray.toList = WA from (unhide EA).symm])
    | refine wpList_load_mid (by rfl) 27 _ (by rfl) w.heap.size 0 (by rfl) cs _ (unhide rvA) Try.underlying27 (by rfl) (unhide iC) ?_
    | refine wpList_load_mid (by rfl) 27 _ (by rfl) (w.heap.size + 1) 0 (by rfl) xs _ (unhide rxA) Try.underlying27 (by rfl) (unhide iX) ?_)
  refine (rset_ok ss v x cs xs WA ap n c (VlC.below bwA v cs (unhide HV)) (VlC.below bwA x xs (unhide HX)) hsv hsx ((unhide HP).below bwA) hnc hac hcb).mono ?_
  rintro e wB ⟨bB, ok4, u4, ds4, rfl, hfr4, hifB⟩
  obtain ⟨rowA, mWA, frA, hif9⟩ := unhide PA
  obtain ⟨rfl, rfl, hsu3⟩ := same_set hif9 hifB hsv hsx
  have e8 := hfr4.read.cells
  have e1 := hfr4.read.one
  have sB := bB.size
  obtain ⟨WC, eC⟩ : ∃ WC, WC = wB.setCells w6.heap.size 0 ds4 := ⟨_, rfl⟩
  have id4 := hide (show (Try.prog.info? 27).map (·.size) = some ds4.toArray.size by simp [e8, infoV])
  have id4' := hide (show (Try.prog.info? 27).map (·.size) = some ds4.length by rw [e8]; exact infoV)
  have thW := hide (show wB.there w6.heap.size 0 ds4.toArray.size by rw [show ds4.toArray.size = 8 by simp [e8]]; exact there_below mWA bB (by omega))
  have rowG : WC.rangeAt w3.heap.size 0 ds3 := by
    rw [eC]
    intro j y hy
    rw [World.cell?_setCells_out _ _ _ _ _ (fun e _ => by have e : w3.heap.size = w6.heap.size := e; omega)]
    exact Row8.below rowA bB j y hy
  have rowW : WC.rangeAt w6.heap.size 0 ds4 := by rw [eC]; exact World.rangeAt_setCells_same _ _ _ _ (unhide thW)
  have v3 : VlC WC u3 ds3 := by rw [eC]; exact ((frA.below bB).setCells _ _ _ (by omega)).read
  have v4 : VlC WC u3 ds4 := by rw [eC]; exact (hfr4.setCells _ _ _ (by omega)).read
  have bwC : Below w.heap.size w WC := by rw [eC]; exact below_setCells _ _ _ _ (bwA.trans (bB.mono (by omega))) (by omega)
  have EC := hide eC
  have PC := hide (And.intro rowG (And.intro rowW (And.intro v3 v4)))
  clear eC rowG rowW v3 v4 rowA mWA frA hif9 hifB hfr4 e8 rvA rxA
  go_wp2_with (first
    | (refine wpList_store_mid (by rfl) 27 _ _ (by rfl) w6.heap.size 0 ds4.toArray (by rfl) (by rfl) (unhide thW) (unhide id4) e1 ?_; rw [show wB.setCells w6.heap.size 0 ds4.toArray.toList = WC from (unhide EC).symm])
    | refine wpList_loadG (by rfl) 27 _ (by rfl) w3.heap.size 0 (by rfl) ds3 _ (unhide PC).1 Try.underlying27 (by rfl) (unhide id3') ?_
    | refine wpList_loadG (by rfl) 27 _ (by rfl) w6.heap.size 0 (by rfl) ds4 _ (unhide PC).2.1 Try.underlying27 (by rfl) (unhide id4') ?_)
  refine (whole_eq u3 hsu3 ds3 ds4 WC (unhide PC).2.2.1 (unhide PC).2.2.2).mono ?_
  rintro e wD ⟨rfl, bD⟩
  have sD : w.heap.size ≤ WC.heap.size := bwC.size
  go_wp2
  go_ret
  exact ⟨rfl, bwC.trans (bD.mono sD)⟩
end Go.Proofs.Ytjlafneklcfgoab.vl
