import Derived.Test.YtjlafneklcfgoabVlS2
namespace Go.Proofs.Ytjlafneklcfgoab.vl
open Go.ChangeShapes Go.WideShapes Go.ChangeAt Go.RowKit
open stp (St Pth St3)
set_option linter.unusedVariables false
set_option linter.unusedSimpArgs false
theorem row_uniq {w : World} {b o : Nat} {l l' : List Value} (h : Row8 w b o l) (h' : Row8 w b o l') (hl : l.length = l'.length) : l = l' := by
  apply List.ext_getElem? 
  intro i
  by_cases hi : i < l.length
  · have h1 := h i _ (List.getElem?_eq_getElem hi)
    have h2 := h' i _ (List.getElem?_eq_getElem (hl ▸ hi))
    rw [List.getElem?_eq_getElem hi, List.getElem?_eq_getElem (hl ▸ hi)]
    exact h1.symm.trans h2
  · rw [List.getElem?_eq_none (by omega), List.getElem?_eq_none (by omega)]
set_option maxHeartbeats 6000000 in
set_option maxRecDepth 6000 in
theorem set_ok (v x : Vl) (cs xs : List Value) (w : World) (hv : VlC w v cs) (hx : VlC w x xs) (hsm : Small v) (hsx : Small x) (ap : Option Addr) (n c : Nat) (ss : List St) (hp : Pth w ap n ss) (hn : n ≤ 4611686018427387903) :
    Calls Try.prog 13 #[.agg cs.toArray, .slice ap n c, .agg xs.toArray] w fun e w' => Below w.heap.size w w' ∧ ∃ (ok : Bool) (u : Vl) (ds : List Value), e = .returned (.tuple #[.agg ds.toArray, .bool ok]) ∧ FrC w.heap.size w' u ds ∧ (if ok = true then setP v ss x = some u else getP v ss = none ∧ u = z0) := by
  have hnil : ∀ (w : World) (a : Option Addr), (binOp .eql 64 (.pointer a) (.pointer none)).run Try.prog w = .ok (.bool a.isNone) w := by
    intro w a
    cases a <;> go_simp
  have HV := hide hv
  have HX := hide hx
  have HP := hide hp
  clear hv hp hx
  obtain ⟨W, eW⟩ : ∃ W, W = (((w.alloc (.cells cs.toArray 27)).alloc (.cells xs.toArray 27)).alloc (.cells #[.int .i64 0, .bool false, .int .i64 0, .float .f64 0, .string { data := #[] }, .string { data := #[] }, .slice none 0 0, .slice none 0 0] 27)) := ⟨_, rfl⟩
  have bW : Below w.heap.size w W := by rw [eW]; exact (((Below.refl _ _).alloc (Nat.le_refl _) _).alloc (by simp) _).alloc (by simp; omega) _
  have hsz : W.heap.size = w.heap.size + 3 := by rw [eW]; simp
  have hrow : W.rangeAt w.heap.size 0 cs := fun j u hu => by
    rw [Nat.zero_add, eW, World.cell?_alloc_past _ _ _ (by simp; omega), World.cell?_alloc_past _ _ _ (by simp), World.cell?_alloc_at _ _ _ _ rfl]; simpa using hu
  have hrox : W.rangeAt (w.heap.size + 1) 0 xs := fun j u hu => by
    rw [Nat.zero_add, eW, World.cell?_alloc_past _ _ _ (by simp), World.cell?_alloc_at _ _ _ _ (by simp)]; simpa using hu
  have hth : W.there (w.heap.size + 2) 0 8 := by
    rw [eW]
    have h := there_new (w := (w.alloc (.cells cs.toArray 27)).alloc (.cells xs.toArray 27)) (Z := #[.int .i64 0, .bool false, .int .i64 0, .float .f64 0, .string { data := #[] }, .string { data := #[] }, .slice none 0 0, .slice none 0 0]) (t := 27) (n := 8) rfl
    simpa using h
  have iC : (Try.prog.info? 27).map (·.size) = some cs.length := by rw [(unhide HV).cells]; exact infoV
  have iX : (Try.prog.info? 27).map (·.size) = some xs.length := by rw [(unhide HX).cells]; exact infoV
  have EW := hide eW
  have HR := hide (And.intro hrow (And.intro hrox (And.intro hth (And.intro iC iX))))
  clear eW hrow hrox hth iC iX
  go_enter Try.func13, Try.ntmps13
  go_wp2_with (first
    | refine wpList_load_mid (by rfl) 27 _ (by rfl) w.heap.size 0 (by rfl) cs _ (by rw [← unhide EW]; exact (unhide HR).1) Try.underlying27 (by rfl) (unhide HR).2.2.2.1 ?_)
  rw [← unhide EW]
  clear EW
  refine (copy_ok v hsm cs W (VlC.below bW v cs (unhide HV))).mono ?_
  rintro e w1 ⟨ds, F, rfl, hO1, hnd, hF, b1, zF⟩
  have HO1 := hide hO1
  have d8 := hide (OwC.read v ds F hO1).cells
  have d1 := (OwC.read v ds F hO1).one
  clear hO1
  have i8 := hide (show (Try.prog.info? 27).map (·.size) = some ds.toArray.size by simp [unhide d8, infoV])
  have hz8 : ds.toArray.size = 8 := by simp [unhide d8]
  have Hz8 := hide hz8
  clear hz8
  go_wp2_with (first
    | refine wpList_store_mid (by rfl) 27 _ _ (by rfl) w1.heap.size 0 ds.toArray (by rfl) (by rfl) (there_new (by rw [unhide Hz8]; rfl)) (unhide i8) d1 ?_)
  obtain ⟨W2, e2⟩ : ∃ W2, W2 = ((w1.alloc (.cells #[.int .i64 0, .bool false, .int .i64 0, .float .f64 0, .string { data := #[] }, .string { data := #[] }, .slice none 0 0, .slice none 0 0] 27)).setCells w1.heap.size 0 ds) := ⟨_, rfl⟩
  have b2 : Below w1.heap.size w1 W2 := by rw [e2]; exact below_setCells _ _ _ _ ((Below.refl _ _).alloc (Nat.le_refl _) _) (Nat.le_refl _)
  have hs2 : W2.heap.size = w1.heap.size + 1 := by rw [e2, size_setCells]; simp
  have th8 : (w1.alloc (.cells #[.int .i64 0, .bool false, .int .i64 0, .float .f64 0, .string { data := #[] }, .string { data := #[] }, .slice none 0 0, .slice none 0 0] 27)).there w1.heap.size 0 ds.length := there_new (by rw [unhide d8]; rfl)
  have row2 : Row8 W2 w1.heap.size 0 ds := by rw [e2]; exact World.rangeAt_setCells_same _ _ _ _ th8
  have th2 : W2.there w1.heap.size 0 8 := by rw [e2]; have := th8; rw [unhide d8] at this; exact World.there_setCells this _ _ _
  have fz2 : Fz W2 [w1.heap.size] := by rw [e2]; exact Fz.new.setCells _ _ _
  rw [← e2]
  clear e2 th8
  have hlt1 : ∀ b ∈ F, b < w1.heap.size := fun b hb => (hF b hb).2
  have hO2 : OwC W2 v ds F := OwC.agree v ds F (Agree.of_below b2 hlt1) (unhide HO1)
  have hpW : Pth W2 ap n ss := (((unhide HP).below bW).below b1).below b2
  have way0 : Way W2 (w.heap.size + 3) w1.heap.size v ss 0 w1.heap.size 0 v ds := ⟨rfl, row2, F, [], hO2, hnd, fun c hc => ⟨fun e => absurd (hlt1 c hc) (by omega), by simp⟩, .inl rfl, fun c hc => by simp at hc; have := b1.size; omega, fun c hc => by have := hlt1 c hc; have := (hF c hc).1; omega, fz2, zF.below b2 hlt1, id, fun x => rfl, fun w' x ds' _ hr hx => ⟨ds', hr, hx⟩⟩
  refine (lead_ok (Way W2 (w.heap.size + 3) w1.heap.size v ss) W2 ap n c ss hpW hn w1.heap.size 0 v ds way0 (fun k b o u us h => ⟨h.row, by obtain ⟨Fu, G, h, _⟩ := h.ctx; exact OwC.read _ _ _ h⟩) (fun k b o u us s i b' o' h hs hc hl => h.step hs hc hl)).mono ?_
  rintro e w3 ⟨b3, h3⟩
  have hlen := (unhide HP).len
  have sW := bW.size
  have s1 := b1.size
  have hT3 : w3.there (w.heap.size + 2) 0 8 := there_below (there_below (there_below (unhide HR).2.2.1 b1 (by omega)) b2 (by omega)) b3 (by omega)
  have HT3 := hide hT3
  have bb3 : Below w.heap.size w w3 := ((bW.trans (b1.mono bW.size)).trans (b2.mono (by omega))).trans (b3.mono (by omega))
  rcases h3 with ⟨k, b, o, u, us, s, hw, hs, hc, rfl⟩ | ⟨b, o, u, us, hw, rfl⟩
  · have hno := hide (getP_none hw.got hs hc)
    clear hw hs hc hT3 way0 hpW hO2 row2 th2
    go_wp2_with (first
      | refine wpList_store_mid (by rfl) 27 _ _ (by rfl) (w.heap.size + 1 + 1) 0 z8.toArray (by rfl) (by rfl) (unhide HT3) z8i z8o ?_)
    have hr4 : (w3.setCells (w.heap.size + 1 + 1) 0 z8).rangeAt (w.heap.size + 1 + 1) 0 z8 := World.rangeAt_setCells_same _ _ _ _ (unhide HT3)
    refine bodyPost_ret (rgn.result_row_tmp rfl _ _ (w.heap.size + 1 + 1) 0 z8 _ rfl hr4 Try.underlying27 rfl z8i) rfl ?_
    exact ⟨below_setCells _ _ _ _ bb3 (by omega), false, z0, z8, rfl, FrC.of (OwC.zero _) (by simp), by simp; exact unhide hno⟩
  · have HW := hide hw
    have hrx := hide ((((show Row8 W (w.heap.size + 1) 0 xs from (unhide HR).2.1).below b1).below b2).below b3)
    clear hw hT3 way0 hpW hO2 row2
    go_wp2_with (first
      | refine wpList_load_mid (by rfl) 27 _ (by rfl) (w.heap.size + 1) 0 (by rfl) xs _ (unhide hrx) Try.underlying27 (by rfl) (unhide HR).2.2.2.2 ?_)
    refine (copy_ok x hsx xs w3 (VlC.below bb3 x xs (unhide HX))).mono ?_
    rintro e w4 ⟨gs, Fx, rfl, hO4, -, hFx, b4, -⟩
    obtain ⟨got, row, Fu, G, hOu, hndu, hdu, hbu, hltG, hltF, fzG, fzF, R, hR, hctx⟩ := unhide HW
    have hbm : b ∈ w1.heap.size :: G := by
      rcases hbu with rfl | hbu
      · exact List.mem_cons_self ..
      · exact List.mem_cons_of_mem _ hbu
    have hb2 := (hltG b hbm).2
    have hb3 := (hltG b hbm).1
    have g8 := (OwC.read x gs Fx hO4).cells
    have g1 := (OwC.read x gs Fx hO4).one
    have u8 := (OwC.read u us Fu hOu).cells
    have hTb2 : W2.there b o 8 := fun j hj => ⟨by rw [row j _ (List.getElem?_eq_getElem (by omega))]; rfl, fzG b hbm _⟩
    have s3 := b3.size
    have hTb : w4.there b o gs.toArray.size := by
      rw [show gs.toArray.size = 8 by simp [g8]]
      exact there_below (there_below hTb2 b3 hb2) b4 (by omega)
    have i8' : (Try.prog.info? 27).map (·.size) = some gs.toArray.size := by simp [g8, infoV]
    obtain ⟨W5, e5⟩ : ∃ W5, W5 = w4.setCells b o gs := ⟨_, rfl⟩
    have ag5 : AgreeBut (w1.heap.size :: G) b o W2 W5 := fun c hc j hj => by
      have hc2 := (hltG c hc).2
      rw [e5, World.cell?_setCells_out _ _ _ _ _ (fun h _ => by
        have h : c = b := h
        show j < o ∨ o + gs.length ≤ j
        rw [g8]
        rcases hj with hj | hj
        · exact absurd h hj
        · exact hj)]
      exact (b4.cell (p := ⟨c, j, none⟩) (by show c < w3.heap.size; omega)).trans (b3.cell (p := ⟨c, j, none⟩) hc2)
    have row5 : Row8 W5 b o gs := by rw [e5]; exact World.rangeAt_setCells_same _ _ _ _ (by have := hTb; rw [show gs.toArray.size = gs.length by simp] at this; exact this)
    have val5 : VlC W5 x gs := by
      rw [e5]
      refine OwC.read x gs Fx (OwC.agree x gs Fx (agree_setCells w4 fun h => ?_) hO4)
      have := (hFx b h).1
      omega
    obtain ⟨hs, hrow5, hval5⟩ := hctx W5 x gs ag5 row5 val5
    have hW6 : ∀ W9 : World, (∀ c j, w.heap.size + 3 ≤ c → c < W5.heap.size → W9.cell? ⟨c, j, none⟩ = W5.cell? ⟨c, j, none⟩) → ∃ hs', Row8 W9 w1.heap.size 0 hs' ∧ VlC W9 (R x) hs' := fun W9 out => by
      have hs5' : W5.heap.size = w4.heap.size := by rw [e5]; exact size_setCells _ _ _ _
      have s4' := b4.size
      refine hctx _ x gs (fun c hc j hj => (out c j (hltG c hc).1 (by have := (hltG c hc).2; omega)).trans (ag5 c hc j hj)) (fun j y hy => (out b (o + j) hb3 (by omega)).trans (row5 j y hy)) ?_
      refine OwC.read x gs Fx (OwC.agree x gs Fx (fun c hc j => ?_) hO4)
      have h1 := hFx c hc
      rw [out c j (by omega) (by omega), e5]
      exact World.cell?_setCells_out _ _ _ _ _ (fun e _ => by have e : c = b := e; omega)
    have HW6 := hide hW6
    have hset := hR x
    rw [List.take_of_length_le (Nat.le_of_eq hlen)] at hset
    have bb5 : Below (w.heap.size + 3) w3 W5 := by rw [e5]; exact below_setCells _ _ _ _ (b4.mono (by omega)) hb3
    have hs5 : W5.heap.size = w4.heap.size := by rw [e5]; exact size_setCells _ _ _ _
    have s4 := b4.size
    have hT5 : W5.there (w.heap.size + 1 + 1) 0 8 := there_below (unhide HT3) bb5 (by omega)
    have h8s := hval5.cells
    have h1s := hval5.one
    have i5 : (Try.prog.info? 27).map (·.size) = some hs.length := by rw [h8s]; exact infoV
    have i5' : (Try.prog.info? 27).map (·.size) = some hs.toArray.size := by simp [h8s, infoV]
    have hT5' : W5.there (w.heap.size + 1 + 1) 0 hs.toArray.size := by rw [show hs.toArray.size = 8 by simp [h8s]]; exact hT5
    have H5 := hide (And.intro hTb (And.intro i8' (And.intro hrow5 (And.intro i5 (And.intro i5' (And.intro hT5' hval5))))))
    have E5 := hide e5
    have Hset := hide hset
    clear hW6 hTb hTb2 i8' hrow5 i5 i5' hT5 hT5' hval5 e5 hset ag5 row5 val5 hOu hctx hR row got hO4 h8s g8 u8 hndu hdu hbu hltG hltF fzG fzF hbm hFx
    go_wp2_with (first
      | refine wpList_store_mid (by rfl) 27 _ _ (by rfl) b o gs.toArray (by rfl) (by rfl) (unhide H5).1 (unhide H5).2.1 g1 ?_
      | refine wpList_load_mid (by rfl) 27 _ (by rfl) w1.heap.size 0 (by rfl) hs _ (by rw [← unhide E5]; exact (unhide H5).2.2.1) Try.underlying27 (by rfl) (unhide H5).2.2.2.1 ?_
      | refine wpList_store_mid (by rfl) 27 _ _ (by rfl) (w.heap.size + 1 + 1) 0 hs.toArray (by rfl) (by rfl) (by rw [← unhide E5]; exact (unhide H5).2.2.2.2.2.1) (unhide H5).2.2.2.2.1 h1s ?_)
    rw [← unhide E5]
    obtain ⟨hTb, i8', hrow5, i5, i5', hT5', hval5⟩ := unhide H5
    have hr4 : (W5.setCells (w.heap.size + 1 + 1) 0 hs).rangeAt (w.heap.size + 1 + 1) 0 hs := World.rangeAt_setCells_same _ _ _ _ hT5'
    refine bodyPost_ret (rgn.result_row_tmp rfl _ _ (w.heap.size + 1 + 1) 0 hs _ rfl hr4 Try.underlying27 rfl i5) rfl ?_
    have hfr : FrC w.heap.size (W5.setCells (w.heap.size + 1 + 1) 0 hs) (R x) hs := fun W9 hW9 => by
      obtain ⟨hs', hrow6, hval6⟩ := unhide HW6 W9 (fun c j h1 h2 => by
        rw [hW9 c j (by omega) (by rw [size_setCells]; exact h2)]
        exact World.cell?_setCells_out _ _ _ _ _ (fun e _ => by have e : c = w.heap.size + 1 + 1 := e; omega))
      have hsz5 : w1.heap.size < W5.heap.size := by omega
      obtain rfl : hs = hs' := row_uniq (fun j y hy => by
        rw [hW9 w1.heap.size (0 + j) (by omega) (by rw [size_setCells]; exact hsz5), World.cell?_setCells_out _ _ _ _ _ (fun h _ => by have h : w1.heap.size = w.heap.size + 1 + 1 := h; omega)]
        exact hrow5 j y hy) hrow6 (by rw [hval5.cells, hval6.cells])
      exact hval6
    exact ⟨below_setCells _ _ _ _ (bb3.trans (bb5.mono (by omega))) (by omega), true, R x, hs, rfl, hfr, by rw [if_pos rfl]; exact unhide Hset⟩
end Go.Proofs.Ytjlafneklcfgoab.vl
