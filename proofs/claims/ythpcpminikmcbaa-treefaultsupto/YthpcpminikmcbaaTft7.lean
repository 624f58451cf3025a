import Derived.Test.YthpcpminikmcbaaTft6
import Derived.Test.YthpcpminikmcbaaTft1
import Derived.Test.YthpcpminikmcbaaTft5
namespace Go.Proofs.Ythpcpminikmcbaa.og
open Go.ChangeShapes Go.WideShapes Go.ChangeAt Go.RowKit
open vl hiding cB cFl cS cF cI cK cIt
set_option linter.unusedVariables false
set_option linter.unusedSimpArgs false
/-- a function from members to members: what it makes of p -/
def FnMAt (g : Nat) (R : ByteArray × Vl → ByteArray × Vl → Prop) (p : ByteArray × Vl) : Prop := ∀ (Q : Nat → Prop) (cs : List Value) (w : World), (∀ b, Q b → b < w.heap.size) → p.1.size ≤ maxLen → AvC Q w p.2 cs → Calls Try.prog g #[.agg (Value.string p.1 :: cs).toArray] w fun e w' => ∃ (nm' : ByteArray) (v' : Vl) (ds : List Value), e = .returned (.agg (Value.string nm' :: ds).toArray) ∧ nm'.size ≤ maxLen ∧ R p (nm', v') ∧ AvC Q w' v' ds ∧ Gr w w'
set_option maxHeartbeats 6000000 in
set_option maxRecDepth 6000 in
theorem eachM_ok' (g : Nat) (en : ∀ args w, (callFunc g args).run Try.prog w = .ok (.enter g args) w) (R : ByteArray × Vl → ByteArray × Vl → Prop) (its : Fls) (ih : ∀ v ∈ its.list, FnMAt g R v) (Q : Nat → Prop) (a : Addr) (n c : Nat) (w : World) (hQ : ∀ b, Q b → b < w.heap.size) (hI : AvF Q w its (some a) n) (hn : n ≤ 1099511627776) :
    Calls Try.prog 59 #[.slice (some a) n c, .func (.func g) #[] #[]] w fun e w' => ∃ (l : List (ByteArray × Vl)), e = .returned (.slice (some ⟨w.heap.size, 0, none⟩) n n) ∧ l.length = n ∧ Pw R its.list l ∧ RowF (fun b => Q b ∨ b = w.heap.size) w' w.heap.size l ∧ w.heap.size < w'.heap.size ∧ w'.there w.heap.size 0 (n * 9) ∧ Gr w w' := by
  have hnil : ∀ (w : World) (a : Option Addr) (n c n' c' : Nat), (binOp .eql 25 (.slice a n c) (.slice none n' c')).run Try.prog w = .ok (.bool a.isNone) w := fun w a n c n' c' => Lib.run_eql_slice_nil w _ _ a n c n' c' Try.underlying25
  have hlen := FlsAt.len its _ _ (AvF.read its _ _ hI)
  obtain ⟨Z, hZ, hmk⟩ := makeM n w hn
  have hL := hide hlen
  have hZ' := hide hZ
  clear hlen hZ
  go_enter Try.func59, Try.ntmps59
  go_wp2_with fail
  clear hmk
  go_loopw [15] (fun vi wr => ∃ (k : Nat) (l : List (ByteArray × Vl)), k ≤ n ∧ vi = .int .i64 k ∧ l.length = k ∧ vl.Hid (Pw R (its.list.take k) l) ∧ vl.Hid (RowF (fun b => Q b ∨ b = w.heap.size) wr w.heap.size l) ∧ vl.Hid (wr.there w.heap.size 0 (n * 9)) ∧ Gr w wr ∧ w.heap.size < wr.heap.size) (fun vi _ => n - (intOf vi).toNat)
  case atStart => exact ⟨0, [], Nat.zero_le _, rfl, rfl, hide ⟨by simp, fun i x y hx => by simp at hx⟩, hide (fun i v hv => by simp at hv), hide (there_new (unhide hZ')), (Gr.refl _).alloc _, by simp⟩
  case round =>
    obtain ⟨k, l, hk, rfl, hlk, hP, hO, hT, hB, hs⟩ := hrel
    by_cases hlt : k < n
    · obtain ⟨b, off, nm, v, cs, hab, hg, -, hn0, hnz, hr, hv⟩ := AvF.get its _ n hI k hlt
      obtain rfl : a = ⟨b, off, none⟩ := Option.some.inj hab
      clear hab
      have hcop := hide (ih (nm, v) (List.mem_of_getElem? hg))
      have hr' : wr.rangeAt b (off + k * 9) (Value.string nm :: cs) := Row8.below (row9 hr hn0) hB.1
      have h8 := hv.cells
      have h1 := one9 nm (AvC.read v cs hv)
      have hi8 : (Try.prog.info? 69).map (·.size) = some (Value.string nm :: cs).length := by rw [List.length_cons, h8]; exact infoM
      have hi8' : (Try.prog.info? 69).map (·.size) = some (Value.string nm :: cs).toArray.size := by simp [h8, infoM]
      have hz8 : (Value.string nm :: cs).toArray.size = 9 := by simp [h8]
      have ki : (k : Int) < (n : Int) := by omega
      have HH := hide (And.intro hi8 (And.intro hi8' (And.intro hz8 (show (Value.string nm :: cs).length = 9 by simp [h8]))))
      have HLK := hide hlk
      clear hr hi8 hi8' hz8 h8 hlk
      go_wp2_with (first
        | refine wpList_load_mid (by rfl) 69 _ (by rfl) b (off + k * 9) (by rfl) (Value.string nm :: cs) _ hr' Try.underlying69 (by rfl) (unhide HH).1 ?_
        | refine wpList_store_mid (by rfl) 69 _ _ (by rfl) wr.heap.size 0 (Value.string nm :: cs).toArray (by rfl) (by rfl) (there_new (by rw [(unhide HH).2.2.1]; rfl)) (unhide HH).2.1 h1 ?_
        | refine wpList_load_mid (by rfl) 69 _ (by rfl) wr.heap.size 0 (by rfl) (Value.string nm :: cs) _ (World.rangeAt_setCells_same _ _ _ _ (there_new (by show _ = (Value.string nm :: cs).length; rw [(unhide HH).2.2.2]; rfl))) Try.underlying69 (by rfl) (unhide HH).1 ?_)
      obtain ⟨W2, e2⟩ : ∃ W2, W2 = ((wr.alloc (.cells #[Value.string { data := #[] }, Value.int IntKind.i64 0, Value.bool false, Value.int IntKind.i64 0, Value.float FloatKind.f64 0, Value.string { data := #[] }, Value.string { data := #[] }, Value.slice none 0 0, Value.slice none 0 0] 69)).setCells wr.heap.size 0 (Value.string nm :: cs)) := ⟨_, rfl⟩
      have b2 : Gr wr W2 := by rw [e2]; exact ((Gr.refl _).alloc _).setCells (Nat.le_refl _) _ _
      rw [← e2]
      clear e2
      have g2 : Gr w W2 := hB.trans b2
      have hQ2 : ∀ b, (Q b ∨ b = w.heap.size) → b < W2.heap.size := fun b hb => hb.elim (fun h => gr_lt g2 (hQ b h)) (fun h => by rw [h]; exact gr_lt b2 hs)
      have hv2 : AvC (fun b => Q b ∨ b = w.heap.size) W2 v cs := AvC.agree (fun b hl hn e => e.elim hn (fun e => by omega)) (fun b j hl _ => g2.1.cell (p := ⟨b, j, none⟩) hl) v cs hv
      refine ((unhide hcop) _ cs W2 hQ2 hnz hv2).mono ?_
      rintro e w3 ⟨nm', v', ds, rfl, hnz', hR, hO3, b3⟩
      have d8 := hO3.cells
      have d1 := one9 nm' (AvC.read v' ds hO3)
      have b23 : Gr wr w3 := b2.trans b3
      have hT3 : w3.there w.heap.size (k * 9) (Value.string nm' :: ds).toArray.size := there_sub (there_below (unhide hT) b23.1 hs) (Nat.zero_le _) (by simp [d8]; omega)
      have hi8 : (Try.prog.info? 69).map (·.size) = some (Value.string nm' :: ds).toArray.size := by simp [d8, infoM]
      have D8 := hide d8
      have HI := hide hi8
      have HT := hide hT3
      have HO3 := hide hO3
      clear hO3 hT3 hi8 d8 hcop HH hr' hv2
      go_wp2_with (first
        | refine wpList_store_mid (by rfl) 69 _ _ (by rfl) w.heap.size (k * 9) (Value.string nm' :: ds).toArray (by rfl) (by rfl) (unhide HT) (unhide HI) d1 ?_)
      have hrow : (w3.setCells w.heap.size (k * 9) (Value.string nm' :: ds)).rangeAt w.heap.size (k * 9) (Value.string nm' :: ds) := World.rangeAt_setCells_same w3 _ _ _ (by have := unhide HT; simpa using this)
      have hav : ∀ u us, AvC (fun b => Q b ∨ b = w.heap.size) w3 u us → AvC (fun b => Q b ∨ b = w.heap.size) (w3.setCells w.heap.size (k * 9) (Value.string nm' :: ds)) u us := fun u us h => AvC.agree (fun _ _ h => h) (fun b j _ hn => World.cell?_setCells_out _ _ _ _ _ (fun e _ => absurd (.inr (show b = w.heap.size from e)) hn)) u us h
      refine ⟨⟨k + 1, l ++ [(nm', v')], by omega, by go_num, by simp [unhide HLK], hide (Pw.snoc (unhide hP) hg hR), hide ?_, hide (World.there_setCells (there_below (unhide hT) b23.1 hs) _ _ _), (hB.trans b23).setCells (Nat.le_refl _) _ _, by rw [size_setCells]; exact gr_lt b23 hs⟩, by simp only [intOf]; omega⟩
      intro i u hu
      by_cases hi : i < k
      · rw [List.getElem?_append_left (by rw [unhide HLK]; exact hi)] at hu
        obtain ⟨us, g0, gz, g1, g2⟩ := unhide hO i u hu
        have u8 := g2.cells
        refine ⟨us, ?_, gz, fun j x hx => ?_, hav u.2 us (AvC.agree (fun _ _ h => h) (fun b j hl _ => b23.1.cell (p := ⟨b, j, none⟩) hl) u.2 us g2)⟩
        · rw [World.cell?_setCells_out _ _ _ _ _ (fun _ _ => .inl (by show i * 9 < k * 9; omega))]
          exact (b23.1.cell (p := ⟨w.heap.size, i * 9, none⟩) hs).trans g0
        · have hj := (List.getElem?_eq_some_iff.1 hx).1
          rw [World.cell?_setCells_out _ _ _ _ _ (fun _ _ => .inl (by show i * 9 + 1 + j < k * 9; omega))]
          exact (b23.1.cell (p := ⟨w.heap.size, i * 9 + 1 + j, none⟩) hs).trans (g1 j x hx)
      · have hi2 := (List.getElem?_eq_some_iff.1 hu).1
        simp [unhide HLK] at hi2
        obtain rfl : i = k := by omega
        rw [List.getElem?_append_right (by rw [unhide HLK]; omega), unhide HLK] at hu
        simp at hu
        subst hu
        exact ⟨ds, hrow 0 _ rfl, hnz', fun j x hx => by have := hrow (j + 1) x (by simpa using hx); rwa [show i * 9 + (j + 1) = i * 9 + 1 + j by omega] at this, hav _ ds (unhide HO3)⟩
    · obtain rfl : k = n := by omega
      go_wp2
      go_ret
      refine ⟨l, rfl, hlk, ?_, unhide hO, hs, unhide hT, hB⟩
      have := unhide hP
      rwa [List.take_of_length_le (Nat.le_of_eq (unhide hL))] at this
end Go.Proofs.Ythpcpminikmcbaa.og
namespace Go.Proofs.Ythpcpminikmcbaa.og
open Go.ChangeShapes Go.WideShapes Go.ChangeAt Go.RowKit
open vl hiding cB cFl cS cF cI cK cIt
set_option linter.unusedVariables false
set_option linter.unusedSimpArgs false
set_option maxHeartbeats 6000000 in
set_option maxRecDepth 6000 in
theorem sortM_ok (R : Vl → Vl → Prop) (p : ByteArray × Vl) (hc : FnAt 53 R p.2) : FnMAt 86 (fun p q => q.1 = p.1 ∧ R p.2 q.2) p := by
  intro Q cs w hQ hnz hv
  obtain ⟨nm, v⟩ := p
  simp only at hc hnz hv ⊢
  have H := hide (hc (fun b => Q b ∨ b = w.heap.size + 1) cs)
  have hv' := hide hv
  have h8 := hv.cells
  have h1 := one9 nm (AvC.read v cs hv)
  have i9 : (Try.prog.info? 69).map (·.size) = some (Value.string nm :: cs).toArray.size := by simp [h8, infoM]
  have HH := hide (And.intro h8 i9)
  clear hc h8 i9 hv
  go_enter Try.func86, Try.ntmps86
  go_wp2_with (first
    | refine wpList_store_mid (by rfl) 69 _ _ (by rfl) w.heap.size 0 (Value.string nm :: cs).toArray (by rfl) (by rfl) (there_new (by simp [(unhide HH).1])) (unhide HH).2 h1 ?_)
  obtain ⟨W, eW⟩ : ∃ W, W = ((w.alloc (.cells (Value.string nm :: cs).toArray 69)).alloc (.cells #[.string { data := #[] }, .int .i64 0, .bool false, .int .i64 0, .float .f64 0, .string { data := #[] }, .string { data := #[] }, .slice none 0 0, .slice none 0 0] 69)) := ⟨_, rfl⟩
  have bW : Gr w W := by rw [eW]; exact ((Gr.refl _).alloc _).alloc _
  have hsz : W.heap.size = w.heap.size + 2 := by rw [eW]; simp
  have hcell : ∀ j u, (Value.string nm :: cs)[j]? = some u → W.cell? ⟨w.heap.size, j, none⟩ = some u := fun j u hu => by
    rw [eW, World.cell?_alloc_past _ _ _ (by simp), World.cell?_alloc_at _ _ _ _ rfl]; simpa using hu
  have x0 := hcell 0 _ rfl
  have hrow : W.rangeAt w.heap.size 1 cs := fun j u hu => by
    rw [Nat.add_comm]; exact hcell (j + 1) u (by simpa using hu)
  have hth : W.there (w.heap.size + 1) 0 9 := by
    rw [eW]
    have h := there_new (w := w.alloc (.cells (Value.string nm :: cs).toArray 69)) (Z := #[.string { data := #[] }, .int .i64 0, .bool false, .int .i64 0, .float .f64 0, .string { data := #[] }, .string { data := #[] }, .slice none 0 0, .slice none 0 0]) (t := 69) (n := 9) rfl
    simpa using h
  rw [← eW]
  clear eW hcell
  have hS0 : Below (w.heap.size + 1) W { W with drawn := W.drawn + 1 } := (Below.refl _ _).drew
  have gS0 : Gr W { W with drawn := W.drawn + 1 } := (Gr.refl _).drew
  have hi8 : (Try.prog.info? 27).map (·.size) = some cs.length := by rw [(unhide HH).1]; exact infoV
  refine wp_region_noPanic ?_
  refine wp_region_held (S := fun w' => Below (w.heap.size + 1) W w') mixed ?_
  refine rgn.take (i := 0) _ (.pointer (some ⟨w.heap.size, 0, none⟩)) rfl (by kernel_rfl) (by kernel_rfl) (by kernel_rfl) (fun _ _ _ h => h) (by rfl) hS0 (fun w' hw' => by go_simp) ?_
  simp only [List.getElem_toArray, List.getElem_cons_zero, List.getElem_cons_succ, Act.put, List.setIfInBounds_toArray, List.set_cons_zero, List.set_cons_succ]
  refine rgn.take (i := 1) _ (.string nm) rfl (by kernel_rfl) (by kernel_rfl) (by kernel_rfl) (fun _ _ _ h => h) (by rfl) hS0 (fun w' hw' => by
    have y0 : w'.cell? ⟨w.heap.size, 0, none⟩ = some (.string nm) := (hw'.cell (p := ⟨w.heap.size, 0, none⟩) (Nat.lt_succ_self _)).trans x0
    clear x0
    go_simp) ?_
  simp only [List.getElem_toArray, List.getElem_cons_zero, List.getElem_cons_succ, Act.put, List.setIfInBounds_toArray, List.set_cons_zero, List.set_cons_succ]
  refine rgn.take (i := 2) _ (.pointer (some ⟨w.heap.size, 1, none⟩)) rfl (by kernel_rfl) (by kernel_rfl) (by kernel_rfl) (fun _ _ _ h => h) (by rfl) hS0 (fun w' hw' => by go_simp) ?_
  simp only [List.getElem_toArray, List.getElem_cons_zero, List.getElem_cons_succ, Act.put, List.setIfInBounds_toArray, List.set_cons_zero, List.set_cons_succ]
  refine wpAnyH_take (i := 3) rfl (by kernel_rfl) (by kernel_rfl) (by kernel_rfl) (fun _ _ _ h => h) (yieldsIf_load_mid (by rfl) 27 _ (by rfl) w.heap.size 1 (by rfl) cs _ (fun w' hw' j u hu => (hw'.cell (p := ⟨w.heap.size, 1 + j, none⟩) (Nat.lt_succ_self _)).trans (hrow j u hu)) Try.underlying27 (by rfl) hi8) hS0 ?_
  simp only [List.getElem_toArray, List.getElem_cons_zero, List.getElem_cons_succ, Act.put, List.setIfInBounds_toArray, List.set_cons_zero, List.set_cons_succ]
  refine rgn.one (i := 4) _ rfl (by kernel_rfl) (by rfl) ?_
  simp only [List.getElem_toArray, List.getElem_cons_zero, List.getElem_cons_succ, Act.put, List.setIfInBounds_toArray, List.set_cons_zero, List.set_cons_succ]
  go_wp2_with fail
  refine ((unhide H) _ (fun b hb => hb.elim (fun h => gr_lt (bW.trans gS0) (hQ b h)) (fun h => by rw [h]; show w.heap.size + 1 < W.heap.size; omega)) (AvC.agree (fun b hl hn e => e.elim hn (fun e => by omega)) (fun b j hl _ => (bW.trans gS0).1.cell (p := ⟨b, j, none⟩) hl) v cs (unhide hv'))).mono ?_
  rintro e w3 ⟨v', ds, rfl, hR, hO3, b3⟩
  have g4 : Gr W w3 := gS0.trans b3
  have b4 : Below W.heap.size W w3 := g4.1
  have hS3 : Below (w.heap.size + 1) W w3 := b4.mono (by omega)
  have d8 := (AvC.read v' ds hO3).cells
  have d1 := one9 nm (AvC.read v' ds hO3)
  have hT3 : w3.there (w.heap.size + 1) 0 (Value.string nm :: ds).toArray.size := by
    have := there_below hth b4 (by omega)
    simpa [d8] using this
  have i9 : (Try.prog.info? 69).map (·.size) = some (Value.string nm :: ds).toArray.size := by simp [d8, infoM]
  refine ⟨hS3, ?_⟩
  refine rgn.take (i := 5) _ (.agg (Value.string nm :: ds).toArray) rfl (by kernel_rfl) (by kernel_rfl) (by kernel_rfl) (fun _ _ _ h => h) (by rfl) hS3 (fun w' hw' => by
    have hO4 := hO3
    clear hO3 d8 d1 hT3 i9
    clear hR
    obtain ⟨kd, bb, ni, f, tx, ty, its, fls⟩ := v'
    unfold AvC at hO4
    obtain ⟨ai, nI, ci, af, nf, cf, rfl, -⟩ := hO4
    go_simp) ?_
  simp only [List.getElem_toArray, List.getElem_cons_zero, List.getElem_cons_succ, Act.put, List.setIfInBounds_toArray, List.set_cons_zero, List.set_cons_succ]
  refine rgn.one (i := 6) _ rfl (by kernel_rfl) (by rfl) ?_
  simp only [List.getElem_toArray, List.getElem_cons_zero, List.getElem_cons_succ, Act.put, List.setIfInBounds_toArray, List.set_cons_zero, List.set_cons_succ]
  refine wp_store_mid 69 _ _ (by rfl) (w.heap.size + 1) 0 (Value.string nm :: ds).toArray (by rfl) (by rfl) hT3 i9 d1 ?_
  refine ⟨below_setCells _ _ _ _ hS3 (Nat.le_refl _), ?_⟩
  refine wpAnyH_done (by kernel_rfl) ?_ _
  simp only [List.getElem_toArray, List.getElem_cons_zero, List.getElem_cons_succ, Act.put, List.setIfInBounds_toArray, List.set_cons_zero, List.set_cons_succ]
  refine NoPanic.normal ?_
  obtain ⟨W4, e4⟩ : ∃ W4, W4 = w3.setCells (w.heap.size + 1) 0 (Value.string nm :: ds) := ⟨_, rfl⟩
  rw [← e4]
  go_wp2_with fail
  have g5 : Gr w W4 := by rw [e4]; exact (bW.trans g4).setCells (Nat.le_succ _) _ _
  have hr4 : W4.rangeAt (w.heap.size + 1) 0 (Value.string nm :: ds) := by rw [e4]; exact World.rangeAt_setCells_same _ _ _ _ (by simpa using hT3)
  have hO4 : AvC Q W4 v' ds := by
    rw [e4]
    exact AvC.agree (fun _ _ h e => h (.inl e)) (fun b j _ hn => World.cell?_setCells_out _ _ _ _ _ (fun e _ => absurd (.inr (show b = w.heap.size + 1 from e)) hn)) v' ds hO3
  refine bodyPost_ret (rgn.result_row rfl _ _ (w.heap.size + 1) 0 (Value.string nm :: ds) _ rfl hr4 Try.underlying69 rfl (by simpa using i9)) rfl ?_
  exact ⟨nm, v', ds, rfl, hnz, ⟨rfl, hR⟩, hO4, g5⟩
end Go.Proofs.Ythpcpminikmcbaa.og
namespace Go.Proofs.Ythpcpminikmcbaa.og
open Go.ChangeShapes Go.WideShapes Go.ChangeAt Go.RowKit Go.Shelf
open vl hiding cB cFl cS cF cI cK cIt
set_option linter.unusedVariables false
set_option linter.unusedSimpArgs false
mutual
/-- u is v with the members of all its objects in order -/
def Srt : Vl → Vl → Prop
  | .mk kd b n f tx ty its fls, u => ∃ (its' : Vls) (fls' : Fls), u = .mk kd b n f tx ty its' fls' ∧ (if kd = 5 then SrtI its its'.list ∧ fls' = fls else if kd = 6 then its' = its ∧ ∃ mid, SrtF fls mid ∧ fls'.list.Perm mid ∧ Srtd fls'.list else its' = its ∧ fls' = fls)
def SrtI : Vls → List Vl → Prop
  | .nil, l => l = []
  | .cons v r, l => ∃ v' l', l = v' :: l' ∧ Srt v v' ∧ SrtI r l'
def SrtF : Fls → List (ByteArray × Vl) → Prop
  | .nil, l => l = []
  | .cons nm v r, l => ∃ v' l', l = (nm, v') :: l' ∧ Srt v v' ∧ SrtF r l'
end
theorem SrtI.of_pw : ∀ (its : Vls) (l : List Vl), Pw Srt its.list l → SrtI its l
  | .nil, l, h => by
    unfold SrtI
    have := h.1
    simp [Vls.list] at this
    exact List.eq_nil_of_length_eq_zero this.symm
  | .cons v r, l, h => by
    unfold SrtI
    match l, h with
    | [], h => exact absurd h.1 (by simp [Vls.list])
    | v' :: l', h =>
      exact ⟨v', l', rfl, h.2 0 v v' rfl rfl, SrtI.of_pw r l' ⟨by have := h.1; simpa [Vls.list] using this, fun i x y hx hy => h.2 (i + 1) x y (by simpa [Vls.list] using hx) (by simpa using hy)⟩⟩
theorem SrtF.of_pw : ∀ (fls : Fls) (l : List (ByteArray × Vl)), Pw (fun p q => q.1 = p.1 ∧ Srt p.2 q.2) fls.list l → SrtF fls l
  | .nil, l, h => by
    unfold SrtF
    have := h.1
    simp [Fls.list] at this
    exact List.eq_nil_of_length_eq_zero this.symm
  | .cons nm v r, l, h => by
    unfold SrtF
    match l, h with
    | [], h => exact absurd h.1 (by simp [Fls.list])
    | q :: l', h =>
      obtain ⟨h1, h2⟩ := h.2 0 (nm, v) q rfl rfl
      exact ⟨q.2, l', by rw [← show q.1 = nm from h1], h2, SrtF.of_pw r l' ⟨by have := h.1; simpa [Fls.list] using this, fun i x y hx hy => h.2 (i + 1) x y (by simpa [Fls.list] using hx) (by simpa using hy)⟩⟩
theorem SmallI.of' {l : List Vl} (h : ∀ v ∈ l, Small v) : SmallI (Vls.of l) := by
  induction l with
  | nil => simp [Vls.of, SmallI]
  | cons v r ih => simp only [Vls.of, SmallI]; exact ⟨h v (List.mem_cons_self ..), ih (fun u hu => h u (List.mem_cons_of_mem _ hu))⟩
theorem SmallF.of' {l : List (ByteArray × Vl)} (h : ∀ q ∈ l, Small q.2) : SmallF (Fls.of l) := by
  induction l with
  | nil => simp [Fls.of, SmallF]
  | cons v r ih => simp only [Fls.of, SmallF]; exact ⟨h v (List.mem_cons_self ..), ih (fun u hu => h u (List.mem_cons_of_mem _ hu))⟩
mutual
theorem Srt.small : ∀ (v u : Vl), Small v → Srt v u → Small u
  | .mk kd b n f tx ty its fls, u, hs, h => by
    unfold Srt at h
    obtain ⟨its', fls', rfl, h⟩ := h
    unfold Small at hs ⊢
    obtain ⟨s1, s2, s3, s4, s5⟩ := hs
    by_cases h5 : kd = 5
    · rw [if_pos h5] at h
      obtain ⟨h1, rfl⟩ := h
      obtain ⟨l1, l2⟩ := SrtI.small its its'.list s4 h1
      exact ⟨by rw [l1]; exact s1, s2, s3, by rw [← Vls.of_list its']; exact SmallI.of' l2, s5⟩
    · rw [if_neg h5] at h
      by_cases h6 : kd = 6
      · rw [if_pos h6] at h
        obtain ⟨rfl, mid, h1, h2, -⟩ := h
        obtain ⟨l1, l2⟩ := SrtF.small fls mid s5 h1
        exact ⟨s1, by rw [h2.length_eq, l1]; exact s2, s3, s4, by rw [← Fls.of_list fls']; exact SmallF.of' (fun q hq => l2 q (h2.mem_iff.1 hq))⟩
      · rw [if_neg h6] at h
        obtain ⟨rfl, rfl⟩ := h
        exact ⟨s1, s2, s3, s4, s5⟩
theorem SrtI.small : ∀ (its : Vls) (l : List Vl), SmallI its → SrtI its l → l.length = its.list.length ∧ ∀ v ∈ l, Small v
  | .nil, l, hs, h => by unfold SrtI at h; subst h; exact ⟨rfl, by simp⟩
  | .cons v r, l, hs, h => by
    unfold SrtI at h
    obtain ⟨v', l', rfl, h1, h2⟩ := h
    unfold SmallI at hs
    obtain ⟨k1, k2⟩ := SrtI.small r l' hs.2 h2
    refine ⟨by simp [Vls.list, k1], fun u hu => ?_⟩
    rcases List.mem_cons.1 hu with rfl | hu
    · exact Srt.small v _ hs.1 h1
    · exact k2 u hu
theorem SrtF.small : ∀ (fls : Fls) (l : List (ByteArray × Vl)), SmallF fls → SrtF fls l → l.length = fls.list.length ∧ ∀ q ∈ l, Small q.2
  | .nil, l, hs, h => by unfold SrtF at h; subst h; exact ⟨rfl, by simp⟩
  | .cons nm v r, l, hs, h => by
    unfold SrtF at h
    obtain ⟨v', l', rfl, h1, h2⟩ := h
    unfold SmallF at hs
    obtain ⟨k1, k2⟩ := SrtF.small r l' hs.2 h2
    refine ⟨by simp [Fls.list, k1], fun u hu => ?_⟩
    rcases List.mem_cons.1 hu with rfl | hu
    · exact Srt.small v _ hs.1 h1
    · exact k2 u hu
end
end Go.Proofs.Ythpcpminikmcbaa.og
namespace Go.Proofs.Ythpcpminikmcbaa.og
open Go.ChangeShapes Go.WideShapes Go.ChangeAt Go.RowKit Go.Shelf
open vl hiding cB cFl cS cF cI cK cIt
set_option linter.unusedVariables false
set_option linter.unusedSimpArgs false
theorem eachV_nil (g c : Nat) (w : World) : Calls Try.prog 58 #[.slice none 0 c, .func (.func g) #[] #[]] w fun e w' => e = .returned (.slice none 0 0) ∧ w = w' := by
  have hnil : ∀ (w : World) (a : Option Addr) (n c n' c' : Nat), (binOp .eql 24 (.slice a n c) (.slice none n' c')).run Try.prog w = .ok (.bool a.isNone) w := fun w a n c n' c' => Lib.run_eql_slice_nil w _ _ a n c n' c' Try.underlying24
  go_enter Try.func58, Try.ntmps58
  go_wp2
  go_ret
  exact ⟨rfl, rfl⟩
theorem eachM_nil' (g c : Nat) (w : World) : Calls Try.prog 59 #[.slice none 0 c, .func (.func g) #[] #[]] w fun e w' => e = .returned (.slice none 0 0) ∧ w = w' := by
  have hnil : ∀ (w : World) (a : Option Addr) (n c n' c' : Nat), (binOp .eql 25 (.slice a n c) (.slice none n' c')).run Try.prog w = .ok (.bool a.isNone) w := fun w a n c n' c' => Lib.run_eql_slice_nil w _ _ a n c n' c' Try.underlying25
  go_enter Try.func59, Try.ntmps59
  go_wp2
  go_ret
  exact ⟨rfl, rfl⟩
/-- what each answers -/
def EachI (R : Vl → Vl → Prop) (its : Vls) (Q : Nat → Prop) (n : Nat) (w w' : World) (aj : Option Addr) (cj : Nat) (l : List Vl) : Prop := l.length = n ∧ Pw R its.list l ∧ n ≤ cj ∧ cj ≤ maxLen ∧ (aj = none → cj = 0) ∧ (aj = none ∧ n = 0 ∨ aj = some ⟨w.heap.size, 0, none⟩ ∧ w.heap.size < w'.heap.size ∧ w'.there w.heap.size 0 (n * 8)) ∧ RowI (fun b => Q b ∨ b = w.heap.size) w' w.heap.size l ∧ Gr w w'
def EachF (R : ByteArray × Vl → ByteArray × Vl → Prop) (its : Fls) (Q : Nat → Prop) (n : Nat) (w w' : World) (aj : Option Addr) (cj : Nat) (l : List (ByteArray × Vl)) : Prop := l.length = n ∧ Pw R its.list l ∧ n ≤ cj ∧ cj ≤ maxLen ∧ (aj = none → cj = 0) ∧ (aj = none ∧ n = 0 ∨ aj = some ⟨w.heap.size, 0, none⟩ ∧ w.heap.size < w'.heap.size ∧ w'.there w.heap.size 0 (n * 9)) ∧ RowF (fun b => Q b ∨ b = w.heap.size) w' w.heap.size l ∧ Gr w w'
theorem eachV_any (g : Nat) (en : ∀ args w, (callFunc g args).run Try.prog w = .ok (.enter g args) w) (R : Vl → Vl → Prop) (its : Vls) (ih : ∀ v ∈ its.list, FnAt g R v) (Q : Nat → Prop) (a : Option Addr) (n c : Nat) (w : World) (hQ : ∀ b, Q b → b < w.heap.size) (hI : AvI Q w its a n) (hn : n ≤ 1256584717458) (hnc : n ≤ c) (ha : a = none → c = 0) :
    Calls Try.prog 58 #[.slice a n c, .func (.func g) #[] #[]] w fun e w' => ∃ aj cj l, e = .returned (.slice aj n cj) ∧ EachI R its Q n w w' aj cj l := by
  cases a with
  | none =>
    obtain rfl : n = 0 := by have := ha rfl; omega
    have hl := VlsAt.len its _ _ (AvI.read its _ _ hI)
    refine (eachV_nil g c w).mono ?_
    rintro e w' ⟨rfl, rfl⟩
    exact ⟨none, 0, [], rfl, rfl, ⟨by simpa using hl, fun i x y hx hy => by simp at hy⟩, Nat.le_refl _, Nat.zero_le _, fun _ => rfl, .inl ⟨rfl, rfl⟩, fun i v hv => by simp at hv, Gr.refl _⟩
  | some a =>
    refine (eachV_ok g en R its ih Q a n c w hQ hI hn).mono ?_
    rintro e w' ⟨l, rfl, h1, h2, h3, h4, h5, h6⟩
    exact ⟨_, n, l, rfl, h1, h2, Nat.le_refl _, by unfold maxLen; omega, fun e => (by cases e), .inr ⟨rfl, h4, h5⟩, h3, h6⟩
theorem eachM_any' (g : Nat) (en : ∀ args w, (callFunc g args).run Try.prog w = .ok (.enter g args) w) (R : ByteArray × Vl → ByteArray × Vl → Prop) (its : Fls) (ih : ∀ v ∈ its.list, FnMAt g R v) (Q : Nat → Prop) (a : Option Addr) (n c : Nat) (w : World) (hQ : ∀ b, Q b → b < w.heap.size) (hI : AvF Q w its a n) (hn : n ≤ 1099511627776) (hnc : n ≤ c) (ha : a = none → c = 0) :
    Calls Try.prog 59 #[.slice a n c, .func (.func g) #[] #[]] w fun e w' => ∃ aj cj l, e = .returned (.slice aj n cj) ∧ EachF R its Q n w w' aj cj l := by
  cases a with
  | none =>
    obtain rfl : n = 0 := by have := ha rfl; omega
    have hl := FlsAt.len its _ _ (AvF.read its _ _ hI)
    refine (eachM_nil' g c w).mono ?_
    rintro e w' ⟨rfl, rfl⟩
    exact ⟨none, 0, [], rfl, rfl, ⟨by simpa using hl, fun i x y hx hy => by simp at hy⟩, Nat.le_refl _, Nat.zero_le _, fun _ => rfl, .inl ⟨rfl, rfl⟩, fun i v hv => by simp at hv, Gr.refl _⟩
  | some a =>
    refine (eachM_ok' g en R its ih Q a n c w hQ hI hn).mono ?_
    rintro e w' ⟨l, rfl, h1, h2, h3, h4, h5, h6⟩
    exact ⟨_, n, l, rfl, h1, h2, Nat.le_refl _, by unfold maxLen; omega, fun e => (by cases e), .inr ⟨rfl, h4, h5⟩, h3, h6⟩
theorem sortAny_ok (Q : Nat → Prop) (l : List (ByteArray × Vl)) (hsm : ∀ q ∈ l, Small q.2) (a : Option Addr) (p n c : Nat) (w : World) (hn : l.length = n) (hQ : Q p) (hrow : RowF Q w p l) (ha : a = none ∧ n = 0 ∨ a = some ⟨p, 0, none⟩ ∧ p < w.heap.size ∧ w.there p 0 (n * 9)) (hb : n ≤ 1099511627776) :
    Calls Try.prog 87 #[.slice a n c, .func (.func 69) #[] #[]] w fun e w' => e = .returned (.tuple #[]) ∧ ∃ l' : List (ByteArray × Vl), l'.Perm l ∧ Srtd l' ∧ RowF Q w' p l' ∧ Below p w w' ∧ w.drawn ≤ w'.drawn := by
  rcases ha with ⟨rfl, rfl⟩ | ⟨rfl, hp, ht⟩
  · obtain rfl := List.eq_nil_of_length_eq_zero hn
    refine (AnyF.slices_SortFunc_none Try.sortMem none c (.func (.func 69) #[] #[]) w).mono ?_
    rintro e w' ⟨rfl, rfl⟩
    exact ⟨rfl, [], List.Perm.refl _, fun i j x y _ hx => by simp at hx, fun i q hq => by simp at hq, Below.refl _ _, Nat.le_refl _⟩
  · exact sortRow_ok Q l hsm p n c w hn hp hQ hrow ht hb
end Go.Proofs.Ythpcpminikmcbaa.og
namespace Go.Proofs.Ythpcpminikmcbaa.og
open Go.ChangeShapes Go.WideShapes Go.ChangeAt Go.RowKit Go.Shelf
open vl hiding cB cFl cS cF cI cK cIt
set_option linter.unusedVariables false
set_option linter.unusedSimpArgs false
theorem AvI.agree' {Q Q' : Nat → Prop} {w W : World} {l : Vls} {a : Option Addr} {n : Nat} (h : AvI Q w l a n) (hq : ∀ b, b < w.heap.size → ¬ Q b → ¬ Q' b) (ha : ∀ b j, b < w.heap.size → ¬ Q b → W.cell? ⟨b, j, none⟩ = w.cell? ⟨b, j, none⟩) : AvI Q' W l a n := AvI.agree hq ha l a n h
theorem AvF.agree' {Q Q' : Nat → Prop} {w W : World} {l : Fls} {a : Option Addr} {n : Nat} (h : AvF Q w l a n) (hq : ∀ b, b < w.heap.size → ¬ Q b → ¬ Q' b) (ha : ∀ b j, b < w.heap.size → ¬ Q b → W.cell? ⟨b, j, none⟩ = w.cell? ⟨b, j, none⟩) : AvF Q' W l a n := AvF.agree hq ha l a n h
set_option maxHeartbeats 4000000 in
set_option maxRecDepth 6000 in
theorem sorted_plain (kd : Int) (bb : Bool) (ni : Int) (f : Nat) (tx ty : ByteArray) (its : Vls) (fls : Fls) (h5 : kd ≠ 5) (h6 : kd ≠ 6) (hsm : Small (.mk kd bb ni f tx ty its fls)) : FnAt 53 Srt (.mk kd bb ni f tx ty its fls) := by
  intro Q cs w hQ hv
  unfold Small at hsm
  obtain ⟨hl1, hl2, -, hsI, hsF⟩ := hsm
  unfold AvC at hv
  obtain ⟨ai, nI, ci, af, nf, cf, rfl, hI, hF, hni, hnf, hai, haf, hk1, hk2, hk3, hk4, hci, hcf⟩ := hv
  have hmf : ∀ (fn : Fn) (first cap : Array Value) (w : World), (Instr.makeFunc fn first cap).run Try.prog w = .ok (.func fn first cap) w := fun _ _ _ _ => rfl
  obtain ⟨W, eW⟩ : ∃ W, W = ((w.alloc (.cells #[.int .i64 kd, .bool bb, .int .i64 ni, .float .f64 f, .string tx, .string ty, .slice ai nI ci, .slice af nf cf] 27)).alloc (.cells #[.int .i64 0, .bool false, .int .i64 0, .float .f64 0, .string { data := #[] }, .string { data := #[] }, .slice none 0 0, .slice none 0 0] 27)) := ⟨_, rfl⟩
  have bW : Gr w W := by rw [eW]; exact ((Gr.refl _).alloc _).alloc _
  have hsz : w.heap.size + 1 < W.heap.size := by rw [eW]; simp
  have x0 : W.cell? ⟨w.heap.size, 0, none⟩ = some (.int .i64 kd) := by rw [eW]; simp
  have x1 : W.cell? ⟨w.heap.size, 1, none⟩ = some (.bool bb) := by rw [eW]; simp
  have x2 : W.cell? ⟨w.heap.size, 2, none⟩ = some (.int .i64 ni) := by rw [eW]; simp
  have x3 : W.cell? ⟨w.heap.size, 3, none⟩ = some (.float .f64 f) := by rw [eW]; simp
  have x4 : W.cell? ⟨w.heap.size, 4, none⟩ = some (.string tx) := by rw [eW]; simp
  have x5 : W.cell? ⟨w.heap.size, 5, none⟩ = some (.string ty) := by rw [eW]; simp
  have x6 : W.cell? ⟨w.heap.size, 6, none⟩ = some (.slice ai nI ci) := by rw [eW]; simp
  have x7 : W.cell? ⟨w.heap.size, 7, none⟩ = some (.slice af nf cf) := by rw [eW]; simp
  have xf : ∀ j, W.frozen? ⟨w.heap.size, j, none⟩ = false := by intro j; rw [eW]; simp
  have hth : W.there (w.heap.size + 1) 0 8 := by
    rw [eW]
    have h := there_new (w := w.alloc (.cells #[.int .i64 kd, .bool bb, .int .i64 ni, .float .f64 f, .string tx, .string ty, .slice ai nI ci, .slice af nf cf] 27)) (Z := #[.int .i64 0, .bool false, .int .i64 0, .float .f64 0, .string { data := #[] }, .string { data := #[] }, .slice none 0 0, .slice none 0 0]) (t := 27) (n := 8) rfl
    simpa using h
  have q5 : (kd == 5) = false := by simpa using h5
  have q6 : (kd == 6) = false := by simpa using h6
  obtain ⟨L, eL⟩ : ∃ L : List Value, L = [.int .i64 kd, .bool bb, .int .i64 ni, .float .f64 f, .string tx, .string ty, .slice ai nI ci, .slice af nf cf] := ⟨_, rfl⟩
  have hL8 : L.length = 8 := by rw [eL]; rfl
  have hrL : W.rangeAt w.heap.size 0 L := by
    intro j u hu
    rw [eL] at hu
    have hj : j < 8 := by have := (List.getElem?_eq_some_iff.1 hu).1; simpa using this
    rw [Nat.zero_add]
    rcases (by omega : j = 0 ∨ j = 1 ∨ j = 2 ∨ j = 3 ∨ j = 4 ∨ j = 5 ∨ j = 6 ∨ j = 7) with rfl | rfl | rfl | rfl | rfl | rfl | rfl | rfl
    all_goals (simp at hu; rw [← hu]; assumption)
  have iL : (Try.prog.info? 27).map (·.size) = some L.length := by rw [hL8]; exact infoV
  have iL' : (Try.prog.info? 27).map (·.size) = some L.toArray.size := by simp [hL8, infoV]
  have ho8 : L.toArray.all (·.oneCell') = true := by rw [eL]; simp [Value.oneCell']
  have hthL : W.there (w.heap.size + 1) 0 L.toArray.size := by simp only [List.size_toArray, hL8]; exact hth
  have HH := hide (And.intro hthL (And.intro hrL (And.intro iL (And.intro iL' (And.intro hL8 eL)))))
  have EW := hide eW
  clear hth hthL hrL iL iL' hL8 eL eW x0 x1 x2 x3 x4 x5 x6 x7 xf
  go_enter Try.func53, Try.ntmps53
  go_wp2_with (first
    | (rw [← unhide EW]; refine wpList_load_mid (by rfl) 27 _ (by rfl) w.heap.size 0 (by rfl) L _ (unhide HH).2.1 Try.underlying27 (by rfl) (unhide HH).2.2.1 ?_)
    | refine wpList_store_mid (by rfl) 27 _ _ (by rfl) (w.heap.size + 1) 0 L.toArray (by rfl) (by rfl) (unhide HH).1 (unhide HH).2.2.2.1 ho8 ?_)
  obtain ⟨hthL, hrL, iL, iL', hL8, eL⟩ := unhide HH
  have hr4 : (W.setCells (w.heap.size + 1) 0 L).rangeAt (w.heap.size + 1) 0 L := World.rangeAt_setCells_same _ _ _ _ (by have h := hthL; rw [List.size_toArray] at h; exact h)
  have g4 : Gr w (W.setCells (w.heap.size + 1) 0 L) := bW.setCells (Nat.le_succ _) _ _
  refine bodyPost_ret (rgn.result_row rfl _ _ (w.heap.size + 1) 0 L _ rfl hr4 Try.underlying27 rfl iL) rfl ?_
  refine ⟨.mk kd bb ni f tx ty its fls, L, rfl, ?_, ?_, g4⟩
  · unfold Srt
    exact ⟨its, fls, rfl, by rw [if_neg h5, if_neg h6]; exact ⟨rfl, rfl⟩⟩
  · unfold AvC
    exact ⟨ai, nI, ci, af, nf, cf, eL, hI.agree' (fun _ _ h => h) (fun b j hl _ => g4.1.cell (p := ⟨b, j, none⟩) hl), hF.agree' (fun _ _ h => h) (fun b j hl _ => g4.1.cell (p := ⟨b, j, none⟩) hl), hni, hnf, hai, haf, hk1, hk2, hk3, hk4, hci, hcf⟩
set_option maxHeartbeats 4000000 in
set_option maxRecDepth 6000 in
theorem sorted_list (bb : Bool) (ni : Int) (f : Nat) (tx ty : ByteArray) (its : Vls) (fls : Fls) (ih : ∀ v ∈ its.list, FnAt 53 Srt v) (hsm : Small (.mk 5 bb ni f tx ty its fls)) : FnAt 53 Srt (.mk 5 bb ni f tx ty its fls) := by
  intro Q cs w hQ hv
  unfold Small at hsm
  obtain ⟨hl1, hl2, -, hsI, hsF⟩ := hsm
  unfold AvC at hv
  obtain ⟨ai, nI, ci, af, nf, cf, rfl, hI, hF, hni, hnf, hai, haf, hk1, hk2, hk3, hk4, hci, hcf⟩ := hv
  have hmf : ∀ (fn : Fn) (first cap : Array Value) (w : World), (Instr.makeFunc fn first cap).run Try.prog w = .ok (.func fn first cap) w := fun _ _ _ _ => rfl
  obtain ⟨W, eW⟩ : ∃ W, W = ((w.alloc (.cells #[.int .i64 5, .bool bb, .int .i64 ni, .float .f64 f, .string tx, .string ty, .slice ai nI ci, .slice af nf cf] 27)).alloc (.cells #[.int .i64 0, .bool false, .int .i64 0, .float .f64 0, .string { data := #[] }, .string { data := #[] }, .slice none 0 0, .slice none 0 0] 27)) := ⟨_, rfl⟩
  have bW : Gr w W := by rw [eW]; exact ((Gr.refl _).alloc _).alloc _
  have hsz : w.heap.size + 1 < W.heap.size := by rw [eW]; simp
  have x0 : W.cell? ⟨w.heap.size, 0, none⟩ = some (.int .i64 5) := by rw [eW]; simp
  have x1 : W.cell? ⟨w.heap.size, 1, none⟩ = some (.bool bb) := by rw [eW]; simp
  have x2 : W.cell? ⟨w.heap.size, 2, none⟩ = some (.int .i64 ni) := by rw [eW]; simp
  have x3 : W.cell? ⟨w.heap.size, 3, none⟩ = some (.float .f64 f) := by rw [eW]; simp
  have x4 : W.cell? ⟨w.heap.size, 4, none⟩ = some (.string tx) := by rw [eW]; simp
  have x5 : W.cell? ⟨w.heap.size, 5, none⟩ = some (.string ty) := by rw [eW]; simp
  have x6 : W.cell? ⟨w.heap.size, 6, none⟩ = some (.slice ai nI ci) := by rw [eW]; simp
  have x7 : W.cell? ⟨w.heap.size, 7, none⟩ = some (.slice af nf cf) := by rw [eW]; simp
  have xf : ∀ j, W.frozen? ⟨w.heap.size, j, none⟩ = false := by intro j; rw [eW]; simp
  have hth : W.there (w.heap.size + 1) 0 8 := by
    rw [eW]
    have h := there_new (w := w.alloc (.cells #[.int .i64 5, .bool bb, .int .i64 ni, .float .f64 f, .string tx, .string ty, .slice ai nI ci, .slice af nf cf] 27)) (Z := #[.int .i64 0, .bool false, .int .i64 0, .float .f64 0, .string { data := #[] }, .string { data := #[] }, .slice none 0 0, .slice none 0 0]) (t := 27) (n := 8) rfl
    simpa using h
  have en : ∀ args w, (callFunc 53 args).run Try.prog w = .ok (.enter 53 args) w := fun _ _ => rfl
  have hQ' : ∀ b, (Q b ∨ b = w.heap.size ∨ b = w.heap.size + 1) → b < W.heap.size := fun b hb => by
    rcases hb with h | h | h
    · exact gr_lt bW (hQ b h)
    · omega
    · omega
  have hI' : AvI (fun b => Q b ∨ b = w.heap.size ∨ b = w.heap.size + 1) W its ai nI := hI.agree' (fun b hl hn e => by rcases e with e | e | e; exact hn e; omega; omega) (fun b j hl _ => bW.1.cell (p := ⟨b, j, none⟩) hl)
  have HC := hide (eachV_any 53 en Srt its ih _ ai nI ci W hQ' hI' (by rw [← VlsAt.len its _ _ (AvI.read its _ _ hI)]; exact hl1) hni hai)
  have EW := hide eW
  clear eW en hI'
  go_enter Try.func53, Try.ntmps53
  go_wp2_with fail
  rw [← unhide EW]
  clear EW
  refine (unhide HC).mono ?_
  rintro e w1 ⟨aj, cj, l, rfl, hll, hPw, q1, q3, q2, hor, hrw, g1⟩
  have hl : w.heap.size < W.heap.size := by omega
  have y0 := keepC g1.1 hl x0
  have y1 := keepC g1.1 hl x1
  have y2 := keepC g1.1 hl x2
  have y3 := keepC g1.1 hl x3
  have y4 := keepC g1.1 hl x4
  have y5 := keepC g1.1 hl x5
  have y6 := keepC g1.1 hl x6
  have y7 := keepC g1.1 hl x7
  have yf : ∀ j, w1.frozen? ⟨w.heap.size, j, none⟩ = false := fun j => (g1.1.frozen (p := ⟨w.heap.size, j, none⟩) hl).trans (xf j)
  have hth1 := there_below hth g1.1 hsz
  obtain ⟨L, eL⟩ : ∃ L : List Value, L = [.int .i64 5, .bool bb, .int .i64 ni, .float .f64 f, .string tx, .string ty, .slice aj nI cj, .slice af nf cf] := ⟨_, rfl⟩
  have hL8 : L.length = 8 := by rw [eL]; rfl
  have hrL : (w1.setCell ⟨w.heap.size, 6, none⟩ (.slice aj nI cj)).rangeAt w.heap.size 0 L := by
    intro j u hu
    rw [eL] at hu
    have hj : j < 8 := by have := (List.getElem?_eq_some_iff.1 hu).1; simpa using this
    rw [Nat.zero_add]
    rcases (by omega : j = 0 ∨ j = 1 ∨ j = 2 ∨ j = 3 ∨ j = 4 ∨ j = 5 ∨ j = 6 ∨ j = 7) with rfl | rfl | rfl | rfl | rfl | rfl | rfl | rfl
    · simp at hu; rw [← hu, World.cell?_setCell_other _ _ _ _ (by simp)]; exact y0
    · simp at hu; rw [← hu, World.cell?_setCell_other _ _ _ _ (by simp)]; exact y1
    · simp at hu; rw [← hu, World.cell?_setCell_other _ _ _ _ (by simp)]; exact y2
    · simp at hu; rw [← hu, World.cell?_setCell_other _ _ _ _ (by simp)]; exact y3
    · simp at hu; rw [← hu, World.cell?_setCell_other _ _ _ _ (by simp)]; exact y4
    · simp at hu; rw [← hu, World.cell?_setCell_other _ _ _ _ (by simp)]; exact y5
    · simp at hu; rw [← hu]; exact World.cell?_setCell_same _ _ _ y6
    · simp at hu; rw [← hu, World.cell?_setCell_other _ _ _ _ (by simp)]; exact y7
  have hthL : (w1.setCell ⟨w.heap.size, 6, none⟩ (.slice aj nI cj)).there (w.heap.size + 1) 0 L.toArray.size := by
    simp only [List.size_toArray, hL8]
    exact World.there_setCells hth1 w.heap.size 6 [.slice aj nI cj]
  have iL : (Try.prog.info? 27).map (·.size) = some L.length := by rw [hL8]; exact infoV
  have iL' : (Try.prog.info? 27).map (·.size) = some L.toArray.size := by simp [hL8, infoV]
  have ho8 : L.toArray.all (·.oneCell') = true := by rw [eL]; simp [Value.oneCell']
  have HH := hide (And.intro hthL (And.intro hrL (And.intro iL (And.intro iL' (And.intro hL8 eL)))))
  have HOR := hide hor
  have HR := hide hrw
  have HP := hide hPw
  clear hth hthL hrL iL iL' hL8 eL x0 x1 x2 x3 x4 x5 x6 x7 xf hor hrw hPw y0 y1 y2 y3 y4 y5 y7
  go_wp2_with (first
    | refine wpList_load_mid (by rfl) 27 _ (by rfl) w.heap.size 0 (by rfl) L _ (unhide HH).2.1 Try.underlying27 (by rfl) (unhide HH).2.2.1 ?_
    | refine wpList_store_mid (by rfl) 27 _ _ (by rfl) (w.heap.size + 1) 0 L.toArray (by rfl) (by rfl) (unhide HH).1 (unhide HH).2.2.2.1 ho8 ?_)
  obtain ⟨hthL, hrL, iL, iL', hL8, eL⟩ := unhide HH
  obtain ⟨w4, e4⟩ : ∃ w4, w4 = ((w1.setCells w.heap.size 6 [.slice aj nI cj]).setCells (w.heap.size + 1) 0 L) := ⟨_, rfl⟩
  have hr4 : w4.rangeAt (w.heap.size + 1) 0 L := by rw [e4]; exact World.rangeAt_setCells_same _ _ _ _ (by have h := hthL; rw [List.size_toArray] at h; exact h)
  have g4 : Gr w w4 := by rw [e4]; exact ((bW.trans g1).setCells (Nat.le_refl _) _ _).setCells (Nat.le_succ _) _ _
  have c4 : ∀ b j, b ≠ w.heap.size → b ≠ w.heap.size + 1 → w4.cell? ⟨b, j, none⟩ = w1.cell? ⟨b, j, none⟩ := fun b j h1 h2 => by
    rw [e4, World.cell?_setCells_out _ _ _ _ _ (fun e _ => absurd (show b = w.heap.size + 1 from e) h2), World.cell?_setCells_out _ _ _ _ _ (fun e _ => absurd (show b = w.heap.size from e) h1)]
  refine bodyPost_ret (rgn.result_row rfl _ _ (w.heap.size + 1) 0 L _ rfl (show (((w1.setCell ⟨w.heap.size, 6, none⟩ (.slice aj nI cj)).setCells (w.heap.size + 1) 0 L)).rangeAt (w.heap.size + 1) 0 L by rw [e4] at hr4; exact hr4) Try.underlying27 rfl iL) rfl ?_
  refine ⟨.mk 5 bb ni f tx ty (Vls.of l) fls, L, rfl, ?_, ?_, by rw [e4] at g4; exact g4⟩
  · unfold Srt
    exact ⟨_, fls, rfl, by rw [if_pos rfl, Vls.list_of]; exact ⟨SrtI.of_pw its l (unhide HP), rfl⟩⟩
  · show AvC Q ((w1.setCells w.heap.size 6 [.slice aj nI cj]).setCells (w.heap.size + 1) 0 L) _ L
    rw [← e4]
    have hIt : AvI Q w4 (Vls.of l) aj nI := by
      rcases unhide HOR with ⟨rfl, rfl⟩ | ⟨rfl, hp1, -⟩
      · obtain rfl := List.eq_nil_of_length_eq_zero hll
        simp only [Vls.of]
        unfold AvI
        rfl
      · have hnq : ¬ Q W.heap.size := fun h => by have := hQ _ h; omega
        have := AvI.mk (w := w4) hnq l 0 (fun i u hu => by
          obtain ⟨us, r1, r2⟩ := unhide HR i u hu
          refine ⟨us, fun j x hx => (c4 _ _ (by omega) (by omega)).trans (by have := r1 j x hx; rwa [show 0 + i * 8 + j = i * 8 + j by omega]), AvC.agree (fun b _ hn e => hn (.inl (.inl e))) (fun b j _ hn => c4 b j (fun e => hn (.inl (.inr (.inl e)))) (fun e => hn (.inl (.inr (.inr e))))) u us r2⟩)
        rw [hll] at this
        exact this
    unfold AvC
    exact ⟨aj, nI, cj, af, nf, cf, eL, hIt, hF.agree' (fun _ _ h => h) (fun b j hl _ => g4.1.cell (p := ⟨b, j, none⟩) hl), q1, hnf, q2, haf, hk1, hk2, hk3, hk4, q3, hcf⟩
set_option maxHeartbeats 4000000 in
set_option maxRecDepth 6000 in
theorem sorted_obj (bb : Bool) (ni : Int) (f : Nat) (tx ty : ByteArray) (its : Vls) (fls : Fls) (ih : ∀ q ∈ fls.list, FnAt 53 Srt q.2) (hsm : Small (.mk 6 bb ni f tx ty its fls)) : FnAt 53 Srt (.mk 6 bb ni f tx ty its fls) := by
  intro Q cs w hQ hv
  unfold Small at hsm
  obtain ⟨hl1, hl2, -, hsI, hsF⟩ := hsm
  unfold AvC at hv
  obtain ⟨ai, nI, ci, af, nf, cf, rfl, hI, hF, hni, hnf, hai, haf, hk1, hk2, hk3, hk4, hci, hcf⟩ := hv
  have hmf : ∀ (fn : Fn) (first cap : Array Value) (w : World), (Instr.makeFunc fn first cap).run Try.prog w = .ok (.func fn first cap) w := fun _ _ _ _ => rfl
  obtain ⟨W, eW⟩ : ∃ W, W = ((w.alloc (.cells #[.int .i64 6, .bool bb, .int .i64 ni, .float .f64 f, .string tx, .string ty, .slice ai nI ci, .slice af nf cf] 27)).alloc (.cells #[.int .i64 0, .bool false, .int .i64 0, .float .f64 0, .string { data := #[] }, .string { data := #[] }, .slice none 0 0, .slice none 0 0] 27)) := ⟨_, rfl⟩
  have bW : Gr w W := by rw [eW]; exact ((Gr.refl _).alloc _).alloc _
  have hsz : w.heap.size + 1 < W.heap.size := by rw [eW]; simp
  have x0 : W.cell? ⟨w.heap.size, 0, none⟩ = some (.int .i64 6) := by rw [eW]; simp
  have x1 : W.cell? ⟨w.heap.size, 1, none⟩ = some (.bool bb) := by rw [eW]; simp
  have x2 : W.cell? ⟨w.heap.size, 2, none⟩ = some (.int .i64 ni) := by rw [eW]; simp
  have x3 : W.cell? ⟨w.heap.size, 3, none⟩ = some (.float .f64 f) := by rw [eW]; simp
  have x4 : W.cell? ⟨w.heap.size, 4, none⟩ = some (.string tx) := by rw [eW]; simp
  have x5 : W.cell? ⟨w.heap.size, 5, none⟩ = some (.string ty) := by rw [eW]; simp
  have x6 : W.cell? ⟨w.heap.size, 6, none⟩ = some (.slice ai nI ci) := by rw [eW]; simp
  have x7 : W.cell? ⟨w.heap.size, 7, none⟩ = some (.slice af nf cf) := by rw [eW]; simp
  have xf : ∀ j, W.frozen? ⟨w.heap.size, j, none⟩ = false := by intro j; rw [eW]; simp
  have hth : W.there (w.heap.size + 1) 0 8 := by
    rw [eW]
    have h := there_new (w := w.alloc (.cells #[.int .i64 6, .bool bb, .int .i64 ni, .float .f64 f, .string tx, .string ty, .slice ai nI ci, .slice af nf cf] 27)) (Z := #[.int .i64 0, .bool false, .int .i64 0, .float .f64 0, .string { data := #[] }, .string { data := #[] }, .slice none 0 0, .slice none 0 0]) (t := 27) (n := 8) rfl
    simpa using h
  have en : ∀ args w, (callFunc 86 args).run Try.prog w = .ok (.enter 86 args) w := fun _ _ => rfl
  have hQ' : ∀ b, (Q b ∨ b = w.heap.size ∨ b = w.heap.size + 1) → b < W.heap.size := fun b hb => by
    rcases hb with h | h | h
    · exact gr_lt bW (hQ b h)
    · omega
    · omega
  have hF' : AvF (fun b => Q b ∨ b = w.heap.size ∨ b = w.heap.size + 1) W fls af nf := hF.agree' (fun b hl hn e => by rcases e with e | e | e; exact hn e; omega; omega) (fun b j hl _ => bW.1.cell (p := ⟨b, j, none⟩) hl)
  have bnf : nf ≤ 1099511627776 := by rw [← FlsAt.len fls _ _ (AvF.read fls _ _ hF)]; exact hl2
  have HC := hide (eachM_any' 86 en (fun p q => q.1 = p.1 ∧ Srt p.2 q.2) fls (fun q hq => sortM_ok Srt q (ih q hq)) _ af nf cf W hQ' hF' bnf hnf haf)
  have EW := hide eW
  clear eW en hF'
  go_enter Try.func53, Try.ntmps53
  go_wp2_with fail
  rw [← unhide EW]
  clear EW
  refine (unhide HC).mono ?_
  rintro e w1 ⟨aj, cj, l, rfl, hll, hPw, q1, q3, q2, hor, hrw, g1⟩
  have hl : w.heap.size < W.heap.size := by omega
  have y0 := keepC g1.1 hl x0
  have y1 := keepC g1.1 hl x1
  have y2 := keepC g1.1 hl x2
  have y3 := keepC g1.1 hl x3
  have y4 := keepC g1.1 hl x4
  have y5 := keepC g1.1 hl x5
  have y6 := keepC g1.1 hl x6
  have y7 := keepC g1.1 hl x7
  have yf : ∀ j, w1.frozen? ⟨w.heap.size, j, none⟩ = false := fun j => (g1.1.frozen (p := ⟨w.heap.size, j, none⟩) hl).trans (xf j)
  have hth1 := there_below hth g1.1 hsz
  obtain ⟨L, eL⟩ : ∃ L : List Value, L = [.int .i64 6, .bool bb, .int .i64 ni, .float .f64 f, .string tx, .string ty, .slice ai nI ci, .slice aj nf cj] := ⟨_, rfl⟩
  have hL8 : L.length = 8 := by rw [eL]; rfl
  have hrL : (w1.setCell ⟨w.heap.size, 7, none⟩ (.slice aj nf cj)).rangeAt w.heap.size 0 L := by
    intro j u hu
    rw [eL] at hu
    have hj : j < 8 := by have := (List.getElem?_eq_some_iff.1 hu).1; simpa using this
    rw [Nat.zero_add]
    rcases (by omega : j = 0 ∨ j = 1 ∨ j = 2 ∨ j = 3 ∨ j = 4 ∨ j = 5 ∨ j = 6 ∨ j = 7) with rfl | rfl | rfl | rfl | rfl | rfl | rfl | rfl
    · simp at hu; rw [← hu, World.cell?_setCell_other _ _ _ _ (by simp)]; exact y0
    · simp at hu; rw [← hu, World.cell?_setCell_other _ _ _ _ (by simp)]; exact y1
    · simp at hu; rw [← hu, World.cell?_setCell_other _ _ _ _ (by simp)]; exact y2
    · simp at hu; rw [← hu, World.cell?_setCell_other _ _ _ _ (by simp)]; exact y3
    · simp at hu; rw [← hu, World.cell?_setCell_other _ _ _ _ (by simp)]; exact y4
    · simp at hu; rw [← hu, World.cell?_setCell_other _ _ _ _ (by simp)]; exact y5
    · simp at hu; rw [← hu, World.cell?_setCell_other _ _ _ _ (by simp)]; exact y6
    · simp at hu; rw [← hu]; exact World.cell?_setCell_same _ _ _ y7
  have hth2 : (w1.setCell ⟨w.heap.size, 7, none⟩ (.slice aj nf cj)).there (w.heap.size + 1) 0 8 := World.there_setCells hth1 w.heap.size 7 [.slice aj nf cj]
  have hsF' := SrtF.small fls l hsF (SrtF.of_pw fls l hPw)
  obtain ⟨w2, e2⟩ : ∃ w2, w2 = w1.setCell ⟨w.heap.size, 7, none⟩ (.slice aj nf cj) := ⟨_, rfl⟩
  have E2 : w2 = w1.setCells w.heap.size 7 [.slice aj nf cj] := e2
  have s2 : w2.heap.size = w1.heap.size := by rw [E2]; exact size_setCells _ _ _ _
  have g2 : Gr w w2 := by rw [E2]; exact (bW.trans g1).setCells (Nat.le_refl _) _ _
  have z7 : w2.cell? ⟨w.heap.size, 7, none⟩ = some (.slice aj nf cj) := by rw [e2]; exact World.cell?_setCell_same _ _ _ y7
  rw [← e2] at hrL hth2
  have c2 : ∀ b j, b ≠ w.heap.size → w2.cell? ⟨b, j, none⟩ = w1.cell? ⟨b, j, none⟩ := fun b j h1 => by
    rw [E2, World.cell?_setCells_out _ _ _ _ _ (fun e _ => absurd (show b = w.heap.size from e) h1)]
  have hrow2 : RowF (fun b => (Q b ∨ b = w.heap.size ∨ b = w.heap.size + 1) ∨ b = W.heap.size) w2 W.heap.size l := fun i u hu => by
    obtain ⟨us, r0, rz, r1, r2⟩ := hrw i u hu
    exact ⟨us, (c2 _ _ (by omega)).trans r0, rz, fun j x hx => (c2 _ _ (by omega)).trans (r1 j x hx), AvC.agree (fun _ _ h => h) (fun b j _ hn => c2 b j (fun e => hn (.inl (.inr (.inl e))))) u.2 us r2⟩
  have hor2 : aj = none ∧ nf = 0 ∨ aj = some ⟨W.heap.size, 0, none⟩ ∧ W.heap.size < w2.heap.size ∧ w2.there W.heap.size 0 (nf * 9) := hor.imp id (fun h => ⟨h.1, by rw [s2]; exact h.2.1, by rw [E2]; exact World.there_setCells h.2.2 _ _ _⟩)
  have HS := hide (sortAny_ok _ l hsF'.2 aj W.heap.size nf cj w2 hll (.inr rfl) hrow2 hor2 bnf)
  have E2' := hide e2
  have HP := hide hPw
  have HOR := hide hor
  have HRL := hide hrL
  have HTH := hide hth2
  clear e2 E2 hPw hor hrw hrow2 hor2 hrL hth2 x0 x1 x2 x3 x4 x5 x6 x7 xf hth y0 y1 y2 y3 y4 y5 y6 HC
  go_wp2_with fail
  rw [← unhide E2']
  clear E2'
  refine (unhide HS).mono ?_
  rintro e w3 ⟨rfl, l', hpm, hst, hrow3, b3, d3⟩
  have hrL3 : w3.rangeAt w.heap.size 0 L := fun j u hu => (b3.cell (p := ⟨w.heap.size, 0 + j, none⟩) hl).trans (unhide HRL j u hu)
  have hthL : w3.there (w.heap.size + 1) 0 L.toArray.size := by simp only [List.size_toArray, hL8]; exact there_below (unhide HTH) b3 hsz
  have g3 : Gr w w3 := ⟨g2.1.trans (b3.mono bW.1.size), Nat.le_trans g2.2 d3⟩
  have iL : (Try.prog.info? 27).map (·.size) = some L.length := by rw [hL8]; exact infoV
  have iL' : (Try.prog.info? 27).map (·.size) = some L.toArray.size := by simp [hL8, infoV]
  have ho8 : L.toArray.all (·.oneCell') = true := by rw [eL]; simp [Value.oneCell']
  have HH := hide (And.intro hthL (And.intro hrL3 (And.intro iL (And.intro iL' (And.intro hL8 eL)))))
  have HR3 := hide hrow3
  have HPM := hide (And.intro hpm hst)
  clear hthL hrL3 iL iL' hL8 eL hrow3 hpm hst HS yf y7 z7
  go_wp2_with (first
    | refine wpList_load_mid (by rfl) 27 _ (by rfl) w.heap.size 0 (by rfl) L _ (unhide HH).2.1 Try.underlying27 (by rfl) (unhide HH).2.2.1 ?_
    | refine wpList_store_mid (by rfl) 27 _ _ (by rfl) (w.heap.size + 1) 0 L.toArray (by rfl) (by rfl) (unhide HH).1 (unhide HH).2.2.2.1 ho8 ?_)
  obtain ⟨hthL, hrL, iL, iL', hL8, eL⟩ := unhide HH
  obtain ⟨hpm, hst⟩ := unhide HPM
  have hr4 : (w3.setCells (w.heap.size + 1) 0 L).rangeAt (w.heap.size + 1) 0 L := World.rangeAt_setCells_same _ _ _ _ (by have h := hthL; rw [List.size_toArray] at h; exact h)
  have g4 : Gr w (w3.setCells (w.heap.size + 1) 0 L) := g3.setCells (Nat.le_succ _) _ _
  have c4 : ∀ b j, b ≠ w.heap.size + 1 → (w3.setCells (w.heap.size + 1) 0 L).cell? ⟨b, j, none⟩ = w3.cell? ⟨b, j, none⟩ := fun b j h2 => World.cell?_setCells_out _ _ _ _ _ (fun e _ => absurd (show b = w.heap.size + 1 from e) h2)
  refine bodyPost_ret (rgn.result_row rfl _ _ (w.heap.size + 1) 0 L _ rfl hr4 Try.underlying27 rfl iL) rfl ?_
  refine ⟨.mk 6 bb ni f tx ty its (Fls.of l'), L, rfl, ?_, ?_, g4⟩
  · unfold Srt
    exact ⟨its, _, rfl, by rw [if_neg (by omega), if_pos rfl, Fls.list_of]; exact ⟨rfl, l, SrtF.of_pw fls l (unhide HP), hpm, hst⟩⟩
  · have hFt : AvF Q (w3.setCells (w.heap.size + 1) 0 L) (Fls.of l') aj nf := by
      have hl' : l'.length = nf := by rw [hpm.length_eq, hll]
      rcases unhide HOR with ⟨rfl, rfl⟩ | ⟨rfl, hp1, -⟩
      · obtain rfl := List.eq_nil_of_length_eq_zero hl'
        simp only [Fls.of]
        unfold AvF
        rfl
      · have hnq : ¬ Q W.heap.size := fun h => by have := hQ _ h; omega
        have := AvF.mk (w := w3.setCells (w.heap.size + 1) 0 L) hnq l' 0 (fun i u hu => by
          obtain ⟨us, r0, rz, r1, r2⟩ := unhide HR3 i u hu
          refine ⟨us, (c4 _ _ (by omega)).trans (by rw [Nat.zero_add]; exact r0), rz, fun j x hx => (c4 _ _ (by omega)).trans (by have := r1 j x hx; rwa [show 0 + i * 9 + 1 + j = i * 9 + 1 + j by omega]), AvC.agree (fun b _ hn e => hn (.inl (.inl e))) (fun b j _ hn => c4 b j (fun e => hn (.inl (.inr (.inr e))))) u.2 us r2⟩)
        rw [hl'] at this
        exact this
    unfold AvC
    exact ⟨ai, nI, ci, aj, nf, cj, eL, hI.agree' (fun _ _ h => h) (fun b j hl _ => g4.1.cell (p := ⟨b, j, none⟩) hl), hFt, hni, q1, hai, q2, hk1, hk2, hk3, hk4, hci, q3⟩
theorem sorted_ok : ∀ v : Vl, Small v → FnAt 53 Srt v := by
  refine Vl.all ?_
  intro kd b n f tx ty its fls hI hF hsm
  have hs := hsm
  unfold Small at hs
  obtain ⟨-, -, -, hsI, hsF⟩ := hs
  by_cases h5 : kd = 5
  · subst h5; exact sorted_list _ _ _ _ _ _ _ (fun v hv => hI v hv (hsI.all v hv)) hsm
  · by_cases h6 : kd = 6
    · subst h6; exact sorted_obj _ _ _ _ _ _ _ (fun q hq => hF q hq (hsF.all q hq)) hsm
    · exact sorted_plain _ _ _ _ _ _ _ _ h5 h6 hsm
end Go.Proofs.Ythpcpminikmcbaa.og
namespace Go.Proofs.Ythpcpminikmcbaa.og
open Go.ChangeShapes Go.WideShapes Go.ChangeAt Go.RowKit
open vl hiding cB cFl cS cF cI cK cIt
set_option linter.unusedVariables false
set_option linter.unusedSimpArgs false
set_option maxHeartbeats 2000000 in
/-- tree.Equal -/
theorem equal_ok (v u : Vl) (hv : Small v) (hu : Small u) (cs ds : List Value) (w : World) (h1 : VlC w v cs) (h2 : VlC w u ds) : Calls Try.prog 17 #[.agg cs.toArray, .agg ds.toArray] w fun e w' => e = .returned (.bool (ordV v u == 0)) ∧ Below w.heap.size w w' := by
  have c8 := h1.cells
  have d8 := h2.cells
  have i1 : (Try.prog.info? 27).map (·.size) = some cs.length := by rw [c8]; exact infoV
  have i2 : (Try.prog.info? 27).map (·.size) = some ds.length := by rw [d8]; exact infoV
  obtain ⟨W, eW⟩ : ∃ W, W = (w.alloc (.cells cs.toArray 27)).alloc (.cells ds.toArray 27) := ⟨_, rfl⟩
  have bW : Gr w W := by rw [eW]; exact ((Gr.refl _).alloc _).alloc _
  have r1 : W.rangeAt w.heap.size 0 cs := fun j x hx => by
    rw [eW, Nat.zero_add, World.cell?_alloc_past _ _ _ (by simp), World.cell?_alloc_at _ _ _ _ rfl]; simpa using hx
  have r2 : W.rangeAt (w.heap.size + 1) 0 ds := fun j x hx => by
    rw [eW, Nat.zero_add, World.cell?_alloc_at _ _ _ _ (by simp)]; simpa using hx
  have EW := hide eW
  have HO := hide (order_ok v hv u hu cs ds W (VlC.below bW.1 _ _ h1) (VlC.below bW.1 _ _ h2))
  have HR := hide (And.intro r1 (And.intro r2 (And.intro i1 i2)))
  clear eW r1 r2 i1 i2 h1 h2 c8 d8
  generalize ordV v u = O at *
  go_enter Try.func17, Try.ntmps17
  go_wp2_with (first
    | (rw [← unhide EW]; refine wpList_load_mid (by rfl) 27 _ (by rfl) w.heap.size 0 (by rfl) cs _ (unhide HR).1 Try.underlying27 (by rfl) (unhide HR).2.2.1 ?_)
    | refine wpList_load_mid (by rfl) 27 _ (by rfl) (w.heap.size + 1) 0 (by rfl) ds _ (unhide HR).2.1 Try.underlying27 (by rfl) (unhide HR).2.2.2 ?_)
  refine (unhide HO).mono ?_
  rintro e w2 ⟨rfl, g2⟩
  go_wp2
  go_ret
  exact ⟨rfl, (bW.trans g2).1⟩
set_option maxHeartbeats 2000000 in
/-- tree.Same -/
theorem same_ok (v u : Vl) (hv : Small v) (hu : Small u) (cs ds : List Value) (w : World) (h1 : VlC w v cs) (h2 : VlC w u ds) : Calls Try.prog 29 #[.agg cs.toArray, .agg ds.toArray] w fun e w' => ∃ v' u', Srt v v' ∧ Srt u u' ∧ e = .returned (.bool (ordV v' u' == 0)) ∧ Below w.heap.size w w' := by
  have c8 := h1.cells
  have d8 := h2.cells
  have i1 : (Try.prog.info? 27).map (·.size) = some cs.length := by rw [c8]; exact infoV
  have i2 : (Try.prog.info? 27).map (·.size) = some ds.length := by rw [d8]; exact infoV
  obtain ⟨W, eW⟩ : ∃ W, W = (w.alloc (.cells cs.toArray 27)).alloc (.cells ds.toArray 27) := ⟨_, rfl⟩
  have bW : Gr w W := by rw [eW]; exact ((Gr.refl _).alloc _).alloc _
  have r1 : W.rangeAt w.heap.size 0 cs := fun j x hx => by
    rw [eW, Nat.zero_add, World.cell?_alloc_past _ _ _ (by simp), World.cell?_alloc_at _ _ _ _ rfl]; simpa using hx
  have r2 : W.rangeAt (w.heap.size + 1) 0 ds := fun j x hx => by
    rw [eW, Nat.zero_add, World.cell?_alloc_at _ _ _ _ (by simp)]; simpa using hx
  have v1 := VlC.below bW.1 _ _ h1
  have v2 := VlC.below bW.1 _ _ h2
  have EW := hide eW
  have HR := hide (And.intro r1 (And.intro r2 (And.intro i1 i2)))
  clear eW r1 r2 i1 i2 h1 h2 c8 d8
  go_enter Try.func29, Try.ntmps29
  go_wp2_with fail
  rw [← unhide EW]
  clear EW
  have hS0 : Gr W { W with drawn := W.drawn + 1 } := (Gr.refl _).drew
  refine wp_region_noPanic ?_
  refine wp_region_held (S := fun w' => Gr W w') mixed ?_
  refine wpAnyH_take (i := 0) rfl (by kernel_rfl) (by kernel_rfl) (by kernel_rfl) (fun _ _ _ h => h) (yieldsIf_load_mid (by rfl) 27 _ (by rfl) w.heap.size 0 (by rfl) cs _ (fun w' hw' => Row8.below (unhide HR).1 hw'.1) Try.underlying27 (by rfl) (unhide HR).2.2.1) hS0 ?_
  simp only [List.getElem_toArray, List.getElem_cons_zero, List.getElem_cons_succ, Act.put, List.setIfInBounds_toArray, List.set_cons_zero, List.set_cons_succ]
  refine wpAnyH_take (i := 2) rfl (by kernel_rfl) (by kernel_rfl) (by kernel_rfl) (fun _ _ _ h => h) (yieldsIf_load_mid (by rfl) 27 _ (by rfl) (w.heap.size + 1) 0 (by rfl) ds _ (fun w' hw' => Row8.below (unhide HR).2.1 hw'.1) Try.underlying27 (by rfl) (unhide HR).2.2.2) hS0 ?_
  simp only [List.getElem_toArray, List.getElem_cons_zero, List.getElem_cons_succ, Act.put, List.setIfInBounds_toArray, List.set_cons_zero, List.set_cons_succ]
  refine rgn.one (i := 1) _ rfl (by kernel_rfl) (by rfl) ?_
  simp only [List.getElem_toArray, List.getElem_cons_zero, List.getElem_cons_succ, Act.put, List.setIfInBounds_toArray, List.set_cons_zero, List.set_cons_succ]
  go_wp2_with fail
  refine (sorted_ok v hv (fun _ => False) cs _ (fun b hb => hb.elim) (AvC.of _ _ (VlC.below hS0.1 _ _ v1))).mono ?_
  rintro e w2 ⟨v', cs', rfl, hs1, ha1, g1⟩
  have hS0 : Gr W w2 := hS0.trans g1
  refine ⟨hS0, ?_⟩
  refine rgn.one (i := 3) _ rfl (by kernel_rfl) (by rfl) ?_
  simp only [List.getElem_toArray, List.getElem_cons_zero, List.getElem_cons_succ, Act.put, List.setIfInBounds_toArray, List.set_cons_zero, List.set_cons_succ]
  go_wp2_with fail
  refine (sorted_ok u hu (fun _ => False) ds _ (fun b hb => hb.elim) (AvC.of _ _ (VlC.below hS0.1 _ _ v2))).mono ?_
  rintro e w3 ⟨u', ds', rfl, hs2, ha2, g2⟩
  have hS0 : Gr W w3 := hS0.trans g2
  refine ⟨hS0, ?_⟩
  refine rgn.one (i := 4) _ rfl (by kernel_rfl) (by rfl) ?_
  simp only [List.getElem_toArray, List.getElem_cons_zero, List.getElem_cons_succ, Act.put, List.setIfInBounds_toArray, List.set_cons_zero, List.set_cons_succ]
  go_wp2_with fail
  refine (order_ok v' (Srt.small v v' hv hs1) u' (Srt.small u u' hu hs2) cs' ds' _ (AvC.read _ _ (ha1.below g2.1)) (AvC.read _ _ ha2)).mono ?_
  rintro e w4 ⟨rfl, g3⟩
  have hS0 : Gr W w4 := hS0.trans g3
  refine ⟨hS0, ?_⟩
  have HX := hide (And.intro hs1 hs2)
  clear hs1 hs2 ha1 ha2
  generalize hO : ordV v' u' = O at *
  have HO := hide hO
  clear hO
  refine wpAnyH_take (i := 5) (v := ?v1) rfl (by kernel_rfl) (by kernel_rfl) (by kernel_rfl) (fun _ _ _ h => h) (Or.inl ⟨by rfl, ?hy1⟩) hS0 ?_
  case hy1 => (intro w' hw';  go_simp; try with_reducible rfl)
  simp only [List.getElem_toArray, List.getElem_cons_zero, List.getElem_cons_succ, Act.put, List.setIfInBounds_toArray, List.set_cons_zero, List.set_cons_succ]
  refine wpAnyH_take (i := 6) (v := ?v2) rfl (by kernel_rfl) (by kernel_rfl) (by kernel_rfl) (fun _ _ _ h => h) (Or.inl ⟨by rfl, ?hy2⟩) hS0 ?_
  case hy2 => (intro w' hw';  go_simp; try with_reducible rfl)
  simp only [List.getElem_toArray, List.getElem_cons_zero, List.getElem_cons_succ, Act.put, List.setIfInBounds_toArray, List.set_cons_zero, List.set_cons_succ]
  refine wpAnyH_done (by kernel_rfl) ?_ _; refine NoPanic.normal ?_
  have G := (bW.trans hS0).1
  clear HR hS0 g1 g2 g3 v1 v2
  go_wp2
  go_ret
  exact ⟨v', u', (unhide HX).1, (unhide HX).2, by rw [unhide HO]; rfl, G⟩
end Go.Proofs.Ythpcpminikmcbaa.og
namespace Go.Proofs.Ythpcpminikmcbaa.og
open Go.ChangeShapes Go.WideShapes Go.ChangeAt Go.RowKit
open vl hiding cB cFl cS cF cI cK cIt
set_option linter.unusedVariables false
set_option linter.unusedSimpArgs false
mutual
/-- a value with the members of every object in the opposite order -/
def turnV : Vl → Vl
  | .mk kd b n f tx ty its fls => .mk kd b n f tx ty (turnI its) (turnF fls .nil)
def turnI : Vls → Vls
  | .nil => .nil
  | .cons v r => .cons (turnV v) (turnI r)
def turnF : Fls → Fls → Fls
  | .nil, a => a
  | .cons nm v r, a => turnF r (.cons nm (turnV v) a)
end
theorem turnI_list : ∀ l : Vls, (turnI l).list = l.list.map turnV
  | .nil => by simp [turnI, Vls.list]
  | .cons v r => by simp only [turnI, Vls.list, List.map_cons]; rw [turnI_list r]
theorem turnF_list : ∀ (l a : Fls), (turnF l a).list = l.list.reverse.map (fun q => (q.1, turnV q.2)) ++ a.list
  | .nil, a => by simp [turnF, Fls.list]
  | .cons nm v r, a => by rw [turnF, turnF_list r]; simp [Fls.list]
/-- the members, turned -/
def rvF (fls : Fls) : List (ByteArray × Vl) := fls.list.reverse.map (fun q => (q.1, turnV q.2))
theorem turnF_of (fls : Fls) : turnF fls .nil = Fls.of (rvF fls) := by
  rw [← Fls.of_list (turnF fls .nil), turnF_list]; simp [rvF, Fls.list]
theorem turnI_of (its : Vls) : turnI its = Vls.of (its.list.map turnV) := by rw [← Vls.of_list (turnI its), turnI_list]
theorem rvF_get {fls : Fls} {k j : Nat} {nm : ByteArray} {v : Vl} (h : fls.list[j]? = some (nm, v)) (hk : k + j + 1 = fls.list.length) : (rvF fls)[k]? = some (nm, turnV v) := by
  unfold rvF
  rw [List.getElem?_map, List.getElem?_reverse (by omega), show fls.list.length - 1 - k = j by omega, h]
  rfl
/-- as FnAt, without the count of draws -/
def FnB (g : Nat) (R : Vl → Vl → Prop) (v : Vl) : Prop := ∀ (Q : Nat → Prop) (cs : List Value) (w : World), (∀ b, Q b → b < w.heap.size) → AvC Q w v cs → Calls Try.prog g #[.agg cs.toArray] w fun e w' => ∃ (v' : Vl) (ds : List Value), e = .returned (.agg ds.toArray) ∧ R v v' ∧ AvC Q w' v' ds ∧ Below w.heap.size w w'
theorem OwsIn.there {w : World} {p : Nat} (hz : ∀ j, w.frozen? ⟨p, j, none⟩ = false) : ∀ (l : Vls) (off n : Nat) (G : List Nat), OwsIn w l p off n G → w.there p off (n * 8)
  | .nil, off, n, G, h => by unfold OwsIn at h; obtain ⟨rfl, -⟩ := h; intro j hj; omega
  | .cons v r, off, n, G, h => by
    unfold OwsIn at h
    obtain ⟨m, cs, G1, G2, rfl, h1, h2, h3, -⟩ := h
    have h8 := (OwC.read v cs G1 h2).cells
    intro j hj
    by_cases h : j < 8
    · refine ⟨?_, hz _⟩
      rw [h1 j cs[j] (List.getElem?_eq_getElem (by omega))]
      rfl
    · have := OwsIn.there hz r (off + 8) m G2 h3 (j - 8) (by omega)
      rwa [show off + 8 + (j - 8) = off + j by omega] at this
theorem OwfIn.there {w : World} {p : Nat} (hz : ∀ j, w.frozen? ⟨p, j, none⟩ = false) : ∀ (l : Fls) (off n : Nat) (G : List Nat), OwfIn w l p off n G → w.there p off (n * 9)
  | .nil, off, n, G, h => by unfold OwfIn at h; obtain ⟨rfl, -⟩ := h; intro j hj; omega
  | .cons nm v r, off, n, G, h => by
    unfold OwfIn at h
    obtain ⟨m, cs, G1, G2, rfl, h0, hz', h1, h2, h3, -⟩ := h
    have h8 := (OwC.read v cs G1 h2).cells
    intro j hj
    by_cases h : j < 9
    · refine ⟨?_, hz _⟩
      cases j with
      | zero => rw [Nat.add_zero, h0]; rfl
      | succ j =>
        rw [show off + (j + 1) = off + 1 + j by omega, h1 j cs[j] (List.getElem?_eq_getElem (by omega))]
        rfl
    · have := OwfIn.there hz r (off + 9) m G2 h3 (j - 9) (by omega)
      rwa [show off + 9 + (j - 9) = off + j by omega] at this
theorem OwsIn.row {Q : Nat → Prop} {w : World} {p : Nat} : ∀ (l : Vls) (off n : Nat) (G : List Nat), (∀ b ∈ G, ¬ Q b) → OwsIn w l p off n G → ∀ (i : Nat) (v : Vl), l.list[i]? = some v → ∃ us, Row8 w p (off + i * 8) us ∧ AvC Q w v us
  | .nil, off, n, G, hG, h, i, v, hv => by simp [Vls.list] at hv
  | .cons u r, off, n, G, hG, h, i, v, hv => by
    unfold OwsIn at h
    obtain ⟨m, cs, G1, G2, rfl, h1, h2, h3, rfl⟩ := h
    cases i with
    | zero =>
      simp [Vls.list] at hv
      subst hv
      exact ⟨cs, by simpa using h1, OwC.av _ _ _ (fun b hb => hG b (List.mem_append_left _ hb)) h2⟩
    | succ i =>
      obtain ⟨us, g1, g2⟩ := OwsIn.row r (off + 8) m G2 (fun b hb => hG b (List.mem_append_right _ hb)) h3 i v (by simpa [Vls.list] using hv)
      exact ⟨us, by rw [show off + (i + 1) * 8 = off + 8 + i * 8 by omega]; exact g1, g2⟩
mutual
theorem Small.turn : ∀ v : Vl, Small v → Small (turnV v)
  | .mk kd b n f tx ty its fls, h => by
    unfold turnV
    unfold Small at h ⊢
    obtain ⟨h1, h2, h3, h4, h5⟩ := h
    exact ⟨by rw [turnI_list, List.length_map]; exact h1, by rw [turnF_list]; simp [Fls.list]; exact h2, h3, SmallI.turn its h4, SmallF.turn fls .nil h5 (by simp [SmallF])⟩
theorem SmallI.turn : ∀ l : Vls, SmallI l → SmallI (turnI l)
  | .nil, h => by simp [turnI, SmallI]
  | .cons v r, h => by
    unfold SmallI at h
    unfold turnI SmallI
    exact ⟨Small.turn v h.1, SmallI.turn r h.2⟩
theorem SmallF.turn : ∀ (l a : Fls), SmallF l → SmallF a → SmallF (turnF l a)
  | .nil, a, h, ha => by unfold turnF; exact ha
  | .cons nm v r, a, h, ha => by
    unfold SmallF at h
    unfold turnF
    exact SmallF.turn r _ h.2 (by unfold SmallF; exact ⟨Small.turn v h.1, ha⟩)
end
end Go.Proofs.Ythpcpminikmcbaa.og
namespace Go.Proofs.Ythpcpminikmcbaa.og
open Go.ChangeShapes Go.WideShapes Go.ChangeAt Go.RowKit
open vl hiding cB cFl cS cF cI cK cIt
open stp (c3 c3_eq cB cB_tri)
set_option linter.unusedVariables false
set_option linter.unusedSimpArgs false
/-- two lists, element by element -/
def P2 {α β : Type} (R : α → β → Prop) : List α → List β → Prop
  | [], [] => True
  | a :: l, b :: r => R a b ∧ P2 R l r
  | [], _ :: _ => False
  | _ :: _, [] => False
theorem P2.imp {α β : Type} {R R' : α → β → Prop} : ∀ {l : List α} {r : List β}, P2 R l r → (∀ a ∈ l, ∀ b ∈ r, R a b → R' a b) → P2 R' l r
  | [], [], _, _ => trivial
  | a :: l, b :: r, h, hi => ⟨hi a (List.mem_cons_self ..) b (List.mem_cons_self ..) h.1, P2.imp h.2 (fun x hx y hy => hi x (List.mem_cons_of_mem _ hx) y (List.mem_cons_of_mem _ hy))⟩
  | [], _ :: _, h, _ => h.elim
  | _ :: _, [], h, _ => h.elim
/-- through a common list -/
theorem P2.join {α β γ : Type} {R : α → β → Prop} {S : α → γ → Prop} {T : β → γ → Prop} : ∀ {l : List α} {m : List β} {r : List γ}, P2 R l m → P2 S l r → (∀ a ∈ l, ∀ b ∈ m, ∀ c ∈ r, R a b → S a c → T b c) → P2 T m r
  | [], [], [], _, _, _ => trivial
  | a :: l, b :: m, c :: r, h, k, hi => ⟨hi a (List.mem_cons_self ..) b (List.mem_cons_self ..) c (List.mem_cons_self ..) h.1 k.1, P2.join h.2 k.2 (fun x hx y hy z hz => hi x (List.mem_cons_of_mem _ hx) y (List.mem_cons_of_mem _ hy) z (List.mem_cons_of_mem _ hz))⟩
  | [], _ :: _, _, h, _, _ => h.elim
  | _ :: _, [], _, h, _, _ => h.elim
  | [], [], _ :: _, _, k, _ => k.elim
  | _ :: _, _ :: _, [], _, k, _ => k.elim
theorem P2.symm {α β : Type} {R : α → β → Prop} : ∀ {l : List α} {r : List β}, P2 R l r → P2 (fun b a => R a b) r l
  | [], [], _ => trivial
  | a :: l, b :: r, h => ⟨h.1, P2.symm h.2⟩
  | [], _ :: _, h => h.elim
  | _ :: _, [], h => h.elim
theorem P2.perm {α β : Type} {R : α → β → Prop} {l l' : List α} (hp : l.Perm l') : ∀ {m : List β}, P2 R l m → ∃ m', m.Perm m' ∧ P2 R l' m' := by
  induction hp with
  | nil => intro m h; exact ⟨m, List.Perm.refl _, h⟩
  | cons x _ ih =>
    intro m h
    match m, h with
    | b :: m, h =>
      obtain ⟨m', h1, h2⟩ := ih h.2
      exact ⟨b :: m', h1.cons b, h.1, h2⟩
    | [], h => exact h.elim
  | swap x y l =>
    intro m h
    match m, h with
    | b :: c :: m, h => exact ⟨c :: b :: m, List.Perm.swap .., h.2.1, h.1, h.2.2⟩
    | [_], h => exact h.2.elim
    | [], h => exact h.elim
  | trans _ _ ih1 ih2 =>
    intro m h
    obtain ⟨m1, p1, h1⟩ := ih1 h
    obtain ⟨m2, p2, h2⟩ := ih2 h1
    exact ⟨m2, p1.trans p2, h2⟩
theorem P2.split {α β : Type} {R : α → β → Prop} {b : β} {t : List β} : ∀ {l : List α} {s : List β}, P2 R l (s ++ b :: t) → ∃ s' a t', l = s' ++ a :: t' ∧ P2 R s' s ∧ R a b ∧ P2 R t' t
  | [], [], h => h.elim
  | [], _ :: _, h => h.elim
  | a :: l, [], h => ⟨[], a, l, rfl, trivial, h.1, h.2⟩
  | a :: l, c :: s, h => by
    obtain ⟨s', a', t', e, h1, h2, h3⟩ := P2.split (l := l) (s := s) h.2
    exact ⟨a :: s', a', t', by rw [e]; rfl, ⟨h.1, h1⟩, h2, h3⟩
theorem P2.glue {α β : Type} {R : α → β → Prop} {a : α} {b : β} {t' : List α} {t : List β} (hab : R a b) (ht : P2 R t' t) : ∀ {s' : List α} {s : List β}, P2 R s' s → P2 R (s' ++ a :: t') (s ++ b :: t)
  | [], [], _ => ⟨hab, ht⟩
  | _ :: _, _ :: _, h => ⟨h.1, P2.glue hab ht h.2⟩
  | [], _ :: _, h => h.elim
  | _ :: _, [], h => h.elim
/-- no later one is ahead of an earlier one -/
def Sd {α : Type} (f : α → α → Int) : List α → Prop
  | [] => True
  | a :: l => (∀ x ∈ l, f a x ≤ 0) ∧ Sd f l
/-- two lists in order that are the same but for the order, up to level ones, are level throughout -/
theorem canon {α : Type} (f : α → α → Int) (S : α → Prop) (hR : ∀ x y, S x → S y → Rg (f x y)) (hT : ∀ x y z, S x → S y → S z → Tr (f x y) (f y z) (f x z)) (hs : ∀ x, S x → f x x = 0) :
    ∀ (A B m : List α), (∀ x ∈ A, S x) → (∀ x ∈ B, S x) → Sd f A → Sd f B → P2 (fun x y => f x y = 0) A m → B.Perm m → P2 (fun x y => f x y = 0) A B
  | [], B, m, _, _, _, _, hP, hp => by
    match m, hP with
    | [], _ => rw [List.Perm.eq_nil hp]; trivial
    | _ :: _, h => exact h.elim
  | a :: A, B, m, hA, hB, sA, sB, hP, hp => by
    match m, hP with
    | [], h => exact h.elim
    | b0 :: m, hP =>
      match B, hp, hB, sB with
      | [], hp, _, _ => exact absurd hp.symm.eq_nil (by simp)
      | b1 :: B, hp, hB, sB =>
        have Sa := hA a (List.mem_cons_self ..)
        have Sb1 := hB b1 (List.mem_cons_self ..)
        have hb0 : b0 ∈ b1 :: B := hp.mem_iff.2 (List.mem_cons_self ..)
        have Sb0 := hB b0 hb0
        have m1 : b1 ∈ b0 :: m := hp.mem_iff.1 (List.mem_cons_self ..)
        have l10 : f b1 b0 ≤ 0 := by
          rcases List.mem_cons.1 hb0 with e | h
          · rw [e, hs b1 Sb1]; exact Int.le_refl _
          · exact sB.1 b0 h
        rcases List.mem_cons.1 m1 with e | h
        · subst e
          exact ⟨hP.1, canon f S hR hT hs A B m (fun x hx => hA x (List.mem_cons_of_mem _ hx)) (fun x hx => hB x (List.mem_cons_of_mem _ hx)) sA.2 sB.2 hP.2 (hp.cons_inv)⟩
        · obtain ⟨s, t, rfl⟩ := List.append_of_mem h
          obtain ⟨s', a1, t', rfl, h1, h2, h3⟩ := P2.split hP.2
          have ma1 : a1 ∈ s' ++ a1 :: t' := List.mem_append_right _ (List.mem_cons_self ..)
          have Sa1 := hA a1 (List.mem_cons_of_mem _ ma1)
          have laa := sA.1 a1 ma1
          have t1 := hT a a1 b1 Sa Sa1 Sb1
          have t2 := hT a b1 b0 Sa Sb1 Sb0
          have t3 := hT a1 b1 b0 Sa1 Sb1 Sb0
          have e0 : f a b0 = 0 := hP.1
          unfold Tr at t1 t2 t3
          have z1 : f a b1 = 0 := by have := t1.2.1 h2; have := t2.2.2.2 e0; omega
          have z2 : f b1 b0 = 0 := by have := t2.2.2.2 e0; omega
          have z3 : f a1 b0 = 0 := by have := t3.1 h2; omega
          have hp2 : (b1 :: B).Perm (b1 :: (s ++ b0 :: t)) := by
            refine hp.trans ?_
            have e1 : (b0 :: (s ++ b1 :: t)).Perm (b0 :: b1 :: (s ++ t)) := List.Perm.cons _ List.perm_middle
            have e2 : (b1 :: (s ++ b0 :: t)).Perm (b1 :: b0 :: (s ++ t)) := List.Perm.cons _ List.perm_middle
            exact e1.trans ((List.Perm.swap ..).trans e2.symm)
          exact ⟨z1, canon f S hR hT hs _ B _ (fun x hx => hA x (List.mem_cons_of_mem _ hx)) (fun x hx => hB x (List.mem_cons_of_mem _ hx)) sA.2 sB.2 (P2.glue (R := fun x y => f x y = 0) z3 h3 h1) hp2.cons_inv⟩
theorem lexG_p2 {α : Type} {f : α → α → Int} : ∀ {l r : List α}, P2 (fun x y => f x y = 0) l r → lexG f l r = 0
  | [], [], _ => rfl
  | a :: l, b :: r, h => by rw [lexG_cons, show f a b = 0 from h.1]; exact lexG_p2 h.2
  | [], _ :: _, h => h.elim
  | _ :: _, [], h => h.elim
theorem p2_lexG {α : Type} {f : α → α → Int} : ∀ {l r : List α}, lexG f l r = 0 → P2 (fun x y => f x y = 0) l r
  | [], [], _ => trivial
  | a :: l, b :: r, h => by
    rw [lexG_cons] at h
    unfold thn at h
    split at h
    · exact ⟨by assumption, p2_lexG h⟩
    · exact absurd h (by assumption)
  | [], _ :: _, h => by simp [lexG] at h
  | _ :: _, [], h => by simp [lexG] at h
theorem Srtd.sd : ∀ {l : List (ByteArray × Vl)}, Srtd l → Sd ordM l
  | [], _ => trivial
  | a :: l, h => ⟨fun x hx => by
      obtain ⟨i, hi⟩ := List.mem_iff_getElem?.1 hx
      exact h 0 (i + 1) a x (by omega) rfl (by simpa using hi), Srtd.sd (fun i j x y hij hx hy => h (i + 1) (j + 1) x y (by omega) (by simpa using hx) (by simpa using hy))⟩
theorem SrtI.p2 : ∀ {its : Vls} {l : List Vl}, SrtI its l → P2 Srt its.list l
  | .nil, l, h => by unfold SrtI at h; subst h; trivial
  | .cons v r, l, h => by
    unfold SrtI at h
    obtain ⟨v', l', rfl, h1, h2⟩ := h
    exact ⟨h1, SrtI.p2 h2⟩
theorem SrtF.p2 : ∀ {fls : Fls} {l : List (ByteArray × Vl)}, SrtF fls l → P2 (fun p q => q.1 = p.1 ∧ Srt p.2 q.2) fls.list l
  | .nil, l, h => by unfold SrtF at h; subst h; trivial
  | .cons nm v r, l, h => by
    unfold SrtF at h
    obtain ⟨v', l', rfl, h1, h2⟩ := h
    exact ⟨⟨rfl, h1⟩, SrtF.p2 h2⟩
mutual
/-- the same but for the members' order -/
def Pm : Vl → Vl → Prop
  | .mk kd b n f tx ty its fls, .mk kd' b' n' f' tx' ty' its' fls' => kdOf kd = kdOf kd' ∧ (if kdOf kd = 5 then PmI its its'.list else if kdOf kd = 6 then ∃ m, fls'.list.Perm m ∧ PmF fls m else leafV (kdOf kd) (.mk kd b n f tx ty its fls) (.mk kd' b' n' f' tx' ty' its' fls') = 0)
def PmI : Vls → List Vl → Prop
  | .nil, l => l = []
  | .cons v r, l => ∃ u l', l = u :: l' ∧ Pm v u ∧ PmI r l'
def PmF : Fls → List (ByteArray × Vl) → Prop
  | .nil, l => l = []
  | .cons nm v r, l => ∃ u l', l = (nm, u) :: l' ∧ Pm v u ∧ PmF r l'
end
theorem PmI.p2 : ∀ {its : Vls} {l : List Vl}, PmI its l → P2 Pm its.list l
  | .nil, l, h => by unfold PmI at h; subst h; trivial
  | .cons v r, l, h => by
    unfold PmI at h
    obtain ⟨v', l', rfl, h1, h2⟩ := h
    exact ⟨h1, PmI.p2 h2⟩
theorem PmF.p2 : ∀ {fls : Fls} {l : List (ByteArray × Vl)}, PmF fls l → P2 (fun p q => q.1 = p.1 ∧ Pm p.2 q.2) fls.list l
  | .nil, l, h => by unfold PmF at h; subst h; trivial
  | .cons nm v r, l, h => by
    unfold PmF at h
    obtain ⟨v', l', rfl, h1, h2⟩ := h
    exact ⟨⟨rfl, h1⟩, PmF.p2 h2⟩
theorem PmI.of : ∀ {its : Vls} {l : List Vl}, P2 Pm its.list l → PmI its l
  | .nil, [], _ => by unfold PmI; rfl
  | .nil, _ :: _, h => h.elim
  | .cons v r, [], h => h.elim
  | .cons v r, u :: l, h => by unfold PmI; exact ⟨u, l, rfl, h.1, PmI.of h.2⟩
theorem PmF.of : ∀ {fls : Fls} {l : List (ByteArray × Vl)}, P2 (fun p q => q.1 = p.1 ∧ Pm p.2 q.2) fls.list l → PmF fls l
  | .nil, [], _ => by unfold PmF; rfl
  | .nil, _ :: _, h => h.elim
  | .cons nm v r, [], h => h.elim
  | .cons nm v r, u :: l, h => by
    unfold PmF
    exact ⟨u.2, l, by rw [← show u.1 = nm from h.1.1], h.1.2, PmF.of h.2⟩
end Go.Proofs.Ythpcpminikmcbaa.og
namespace Go.Proofs.Ythpcpminikmcbaa.og
open Go.ChangeShapes Go.WideShapes Go.ChangeAt Go.RowKit
open vl hiding cB cFl cS cF cI cK cIt
open stp (c3 c3_eq cB cB_tri)
set_option linter.unusedVariables false
set_option linter.unusedSimpArgs false
theorem thn_zero (b : Int) : thn 0 b = b := if_pos rfl
theorem kdOf_five {k : Int} (h : kdOf k = 5) : k = 5 := by unfold kdOf at h; split at h <;> omega
theorem kdOf_six {k : Int} (h : kdOf k = 6) : k = 6 := by unfold kdOf at h; split at h <;> omega
theorem kdOf_n5 {k : Int} (h : kdOf k ≠ 5) : k ≠ 5 := fun e => h (by subst e; decide)
theorem kdOf_n6 {k : Int} (h : kdOf k ≠ 6) : k ≠ 6 := fun e => h (by subst e; decide)
theorem leaf_five (kd : Int) (b : Bool) (n : Int) (f : Nat) (tx ty : ByteArray) (its : Vls) (fls : Fls) (kd' : Int) (b' : Bool) (n' : Int) (f' : Nat) (tx' ty' : ByteArray) (its' : Vls) (fls' : Fls) : leafV 5 (.mk kd b n f tx ty its fls) (.mk kd' b' n' f' tx' ty' its' fls') = lexG ordV its.list its'.list := by simp [leafV]
theorem leaf_six (kd : Int) (b : Bool) (n : Int) (f : Nat) (tx ty : ByteArray) (its : Vls) (fls : Fls) (kd' : Int) (b' : Bool) (n' : Int) (f' : Nat) (tx' ty' : ByteArray) (its' : Vls) (fls' : Fls) : leafV 6 (.mk kd b n f tx ty its fls) (.mk kd' b' n' f' tx' ty' its' fls') = lexG ordM fls.list fls'.list := by simp [leafV]
/-- what is the same but for the members' order is level when it is sorted -/
theorem pm_srt : ∀ v : Vl, Small v → ∀ u : Vl, Small u → Pm v u → ∀ v' u' : Vl, Srt v v' → Srt u u' → ordV v' u' = 0 := by
  refine Vl.all ?_
  intro kd b n f tx ty its fls hI hF hs u hu hp v' u' h1 h2
  have sv' := Srt.small _ _ hs h1
  have su' := Srt.small _ _ hu h2
  obtain ⟨kd', b', n', f', tx', ty', its', fls'⟩ := u
  unfold Pm at hp
  obtain ⟨hk, hp⟩ := hp
  unfold Srt at h1 h2
  obtain ⟨i1, f1, rfl, h1⟩ := h1
  obtain ⟨i2, f2, rfl, h2⟩ := h2
  rw [ordV_thn]
  show thn (c3 (kdOf kd) (kdOf kd')) (leafV (kdOf kd) _ _) = 0
  rw [c3_eq hk, thn_zero]
  unfold Small at hs hu sv' su'
  by_cases h5 : kdOf kd = 5
  · rw [if_pos h5] at hp
    obtain rfl := kdOf_five h5
    obtain rfl := kdOf_five (hk.symm.trans h5)
    rw [if_pos rfl] at h1 h2
    rw [h5, leaf_five]
    refine lexG_p2 ?_
    have q1 := SrtI.p2 h1.1
    have q2 := SrtI.p2 h2.1
    have q3 := PmI.p2 hp
    -- through its.list, then through its'.list
    have q4 : P2 (fun (x : Vl) (y' : Vl) => ∃ y, y ∈ its'.list ∧ Pm x y ∧ Srt y y') its.list i2.list := by
      have := P2.join (T := fun (x : Vl) (y' : Vl) => ∃ y, y ∈ its'.list ∧ Pm x y ∧ Srt y y') q3.symm q2 (fun y hy x _ y' _ h k => ⟨y, hy, h, k⟩)
      exact this
    exact P2.join q1 q4 (fun x hx x' _ y' _ h ⟨y, hy, k1, k2⟩ => hI x hx (hs.2.2.2.1.all x hx) y (hu.2.2.2.1.all y hy) k1 x' y' h k2)
  · rw [if_neg h5] at hp
    have n5 := kdOf_n5 h5
    have n5' := kdOf_n5 (k := kd') (by rw [← hk]; exact h5)
    rw [if_neg n5] at h1
    rw [if_neg n5'] at h2
    by_cases h6 : kdOf kd = 6
    · rw [if_pos h6] at hp
      obtain rfl := kdOf_six h6
      obtain rfl := kdOf_six (hk.symm.trans h6)
      rw [if_pos rfl] at h1 h2
      obtain ⟨rfl, m1, g1, p1, s1⟩ := h1
      obtain ⟨rfl, m2, g2, p2, s2⟩ := h2
      obtain ⟨m, pm, q3⟩ := hp
      have q1 := SrtF.p2 g1
      have q2 := SrtF.p2 g2
      have q3 := PmF.p2 q3
      obtain ⟨m2', pp, q2'⟩ := P2.perm pm q2
      have hmem : ∀ y ∈ m, y ∈ fls'.list := fun y hy => pm.mem_iff.2 hy
      have q4 : P2 (fun (x : ByteArray × Vl) (y' : ByteArray × Vl) => ∃ y, y ∈ fls'.list ∧ (y.1 = x.1 ∧ Pm x.2 y.2) ∧ y'.1 = y.1 ∧ Srt y.2 y'.2) fls.list m2' := P2.join (T := fun (x : ByteArray × Vl) (y' : ByteArray × Vl) => ∃ y, y ∈ fls'.list ∧ (y.1 = x.1 ∧ Pm x.2 y.2) ∧ y'.1 = y.1 ∧ Srt y.2 y'.2) q3.symm q2' (fun y hy x _ y' _ h k => ⟨y, hmem y hy, h, k⟩)
      have q5 : P2 (fun x y => ordM x y = 0) m1 m2' := P2.join q1 q4 (fun x hx x' _ y' _ h ⟨y, hy, k1, k2⟩ => by
        have e := hF x hx (hs.2.2.2.2.all x hx) y.2 (hu.2.2.2.2.all y hy) k1.2 x'.2 y'.2 h.2 k2.2
        show ordM x' y' = 0
        rw [ordM_thn, h.1, k2.1, k1.1, cB_self, e]
        rfl)
      obtain ⟨m3, pq, q6⟩ := P2.perm p1.symm q5
      rw [h6, leaf_six]
      refine lexG_p2 (canon ordM (fun q => Small q.2) (fun x y hx hy => Rg.ordM x y hx hy) (fun x y z hx hy hz => Tr.ordM x y z hx hy hz) (fun x _ => by rw [ordM_thn, cB_self, ordV_self]; rfl) f1.list f2.list m3 (fun x hx => sv'.2.2.2.2.all x hx) (fun x hx => su'.2.2.2.2.all x hx) s1.sd s2.sd q6 ?_)
      exact (p2.trans pp).trans pq
    · rw [if_neg h6] at hp
      rw [if_neg (kdOf_n6 h6)] at h1
      rw [if_neg (kdOf_n6 (k := kd') (by rw [← hk]; exact h6))] at h2
      obtain ⟨rfl, rfl⟩ := h1
      obtain ⟨rfl, rfl⟩ := h2
      exact hp
theorem P2.self {α : Type} {R : α → α → Prop} : ∀ l : List α, (∀ x ∈ l, R x x) → P2 R l l
  | [], _ => trivial
  | a :: l, h => ⟨h a (List.mem_cons_self ..), P2.self l (fun x hx => h x (List.mem_cons_of_mem _ hx))⟩
theorem P2.mapped {α β : Type} {R : α → β → Prop} {g : α → β} : ∀ l : List α, (∀ x ∈ l, R x (g x)) → P2 R l (l.map g)
  | [], _ => trivial
  | a :: l, h => ⟨h a (List.mem_cons_self ..), P2.mapped l (fun x hx => h x (List.mem_cons_of_mem _ hx))⟩
theorem leaf_self (v : Vl) : leafV (kdW v) v v = 0 := by
  have := ordV_self v
  rw [ordV_thn, c3_eq rfl, thn_zero] at this
  exact this
/-- kinds without parts: the parts make no difference -/
theorem leaf_other {K : Int} (h5 : K ≠ 5) (h6 : K ≠ 6) (kd kd' : Int) (b : Bool) (n : Int) (f : Nat) (tx ty : ByteArray) (its its' : Vls) (fls fls' : Fls) : leafV K (.mk kd b n f tx ty its fls) (.mk kd' b n f tx ty its' fls') = leafV K (.mk kd b n f tx ty its fls) (.mk kd b n f tx ty its fls) := by
  simp only [leafV]
  rw [if_neg h5, if_neg h6, if_neg h5, if_neg h6]
theorem Pm.refl : ∀ v : Vl, Pm v v := by
  refine Vl.all ?_
  intro kd b n f tx ty its fls hI hF
  unfold Pm
  refine ⟨rfl, ?_⟩
  split
  · exact PmI.of (P2.self _ hI)
  · split
    · exact ⟨_, List.Perm.refl _, PmF.of (P2.self _ (fun q hq => ⟨rfl, hF q hq⟩))⟩
    · exact leaf_self (.mk kd b n f tx ty its fls)
theorem Pm.turn : ∀ v : Vl, Pm v (turnV v) := by
  refine Vl.all ?_
  intro kd b n f tx ty its fls hI hF
  unfold turnV Pm
  refine ⟨rfl, ?_⟩
  split
  · rw [turnI_list]
    exact PmI.of (P2.mapped _ hI)
  · split
    · rw [turnF_list]
      refine ⟨fls.list.map (fun q => (q.1, turnV q.2)), ?_, PmF.of (P2.mapped _ (fun q hq => ⟨rfl, hF q hq⟩))⟩
      simp only [Fls.list, List.append_nil]
      exact (List.reverse_perm _).map _
    · rw [leaf_other (by assumption) (by assumption)]
      exact leaf_self (.mk kd b n f tx ty its fls)
/-- what is level is the same -/
theorem Pm.of_ord : ∀ v u : Vl, ordV v u = 0 → Pm v u := by
  refine Vl.all (P := fun v => ∀ u : Vl, ordV v u = 0 → Pm v u) ?_
  intro kd b n f tx ty its fls hI hF u h
  obtain ⟨kd', b', n', f', tx', ty', its', fls'⟩ := u
  rw [ordV_thn] at h
  have hk : c3 (kdOf kd) (kdOf kd') = 0 := by
    unfold thn at h
    split at h
    · assumption
    · exact absurd h (by assumption)
  have hl : leafV (kdOf kd) (.mk kd b n f tx ty its fls) (.mk kd' b' n' f' tx' ty' its' fls') = 0 := by
    have h' : thn (c3 (kdOf kd) (kdOf kd')) (leafV (kdOf kd) (.mk kd b n f tx ty its fls) (.mk kd' b' n' f' tx' ty' its' fls')) = 0 := h
    rw [hk, thn_zero] at h'
    exact h'
  unfold Pm
  refine ⟨c3_zero' hk, ?_⟩
  by_cases h5 : kdOf kd = 5
  · rw [if_pos h5]
    rw [h5, leaf_five] at hl
    exact PmI.of (P2.imp (p2_lexG hl) (fun x hx y _ e => hI x hx y e))
  · rw [if_neg h5]
    by_cases h6 : kdOf kd = 6
    · rw [if_pos h6]
      rw [h6, leaf_six] at hl
      refine ⟨_, List.Perm.refl _, PmF.of (P2.imp (p2_lexG hl) (fun x hx y _ e => ?_))⟩
      have e : ordM x y = 0 := e
      rw [ordM_thn] at e
      unfold thn at e
      split at e
      · rename_i hc
        rcases cB_tri x.1 y.1 with ⟨h, _⟩ | ⟨_, _, h⟩ | ⟨h, _⟩
        · rw [h] at hc; omega
        · exact ⟨h.symm, hF x hx y.2 e⟩
        · rw [h] at hc; omega
      · rename_i hc
        exact absurd e hc
    · rw [if_neg h6]
      exact hl
end Go.Proofs.Ythpcpminikmcbaa.og
