import Derived.Test.YtiblkdedbimggaaTeq5
import Derived.Test.YtiblkdedbimggaaTeq1
import Derived.Test.YtiblkdedbimggaaTeq4
import Derived.Shelf.SlSortCmp.NoneTotal
import Derived.Test.YtiblkdedbimggaaProg
namespace Go.Proofs.Ytiblkdedbimggaa.og
open Go.ChangeShapes Go.WideShapes Go.ChangeAt Go.RowKit
open vl hiding cB cFl cS cF cI cK cIt
set_option linter.unusedVariables false
set_option linter.unusedSimpArgs false
/-- a function from members to members: what it makes of p -/
def FnMAt (g : Nat) (R : ByteArray × Vl → ByteArray × Vl → Prop) (p : ByteArray × Vl) : Prop := ∀ (Q : Nat → Prop) (cs : List Value) (w : World), (∀ b, Q b → b < w.heap.size) → p.1.size ≤ maxLen → AvC Q w p.2 cs → Calls Try.prog g #[.agg (Value.string p.1 :: cs).toArray] w fun e w' => ∃ (nm' : ByteArray) (v' : Vl) (ds : List Value), e = .returned (.agg (Value.string nm' :: ds).toArray) ∧ nm'.size ≤ maxLen ∧ R p (nm', v') ∧ AvC Q w' v' ds ∧ Gr w w'
set_option maxHeartbeats 6000000 in
set_option maxRecDepth 6000 in
theorem eachM_ok' (g : Nat) (en : ∀ args w, (callFunc g args).run Try.prog w = .ok (.enter g args) w) (R : ByteArray × Vl → ByteArray × Vl → Prop) (its : Fls) (ih : ∀ v ∈ its.list, FnMAt g R v) (Q : Nat → Prop) (a : Addr) (n c : Nat) (w : World) (hQ : ∀ b, Q b → b < w.heap.size) (hI : AvF Q w its (some a) n) (hn : n ≤ 1099511627776) :
    Calls Try.prog 53 #[.slice (some a) n c, .func (.func g) #[] #[]] w fun e w' => ∃ (l : List (ByteArray × Vl)), e = .returned (.slice (some ⟨w.heap.size, 0, none⟩) n n) ∧ l.length = n ∧ Pw R its.list l ∧ RowF (fun b => Q b ∨ b = w.heap.size) w' w.heap.size l ∧ w.heap.size < w'.heap.size ∧ w'.there w.heap.size 0 (n * 9) ∧ Gr w w' := by
  have hnil : ∀ (w : World) (a : Option Addr) (n c n' c' : Nat), (binOp .eql 25 (.slice a n c) (.slice none n' c')).run Try.prog w = .ok (.bool a.isNone) w := fun w a n c n' c' => Lib.run_eql_slice_nil w _ _ a n c n' c' Try.underlying25
  have hlen := FlsAt.len its _ _ (AvF.read its _ _ hI)
  obtain ⟨Z, hZ, hmk⟩ := makeM n w hn
  have hL := hide hlen
  have hZ' := hide hZ
  clear hlen hZ
  go_enter Try.func53, Try.ntmps53
  go_wp2_with fail
  clear hmk
  go_loopw [15] (fun vi wr => ∃ (k : Nat) (l : List (ByteArray × Vl)), k ≤ n ∧ vi = .int .i64 k ∧ l.length = k ∧ vl.Hid (Pw R (its.list.take k) l) ∧ vl.Hid (RowF (fun b => Q b ∨ b = w.heap.size) wr w.heap.size l) ∧ vl.Hid (wr.there w.heap.size 0 (n * 9)) ∧ Gr w wr ∧ w.heap.size < wr.heap.size) (fun vi _ => n - (intOf vi).toNat)
  case atStart => exact ⟨0, [], Nat.zero_le _, rfl, rfl, hide ⟨by simp, fun i x y hx => by simp at hx⟩, hide (fun i v hv => by simp at hv), hide (there_new (unhide hZ')), (Gr.refl _).alloc _, by simp⟩
  case round =>
    obtain ⟨k, l, hk, rfl, hlk, hP, hO, hT, hB, hs⟩ := hrel
    by_cases hlt : k < n
    · obtain ⟨b, off, nm, v, cs, hab, hg, -, hn0, hnz, hr, hv⟩ := AvF.get its _ n hI k hlt
      obtain rfl : a = ⟨b, off, none⟩ := Option.some.inj hab
      clear hab
      have hcop := hide (ih (nm, v) (List.mem_of_getElem? hg))
      have hr' : wr.rangeAt b (off + k * 9) (Value.string nm :: cs) := Row8.below (row9 hr hn0) hB.1
      have h8 := hv.cells
      have h1 := one9 nm (AvC.read v cs hv)
      have hi8 : (Try.prog.info? 47).map (·.size) = some (Value.string nm :: cs).length := by rw [List.length_cons, h8]; exact infoM
      have hi8' : (Try.prog.info? 47).map (·.size) = some (Value.string nm :: cs).toArray.size := by simp [h8, infoM]
      have hz8 : (Value.string nm :: cs).toArray.size = 9 := by simp [h8]
      have ki : (k : Int) < (n : Int) := by omega
      have HH := hide (And.intro hi8 (And.intro hi8' (And.intro hz8 (show (Value.string nm :: cs).length = 9 by simp [h8]))))
      have HLK := hide hlk
      clear hr hi8 hi8' hz8 h8 hlk
      go_wp2_with (first
        | refine wpList_load_mid (by rfl) 47 _ (by rfl) b (off + k * 9) (by rfl) (Value.string nm :: cs) _ hr' Try.underlying47 (by rfl) (unhide HH).1 ?_
        | refine wpList_store_mid (by rfl) 47 _ _ (by rfl) wr.heap.size 0 (Value.string nm :: cs).toArray (by rfl) (by rfl) (there_new (by rw [(unhide HH).2.2.1]; rfl)) (unhide HH).2.1 h1 ?_
        | refine wpList_load_mid (by rfl) 47 _ (by rfl) wr.heap.size 0 (by rfl) (Value.string nm :: cs) _ (World.rangeAt_setCells_same _ _ _ _ (there_new (by show _ = (Value.string nm :: cs).length; rw [(unhide HH).2.2.2]; rfl))) Try.underlying47 (by rfl) (unhide HH).1 ?_)
      obtain ⟨W2, e2⟩ : ∃ W2, W2 = ((wr.alloc (.cells #[Value.string { data := #[] }, Value.int IntKind.i64 0, Value.bool false, Value.int IntKind.i64 0, Value.float FloatKind.f64 0, Value.string { data := #[] }, Value.string { data := #[] }, Value.slice none 0 0, Value.slice none 0 0] 47)).setCells wr.heap.size 0 (Value.string nm :: cs)) := ⟨_, rfl⟩
      have b2 : Gr wr W2 := by rw [e2]; exact ((Gr.refl _).alloc _).setCells (Nat.le_refl _) _ _
      rw [← e2]
      clear e2
      have g2 : Gr w W2 := hB.trans b2
      have hQ2 : ∀ b, (Q b ∨ b = w.heap.size) → b < W2.heap.size := fun b hb => hb.elim (fun h => gr_lt g2 (hQ b h)) (fun h => by rw [h]; exact gr_lt b2 hs)
      have hv2 : AvC (fun b => Q b ∨ b = w.heap.size) W2 v cs := AvC.agree (fun b hl hn e => e.elim hn (fun e => by omega)) (fun b j hl _ => g2.1.cell (p := ⟨b, j, none⟩) hl) v cs hv
      refine ((unhide hcop) _ cs W2 hQ2 hnz hv2).mono ?_
      rintro e w3 ⟨nm', v', ds, rfl, hnz', hR, hO3, b3⟩
      have d8 := hO3.cells
      have d1 := one9 nm' (AvC.read v' ds hO3)
      have b23 : Gr wr w3 := b2.trans b3
      have hT3 : w3.there w.heap.size (k * 9) (Value.string nm' :: ds).toArray.size := there_sub (there_below (unhide hT) b23.1 hs) (Nat.zero_le _) (by simp [d8]; omega)
      have hi8 : (Try.prog.info? 47).map (·.size) = some (Value.string nm' :: ds).toArray.size := by simp [d8, infoM]
      have D8 := hide d8
      have HI := hide hi8
      have HT := hide hT3
      have HO3 := hide hO3
      clear hO3 hT3 hi8 d8 hcop HH hr' hv2
      go_wp2_with (first
        | refine wpList_store_mid (by rfl) 47 _ _ (by rfl) w.heap.size (k * 9) (Value.string nm' :: ds).toArray (by rfl) (by rfl) (unhide HT) (unhide HI) d1 ?_)
      have hrow : (w3.setCells w.heap.size (k * 9) (Value.string nm' :: ds)).rangeAt w.heap.size (k * 9) (Value.string nm' :: ds) := World.rangeAt_setCells_same w3 _ _ _ (by have := unhide HT; simpa using this)
      have hav : ∀ u us, AvC (fun b => Q b ∨ b = w.heap.size) w3 u us → AvC (fun b => Q b ∨ b = w.heap.size) (w3.setCells w.heap.size (k * 9) (Value.string nm' :: ds)) u us := fun u us h => AvC.agree (fun _ _ h => h) (fun b j _ hn => World.cell?_setCells_out _ _ _ _ _ (fun e _ => absurd (.inr (show b = w.heap.size from e)) hn)) u us h
      refine ⟨⟨k + 1, l ++ [(nm', v')], by omega, by go_num, by simp [unhide HLK], hide (Pw.snoc (unhide hP) hg hR), hide ?_, hide (World.there_setCells (there_below (unhide hT) b23.1 hs) _ _ _), (hB.trans b23).setCells (Nat.le_refl _) _ _, by rw [size_setCells]; exact gr_lt b23 hs⟩, by simp only [intOf]; omega⟩
      intro i u hu
      by_cases hi : i < k
      · rw [List.getElem?_append_left (by rw [unhide HLK]; exact hi)] at hu
        obtain ⟨us, g0, gz, g1, g2⟩ := unhide hO i u hu
        have u8 := g2.cells
        refine ⟨us, ?_, gz, fun j x hx => ?_, hav u.2 us (AvC.agree (fun _ _ h => h) (fun b j hl _ => b23.1.cell (p := ⟨b, j, none⟩) hl) u.2 us g2)⟩
        · rw [World.cell?_setCells_out _ _ _ _ _ (fun _ _ => .inl (by show i * 9 < k * 9; omega))]
          exact (b23.1.cell (p := ⟨w.heap.size, i * 9, none⟩) hs).trans g0
        · have hj := (List.getElem?_eq_some_iff.1 hx).1
          rw [World.cell?_setCells_out _ _ _ _ _ (fun _ _ => .inl (by show i * 9 + 1 + j < k * 9; omega))]
          exact (b23.1.cell (p := ⟨w.heap.size, i * 9 + 1 + j, none⟩) hs).trans (g1 j x hx)
      · have hi2 := (List.getElem?_eq_some_iff.1 hu).1
        simp [unhide HLK] at hi2
        obtain rfl : i = k := by omega
        rw [List.getElem?_append_right (by rw [unhide HLK]; omega), unhide HLK] at hu
        simp at hu
        subst hu
        exact ⟨ds, hrow 0 _ rfl, hnz', fun j x hx => by have := hrow (j + 1) x (by simpa using hx); rwa [show i * 9 + (j + 1) = i * 9 + 1 + j by omega] at this, hav _ ds (unhide HO3)⟩
    · obtain rfl : k = n := by omega
      go_wp2
      go_ret
      refine ⟨l, rfl, hlk, ?_, unhide hO, hs, unhide hT, hB⟩
      have := unhide hP
      rwa [List.take_of_length_le (Nat.le_of_eq (unhide hL))] at this
end Go.Proofs.Ytiblkdedbimggaa.og
namespace Go.Proofs.Ytiblkdedbimggaa.og
open Go.ChangeShapes Go.WideShapes Go.ChangeAt Go.RowKit
open vl hiding cB cFl cS cF cI cK cIt
set_option linter.unusedVariables false
set_option linter.unusedSimpArgs false
set_option maxHeartbeats 6000000 in
set_option maxRecDepth 6000 in
theorem sortM_ok (R : Vl → Vl → Prop) (p : ByteArray × Vl) (hc : FnAt 30 R p.2) : FnMAt 54 (fun p q => q.1 = p.1 ∧ R p.2 q.2) p := by
  intro Q cs w hQ hnz hv
  obtain ⟨nm, v⟩ := p
  simp only at hc hnz hv ⊢
  have H := hide (hc (fun b => Q b ∨ b = w.heap.size + 1) cs)
  have hv' := hide hv
  have h8 := hv.cells
  have h1 := one9 nm (AvC.read v cs hv)
  have i9 : (Try.prog.info? 47).map (·.size) = some (Value.string nm :: cs).toArray.size := by simp [h8, infoM]
  have HH := hide (And.intro h8 i9)
  clear hc h8 i9 hv
  go_enter Try.func54, Try.ntmps54
  go_wp2_with (first
    | refine wpList_store_mid (by rfl) 47 _ _ (by rfl) w.heap.size 0 (Value.string nm :: cs).toArray (by rfl) (by rfl) (there_new (by simp [(unhide HH).1])) (unhide HH).2 h1 ?_)
  obtain ⟨W, eW⟩ : ∃ W, W = ((w.alloc (.cells (Value.string nm :: cs).toArray 47)).alloc (.cells #[.string { data := #[] }, .int .i64 0, .bool false, .int .i64 0, .float .f64 0, .string { data := #[] }, .string { data := #[] }, .slice none 0 0, .slice none 0 0] 47)) := ⟨_, rfl⟩
  have bW : Gr w W := by rw [eW]; exact ((Gr.refl _).alloc _).alloc _
  have hsz : W.heap.size = w.heap.size + 2 := by rw [eW]; simp
  have hcell : ∀ j u, (Value.string nm :: cs)[j]? = some u → W.cell? ⟨w.heap.size, j, none⟩ = some u := fun j u hu => by
    rw [eW, World.cell?_alloc_past _ _ _ (by simp), World.cell?_alloc_at _ _ _ _ rfl]; simpa using hu
  have x0 := hcell 0 _ rfl
  have hrow : W.rangeAt w.heap.size 1 cs := fun j u hu => by
    rw [Nat.add_comm]; exact hcell (j + 1) u (by simpa using hu)
  have hth : W.there (w.heap.size + 1) 0 9 := by
    rw [eW]
    have h := there_new (w := w.alloc (.cells (Value.string nm :: cs).toArray 47)) (Z := #[.string { data := #[] }, .int .i64 0, .bool false, .int .i64 0, .float .f64 0, .string { data := #[] }, .string { data := #[] }, .slice none 0 0, .slice none 0 0]) (t := 47) (n := 9) rfl
    simpa using h
  rw [← eW]
  clear eW hcell
  have hS0 : Below (w.heap.size + 1) W { W with drawn := W.drawn + 1 } := (Below.refl _ _).drew
  have gS0 : Gr W { W with drawn := W.drawn + 1 } := (Gr.refl _).drew
  have hi8 : (Try.prog.info? 27).map (·.size) = some cs.length := by rw [(unhide HH).1]; exact infoV
  refine wp_region_noPanic ?_
  refine wp_region_held (S := fun w' => Below (w.heap.size + 1) W w') mixed ?_
  refine rgn.take (i := 0) _ (.pointer (some ⟨w.heap.size, 0, none⟩)) rfl (by kernel_rfl) (by kernel_rfl) (by kernel_rfl) (fun _ _ _ h => h) (by rfl) hS0 (fun w' hw' => by go_simp) ?_
  simp only [List.getElem_toArray, List.getElem_cons_zero, List.getElem_cons_succ, Act.put, List.setIfInBounds_toArray, List.set_cons_zero, List.set_cons_succ]
  refine rgn.take (i := 1) _ (.string nm) rfl (by kernel_rfl) (by kernel_rfl) (by kernel_rfl) (fun _ _ _ h => h) (by rfl) hS0 (fun w' hw' => by
    have y0 : w'.cell? ⟨w.heap.size, 0, none⟩ = some (.string nm) := (hw'.cell (p := ⟨w.heap.size, 0, none⟩) (Nat.lt_succ_self _)).trans x0
    clear x0
    go_simp) ?_
  simp only [List.getElem_toArray, List.getElem_cons_zero, List.getElem_cons_succ, Act.put, List.setIfInBounds_toArray, List.set_cons_zero, List.set_cons_succ]
  refine rgn.take (i := 2) _ (.pointer (some ⟨w.heap.size, 1, none⟩)) rfl (by kernel_rfl) (by kernel_rfl) (by kernel_rfl) (fun _ _ _ h => h) (by rfl) hS0 (fun w' hw' => by go_simp) ?_
  simp only [List.getElem_toArray, List.getElem_cons_zero, List.getElem_cons_succ, Act.put, List.setIfInBounds_toArray, List.set_cons_zero, List.set_cons_succ]
  refine wpAnyH_take (i := 3) rfl (by kernel_rfl) (by kernel_rfl) (by kernel_rfl) (fun _ _ _ h => h) (yieldsIf_load_mid (by rfl) 27 _ (by rfl) w.heap.size 1 (by rfl) cs _ (fun w' hw' j u hu => (hw'.cell (p := ⟨w.heap.size, 1 + j, none⟩) (Nat.lt_succ_self _)).trans (hrow j u hu)) Try.underlying27 (by rfl) hi8) hS0 ?_
  simp only [List.getElem_toArray, List.getElem_cons_zero, List.getElem_cons_succ, Act.put, List.setIfInBounds_toArray, List.set_cons_zero, List.set_cons_succ]
  refine rgn.one (i := 4) _ rfl (by kernel_rfl) (by rfl) ?_
  simp only [List.getElem_toArray, List.getElem_cons_zero, List.getElem_cons_succ, Act.put, List.setIfInBounds_toArray, List.set_cons_zero, List.set_cons_succ]
  go_wp2_with fail
  refine ((unhide H) _ (fun b hb => hb.elim (fun h => gr_lt (bW.trans gS0) (hQ b h)) (fun h => by rw [h]; show w.heap.size + 1 < W.heap.size; omega)) (AvC.agree (fun b hl hn e => e.elim hn (fun e => by omega)) (fun b j hl _ => (bW.trans gS0).1.cell (p := ⟨b, j, none⟩) hl) v cs (unhide hv'))).mono ?_
  rintro e w3 ⟨v', ds, rfl, hR, hO3, b3⟩
  have g4 : Gr W w3 := gS0.trans b3
  have b4 : Below W.heap.size W w3 := g4.1
  have hS3 : Below (w.heap.size + 1) W w3 := b4.mono (by omega)
  have d8 := (AvC.read v' ds hO3).cells
  have d1 := one9 nm (AvC.read v' ds hO3)
  have hT3 : w3.there (w.heap.size + 1) 0 (Value.string nm :: ds).toArray.size := by
    have := there_below hth b4 (by omega)
    simpa [d8] using this
  have i9 : (Try.prog.info? 47).map (·.size) = some (Value.string nm :: ds).toArray.size := by simp [d8, infoM]
  refine ⟨hS3, ?_⟩
  refine rgn.take (i := 5) _ (.agg (Value.string nm :: ds).toArray) rfl (by kernel_rfl) (by kernel_rfl) (by kernel_rfl) (fun _ _ _ h => h) (by rfl) hS3 (fun w' hw' => by
    have hO4 := hO3
    clear hO3 d8 d1 hT3 i9
    clear hR
    obtain ⟨kd, bb, ni, f, tx, ty, its, fls⟩ := v'
    unfold AvC at hO4
    obtain ⟨ai, nI, ci, af, nf, cf, rfl, -⟩ := hO4
    go_simp) ?_
  simp only [List.getElem_toArray, List.getElem_cons_zero, List.getElem_cons_succ, Act.put, List.setIfInBounds_toArray, List.set_cons_zero, List.set_cons_succ]
  refine rgn.one (i := 6) _ rfl (by kernel_rfl) (by rfl) ?_
  simp only [List.getElem_toArray, List.getElem_cons_zero, List.getElem_cons_succ, Act.put, List.setIfInBounds_toArray, List.set_cons_zero, List.set_cons_succ]
  refine wp_store_mid 47 _ _ (by rfl) (w.heap.size + 1) 0 (Value.string nm :: ds).toArray (by rfl) (by rfl) hT3 i9 d1 ?_
  refine ⟨below_setCells _ _ _ _ hS3 (Nat.le_refl _), ?_⟩
  refine wpAnyH_done (by kernel_rfl) ?_ _
  simp only [List.getElem_toArray, List.getElem_cons_zero, List.getElem_cons_succ, Act.put, List.setIfInBounds_toArray, List.set_cons_zero, List.set_cons_succ]
  refine NoPanic.normal ?_
  obtain ⟨W4, e4⟩ : ∃ W4, W4 = w3.setCells (w.heap.size + 1) 0 (Value.string nm :: ds) := ⟨_, rfl⟩
  rw [← e4]
  go_wp2_with fail
  have g5 : Gr w W4 := by rw [e4]; exact (bW.trans g4).setCells (Nat.le_succ _) _ _
  have hr4 : W4.rangeAt (w.heap.size + 1) 0 (Value.string nm :: ds) := by rw [e4]; exact World.rangeAt_setCells_same _ _ _ _ (by simpa using hT3)
  have hO4 : AvC Q W4 v' ds := by
    rw [e4]
    exact AvC.agree (fun _ _ h e => h (.inl e)) (fun b j _ hn => World.cell?_setCells_out _ _ _ _ _ (fun e _ => absurd (.inr (show b = w.heap.size + 1 from e)) hn)) v' ds hO3
  refine bodyPost_ret (rgn.result_row rfl _ _ (w.heap.size + 1) 0 (Value.string nm :: ds) _ rfl hr4 Try.underlying47 rfl (by simpa using i9)) rfl ?_
  exact ⟨nm, v', ds, rfl, hnz, ⟨rfl, hR⟩, hO4, g5⟩
end Go.Proofs.Ytiblkdedbimggaa.og
namespace Go.Proofs.Ytiblkdedbimggaa.og
open Go.ChangeShapes Go.WideShapes Go.ChangeAt Go.RowKit
open vl hiding cB cFl cS cF cI cK cIt
open stp (c3 c3_lt c3_gt c3_eq cB cB_tri)
set_option linter.unusedVariables false
set_option linter.unusedSimpArgs false
theorem str_cmpE (a b : ByteArray) (w : World) : Calls Try.prog 47 #[.string a, .string b] w fun e w' => e = .returned (.int .i64 (cB a b)) ∧ w = w' := by
  have hr := fun w => stp.run_cmp a b w
  go_enter Try.func47, Try.ntmps47
  go_wp2
  go_ret
  exact ⟨rfl, rfl⟩
theorem i64_cmp (x t : Int) (w : World) : Calls Try.prog 45 #[.int .i64 x, .int .i64 t] w fun e w' => e = .returned (.int .i64 (c3 x t)) ∧ w = w' := by
  rcases Int.lt_trichotomy x t with h | h | h
  · go_enter Try.func45, Try.ntmps45
    go_wp2
    go_ret
    exact ⟨by rw [c3_lt h]; rfl, rfl⟩
  · go_enter Try.func45, Try.ntmps45
    go_wp2
    go_ret
    exact ⟨by rw [c3_eq (by omega)]; rfl, rfl⟩
  · go_enter Try.func45, Try.ntmps45
    go_wp2
    go_ret
    exact ⟨by rw [c3_gt h]; rfl, rfl⟩
theorem kind_cmp (x t : Int) (w : World) : Calls Try.prog 43 #[.int .i64 x, .int .i64 t] w fun e w' => e = .returned (.int .i64 (c3 x t)) ∧ w = w' := by
  rcases Int.lt_trichotomy x t with h | h | h
  · go_enter Try.func43, Try.ntmps43
    go_wp2
    go_ret
    exact ⟨by rw [c3_lt h]; rfl, rfl⟩
  · go_enter Try.func43, Try.ntmps43
    go_wp2
    go_ret
    exact ⟨by rw [c3_eq (by omega)]; rfl, rfl⟩
  · go_enter Try.func43, Try.ntmps43
    go_wp2
    go_ret
    exact ⟨by rw [c3_gt h]; rfl, rfl⟩
theorem bools_ok (a b : Bool) (w : World) : Calls Try.prog 44 #[.bool a, .bool b] w fun e w' => e = .returned (.int .i64 (cBo a b)) ∧ w = w' := by
  cases a <;> cases b
  all_goals
    go_enter Try.func44, Try.ntmps44
    go_wp2
    go_ret
    exact ⟨rfl, rfl⟩
theorem cmpOr_ok (x y : Int) (b : Nat) (w : World) (h0 : w.cell? ⟨b, 0, none⟩ = some (.int .i64 x)) (h1 : w.cell? ⟨b, 1, none⟩ = some (.int .i64 y)) : Calls Try.prog 51 #[.slice (some ⟨b, 0, none⟩) 2 2] w fun e w' => e = .returned (.int .i64 (if x = 0 then y else x)) ∧ w = w' := by
  by_cases hx : x = 0
  · subst hx
    by_cases hy : y = 0
    · subst hy
      go_enter Try.func51, Try.ntmps51
      go_wp2_with fail
      go_loopw [8] (fun v wr => ∃ k : Nat, k ≤ 2 ∧ v = .int .i64 k ∧ w = wr) (fun v _ => 2 - (intOf v).toNat)
      case atStart => exact ⟨0, by omega, rfl, rfl⟩
      case round =>
        obtain ⟨k, hk, rfl, rfl⟩ := hrel
        rcases (by omega : k = 0 ∨ k = 1 ∨ k = 2) with rfl | rfl | rfl
        · go_wp2
          go_roundw
          case rel => exact ⟨1, by omega, by go_num, (by first | rfl | trivial)⟩
          case measure => simp [intOf]
        · go_wp2
          go_roundw
          case rel => exact ⟨2, by omega, by go_num, (by first | rfl | trivial)⟩
          case measure => simp [intOf]
        · go_wp2
          go_ret
          exact ⟨rfl, rfl⟩
    · have hy2 : (y != 0) = true := by simpa using hy
      go_enter Try.func51, Try.ntmps51
      go_wp2_with fail
      go_loopw [8] (fun v wr => ∃ k : Nat, k ≤ 1 ∧ v = .int .i64 k ∧ w = wr) (fun v _ => 2 - (intOf v).toNat)
      case atStart => exact ⟨0, by omega, rfl, rfl⟩
      case round =>
        obtain ⟨k, hk, rfl, rfl⟩ := hrel
        rcases (by omega : k = 0 ∨ k = 1) with rfl | rfl
        · go_wp2
          go_roundw
          case rel => exact ⟨1, by omega, by go_num, (by first | rfl | trivial)⟩
          case measure => simp [intOf]
        · go_wp2
          go_ret
          exact ⟨rfl, rfl⟩
  · have hx2 : (x != 0) = true := by simpa using hx
    have hi := hide (show (if x = 0 then y else x) = x from if_neg hx)
    generalize (if x = 0 then y else x) = r at *
    go_enter Try.func51, Try.ntmps51
    go_wp2_with fail
    go_loopw [8] (fun v wr => v = .int .i64 0 ∧ w = wr) (fun v _ => 2 - (intOf v).toNat)
    case atStart => exact ⟨rfl, rfl⟩
    case round =>
      obtain ⟨rfl, rfl⟩ := hrel
      go_wp2
      go_ret
      exact ⟨by rw [unhide hi]; rfl, rfl⟩
def kdV : Vl → Int
  | .mk kd _ _ _ _ _ _ _ => kdOf kd
theorem kindOf_ok (v : Vl) (cs : List Value) (w w0 : World) (hv : VlC w0 v cs) : Calls Try.prog 42 #[.agg cs.toArray] w fun e w' => e = .returned (.int .i64 (kdV v)) ∧ Gr w w' := by
  obtain ⟨kd, b, n, f, tx, ty, its, fls⟩ := v
  unfold VlC at hv
  obtain ⟨ai, ni, ci, af, nf, cf, rfl, -⟩ := hv
  unfold kdV
  by_cases h1 : kd < 0
  · have hr := hide (show kdOf kd = 0 by unfold kdOf; rw [if_pos (.inl h1)])
    go_enter Try.func42, Try.ntmps42
    go_wp2
    go_ret
    exact ⟨by rw [unhide hr]; rfl, (Gr.refl _).alloc _⟩
  · by_cases h2 : 7 < kd
    · have hr := hide (show kdOf kd = 0 by unfold kdOf; rw [if_pos (.inr h2)])
      go_enter Try.func42, Try.ntmps42
      go_wp2
      go_ret
      exact ⟨by rw [unhide hr]; rfl, (Gr.refl _).alloc _⟩
    · have hr := hide (show kdOf kd = kd by unfold kdOf; rw [if_neg (by omega)])
      go_enter Try.func42, Try.ntmps42
      go_wp2
      go_ret
      exact ⟨by rw [unhide hr]; rfl, (Gr.refl _).alloc _⟩
end Go.Proofs.Ytiblkdedbimggaa.og
namespace Go.Proofs.Ytiblkdedbimggaa.og
open Go.ChangeShapes Go.WideShapes Go.ChangeAt Go.RowKit
open vl hiding cB cFl cS cF cI cK cIt
open stp (c3 c3_lt c3_gt c3_eq cB cB_tri)
set_option linter.unusedVariables false
set_option linter.unusedSimpArgs false
theorem run_tobits (x : Nat) (w : World) : (callFunc 77 #[.float .f64 x]).run Try.prog w = .ok (.value (.int .u64 x)) w := by
  rw [run_callFunc_extern (e := Extern.MathFloatBits.float64bits) Try.func77 (by kernel_rfl) (by kernel_rfl) (by kernel_rfl) (by kernel_rfl)]
  rfl
theorem isNaN_any (x : Nat) (w : World) (h : x < 18446744073709551616) : Calls Try.prog 71 #[.float .f64 x] w fun e w' => e = .returned (.bool (nanF x)) ∧ w = w' := by
  have ho := (ordSelf x h).1
  generalize nanF x = N at *
  go_enter Try.func71, Try.ntmps71
  go_wp2
  go_ret
  exact ⟨by first | rfl | (rw [← ho]; rfl), rfl⟩
theorem cnan_any (x : Nat) (w : World) (h : x < 18446744073709551616) : Calls Try.prog 78 #[.float .f64 x] w fun e w' => e = .returned (.bool (nanF x)) ∧ w = w' := by
  have ho := (ordSelf x h).1
  generalize nanF x = N at *
  go_enter Try.func78, Try.ntmps78
  go_wp2
  go_ret
  exact ⟨by first | rfl | (rw [← ho]; rfl), rfl⟩
theorem sameF_ok (a b : Nat) (w : World) (ha : a < 18446744073709551616) (hb : b < 18446744073709551616) : Calls Try.prog 65 #[.float .f64 a, .float .f64 b] w fun e w' => e = .returned (.bool (sameF a b)) ∧ w = w' := by
  have NA := hide (fun W => isNaN_any a W ha)
  have NB := hide (fun W => isNaN_any b W hb)
  have T1 := run_tobits a w
  have T2 := run_tobits b w
  have HS := hide (show sameF a b = ((a == b) || (nanF a && nanF b)) from rfl)
  have HE := hide (show (a == b) = true → nanF a = nanF b from fun h => by rw [eq_of_beq h])
  generalize nanF a = A at *
  generalize nanF b = B at *
  cases A
  · cases B
    · have hi : (((a : Nat) : Int) == ((b : Nat) : Int)) = (a == b) := by
        by_cases h : a = b
        · subst h; simp
        · have h2 : ((a : Int) == (b : Int)) = false := by simp; omega
          rw [h2]; simp [h]
      cases hab : (a == b)
      all_goals
        rw [hab] at hi HS HE
        clear hab
        go_enter Try.func65, Try.ntmps65
        go_wp2_with fail
        refine (unhide NA _).mono ?_
        rintro e w1 ⟨rfl, rfl⟩
        go_wp2_with fail
        refine (unhide NB _).mono ?_
        rintro e w2 ⟨rfl, rfl⟩
        go_wp2
        go_ret
        exact ⟨by rw [unhide HS]; rfl, rfl⟩
    · have hab : (a == b) = false := by
        cases h : (a == b)
        · rfl
        · have := unhide HE h; cases this
      rw [hab] at HS
      clear hab HE
      go_enter Try.func65, Try.ntmps65
      go_wp2_with fail
      refine (unhide NA _).mono ?_
      rintro e w1 ⟨rfl, rfl⟩
      go_wp2_with fail
      refine (unhide NB _).mono ?_
      rintro e w2 ⟨rfl, rfl⟩
      go_wp2_with fail
      refine (unhide NA _).mono ?_
      rintro e w3 ⟨rfl, rfl⟩
      go_wp2
      go_ret
      exact ⟨by rw [unhide HS]; rfl, rfl⟩
  · cases B
    · have hab : (a == b) = false := by
        cases h : (a == b)
        · rfl
        · have := unhide HE h; cases this
      rw [hab] at HS
      clear hab HE
      go_enter Try.func65, Try.ntmps65
      go_wp2_with fail
      refine (unhide NA _).mono ?_
      rintro e w1 ⟨rfl, rfl⟩
      go_wp2_with fail
      refine (unhide NA _).mono ?_
      rintro e w2 ⟨rfl, rfl⟩
      go_wp2_with fail
      refine (unhide NB _).mono ?_
      rintro e w3 ⟨rfl, rfl⟩
      go_wp2
      go_ret
      exact ⟨by rw [unhide HS]; rfl, rfl⟩
    · have HT := hide (show sameF a b = true from by rw [unhide HS]; simp)
      clear HE HS
      go_enter Try.func65, Try.ntmps65
      go_wp2_with fail
      refine (unhide NA _).mono ?_
      rintro e w1 ⟨rfl, rfl⟩
      go_wp2_with fail
      refine (unhide NA _).mono ?_
      rintro e w2 ⟨rfl, rfl⟩
      go_wp2_with fail
      refine (unhide NB _).mono ?_
      rintro e w3 ⟨rfl, rfl⟩
      go_wp2
      go_ret
      exact ⟨by rw [unhide HT]; rfl, rfl⟩
theorem cmpF_ok (a b : Nat) (w : World) (ha : a < 18446744073709551616) (hb : b < 18446744073709551616) : Calls Try.prog 66 #[.float .f64 a, .float .f64 b] w fun e w' => e = .returned (.int .i64 (cmpF a b)) ∧ w = w' := by
  have NA := hide (fun W => cnan_any a W ha)
  have NB := hide (fun W => cnan_any b W hb)
  have HC := hide (show cmpF a b = (if nanF a = true then (if nanF b = true then 0 else -1) else if nanF b = true then 1 else if (FloatKind.f64.format.order a b == some Ordering.lt) = true then -1 else if (FloatKind.f64.format.order a b == some Ordering.gt) = true then 1 else 0) from rfl)
  generalize cmpF a b = C at *
  generalize nanF a = A at *
  generalize nanF b = B at *
  clear ha hb
  cases A
  · cases B
    · cases hl : (FloatKind.f64.format.order a b == some Ordering.lt)
      · cases hg : (FloatKind.f64.format.order a b == some Ordering.gt)
        · have HC := hide ((unhide HC).trans (show _ = (0 : Int) by rw [hl, hg]; rfl))
          go_enter Try.func66, Try.ntmps66
          go_wp2_with fail
          refine (unhide NA _).mono ?_
          rintro e w1 ⟨rfl, rfl⟩
          go_wp2_with fail
          refine (unhide NB _).mono ?_
          rintro e w2 ⟨rfl, rfl⟩
          go_wp2
          go_ret
          exact ⟨by rw [unhide HC]; rfl, rfl⟩
        · have HC := hide ((unhide HC).trans (show _ = (1 : Int) by rw [hl, hg]; rfl))
          go_enter Try.func66, Try.ntmps66
          go_wp2_with fail
          refine (unhide NA _).mono ?_
          rintro e w1 ⟨rfl, rfl⟩
          go_wp2_with fail
          refine (unhide NB _).mono ?_
          rintro e w2 ⟨rfl, rfl⟩
          go_wp2
          go_ret
          exact ⟨by rw [unhide HC]; rfl, rfl⟩
      · have HC := hide ((unhide HC).trans (show _ = (-1 : Int) by rw [hl]; rfl))
        go_enter Try.func66, Try.ntmps66
        go_wp2_with fail
        refine (unhide NA _).mono ?_
        rintro e w1 ⟨rfl, rfl⟩
        go_wp2_with fail
        refine (unhide NB _).mono ?_
        rintro e w2 ⟨rfl, rfl⟩
        go_wp2
        go_ret
        exact ⟨by rw [unhide HC]; rfl, rfl⟩
    · have HC := hide ((unhide HC).trans (show _ = (1 : Int) from rfl))
      go_enter Try.func66, Try.ntmps66
      go_wp2_with fail
      refine (unhide NA _).mono ?_
      rintro e w1 ⟨rfl, rfl⟩
      go_wp2_with fail
      refine (unhide NB _).mono ?_
      rintro e w2 ⟨rfl, rfl⟩
      go_wp2
      go_ret
      exact ⟨by rw [unhide HC]; rfl, rfl⟩
  · cases B
    · have HC := hide ((unhide HC).trans (show _ = (-1 : Int) from rfl))
      go_enter Try.func66, Try.ntmps66
      go_wp2_with fail
      refine (unhide NA _).mono ?_
      rintro e w1 ⟨rfl, rfl⟩
      go_wp2_with fail
      refine (unhide NB _).mono ?_
      rintro e w2 ⟨rfl, rfl⟩
      go_wp2
      go_ret
      exact ⟨by rw [unhide HC]; rfl, rfl⟩
    · have HC := hide ((unhide HC).trans (show _ = (0 : Int) from rfl))
      go_enter Try.func66, Try.ntmps66
      go_wp2_with fail
      refine (unhide NA _).mono ?_
      rintro e w1 ⟨rfl, rfl⟩
      go_wp2_with fail
      refine (unhide NB _).mono ?_
      rintro e w2 ⟨rfl, rfl⟩
      go_wp2
      go_ret
      exact ⟨by rw [unhide HC]; rfl, rfl⟩
theorem i64_of (x : Nat) (h : x < 18446744073709551616) : decide (wrap64 (x : Int) < 0) = sgn x := by
  unfold sgn
  by_cases h1 : 9223372036854775808 ≤ x
  · rw [decide_eq_true h1]
    have : wrap64 (x : Int) = x - 18446744073709551616 := by unfold wrap64; omega
    rw [this]
    simp
    omega
  · rw [decide_eq_false h1]
    have : wrap64 (x : Int) = x := by unfold wrap64; omega
    rw [this]
    simp
theorem sgn_ok (x : Nat) (w : World) (h : x < 18446744073709551616) : Calls Try.prog 67 #[.float .f64 x] w fun e w' => e = .returned (.bool (sgn x)) ∧ w = w' := by
  have T1 := run_tobits x w
  have hs := i64_of x h
  generalize sgn x = S at *
  go_enter Try.func67, Try.ntmps67
  go_wp2
  go_ret
  exact ⟨by first | rfl | (rw [← hs]; rfl), rfl⟩
theorem floats_ok (a b : Nat) (w : World) (ha : a < 18446744073709551616) (hb : b < 18446744073709551616) : Calls Try.prog 46 #[.float .f64 a, .float .f64 b] w fun e w' => e = .returned (.int .i64 (cFl a b)) ∧ w = w' := by
  have HS := hide (fun W => sameF_ok a b W ha hb)
  have HC := hide (fun W => cmpF_ok a b W ha hb)
  have H1 := hide (fun W => sgn_ok b W hb)
  have H2 := hide (fun W => sgn_ok a W ha)
  have HR := hide (show cFl a b = (if sameF a b = true then 0 else if cmpF a b = 0 then cBo (sgn b) (sgn a) else cmpF a b) from rfl)
  generalize cFl a b = R at *
  generalize sgn a = sa at *
  generalize sgn b = sb at *
  generalize sameF a b = S at *
  generalize cmpF a b = C at *
  clear ha hb
  cases S
  · by_cases hc : C = 0
    · have HR := hide ((unhide HR).trans (show _ = cBo sb sa by rw [if_neg (by simp), if_pos hc]))
      subst hc
      go_enter Try.func46, Try.ntmps46
      go_wp2_with fail
      refine (unhide HS _).mono ?_
      rintro e w1 ⟨rfl, rfl⟩
      go_wp2_with fail
      refine (unhide HC _).mono ?_
      rintro e w1 ⟨rfl, rfl⟩
      go_wp2_with fail
      refine (unhide H1 _).mono ?_
      rintro e w1 ⟨rfl, rfl⟩
      go_wp2_with fail
      refine (unhide H2 _).mono ?_
      rintro e w1 ⟨rfl, rfl⟩
      go_wp2_with fail
      refine (bools_ok sb sa _).mono ?_
      rintro e w1 ⟨rfl, rfl⟩
      go_wp2
      go_ret
      exact ⟨by rw [unhide HR]; rfl, rfl⟩
    · have HR := hide ((unhide HR).trans (show _ = C by rw [if_neg (by simp), if_neg hc]))
      go_enter Try.func46, Try.ntmps46
      go_wp2_with fail
      refine (unhide HS _).mono ?_
      rintro e w1 ⟨rfl, rfl⟩
      go_wp2_with fail
      refine (unhide HC _).mono ?_
      rintro e w1 ⟨rfl, rfl⟩
      go_wp2
      go_ret
      exact ⟨by rw [unhide HR]; rfl, rfl⟩
  · have HR := hide ((unhide HR).trans (show _ = (0 : Int) by rw [if_pos rfl]))
    go_enter Try.func46, Try.ntmps46
    go_wp2_with fail
    refine (unhide HS _).mono ?_
    rintro e w1 ⟨rfl, rfl⟩
    go_wp2
    go_ret
    exact ⟨by rw [unhide HR]; rfl, rfl⟩
end Go.Proofs.Ytiblkdedbimggaa.og
namespace Go.Proofs.Ytiblkdedbimggaa.og
open Go.ChangeShapes Go.WideShapes Go.ChangeAt Go.RowKit
open vl hiding cB cFl cS cF cI cK cIt
open stp (c3 c3_lt c3_gt c3_eq cB cB_tri)
set_option linter.unusedVariables false
set_option linter.unusedSimpArgs false
/-- order at two values -/
def OrdAt (v u : Vl) : Prop := ∀ (cs ds : List Value) (w : World), VlC w v cs → VlC w u ds → Calls Try.prog 27 #[.agg cs.toArray, .agg ds.toArray] w fun e w' => e = .returned (.int .i64 (ordV v u)) ∧ Gr w w'
def OrdMAt (p q : ByteArray × Vl) : Prop := ∀ (cs ds : List Value) (w : World), VlC w p.2 cs → VlC w q.2 ds → Calls Try.prog 50 #[.agg (Value.string p.1 :: cs).toArray, .agg (Value.string q.1 :: ds).toArray] w fun e w' => e = .returned (.int .i64 (ordM p q)) ∧ Gr w w'
set_option maxHeartbeats 2000000 in
theorem ordM_ok (p q : ByteArray × Vl) (ih : OrdAt p.2 q.2) : OrdMAt p q := by
  intro cs ds w h1 h2
  obtain ⟨nm, v⟩ := p
  obtain ⟨nm', u⟩ := q
  simp only at h1 h2 ih ⊢
  have IH := hide (ih cs ds)
  have HO := hide (show ordM (nm, v) (nm', u) = (if cB nm nm' = 0 then ordV v u else cB nm nm') from rfl)
  have c8 := h1.cells
  have d8 := h2.cells
  obtain ⟨W, eW⟩ : ∃ W, W = (w.alloc (.cells (Value.string nm :: cs).toArray 47)).alloc (.cells (Value.string nm' :: ds).toArray 47) := ⟨_, rfl⟩
  have bW : Gr w W := by rw [eW]; exact ((Gr.refl _).alloc _).alloc _
  have r1 : W.rangeAt w.heap.size 0 (Value.string nm :: cs) := fun j x hx => by
    rw [eW, Nat.zero_add, World.cell?_alloc_past _ _ _ (by simp), World.cell?_alloc_at _ _ _ _ rfl]; simpa using hx
  have r2 : W.rangeAt (w.heap.size + 1) 0 (Value.string nm' :: ds) := fun j x hx => by
    rw [eW, Nat.zero_add, World.cell?_alloc_at _ _ _ _ (by simp)]; simpa using hx
  have a0 : W.cell? ⟨w.heap.size, 0, none⟩ = some (.string nm) := r1 0 _ rfl
  have b0 : W.cell? ⟨w.heap.size + 1, 0, none⟩ = some (.string nm') := r2 0 _ rfl
  have k1 : W.rangeAt w.heap.size 1 cs := fun j x hx => by have := r1 (j + 1) x (by simpa using hx); rwa [show 0 + (j + 1) = 1 + j by omega] at this
  have k2 : W.rangeAt (w.heap.size + 1) 1 ds := fun j x hx => by have := r2 (j + 1) x (by simpa using hx); rwa [show 0 + (j + 1) = 1 + j by omega] at this
  have i1 : (Try.prog.info? 27).map (·.size) = some cs.length := by rw [c8]; exact infoV
  have i2 : (Try.prog.info? 27).map (·.size) = some ds.length := by rw [d8]; exact infoV
  have HH := hide (And.intro k1 (And.intro k2 (And.intro i1 (And.intro i2 (And.intro (VlC.below bW.1 _ _ h1) (VlC.below bW.1 _ _ h2))))))
  have EW := hide eW
  clear eW r1 r2 k1 k2 i1 i2 h1 h2 c8 d8 ih
  generalize hcb : cB nm nm' = C at *
  have HCB := hide hcb
  clear hcb
  by_cases hc : C = 0
  · have HO := hide ((unhide HO).trans (if_pos hc))
    have HCB := hide ((unhide HCB).trans hc)
    subst hc
    go_enter Try.func50, Try.ntmps50
    go_wp2_with fail
    rw [← unhide EW]
    clear EW
    refine (str_cmpE nm nm' _).mono ?_
    rintro e w1 ⟨rfl, rfl⟩
    rw [unhide HCB]
    go_wp2_with (first
      | refine wpList_load_mid (by rfl) 27 _ (by rfl) w.heap.size 1 (by rfl) cs _ (unhide HH).1 Try.underlying27 (by rfl) (unhide HH).2.2.1 ?_
      | refine wpList_load_mid (by rfl) 27 _ (by rfl) (w.heap.size + 1) 1 (by rfl) ds _ (unhide HH).2.1 Try.underlying27 (by rfl) (unhide HH).2.2.2.1 ?_)
    refine (unhide IH _ (unhide HH).2.2.2.2.1 (unhide HH).2.2.2.2.2).mono ?_
    rintro e w2 ⟨rfl, g2⟩
    go_wp2
    go_ret
    exact ⟨by rw [unhide HO]; rfl, bW.trans g2⟩
  · have HO := hide ((unhide HO).trans (if_neg hc))
    have hc2 : (C != 0) = true := by simpa using hc
    go_enter Try.func50, Try.ntmps50
    go_wp2_with fail
    rw [← unhide EW]
    clear EW
    refine (str_cmpE nm nm' _).mono ?_
    rintro e w1 ⟨rfl, rfl⟩
    rw [unhide HCB]
    go_wp2
    go_ret
    exact ⟨by rw [unhide HO]; rfl, bW⟩
set_option maxHeartbeats 4000000 in
set_option maxRecDepth 6000 in
theorem cmpV_ok (A B : Vls) (ih : ∀ v ∈ A.list, ∀ u ∈ B.list, OrdAt v u) (aA aB : Option Addr) (nA cA nB cB' : Nat) (w : World) (hA : VlsAt w A aA nA) (hB : VlsAt w B aB nB) (bA : nA ≤ 4611686018427387903) (bB : nB ≤ 4611686018427387903) :
    Calls Try.prog 48 #[.slice aA nA cA, .slice aB nB cB', .func (.func 27) #[] #[]] w fun e w' => e = .returned (.int .i64 (lexG ordV A.list B.list)) ∧ Gr w w' := by
  have en : ∀ args w, (callFunc 27 args).run Try.prog w = .ok (.enter 27 args) w := fun _ _ => rfl
  have lA := hide (VlsAt.len A _ _ hA)
  have lB := hide (VlsAt.len B _ _ hB)
  go_enter Try.func48, Try.ntmps48
  go_wp2_with fail
  go_loopw [13] (fun v wr => ∃ k : Nat, k ≤ nA ∧ k ≤ nB ∧ v = .int .i64 k ∧ Gr w wr ∧ vl.Hid (lexG ordV A.list B.list = lexG ordV (A.list.drop k) (B.list.drop k))) (fun v _ => nA - (intOf v).toNat)
  case atStart => exact ⟨0, Nat.zero_le _, Nat.zero_le _, rfl, Gr.refl _, rfl⟩
  case round =>
    obtain ⟨k, hkA, hkB, rfl, hbk, hl⟩ := hrel
    by_cases hlt : k < nA
    · have ki : (k : Int) < (nA : Int) := by omega
      obtain ⟨b, off, v, cs, rfl, hg, hr, hv⟩ := VlsAt.get A _ _ (VlsAt.below hbk.1 A _ _ hA) k hlt
      have hr : wr.rangeAt b (off + k * 8) cs := hr
      have h1 := hv.one
      have c8 := hv.cells
      have i1 : (Try.prog.info? 27).map (·.size) = some cs.length := by rw [c8]; exact infoV
      have i2 : (Try.prog.info? 27).map (·.size) = some cs.toArray.size := by simp [c8, infoV]
      have HH := hide (And.intro i1 (And.intro i2 (And.intro (show cs.toArray.size = 8 by simp [c8]) c8)))
      clear i1 i2 c8
      by_cases hlb : k < nB
      · have kb : (k : Int) < (nB : Int) := by omega
        obtain ⟨b', off', u, ds, rfl, hg', hr', hv'⟩ := VlsAt.get B _ _ (VlsAt.below hbk.1 B _ _ hB) k hlb
        have g1 := hv'.one
        have d8 := hv'.cells
        have j1 : (Try.prog.info? 27).map (·.size) = some ds.length := by rw [d8]; exact infoV
        have j2 : (Try.prog.info? 27).map (·.size) = some ds.toArray.size := by simp [d8, infoV]
        obtain ⟨W, eW⟩ : ∃ W, W = (wr.alloc (.cells #[Value.int IntKind.i64 0, Value.bool false, Value.int IntKind.i64 0, Value.float FloatKind.f64 0, Value.string { data := #[] }, Value.string { data := #[] }, Value.slice none 0 0, Value.slice none 0 0] 27)).setCells wr.heap.size 0 cs := ⟨_, rfl⟩
        have bW : Gr wr W := by rw [eW]; exact ((Gr.refl _).alloc _).setCells (Nat.le_refl _) _ _
        have sW : W.heap.size = wr.heap.size + 1 := by rw [eW, size_setCells]; simp
        have rW : W.rangeAt wr.heap.size 0 cs := by rw [eW]; exact World.rangeAt_setCells_same _ _ _ _ (there_new (by show _ = cs.length; rw [(unhide HH).2.2.2]; rfl))
        have rW' : W.rangeAt b' (off' + k * 8) ds := Row8.below hr' bW.1
        have vW := VlC.below bW.1 _ _ hv
        have vW' := VlC.below bW.1 _ _ hv'
        obtain ⟨X, eX⟩ : ∃ X, X = (W.alloc (.cells #[Value.int IntKind.i64 0, Value.bool false, Value.int IntKind.i64 0, Value.float FloatKind.f64 0, Value.string { data := #[] }, Value.string { data := #[] }, Value.slice none 0 0, Value.slice none 0 0] 27)).setCells W.heap.size 0 ds := ⟨_, rfl⟩
        have bX : Gr W X := by rw [eX]; exact ((Gr.refl _).alloc _).setCells (Nat.le_refl _) _ _
        have rX : X.rangeAt W.heap.size 0 ds := by rw [eX]; exact World.rangeAt_setCells_same _ _ _ _ (there_new (by show _ = ds.length; rw [d8]; rfl))
        have rX' : X.rangeAt wr.heap.size 0 cs := Row8.below rW bX.1
        have IH := hide (ih v (List.mem_of_getElem? hg) u (List.mem_of_getElem? hg') cs ds X (VlC.below bX.1 _ _ vW) (VlC.below bX.1 _ _ vW'))
        have HS := hide (lexG_step (f := ordV) hg hg')
        have EW := hide eW
        have EX := hide eX
        have SW := hide sW
        have JJ := hide (And.intro j1 (And.intro j2 (And.intro (show ds.toArray.size = 8 by simp [d8]) d8)))
        have RR := hide (And.intro rW' (And.intro rX rX'))
        clear eW eX sW vW vW' j1 j2 d8 hv hv' rW hr' hg hg' rW' rX rX'
        go_wp2_with (first
          | (refine wpList_load_mid (by rfl) 27 _ (by rfl) b (off + k * 8) (by rfl) cs _ hr Try.underlying27 (by rfl) (unhide HH).1 ?_)
          | (refine wpList_store_mid (by rfl) 27 _ _ (by rfl) wr.heap.size 0 cs.toArray (by rfl) (by rfl) (there_new (by rw [(unhide HH).2.2.1]; rfl)) (unhide HH).2.1 h1 ?_; rw [show ((wr.alloc (.cells #[Value.int IntKind.i64 0, Value.bool false, Value.int IntKind.i64 0, Value.float FloatKind.f64 0, Value.string { data := #[] }, Value.string { data := #[] }, Value.slice none 0 0, Value.slice none 0 0] 27)).setCells wr.heap.size 0 cs.toArray.toList) = W from (unhide EW).symm]; clear hr)
          | (refine wpList_load_mid (by rfl) 27 _ (by rfl) b' (off' + k * 8) (by rfl) ds _ (unhide RR).1 Try.underlying27 (by rfl) (unhide JJ).1 ?_)
          | (refine wpList_store_mid (by rfl) 27 _ _ (by rfl) W.heap.size 0 ds.toArray (by rfl) (by rfl) (there_new (by rw [(unhide JJ).2.2.1]; rfl)) (unhide JJ).2.1 g1 ?_; rw [show ((W.alloc (.cells #[Value.int IntKind.i64 0, Value.bool false, Value.int IntKind.i64 0, Value.float FloatKind.f64 0, Value.string { data := #[] }, Value.string { data := #[] }, Value.slice none 0 0, Value.slice none 0 0] 27)).setCells W.heap.size 0 ds.toArray.toList) = X from (unhide EX).symm])
          | (refine wpList_load_mid (by rfl) 27 _ (by rfl) wr.heap.size 0 (by rfl) cs _ (unhide RR).2.2 Try.underlying27 (by rfl) (unhide HH).1 ?_)
          | (refine wpList_load_mid (by rfl) 27 _ (by rfl) W.heap.size 0 (by rfl) ds _ (unhide RR).2.1 Try.underlying27 (by rfl) (unhide JJ).1 ?_))
        refine (unhide IH).mono ?_
        rintro e w2 ⟨rfl, g2⟩
        have G2 : Gr w w2 := hbk.trans (bW.trans (bX.trans g2))
        by_cases hc : ordV v u = 0
        · have hc2 := hide hc
          rw [hc]
          clear hc
          go_wp2
          go_roundw
          case rel => exact ⟨k + 1, by omega, by omega, by go_num, G2, (unhide hl).trans ((unhide HS).trans (if_pos (unhide hc2)))⟩
          case measure => simp [intOf]; omega
        · have hc2 := hide hc
          generalize hcv : ordV v u = cv at *
          have hcv := hide hcv
          go_wp2
          go_ret
          exact ⟨by rw [unhide hl, unhide HS, if_neg (unhide hc2)]; rfl, G2⟩
      · have kb : ¬ (k : Int) < (nB : Int) := by omega
        go_wp2_with (first
          | (refine wpList_load_mid (by rfl) 27 _ (by rfl) b (off + k * 8) (by rfl) cs _ hr Try.underlying27 (by rfl) (unhide HH).1 ?_)
          | (refine wpList_store_mid (by rfl) 27 _ _ (by rfl) wr.heap.size 0 cs.toArray (by rfl) (by rfl) (there_new (by rw [(unhide HH).2.2.1]; rfl)) (unhide HH).2.1 h1 ?_))
        go_ret
        exact ⟨by rw [unhide hl, lexG_end2 (by rw [unhide lA]; exact hlt) (by rw [unhide lB]; omega)]; rfl, (hbk.alloc _).setCells hbk.1.size _ _⟩
    · have ki : ¬ (k : Int) < (nA : Int) := by omega
      by_cases hlb : k < nB
      · have kb : (nA : Int) < (nB : Int) := by omega
        go_wp2
        go_ret
        exact ⟨by rw [unhide hl, lexG_end1 (by rw [unhide lA]; omega) (by rw [unhide lB]; exact hlb)]; rfl, hbk⟩
      · have kb : ¬ (nA : Int) < (nB : Int) := by omega
        go_wp2
        go_ret
        exact ⟨by rw [unhide hl, lexG_end0 (by rw [unhide lA]; omega) (by rw [unhide lB]; omega)]; rfl, hbk⟩
end Go.Proofs.Ytiblkdedbimggaa.og
namespace Go.Proofs.Ytiblkdedbimggaa.og
open Go.ChangeShapes Go.WideShapes Go.ChangeAt Go.RowKit
open vl hiding cB cFl cS cF cI cK cIt
open stp (c3 c3_lt c3_gt c3_eq cB cB_tri)
set_option linter.unusedVariables false
set_option linter.unusedSimpArgs false
set_option maxHeartbeats 4000000 in
set_option maxRecDepth 6000 in
theorem cmpM_ok (A B : Fls) (ih : ∀ v ∈ A.list, ∀ u ∈ B.list, OrdMAt v u) (aA aB : Option Addr) (nA cA nB cB' : Nat) (w : World) (hA : FlsAt w A aA nA) (hB : FlsAt w B aB nB) (bA : nA ≤ 4611686018427387903) (bB : nB ≤ 4611686018427387903) :
    Calls Try.prog 49 #[.slice aA nA cA, .slice aB nB cB', .func (.func 50) #[] #[]] w fun e w' => e = .returned (.int .i64 (lexG ordM A.list B.list)) ∧ Gr w w' := by
  have en : ∀ args w, (callFunc 50 args).run Try.prog w = .ok (.enter 50 args) w := fun _ _ => rfl
  have lA := hide (FlsAt.len A _ _ hA)
  have lB := hide (FlsAt.len B _ _ hB)
  go_enter Try.func49, Try.ntmps49
  go_wp2_with fail
  go_loopw [13] (fun v wr => ∃ k : Nat, k ≤ nA ∧ k ≤ nB ∧ v = .int .i64 k ∧ Gr w wr ∧ vl.Hid (lexG ordM A.list B.list = lexG ordM (A.list.drop k) (B.list.drop k))) (fun v _ => nA - (intOf v).toNat)
  case atStart => exact ⟨0, Nat.zero_le _, Nat.zero_le _, rfl, Gr.refl _, rfl⟩
  case round =>
    obtain ⟨k, hkA, hkB, rfl, hbk, hl⟩ := hrel
    by_cases hlt : k < nA
    · have ki : (k : Int) < (nA : Int) := by omega
      obtain ⟨b, off, nm, v, cs, rfl, hg, hn0, -, hr, hv⟩ := FlsAt.get A _ _ (FlsAt.below hbk.1 A _ _ hA) k hlt
      have hr : wr.rangeAt b (off + k * 9) (Value.string nm :: cs) := row9 hr hn0
      have h1 := one9 nm hv
      have c8 := hv.cells
      have i1 : (Try.prog.info? 47).map (·.size) = some (Value.string nm :: cs).length := by rw [List.length_cons, c8]; exact infoM
      have i2 : (Try.prog.info? 47).map (·.size) = some (Value.string nm :: cs).toArray.size := by simp [c8, infoM]
      have HH := hide (And.intro i1 (And.intro i2 (And.intro (show (Value.string nm :: cs).toArray.size = 9 by simp [c8]) (show (Value.string nm :: cs).length = 9 by simp [c8]))))
      clear i1 i2 c8
      by_cases hlb : k < nB
      · have kb : (k : Int) < (nB : Int) := by omega
        obtain ⟨b', off', nm', u, ds, rfl, hg', hn0', -, hr', hv'⟩ := FlsAt.get B _ _ (FlsAt.below hbk.1 B _ _ hB) k hlb
        have g1 := one9 nm' hv'
        have d8 := hv'.cells
        have j1 : (Try.prog.info? 47).map (·.size) = some (Value.string nm' :: ds).length := by rw [List.length_cons, d8]; exact infoM
        have j2 : (Try.prog.info? 47).map (·.size) = some (Value.string nm' :: ds).toArray.size := by simp [d8, infoM]
        obtain ⟨W, eW⟩ : ∃ W, W = (wr.alloc (.cells #[Value.string { data := #[] }, Value.int IntKind.i64 0, Value.bool false, Value.int IntKind.i64 0, Value.float FloatKind.f64 0, Value.string { data := #[] }, Value.string { data := #[] }, Value.slice none 0 0, Value.slice none 0 0] 47)).setCells wr.heap.size 0 (Value.string nm :: cs) := ⟨_, rfl⟩
        have bW : Gr wr W := by rw [eW]; exact ((Gr.refl _).alloc _).setCells (Nat.le_refl _) _ _
        have sW : W.heap.size = wr.heap.size + 1 := by rw [eW, size_setCells]; simp
        have rW : W.rangeAt wr.heap.size 0 (Value.string nm :: cs) := by rw [eW]; exact World.rangeAt_setCells_same _ _ _ _ (there_new (by show _ = (Value.string nm :: cs).length; rw [(unhide HH).2.2.2]; rfl))
        have rW' : W.rangeAt b' (off' + k * 9) (Value.string nm' :: ds) := Row8.below (row9 hr' hn0') bW.1
        have vW := VlC.below bW.1 _ _ hv
        have vW' := VlC.below bW.1 _ _ hv'
        obtain ⟨X, eX⟩ : ∃ X, X = (W.alloc (.cells #[Value.string { data := #[] }, Value.int IntKind.i64 0, Value.bool false, Value.int IntKind.i64 0, Value.float FloatKind.f64 0, Value.string { data := #[] }, Value.string { data := #[] }, Value.slice none 0 0, Value.slice none 0 0] 47)).setCells W.heap.size 0 (Value.string nm' :: ds) := ⟨_, rfl⟩
        have bX : Gr W X := by rw [eX]; exact ((Gr.refl _).alloc _).setCells (Nat.le_refl _) _ _
        have rX : X.rangeAt W.heap.size 0 (Value.string nm' :: ds) := by rw [eX]; exact World.rangeAt_setCells_same _ _ _ _ (there_new (by show _ = (Value.string nm' :: ds).length; rw [List.length_cons, d8]; rfl))
        have rX' : X.rangeAt wr.heap.size 0 (Value.string nm :: cs) := Row8.below rW bX.1
        have IH := hide (ih (nm, v) (List.mem_of_getElem? hg) (nm', u) (List.mem_of_getElem? hg') cs ds X (VlC.below bX.1 _ _ vW) (VlC.below bX.1 _ _ vW'))
        have HS := hide (lexG_step (f := ordM) hg hg')
        have EW := hide eW
        have EX := hide eX
        have SW := hide sW
        have JJ := hide (And.intro j1 (And.intro j2 (And.intro (show (Value.string nm' :: ds).toArray.size = 9 by simp [d8]) (show (Value.string nm' :: ds).length = 9 by simp [d8]))))
        have RR := hide (And.intro rW' (And.intro rX rX'))
        clear eW eX sW vW vW' hn0' j1 j2 d8 hv hv' rW hr' hg hg' rW' rX rX'
        go_wp2_with (first
          | (refine wpList_load_mid (by rfl) 47 _ (by rfl) b (off + k * 9) (by rfl) (Value.string nm :: cs) _ hr Try.underlying47 (by rfl) (unhide HH).1 ?_)
          | (refine wpList_store_mid (by rfl) 47 _ _ (by rfl) wr.heap.size 0 (Value.string nm :: cs).toArray (by rfl) (by rfl) (there_new (by rw [(unhide HH).2.2.1]; rfl)) (unhide HH).2.1 h1 ?_; rw [show ((wr.alloc (.cells #[Value.string { data := #[] }, Value.int IntKind.i64 0, Value.bool false, Value.int IntKind.i64 0, Value.float FloatKind.f64 0, Value.string { data := #[] }, Value.string { data := #[] }, Value.slice none 0 0, Value.slice none 0 0] 47)).setCells wr.heap.size 0 (Value.string nm :: cs).toArray.toList) = W from (unhide EW).symm]; clear hr)
          | (refine wpList_load_mid (by rfl) 47 _ (by rfl) b' (off' + k * 9) (by rfl) (Value.string nm' :: ds) _ (unhide RR).1 Try.underlying47 (by rfl) (unhide JJ).1 ?_)
          | (refine wpList_store_mid (by rfl) 47 _ _ (by rfl) W.heap.size 0 (Value.string nm' :: ds).toArray (by rfl) (by rfl) (there_new (by rw [(unhide JJ).2.2.1]; rfl)) (unhide JJ).2.1 g1 ?_; rw [show ((W.alloc (.cells #[Value.string { data := #[] }, Value.int IntKind.i64 0, Value.bool false, Value.int IntKind.i64 0, Value.float FloatKind.f64 0, Value.string { data := #[] }, Value.string { data := #[] }, Value.slice none 0 0, Value.slice none 0 0] 47)).setCells W.heap.size 0 (Value.string nm' :: ds).toArray.toList) = X from (unhide EX).symm])
          | (refine wpList_load_mid (by rfl) 47 _ (by rfl) wr.heap.size 0 (by rfl) (Value.string nm :: cs) _ (unhide RR).2.2 Try.underlying47 (by rfl) (unhide HH).1 ?_)
          | (refine wpList_load_mid (by rfl) 47 _ (by rfl) W.heap.size 0 (by rfl) (Value.string nm' :: ds) _ (unhide RR).2.1 Try.underlying47 (by rfl) (unhide JJ).1 ?_))
        refine (unhide IH).mono ?_
        rintro e w2 ⟨rfl, g2⟩
        have G2 : Gr w w2 := hbk.trans (bW.trans (bX.trans g2))
        by_cases hc : ordM (nm, v) (nm', u) = 0
        · have hc2 := hide hc
          rw [hc]
          clear hc
          go_wp2
          go_roundw
          case rel => exact ⟨k + 1, by omega, by omega, by go_num, G2, (unhide hl).trans ((unhide HS).trans (if_pos (unhide hc2)))⟩
          case measure => simp [intOf]; omega
        · have hc2 := hide hc
          generalize hcv : ordM (nm, v) (nm', u) = cv at *
          have hcv := hide hcv
          go_wp2
          go_ret
          exact ⟨by rw [unhide hl, unhide HS, if_neg (unhide hc2)]; rfl, G2⟩
      · have kb : ¬ (k : Int) < (nB : Int) := by omega
        go_wp2_with (first
          | (refine wpList_load_mid (by rfl) 47 _ (by rfl) b (off + k * 9) (by rfl) (Value.string nm :: cs) _ hr Try.underlying47 (by rfl) (unhide HH).1 ?_)
          | (refine wpList_store_mid (by rfl) 47 _ _ (by rfl) wr.heap.size 0 (Value.string nm :: cs).toArray (by rfl) (by rfl) (there_new (by rw [(unhide HH).2.2.1]; rfl)) (unhide HH).2.1 h1 ?_))
        go_ret
        exact ⟨by rw [unhide hl, lexG_end2 (by rw [unhide lA]; exact hlt) (by rw [unhide lB]; omega)]; rfl, (hbk.alloc _).setCells hbk.1.size _ _⟩
    · have ki : ¬ (k : Int) < (nA : Int) := by omega
      by_cases hlb : k < nB
      · have kb : (nA : Int) < (nB : Int) := by omega
        go_wp2
        go_ret
        exact ⟨by rw [unhide hl, lexG_end1 (by rw [unhide lA]; omega) (by rw [unhide lB]; exact hlb)]; rfl, hbk⟩
      · have kb : ¬ (nA : Int) < (nB : Int) := by omega
        go_wp2
        go_ret
        exact ⟨by rw [unhide hl, lexG_end0 (by rw [unhide lA]; omega) (by rw [unhide lB]; omega)]; rfl, hbk⟩
end Go.Proofs.Ytiblkdedbimggaa.og
namespace Go.Proofs.Ytiblkdedbimggaa.og
open Go.ChangeShapes Go.WideShapes Go.ChangeAt Go.RowKit
open vl hiding cB cFl cS cF cI cK cIt
open stp (c3 c3_lt c3_gt c3_eq cB cB_tri)
set_option linter.unusedVariables false
set_option linter.unusedSimpArgs false
theorem c3_zero {x t : Int} (h : c3 x t = 0) : x = t := by
  unfold c3 at h
  split at h
  · omega
  · split at h <;> omega
def orH (x y : Int) : Int := if x = 0 then y else x
theorem cmpOr_okH (x y : Int) (b : Nat) (w : World) (h0 : w.cell? ⟨b, 0, none⟩ = some (.int .i64 x)) (h1 : w.cell? ⟨b, 1, none⟩ = some (.int .i64 y)) : Calls Try.prog 51 #[.slice (some ⟨b, 0, none⟩) 2 2] w fun e w' => e = .returned (.int .i64 (orH x y)) ∧ w = w' := cmpOr_ok x y b w h0 h1
theorem build2I (x y : Int) (w : World) : (Instr.buildSlice 90 2 #[(0, .int .i64 x), (1, .int .i64 y)]).run Try.prog w = .ok (.slice (some ⟨w.heap.size, 0, none⟩) 2 2) (w.alloc (.cells #[.int .i64 x, .int .i64 y] 3)) := by
  go_simp
set_option maxHeartbeats 8000000 in
set_option maxRecDepth 6000 in
theorem order_ok : ∀ v : Vl, Small v → ∀ u : Vl, Small u → OrdAt v u := by
  refine Vl.all ?_
  intro kd b n f tx ty its fls ihI ihF hsm u hsu cs ds w h1 h2
  obtain ⟨kd', b', n', f', tx', ty', its', fls'⟩ := u
  have K1 := hide (fun W : World => kindOf_ok _ cs W w h1)
  have K2 := hide (fun W : World => kindOf_ok _ ds W w h2)
  unfold Small at hsm hsu
  obtain ⟨hlI, hlF, hfl, hsI, hsF⟩ := hsm
  obtain ⟨hlI', hlF', hfl', hsI', hsF'⟩ := hsu
  have FL := hide (fun W : World => floats_ok f f' W hfl hfl')
  have hV : ordV (.mk kd b n f tx ty its fls) (.mk kd' b' n' f' tx' ty' its' fls') = if c3 (kdOf kd) (kdOf kd') = 0 then
      (if kdOf kd = 1 then cBo b b' else if kdOf kd = 2 then c3 n n' else if kdOf kd = 3 then cFl f f' else if kdOf kd = 4 then cB tx tx' else if kdOf kd = 5 then ordI its its' else if kdOf kd = 6 then ordF fls fls' else if kdOf kd = 7 then (if cB ty ty' = 0 then cB tx tx' else cB ty ty') else 0)
    else c3 (kdOf kd) (kdOf kd') := by rw [ordV]
  rw [ordI_lex, ordF_lex] at hV
  have HV := hide hV
  have c8 := h1.cells
  have d8 := h2.cells
  have i1 : (Try.prog.info? 27).map (·.size) = some cs.length := by rw [c8]; exact infoV
  have i2 : (Try.prog.info? 27).map (·.size) = some ds.length := by rw [d8]; exact infoV
  obtain ⟨W, eW⟩ : ∃ W, W = (w.alloc (.cells cs.toArray 27)).alloc (.cells ds.toArray 27) := ⟨_, rfl⟩
  have bW : Gr w W := by rw [eW]; exact ((Gr.refl _).alloc _).alloc _
  have sW : w.heap.size + 1 < W.heap.size := by rw [eW]; simp
  have r1 : W.rangeAt w.heap.size 0 cs := fun j x hx => by
    rw [eW, Nat.zero_add, World.cell?_alloc_past _ _ _ (by simp), World.cell?_alloc_at _ _ _ _ rfl]; simpa using hx
  have r2 : W.rangeAt (w.heap.size + 1) 0 ds := fun j x hx => by
    rw [eW, Nat.zero_add, World.cell?_alloc_at _ _ _ _ (by simp)]; simpa using hx
  have EW := hide eW
  clear eW
  have HK : kdV (.mk kd b n f tx ty its fls) = kdOf kd := rfl
  have HK' : kdV (.mk kd' b' n' f' tx' ty' its' fls') = kdOf kd' := rfl
  rw [HK] at K1
  rw [HK'] at K2
  clear HK HK' hV hfl hfl' c8 d8
  have hrng := kdOf_rng kd
  generalize kdOf kd = K at *
  generalize kdOf kd' = K' at *
  generalize hOV : ordV (.mk kd b n f tx ty its fls) (.mk kd' b' n' f' tx' ty' its' fls') = OV at *
  clear hOV
  have HR := hide (And.intro r1 (And.intro r2 (And.intro i1 i2)))
  have HC := hide (And.intro h1 h2)
  clear r1 r2 i1 i2 h1 h2
  go_enter Try.func27, Try.ntmps27
  go_wp2_with (first
    | (rw [← unhide EW]; refine wpList_load_mid (by rfl) 27 _ (by rfl) w.heap.size 0 (by rfl) cs _ (unhide HR).1 Try.underlying27 (by rfl) (unhide HR).2.2.1 ?_))
  clear EW
  refine (unhide K1 _).mono ?_
  rintro e w1 ⟨rfl, g1⟩
  have R2 : w1.rangeAt (w.heap.size + 1) 0 ds := Row8.below (unhide HR).2.1 g1.1
  go_wp2_with (first
    | refine wpList_load_mid (by rfl) 27 _ (by rfl) (w.heap.size + 1) 0 (by rfl) ds _ R2 Try.underlying27 (by rfl) (unhide HR).2.2.2 ?_)
  refine (unhide K2 _).mono ?_
  rintro e w2 ⟨rfl, g2⟩
  go_wp2_with fail
  refine (kind_cmp K K' _).mono ?_
  rintro e w3 ⟨rfl, rfl⟩
  have G := g1.trans g2
  have GW := bW.trans G
  have Q1 : w2.rangeAt w.heap.size 0 cs := Row8.below (unhide HR).1 G.1
  have Q2 : w2.rangeAt (w.heap.size + 1) 0 ds := Row8.below (unhide HR).2.1 G.1
  have v1 := VlC.below GW.1 _ _ (unhide HC).1
  have v2 := VlC.below GW.1 _ _ (unhide HC).2
  clear R2 HR HC K1 K2
  unfold VlC at v1 v2
  obtain ⟨ai, ni, ci, af, nf, cf, rfl, hI, hF, hni, hnf, -, -, -, -, -, -, hci, hcf⟩ := v1
  obtain ⟨bi, mi, di, bf, mf, df, rfl, gI, gF, hmi, hmf, -, -, -, -, -, -, hdi, hdf⟩ := v2
  unfold maxLen at hci hcf hdi hdf
  have x1 := Q1 1 _ rfl
  have x2 := Q1 2 _ rfl
  have x3 := Q1 3 _ rfl
  have x4 := Q1 4 _ rfl
  have x5 := Q1 5 _ rfl
  have x6 := Q1 6 _ rfl
  have x7 := Q1 7 _ rfl
  have y1 := Q2 1 _ rfl
  have y2 := Q2 2 _ rfl
  have y3 := Q2 3 _ rfl
  have y4 := Q2 4 _ rfl
  have y5 := Q2 5 _ rfl
  have y6 := Q2 6 _ rfl
  have y7 := Q2 7 _ rfl
  simp only [Nat.zero_add] at x1 x2 x3 x4 x5 x6 x7 y1 y2 y3 y4 y5 y6 y7
  clear Q1 Q2
  by_cases hc : c3 K K' = 0
  · have HV := hide ((unhide HV).trans (if_pos hc))
    rw [hc]
    clear hc
    rcases hrng with rfl | rfl | rfl | rfl | rfl | rfl | rfl | rfl
    · have HV := hide ((unhide HV).trans (show _ = (0 : Int) by simp))
      go_wp2
      go_ret
      exact ⟨by rw [unhide HV]; rfl, GW⟩
    · have HV := hide ((unhide HV).trans (show _ = cBo b b' by simp))
      go_wp2_with fail
      refine (bools_ok b b' _).mono ?_
      rintro e w3 ⟨rfl, rfl⟩
      go_wp2
      go_ret
      exact ⟨by rw [unhide HV]; rfl, GW⟩
    · have HV := hide ((unhide HV).trans (show _ = c3 n n' by simp))
      go_wp2_with fail
      refine (i64_cmp n n' _).mono ?_
      rintro e w3 ⟨rfl, rfl⟩
      go_wp2
      go_ret
      exact ⟨by rw [unhide HV]; rfl, GW⟩
    · have HV := hide ((unhide HV).trans (show _ = cFl f f' by simp))
      go_wp2_with fail
      refine (unhide FL _).mono ?_
      rintro e w3 ⟨rfl, rfl⟩
      go_wp2
      go_ret
      exact ⟨by rw [unhide HV]; rfl, GW⟩
    · have HV := hide ((unhide HV).trans (show _ = cB tx tx' by simp))
      go_wp2_with fail
      refine (str_cmpE tx tx' _).mono ?_
      rintro e w3 ⟨rfl, rfl⟩
      go_wp2
      go_ret
      exact ⟨by rw [unhide HV]; rfl, GW⟩
    · have HV := hide ((unhide HV).trans (show _ = lexG ordV its.list its'.list by simp))
      go_wp2_with fail
      refine (cmpV_ok its its' (fun x hx y hy => ihI x hx (hsI.all x hx) y (hsI'.all y hy)) ai bi ni ci mi di _ hI gI (by rw [← VlsAt.len its _ _ hI]; omega) (by rw [← VlsAt.len its' _ _ gI]; omega)).mono ?_
      rintro e w3 ⟨rfl, g3⟩
      go_wp2
      go_ret
      exact ⟨by rw [unhide HV]; rfl, GW.trans g3⟩
    · have HV := hide ((unhide HV).trans (show _ = lexG ordM fls.list fls'.list by simp))
      go_wp2_with fail
      refine (cmpM_ok fls fls' (fun x hx y hy => ordM_ok x y (ihF x hx (hsF.all x hx) y.2 (hsF'.all y hy))) af bf nf cf mf df _ hF gF (by rw [← FlsAt.len fls _ _ hF]; omega) (by rw [← FlsAt.len fls' _ _ gF]; omega)).mono ?_
      rintro e w3 ⟨rfl, g3⟩
      go_wp2
      go_ret
      exact ⟨by rw [unhide HV]; rfl, GW.trans g3⟩
    · have HV := hide ((unhide HV).trans (show _ = orH (cB ty ty') (cB tx tx') by simp [orH]))
      have lx : w.heap.size < w2.heap.size := Nat.lt_of_lt_of_le (show w.heap.size < W.heap.size by omega) G.1.size
      have ly : w.heap.size + 1 < w2.heap.size := Nat.lt_of_lt_of_le sW G.1.size
      go_wp2_with fail
      have hS0 : Gr w2 { w2 with drawn := w2.drawn + 1 } := (Gr.refl _).drew
      refine wp_region_noPanic ?_
      refine wp_region_held (S := fun w' => Gr w2 w') mixed ?_
      refine wpAnyH_take (i := 0) (v := ?v1) rfl (by kernel_rfl) (by kernel_rfl) (by kernel_rfl) (fun _ _ _ h => h) (Or.inl ⟨by rfl, ?hy1⟩) hS0 ?_
      case hy1 => (intro w' hw'; have c5 := keepC hw'.1 lx x5; have d5 := keepC hw'.1 ly y5; go_simp; try with_reducible rfl)
      simp only [List.getElem_toArray, List.getElem_cons_zero, List.getElem_cons_succ, Act.put, List.setIfInBounds_toArray, List.set_cons_zero, List.set_cons_succ]
      refine wpAnyH_take (i := 1) (v := ?v2) rfl (by kernel_rfl) (by kernel_rfl) (by kernel_rfl) (fun _ _ _ h => h) (Or.inl ⟨by rfl, ?hy2⟩) hS0 ?_
      case hy2 => (intro w' hw'; have c5 := keepC hw'.1 lx x5; have d5 := keepC hw'.1 ly y5; go_simp; try with_reducible rfl)
      simp only [List.getElem_toArray, List.getElem_cons_zero, List.getElem_cons_succ, Act.put, List.setIfInBounds_toArray, List.set_cons_zero, List.set_cons_succ]
      refine wpAnyH_take (i := 2) (v := ?v3) rfl (by kernel_rfl) (by kernel_rfl) (by kernel_rfl) (fun _ _ _ h => h) (Or.inl ⟨by rfl, ?hy3⟩) hS0 ?_
      case hy3 => (intro w' hw'; have c5 := keepC hw'.1 lx x5; have d5 := keepC hw'.1 ly y5; go_simp; try with_reducible rfl)
      simp only [List.getElem_toArray, List.getElem_cons_zero, List.getElem_cons_succ, Act.put, List.setIfInBounds_toArray, List.set_cons_zero, List.set_cons_succ]
      refine wpAnyH_take (i := 3) (v := ?v4) rfl (by kernel_rfl) (by kernel_rfl) (by kernel_rfl) (fun _ _ _ h => h) (Or.inl ⟨by rfl, ?hy4⟩) hS0 ?_
      case hy4 => (intro w' hw'; have c5 := keepC hw'.1 lx x5; have d5 := keepC hw'.1 ly y5; go_simp; try with_reducible rfl)
      simp only [List.getElem_toArray, List.getElem_cons_zero, List.getElem_cons_succ, Act.put, List.setIfInBounds_toArray, List.set_cons_zero, List.set_cons_succ]
      refine wpAnyH_take (i := 5) (v := ?v5) rfl (by kernel_rfl) (by kernel_rfl) (by kernel_rfl) (fun _ _ _ h => h) (Or.inl ⟨by rfl, ?hy5⟩) hS0 ?_
      case hy5 => (intro w' hw'; have c4 := keepC hw'.1 lx x4; have d4 := keepC hw'.1 ly y4; go_simp; try with_reducible rfl)
      simp only [List.getElem_toArray, List.getElem_cons_zero, List.getElem_cons_succ, Act.put, List.setIfInBounds_toArray, List.set_cons_zero, List.set_cons_succ]
      refine wpAnyH_take (i := 6) (v := ?v6) rfl (by kernel_rfl) (by kernel_rfl) (by kernel_rfl) (fun _ _ _ h => h) (Or.inl ⟨by rfl, ?hy6⟩) hS0 ?_
      case hy6 => (intro w' hw'; have c4 := keepC hw'.1 lx x4; have d4 := keepC hw'.1 ly y4; go_simp; try with_reducible rfl)
      simp only [List.getElem_toArray, List.getElem_cons_zero, List.getElem_cons_succ, Act.put, List.setIfInBounds_toArray, List.set_cons_zero, List.set_cons_succ]
      refine wpAnyH_take (i := 7) (v := ?v7) rfl (by kernel_rfl) (by kernel_rfl) (by kernel_rfl) (fun _ _ _ h => h) (Or.inl ⟨by rfl, ?hy7⟩) hS0 ?_
      case hy7 => (intro w' hw'; have c4 := keepC hw'.1 lx x4; have d4 := keepC hw'.1 ly y4; go_simp; try with_reducible rfl)
      simp only [List.getElem_toArray, List.getElem_cons_zero, List.getElem_cons_succ, Act.put, List.setIfInBounds_toArray, List.set_cons_zero, List.set_cons_succ]
      refine wpAnyH_take (i := 8) (v := ?v8) rfl (by kernel_rfl) (by kernel_rfl) (by kernel_rfl) (fun _ _ _ h => h) (Or.inl ⟨by rfl, ?hy8⟩) hS0 ?_
      case hy8 => (intro w' hw'; have c4 := keepC hw'.1 lx x4; have d4 := keepC hw'.1 ly y4; go_simp; try with_reducible rfl)
      simp only [List.getElem_toArray, List.getElem_cons_zero, List.getElem_cons_succ, Act.put, List.setIfInBounds_toArray, List.set_cons_zero, List.set_cons_succ]
      refine rgn.one (i := 4) _ rfl (by kernel_rfl) (by rfl) ?_
      simp only [List.getElem_toArray, List.getElem_cons_zero, List.getElem_cons_succ, Act.put, List.setIfInBounds_toArray, List.set_cons_zero, List.set_cons_succ]
      go_wp2_with fail
      refine (str_cmpE ty ty' _).mono ?_
      rintro e w3 ⟨rfl, rfl⟩
      refine ⟨hS0, ?_⟩
      try simp only [List.getElem_toArray, List.getElem_cons_zero, List.getElem_cons_succ, Act.put, List.setIfInBounds_toArray, List.set_cons_zero, List.set_cons_succ]
      refine rgn.one (i := 9) _ rfl (by kernel_rfl) (by rfl) ?_
      simp only [List.getElem_toArray, List.getElem_cons_zero, List.getElem_cons_succ, Act.put, List.setIfInBounds_toArray, List.set_cons_zero, List.set_cons_succ]
      go_wp2_with fail
      refine (str_cmpE tx tx' _).mono ?_
      rintro e w3 ⟨rfl, rfl⟩
      refine ⟨hS0, ?_⟩
      try simp only [List.getElem_toArray, List.getElem_cons_zero, List.getElem_cons_succ, Act.put, List.setIfInBounds_toArray, List.set_cons_zero, List.set_cons_succ]
      refine rgn.one (i := 10) _ rfl (by kernel_rfl) (by rfl) ?_
      simp only [List.getElem_toArray, List.getElem_cons_zero, List.getElem_cons_succ, Act.put, List.setIfInBounds_toArray, List.set_cons_zero, List.set_cons_succ]
      refine wpO_build2 90 _ _ (by rfl) (.int .i64 (cB ty ty')) (.int .i64 (cB tx tx')) _ (by rfl) (by rfl) (build2I _ _ _) ?_
      obtain ⟨Y, eY⟩ : ∃ Y, Y = w2.drew.alloc (.cells #[.int .i64 (cB ty ty'), .int .i64 (cB tx tx')] 3) := ⟨_, rfl⟩
      have p0 : Y.cell? ⟨w2.drew.heap.size, 0, none⟩ = some (.int .i64 (cB ty ty')) := by rw [eY, World.cell?_alloc_at _ _ _ _ rfl]; rfl
      have p1 : Y.cell? ⟨w2.drew.heap.size, 1, none⟩ = some (.int .i64 (cB tx tx')) := by rw [eY, World.cell?_alloc_at _ _ _ _ rfl]; rfl
      have hS0 : Gr w2 Y := by rw [eY]; exact hS0.alloc _
      rw [← eY]
      clear eY
      refine ⟨hS0, ?_⟩
      try simp only [List.getElem_toArray, List.getElem_cons_zero, List.getElem_cons_succ, Act.put, List.setIfInBounds_toArray, List.set_cons_zero, List.set_cons_succ]
      refine rgn.one (i := 11) _ rfl (by kernel_rfl) (by rfl) ?_
      simp only [List.getElem_toArray, List.getElem_cons_zero, List.getElem_cons_succ, Act.put, List.setIfInBounds_toArray, List.set_cons_zero, List.set_cons_succ]
      go_wp2_with fail
      refine (cmpOr_okH _ _ _ _ p0 p1).mono ?_
      rintro e w3 ⟨rfl, rfl⟩
      refine ⟨hS0, ?_⟩
      refine wpAnyH_take (i := 12) (v := ?v9) rfl (by kernel_rfl) (by kernel_rfl) (by kernel_rfl) (fun _ _ _ h => h) (Or.inl ⟨by rfl, ?hy9⟩) hS0 ?_
      case hy9 => (intro w' hw';  go_simp; try with_reducible rfl)
      simp only [List.getElem_toArray, List.getElem_cons_zero, List.getElem_cons_succ, Act.put, List.setIfInBounds_toArray, List.set_cons_zero, List.set_cons_succ]
      refine wpAnyH_done (by kernel_rfl) ?_ _; refine NoPanic.normal ?_
      go_wp2
      go_ret
      exact ⟨by rw [unhide HV]; rfl, GW.trans hS0⟩
  · have HV := hide ((unhide HV).trans (if_neg hc))
    generalize c3 K K' = C at *
    have hc2 : (C != 0) = true := by simpa using hc
    clear hc
    go_wp2
    go_ret
    exact ⟨by rw [unhide HV]; rfl, GW⟩
end Go.Proofs.Ytiblkdedbimggaa.og
namespace Go.Proofs
open Go.Shelf
def Try.sortMem_ren : Go.Shelf.Ren := ⟨fun | 6 => 55 | 15 => 70 | 14 => 69 | 28 => 88 | 29 => 89 | 20 => 80 | 21 => 81 | 22 => 82 | 23 => 83 | 24 => 84 | 25 => 85 | 26 => 86 | 27 => 87 | 46 => 93 | 47 => 94 | 48 => 95 | 49 => 96 | 50 => 97 | 57 => 103 | n => n, fun | 22 => 25 | 24 => 47 | 25 => 75 | 3 => 3 | 39 => 93 | 0 => 0 | 53 => 112 | 55 => 101 | 4 => 4 | 46 => 105 | 45 => 104 | 50 => 109 | 5 => 5 | 9 => 9 | 66 => 121 | 70 => 125 | 76 => 132 | 77 => 133 | n => n, fun | n => n⟩
theorem Try.sortMem : Go.Proofs.SlLaysF0.n6 Try.prog Try.sortMem_ren := {
  mixed := by kernel_rfl
  f6 := ⟨Try.f55.name, by decide, Try.func55.trans (congrArg some (by kernel_rfl))⟩
  f14 := ⟨Try.f69.name, by decide, Try.func69.trans (congrArg some (by kernel_rfl))⟩
  f15 := Try.func70.trans (congrArg some (by kernel_rfl))
  f20 := ⟨Try.f80.name, by decide, Try.func80.trans (congrArg some (by kernel_rfl))⟩
  f21 := ⟨Try.f81.name, by decide, Try.func81.trans (congrArg some (by kernel_rfl))⟩
  f22 := ⟨Try.f82.name, by decide, Try.func82.trans (congrArg some (by kernel_rfl))⟩
  f23 := ⟨Try.f83.name, by decide, Try.func83.trans (congrArg some (by kernel_rfl))⟩
  f24 := ⟨Try.f84.name, by decide, Try.func84.trans (congrArg some (by kernel_rfl))⟩
  f25 := ⟨Try.f85.name, by decide, Try.func85.trans (congrArg some (by kernel_rfl))⟩
  f26 := ⟨Try.f86.name, by decide, Try.func86.trans (congrArg some (by kernel_rfl))⟩
  f27 := ⟨Try.f87.name, by decide, Try.func87.trans (congrArg some (by kernel_rfl))⟩
  f28 := Try.func88.trans (congrArg some (by kernel_rfl))
  f29 := Try.func89.trans (congrArg some (by kernel_rfl))
  f46 := ⟨Try.f93.name, by decide, Try.func93.trans (congrArg some (by kernel_rfl))⟩
  f47 := Try.func94.trans (congrArg some (by kernel_rfl))
  f48 := Try.func95.trans (congrArg some (by kernel_rfl))
  f49 := ⟨Try.f96.name, by decide, Try.func96.trans (congrArg some (by kernel_rfl))⟩
  f50 := ⟨Try.f97.name, by decide, Try.func97.trans (congrArg some (by kernel_rfl))⟩
  f57 := ⟨Try.f103.name, by decide, Try.func103.trans (congrArg some (by kernel_rfl))⟩
  t0 := Try.underlying0
  a0 := Try.isAgg0
  z0 := Try.sizeOf0
  v0 := Try.zeroValue0
  t3 := Try.underlying3
  a3 := Try.isAgg3
  z3 := Try.sizeOf3
  v3 := Try.zeroValue3
  t4 := Try.underlying4
  a4 := Try.isAgg4
  z4 := Try.sizeOf4
  v4 := Try.zeroValue4
  t5 := Try.underlying5
  a5 := Try.isAgg5
  z5 := Try.sizeOf5
  v5 := Try.zeroValue5
  t9 := Try.underlying9
  a9 := Try.isAgg9
  z9 := Try.sizeOf9
  v9 := Try.zeroValue9
  t22 := Try.underlying25
  a22 := Try.isAgg25
  z22 := Try.sizeOf25
  v22 := Try.zeroValue25
  t25 := Try.underlying75
  a25 := Try.isAgg75
  z25 := Try.sizeOf75
  v25 := Try.zeroValue75
  t39 := Try.underlying93
  a39 := Try.isAgg93
  z39 := Try.sizeOf93
  v39 := Try.zeroValue93
  t45 := Try.underlying104
  a45 := Try.isAgg104
  z45 := Try.sizeOf104
  v45 := Try.zeroValue104
  t46 := Try.underlying105
  a46 := Try.isAgg105
  z46 := Try.sizeOf105
  v46 := Try.zeroValue105
  t50 := Try.underlying109
  a50 := Try.isAgg109
  z50 := Try.sizeOf109
  v50 := Try.zeroValue109
  t53 := Try.underlying112
  a53 := Try.isAgg112
  z53 := Try.sizeOf112
  v53 := Try.zeroValue112
  t55 := Try.underlying101
  a55 := Try.isAgg101
  z55 := Try.sizeOf101
  v55 := Try.zeroValue101
  t66 := Try.underlying121
  a66 := Try.isAgg121
  z66 := Try.sizeOf121
  v66 := Try.zeroValue121
  t70 := Try.underlying125
  a70 := Try.isAgg125
  z70 := Try.sizeOf125
  v70 := Try.zeroValue125
  t76 := Try.underlying132
  a76 := Try.isAgg132
  z76 := Try.sizeOf132
  v76 := Try.zeroValue132
  t77 := Try.underlying133
  a77 := Try.isAgg133
  z77 := Try.sizeOf133
  v77 := Try.zeroValue133 }
end Go.Proofs
namespace Go.Proofs.Ytiblkdedbimggaa.og
open Go.ChangeShapes Go.WideShapes Go.ChangeAt Go.RowKit Go.Shelf
open Go.Sort hiding Below
open vl hiding cB cFl cS cF cI cK cIt
set_option linter.unusedVariables false
set_option linter.unusedSimpArgs false
theorem Gr.grow {w w' : World} (h : Gr w w') : ∃ q os, w' = Go.Sort.grow (w.drewN q) os := by
  refine ⟨w'.drawn - w.drawn, w'.heap.extract w.heap.size w'.heap.size, ?_⟩
  obtain ⟨⟨h1, h2, h3, h4, h5⟩, hd⟩ := h
  obtain ⟨hp, tp, dr, os, ou⟩ := w
  obtain ⟨hp', tp', dr', os', ou'⟩ := w'
  simp only at h1 h2 h3 h4 h5 hd
  subst h1 h2 h3
  simp only [Go.Sort.grow, World.drewN, World.mk.injEq, and_true, true_and]
  refine ⟨?_, by omega⟩
  apply Array.ext_getElem?
  intro k
  by_cases hk : k < hp.size
  · rw [h5 k hk, Array.getElem?_append_left hk]
  · rw [Array.getElem?_append_right (by omega)]
    by_cases hk2 : k < hp'.size
    · rw [Array.getElem?_eq_getElem hk2, Array.getElem?_eq_getElem (by simp; omega)]
      simp only [Array.getElem_extract]
      congr 2
      omega
    · rw [Array.getElem?_eq_none (by omega), Array.getElem?_eq_none (by simp; omega)]
/-- a member of a row that is sorted -/
def Mb (Q : Nat → Prop) (w0 : World) : Type := { x : ByteArray × Vl × List Value // x.1.size ≤ maxLen ∧ Small x.2.1 ∧ AvC Q w0 x.2.1 x.2.2 }
instance (Q : Nat → Prop) (w0 : World) : Inhabited (Mb Q w0) := ⟨⟨(⟨#[]⟩, z0, z8), Nat.zero_le _, (by simp [vl.z0, Small, SmallI, SmallF, Vls.list, Fls.list]), OwC.av _ _ _ (fun b hb => by simp at hb) (OwC.zero w0)⟩⟩
def Mb.pr {Q : Nat → Prop} {w0 : World} (x : Mb Q w0) : ByteArray × Vl := (x.1.1, x.1.2.1)
def Mb.enc {Q : Nat → Prop} {w0 : World} (x : Mb Q w0) : List Value := .string x.1.1 :: x.1.2.2
def Mb.cf {Q : Nat → Prop} {w0 : World} (x y : Mb Q w0) : Int := ordM x.pr y.pr
theorem Mb.len {Q : Nat → Prop} {w0 : World} (x : Mb Q w0) : x.enc.length = 9 := by unfold Mb.enc; rw [List.length_cons, x.2.2.2.cells]
theorem Mb.one {Q : Nat → Prop} {w0 : World} (x : Mb Q w0) : ∀ v ∈ x.enc, v.oneCell' = true := by
  have := one9 x.1.1 (AvC.read _ _ x.2.2.2)
  unfold Mb.enc
  simpa using this
theorem Mb.swo (Q : Nat → Prop) (w0 : World) : Go.Sort.SWO (ltOf (Mb.cf (Q := Q) (w0 := w0))) where
  irrefl x := by unfold ltOf Mb.cf; rw [ordM_thn, cB_self, ordV_self]; simp [thn]
  trans x y z h1 h2 := by
    have t := Tr.ordM x.pr y.pr z.pr x.2.2.1 y.2.2.1 z.2.2.1
    have r1 := Rg.ordM x.pr y.pr x.2.2.1 y.2.2.1
    have r2 := Rg.ordM y.pr z.pr y.2.2.1 z.2.2.1
    have r3 := Rg.ordM x.pr z.pr x.2.2.1 z.2.2.1
    unfold ltOf Mb.cf at *
    unfold Tr at t
    unfold Rg at r1 r2 r3
    simp at *
    omega
  ntrans x y z h1 h2 := by
    have t := Tr.ordM x.pr y.pr z.pr x.2.2.1 y.2.2.1 z.2.2.1
    have r1 := Rg.ordM x.pr y.pr x.2.2.1 y.2.2.1
    have r2 := Rg.ordM y.pr z.pr y.2.2.1 z.2.2.1
    have r3 := Rg.ordM x.pr z.pr x.2.2.1 z.2.2.1
    unfold ltOf Mb.cf at *
    unfold Tr at t
    unfold Rg at r1 r2 r3
    simp at *
    omega
theorem Mb.agree {Q : Nat → Prop} {w0 W : World} (p : Nat) (hp : Q p) (ha : ∀ b j, b ≠ p → b < w0.heap.size → W.cell? ⟨b, j, none⟩ = w0.cell? ⟨b, j, none⟩) (x : Mb Q w0) : AvC Q W x.1.2.1 x.1.2.2 :=
  AvC.agree (fun _ _ h => h) (fun b j hl hn => ha b j (fun e => hn (e ▸ hp)) hl) _ _ x.2.2.2
theorem Mb.lays (Q : Nat → Prop) (w0 : World) (p size : Nat) (hp : Q p) : CmpLays Try.prog 50 #[] (Mb.enc (Q := Q) (w0 := w0)) 9 Mb.cf p 0 size w0 := by
  intro m os dk hdk x y
  have ha : ∀ b j, b ≠ p → b < w0.heap.size → (sortWorldK Mb.enc 9 w0 p 0 m dk os).cell? ⟨b, j, none⟩ = w0.cell? ⟨b, j, none⟩ := fun b j h1 h2 => cell?_sortWorldK_other _ _ _ _ _ _ _ _ ⟨b, j, none⟩ h1 h2
  have h1 := AvC.read _ _ (Mb.agree p hp ha x)
  have h2 := AvC.read _ _ (Mb.agree p hp ha y)
  refine (ordM_ok x.pr y.pr (order_ok _ x.2.2.1 _ y.2.2.1) x.1.2.2 y.1.2.2 _ h1 h2).mono ?_
  rintro e w' ⟨rfl, g⟩
  exact ⟨rfl, g.grow⟩
theorem row_list {Q : Nat → Prop} {w : World} {p : Nat} : ∀ (l : List (ByteArray × Vl)) (off : Nat), (∀ (i : Nat) (q : ByteArray × Vl), l[i]? = some q → ∃ cs, w.cell? ⟨p, off + i * 9, none⟩ = some (.string q.1) ∧ q.1.size ≤ maxLen ∧ Row8 w p (off + i * 9 + 1) cs ∧ AvC Q w q.2 cs) → (∀ q ∈ l, Small q.2) →
    ∃ dl : List (Mb Q w), dl.map Mb.pr = l ∧ ∀ (i : Nat) (x : Mb Q w), dl[i]? = some x → w.rangeAt p (off + i * 9) x.enc
  | [], off, _, _ => ⟨[], rfl, fun i x hx => by simp at hx⟩
  | q :: r, off, h, hs => by
    obtain ⟨cs, h0, hz, h1, h2⟩ := h 0 q rfl
    obtain ⟨dl, e, hd⟩ := row_list r (off + 9) (fun i u hu => by
      obtain ⟨ds, g0, gz, g1, g2⟩ := h (i + 1) u (by simpa using hu)
      exact ⟨ds, by rw [show off + 9 + i * 9 = off + (i + 1) * 9 by omega]; exact g0, gz, by rw [show off + 9 + i * 9 + 1 = off + (i + 1) * 9 + 1 by omega]; exact g1, g2⟩) (fun u hu => hs u (List.mem_cons_of_mem _ hu))
    obtain ⟨x0, hx0⟩ : ∃ x0 : Mb Q w, x0.1 = (q.1, q.2, cs) := ⟨⟨_, hz, hs q (List.mem_cons_self ..), h2⟩, rfl⟩
    have hpr : x0.pr = q := by unfold Mb.pr; rw [hx0]
    have hen : x0.enc = .string q.1 :: cs := by unfold Mb.enc; rw [hx0]
    refine ⟨x0 :: dl, by rw [List.map_cons, e, hpr], fun i x hx => ?_⟩
    cases i with
    | zero =>
      simp at hx
      subst hx
      rw [hen]
      have := row9 (by simpa using h1) (by simpa using h0)
      simpa using this
    | succ i =>
      have := hd i x (by simpa using hx)
      rwa [show off + (i + 1) * 9 = off + 9 + i * 9 by omega]
/-- no later one is ahead of an earlier one -/
def Srtd (l : List (ByteArray × Vl)) : Prop := ∀ (i j : Nat) (x y : ByteArray × Vl), i < j → l[i]? = some x → l[j]? = some y → ordM x y ≤ 0
theorem flat_get {Q : Nat → Prop} {w0 : World} (d : Array (Mb Q w0)) (i j : Nat) (hi : i < d.size) (hj : j < 9) : (flatK Mb.enc 9 d)[i * 9 + j]! = (Mb.enc d[i]!)[j]! := by
  rw [get_flatK _ _ _ _ (by have := Nat.mul_le_mul_right 9 (show i + 1 ≤ d.size from hi); omega), show (i * 9 + j) / 9 = i by omega, show (i * 9 + j) % 9 = j by omega]
theorem holds_of {Q : Nat → Prop} {w w0 : World} {p : Nat} (d : Array (Mb Q w0)) (hr : ∀ i, i < d.size → w.rangeAt p (i * 9) (Mb.enc d[i]!)) (ht : w.there p 0 (d.size * 9)) : HoldsK Mb.enc 9 w p 0 d := by
  intro t htl
  rw [size_flatK] at htl
  have hi : t / 9 < d.size := by omega
  refine ⟨?_, by have := (ht t htl).2; simpa using this⟩
  have hj : t % 9 < (Mb.enc d[t / 9]!).length := by rw [Mb.len]; omega
  have h1 := hr (t / 9) hi (t % 9) _ (List.getElem?_eq_getElem hj)
  rw [show t / 9 * 9 + t % 9 = t by omega] at h1
  rw [Nat.zero_add, h1, get_flatK _ _ _ _ htl]
  simp only [id]
  rw [getElem!_pos (Mb.enc d[t / 9]!) (t % 9) hj]
theorem of_holds {Q : Nat → Prop} {w w0 : World} {p : Nat} (d : Array (Mb Q w0)) (h : HoldsK Mb.enc 9 w p 0 d) (i : Nat) (hi : i < d.size) : w.rangeAt p (i * 9) (Mb.enc d[i]!) := by
  intro j u hu
  have hj : j < 9 := by have := (List.getElem?_eq_some_iff.1 hu).1; rw [Mb.len] at this; exact this
  have h1 := (h (i * 9 + j) (by rw [size_flatK]; have := Nat.mul_le_mul_right 9 (show i + 1 ≤ d.size from hi); omega)).1
  rw [Nat.zero_add, flat_get d i j hi hj] at h1
  rw [h1]
  obtain ⟨hl, e⟩ := List.getElem?_eq_some_iff.1 hu
  rw [getElem!_pos (Mb.enc d[i]!) j hl, e]
  rfl
set_option maxHeartbeats 2000000 in
theorem sortRow_ok (Q : Nat → Prop) (l : List (ByteArray × Vl)) (hsm : ∀ q ∈ l, Small q.2) (p n c : Nat) (w : World) (hn : l.length = n) (hp : p < w.heap.size) (hQ : Q p) (hrow : RowF Q w p l) (ht : w.there p 0 (n * 9)) (hb : n ≤ 1099511627776) :
    Calls Try.prog 55 #[.slice (some ⟨p, 0, none⟩) n c, .func (.func 50) #[] #[]] w fun e w' => e = .returned (.tuple #[]) ∧ ∃ l' : List (ByteArray × Vl), l'.Perm l ∧ Srtd l' ∧ RowF Q w' p l' ∧ Below p w w' ∧ w.drawn ≤ w'.drawn := by
  obtain ⟨dl, e, hd⟩ := row_list (Q := Q) (w := w) (p := p) l 0 (fun i q hq => by simpa using hrow i q hq) hsm
  have hdl : dl.length = n := by rw [← hn, ← e, List.length_map]
  have hg : ∀ i, i < dl.toArray.size → w.rangeAt p (i * 9) (Mb.enc dl.toArray[i]!) := fun i hi => by
    have hi' : i < dl.length := by simpa using hi
    have := hd i dl[i] (List.getElem?_eq_getElem hi')
    rw [Nat.zero_add] at this
    rw [getElem!_pos dl.toArray i hi]
    simpa using this
  have hH : HoldsK Mb.enc 9 w p 0 dl.toArray := holds_of dl.toArray hg (by simpa [hdl] using ht)
  have eg : ∀ args w, (callFunc 50 args).run Try.prog w = .ok (.enter 50 args) w := enters_of Try.func50 (by kernel_rfl) rfl
  have aE : ∀ w, (isAgg 47).run Try.prog w = .ok true w := fun w => by kernel_rfl
  have zE : ∀ w, (Go.sizeOf 47).run Try.prog w = .ok 9 w := fun w => by kernel_rfl
  have hcon := AnyQ.slices_SortFunc Try.sortMem 9 aE zE (Mb.enc (Q := Q) (w0 := w)) Mb.len Mb.one Mb.cf (Mb.swo Q w) 50 #[] p 0 c dl.toArray w eg (Mb.lays Q w p _ hQ) hH hp (by simp [hdl]; omega)
  rw [show (dl.toArray.size : Nat) = n by simp [hdl]] at hcon
  refine hcon.mono ?_
  rintro e' w' ⟨rfl, d', m, os, ⟨hds, -, hpm⟩, hst, rfl⟩
  have hds' : d'.size = n := by rw [hds]; simp [hdl]
  have hH' : HoldsK Mb.enc 9 (sortWorldK Mb.enc 9 w p 0 m d' os) p 0 d' := holdsK_sortWorldK_c _ _ _ _ _ _ _ _ _ hH hp hds
  have ha : ∀ b j, b ≠ p → b < w.heap.size → (sortWorldK Mb.enc 9 w p 0 m d' os).cell? ⟨b, j, none⟩ = w.cell? ⟨b, j, none⟩ := fun b j h1 h2 => cell?_sortWorldK_other _ _ _ _ _ _ _ _ ⟨b, j, none⟩ h1 h2
  refine ⟨rfl, d'.toList.map Mb.pr, ?_, ?_, ?_, ?_, ?_⟩
  · rw [← e]
    have h1 : (d'.extract 0 n).toList = d'.toList := by rw [← hds']; simp
    have h2 : (dl.toArray.extract 0 n).toList = dl := by rw [← hdl]; simp
    rw [h1, h2] at hpm
    exact hpm.map _
  · intro i j x y hij hx hy
    simp only [List.getElem?_map, Option.map_eq_some_iff] at hx hy
    obtain ⟨a, ha', rfl⟩ := hx
    obtain ⟨b, hb', rfl⟩ := hy
    obtain ⟨li, ea⟩ := List.getElem?_eq_some_iff.1 ha'
    obtain ⟨lj, eb⟩ := List.getElem?_eq_some_iff.1 hb'
    simp only [Array.length_toList] at li lj
    have := hst i j (Nat.zero_le _) hij (by omega)
    rw [getElem!_pos d' i li, getElem!_pos d' j lj] at this
    rw [← Array.getElem_toList, ← Array.getElem_toList, ea, eb] at this
    unfold ltOf Mb.cf at this
    have t := Tr.ordM a.pr b.pr a.pr a.2.2.1 b.2.2.1 a.2.2.1
    have r1 := Rg.ordM a.pr b.pr a.2.2.1 b.2.2.1
    have r2 := Rg.ordM b.pr a.pr b.2.2.1 a.2.2.1
    have sf : ordM a.pr a.pr = 0 := by rw [ordM_thn, cB_self, ordV_self]; rfl
    rw [sf] at t
    unfold Tr at t
    unfold Rg at r1 r2
    simp at this
    omega
  · intro i q hq
    simp only [List.getElem?_map, Option.map_eq_some_iff] at hq
    obtain ⟨a, ha', rfl⟩ := hq
    obtain ⟨li, ea⟩ := List.getElem?_eq_some_iff.1 ha'
    simp only [Array.length_toList] at li
    have hr := of_holds d' hH' i li
    rw [getElem!_pos d' i li, ← Array.getElem_toList, ea] at hr
    exact ⟨a.1.2.2, hr 0 _ rfl, a.2.1, fun j x hx => by have := hr (j + 1) x (by simpa [Mb.enc] using hx); rwa [show i * 9 + (j + 1) = i * 9 + 1 + j by omega] at this, Mb.agree p hQ ha a⟩
  · refine ⟨rfl, rfl, rfl, size_sortWorldK_c _ _ _ _ _ _ _ _, fun k hk => ?_⟩
    show (Go.Sort.grow _ os).heap[k]? = _
    rw [Go.Sort.heap_grow_old _ _ (by rw [size_putRowK]; show k < w.heap.size; omega)]
    simp only [putRowK, Go.Sort.putRow, Go.Sort.mapBlock]
    rw [Array.getElem?_modify, if_neg (by omega)]
    rfl
  · show w.drawn ≤ w.drawn + m
    omega
end Go.Proofs.Ytiblkdedbimggaa.og
