import Derived.Test.YtgphiollpbahgaaCon1
import Derived.Test.YtgphiollpbahgaaCon9
import Derived.Test.YtgphiollpbahgaaCon6
import Derived.Lib.SlBytesConst
namespace Go.Proofs.Ytgphiollpbahgaa.cu
open Go.ChangeShapes Go.WideShapes Go.ChangeAt Go.RowKit
open ints (hide unhide)
open dt (Dt Kp RowAt Ow Grow OwIn)
open mem (Row)
set_option linter.unusedVariables false
set_option linter.unusedSimpArgs false
theorem readLG_rel (z : List Int) (d : Int) : ((readLG z false d).2.kd ≠ 0 → (readLG z true d).2.kd ≠ 0) ∧
    ((readLG z false d).2.kd = 0 → ∃ v f, (readLG z false d).1 = some v ∧ IsLit f v ∧ (fvD v = none → readLG z true d = readLG z false d) ∧ ∀ p, fvD v = some p → (readLG z true d).2.kd = 70 ∧ ((readLG z true d).2.tok.ln, (readLG z true d).2.tok.co) = p) := by
  have hok := newG_ok' z d
  have hR := litF_rel (lx.toks z).length (newG z d)
  have f0 := litF_faults false (lx.toks z).length (newG z d) hok (Nat.le_add_right _ _)
  have f1 := litF_faults true (lx.toks z).length (newG z d) hok (Nat.le_add_right _ _)
  have hl := litF_lit false (lx.toks z).length (newG z d)
  unfold readLG
  generalize litF false (lx.toks z).length (newG z d) = r0 at *
  generalize litF true (lx.toks z).length (newG z d) = r1 at *
  unfold Rel at hR
  obtain ⟨v0, c0⟩ := r0
  obtain ⟨v1, c1⟩ := r1
  have hfin : ∀ c : Cu, c.finB = false → c.fin.kd ≠ 0 := fun c h => by unfold Cu.fin; rw [h]; exact stop_kd _ _ (by decide)
  cases v0 with
  | none =>
    simp only at hR
    subst hR
    refine ⟨fun _ => f1 rfl, fun h => absurd h (f0 rfl)⟩
  | some v =>
    simp only at hR
    cases hf : fvD v with
    | none =>
      rw [hf] at hR
      simp only [Prod.mk.injEq] at hR
      obtain ⟨rfl, rfl⟩ := hR
      refine ⟨fun h => h, fun h => ⟨v, _, ?_, hl v rfl, (fun _ => rfl), (fun p hp => by rw [hf] at hp; cases hp)⟩⟩
      cases hb : c1.finB
      · simp only [hb] at h
        exact absurd h (hfin c1 hb)
      · simp only [hb]; rfl
    | some p =>
      rw [hf] at hR
      simp only at hR
      obtain ⟨rfl, h70, hp⟩ := hR
      refine ⟨fun _ => by show c1.kd ≠ 0; rw [h70]; decide, fun h => ⟨v, _, ?_, hl v rfl, (fun h' => by rw [hf] at h'; cases h'), (fun q hq => ?_)⟩⟩
      · cases hb : c0.finB
        · simp only [hb] at h
          exact absurd h (hfin c0 hb)
        · simp only [hb]; rfl
      · obtain rfl := Option.some.inj (hf.symm.trans hq)
        exact ⟨h70, hp⟩
/-- a literal's cells -/
theorem lit_cells {w : World} {k : Int} {tx : ByteArray} {bl : Bool} {its fls : List Dt} {ln co : Int} {cs : List Value} {F : List Nat} (h : Ow w (litD k tx bl (Dt.of its) (Dt.of fls) ln co) cs F) :
    ∃ ai ni ci af nf cf, cs = [.int .i64 k, .string tx, .bool bl, .slice ai ni ci, .slice af nf cf, .int .i64 ln, .int .i64 co] ∧ ni = its.length ∧ nf = fls.length ∧ ni ≤ ci ∧ nf ≤ cf ∧ ci ≤ maxLen ∧ cf ≤ maxLen ∧
      (∀ i e, its[i]? = some e → ∃ p ds G, ai = some ⟨p, 0, none⟩ ∧ p ∈ F ∧ RowAt w p (i * 7) ds ∧ ds.length = 7 ∧ Ow w e ds G ∧ ∀ b ∈ G, b ∈ F) ∧
      (∀ i e, fls[i]? = some e → ∃ p ds G, af = some ⟨p, 0, none⟩ ∧ p ∈ F ∧ RowAt w p (i * 10) ds ∧ ds.length = 10 ∧ Ow w e ds G ∧ ∀ b ∈ G, b ∈ F) := by
  unfold litD at h
  unfold Ow at h
  obtain ⟨d1, rfl, _, h⟩ := h
  unfold Ow at h
  obtain ⟨d2, rfl, _, h⟩ := h
  unfold Ow at h
  obtain ⟨d3, rfl, _, h⟩ := h
  unfold Ow at h
  obtain ⟨ai, ni, ci, d4, F1, F2, rfl, i1, i2, i3, i4, h, rfl⟩ := h
  unfold Ow at h
  obtain ⟨af, nf, cf, d5, F3, F4, rfl, j1, j2, j3, j4, h, rfl⟩ := h
  unfold Ow at h
  obtain ⟨d6, rfl, _, h⟩ := h
  unfold Ow at h
  obtain ⟨d7, rfl, _, h⟩ := h
  unfold Ow at h
  obtain ⟨rfl, rfl⟩ := h
  have key : ∀ (l : List Dt) (k : Nat) (a : Option Addr) (n : Nat) (G0 : List Nat), ((a = none ∧ Dt.of l = .nil ∧ n = 0 ∧ G0 = []) ∨ ∃ p G, a = some ⟨p, 0, none⟩ ∧ G0 = p :: G ∧ OwIn w (Dt.of l) k p 0 n G) → n = l.length ∧ ∀ i e, l[i]? = some e → ∃ p ds G, a = some ⟨p, 0, none⟩ ∧ p ∈ G0 ∧ RowAt w p (i * k) ds ∧ ds.length = k ∧ Ow w e ds G ∧ ∀ b ∈ G, b ∈ G0 := by
    intro l k a n G0 h
    rcases h with ⟨_, h2, h3, _⟩ | ⟨p, G, rfl, rfl, h⟩
    · cases l with
      | nil => exact ⟨h3, fun i e he => by simp at he⟩
      | cons d l => unfold Dt.of at h2; cases h2
    · obtain ⟨h1, h2⟩ := OwIn.get l k p 0 n G h
      refine ⟨h1.symm, fun i e he => ?_⟩
      obtain ⟨ds, Gi, g1, g2, g3, g4⟩ := h2 i e he
      exact ⟨p, ds, Gi, rfl, by simp, by simpa using g1, g2, g3, fun b hb => by simp [g4 b hb]⟩
  obtain ⟨e1, e2⟩ := key its 7 ai ni F1 i4
  obtain ⟨e3, e4⟩ := key fls 10 af nf F3 j4
  refine ⟨ai, ni, ci, af, nf, cf, rfl, e1, e3, i1, j1, i2, j2, fun i e he => ?_, fun i e he => ?_⟩
  · obtain ⟨p, ds, G, g1, g2, g3, g4, g5, g6⟩ := e2 i e he
    exact ⟨p, ds, G, g1, by simp [g2], g3, g4, g5, fun b hb => by simp [g6 b hb]⟩
  · obtain ⟨p, ds, G, g1, g2, g3, g4, g5, g6⟩ := e4 i e he
    exact ⟨p, ds, G, g1, by simp [g2], g3, g4, g5, fun b hb => by simp [g6 b hb]⟩
end Go.Proofs.Ytgphiollpbahgaa.cu
namespace Go.Proofs.Ytgphiollpbahgaa.cu
open Go.ChangeShapes Go.WideShapes Go.ChangeAt Go.RowKit
open ints (hide unhide)
open dt (Dt Kp RowAt Ow Grow OwIn)
open mem (Row)
set_option linter.unusedVariables false
set_option linter.unusedSimpArgs false
/-- a field's cells -/
theorem fld_cells {w : World} {nm : ByteArray} {k : Int} {tx : ByteArray} {bl : Bool} {its fls : Dt} {ln co x y : Int} {cs : List Value} {F : List Nat} (h : Ow w (fldD nm (litD k tx bl its fls ln co) x y) cs F) :
    ∃ ai ni ci af nf cf, cs = [.string nm, .int .i64 k, .string tx, .bool bl, .slice ai ni ci, .slice af nf cf, .int .i64 ln, .int .i64 co, .int .i64 x, .int .i64 y] ∧ Ow w (litD k tx bl its fls ln co) [.int .i64 k, .string tx, .bool bl, .slice ai ni ci, .slice af nf cf, .int .i64 ln, .int .i64 co] F := by
  unfold fldD litD at h
  simp only [app] at h
  unfold Ow at h
  obtain ⟨d0, rfl, _, h⟩ := h
  unfold Ow at h
  obtain ⟨d1, rfl, a1, h⟩ := h
  unfold Ow at h
  obtain ⟨d2, rfl, a2, h⟩ := h
  unfold Ow at h
  obtain ⟨d3, rfl, a3, h⟩ := h
  unfold Ow at h
  obtain ⟨ai, ni, ci, d4, F1, F2, rfl, i1, i2, i3, i4, h, rfl⟩ := h
  unfold Ow at h
  obtain ⟨af, nf, cf, d5, F3, F4, rfl, j1, j2, j3, j4, h, rfl⟩ := h
  unfold Ow at h
  obtain ⟨d6, rfl, a6, h⟩ := h
  unfold Ow at h
  obtain ⟨d7, rfl, a7, h⟩ := h
  unfold Ow at h
  obtain ⟨d8, rfl, a8, h⟩ := h
  unfold Ow at h
  obtain ⟨d9, rfl, a9, h⟩ := h
  unfold Ow at h
  obtain ⟨rfl, rfl⟩ := h
  refine ⟨ai, ni, ci, af, nf, cf, rfl, ?_⟩
  unfold litD Ow
  refine ⟨_, rfl, a1, ?_⟩
  unfold Ow
  refine ⟨_, rfl, a2, ?_⟩
  unfold Ow
  refine ⟨_, rfl, a3, ?_⟩
  unfold Ow
  refine ⟨ai, ni, ci, _, F1, F3 ++ [], rfl, i1, i2, i3, i4, ?_, rfl⟩
  unfold Ow
  refine ⟨af, nf, cf, _, F3, [], rfl, j1, j2, j3, j4, ?_, rfl⟩
  unfold Ow
  refine ⟨_, rfl, a6, ?_⟩
  unfold Ow
  refine ⟨_, rfl, a7, ?_⟩
  unfold Ow
  exact ⟨rfl, rfl⟩
def fvR (r : Option (Int × Int)) : Array Value := match r with
  | none => #[.agg #[.int .i64 0, .int .i64 0], .bool false]
  | some p => #[.agg #[.int .i64 p.1, .int .i64 p.2], .bool true]
def FvAt (d : Dt) : Prop := ∀ (w : World) (cs : List Value) (F : List Nat), Ow w d cs F → (∀ b ∈ F, b < w.heap.size) → Calls Try.prog 7 #[.agg cs.toArray] w fun e w' => e = .returned (.tuple (fvR (fvD d))) ∧ Below w.heap.size w w'
theorem infoPo : (Try.prog.info? 28).map (·.size) = some 2 := by kernel_rfl
theorem find_next {A B : Type} (φ : A → Option B) (l : List A) (k : Nat) (e : A) (h : l[k]? = some e) (h0 : (l.take k).findSome? φ = none) : (φ e = none → (l.take (k + 1)).findSome? φ = none) ∧ (∀ p, φ e = some p → l.findSome? φ = some p) := by
  have hk : l.take (k + 1) = l.take k ++ [e] := by rw [List.take_add_one, h]; rfl
  refine ⟨fun he => by rw [hk, List.findSome?_append, h0]; simp [he], fun p hp => ?_⟩
  rw [← List.take_append_drop (k + 1) l, List.findSome?_append, hk, List.findSome?_append, h0]
  simp [hp]
/-- what the loops keep -/
structure FvI (w wr : World) (vc : Array Value) : Prop where
  bel : Below w.heap.size w wr
  v : wr.heap[w.heap.size]? = some (.cells vc 30 (0, 0))
  r : wr.heap[w.heap.size + 1]? = some (.cells #[.int .i64 0, .int .i64 0] 28 (0, 0))
theorem FvI.more {w wr wn : World} {vc : Array Value} (h : FvI w wr vc) (hb : Below wr.heap.size wr wn) : FvI w wn vc := by
  have h1 : w.heap.size < wr.heap.size := by
    rcases Nat.lt_or_ge w.heap.size wr.heap.size with g | g
    · exact g
    · have := h.v; rw [Array.getElem?_eq_none g] at this; cases this
  have h2 : w.heap.size + 1 < wr.heap.size := by
    rcases Nat.lt_or_ge (w.heap.size + 1) wr.heap.size with g | g
    · exact g
    · have := h.r; rw [Array.getElem?_eq_none g] at this; cases this
  exact ⟨h.bel.trans (hb.mono h.bel.size), (hb.block _ h1).trans h.v, (hb.block _ h2).trans h.r⟩
set_option maxHeartbeats 4000000 in
set_option maxRecDepth 4000 in
theorem firstVar_ok : ∀ (f : Nat) (d : Dt), IsLit f d → FvAt d
  | 0, d, h => h.elim
  | f + 1, d, h => by
    obtain ⟨k, tx, bl, its, fls, ln, co, rfl, hI, hF⟩ := h
    intro w cs F how hFw
    obtain ⟨ai, ni, ci, af, nf, cf, rfl, rfl, rfl, l1, l2, l3, l4, hit, hfl⟩ := lit_cells how
    rw [fvD_lit, fvL_of, fvG_of fls (fun d hd => by obtain ⟨nm, v, a, b, rfl, _⟩ := hF d hd; exact ⟨_, _, rfl⟩)]
    have ih := hide (fun d hd => firstVar_ok f d hd)
    have HI := hide hI
    have HFl := hide hF
    have Hit := hide hit
    have Hfl := hide hfl
    have HW := hide hFw
    clear hI hF hit hfl hFw how
    unfold maxLen at l3 l4
    obtain ⟨vc, hvc⟩ : ∃ vc : Array Value, vc = #[.int .i64 k, .string tx, .bool bl, .slice ai its.length ci, .slice af fls.length cf, .int .i64 ln, .int .i64 co] := ⟨_, rfl⟩
    by_cases hk : k = 1
    · subst hk
      rw [if_pos rfl]
      go_enter Try.func7, Try.ntmps7
      go_wp2_with fail
      refine bodyPost_ret (rgn.result_row_tmp rfl _ _ (w.heap.size + 1) 0 [.int .i64 ln, .int .i64 co] _ rfl ?_ Try.underlying28 rfl infoPo) rfl ?_
      · intro j u hu
        have := heap_alloc_new (w.alloc (.cells #[.int .i64 1, .string tx, .bool bl, .slice ai its.length ci, .slice af fls.length cf, .int .i64 ln, .int .i64 co] 30)) (.cells #[.int .i64 ln, .int .i64 co] 28)
        have this : ((w.alloc (.cells #[.int .i64 1, .string tx, .bool bl, .slice ai its.length ci, .slice af fls.length cf, .int .i64 ln, .int .i64 co] 30)).alloc (.cells #[.int .i64 ln, .int .i64 co] 28)).heap[w.heap.size + 1]? = some (.cells #[.int .i64 ln, .int .i64 co] 28 (0, 0)) := by simpa using this
        rw [dt.cell_cells this (0 + j)]
        simpa using hu
      · exact ⟨rfl, ((Below.refl _ _).alloc (Nat.le_refl _) _).alloc (by simp) _⟩
    · rw [if_neg hk]
      have hkb : (k == 1) = false := by simpa using hk
      clear hk
      go_enter Try.func7, Try.ntmps7
      go_wp2_with fail
      obtain ⟨w0, hw0⟩ : ∃ w0, w0 = (w.alloc (.cells #[.int .i64 k, .string tx, .bool bl, .slice ai its.length ci, .slice af fls.length cf, .int .i64 ln, .int .i64 co] 30)).alloc (.cells #[Value.int .i64 0, .int .i64 0] 28) := ⟨_, rfl⟩
      have hv0 : FvI w w0 vc := by
        rw [hw0, hvc]
        refine ⟨((Below.refl _ _).alloc (Nat.le_refl _) _).alloc (by simp) _, (Below.heap_alloc _ _ w.heap.size (by simp)).trans (heap_alloc_new w _), ?_⟩
        have := heap_alloc_new (w.alloc (.cells #[.int .i64 k, .string tx, .bool bl, .slice ai its.length ci, .slice af fls.length cf, .int .i64 ln, .int .i64 co] 30)) (.cells #[Value.int .i64 0, .int .i64 0] 28)
        simpa using this
      rw [← hw0]
      have HV0 := hide hv0
      clear hw0 hv0
      go_loopw [4] (fun i wr => ∃ j : Nat, j ≤ its.length ∧ i = .int .i64 j ∧ FvI w wr vc ∧ Hid ((its.take j).findSome? fvD = none)) (fun i _ => its.length - (intOf i).toNat)
      case atStart => exact ⟨0, Nat.zero_le _, rfl, unhide HV0, hide rfl⟩
      case round =>
        obtain ⟨j, hj, rfl, hI, hfs⟩ := hrel
        have d3 : wr.cell? ⟨w.heap.size, 3, none⟩ = some (.slice ai its.length ci) := (dt.cell_cells hI.v 3).trans (by rw [hvc]; rfl)
        have d4 : wr.cell? ⟨w.heap.size, 4, none⟩ = some (.slice af fls.length cf) := (dt.cell_cells hI.v 4).trans (by rw [hvc]; rfl)
        by_cases hlt : j < its.length
        · have ji : (j : Int) < (its.length : Int) := by omega
          obtain ⟨p, ds, G, rfl, hpF, hrow, hdl, hod, hGF⟩ := (unhide Hit) j _ (List.getElem?_eq_getElem hlt)
          have hlit := (unhide HI) _ (List.getElem_mem hlt)
          have hnx := find_next fvD its j _ (List.getElem?_eq_getElem hlt) (unhide hfs)
          obtain ⟨e, he⟩ : ∃ e, e = its[j] := ⟨_, rfl⟩
          rw [← he] at hod hlit hnx
          have hplt := (unhide HW) p hpF
          have hC := hide (fun W (hb : Below w.heap.size w W) => (unhide ih) e hlit W ds G (dt.Ow.agree e ds G (fun b hb' o => hb.cell (p := ⟨b, o, none⟩) ((unhide HW) b (hGF b hb'))) hod) (fun b hb' => Nat.lt_of_lt_of_le ((unhide HW) b (hGF b hb')) hb.size))
          have hsh : LShape ds := by
            cases f with
            | zero => exact hlit.elim
            | succ f =>
              obtain ⟨k', tx', bl', its', fls', ln', co', rfl, _⟩ := hlit
              obtain ⟨ai', ni', ci', af', nf', cf', rfl, _⟩ := lit_cells hod
              exact ⟨_, _, _, _, _, _, _, _, _, _, _, rfl⟩
          obtain ⟨k', tx', bl', ai', ni', ci', af', nf', cf', ln', co', rfl⟩ := hsh
          have hr := fun (q : Nat) (u : Value) (hu : [Value.int .i64 k', .string tx', .bool bl', .slice ai' ni' ci', .slice af' nf' cf', .int .i64 ln', .int .i64 co'][q]? = some u) => (hI.bel.cell (p := ⟨p, j * 7 + q, none⟩) hplt).trans (hrow q u hu)
          have m0 : wr.cell? ⟨p, j * 7, none⟩ = some (.int .i64 k') := hr 0 _ rfl
          have m1 : wr.cell? ⟨p, j * 7 + 1, none⟩ = some (.string tx') := hr 1 _ rfl
          have m2 : wr.cell? ⟨p, j * 7 + 2, none⟩ = some (.bool bl') := hr 2 _ rfl
          have m3 : wr.cell? ⟨p, j * 7 + 3, none⟩ = some (.slice ai' ni' ci') := hr 3 _ rfl
          have m4 : wr.cell? ⟨p, j * 7 + 4, none⟩ = some (.slice af' nf' cf') := hr 4 _ rfl
          have m5 : wr.cell? ⟨p, j * 7 + 5, none⟩ = some (.int .i64 ln') := hr 5 _ rfl
          have m6 : wr.cell? ⟨p, j * 7 + 6, none⟩ = some (.int .i64 co') := hr 6 _ rfl
          have Hnx := hide hnx
          clear hr hrow hod hlit hnx he hdl
          go_wp2_with fail
          refine ((unhide hC) wr hI.bel).mono ?_
          rintro e' w2 ⟨rfl, b2⟩
          have hI2 := hI.more b2
          have hI3 := hide (fun o => hI2.more ((Below.refl w2.heap.size w2).alloc (Nat.le_refl _) o))
          clear m0 m1 m2 m3 m4 m5 m6 hC d3 d4
          cases hfv : fvD e with
          | none =>
            have H2 := hide ((unhide Hnx).1 hfv)
            unfold fvR
            clear Hnx hfv
            simp only
            go_wp2_with fail
            go_roundw
            case rel => exact ⟨j + 1, by omega, by go_num, (unhide hI3) _, H2⟩
            case measure => first | (simp [intOf]; omega) | simp [intOf]
          | some pp =>
            have H2 := hide ((unhide Hnx).2 pp hfv)
            unfold fvR
            clear Hnx hfv
            simp only
            have hth := hide (fun o => dt.there_cells ((unhide hI3) o).r (o := 0) (n := 2) (by decide))
            go_wp2_with (first
              | refine wpList_store_mid (by rfl) 28 _ _ (by rfl) (w.heap.size + 1) 0 #[.int .i64 pp.1, .int .i64 pp.2] (by rfl) (by rfl) ((unhide hth) _) infoPo (dt.one_cells (cs := [.int .i64 pp.1, .int .i64 pp.2]) (by rfl)) ?_)
            refine bodyPost_ret (rgn.result_row_tmp rfl _ _ (w.heap.size + 1) 0 [.int .i64 pp.1, .int .i64 pp.2] _ rfl (World.rangeAt_setCells_same _ _ _ _ ((unhide hth) _)) Try.underlying28 rfl infoPo) rfl ?_
            refine ⟨?_, dt.below_setCells _ _ _ _ ((unhide hI3) _).bel (Nat.le_add_right _ 1)⟩
            rw [unhide H2]
            rfl
        · have e0 : its.take j = its := List.take_of_length_le (by omega)
          have H0 := hide (show its.findSome? fvD = none from by have := unhide hfs; rw [e0] at this; exact this)
          have ji : ¬ (j : Int) < (its.length : Int) := by omega
          have HV1 := hide hI
          clear hfs e0 hlt
          go_wp2_with fail
          clear d3 d4
          go_loopw [7] (fun i wr => ∃ j : Nat, j ≤ fls.length ∧ i = .int .i64 j ∧ FvI w wr vc ∧ Hid ((fls.take j).findSome? fvF = none)) (fun i _ => fls.length - (intOf i).toNat)
          case atStart => exact ⟨0, Nat.zero_le _, rfl, unhide HV1, hide rfl⟩
          case round =>
            obtain ⟨j2, hj2, rfl, hI, hfs⟩ := hrel
            have d4 : wr.cell? ⟨w.heap.size, 4, none⟩ = some (.slice af fls.length cf) := (dt.cell_cells hI.v 4).trans (by rw [hvc]; rfl)
            by_cases hlt : j2 < fls.length
            · have ji2 : (j2 : Int) < (fls.length : Int) := by omega
              obtain ⟨p, ds, G, rfl, hpF, hrow, hdl, hod, hGF⟩ := (unhide Hfl) j2 _ (List.getElem?_eq_getElem hlt)
              obtain ⟨nm, v, xx, yy, hfe, hlit⟩ := (unhide HFl) _ (List.getElem_mem hlt)
              have hnx := find_next fvF fls j2 _ (List.getElem?_eq_getElem hlt) (unhide hfs)
              rw [hfe, fvF_fld hlit] at hnx
              rw [hfe] at hod
              have hplt := (unhide HW) p hpF
              obtain ⟨vs, hsh, hdse, hov⟩ : ∃ vs, LShape vs ∧ ds = Value.string nm :: (vs ++ [.int .i64 xx, .int .i64 yy]) ∧ Ow w v vs G := by
                cases f with
                | zero => exact hlit.elim
                | succ f =>
                  obtain ⟨k', tx', bl', its', fls', ln', co', rfl, _⟩ := hlit
                  obtain ⟨ai', ni', ci', af', nf', cf', rfl, how'⟩ := fld_cells hod
                  exact ⟨_, ⟨_, _, _, _, _, _, _, _, _, _, _, rfl⟩, rfl, how'⟩
              have hC := hide (fun W (hb : Below w.heap.size w W) => (unhide ih) v hlit W vs G (dt.Ow.agree v vs G (fun b hb' o => hb.cell (p := ⟨b, o, none⟩) ((unhide HW) b (hGF b hb'))) hov) (fun b hb' => Nat.lt_of_lt_of_le ((unhide HW) b (hGF b hb')) hb.size))
              obtain ⟨k', tx', bl', ai', ni', ci', af', nf', cf', ln', co', rfl⟩ := hsh
              have hr := fun (q : Nat) (u : Value) (hu : ds[q]? = some u) => (hI.bel.cell (p := ⟨p, j2 * 10 + q, none⟩) hplt).trans (hrow q u hu)
              rw [hdse] at hr
              have m0 : wr.cell? ⟨p, j2 * 10 + 1, none⟩ = some (.int .i64 k') := hr 1 _ rfl
              have m1 : wr.cell? ⟨p, j2 * 10 + 2, none⟩ = some (.string tx') := hr 2 _ rfl
              have m2 : wr.cell? ⟨p, j2 * 10 + 3, none⟩ = some (.bool bl') := hr 3 _ rfl
              have m3 : wr.cell? ⟨p, j2 * 10 + 4, none⟩ = some (.slice ai' ni' ci') := hr 4 _ rfl
              have m4 : wr.cell? ⟨p, j2 * 10 + 5, none⟩ = some (.slice af' nf' cf') := hr 5 _ rfl
              have m5 : wr.cell? ⟨p, j2 * 10 + 6, none⟩ = some (.int .i64 ln') := hr 6 _ rfl
              have m6 : wr.cell? ⟨p, j2 * 10 + 7, none⟩ = some (.int .i64 co') := hr 7 _ rfl
              have Hnx := hide hnx
              clear hr hrow hod hlit hnx hdl hfe hdse hov
              go_wp2_with fail
              refine ((unhide hC) wr hI.bel).mono ?_
              rintro e' w2 ⟨rfl, b2⟩
              have hI2 := hI.more b2
              have hI3 := hide (fun o => hI2.more ((Below.refl w2.heap.size w2).alloc (Nat.le_refl _) o))
              clear m0 m1 m2 m3 m4 m5 m6 hC d4
              cases hfv : fvD v with
              | none =>
                have H2 := hide ((unhide Hnx).1 hfv)
                unfold fvR
                clear Hnx hfv
                simp only
                go_wp2_with fail
                go_roundw
                case rel => exact ⟨j2 + 1, by omega, by go_num, (unhide hI3) _, H2⟩
                case measure => first | (simp [intOf]; omega) | simp [intOf]
              | some pp =>
                have H2 := hide ((unhide Hnx).2 pp hfv)
                unfold fvR
                clear Hnx hfv
                simp only
                have hth := hide (fun o => dt.there_cells ((unhide hI3) o).r (o := 0) (n := 2) (by decide))
                go_wp2_with (first
                  | refine wpList_store_mid (by rfl) 28 _ _ (by rfl) (w.heap.size + 1) 0 #[.int .i64 pp.1, .int .i64 pp.2] (by rfl) (by rfl) ((unhide hth) _) infoPo (dt.one_cells (cs := [.int .i64 pp.1, .int .i64 pp.2]) (by rfl)) ?_)
                refine bodyPost_ret (rgn.result_row_tmp rfl _ _ (w.heap.size + 1) 0 [.int .i64 pp.1, .int .i64 pp.2] _ rfl (World.rangeAt_setCells_same _ _ _ _ ((unhide hth) _)) Try.underlying28 rfl infoPo) rfl ?_
                refine ⟨?_, dt.below_setCells _ _ _ _ ((unhide hI3) _).bel (Nat.le_add_right _ 1)⟩
                rw [unhide H0, unhide H2]
                rfl
            · have e1 : fls.take j2 = fls := List.take_of_length_le (by omega)
              have H1 := hide (show fls.findSome? fvF = none from by have := unhide hfs; rw [e1] at this; exact this)
              have ji2 : ¬ (j2 : Int) < (fls.length : Int) := by omega
              have hth := hide (dt.there_cells hI.r (o := 0) (n := 2) (by decide))
              clear hfs e1 hlt
              go_wp2_with (first
                | refine wpList_store_mid (by rfl) 28 _ _ (by rfl) (w.heap.size + 1) 0 #[.int .i64 0, .int .i64 0] (by rfl) (by rfl) (unhide hth) infoPo (dt.one_cells (cs := [.int .i64 0, .int .i64 0]) (by rfl)) ?_)
              refine bodyPost_ret (rgn.result_row_tmp rfl _ _ (w.heap.size + 1) 0 [.int .i64 0, .int .i64 0] _ rfl (World.rangeAt_setCells_same _ _ _ _ (unhide hth)) Try.underlying28 rfl infoPo) rfl ?_
              refine ⟨?_, dt.below_setCells _ _ _ _ hI.bel (Nat.le_add_right _ 1)⟩
              rw [unhide H0, unhide H1]
              rfl
end Go.Proofs.Ytgphiollpbahgaa.cu
namespace Go.Proofs.Ytgphiollpbahgaa.cu
open Go.ChangeShapes Go.WideShapes Go.ChangeAt Go.RowKit
open ints (hide unhide)
open dt (Dt Kp RowAt Ow Grow OwIn)
open mem (Row)
set_option linter.unusedVariables false
set_option linter.unusedSimpArgs false
/-- the same literal, but for places where they are not asked for -/
def EqL (pl : Bool) : Nat → Dt → Dt → Prop
  | 0, _, _ => False
  | f + 1, d, e => ∃ k tx bl its its' fls fls' ln co ln' co', d = litD k tx bl (Dt.of its) (Dt.of fls) ln co ∧ e = litD k tx bl (Dt.of its') (Dt.of fls') ln' co' ∧ (pl = true → ln = ln' ∧ co = co') ∧
      its.length = its'.length ∧ fls.length = fls'.length ∧ (∀ (i : Nat) x y, its[i]? = some x → its'[i]? = some y → EqL pl f x y) ∧
      (∀ (i : Nat) x y, fls[i]? = some x → fls'[i]? = some y → ∃ nm v v' a b a' b', x = fldD nm v a b ∧ y = fldD nm v' a' b' ∧ (pl = true → a = a' ∧ b = b') ∧ EqL pl f v v')
theorem EqL.left {pl : Bool} : ∀ {f : Nat} {d e : Dt}, EqL pl f d e → ∃ k tx bl its fls ln co, d = litD k tx bl its fls ln co
  | 0, d, e, h => h.elim
  | f + 1, d, e, ⟨k, tx, bl, its, its', fls, fls', ln, co, ln', co', h, _⟩ => ⟨k, tx, bl, _, _, ln, co, h⟩
theorem EqL.right {pl : Bool} : ∀ {f : Nat} {d e : Dt}, EqL pl f d e → ∃ k tx bl its fls ln co, e = litD k tx bl its fls ln co
  | 0, d, e, h => h.elim
  | f + 1, d, e, ⟨k, tx, bl, its, its', fls, fls', ln, co, ln', co', _, h, _⟩ => ⟨k, tx, bl, _, _, ln', co', h⟩
theorem IsLit.same (pl : Bool) : ∀ {f : Nat} {d : Dt}, IsLit f d → EqL pl f d d
  | 0, d, h => h.elim
  | f + 1, d, h => by
    obtain ⟨k, tx, bl, its, fls, ln, co, rfl, hI, hF⟩ := h
    refine ⟨k, tx, bl, its, its, fls, fls, ln, co, ln, co, rfl, rfl, fun _ => ⟨rfl, rfl⟩, rfl, rfl, fun i x y hx hy => ?_, fun i x y hx hy => ?_⟩
    · rw [hx] at hy
      obtain rfl := Option.some.inj hy
      exact IsLit.same pl (hI x (List.mem_of_getElem? hx))
    · rw [hx] at hy
      obtain rfl := Option.some.inj hy
      obtain ⟨nm, v, a, b, rfl, hv⟩ := hF x (List.mem_of_getElem? hx)
      exact ⟨nm, v, v, a, b, a, b, rfl, rfl, fun _ => ⟨rfl, rfl⟩, IsLit.same pl hv⟩
theorem lit_shape {w : World} {k : Int} {tx : ByteArray} {bl : Bool} {its fls : Dt} {ln co : Int} {cs : List Value} {F : List Nat} (h : Ow w (litD k tx bl its fls ln co) cs F) : LShape cs := by
  unfold litD at h
  unfold Ow at h
  obtain ⟨d1, rfl, _, h⟩ := h
  unfold Ow at h
  obtain ⟨d2, rfl, _, h⟩ := h
  unfold Ow at h
  obtain ⟨d3, rfl, _, h⟩ := h
  unfold Ow at h
  obtain ⟨ai, ni, ci, d4, F1, F2, rfl, i1, i2, i3, i4, h, rfl⟩ := h
  unfold Ow at h
  obtain ⟨af, nf, cf, d5, F3, F4, rfl, j1, j2, j3, j4, h, rfl⟩ := h
  unfold Ow at h
  obtain ⟨d6, rfl, _, h⟩ := h
  unfold Ow at h
  obtain ⟨d7, rfl, _, h⟩ := h
  unfold Ow at h
  obtain ⟨rfl, rfl⟩ := h
  exact ⟨_, _, _, _, _, _, _, _, _, _, _, rfl⟩
def SmAt (pl : Bool) (d e : Dt) : Prop := ∀ (w : World) (cs ds : List Value) (F G : List Nat), Ow w d cs F → Ow w e ds G → (∀ b ∈ F, b < w.heap.size) → (∀ b ∈ G, b < w.heap.size) → Calls Try.prog 8 #[.agg cs.toArray, .agg ds.toArray, .bool pl] w fun e w' => e = .returned (.bool true) ∧ Below w.heap.size w w'
structure SmI (w wr : World) (vc uc : Array Value) : Prop where
  bel : Below w.heap.size w wr
  v : wr.heap[w.heap.size]? = some (.cells vc 30 (0, 0))
  u : wr.heap[w.heap.size + 1]? = some (.cells uc 30 (0, 0))
theorem SmI.more {w wr wn : World} {vc uc : Array Value} (h : SmI w wr vc uc) (hb : Below wr.heap.size wr wn) : SmI w wn vc uc := by
  have h1 : w.heap.size < wr.heap.size := by
    rcases Nat.lt_or_ge w.heap.size wr.heap.size with g | g
    · exact g
    · have := h.v; rw [Array.getElem?_eq_none g] at this; cases this
  have h2 : w.heap.size + 1 < wr.heap.size := by
    rcases Nat.lt_or_ge (w.heap.size + 1) wr.heap.size with g | g
    · exact g
    · have := h.u; rw [Array.getElem?_eq_none g] at this; cases this
  exact ⟨h.bel.trans (hb.mono h.bel.size), (hb.block _ h1).trans h.v, (hb.block _ h2).trans h.u⟩
set_option maxHeartbeats 8000000 in
set_option maxRecDepth 4000 in
theorem same_t : ∀ (f : Nat) (d e : Dt), EqL true f d e → SmAt true d e
  | 0, d, e, h => h.elim
  | f + 1, d, e, h => by
    obtain ⟨k, tx, bl, its, its', fls, fls', ln, co, ln', co', rfl, rfl, hpl, hil, hfl, hI, hF⟩ := h
    intro w cs ds F G how how' hFw hGw
    obtain ⟨ai, n1, ci, af, n2, cf, rfl, hn1, hn2, l1, l2, l3, l4, hit, hft⟩ := lit_cells how
    obtain ⟨ai', n1', ci', af', n2', cf', rfl, hn1', hn2', l1', l2', l3', l4', hit', hft'⟩ := lit_cells how'
    obtain rfl : n1 = n1' := by omega
    obtain rfl : n2 = n2' := by omega
    have Hn := hide (And.intro (And.intro hn1 hn1') (And.intro hn2 hn2'))
    clear hn1 hn1' hn2 hn2' hil hfl
    have ih := hide (fun d e hd => same_t f d e hd)
    have HI := hide hI
    have HFl := hide hF
    have Hit := hide hit
    have Hft := hide hft
    have Hit' := hide hit'
    have Hft' := hide hft'
    have HW := hide hFw
    have HW' := hide hGw
    clear hI hF hit hft hit' hft' hFw hGw how how'
    unfold maxLen at l3 l4 l3' l4'
    obtain ⟨vc, hvc⟩ : ∃ vc : Array Value, vc = #[.int .i64 k, .string tx, .bool bl, .slice ai n1 ci, .slice af n2 cf, .int .i64 ln, .int .i64 co] := ⟨_, rfl⟩
    obtain ⟨uc, huc⟩ : ∃ uc : Array Value, uc = #[.int .i64 k, .string tx, .bool bl, .slice ai' n1 ci', .slice af' n2 cf', .int .i64 ln', .int .i64 co'] := ⟨_, rfl⟩
    obtain ⟨rfl, rfl⟩ := hpl rfl
    go_enter Try.func8, Try.ntmps8
    go_wp2_with fail
    obtain ⟨w0, hw0⟩ : ∃ w0, w0 = (w.alloc (.cells #[.int .i64 k, .string tx, .bool bl, .slice ai n1 ci, .slice af n2 cf, .int .i64 ln, .int .i64 co] 30)).alloc (.cells #[.int .i64 k, .string tx, .bool bl, .slice ai' n1 ci', .slice af' n2 cf', .int .i64 ln, .int .i64 co] 30) := ⟨_, rfl⟩
    have HV0 := hide (show SmI w w0 vc uc from by
      rw [hw0, hvc, huc]
      refine ⟨((Below.refl _ _).alloc (Nat.le_refl _) _).alloc (by simp) _, (Below.heap_alloc _ _ w.heap.size (by simp)).trans (heap_alloc_new w _), ?_⟩
      have := heap_alloc_new (w.alloc (.cells #[.int .i64 k, .string tx, .bool bl, .slice ai n1 ci, .slice af n2 cf, .int .i64 ln, .int .i64 co] 30)) (.cells #[.int .i64 k, .string tx, .bool bl, .slice ai' n1 ci', .slice af' n2 cf', .int .i64 ln, .int .i64 co] 30)
      simpa using this)
    rw [← hw0]
    clear hw0
    go_loopw [7] (fun i wr => ∃ j : Nat, j ≤ n1 ∧ i = .int .i64 j ∧ SmI w wr vc uc) (fun i _ => n1 - (intOf i).toNat)
    case atStart => exact ⟨0, Nat.zero_le _, rfl, unhide HV0⟩
    case round =>
      obtain ⟨j, hj, rfl, hI⟩ := hrel
      have d3 : wr.cell? ⟨w.heap.size, 3, none⟩ = some (.slice ai n1 ci) := (dt.cell_cells hI.v 3).trans (by rw [hvc]; rfl)
      have u3 : wr.cell? ⟨w.heap.size + 1, 3, none⟩ = some (.slice ai' n1 ci') := (dt.cell_cells hI.u 3).trans (by rw [huc]; rfl)
      by_cases hlt : j < n1
      · have ji : (j : Int) < (n1 : Int) := by omega
        have hlt1 : j < its.length := by have := unhide Hn; omega
        have hlt2 : j < its'.length := by have := unhide Hn; omega
        obtain ⟨p, ds, G1, rfl, hpF, hrow, hdl, hod, hGF⟩ := (unhide Hit) j _ (List.getElem?_eq_getElem hlt1)
        obtain ⟨p', ds', G2, rfl, hpF', hrow', hdl', hod', hGF'⟩ := (unhide Hit') j _ (List.getElem?_eq_getElem hlt2)
        have heq := (unhide HI) j _ _ (List.getElem?_eq_getElem hlt1) (List.getElem?_eq_getElem hlt2)
        obtain ⟨e1, he1⟩ : ∃ e, e = its[j] := ⟨_, rfl⟩
        obtain ⟨e2, he2⟩ : ∃ e, e = its'[j] := ⟨_, rfl⟩
        rw [← he1, ← he2] at heq
        rw [← he1] at hod
        rw [← he2] at hod'
        clear he1 he2
        have hshp : LShape ds ∧ LShape ds' := by
          obtain ⟨_, _, _, _, _, _, _, h1⟩ := heq.left
          obtain ⟨_, _, _, _, _, _, _, h2⟩ := heq.right
          rw [h1] at hod
          rw [h2] at hod'
          exact ⟨lit_shape hod, lit_shape hod'⟩
        obtain ⟨⟨k1, tx1, bl1, ai1, ni1, ci1, af1, nf1, cf1, ln1, co1, rfl⟩, ⟨k2, tx2, bl2, ai2, ni2, ci2, af2, nf2, cf2, ln2, co2, rfl⟩⟩ := hshp
        have hov := hod
        have hov' := hod'
        have hplt := (unhide HW) p hpF
        have hplt' := (unhide HW') p' hpF'
        have hr := fun (q : Nat) (u : Value) hu => (hI.bel.cell (p := ⟨p, j * 7 + q, none⟩) hplt).trans (hrow q u hu)
        have hr' := fun (q : Nat) (u : Value) hu => (hI.bel.cell (p := ⟨p', j * 7 + q, none⟩) hplt').trans (hrow' q u hu)
        have m0 : wr.cell? ⟨p, j * 7, none⟩ = some (.int .i64 k1) := hr 0 _ rfl
        have m1 : wr.cell? ⟨p, j * 7 + 1, none⟩ = some (.string tx1) := hr 1 _ rfl
        have m2 : wr.cell? ⟨p, j * 7 + 2, none⟩ = some (.bool bl1) := hr 2 _ rfl
        have m3 : wr.cell? ⟨p, j * 7 + 3, none⟩ = some (.slice ai1 ni1 ci1) := hr 3 _ rfl
        have m4 : wr.cell? ⟨p, j * 7 + 4, none⟩ = some (.slice af1 nf1 cf1) := hr 4 _ rfl
        have m5 : wr.cell? ⟨p, j * 7 + 5, none⟩ = some (.int .i64 ln1) := hr 5 _ rfl
        have m6 : wr.cell? ⟨p, j * 7 + 6, none⟩ = some (.int .i64 co1) := hr 6 _ rfl
        have n0 : wr.cell? ⟨p', j * 7, none⟩ = some (.int .i64 k2) := hr' 0 _ rfl
        have n1 : wr.cell? ⟨p', j * 7 + 1, none⟩ = some (.string tx2) := hr' 1 _ rfl
        have n2 : wr.cell? ⟨p', j * 7 + 2, none⟩ = some (.bool bl2) := hr' 2 _ rfl
        have n3 : wr.cell? ⟨p', j * 7 + 3, none⟩ = some (.slice ai2 ni2 ci2) := hr' 3 _ rfl
        have n4 : wr.cell? ⟨p', j * 7 + 4, none⟩ = some (.slice af2 nf2 cf2) := hr' 4 _ rfl
        have n5 : wr.cell? ⟨p', j * 7 + 5, none⟩ = some (.int .i64 ln2) := hr' 5 _ rfl
        have n6 : wr.cell? ⟨p', j * 7 + 6, none⟩ = some (.int .i64 co2) := hr' 6 _ rfl
        have hC := hide (fun W (hb : Below w.heap.size w W) => (unhide ih) e1 e2 heq W [Value.int .i64 k1, .string tx1, .bool bl1, .slice ai1 ni1 ci1, .slice af1 nf1 cf1, .int .i64 ln1, .int .i64 co1] [Value.int .i64 k2, .string tx2, .bool bl2, .slice ai2 ni2 ci2, .slice af2 nf2 cf2, .int .i64 ln2, .int .i64 co2] G1 G2 (dt.Ow.agree e1 _ G1 (fun b hb' o => hb.cell (p := ⟨b, o, none⟩) ((unhide HW) b (hGF b hb'))) hov) (dt.Ow.agree e2 _ G2 (fun b hb' o => hb.cell (p := ⟨b, o, none⟩) ((unhide HW') b (hGF' b hb'))) hov') (fun b hb' => Nat.lt_of_lt_of_le ((unhide HW) b (hGF b hb')) hb.size) (fun b hb' => Nat.lt_of_lt_of_le ((unhide HW') b (hGF' b hb')) hb.size))
        have hs0 : w.heap.size < wr.heap.size := by
          rcases Nat.lt_or_ge w.heap.size wr.heap.size with g | g
          · exact g
          · have := hI.v; rw [Array.getElem?_eq_none g] at this; cases this
        have hs1 : w.heap.size + 1 < wr.heap.size := by
          rcases Nat.lt_or_ge (w.heap.size + 1) wr.heap.size with g | g
          · exact g
          · have := hI.u; rw [Array.getElem?_eq_none g] at this; cases this
        have hq1 : p < wr.heap.size := by omega
        have hq2 : p' < wr.heap.size := by omega
        clear hr hr' hrow hrow' hov hov' heq hdl hdl'
        go_wp2_with fail
        have hS0 : Below wr.heap.size wr { wr with drawn := wr.drawn + 1 } := (Below.refl _ _).drew
        have bD := hI.bel.trans (hS0.mono hI.bel.size)
        refine wp_region_noPanic ?_
        refine wp_region_held (S := fun w' => Below wr.heap.size wr w') mixed ?_
        refine wpAnyH_take (i := 0) (v := ?v1) rfl (by kernel_rfl) (by kernel_rfl) (by kernel_rfl) (fun _ _ _ h => h) (Or.inl ⟨by rfl, ?hy1⟩) hS0 ?_
        case hy1 => (intro w' hw'; skip; go_simp; try with_reducible rfl)
        simp only [List.getElem_toArray, List.getElem_cons_zero, List.getElem_cons_succ, Act.put, List.setIfInBounds_toArray, List.set_cons_zero, List.set_cons_succ]
        refine wpAnyH_take (i := 1) (v := ?v2) rfl (by kernel_rfl) (by kernel_rfl) (by kernel_rfl) (fun _ _ _ h => h) (Or.inl ⟨by rfl, ?hy2⟩) hS0 ?_
        case hy2 => (intro w' hw'; have d3' := (hw'.cell (p := ⟨w.heap.size, 3, none⟩) hs0).trans d3; go_simp; try with_reducible rfl)
        simp only [List.getElem_toArray, List.getElem_cons_zero, List.getElem_cons_succ, Act.put, List.setIfInBounds_toArray, List.set_cons_zero, List.set_cons_succ]
        refine wpAnyH_take (i := 2) (v := ?v3) rfl (by kernel_rfl) (by kernel_rfl) (by kernel_rfl) (fun _ _ _ h => h) (Or.inl ⟨by rfl, ?hy3⟩) hS0 ?_
        case hy3 => (intro w' hw'; skip; go_simp; try with_reducible rfl)
        simp only [List.getElem_toArray, List.getElem_cons_zero, List.getElem_cons_succ, Act.put, List.setIfInBounds_toArray, List.set_cons_zero, List.set_cons_succ]
        refine wpAnyH_take (i := 3) (v := ?v4) rfl (by kernel_rfl) (by kernel_rfl) (by kernel_rfl) (fun _ _ _ h => h) (Or.inl ⟨by rfl, ?hy4⟩) hS0 ?_
        case hy4 => (intro w' hw'; skip; go_simp; try with_reducible rfl)
        simp only [List.getElem_toArray, List.getElem_cons_zero, List.getElem_cons_succ, Act.put, List.setIfInBounds_toArray, List.set_cons_zero, List.set_cons_succ]
        refine wpAnyH_take (i := 4) (v := ?v5) rfl (by kernel_rfl) (by kernel_rfl) (by kernel_rfl) (fun _ _ _ h => h) (Or.inl ⟨by rfl, ?hy5⟩) hS0 ?_
        case hy5 => (intro w' hw'; have m0' := (hw'.cell (p := ⟨p, j * 7, none⟩) hq1).trans m0; have m1' := (hw'.cell (p := ⟨p, j * 7 + 1, none⟩) hq1).trans m1; have m2' := (hw'.cell (p := ⟨p, j * 7 + 2, none⟩) hq1).trans m2; have m3' := (hw'.cell (p := ⟨p, j * 7 + 3, none⟩) hq1).trans m3; have m4' := (hw'.cell (p := ⟨p, j * 7 + 4, none⟩) hq1).trans m4; have m5' := (hw'.cell (p := ⟨p, j * 7 + 5, none⟩) hq1).trans m5; have m6' := (hw'.cell (p := ⟨p, j * 7 + 6, none⟩) hq1).trans m6; go_simp; try with_reducible rfl)
        simp only [List.getElem_toArray, List.getElem_cons_zero, List.getElem_cons_succ, Act.put, List.setIfInBounds_toArray, List.set_cons_zero, List.set_cons_succ]
        refine wpAnyH_take (i := 5) (v := ?v6) rfl (by kernel_rfl) (by kernel_rfl) (by kernel_rfl) (fun _ _ _ h => h) (Or.inl ⟨by rfl, ?hy6⟩) hS0 ?_
        case hy6 => (intro w' hw'; skip; go_simp; try with_reducible rfl)
        simp only [List.getElem_toArray, List.getElem_cons_zero, List.getElem_cons_succ, Act.put, List.setIfInBounds_toArray, List.set_cons_zero, List.set_cons_succ]
        refine wpAnyH_take (i := 6) (v := ?v7) rfl (by kernel_rfl) (by kernel_rfl) (by kernel_rfl) (fun _ _ _ h => h) (Or.inl ⟨by rfl, ?hy7⟩) hS0 ?_
        case hy7 => (intro w' hw'; have u3' := (hw'.cell (p := ⟨w.heap.size + 1, 3, none⟩) hs1).trans u3; go_simp; try with_reducible rfl)
        simp only [List.getElem_toArray, List.getElem_cons_zero, List.getElem_cons_succ, Act.put, List.setIfInBounds_toArray, List.set_cons_zero, List.set_cons_succ]
        refine wpAnyH_take (i := 7) (v := ?v8) rfl (by kernel_rfl) (by kernel_rfl) (by kernel_rfl) (fun _ _ _ h => h) (Or.inl ⟨by rfl, ?hy8⟩) hS0 ?_
        case hy8 => (intro w' hw'; skip; go_simp; try with_reducible rfl)
        simp only [List.getElem_toArray, List.getElem_cons_zero, List.getElem_cons_succ, Act.put, List.setIfInBounds_toArray, List.set_cons_zero, List.set_cons_succ]
        refine wpAnyH_take (i := 8) (v := ?v9) rfl (by kernel_rfl) (by kernel_rfl) (by kernel_rfl) (fun _ _ _ h => h) (Or.inl ⟨by rfl, ?hy9⟩) hS0 ?_
        case hy9 => (intro w' hw'; skip; go_simp; try with_reducible rfl)
        simp only [List.getElem_toArray, List.getElem_cons_zero, List.getElem_cons_succ, Act.put, List.setIfInBounds_toArray, List.set_cons_zero, List.set_cons_succ]
        refine wpAnyH_take (i := 9) (v := ?v10) rfl (by kernel_rfl) (by kernel_rfl) (by kernel_rfl) (fun _ _ _ h => h) (Or.inl ⟨by rfl, ?hy10⟩) hS0 ?_
        case hy10 => (intro w' hw'; have n0' := (hw'.cell (p := ⟨p', j * 7, none⟩) hq2).trans n0; have n1' := (hw'.cell (p := ⟨p', j * 7 + 1, none⟩) hq2).trans n1; have n2' := (hw'.cell (p := ⟨p', j * 7 + 2, none⟩) hq2).trans n2; have n3' := (hw'.cell (p := ⟨p', j * 7 + 3, none⟩) hq2).trans n3; have n4' := (hw'.cell (p := ⟨p', j * 7 + 4, none⟩) hq2).trans n4; have n5' := (hw'.cell (p := ⟨p', j * 7 + 5, none⟩) hq2).trans n5; have n6' := (hw'.cell (p := ⟨p', j * 7 + 6, none⟩) hq2).trans n6; go_simp; try with_reducible rfl)
        simp only [List.getElem_toArray, List.getElem_cons_zero, List.getElem_cons_succ, Act.put, List.setIfInBounds_toArray, List.set_cons_zero, List.set_cons_succ]
        refine wpAnyH_take (i := 10) (v := ?v11) rfl (by kernel_rfl) (by kernel_rfl) (by kernel_rfl) (fun _ _ _ h => h) (Or.inl ⟨by rfl, ?hy11⟩) hS0 ?_
        case hy11 => (intro w' hw'; skip; go_simp; try with_reducible rfl)
        simp only [List.getElem_toArray, List.getElem_cons_zero, List.getElem_cons_succ, Act.put, List.setIfInBounds_toArray, List.set_cons_zero, List.set_cons_succ]
        refine rgn.one (i := 11) _ rfl (by kernel_rfl) (by rfl) ?_
        simp only [List.getElem_toArray, List.getElem_cons_zero, List.getElem_cons_succ, Act.put, List.setIfInBounds_toArray, List.set_cons_zero, List.set_cons_succ]
        go_wp2_with fail
        refine ((unhide hC) _ bD).mono ?_
        rintro e' w2 ⟨rfl, b2⟩
        have b02 : Below wr.heap.size wr w2 := hS0.trans b2
        refine ⟨b02, ?_⟩
        clear hS0 b2 bD
        have hS0 := b02
        try simp only [List.getElem_toArray, List.getElem_cons_zero, List.getElem_cons_succ, Act.put, List.setIfInBounds_toArray, List.set_cons_zero, List.set_cons_succ]
        refine rgn.take (i := 12) _ (.bool true) rfl (by kernel_rfl) (by kernel_rfl) (by kernel_rfl) (fun _ _ _ h => h) (by rfl) hS0 (fun w' hw' => by go_simp) ?_
        simp only [List.getElem_toArray, List.getElem_cons_zero, List.getElem_cons_succ, Act.put, List.setIfInBounds_toArray, List.set_cons_zero, List.set_cons_succ]
        refine wpAnyH_done (by kernel_rfl) ?_ _; refine NoPanic.normal ?_
        have hI2 := hI.more b02
        clear m0 m1 m2 m3 m4 m5 m6 n0 n1 n2 n3 n4 n5 n6 d3 u3 hC hS0
        go_wp2_with fail
        go_roundw
        case rel => exact ⟨j + 1, by omega, by go_num, hI2⟩
        case measure => first | (simp [intOf]; omega) | simp [intOf]
      · have ji : ¬ (j : Int) < (n1 : Int) := by omega
        have hI9 := hide hI
        clear hlt
        go_wp2_with fail
        have HV0 := hI9
        clear d3 u3
        go_loopw [9] (fun i wr => ∃ j : Nat, j ≤ n2 ∧ i = .int .i64 j ∧ SmI w wr vc uc) (fun i _ => n2 - (intOf i).toNat)
        case atStart => exact ⟨0, Nat.zero_le _, rfl, unhide HV0⟩
        case round =>
          obtain ⟨j, hj, rfl, hI⟩ := hrel
          have d3 : wr.cell? ⟨w.heap.size, 4, none⟩ = some (.slice af n2 cf) := (dt.cell_cells hI.v 4).trans (by rw [hvc]; rfl)
          have u3 : wr.cell? ⟨w.heap.size + 1, 4, none⟩ = some (.slice af' n2 cf') := (dt.cell_cells hI.u 4).trans (by rw [huc]; rfl)
          by_cases hlt : j < n2
          · have ji : (j : Int) < (n2 : Int) := by omega
            have hlt1 : j < fls.length := by have := unhide Hn; omega
            have hlt2 : j < fls'.length := by have := unhide Hn; omega
            obtain ⟨p, ds, G1, rfl, hpF, hrow, hdl, hod, hGF⟩ := (unhide Hft) j _ (List.getElem?_eq_getElem hlt1)
            obtain ⟨p', ds', G2, rfl, hpF', hrow', hdl', hod', hGF'⟩ := (unhide Hft') j _ (List.getElem?_eq_getElem hlt2)
            obtain ⟨nm, e1, e2, x1, y1, x2, y2, hx, hy, hxy, heq⟩ := (unhide HFl) j _ _ (List.getElem?_eq_getElem hlt1) (List.getElem?_eq_getElem hlt2)
            rw [hx] at hod
            rw [hy] at hod'
            have hshp : ∃ k1 tx1 bl1 ai1 ni1 ci1 af1 nf1 cf1 ln1 co1 k2 tx2 bl2 ai2 ni2 ci2 af2 nf2 cf2 ln2 co2, ds = [.string nm, .int .i64 k1, .string tx1, .bool bl1, .slice ai1 ni1 ci1, .slice af1 nf1 cf1, .int .i64 ln1, .int .i64 co1, .int .i64 x1, .int .i64 y1] ∧ ds' = [.string nm, .int .i64 k2, .string tx2, .bool bl2, .slice ai2 ni2 ci2, .slice af2 nf2 cf2, .int .i64 ln2, .int .i64 co2, .int .i64 x2, .int .i64 y2] ∧ Ow w e1 [.int .i64 k1, .string tx1, .bool bl1, .slice ai1 ni1 ci1, .slice af1 nf1 cf1, .int .i64 ln1, .int .i64 co1] G1 ∧ Ow w e2 [.int .i64 k2, .string tx2, .bool bl2, .slice ai2 ni2 ci2, .slice af2 nf2 cf2, .int .i64 ln2, .int .i64 co2] G2 := by
              obtain ⟨k1, tx1, bl1, i1, f1, ln1, co1, h1⟩ := heq.left
              obtain ⟨k2, tx2, bl2, i2, f2, ln2, co2, h2⟩ := heq.right
              rw [h1] at hod
              rw [h2] at hod'
              obtain ⟨a1, a2, a3, a4, a5, a6, q1, q2⟩ := fld_cells hod
              obtain ⟨b1, b2, b3, b4, b5, b6, r1, r2⟩ := fld_cells hod'
              rw [← h1] at q2
              rw [← h2] at r2
              exact ⟨k1, tx1, bl1, a1, a2, a3, a4, a5, a6, ln1, co1, k2, tx2, bl2, b1, b2, b3, b4, b5, b6, ln2, co2, q1, r1, q2, r2⟩
            obtain ⟨k1, tx1, bl1, ai1, ni1, ci1, af1, nf1, cf1, ln1, co1, k2, tx2, bl2, ai2, ni2, ci2, af2, nf2, cf2, ln2, co2, rfl, rfl, hov, hov'⟩ := hshp
            obtain ⟨rfl, rfl⟩ := hxy (by first | rfl | trivial)
            clear hod hod' hx hy
            have hplt := (unhide HW) p hpF
            have hplt' := (unhide HW') p' hpF'
            have hr := fun (q : Nat) (u : Value) hu => (hI.bel.cell (p := ⟨p, j * 10 + q, none⟩) hplt).trans (hrow q u hu)
            have hr' := fun (q : Nat) (u : Value) hu => (hI.bel.cell (p := ⟨p', j * 10 + q, none⟩) hplt').trans (hrow' q u hu)
            have mN : wr.cell? ⟨p, j * 10, none⟩ = some (.string nm) := hr 0 _ rfl
            have m0 : wr.cell? ⟨p, j * 10 + 1, none⟩ = some (.int .i64 k1) := hr 1 _ rfl
            have m1 : wr.cell? ⟨p, j * 10 + 2, none⟩ = some (.string tx1) := hr 2 _ rfl
            have m2 : wr.cell? ⟨p, j * 10 + 3, none⟩ = some (.bool bl1) := hr 3 _ rfl
            have m3 : wr.cell? ⟨p, j * 10 + 4, none⟩ = some (.slice ai1 ni1 ci1) := hr 4 _ rfl
            have m4 : wr.cell? ⟨p, j * 10 + 5, none⟩ = some (.slice af1 nf1 cf1) := hr 5 _ rfl
            have m5 : wr.cell? ⟨p, j * 10 + 6, none⟩ = some (.int .i64 ln1) := hr 6 _ rfl
            have m6 : wr.cell? ⟨p, j * 10 + 7, none⟩ = some (.int .i64 co1) := hr 7 _ rfl
            have m8 : wr.cell? ⟨p, j * 10 + 8, none⟩ = some (.int .i64 x1) := hr 8 _ rfl
            have m9 : wr.cell? ⟨p, j * 10 + 9, none⟩ = some (.int .i64 y1) := hr 9 _ rfl
            have nN : wr.cell? ⟨p', j * 10, none⟩ = some (.string nm) := hr' 0 _ rfl
            have n0 : wr.cell? ⟨p', j * 10 + 1, none⟩ = some (.int .i64 k2) := hr' 1 _ rfl
            have n1 : wr.cell? ⟨p', j * 10 + 2, none⟩ = some (.string tx2) := hr' 2 _ rfl
            have n2 : wr.cell? ⟨p', j * 10 + 3, none⟩ = some (.bool bl2) := hr' 3 _ rfl
            have n3 : wr.cell? ⟨p', j * 10 + 4, none⟩ = some (.slice ai2 ni2 ci2) := hr' 4 _ rfl
            have n4 : wr.cell? ⟨p', j * 10 + 5, none⟩ = some (.slice af2 nf2 cf2) := hr' 5 _ rfl
            have n5 : wr.cell? ⟨p', j * 10 + 6, none⟩ = some (.int .i64 ln2) := hr' 6 _ rfl
            have n6 : wr.cell? ⟨p', j * 10 + 7, none⟩ = some (.int .i64 co2) := hr' 7 _ rfl
            have n8 : wr.cell? ⟨p', j * 10 + 8, none⟩ = some (.int .i64 x1) := hr' 8 _ rfl
            have n9 : wr.cell? ⟨p', j * 10 + 9, none⟩ = some (.int .i64 y1) := hr' 9 _ rfl
            have hC := hide (fun W (hb : Below w.heap.size w W) => (unhide ih) e1 e2 heq W [Value.int .i64 k1, .string tx1, .bool bl1, .slice ai1 ni1 ci1, .slice af1 nf1 cf1, .int .i64 ln1, .int .i64 co1] [Value.int .i64 k2, .string tx2, .bool bl2, .slice ai2 ni2 ci2, .slice af2 nf2 cf2, .int .i64 ln2, .int .i64 co2] G1 G2 (dt.Ow.agree e1 _ G1 (fun b hb' o => hb.cell (p := ⟨b, o, none⟩) ((unhide HW) b (hGF b hb'))) hov) (dt.Ow.agree e2 _ G2 (fun b hb' o => hb.cell (p := ⟨b, o, none⟩) ((unhide HW') b (hGF' b hb'))) hov') (fun b hb' => Nat.lt_of_lt_of_le ((unhide HW) b (hGF b hb')) hb.size) (fun b hb' => Nat.lt_of_lt_of_le ((unhide HW') b (hGF' b hb')) hb.size))
            have hs0 : w.heap.size < wr.heap.size := by
              rcases Nat.lt_or_ge w.heap.size wr.heap.size with g | g
              · exact g
              · have := hI.v; rw [Array.getElem?_eq_none g] at this; cases this
            have hs1 : w.heap.size + 1 < wr.heap.size := by
              rcases Nat.lt_or_ge (w.heap.size + 1) wr.heap.size with g | g
              · exact g
              · have := hI.u; rw [Array.getElem?_eq_none g] at this; cases this
            have hq1 : p < wr.heap.size := by omega
            have hq2 : p' < wr.heap.size := by omega
            clear hr hr' hrow hrow' hov hov' heq hdl hdl'
            go_wp2_with fail
            have hS0 : Below wr.heap.size wr { wr with drawn := wr.drawn + 1 } := (Below.refl _ _).drew
            have bD := hI.bel.trans (hS0.mono hI.bel.size)
            refine wp_region_noPanic ?_
            refine wp_region_held (S := fun w' => Below wr.heap.size wr w') mixed ?_
            refine wpAnyH_take (i := 0) (v := ?v12) rfl (by kernel_rfl) (by kernel_rfl) (by kernel_rfl) (fun _ _ _ h => h) (Or.inl ⟨by rfl, ?hy12⟩) hS0 ?_
            case hy12 => (intro w' hw'; skip; go_simp; try with_reducible rfl)
            simp only [List.getElem_toArray, List.getElem_cons_zero, List.getElem_cons_succ, Act.put, List.setIfInBounds_toArray, List.set_cons_zero, List.set_cons_succ]
            refine wpAnyH_take (i := 1) (v := ?v13) rfl (by kernel_rfl) (by kernel_rfl) (by kernel_rfl) (fun _ _ _ h => h) (Or.inl ⟨by rfl, ?hy13⟩) hS0 ?_
            case hy13 => (intro w' hw'; have d3' := (hw'.cell (p := ⟨w.heap.size, 4, none⟩) hs0).trans d3; go_simp; try with_reducible rfl)
            simp only [List.getElem_toArray, List.getElem_cons_zero, List.getElem_cons_succ, Act.put, List.setIfInBounds_toArray, List.set_cons_zero, List.set_cons_succ]
            refine wpAnyH_take (i := 2) (v := ?v14) rfl (by kernel_rfl) (by kernel_rfl) (by kernel_rfl) (fun _ _ _ h => h) (Or.inl ⟨by rfl, ?hy14⟩) hS0 ?_
            case hy14 => (intro w' hw'; skip; go_simp; try with_reducible rfl)
            simp only [List.getElem_toArray, List.getElem_cons_zero, List.getElem_cons_succ, Act.put, List.setIfInBounds_toArray, List.set_cons_zero, List.set_cons_succ]
            refine wpAnyH_take (i := 3) (v := ?v15) rfl (by kernel_rfl) (by kernel_rfl) (by kernel_rfl) (fun _ _ _ h => h) (Or.inl ⟨by rfl, ?hy15⟩) hS0 ?_
            case hy15 => (intro w' hw'; skip; go_simp; try with_reducible rfl)
            simp only [List.getElem_toArray, List.getElem_cons_zero, List.getElem_cons_succ, Act.put, List.setIfInBounds_toArray, List.set_cons_zero, List.set_cons_succ]
            refine wpAnyH_take (i := 4) (v := ?v16) rfl (by kernel_rfl) (by kernel_rfl) (by kernel_rfl) (fun _ _ _ h => h) (Or.inl ⟨by rfl, ?hy16⟩) hS0 ?_
            case hy16 => (intro w' hw'; skip; go_simp; try with_reducible rfl)
            simp only [List.getElem_toArray, List.getElem_cons_zero, List.getElem_cons_succ, Act.put, List.setIfInBounds_toArray, List.set_cons_zero, List.set_cons_succ]
            refine wpAnyH_take (i := 5) (v := ?v17) rfl (by kernel_rfl) (by kernel_rfl) (by kernel_rfl) (fun _ _ _ h => h) (Or.inl ⟨by rfl, ?hy17⟩) hS0 ?_
            case hy17 => (intro w' hw'; have m0' := (hw'.cell (p := ⟨p, j * 10 + 1, none⟩) hq1).trans m0; have m1' := (hw'.cell (p := ⟨p, j * 10 + 2, none⟩) hq1).trans m1; have m2' := (hw'.cell (p := ⟨p, j * 10 + 3, none⟩) hq1).trans m2; have m3' := (hw'.cell (p := ⟨p, j * 10 + 4, none⟩) hq1).trans m3; have m4' := (hw'.cell (p := ⟨p, j * 10 + 5, none⟩) hq1).trans m4; have m5' := (hw'.cell (p := ⟨p, j * 10 + 6, none⟩) hq1).trans m5; have m6' := (hw'.cell (p := ⟨p, j * 10 + 7, none⟩) hq1).trans m6; go_simp; try with_reducible rfl)
            simp only [List.getElem_toArray, List.getElem_cons_zero, List.getElem_cons_succ, Act.put, List.setIfInBounds_toArray, List.set_cons_zero, List.set_cons_succ]
            refine wpAnyH_take (i := 6) (v := ?v18) rfl (by kernel_rfl) (by kernel_rfl) (by kernel_rfl) (fun _ _ _ h => h) (Or.inl ⟨by rfl, ?hy18⟩) hS0 ?_
            case hy18 => (intro w' hw'; skip; go_simp; try with_reducible rfl)
            simp only [List.getElem_toArray, List.getElem_cons_zero, List.getElem_cons_succ, Act.put, List.setIfInBounds_toArray, List.set_cons_zero, List.set_cons_succ]
            refine wpAnyH_take (i := 7) (v := ?v19) rfl (by kernel_rfl) (by kernel_rfl) (by kernel_rfl) (fun _ _ _ h => h) (Or.inl ⟨by rfl, ?hy19⟩) hS0 ?_
            case hy19 => (intro w' hw'; have u3' := (hw'.cell (p := ⟨w.heap.size + 1, 4, none⟩) hs1).trans u3; go_simp; try with_reducible rfl)
            simp only [List.getElem_toArray, List.getElem_cons_zero, List.getElem_cons_succ, Act.put, List.setIfInBounds_toArray, List.set_cons_zero, List.set_cons_succ]
            refine wpAnyH_take (i := 8) (v := ?v20) rfl (by kernel_rfl) (by kernel_rfl) (by kernel_rfl) (fun _ _ _ h => h) (Or.inl ⟨by rfl, ?hy20⟩) hS0 ?_
            case hy20 => (intro w' hw'; skip; go_simp; try with_reducible rfl)
            simp only [List.getElem_toArray, List.getElem_cons_zero, List.getElem_cons_succ, Act.put, List.setIfInBounds_toArray, List.set_cons_zero, List.set_cons_succ]
            refine wpAnyH_take (i := 9) (v := ?v21) rfl (by kernel_rfl) (by kernel_rfl) (by kernel_rfl) (fun _ _ _ h => h) (Or.inl ⟨by rfl, ?hy21⟩) hS0 ?_
            case hy21 => (intro w' hw'; skip; go_simp; try with_reducible rfl)
            simp only [List.getElem_toArray, List.getElem_cons_zero, List.getElem_cons_succ, Act.put, List.setIfInBounds_toArray, List.set_cons_zero, List.set_cons_succ]
            refine wpAnyH_take (i := 10) (v := ?v22) rfl (by kernel_rfl) (by kernel_rfl) (by kernel_rfl) (fun _ _ _ h => h) (Or.inl ⟨by rfl, ?hy22⟩) hS0 ?_
            case hy22 => (intro w' hw'; skip; go_simp; try with_reducible rfl)
            simp only [List.getElem_toArray, List.getElem_cons_zero, List.getElem_cons_succ, Act.put, List.setIfInBounds_toArray, List.set_cons_zero, List.set_cons_succ]
            refine wpAnyH_take (i := 11) (v := ?v23) rfl (by kernel_rfl) (by kernel_rfl) (by kernel_rfl) (fun _ _ _ h => h) (Or.inl ⟨by rfl, ?hy23⟩) hS0 ?_
            case hy23 => (intro w' hw'; have n0' := (hw'.cell (p := ⟨p', j * 10 + 1, none⟩) hq2).trans n0; have n1' := (hw'.cell (p := ⟨p', j * 10 + 2, none⟩) hq2).trans n1; have n2' := (hw'.cell (p := ⟨p', j * 10 + 3, none⟩) hq2).trans n2; have n3' := (hw'.cell (p := ⟨p', j * 10 + 4, none⟩) hq2).trans n3; have n4' := (hw'.cell (p := ⟨p', j * 10 + 5, none⟩) hq2).trans n4; have n5' := (hw'.cell (p := ⟨p', j * 10 + 6, none⟩) hq2).trans n5; have n6' := (hw'.cell (p := ⟨p', j * 10 + 7, none⟩) hq2).trans n6; go_simp; try with_reducible rfl)
            simp only [List.getElem_toArray, List.getElem_cons_zero, List.getElem_cons_succ, Act.put, List.setIfInBounds_toArray, List.set_cons_zero, List.set_cons_succ]
            refine wpAnyH_take (i := 12) (v := ?v24) rfl (by kernel_rfl) (by kernel_rfl) (by kernel_rfl) (fun _ _ _ h => h) (Or.inl ⟨by rfl, ?hy24⟩) hS0 ?_
            case hy24 => (intro w' hw'; skip; go_simp; try with_reducible rfl)
            simp only [List.getElem_toArray, List.getElem_cons_zero, List.getElem_cons_succ, Act.put, List.setIfInBounds_toArray, List.set_cons_zero, List.set_cons_succ]
            refine rgn.one (i := 13) _ rfl (by kernel_rfl) (by rfl) ?_
            simp only [List.getElem_toArray, List.getElem_cons_zero, List.getElem_cons_succ, Act.put, List.setIfInBounds_toArray, List.set_cons_zero, List.set_cons_succ]
            go_wp2_with fail
            refine ((unhide hC) _ bD).mono ?_
            rintro e' w2 ⟨rfl, b2⟩
            have b02 : Below wr.heap.size wr w2 := hS0.trans b2
            refine ⟨b02, ?_⟩
            clear hS0 b2 bD
            have hS0 := b02
            try simp only [List.getElem_toArray, List.getElem_cons_zero, List.getElem_cons_succ, Act.put, List.setIfInBounds_toArray, List.set_cons_zero, List.set_cons_succ]
            refine rgn.take (i := 14) _ (.bool true) rfl (by kernel_rfl) (by kernel_rfl) (by kernel_rfl) (fun _ _ _ h => h) (by rfl) hS0 (fun w' hw' => by go_simp) ?_
            simp only [List.getElem_toArray, List.getElem_cons_zero, List.getElem_cons_succ, Act.put, List.setIfInBounds_toArray, List.set_cons_zero, List.set_cons_succ]
            refine wpAnyH_done (by kernel_rfl) ?_ _; refine NoPanic.normal ?_
            have hI2 := hI.more b02
            have d3x := (b02.cell (p := ⟨w.heap.size, 4, none⟩) hs0).trans d3
            have u3x := (b02.cell (p := ⟨w.heap.size + 1, 4, none⟩) hs1).trans u3
            have mNx := (b02.cell (p := ⟨p, j * 10, none⟩) hq1).trans mN
            have nNx := (b02.cell (p := ⟨p', j * 10, none⟩) hq2).trans nN
            have m8x := (b02.cell (p := ⟨p, j * 10 + 8, none⟩) hq1).trans m8
            have n8x := (b02.cell (p := ⟨p', j * 10 + 8, none⟩) hq2).trans n8
            have m9x := (b02.cell (p := ⟨p, j * 10 + 9, none⟩) hq1).trans m9
            have n9x := (b02.cell (p := ⟨p', j * 10 + 9, none⟩) hq2).trans n9
            clear m0 m1 m2 m3 m4 m5 m6 n0 n1 n2 n3 n4 n5 n6 mN nN m8 n8 m9 n9 d3 u3 hC hS0
            go_wp2_with fail
            have hS0 : Below w2.heap.size w2 { w2 with drawn := w2.drawn + 1 } := (Below.refl _ _).drew
            have g0 : w.heap.size < w2.heap.size := Nat.lt_of_lt_of_le hs0 b02.size
            have g1 : w.heap.size + 1 < w2.heap.size := Nat.lt_of_lt_of_le hs1 b02.size
            have g2 : p < w2.heap.size := Nat.lt_of_lt_of_le hq1 b02.size
            have g3 : p' < w2.heap.size := Nat.lt_of_lt_of_le hq2 b02.size
            refine wp_region_noPanic ?_
            refine wp_region_held (S := fun w' => Below w2.heap.size w2 w') mixed ?_
            refine wpAnyH_take (i := 0) (v := ?v25) rfl (by kernel_rfl) (by kernel_rfl) (by kernel_rfl) (fun _ _ _ h => h) (Or.inl ⟨by rfl, ?hy25⟩) hS0 ?_
            case hy25 => (intro w' hw'; skip; go_simp; try with_reducible rfl)
            simp only [List.getElem_toArray, List.getElem_cons_zero, List.getElem_cons_succ, Act.put, List.setIfInBounds_toArray, List.set_cons_zero, List.set_cons_succ]
            refine wpAnyH_take (i := 1) (v := ?v26) rfl (by kernel_rfl) (by kernel_rfl) (by kernel_rfl) (fun _ _ _ h => h) (Or.inl ⟨by rfl, ?hy26⟩) hS0 ?_
            case hy26 => (intro w' hw'; skip; go_simp; try with_reducible rfl)
            simp only [List.getElem_toArray, List.getElem_cons_zero, List.getElem_cons_succ, Act.put, List.setIfInBounds_toArray, List.set_cons_zero, List.set_cons_succ]
            refine wpAnyH_take (i := 2) (v := ?v27) rfl (by kernel_rfl) (by kernel_rfl) (by kernel_rfl) (fun _ _ _ h => h) (Or.inl ⟨by rfl, ?hy27⟩) hS0 ?_
            case hy27 => (intro w' hw'; skip; go_simp; try with_reducible rfl)
            simp only [List.getElem_toArray, List.getElem_cons_zero, List.getElem_cons_succ, Act.put, List.setIfInBounds_toArray, List.set_cons_zero, List.set_cons_succ]
            refine wpAnyH_take (i := 3) (v := ?v28) rfl (by kernel_rfl) (by kernel_rfl) (by kernel_rfl) (fun _ _ _ h => h) (Or.inl ⟨by rfl, ?hy28⟩) hS0 ?_
            case hy28 => (intro w' hw'; skip; go_simp; try with_reducible rfl)
            simp only [List.getElem_toArray, List.getElem_cons_zero, List.getElem_cons_succ, Act.put, List.setIfInBounds_toArray, List.set_cons_zero, List.set_cons_succ]
            refine wpAnyH_take (i := 4) (v := ?v29) rfl (by kernel_rfl) (by kernel_rfl) (by kernel_rfl) (fun _ _ _ h => h) (Or.inl ⟨by rfl, ?hy29⟩) hS0 ?_
            case hy29 => (intro w' hw'; have d3' := (hw'.cell (p := ⟨w.heap.size, 4, none⟩) g0).trans d3x; go_simp; try with_reducible rfl)
            simp only [List.getElem_toArray, List.getElem_cons_zero, List.getElem_cons_succ, Act.put, List.setIfInBounds_toArray, List.set_cons_zero, List.set_cons_succ]
            refine wpAnyH_take (i := 5) (v := ?v30) rfl (by kernel_rfl) (by kernel_rfl) (by kernel_rfl) (fun _ _ _ h => h) (Or.inl ⟨by rfl, ?hy30⟩) hS0 ?_
            case hy30 => (intro w' hw'; skip; go_simp; try with_reducible rfl)
            simp only [List.getElem_toArray, List.getElem_cons_zero, List.getElem_cons_succ, Act.put, List.setIfInBounds_toArray, List.set_cons_zero, List.set_cons_succ]
            refine wpAnyH_take (i := 6) (v := ?v31) rfl (by kernel_rfl) (by kernel_rfl) (by kernel_rfl) (fun _ _ _ h => h) (Or.inl ⟨by rfl, ?hy31⟩) hS0 ?_
            case hy31 => (intro w' hw'; skip; go_simp; try with_reducible rfl)
            simp only [List.getElem_toArray, List.getElem_cons_zero, List.getElem_cons_succ, Act.put, List.setIfInBounds_toArray, List.set_cons_zero, List.set_cons_succ]
            refine wpAnyH_take (i := 7) (v := ?v32) rfl (by kernel_rfl) (by kernel_rfl) (by kernel_rfl) (fun _ _ _ h => h) (Or.inl ⟨by rfl, ?hy32⟩) hS0 ?_
            case hy32 => (intro w' hw'; skip; go_simp; try with_reducible rfl)
            simp only [List.getElem_toArray, List.getElem_cons_zero, List.getElem_cons_succ, Act.put, List.setIfInBounds_toArray, List.set_cons_zero, List.set_cons_succ]
            refine wpAnyH_take (i := 8) (v := ?v33) rfl (by kernel_rfl) (by kernel_rfl) (by kernel_rfl) (fun _ _ _ h => h) (Or.inl ⟨by rfl, ?hy33⟩) hS0 ?_
            case hy33 => (intro w' hw'; have mN' := (hw'.cell (p := ⟨p, j * 10, none⟩) g2).trans mNx; go_simp; try with_reducible rfl)
            simp only [List.getElem_toArray, List.getElem_cons_zero, List.getElem_cons_succ, Act.put, List.setIfInBounds_toArray, List.set_cons_zero, List.set_cons_succ]
            refine wpAnyH_take (i := 9) (v := ?v34) rfl (by kernel_rfl) (by kernel_rfl) (by kernel_rfl) (fun _ _ _ h => h) (Or.inl ⟨by rfl, ?hy34⟩) hS0 ?_
            case hy34 => (intro w' hw'; skip; go_simp; try with_reducible rfl)
            simp only [List.getElem_toArray, List.getElem_cons_zero, List.getElem_cons_succ, Act.put, List.setIfInBounds_toArray, List.set_cons_zero, List.set_cons_succ]
            refine wpAnyH_take (i := 10) (v := ?v35) rfl (by kernel_rfl) (by kernel_rfl) (by kernel_rfl) (fun _ _ _ h => h) (Or.inl ⟨by rfl, ?hy35⟩) hS0 ?_
            case hy35 => (intro w' hw'; have u3' := (hw'.cell (p := ⟨w.heap.size + 1, 4, none⟩) g1).trans u3x; go_simp; try with_reducible rfl)
            simp only [List.getElem_toArray, List.getElem_cons_zero, List.getElem_cons_succ, Act.put, List.setIfInBounds_toArray, List.set_cons_zero, List.set_cons_succ]
            refine wpAnyH_take (i := 11) (v := ?v36) rfl (by kernel_rfl) (by kernel_rfl) (by kernel_rfl) (fun _ _ _ h => h) (Or.inl ⟨by rfl, ?hy36⟩) hS0 ?_
            case hy36 => (intro w' hw'; skip; go_simp; try with_reducible rfl)
            simp only [List.getElem_toArray, List.getElem_cons_zero, List.getElem_cons_succ, Act.put, List.setIfInBounds_toArray, List.set_cons_zero, List.set_cons_succ]
            refine wpAnyH_take (i := 12) (v := ?v37) rfl (by kernel_rfl) (by kernel_rfl) (by kernel_rfl) (fun _ _ _ h => h) (Or.inl ⟨by rfl, ?hy37⟩) hS0 ?_
            case hy37 => (intro w' hw'; skip; go_simp; try with_reducible rfl)
            simp only [List.getElem_toArray, List.getElem_cons_zero, List.getElem_cons_succ, Act.put, List.setIfInBounds_toArray, List.set_cons_zero, List.set_cons_succ]
            refine wpAnyH_take (i := 13) (v := ?v38) rfl (by kernel_rfl) (by kernel_rfl) (by kernel_rfl) (fun _ _ _ h => h) (Or.inl ⟨by rfl, ?hy38⟩) hS0 ?_
            case hy38 => (intro w' hw'; skip; go_simp; try with_reducible rfl)
            simp only [List.getElem_toArray, List.getElem_cons_zero, List.getElem_cons_succ, Act.put, List.setIfInBounds_toArray, List.set_cons_zero, List.set_cons_succ]
            refine wpAnyH_take (i := 14) (v := ?v39) rfl (by kernel_rfl) (by kernel_rfl) (by kernel_rfl) (fun _ _ _ h => h) (Or.inl ⟨by rfl, ?hy39⟩) hS0 ?_
            case hy39 => (intro w' hw'; have nN' := (hw'.cell (p := ⟨p', j * 10, none⟩) g3).trans nNx; go_simp; try with_reducible rfl)
            simp only [List.getElem_toArray, List.getElem_cons_zero, List.getElem_cons_succ, Act.put, List.setIfInBounds_toArray, List.set_cons_zero, List.set_cons_succ]
            refine wpAnyH_take (i := 15) (v := ?v40) rfl (by kernel_rfl) (by kernel_rfl) (by kernel_rfl) (fun _ _ _ h => h) (Or.inl ⟨by rfl, ?hy40⟩) hS0 ?_
            case hy40 => (intro w' hw'; skip; go_simp; try with_reducible rfl)
            simp only [List.getElem_toArray, List.getElem_cons_zero, List.getElem_cons_succ, Act.put, List.setIfInBounds_toArray, List.set_cons_zero, List.set_cons_succ]
            refine wpAnyH_take (i := 16) (v := ?v41) rfl (by kernel_rfl) (by kernel_rfl) (by kernel_rfl) (fun _ _ _ h => h) (Or.inl ⟨by rfl, ?hy41⟩) hS0 ?_
            case hy41 => (intro w' hw'; skip; go_simp; try with_reducible rfl)
            simp only [List.getElem_toArray, List.getElem_cons_zero, List.getElem_cons_succ, Act.put, List.setIfInBounds_toArray, List.set_cons_zero, List.set_cons_succ]
            refine wpAnyH_take (i := 17) (v := ?v42) rfl (by kernel_rfl) (by kernel_rfl) (by kernel_rfl) (fun _ _ _ h => h) (Or.inl ⟨by rfl, ?hy42⟩) hS0 ?_
            case hy42 => (intro w' hw'; skip; go_simp; try with_reducible rfl)
            simp only [List.getElem_toArray, List.getElem_cons_zero, List.getElem_cons_succ, Act.put, List.setIfInBounds_toArray, List.set_cons_zero, List.set_cons_succ]
            refine wpAnyH_take (i := 18) (v := ?v43) rfl (by kernel_rfl) (by kernel_rfl) (by kernel_rfl) (fun _ _ _ h => h) (Or.inl ⟨by rfl, ?hy43⟩) hS0 ?_
            case hy43 => (intro w' hw'; skip; go_simp; try with_reducible rfl)
            simp only [List.getElem_toArray, List.getElem_cons_zero, List.getElem_cons_succ, Act.put, List.setIfInBounds_toArray, List.set_cons_zero, List.set_cons_succ]
            refine wpAnyH_take (i := 19) (v := ?v44) rfl (by kernel_rfl) (by kernel_rfl) (by kernel_rfl) (fun _ _ _ h => h) (Or.inl ⟨by rfl, ?hy44⟩) hS0 ?_
            case hy44 => (intro w' hw'; skip; go_simp; try with_reducible rfl)
            simp only [List.getElem_toArray, List.getElem_cons_zero, List.getElem_cons_succ, Act.put, List.setIfInBounds_toArray, List.set_cons_zero, List.set_cons_succ]
            refine wpAnyH_take (i := 20) (v := ?v45) rfl (by kernel_rfl) (by kernel_rfl) (by kernel_rfl) (fun _ _ _ h => h) (Or.inl ⟨by rfl, ?hy45⟩) hS0 ?_
            case hy45 => (intro w' hw'; skip; go_simp; try with_reducible rfl)
            simp only [List.getElem_toArray, List.getElem_cons_zero, List.getElem_cons_succ, Act.put, List.setIfInBounds_toArray, List.set_cons_zero, List.set_cons_succ]
            refine wpAnyH_take (i := 21) (v := ?v46) rfl (by kernel_rfl) (by kernel_rfl) (by kernel_rfl) (fun _ _ _ h => h) (Or.inl ⟨by rfl, ?hy46⟩) hS0 ?_
            case hy46 => (intro w' hw'; have d3' := (hw'.cell (p := ⟨w.heap.size, 4, none⟩) g0).trans d3x; go_simp; try with_reducible rfl)
            simp only [List.getElem_toArray, List.getElem_cons_zero, List.getElem_cons_succ, Act.put, List.setIfInBounds_toArray, List.set_cons_zero, List.set_cons_succ]
            refine wpAnyH_take (i := 22) (v := ?v47) rfl (by kernel_rfl) (by kernel_rfl) (by kernel_rfl) (fun _ _ _ h => h) (Or.inl ⟨by rfl, ?hy47⟩) hS0 ?_
            case hy47 => (intro w' hw'; skip; go_simp; try with_reducible rfl)
            simp only [List.getElem_toArray, List.getElem_cons_zero, List.getElem_cons_succ, Act.put, List.setIfInBounds_toArray, List.set_cons_zero, List.set_cons_succ]
            refine wpAnyH_take (i := 23) (v := ?v48) rfl (by kernel_rfl) (by kernel_rfl) (by kernel_rfl) (fun _ _ _ h => h) (Or.inl ⟨by rfl, ?hy48⟩) hS0 ?_
            case hy48 => (intro w' hw'; skip; go_simp; try with_reducible rfl)
            simp only [List.getElem_toArray, List.getElem_cons_zero, List.getElem_cons_succ, Act.put, List.setIfInBounds_toArray, List.set_cons_zero, List.set_cons_succ]
            refine wpAnyH_take (i := 24) (v := ?v49) rfl (by kernel_rfl) (by kernel_rfl) (by kernel_rfl) (fun _ _ _ h => h) (Or.inl ⟨by rfl, ?hy49⟩) hS0 ?_
            case hy49 => (intro w' hw'; skip; go_simp; try with_reducible rfl)
            simp only [List.getElem_toArray, List.getElem_cons_zero, List.getElem_cons_succ, Act.put, List.setIfInBounds_toArray, List.set_cons_zero, List.set_cons_succ]
            refine wpAnyH_take (i := 25) (v := ?v50) rfl (by kernel_rfl) (by kernel_rfl) (by kernel_rfl) (fun _ _ _ h => h) (Or.inl ⟨by rfl, ?hy50⟩) hS0 ?_
            case hy50 => (intro w' hw'; have m8' := (hw'.cell (p := ⟨p, j * 10 + 8, none⟩) g2).trans m8x; have m9' := (hw'.cell (p := ⟨p, j * 10 + 9, none⟩) g2).trans m9x; go_simp; try with_reducible rfl)
            simp only [List.getElem_toArray, List.getElem_cons_zero, List.getElem_cons_succ, Act.put, List.setIfInBounds_toArray, List.set_cons_zero, List.set_cons_succ]
            refine wpAnyH_take (i := 26) (v := ?v51) rfl (by kernel_rfl) (by kernel_rfl) (by kernel_rfl) (fun _ _ _ h => h) (Or.inl ⟨by rfl, ?hy51⟩) hS0 ?_
            case hy51 => (intro w' hw'; skip; go_simp; try with_reducible rfl)
            simp only [List.getElem_toArray, List.getElem_cons_zero, List.getElem_cons_succ, Act.put, List.setIfInBounds_toArray, List.set_cons_zero, List.set_cons_succ]
            refine wpAnyH_take (i := 27) (v := ?v52) rfl (by kernel_rfl) (by kernel_rfl) (by kernel_rfl) (fun _ _ _ h => h) (Or.inl ⟨by rfl, ?hy52⟩) hS0 ?_
            case hy52 => (intro w' hw'; have u3' := (hw'.cell (p := ⟨w.heap.size + 1, 4, none⟩) g1).trans u3x; go_simp; try with_reducible rfl)
            simp only [List.getElem_toArray, List.getElem_cons_zero, List.getElem_cons_succ, Act.put, List.setIfInBounds_toArray, List.set_cons_zero, List.set_cons_succ]
            refine wpAnyH_take (i := 28) (v := ?v53) rfl (by kernel_rfl) (by kernel_rfl) (by kernel_rfl) (fun _ _ _ h => h) (Or.inl ⟨by rfl, ?hy53⟩) hS0 ?_
            case hy53 => (intro w' hw'; skip; go_simp; try with_reducible rfl)
            simp only [List.getElem_toArray, List.getElem_cons_zero, List.getElem_cons_succ, Act.put, List.setIfInBounds_toArray, List.set_cons_zero, List.set_cons_succ]
            refine wpAnyH_take (i := 29) (v := ?v54) rfl (by kernel_rfl) (by kernel_rfl) (by kernel_rfl) (fun _ _ _ h => h) (Or.inl ⟨by rfl, ?hy54⟩) hS0 ?_
            case hy54 => (intro w' hw'; skip; go_simp; try with_reducible rfl)
            simp only [List.getElem_toArray, List.getElem_cons_zero, List.getElem_cons_succ, Act.put, List.setIfInBounds_toArray, List.set_cons_zero, List.set_cons_succ]
            refine wpAnyH_take (i := 30) (v := ?v55) rfl (by kernel_rfl) (by kernel_rfl) (by kernel_rfl) (fun _ _ _ h => h) (Or.inl ⟨by rfl, ?hy55⟩) hS0 ?_
            case hy55 => (intro w' hw'; skip; go_simp; try with_reducible rfl)
            simp only [List.getElem_toArray, List.getElem_cons_zero, List.getElem_cons_succ, Act.put, List.setIfInBounds_toArray, List.set_cons_zero, List.set_cons_succ]
            refine wpAnyH_take (i := 31) (v := ?v56) rfl (by kernel_rfl) (by kernel_rfl) (by kernel_rfl) (fun _ _ _ h => h) (Or.inl ⟨by rfl, ?hy56⟩) hS0 ?_
            case hy56 => (intro w' hw'; have n8' := (hw'.cell (p := ⟨p', j * 10 + 8, none⟩) g3).trans n8x; have n9' := (hw'.cell (p := ⟨p', j * 10 + 9, none⟩) g3).trans n9x; go_simp; try with_reducible rfl)
            simp only [List.getElem_toArray, List.getElem_cons_zero, List.getElem_cons_succ, Act.put, List.setIfInBounds_toArray, List.set_cons_zero, List.set_cons_succ]
            refine wpAnyH_take (i := 32) (v := ?v57) rfl (by kernel_rfl) (by kernel_rfl) (by kernel_rfl) (fun _ _ _ h => h) (Or.inl ⟨by rfl, ?hy57⟩) hS0 ?_
            case hy57 => (intro w' hw'; skip; go_simp; try with_reducible rfl)
            simp only [List.getElem_toArray, List.getElem_cons_zero, List.getElem_cons_succ, Act.put, List.setIfInBounds_toArray, List.set_cons_zero, List.set_cons_succ]
            refine wpAnyH_take (i := 33) (v := ?v58) rfl (by kernel_rfl) (by kernel_rfl) (by kernel_rfl) (fun _ _ _ h => h) (Or.inl ⟨by rfl, ?hy58⟩) hS0 ?_
            case hy58 => (intro w' hw'; skip; go_simp; try with_reducible rfl)
            simp only [List.getElem_toArray, List.getElem_cons_zero, List.getElem_cons_succ, Act.put, List.setIfInBounds_toArray, List.set_cons_zero, List.set_cons_succ]
            refine wpAnyH_take (i := 34) (v := ?v59) rfl (by kernel_rfl) (by kernel_rfl) (by kernel_rfl) (fun _ _ _ h => h) (Or.inl ⟨by rfl, ?hy59⟩) hS0 ?_
            case hy59 => (intro w' hw'; skip; go_simp; try with_reducible rfl)
            simp only [List.getElem_toArray, List.getElem_cons_zero, List.getElem_cons_succ, Act.put, List.setIfInBounds_toArray, List.set_cons_zero, List.set_cons_succ]
            refine wpAnyH_done (by kernel_rfl) ?_ _; refine NoPanic.normal ?_
            go_wp2_with fail
            go_roundw
            case rel => exact ⟨j + 1, by omega, by go_num, hI2.more hS0⟩
            case measure => first | (simp [intOf]; omega) | simp [intOf]
          · have ji : ¬ (j : Int) < (n2 : Int) := by omega
            have hI9 := hide hI
            clear hlt
            go_wp2_with fail
            go_ret
            exact ⟨rfl, (unhide hI9).bel⟩
end Go.Proofs.Ytgphiollpbahgaa.cu
namespace Go.Proofs.Ytgphiollpbahgaa.cu
open Go.ChangeShapes Go.WideShapes Go.ChangeAt Go.RowKit
open ints (hide unhide)
open dt (Dt Kp RowAt Ow)
set_option linter.unusedVariables false
set_option linter.unusedSimpArgs false
def sA : List Int := [91, 49, 44, 32, 123, 97, 58, 32, 36, 98, 125, 93]
def sB : List Int := [91, 91, 73, 110, 116, 33, 93, 93, 33]
def dA : Dt := litD 8 em false (Dt.of [litD 2 ⟨#[49]⟩ false .nil .nil 1 2, litD 9 em false .nil (Dt.of [fldD ⟨#[97]⟩ (litD 1 ⟨#[98]⟩ false .nil .nil 1 9) 1 6]) 1 5]) .nil 1 1
theorem fx1 : (readL sA false 2).1 = some dA := by kernel_rfl
theorem fx2 : (readL sA false 2).2.kd = 0 := by kernel_rfl
theorem fx3 : (readL sA true 2).2.kd = 70 ∧ (readL sA true 2).2.tok.ln = 1 ∧ (readL sA true 2).2.tok.co = 9 ∧ (readL sA true 2).1.isSome = false := by
  refine ⟨?_, ?_, ?_, ?_⟩ <;> kernel_rfl
theorem fx4 : (readT sB 2).1 = some (⟨#[73, 110, 116]⟩, ⟨#[33, 93, 93, 33]⟩) := by kernel_rfl
theorem fx5 : (readT sB 2).2.kd = 0 := by kernel_rfl
theorem sA_plain : lx.Plain sA := by unfold lx.Plain; decide
theorem sB_plain : lx.Plain sB := by unfold lx.Plain; decide
/-- a row of bytes that has just been laid -/
theorem row_new (w : World) (l : List Int) (t : TypeId) (fr : Nat × Nat) : mem.Row .u8 (w.alloc (.cells (l.map (Value.int .u8)).toArray t fr)) (some ⟨w.heap.size, 0, none⟩) l.length l.length l := by
  refine ⟨rfl, Nat.le_refl _, (fun e => by cases e), ?_⟩
  refine .inr ⟨w.heap.size, 0, rfl, by simp, fun i hi => ?_⟩
  rw [dt.cell_cells (heap_alloc_new w _)]
  simp [hi]
/-- what is read of the first fixed source -/
theorem dA_cells {w : World} {cs : List Value} {F : List Nat} (hs : LShape cs) (h : Ow w dA cs F) : ∃ p1 c1 p2 c2 af nf cf ln co, cs = [.int .i64 8, .string em, .bool false, .slice (some ⟨p1, 0, none⟩) 2 c1, .slice af nf cf, .int .i64 ln, .int .i64 co] ∧ p1 ∈ F ∧ p2 ∈ F ∧
    w.cell? ⟨p1, 1, none⟩ = some (.string ⟨#[49]⟩) ∧ w.cell? ⟨p1, 7, none⟩ = some (.int .i64 9) ∧ w.cell? ⟨p1, 11, none⟩ = some (.slice (some ⟨p2, 0, none⟩) 1 c2) ∧ w.cell? ⟨p2, 1, none⟩ = some (.int .i64 1) := by
  obtain ⟨k, tx, bl, ai, ni, ci, af, nf, cf, ln, co, rfl⟩ := hs
  unfold dA litD at h
  unfold Ow at h
  obtain ⟨ds, e, -, h⟩ := h
  obtain ⟨e1, rfl⟩ := List.cons.inj e
  simp only [Value.int.injEq, true_and] at e1
  subst e1
  unfold Ow at h
  obtain ⟨ds, e, -, h⟩ := h
  obtain ⟨e1, rfl⟩ := List.cons.inj e
  simp only [Value.string.injEq, true_and] at e1
  subst e1
  unfold Ow at h
  obtain ⟨ds, e, -, h⟩ := h
  obtain ⟨e1, rfl⟩ := List.cons.inj e
  simp only [Value.bool.injEq, true_and] at e1
  subst e1
  unfold Ow at h
  obtain ⟨a, n, c, ds, F1, F2, e, hn, hc, ha, h4, h5, rfl⟩ := h
  obtain ⟨e1, rfl⟩ := List.cons.inj e
  simp only [Value.slice.injEq] at e1
  obtain ⟨rfl, rfl, rfl⟩ := e1
  clear h5 ha hc hn
  rcases h4 with ⟨-, e, -⟩ | ⟨p1, G1, rfl, rfl, h4⟩
  · cases e
  obtain ⟨l1, l2⟩ := dt.OwIn.get _ 7 p1 0 ni G1 h4
  obtain rfl : ni = 2 := l1.symm
  obtain ⟨r0, g0, s0, s0l, o0, -⟩ := l2 0 _ rfl
  obtain ⟨r1, g1, s1, s1l, o1, sub1⟩ := l2 1 _ rfl
  unfold Ow at o0
  obtain ⟨ds0, rfl, -, o0⟩ := o0
  unfold Ow at o0
  obtain ⟨ds1, rfl, -, o0⟩ := o0
  unfold Ow at o1
  obtain ⟨es0, rfl, -, o1⟩ := o1
  unfold Ow at o1
  obtain ⟨es1, rfl, -, o1⟩ := o1
  unfold Ow at o1
  obtain ⟨es2, rfl, -, o1⟩ := o1
  unfold Ow at o1
  obtain ⟨b1, m1, k1, es3, H1, H2, rfl, -, -, -, -, o1, rfl⟩ := o1
  unfold Ow at o1
  obtain ⟨b2, m2, k2, es4, H3, H4, rfl, -, -, -, o2, o3, rfl⟩ := o1
  rcases o2 with ⟨-, e, -⟩ | ⟨p2, G2, rfl, rfl, o2⟩
  · cases e
  obtain ⟨m1', m2'⟩ := dt.OwIn.get _ 10 p2 0 m2 G2 o2
  obtain rfl : m2 = 1 := m1'.symm
  obtain ⟨f0, g2, s2, s2l, o4, -⟩ := m2' 0 _ rfl
  unfold fldD at o4
  unfold Ow at o4
  obtain ⟨fs0, rfl, -, o4⟩ := o4
  unfold app at o4
  unfold Ow at o4
  obtain ⟨fs1, rfl, -, o4⟩ := o4
  refine ⟨p1, ci, p2, k2, af, nf, cf, ln, co, rfl, by simp, ?_, ?_, ?_, ?_, ?_⟩
  · have := sub1 p2 (by simp); simp [this]
  · have := s0 1 _ rfl; simpa using this
  · have := s1 0 _ rfl; simpa using this
  · have := s1 4 _ rfl; simpa using this
  · have := s2 1 _ rfl; simpa using this
end Go.Proofs.Ytgphiollpbahgaa.cu
namespace Go.Proofs.Ytgphiollpbahgaa.cu
open Go.ChangeShapes Go.WideShapes Go.ChangeAt Go.RowKit
open ints (hide unhide)
open dt (Dt Kp RowAt Ow)
set_option linter.unusedVariables false
set_option linter.unusedSimpArgs false
theorem litA_ok (ct : Bool) (W : World) (N : Nat) (hN : N = W.heap.size) : Calls Try.prog 6 #[.slice (some ⟨N, 0, none⟩) 12 12, .bool ct, .int .i64 2] (W.alloc (.cells #[Value.int .u8 91, Value.int .u8 49, Value.int .u8 44, Value.int .u8 32, Value.int .u8 123, Value.int .u8 97, Value.int .u8 58, Value.int .u8 32, Value.int .u8 36, Value.int .u8 98, Value.int .u8 125, Value.int .u8 93] 5 (12, 13))) fun e w' => ∃ cs F fs, e = .returned (.tuple #[.agg cs.toArray, .agg fs.toArray]) ∧ LitPost ((readL sA ct 2).1.getD zeroD) (W.alloc (.cells #[Value.int .u8 91, Value.int .u8 49, Value.int .u8 44, Value.int .u8 32, Value.int .u8 123, Value.int .u8 97, Value.int .u8 58, Value.int .u8 32, Value.int .u8 36, Value.int .u8 98, Value.int .u8 125, Value.int .u8 93] 5 (12, 13))) w' cs F ∧ FltAt (W.alloc (.cells #[Value.int .u8 91, Value.int .u8 49, Value.int .u8 44, Value.int .u8 32, Value.int .u8 123, Value.int .u8 97, Value.int .u8 58, Value.int .u8 32, Value.int .u8 36, Value.int .u8 98, Value.int .u8 125, Value.int .u8 93] 5 (12, 13))).heap.size w' (readL sA ct 2).2 fs ∧ Below (W.alloc (.cells #[Value.int .u8 91, Value.int .u8 49, Value.int .u8 44, Value.int .u8 32, Value.int .u8 123, Value.int .u8 97, Value.int .u8 58, Value.int .u8 32, Value.int .u8 36, Value.int .u8 98, Value.int .u8 125, Value.int .u8 93] 5 (12, 13))).heap.size (W.alloc (.cells #[Value.int .u8 91, Value.int .u8 49, Value.int .u8 44, Value.int .u8 32, Value.int .u8 123, Value.int .u8 97, Value.int .u8 58, Value.int .u8 32, Value.int .u8 36, Value.int .u8 98, Value.int .u8 125, Value.int .u8 93] 5 (12, 13))) w' := by
  subst hN
  exact readLit_ok (some ⟨W.heap.size, 0, none⟩) 12 12 sA ct 2 (W.alloc (.cells #[Value.int .u8 91, Value.int .u8 49, Value.int .u8 44, Value.int .u8 32, Value.int .u8 123, Value.int .u8 97, Value.int .u8 58, Value.int .u8 32, Value.int .u8 36, Value.int .u8 98, Value.int .u8 125, Value.int .u8 93] 5 (12, 13))) (row_new W sA 5 (12, 13)) (by decide) sA_plain (by rfl)
theorem typB_ok (W : World) (N : Nat) (hN : N = W.heap.size) : Calls Try.prog 10 #[.slice (some ⟨N, 0, none⟩) 9 9, .int .i64 2] (W.alloc (.cells #[Value.int .u8 91, Value.int .u8 91, Value.int .u8 73, Value.int .u8 110, Value.int .u8 116, Value.int .u8 33, Value.int .u8 93, Value.int .u8 93, Value.int .u8 33] 5 (9, 10))) fun e w' => e = .returned (.tuple #[.agg #[Value.string ⟨#[73, 110, 116]⟩, .string ⟨#[33, 93, 93, 33]⟩], .agg #[Value.int .i64 0, .slice none 0 0, .slice none 0 0]]) ∧ Below (W.alloc (.cells #[Value.int .u8 91, Value.int .u8 91, Value.int .u8 73, Value.int .u8 110, Value.int .u8 116, Value.int .u8 33, Value.int .u8 93, Value.int .u8 93, Value.int .u8 33] 5 (9, 10))).heap.size (W.alloc (.cells #[Value.int .u8 91, Value.int .u8 91, Value.int .u8 73, Value.int .u8 110, Value.int .u8 116, Value.int .u8 33, Value.int .u8 93, Value.int .u8 93, Value.int .u8 33] 5 (9, 10))) w' := by
  subst hN
  have h := readType_ok (some ⟨W.heap.size, 0, none⟩) 9 9 sB 2 (W.alloc (.cells #[Value.int .u8 91, Value.int .u8 91, Value.int .u8 73, Value.int .u8 110, Value.int .u8 116, Value.int .u8 33, Value.int .u8 93, Value.int .u8 93, Value.int .u8 33] 5 (9, 10))) (row_new W sB 5 (9, 10)) (by decide) sB_plain (by rfl)
  refine h.mono ?_
  rintro e w2 ⟨fs, rfl, hfl, b2⟩
  rw [fx4]
  unfold FltAt at hfl
  rw [if_pos fx5] at hfl
  subst hfl
  exact ⟨rfl, b2⟩
/-- the first fixed answers, in plain words -/
theorem litA1 (W : World) (N : Nat) (hN : N = W.heap.size) : Calls Try.prog 6 #[.slice (some ⟨N, 0, none⟩) 12 12, .bool false, .int .i64 2] (W.alloc (.cells #[Value.int .u8 91, Value.int .u8 49, Value.int .u8 44, Value.int .u8 32, Value.int .u8 123, Value.int .u8 97, Value.int .u8 58, Value.int .u8 32, Value.int .u8 36, Value.int .u8 98, Value.int .u8 125, Value.int .u8 93] 5 (12, 13))) fun e w' => ∃ p1 c1 p2 c2 af nf cf ln co, e = .returned (.tuple #[.agg #[Value.int .i64 8, .string em, .bool false, .slice (some ⟨p1, 0, none⟩) 2 c1, .slice af nf cf, .int .i64 ln, .int .i64 co], .agg #[Value.int .i64 0, .slice none 0 0, .slice none 0 0]]) ∧ p1 < w'.heap.size ∧ p2 < w'.heap.size ∧
    w'.cell? ⟨p1, 1, none⟩ = some (.string ⟨#[49]⟩) ∧ w'.cell? ⟨p1, 7, none⟩ = some (.int .i64 9) ∧ w'.cell? ⟨p1, 11, none⟩ = some (.slice (some ⟨p2, 0, none⟩) 1 c2) ∧ w'.cell? ⟨p2, 1, none⟩ = some (.int .i64 1) ∧ Below (W.alloc (.cells #[Value.int .u8 91, Value.int .u8 49, Value.int .u8 44, Value.int .u8 32, Value.int .u8 123, Value.int .u8 97, Value.int .u8 58, Value.int .u8 32, Value.int .u8 36, Value.int .u8 98, Value.int .u8 125, Value.int .u8 93] 5 (12, 13))).heap.size (W.alloc (.cells #[Value.int .u8 91, Value.int .u8 49, Value.int .u8 44, Value.int .u8 32, Value.int .u8 123, Value.int .u8 97, Value.int .u8 58, Value.int .u8 32, Value.int .u8 36, Value.int .u8 98, Value.int .u8 125, Value.int .u8 93] 5 (12, 13))) w' := by
  refine (litA_ok false W N hN).mono ?_
  rintro e w1 ⟨cs, F, fs, rfl, hpo, hfl, b1⟩
  rw [fx1] at hpo
  obtain ⟨p1, c1, p2, c2, af, nf, cf, ln, co, rfl, hp1, hp2, z1, z2, z3, z4⟩ := dA_cells hpo.shape hpo.own
  unfold FltAt at hfl
  rw [if_pos fx2] at hfl
  subst hfl
  exact ⟨p1, c1, p2, c2, af, nf, cf, ln, co, rfl, (hpo.rng p1 hp1).2, (hpo.rng p2 hp2).2, z1, z2, z3, z4, b1⟩
theorem litA2 (W : World) (N : Nat) (hN : N = W.heap.size) : Calls Try.prog 6 #[.slice (some ⟨N, 0, none⟩) 12 12, .bool true, .int .i64 2] (W.alloc (.cells #[Value.int .u8 91, Value.int .u8 49, Value.int .u8 44, Value.int .u8 32, Value.int .u8 123, Value.int .u8 97, Value.int .u8 58, Value.int .u8 32, Value.int .u8 36, Value.int .u8 98, Value.int .u8 125, Value.int .u8 93] 5 (12, 13))) fun e w' => ∃ b k tx bl ai ni ci af nf cf ln co, e = .returned (.tuple #[.agg #[.int .i64 k, .string tx, .bool bl, .slice ai ni ci, .slice af nf cf, .int .i64 ln, .int .i64 co], .agg #[.int .i64 70, .slice (some ⟨b, 0, none⟩) 1 1, .slice none 0 0]]) ∧ b < w'.heap.size ∧ w'.cell? ⟨b, 1, none⟩ = some (.int .i64 9) ∧ Below (W.alloc (.cells #[Value.int .u8 91, Value.int .u8 49, Value.int .u8 44, Value.int .u8 32, Value.int .u8 123, Value.int .u8 97, Value.int .u8 58, Value.int .u8 32, Value.int .u8 36, Value.int .u8 98, Value.int .u8 125, Value.int .u8 93] 5 (12, 13))).heap.size (W.alloc (.cells #[Value.int .u8 91, Value.int .u8 49, Value.int .u8 44, Value.int .u8 32, Value.int .u8 123, Value.int .u8 97, Value.int .u8 58, Value.int .u8 32, Value.int .u8 36, Value.int .u8 98, Value.int .u8 125, Value.int .u8 93] 5 (12, 13))) w' := by
  refine (litA_ok true W N hN).mono ?_
  rintro e w1 ⟨cs, F, fs, rfl, hpo, hfl, b1⟩
  obtain ⟨k, tx, bl, ai, ni, ci, af, nf, cf, ln, co, rfl⟩ := hpo.shape
  unfold FltAt at hfl
  rw [if_neg (by rw [fx3.1]; decide), fx3.1, fx3.2.1, fx3.2.2.1] at hfl
  obtain ⟨b, h1, h2, rfl, h4, h5⟩ := hfl
  exact ⟨b, k, tx, bl, ai, ni, ci, af, nf, cf, ln, co, rfl, h2, h5, b1⟩
set_option maxRecDepth 10000 in
set_option maxHeartbeats 4000000 in
theorem fixed_ok (w : World) : Calls Try.prog 5 #[] w fun e w' => e = .returned (.bool true) ∧ Below w.heap.size w w' := by
  have kc := fun (w : World) (C : Array Value) (n c : Nat) => Lib.run_convert_bytes_const (P := Try.prog) w 22 5 C n c Try.underlying22 Try.underlying5
  go_enter Try.func5, Try.ntmps5
  go_wp2_with fail
  refine (litA1 w w.heap.size rfl).mono ?_
  rintro e w1 ⟨p1, c1, p2, c2, af, nf, cf, ln, co, rfl, hq1, hq2, z1, z2, z3, z4, b1⟩
  have bw1 : Below w.heap.size w w1 := ((Below.refl _ _).alloc (Nat.le_refl _) _).trans (b1.mono (by simp))
  clear b1
  have kc1 := fun (o o' : Obj) (C : Array Value) (n c : Nat) => by simpa using kc ((w1.alloc o).alloc o') C n c
  go_wp2_with fail
  have hX1 : ((w1.alloc (.cells #[Value.int .i64 8, .string em, .bool false, .slice (some ⟨p1, 0, none⟩) 2 c1, .slice af nf cf, .int .i64 ln, .int .i64 co] 30)).alloc (.cells #[Value.int .i64 0, .slice none 0 0, .slice none 0 0] 35)).heap[w1.heap.size]? = some (.cells #[Value.int .i64 8, .string em, .bool false, .slice (some ⟨p1, 0, none⟩) 2 c1, .slice af nf cf, .int .i64 ln, .int .i64 co] 30 (0, 0)) := (Below.heap_alloc _ _ w1.heap.size (by simp)).trans (heap_alloc_new w1 _)
  have hX2 : ((w1.alloc (.cells #[Value.int .i64 8, .string em, .bool false, .slice (some ⟨p1, 0, none⟩) 2 c1, .slice af nf cf, .int .i64 ln, .int .i64 co] 30)).alloc (.cells #[Value.int .i64 0, .slice none 0 0, .slice none 0 0] 35)).heap[w1.heap.size + 1]? = some (.cells #[Value.int .i64 0, .slice none 0 0, .slice none 0 0] 35 (0, 0)) := by
    have := heap_alloc_new (w1.alloc (.cells #[Value.int .i64 8, .string em, .bool false, .slice (some ⟨p1, 0, none⟩) 2 c1, .slice af nf cf, .int .i64 ln, .int .i64 co] 30)) (.cells #[Value.int .i64 0, .slice none 0 0, .slice none 0 0] 35)
    simpa using this
  have hX0 : w1.heap.size + 1 + 1 = ((w1.alloc (.cells #[Value.int .i64 8, .string em, .bool false, .slice (some ⟨p1, 0, none⟩) 2 c1, .slice af nf cf, .int .i64 ln, .int .i64 co] 30)).alloc (.cells #[Value.int .i64 0, .slice none 0 0, .slice none 0 0] 35)).heap.size := by simp
  have bX : Below w1.heap.size w1 ((w1.alloc (.cells #[Value.int .i64 8, .string em, .bool false, .slice (some ⟨p1, 0, none⟩) 2 c1, .slice af nf cf, .int .i64 ln, .int .i64 co] 30)).alloc (.cells #[Value.int .i64 0, .slice none 0 0, .slice none 0 0] 35)) := ((Below.refl _ _).alloc (Nat.le_refl _) _).alloc (by simp) _
  obtain ⟨X1, e1⟩ : ∃ X1, X1 = (w1.alloc (.cells #[Value.int .i64 8, .string em, .bool false, .slice (some ⟨p1, 0, none⟩) 2 c1, .slice af nf cf, .int .i64 ln, .int .i64 co] 30)).alloc (.cells #[Value.int .i64 0, .slice none 0 0, .slice none 0 0] 35) := ⟨_, rfl⟩
  rw [← e1] at hX1 hX2 hX0 bX ⊢
  clear e1 kc1
  refine (typB_ok X1 _ hX0).mono ?_
  rintro e w2 ⟨rfl, b2⟩
  have b12 : Below X1.heap.size X1 w2 := ((Below.refl _ _).alloc (Nat.le_refl _) _).trans (b2.mono (by simp))
  have kc2 := fun (o o' : Obj) (C : Array Value) (n c : Nat) => by simpa using kc ((w2.alloc o).alloc o') C n c
  have hX0' : w1.heap.size + 1 < X1.heap.size := by omega
  have hX0h := hide hX0
  clear hX0 b2
  go_wp2_with fail
  have hY1 : ((w2.alloc (.cells #[Value.string ⟨#[73, 110, 116]⟩, .string ⟨#[33, 93, 93, 33]⟩] 48)).alloc (.cells #[Value.int .i64 0, .slice none 0 0, .slice none 0 0] 35)).heap[w2.heap.size]? = some (.cells #[Value.string ⟨#[73, 110, 116]⟩, .string ⟨#[33, 93, 93, 33]⟩] 48 (0, 0)) := (Below.heap_alloc _ _ w2.heap.size (by simp)).trans (heap_alloc_new w2 _)
  have hY2 : ((w2.alloc (.cells #[Value.string ⟨#[73, 110, 116]⟩, .string ⟨#[33, 93, 93, 33]⟩] 48)).alloc (.cells #[Value.int .i64 0, .slice none 0 0, .slice none 0 0] 35)).heap[w2.heap.size + 1]? = some (.cells #[Value.int .i64 0, .slice none 0 0, .slice none 0 0] 35 (0, 0)) := by
    have := heap_alloc_new (w2.alloc (.cells #[Value.string ⟨#[73, 110, 116]⟩, .string ⟨#[33, 93, 93, 33]⟩] 48)) (.cells #[Value.int .i64 0, .slice none 0 0, .slice none 0 0] 35)
    simpa using this
  have hY0 : w2.heap.size + 1 + 1 = ((w2.alloc (.cells #[Value.string ⟨#[73, 110, 116]⟩, .string ⟨#[33, 93, 93, 33]⟩] 48)).alloc (.cells #[Value.int .i64 0, .slice none 0 0, .slice none 0 0] 35)).heap.size := by simp
  have bY : Below w2.heap.size w2 ((w2.alloc (.cells #[Value.string ⟨#[73, 110, 116]⟩, .string ⟨#[33, 93, 93, 33]⟩] 48)).alloc (.cells #[Value.int .i64 0, .slice none 0 0, .slice none 0 0] 35)) := ((Below.refl _ _).alloc (Nat.le_refl _) _).alloc (by simp) _
  obtain ⟨Y1, e1⟩ : ∃ Y1, Y1 = (w2.alloc (.cells #[Value.string ⟨#[73, 110, 116]⟩, .string ⟨#[33, 93, 93, 33]⟩] 48)).alloc (.cells #[Value.int .i64 0, .slice none 0 0, .slice none 0 0] 35) := ⟨_, rfl⟩
  rw [← e1] at hY1 hY2 hY0 bY ⊢
  clear e1 kc2 kc
  refine (litA2 Y1 _ hY0).mono ?_
  rintro e w3 ⟨b, k3, tx3, bl3, ai3, ni3, ci3, af3, nf3, cf3, ln3, co3, rfl, hb3, z5, b3⟩
  have b23 : Below Y1.heap.size Y1 w3 := ((Below.refl _ _).alloc (Nat.le_refl _) _).trans (b3.mono (by simp))
  have hY0' : w2.heap.size + 1 < Y1.heap.size := by omega
  have hY0h := hide hY0
  clear hY0 b3
  -- every block stands
  have g1 : ∀ (b' : Nat), b' < w1.heap.size → ∀ o o', ((w3.alloc o).alloc o').heap[b']? = w1.heap[b']? := fun b' h' o o' => by
    have s1 : w1.heap.size ≤ X1.heap.size := by omega
    have s2 := b12.size
    have s3 : w2.heap.size ≤ Y1.heap.size := by omega
    have s4 := b23.size
    rw [Below.heap_alloc (w3.alloc o) o' b' (by simp; omega), Below.heap_alloc w3 o b' (by omega), b23.block b' (by omega), bY.block b' (by omega), b12.block b' (by omega), bX.block b' h']
  have g2 : ∀ (b' : Nat), b' < X1.heap.size → ∀ o o', ((w3.alloc o).alloc o').heap[b']? = X1.heap[b']? := fun b' h' o o' => by
    have s2 := b12.size
    have s3 : w2.heap.size ≤ Y1.heap.size := by omega
    have s4 := b23.size
    rw [Below.heap_alloc (w3.alloc o) o' b' (by simp; omega), Below.heap_alloc w3 o b' (by omega), b23.block b' (by omega), bY.block b' (by omega), b12.block b' (by omega)]
  have g3 : ∀ (b' : Nat), b' < Y1.heap.size → ∀ o o', ((w3.alloc o).alloc o').heap[b']? = Y1.heap[b']? := fun b' h' o o' => by
    have s4 := b23.size
    rw [Below.heap_alloc (w3.alloc o) o' b' (by simp; omega), Below.heap_alloc w3 o b' (by omega), b23.block b' (by omega)]
  have f0 : ∀ o o', ((w3.alloc o).alloc o').cell? ⟨w1.heap.size + 1, 0, none⟩ = some (.int .i64 0) := fun o o' => (dt.cell_cells ((g2 _ hX0' o o').trans hX2) 0).trans rfl
  have v0 : ∀ o o', ((w3.alloc o).alloc o').cell? ⟨w1.heap.size, 0, none⟩ = some (.int .i64 8) := fun o o' => (dt.cell_cells ((g2 _ (by omega) o o').trans hX1) 0).trans rfl
  have v3 : ∀ o o', ((w3.alloc o).alloc o').cell? ⟨w1.heap.size, 3, none⟩ = some (.slice (some ⟨p1, 0, none⟩) 2 c1) := fun o o' => (dt.cell_cells ((g2 _ (by omega) o o').trans hX1) 3).trans rfl
  have y1 : ∀ o o', ((w3.alloc o).alloc o').cell? ⟨p1, 1, none⟩ = some (.string ⟨#[49]⟩) := fun o o' => (dt.cell_blk (g1 p1 hq1 o o') 1).trans z1
  have y2 : ∀ o o', ((w3.alloc o).alloc o').cell? ⟨p1, 7, none⟩ = some (.int .i64 9) := fun o o' => (dt.cell_blk (g1 p1 hq1 o o') 7).trans z2
  have y3 : ∀ o o', ((w3.alloc o).alloc o').cell? ⟨p1, 11, none⟩ = some (.slice (some ⟨p2, 0, none⟩) 1 c2) := fun o o' => (dt.cell_blk (g1 p1 hq1 o o') 11).trans z3
  have y4 : ∀ o o', ((w3.alloc o).alloc o').cell? ⟨p2, 1, none⟩ = some (.int .i64 1) := fun o o' => (dt.cell_blk (g1 p2 hq2 o o') 1).trans z4
  have gk : ∀ o o', ((w3.alloc o).alloc o').cell? ⟨w2.heap.size + 1, 0, none⟩ = some (.int .i64 0) := fun o o' => (dt.cell_cells ((g3 _ hY0' o o').trans hY2) 0).trans rfl
  have r0 : ∀ o o', ((w3.alloc o).alloc o').cell? ⟨w2.heap.size, 0, none⟩ = some (.string ⟨#[73, 110, 116]⟩) := fun o o' => (dt.cell_cells ((g3 _ (by omega) o o').trans hY1) 0).trans rfl
  have r1 : ∀ o o', ((w3.alloc o).alloc o').cell? ⟨w2.heap.size, 1, none⟩ = some (.string ⟨#[33, 93, 93, 33]⟩) := fun o o' => (dt.cell_cells ((g3 _ (by omega) o o').trans hY1) 1).trans rfl
  have y5 : ∀ o o', ((w3.alloc o).alloc o').cell? ⟨b, 1, none⟩ = some (.int .i64 9) := fun o o' => ((((Below.refl w3.heap.size w3).alloc (Nat.le_refl _) o).alloc (by simp) o').cell (p := ⟨b, 1, none⟩) hb3).trans z5
  have hfin : Below w.heap.size w w3 := bw1.trans ((bX.trans ((b12.mono bX.size).trans ((bY.mono (Nat.le_trans bX.size b12.size)).trans (b23.mono (Nat.le_trans (Nat.le_trans bX.size b12.size) bY.size))))).mono bw1.size)
  have HF := hide hfin
  clear g1 g2 g3 z1 z2 z3 z4 z5 hX1 hX2 hY1 hY2 bX bY b12 b23 hfin bw1
  go_wp2_with fail
  go_ret
  exact ⟨rfl, ((unhide HF).alloc (unhide HF).size _).alloc (Nat.le_trans (unhide HF).size (by simp)) _⟩
end Go.Proofs.Ytgphiollpbahgaa.cu
namespace Go.Proofs.Ytgphiollpbahgaa.cu
open Go.ChangeShapes Go.WideShapes Go.ChangeAt Go.RowKit
open ints (hide unhide)
open dt (Dt Kp RowAt Ow Grow OwIn)
open mem (Row)
set_option linter.unusedVariables false
set_option linter.unusedSimpArgs false
theorem two_alloc (w : World) (o o' : Obj) : Below w.heap.size w ((w.alloc o).alloc o') := ((Below.refl _ _).alloc (Nat.le_refl _) o).alloc (by simp) o'
theorem two_at (w : World) (cs ds : Array Value) (t u : TypeId) : ((w.alloc (.cells cs t)).alloc (.cells ds u)).heap[w.heap.size]? = some (.cells cs t (0, 0)) ∧ ((w.alloc (.cells cs t)).alloc (.cells ds u)).heap[w.heap.size + 1]? = some (.cells ds u (0, 0)) := by
  refine ⟨(Below.heap_alloc _ _ w.heap.size (by simp)).trans (heap_alloc_new w _), ?_⟩
  have := heap_alloc_new (w.alloc (.cells cs t)) (.cells ds u)
  simpa using this
set_option maxHeartbeats 4000000 in
set_option maxRecDepth 4000 in
theorem law_constant (a : Option Addr) (n c : Nat) (z : List Int) (d : Int) (w : World) (h : Row .u8 w a n c z) (hz : mem.Byt z) (hn : n ≤ 1048576) (hd : (Lit.int .i64 d).wf = true) :
    Calls Try.prog 3 #[.slice a n c, .int .i64 d] w fun e w' => e = .returned (.bool true) ∧ Below w.heap.size w w' := by
  have hFx := hide (fixed_ok w)
  have hL0 := hide (fun W (bb : Below w.heap.size w W) => readLitG_ok a n c z false d W (h.below bb) (by omega) hz hd)
  have hL1 := hide (fun W (bb : Below w.heap.size w W) => readLitG_ok a n c z true d W (h.below bb) (by omega) hz hd)
  obtain ⟨q1, q2⟩ := readLG_rel z d
  generalize readLG z false d = R0 at *
  generalize readLG z true d = R1 at *
  have Q1 := hide q1
  have Q2 := hide q2
  clear q1 q2 h
  go_enter Try.func3, Try.ntmps3
  go_wp2_with fail
  refine (unhide hFx).mono ?_
  rintro e w1 ⟨rfl, b1⟩
  clear hFx
  go_wp2_with fail
  refine ((unhide hL0) w1 b1).mono ?_
  rintro e w2 ⟨cs, F, fs, rfl, hpo, hflt, b2⟩
  have b12 := b1.trans (b2.mono b1.size)
  clear hL0
  obtain ⟨kk, tt, bl, ai, ni, ci, af, nf, cf, ln, co, rfl⟩ := hpo.shape
  by_cases hk0 : R0.2.kd = 0
  · obtain ⟨v, fu, hv, hlit, hno, hyes⟩ := (unhide Q2) hk0
    unfold FltAt at hflt
    rw [if_pos hk0] at hflt
    subst hflt
    rw [hv] at hpo
    have how : Ow w2 v _ F := hpo.own
    have hrF : ∀ b ∈ F, b < w2.heap.size := fun b hb => (hpo.rng b hb).2
    have HO := hide how
    have HF := hide hrF
    clear Q1 Q2 hpo how hrF
    go_wp2_with fail
    obtain ⟨X, hX⟩ : ∃ X, X = (w2.alloc (.cells #[.int .i64 kk, .string tt, .bool bl, .slice ai ni ci, .slice af nf cf, .int .i64 ln, .int .i64 co] 30)).alloc (.cells #[Value.int .i64 0, .slice none 0 0, .slice none 0 0] 35) := ⟨_, rfl⟩
    have bX : Below w2.heap.size w2 X := by rw [hX]; exact two_alloc _ _ _
    have hXs : X.heap.size = w2.heap.size + 1 + 1 := by rw [hX]; simp
    have hX1 := hide (show X.heap[w2.heap.size]? = _ ∧ X.heap[w2.heap.size + 1]? = _ from by rw [hX]; exact two_at _ _ _ _ _)
    rw [← hX]
    clear hX
    have bwX := b12.trans (bX.mono b12.size)
    refine ((unhide hL1) X bwX).mono ?_
    rintro e w3 ⟨cs', F', fs', rfl, hpo', hflt', b3⟩
    clear hL1
    obtain ⟨kk', tt', bl', ai', ni', ci', af', nf', cf', ln', co', rfl⟩ := hpo'.shape
    have bw3 := bwX.trans (b3.mono bwX.size)
    have hz0 : w2.heap.size + 1 < w3.heap.size := by have := b3.size; omega
    have e1 := (b3.block w2.heap.size (by omega)).trans (unhide hX1).1
    have e2 := (b3.block (w2.heap.size + 1) (by omega)).trans (unhide hX1).2
    have b23 := bX.trans (b3.mono bX.size)
    clear hX1
    cases hfv : fvD v with
    | none =>
      have hRR := hno hfv
      subst hRR
      unfold FltAt at hflt'
      rw [if_pos hk0] at hflt'
      subst hflt'
      rw [hv] at hpo'
      have HO' := hide (show Ow w3 v _ F' from hpo'.own)
      have HF' := hide (show ∀ b ∈ F', b < w3.heap.size from fun b hb => (hpo'.rng b hb).2)
      have HO3 := hide (show Ow w3 v _ F from dt.Ow.agree v _ F (fun b hb o => b23.cell (p := ⟨b, o, none⟩) ((unhide HF) b hb)) (unhide HO))
      have HF3 := hide (show ∀ b ∈ F, b < w3.heap.size from fun b hb => Nat.lt_of_lt_of_le ((unhide HF) b hb) b23.size)
      have hfvC := hide (fun W (bb : Below w3.heap.size w3 W) => firstVar_ok fu v hlit W _ F (dt.Ow.agree v _ F (fun b hb o => bb.cell (p := ⟨b, o, none⟩) ((unhide HF3) b hb)) (unhide HO3)) (fun b hb => Nat.lt_of_lt_of_le ((unhide HF3) b hb) bb.size))
      have hsmC := hide (fun W (bb : Below w3.heap.size w3 W) => same_t fu v v (hlit.same true) W _ _ F F' (dt.Ow.agree v _ F (fun b hb o => bb.cell (p := ⟨b, o, none⟩) ((unhide HF3) b hb)) (unhide HO3)) (dt.Ow.agree v _ F' (fun b hb o => bb.cell (p := ⟨b, o, none⟩) ((unhide HF') b hb)) (unhide HO')) (fun b hb => Nat.lt_of_lt_of_le ((unhide HF3) b hb) bb.size) (fun b hb => Nat.lt_of_lt_of_le ((unhide HF') b hb) bb.size))
      rw [hfv] at hfvC
      clear hno hyes hpo' HO HF
      have two : ∀ o o', Below w3.heap.size w3 ((w3.alloc o).alloc o') := fun o o' => two_alloc _ _ _
      have tf0 : ∀ o o', ((w3.alloc o).alloc o').cell? ⟨w2.heap.size + 1, 0, none⟩ = some (.int .i64 0) := fun o o' => (dt.cell_cells (((two o o').block _ hz0).trans e2) 0).trans rfl
      have tv0 : ∀ o o', ((w3.alloc o).alloc o').cell? ⟨w2.heap.size, 0, none⟩ = some (.int .i64 kk) := fun o o' => (dt.cell_cells (((two o o').block _ (by omega)).trans e1) 0).trans rfl
      have tv1 : ∀ o o', ((w3.alloc o).alloc o').cell? ⟨w2.heap.size, 1, none⟩ = some (.string tt) := fun o o' => (dt.cell_cells (((two o o').block _ (by omega)).trans e1) 1).trans rfl
      have tv2 : ∀ o o', ((w3.alloc o).alloc o').cell? ⟨w2.heap.size, 2, none⟩ = some (.bool bl) := fun o o' => (dt.cell_cells (((two o o').block _ (by omega)).trans e1) 2).trans rfl
      have tv3 : ∀ o o', ((w3.alloc o).alloc o').cell? ⟨w2.heap.size, 3, none⟩ = some (.slice ai ni ci) := fun o o' => (dt.cell_cells (((two o o').block _ (by omega)).trans e1) 3).trans rfl
      have tv4 : ∀ o o', ((w3.alloc o).alloc o').cell? ⟨w2.heap.size, 4, none⟩ = some (.slice af nf cf) := fun o o' => (dt.cell_cells (((two o o').block _ (by omega)).trans e1) 4).trans rfl
      have tv5 : ∀ o o', ((w3.alloc o).alloc o').cell? ⟨w2.heap.size, 5, none⟩ = some (.int .i64 ln) := fun o o' => (dt.cell_cells (((two o o').block _ (by omega)).trans e1) 5).trans rfl
      have tv6 : ∀ o o', ((w3.alloc o).alloc o').cell? ⟨w2.heap.size, 6, none⟩ = some (.int .i64 co) := fun o o' => (dt.cell_cells (((two o o').block _ (by omega)).trans e1) 6).trans rfl
      go_wp2_with fail
      obtain ⟨Y, hY⟩ : ∃ Y, Y = (w3.alloc (.cells #[.int .i64 kk', .string tt', .bool bl', .slice ai' ni' ci', .slice af' nf' cf', .int .i64 ln', .int .i64 co'] 30)).alloc (.cells #[Value.int .i64 0, .slice none 0 0, .slice none 0 0] 35) := ⟨_, rfl⟩
      have bY : Below w3.heap.size w3 Y := by rw [hY]; exact two_alloc _ _ _
      have hYs : Y.heap.size = w3.heap.size + 1 + 1 := by rw [hY]; simp
      have hY1 := (show Y.heap[w3.heap.size]? = _ ∧ Y.heap[w3.heap.size + 1]? = _ from by rw [hY]; exact two_at _ _ _ _ _)
      rw [← hY]
      have f1 := (bY.block w2.heap.size (by omega)).trans e1
      clear hY tf0 tv0 tv1 tv2 tv3 tv4 tv5 tv6 two
      have bwY := bw3.trans (bY.mono bw3.size)
      refine ((unhide hfvC) Y bY).mono ?_
      rintro e w4 ⟨rfl, b4⟩
      clear hfvC
      unfold fvR
      simp only
      have bY4 := bY.trans (b4.mono bY.size)
      have g1 := (b4.block w2.heap.size (by omega)).trans f1
      have g2 := (b4.block w3.heap.size (by omega)).trans hY1.1
      have g3 := (b4.block (w3.heap.size + 1) (by omega)).trans hY1.2
      have s4 := b4.size
      have bw4 := bwY.trans (b4.mono bwY.size)
      have one4 : ∀ o, Below w4.heap.size w4 (w4.alloc o) := fun o => (Below.refl _ _).alloc (Nat.le_refl _) o
      have k0 : ∀ o, (w4.alloc o).cell? ⟨w3.heap.size + 1, 0, none⟩ = some (.int .i64 0) := fun o => (dt.cell_cells (((one4 o).block _ (by omega)).trans g3) 0).trans rfl
      have v0 : ∀ o, (w4.alloc o).cell? ⟨w2.heap.size, 0, none⟩ = some (.int .i64 kk) := fun o => (dt.cell_cells (((one4 o).block _ (by omega)).trans g1) 0).trans rfl
      have v1 : ∀ o, (w4.alloc o).cell? ⟨w2.heap.size, 1, none⟩ = some (.string tt) := fun o => (dt.cell_cells (((one4 o).block _ (by omega)).trans g1) 1).trans rfl
      have v2 : ∀ o, (w4.alloc o).cell? ⟨w2.heap.size, 2, none⟩ = some (.bool bl) := fun o => (dt.cell_cells (((one4 o).block _ (by omega)).trans g1) 2).trans rfl
      have v3 : ∀ o, (w4.alloc o).cell? ⟨w2.heap.size, 3, none⟩ = some (.slice ai ni ci) := fun o => (dt.cell_cells (((one4 o).block _ (by omega)).trans g1) 3).trans rfl
      have v4 : ∀ o, (w4.alloc o).cell? ⟨w2.heap.size, 4, none⟩ = some (.slice af nf cf) := fun o => (dt.cell_cells (((one4 o).block _ (by omega)).trans g1) 4).trans rfl
      have v5 : ∀ o, (w4.alloc o).cell? ⟨w2.heap.size, 5, none⟩ = some (.int .i64 ln) := fun o => (dt.cell_cells (((one4 o).block _ (by omega)).trans g1) 5).trans rfl
      have v6 : ∀ o, (w4.alloc o).cell? ⟨w2.heap.size, 6, none⟩ = some (.int .i64 co) := fun o => (dt.cell_cells (((one4 o).block _ (by omega)).trans g1) 6).trans rfl
      have x0 : ∀ o, (w4.alloc o).cell? ⟨w3.heap.size, 0, none⟩ = some (.int .i64 kk') := fun o => (dt.cell_cells (((one4 o).block _ (by omega)).trans g2) 0).trans rfl
      have x1 : ∀ o, (w4.alloc o).cell? ⟨w3.heap.size, 1, none⟩ = some (.string tt') := fun o => (dt.cell_cells (((one4 o).block _ (by omega)).trans g2) 1).trans rfl
      have x2 : ∀ o, (w4.alloc o).cell? ⟨w3.heap.size, 2, none⟩ = some (.bool bl') := fun o => (dt.cell_cells (((one4 o).block _ (by omega)).trans g2) 2).trans rfl
      have x3 : ∀ o, (w4.alloc o).cell? ⟨w3.heap.size, 3, none⟩ = some (.slice ai' ni' ci') := fun o => (dt.cell_cells (((one4 o).block _ (by omega)).trans g2) 3).trans rfl
      have x4 : ∀ o, (w4.alloc o).cell? ⟨w3.heap.size, 4, none⟩ = some (.slice af' nf' cf') := fun o => (dt.cell_cells (((one4 o).block _ (by omega)).trans g2) 4).trans rfl
      have x5 : ∀ o, (w4.alloc o).cell? ⟨w3.heap.size, 5, none⟩ = some (.int .i64 ln') := fun o => (dt.cell_cells (((one4 o).block _ (by omega)).trans g2) 5).trans rfl
      have x6 : ∀ o, (w4.alloc o).cell? ⟨w3.heap.size, 6, none⟩ = some (.int .i64 co') := fun o => (dt.cell_cells (((one4 o).block _ (by omega)).trans g2) 6).trans rfl
      have HBx := hide (fun o => bY4.trans ((one4 o).mono bY4.size))
      have HBw := hide (fun o => bw4.trans ((one4 o).mono bw4.size))
      clear one4
      go_wp2_with fail
      refine ((unhide hsmC) _ ((unhide HBx) _)).mono ?_
      rintro e w5 ⟨rfl, b5⟩
      go_wp2_with fail
      go_ret
      exact ⟨rfl, ((unhide HBw) _).trans (b5.mono ((unhide HBw) _).size)⟩
    | some p =>
      obtain ⟨h70, hp⟩ := hyes p hfv
      have HO3 := hide (show Ow w3 v _ F from dt.Ow.agree v _ F (fun b hb o => b23.cell (p := ⟨b, o, none⟩) ((unhide HF) b hb)) (unhide HO))
      have HF3 := hide (show ∀ b ∈ F, b < w3.heap.size from fun b hb => Nat.lt_of_lt_of_le ((unhide HF) b hb) b23.size)
      have hfvC := hide (fun W (bb : Below w3.heap.size w3 W) => firstVar_ok fu v hlit W _ F (dt.Ow.agree v _ F (fun b hb o => bb.cell (p := ⟨b, o, none⟩) ((unhide HF3) b hb)) (unhide HO3)) (fun b hb => Nat.lt_of_lt_of_le ((unhide HF3) b hb) bb.size))
      rw [hfv] at hfvC
      unfold FltAt at hflt'
      rw [if_neg (by rw [h70]; decide), h70] at hflt'
      obtain ⟨q, y1, y2, rfl, y4, y5⟩ := hflt'
      rw [show R1.2.tok.ln = p.1 from by rw [← hp]] at y4
      rw [show R1.2.tok.co = p.2 from by rw [← hp]] at y5
      clear hno hyes hpo' HO HF hp
      have two : ∀ o o', Below w3.heap.size w3 ((w3.alloc o).alloc o') := fun o o' => two_alloc _ _ _
      have tf0 : ∀ o o', ((w3.alloc o).alloc o').cell? ⟨w2.heap.size + 1, 0, none⟩ = some (.int .i64 0) := fun o o' => (dt.cell_cells (((two o o').block _ hz0).trans e2) 0).trans rfl
      have tv0 : ∀ o o', ((w3.alloc o).alloc o').cell? ⟨w2.heap.size, 0, none⟩ = some (.int .i64 kk) := fun o o' => (dt.cell_cells (((two o o').block _ (by omega)).trans e1) 0).trans rfl
      have tv1 : ∀ o o', ((w3.alloc o).alloc o').cell? ⟨w2.heap.size, 1, none⟩ = some (.string tt) := fun o o' => (dt.cell_cells (((two o o').block _ (by omega)).trans e1) 1).trans rfl
      have tv2 : ∀ o o', ((w3.alloc o).alloc o').cell? ⟨w2.heap.size, 2, none⟩ = some (.bool bl) := fun o o' => (dt.cell_cells (((two o o').block _ (by omega)).trans e1) 2).trans rfl
      have tv3 : ∀ o o', ((w3.alloc o).alloc o').cell? ⟨w2.heap.size, 3, none⟩ = some (.slice ai ni ci) := fun o o' => (dt.cell_cells (((two o o').block _ (by omega)).trans e1) 3).trans rfl
      have tv4 : ∀ o o', ((w3.alloc o).alloc o').cell? ⟨w2.heap.size, 4, none⟩ = some (.slice af nf cf) := fun o o' => (dt.cell_cells (((two o o').block _ (by omega)).trans e1) 4).trans rfl
      have tv5 : ∀ o o', ((w3.alloc o).alloc o').cell? ⟨w2.heap.size, 5, none⟩ = some (.int .i64 ln) := fun o o' => (dt.cell_cells (((two o o').block _ (by omega)).trans e1) 5).trans rfl
      have tv6 : ∀ o o', ((w3.alloc o).alloc o').cell? ⟨w2.heap.size, 6, none⟩ = some (.int .i64 co) := fun o o' => (dt.cell_cells (((two o o').block _ (by omega)).trans e1) 6).trans rfl
      go_wp2_with fail
      obtain ⟨Y, hY⟩ : ∃ Y, Y = (w3.alloc (.cells #[.int .i64 kk', .string tt', .bool bl', .slice ai' ni' ci', .slice af' nf' cf', .int .i64 ln', .int .i64 co'] 30)).alloc (.cells #[Value.int .i64 70, .slice (some ⟨q, 0, none⟩) 1 1, .slice none 0 0] 35) := ⟨_, rfl⟩
      have bY : Below w3.heap.size w3 Y := by rw [hY]; exact two_alloc _ _ _
      have hYs : Y.heap.size = w3.heap.size + 1 + 1 := by rw [hY]; simp
      have hY1 := (show Y.heap[w3.heap.size]? = _ ∧ Y.heap[w3.heap.size + 1]? = _ from by rw [hY]; exact two_at _ _ _ _ _)
      rw [← hY]
      have f1 := (bY.block w2.heap.size (by omega)).trans e1
      clear hY tf0 tv0 tv1 tv2 tv3 tv4 tv5 tv6 two
      have bwY := bw3.trans (bY.mono bw3.size)
      refine ((unhide hfvC) Y bY).mono ?_
      rintro e w4 ⟨rfl, b4⟩
      clear hfvC
      unfold fvR
      simp only
      have bY4 := bY.trans (b4.mono bY.size)
      have g1 := (b4.block w2.heap.size (by omega)).trans f1
      have g2 := (b4.block w3.heap.size (by omega)).trans hY1.1
      have g3 := (b4.block (w3.heap.size + 1) (by omega)).trans hY1.2
      have s4 := b4.size
      have bw4 := bwY.trans (b4.mono bwY.size)
      have one4 : ∀ o, Below w4.heap.size w4 (w4.alloc o) := fun o => (Below.refl _ _).alloc (Nat.le_refl _) o
      have k0 : ∀ o, (w4.alloc o).cell? ⟨w3.heap.size + 1, 0, none⟩ = some (.int .i64 70) := fun o => (dt.cell_cells (((one4 o).block _ (by omega)).trans g3) 0).trans rfl
      have k1 : ∀ o, (w4.alloc o).cell? ⟨w3.heap.size + 1, 1, none⟩ = some (.slice (some ⟨q, 0, none⟩) 1 1) := fun o => (dt.cell_cells (((one4 o).block _ (by omega)).trans g3) 1).trans rfl
      have bq := (two_alloc w3 (.cells #[.int .i64 kk', .string tt', .bool bl', .slice ai' ni' ci', .slice af' nf' cf', .int .i64 ln', .int .i64 co'] 30) (.cells #[Value.int .i64 70, .slice (some ⟨q, 0, none⟩) 1 1, .slice none 0 0] 35))
      have z0 : ∀ o, (w4.alloc o).cell? ⟨q, 0, none⟩ = some (.int .i64 p.1) := fun o => ((bY4.trans ((one4 o).mono bY4.size)).cell (p := ⟨q, 0, none⟩) y2).trans y4
      have z1 : ∀ o, (w4.alloc o).cell? ⟨q, 1, none⟩ = some (.int .i64 p.2) := fun o => ((bY4.trans ((one4 o).mono bY4.size)).cell (p := ⟨q, 1, none⟩) y2).trans y5
      have HBw := hide (fun o => bw4.trans ((one4 o).mono bw4.size))
      clear one4 y1 y2 y4 y5 bq
      go_wp2_with fail
      go_region
      go_wp2
      go_ret
      exact ⟨rfl, ((unhide HBw) _).drew⟩
  · have hk1 := (unhide Q1) hk0
    unfold FltAt at hflt
    rw [if_neg hk0] at hflt
    obtain ⟨q, y1, y2, rfl, y4, y5⟩ := hflt
    clear Q1 Q2 hpo
    have hkb : (R0.2.kd != 0) = true := by simpa using hk0
    have hkb1 : (R1.2.kd != 0) = true := by simpa using hk1
    have HK1 := hide hk1
    obtain ⟨K0, hK0⟩ : ∃ K0, K0 = R0.2.kd := ⟨_, rfl⟩
    rw [← hK0] at hkb ⊢
    clear hk0 hk1 hK0 y1 y2 y4 y5
    go_wp2_with fail
    obtain ⟨X, hX⟩ : ∃ X, X = (w2.alloc (.cells #[.int .i64 kk, .string tt, .bool bl, .slice ai ni ci, .slice af nf cf, .int .i64 ln, .int .i64 co] 30)).alloc (.cells #[Value.int .i64 K0, .slice (some ⟨q, 0, none⟩) 1 1, .slice none 0 0] 35) := ⟨_, rfl⟩
    have bX : Below w2.heap.size w2 X := by rw [hX]; exact two_alloc _ _ _
    have hXs : X.heap.size = w2.heap.size + 1 + 1 := by rw [hX]; simp
    have hX1 := (show X.heap[w2.heap.size]? = _ ∧ X.heap[w2.heap.size + 1]? = _ from by rw [hX]; exact two_at _ _ _ _ _)
    rw [← hX]
    clear hX
    have bwX := b12.trans (bX.mono b12.size)
    refine ((unhide hL1) X bwX).mono ?_
    rintro e w3 ⟨cs', F', fs', rfl, hpo', hflt', b3⟩
    clear hL1
    obtain ⟨kk', tt', bl', ai', ni', ci', af', nf', cf', ln', co', rfl⟩ := hpo'.shape
    have bw3 := bwX.trans (b3.mono bwX.size)
    have hz0 : w2.heap.size + 1 < w3.heap.size := by have := b3.size; omega
    have e2 := (b3.block (w2.heap.size + 1) (by omega)).trans hX1.2
    unfold FltAt at hflt'
    rw [if_neg (unhide HK1)] at hflt'
    obtain ⟨q', y1, y2, rfl, y4, y5⟩ := hflt'
    obtain ⟨K1, hK1⟩ : ∃ K1, K1 = R1.2.kd := ⟨_, rfl⟩
    rw [← hK1] at hkb1 ⊢
    clear hK1 y1 y2 y4 y5 hX1 hpo' HK1
    have two : ∀ o o', Below w3.heap.size w3 ((w3.alloc o).alloc o') := fun o o' => two_alloc _ _ _
    have tf0 : ∀ o o', ((w3.alloc o).alloc o').cell? ⟨w2.heap.size + 1, 0, none⟩ = some (.int .i64 K0) := fun o o' => (dt.cell_cells (((two o o').block _ hz0).trans e2) 0).trans rfl
    have HBw := hide (fun o o' => bw3.trans ((two o o').mono bw3.size))
    clear two
    go_wp2_with fail
    go_ret
    exact ⟨by first | rfl | rw [hkb1], (unhide HBw) _ _⟩
end Go.Proofs.Ytgphiollpbahgaa.cu
