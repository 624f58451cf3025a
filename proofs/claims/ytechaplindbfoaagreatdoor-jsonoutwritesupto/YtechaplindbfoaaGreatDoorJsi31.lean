import Derived.Test.YtechaplindbfoaaGreatDoorJsi30
namespace Go.Proofs.YtechaplindbfoaaGreatDoor.jsn
open Go.ChangeShapes Go.WideShapes Go.ChangeAt Go.RowKit
open mem
open vl hiding hide unhide Hid
open ints (hide unhide)
set_option linter.unusedVariables false
set_option linter.unusedSimpArgs false
set_option maxHeartbeats 4000000 in
set_option maxRecDepth 100000 in
theorem put_obj (w0 : World) (b : Bool) (n : Int) (f : Nat) (tx ty : ByteArray) (its : Vls) (fls : Fls) (hn : fls.list.length ≤ 1048576) (HP : ∀ (i : Nat) (q : ByteArray × Vl), fls.list[i]? = some q → PH w0 q.2) (HJ : ∀ (i : Nat) (q : ByteArray × Vl), fls.list[i]? = some q → (js NZ q.2).length + 10 ≤ 1100 * wtV q.2 ∧ cln q.1 = true ∧ q.1.size ≤ 1048576) : PH w0 (.mk 6 b n f tx ty its fls) := by
  intro cs w r l hv hb ho hl
  have hB := hb.size
  have hw : 1 + wtF fls ≤ wtV (.mk 6 b n f tx ty its fls) := by unfold wtV; omega
  unfold VlC at hv
  obtain ⟨ai, ni, ci, af, nf, cf, rfl, hvi, hvf, -⟩ := hv
  have hlen := FlsAt.len fls af nf hvf
  have hJ : js NZ (.mk 6 b n f tx ty its fls) = [123] ++ partsO (nmAt fls) (jsF NZ fls) nf ++ [125] := by
    unfold js
    rw [← hlen]
    simp
  rw [hJ]
  clear hJ
  generalize wtV (.mk 6 b n f tx ty its fls) = WT at *
  have hpl := partsO_len fls nf (by omega) (fun i u _ hu => (HJ i u hu).1)
  rw [List.take_of_length_le (by omega), ← wtF_sum] at hpl
  have RI := hide (fun W r' l' hl1 hb' ho' hl' => rmembers_ok w0 fls af nf cf hvf (by omega) HP HJ W r' l' hl1 hb' ho' hl')
  clear HP HJ hvi hvf
  generalize partsO (nmAt fls) (jsF NZ fls) nf = PP at *
  obtain ⟨CS, eCS⟩ : ∃ CS : Array Value, CS = #[Value.int IntKind.i64 6, Value.bool b, Value.int IntKind.i64 n, Value.float FloatKind.f64 f, Value.string tx, Value.string ty, Value.slice ai ni ci, Value.slice af nf cf] := ⟨_, rfl⟩
  have bY0 : Below w.heap.size w (w.alloc (.cells CS 29)) := (Below.refl _ _).alloc (Nat.le_refl _) _
  have xY0 : (w.alloc (.cells CS 29)).heap[w.heap.size]? = some (.cells CS 29 (0, 0)) := by show (w.heap.push _)[w.heap.size]? = _; simp
  have cY0 : ∀ w' : World, w'.heap[w.heap.size]? = some (.cells CS 29 (0, 0)) → w'.cell? ⟨w.heap.size, 7, none⟩ = some (.slice af nf cf) := by
    intro w' hw'
    simp [World.cell?, hw', eCS]
  go_enter Tryz.func37, Tryz.ntmps37
  go_wp2_with fail
  rw [← eCS]
  clear eCS
  generalize w.alloc (.cells CS 29) = Y0 at *
  have bY : Below w.heap.size w ({ Y0 with drawn := Y0.drawn + 1 } : World) := bY0.drew
  have h : Sg w0.heap.size w CS r r l l [] ({ Y0 with drawn := Y0.drawn + 1 } : World) := ⟨ho.below bY, Fr.new hB bY, fun _ => Fq.new hB bY, xY0, Nat.le_trans hB bY.size, by simp⟩
  refine wp_region_noPanic ?_
  refine wp_region_held (S := fun w' => w'.heap[w.heap.size]? = some (.cells CS 29 (0, 0))) mixed ?_
  generalize ({ Y0 with drawn := Y0.drawn + 1 } : World) = Y at *
  have hS0 := h.box
  refine wpAnyH_take (i := 0) (v := ?v1) rfl (by kernel_rfl) (by kernel_rfl) (by kernel_rfl) (fun _ _ _ h => h) (Or.inl ⟨by rfl, ?hy1⟩) hS0 ?_
  case hy1 => (intro w' hw';  go_simp; try with_reducible rfl)
  simp only [List.getElem_toArray, List.getElem_cons_zero, List.getElem_cons_succ, Act.put, List.setIfInBounds_toArray, List.set_cons_zero, List.set_cons_succ]
  refine wpAnyH_take (i := 3) (v := ?v2) rfl (by kernel_rfl) (by kernel_rfl) (by kernel_rfl) (fun _ _ _ h => h) (Or.inl ⟨by rfl, ?hy2⟩) hS0 ?_
  case hy2 => (intro w' hw'; have cb := cY0 w' hw'; go_simp; try with_reducible rfl)
  simp only [List.getElem_toArray, List.getElem_cons_zero, List.getElem_cons_succ, Act.put, List.setIfInBounds_toArray, List.set_cons_zero, List.set_cons_succ]
  refine wpAnyH_take (i := 4) (v := ?v3) rfl (by kernel_rfl) (by kernel_rfl) (by kernel_rfl) (fun _ _ _ h => h) (Or.inl ⟨by rfl, ?hy3⟩) hS0 ?_
  case hy3 => (intro w' hw'; have cb := cY0 w' hw'; go_simp; try with_reducible rfl)
  simp only [List.getElem_toArray, List.getElem_cons_zero, List.getElem_cons_succ, Act.put, List.setIfInBounds_toArray, List.set_cons_zero, List.set_cons_succ]
  clear hS0 bY xY0 cY0
  refine rgn.two (i := 1) (j := 6) _ _ rfl rfl (by kernel_rfl) (by rfl) (by rfl) ?_ ?_
  · simp only [List.getElem_toArray, List.getElem_cons_zero, List.getElem_cons_succ, Act.put, List.setIfInBounds_toArray, List.set_cons_zero, List.set_cons_succ]
    refine wpO_open h _ (by rfl) 123 (by rfl) ?_
    intro g1 W1 h
    refine ⟨h.box, ?_⟩
    simp only [List.getElem_toArray, List.getElem_cons_zero, List.getElem_cons_succ, Act.put, List.setIfInBounds_toArray, List.set_cons_zero, List.set_cons_succ]
    refine rgn.two (i := 2) (j := 6) _ _ rfl rfl (by kernel_rfl) (by rfl) (by rfl) ?_ ?_
    · simp only [List.getElem_toArray, List.getElem_cons_zero, List.getElem_cons_succ, Act.put, List.setIfInBounds_toArray, List.set_cons_zero, List.set_cons_succ]
      refine wpO_first h _ _ (by rfl) (by rfl) g1 123 (by rfl) (by simp) (by omega) [] (by simp) ?_
      intro r2 W3 h
      refine ⟨h.box, ?_⟩
      simp only [List.getElem_toArray, List.getElem_cons_zero, List.getElem_cons_succ, Act.put, List.setIfInBounds_toArray, List.set_cons_zero, List.set_cons_succ]
      refine rgn.two (i := 5) (j := 6) _ _ rfl rfl (by kernel_rfl) (by rfl) (by rfl) ?_ ?_
      · simp only [List.getElem_toArray, List.getElem_cons_zero, List.getElem_cons_succ, Act.put, List.setIfInBounds_toArray, List.set_cons_zero, List.set_cons_succ]
        refine fto.callW _ _ _ _ rfl Tryz.func68 (by kernel_rfl) (by kernel_rfl) #[r2, .slice af nf cf] (by first | kernel_rfl | (simp only [List.map_toArray, List.map_cons, List.map_nil]; rfl)) ?_
        refine (unhide RI _ r2 (l ++ [123]) (by simp only [List.length_append, List.length_cons, List.length_nil]; omega) (hb.trans h.fr.bel) h.own (by simp only [List.length_append, List.length_cons, List.length_nil]; omega)).mono ?_
        rintro e W4 ⟨r3, rfl, ho3, f3⟩
        refine ⟨r3, rfl, ?_⟩
        have h := h.call (by simp) ho3 f3
        clear ho3 f3
        refine ⟨h.box, ?_⟩
        simp only [List.getElem_toArray, List.getElem_cons_zero, List.getElem_cons_succ, Act.put, List.setIfInBounds_toArray, List.set_cons_zero, List.set_cons_succ]
        refine rgn.one (i := 6) _ rfl (by kernel_rfl) (by rfl) ?_
        simp only [List.getElem_toArray, List.getElem_cons_zero, List.getElem_cons_succ, Act.put, List.setIfInBounds_toArray, List.set_cons_zero, List.set_cons_succ]
        refine wpO_open h _ (by rfl) 125 (by rfl) ?_
        intro g2 W2 h
        refine ⟨h.box, ?_⟩
        simp only [List.getElem_toArray, List.getElem_cons_zero, List.getElem_cons_succ, Act.put, List.setIfInBounds_toArray, List.set_cons_zero, List.set_cons_succ]
        refine rgn.one (i := 7) _ rfl (by kernel_rfl) (by rfl) ?_
        simp only [List.getElem_toArray, List.getElem_cons_zero, List.getElem_cons_succ, Act.put, List.setIfInBounds_toArray, List.set_cons_zero, List.set_cons_succ]
        refine wpO_last h (by simp only [List.length_append, List.length_cons, List.length_nil]; omega) (fun _ => (by simp only [List.length_append, List.length_cons, List.length_nil]; omega)) _ _ (by rfl) (by rfl) g2 125 (by rfl) (by simp) (by simp only [List.length_append, List.length_cons, List.length_nil]; omega) ?_
        intro r4 W5 h
        refine ⟨h.box, ?_⟩
        simp only [List.getElem_toArray, List.getElem_cons_zero, List.getElem_cons_succ, Act.put, List.setIfInBounds_toArray, List.set_cons_zero, List.set_cons_succ]
        refine rgn.one (i := 8) _ rfl (by kernel_rfl) (by rfl) ?_
        simp only [List.getElem_toArray, List.getElem_cons_zero, List.getElem_cons_succ, Act.put, List.setIfInBounds_toArray, List.set_cons_zero, List.set_cons_succ]
        go_wp2_with fail
        refine ⟨h.box, ?_⟩
        refine wpAnyH_done (by kernel_rfl) ?_ _; refine NoPanic.normal ?_
        go_wp2
        go_ret
        have e : l ++ [123] ++ PP ++ [125] = l ++ ([123] ++ PP ++ [125]) := by simp only [List.append_assoc]
        have ho := h.own
        rw [e] at ho
        exact ⟨r4, rfl, ho, h.fr, h.fq⟩
      · simp only [List.getElem_toArray, List.getElem_cons_zero, List.getElem_cons_succ, Act.put, List.setIfInBounds_toArray, List.set_cons_zero, List.set_cons_succ]
        refine wpO_open h _ (by rfl) 125 (by rfl) ?_
        intro g2 W2 h
        refine ⟨h.box, ?_⟩
        simp only [List.getElem_toArray, List.getElem_cons_zero, List.getElem_cons_succ, Act.put, List.setIfInBounds_toArray, List.set_cons_zero, List.set_cons_succ]
        refine rgn.one (i := 5) _ rfl (by kernel_rfl) (by rfl) ?_
        simp only [List.getElem_toArray, List.getElem_cons_zero, List.getElem_cons_succ, Act.put, List.setIfInBounds_toArray, List.set_cons_zero, List.set_cons_succ]
        refine fto.callW _ _ _ _ rfl Tryz.func68 (by kernel_rfl) (by kernel_rfl) #[r2, .slice af nf cf] (by first | kernel_rfl | (simp only [List.map_toArray, List.map_cons, List.map_nil]; rfl)) ?_
        refine (unhide RI _ r2 (l ++ [123]) (by simp only [List.length_append, List.length_cons, List.length_nil]; omega) (hb.trans h.fr.bel) h.own (by simp only [List.length_append, List.length_cons, List.length_nil]; omega)).mono ?_
        rintro e W4 ⟨r3, rfl, ho3, f3⟩
        refine ⟨r3, rfl, ?_⟩
        have h := h.call (by intro q hq; obtain rfl := List.mem_singleton.1 hq; show (123 : UInt8) ≠ 125; decide) ho3 f3
        clear ho3 f3
        refine ⟨h.box, ?_⟩
        simp only [List.getElem_toArray, List.getElem_cons_zero, List.getElem_cons_succ, Act.put, List.setIfInBounds_toArray, List.set_cons_zero, List.set_cons_succ]
        refine rgn.one (i := 7) _ rfl (by kernel_rfl) (by rfl) ?_
        simp only [List.getElem_toArray, List.getElem_cons_zero, List.getElem_cons_succ, Act.put, List.setIfInBounds_toArray, List.set_cons_zero, List.set_cons_succ]
        refine wpO_last h (by simp only [List.length_append, List.length_cons, List.length_nil]; omega) (fun _ => (by simp only [List.length_append, List.length_cons, List.length_nil]; omega)) _ _ (by rfl) (by rfl) g2 125 (by rfl) (by simp) (by simp only [List.length_append, List.length_cons, List.length_nil]; omega) ?_
        intro r4 W5 h
        refine ⟨h.box, ?_⟩
        simp only [List.getElem_toArray, List.getElem_cons_zero, List.getElem_cons_succ, Act.put, List.setIfInBounds_toArray, List.set_cons_zero, List.set_cons_succ]
        refine rgn.one (i := 8) _ rfl (by kernel_rfl) (by rfl) ?_
        simp only [List.getElem_toArray, List.getElem_cons_zero, List.getElem_cons_succ, Act.put, List.setIfInBounds_toArray, List.set_cons_zero, List.set_cons_succ]
        go_wp2_with fail
        refine ⟨h.box, ?_⟩
        refine wpAnyH_done (by kernel_rfl) ?_ _; refine NoPanic.normal ?_
        go_wp2
        go_ret
        have e : l ++ [123] ++ PP ++ [125] = l ++ ([123] ++ PP ++ [125]) := by simp only [List.append_assoc]
        have ho := h.own
        rw [e] at ho
        exact ⟨r4, rfl, ho, h.fr, h.fq⟩
    · simp only [List.getElem_toArray, List.getElem_cons_zero, List.getElem_cons_succ, Act.put, List.setIfInBounds_toArray, List.set_cons_zero, List.set_cons_succ]
      refine wpO_open h _ (by rfl) 125 (by rfl) ?_
      intro g2 W2 h
      refine ⟨h.box, ?_⟩
      simp only [List.getElem_toArray, List.getElem_cons_zero, List.getElem_cons_succ, Act.put, List.setIfInBounds_toArray, List.set_cons_zero, List.set_cons_succ]
      refine rgn.one (i := 2) _ rfl (by kernel_rfl) (by rfl) ?_
      simp only [List.getElem_toArray, List.getElem_cons_zero, List.getElem_cons_succ, Act.put, List.setIfInBounds_toArray, List.set_cons_zero, List.set_cons_succ]
      refine wpO_first h _ _ (by rfl) (by rfl) g1 123 (by rfl) (by simp) (by omega) [(g2, 125)] (by intro q hq; obtain rfl := List.mem_singleton.1 hq; exact ⟨by simp, by show (123 : UInt8) ≠ 125; decide⟩) ?_
      intro r2 W3 h
      refine ⟨h.box, ?_⟩
      simp only [List.getElem_toArray, List.getElem_cons_zero, List.getElem_cons_succ, Act.put, List.setIfInBounds_toArray, List.set_cons_zero, List.set_cons_succ]
      refine rgn.one (i := 5) _ rfl (by kernel_rfl) (by rfl) ?_
      simp only [List.getElem_toArray, List.getElem_cons_zero, List.getElem_cons_succ, Act.put, List.setIfInBounds_toArray, List.set_cons_zero, List.set_cons_succ]
      refine fto.callW _ _ _ _ rfl Tryz.func68 (by kernel_rfl) (by kernel_rfl) #[r2, .slice af nf cf] (by first | kernel_rfl | (simp only [List.map_toArray, List.map_cons, List.map_nil]; rfl)) ?_
      refine (unhide RI _ r2 (l ++ [123]) (by simp only [List.length_append, List.length_cons, List.length_nil]; omega) (hb.trans h.fr.bel) h.own (by simp only [List.length_append, List.length_cons, List.length_nil]; omega)).mono ?_
      rintro e W4 ⟨r3, rfl, ho3, f3⟩
      refine ⟨r3, rfl, ?_⟩
      have h := h.call (by intro q hq; obtain rfl := List.mem_singleton.1 hq; show (123 : UInt8) ≠ 125; decide) ho3 f3
      clear ho3 f3
      refine ⟨h.box, ?_⟩
      simp only [List.getElem_toArray, List.getElem_cons_zero, List.getElem_cons_succ, Act.put, List.setIfInBounds_toArray, List.set_cons_zero, List.set_cons_succ]
      refine rgn.one (i := 7) _ rfl (by kernel_rfl) (by rfl) ?_
      simp only [List.getElem_toArray, List.getElem_cons_zero, List.getElem_cons_succ, Act.put, List.setIfInBounds_toArray, List.set_cons_zero, List.set_cons_succ]
      refine wpO_last h (by simp only [List.length_append, List.length_cons, List.length_nil]; omega) (fun _ => (by simp only [List.length_append, List.length_cons, List.length_nil]; omega)) _ _ (by rfl) (by rfl) g2 125 (by rfl) (by simp) (by simp only [List.length_append, List.length_cons, List.length_nil]; omega) ?_
      intro r4 W5 h
      refine ⟨h.box, ?_⟩
      simp only [List.getElem_toArray, List.getElem_cons_zero, List.getElem_cons_succ, Act.put, List.setIfInBounds_toArray, List.set_cons_zero, List.set_cons_succ]
      refine rgn.one (i := 8) _ rfl (by kernel_rfl) (by rfl) ?_
      simp only [List.getElem_toArray, List.getElem_cons_zero, List.getElem_cons_succ, Act.put, List.setIfInBounds_toArray, List.set_cons_zero, List.set_cons_succ]
      go_wp2_with fail
      refine ⟨h.box, ?_⟩
      refine wpAnyH_done (by kernel_rfl) ?_ _; refine NoPanic.normal ?_
      go_wp2
      go_ret
      have e : l ++ [123] ++ PP ++ [125] = l ++ ([123] ++ PP ++ [125]) := by simp only [List.append_assoc]
      have ho := h.own
      rw [e] at ho
      exact ⟨r4, rfl, ho, h.fr, h.fq⟩
  · simp only [List.getElem_toArray, List.getElem_cons_zero, List.getElem_cons_succ, Act.put, List.setIfInBounds_toArray, List.set_cons_zero, List.set_cons_succ]
    refine wpO_open h _ (by rfl) 125 (by rfl) ?_
    intro g2 W2 h
    refine ⟨h.box, ?_⟩
    simp only [List.getElem_toArray, List.getElem_cons_zero, List.getElem_cons_succ, Act.put, List.setIfInBounds_toArray, List.set_cons_zero, List.set_cons_succ]
    refine rgn.one (i := 1) _ rfl (by kernel_rfl) (by rfl) ?_
    simp only [List.getElem_toArray, List.getElem_cons_zero, List.getElem_cons_succ, Act.put, List.setIfInBounds_toArray, List.set_cons_zero, List.set_cons_succ]
    refine wpO_open h _ (by rfl) 123 (by rfl) ?_
    intro g1 W1 h
    refine ⟨h.box, ?_⟩
    simp only [List.getElem_toArray, List.getElem_cons_zero, List.getElem_cons_succ, Act.put, List.setIfInBounds_toArray, List.set_cons_zero, List.set_cons_succ]
    refine rgn.one (i := 2) _ rfl (by kernel_rfl) (by rfl) ?_
    simp only [List.getElem_toArray, List.getElem_cons_zero, List.getElem_cons_succ, Act.put, List.setIfInBounds_toArray, List.set_cons_zero, List.set_cons_succ]
    refine wpO_first h _ _ (by rfl) (by rfl) g1 123 (by rfl) (by simp) (by omega) [(g2, 125)] (by intro q hq; obtain rfl := List.mem_singleton.1 hq; exact ⟨by simp, by show (123 : UInt8) ≠ 125; decide⟩) ?_
    intro r2 W3 h
    refine ⟨h.box, ?_⟩
    simp only [List.getElem_toArray, List.getElem_cons_zero, List.getElem_cons_succ, Act.put, List.setIfInBounds_toArray, List.set_cons_zero, List.set_cons_succ]
    refine rgn.one (i := 5) _ rfl (by kernel_rfl) (by rfl) ?_
    simp only [List.getElem_toArray, List.getElem_cons_zero, List.getElem_cons_succ, Act.put, List.setIfInBounds_toArray, List.set_cons_zero, List.set_cons_succ]
    refine fto.callW _ _ _ _ rfl Tryz.func68 (by kernel_rfl) (by kernel_rfl) #[r2, .slice af nf cf] (by first | kernel_rfl | (simp only [List.map_toArray, List.map_cons, List.map_nil]; rfl)) ?_
    refine (unhide RI _ r2 (l ++ [123]) (by simp only [List.length_append, List.length_cons, List.length_nil]; omega) (hb.trans h.fr.bel) h.own (by simp only [List.length_append, List.length_cons, List.length_nil]; omega)).mono ?_
    rintro e W4 ⟨r3, rfl, ho3, f3⟩
    refine ⟨r3, rfl, ?_⟩
    have h := h.call (by intro q hq; obtain rfl := List.mem_singleton.1 hq; show (123 : UInt8) ≠ 125; decide) ho3 f3
    clear ho3 f3
    refine ⟨h.box, ?_⟩
    simp only [List.getElem_toArray, List.getElem_cons_zero, List.getElem_cons_succ, Act.put, List.setIfInBounds_toArray, List.set_cons_zero, List.set_cons_succ]
    refine rgn.one (i := 7) _ rfl (by kernel_rfl) (by rfl) ?_
    simp only [List.getElem_toArray, List.getElem_cons_zero, List.getElem_cons_succ, Act.put, List.setIfInBounds_toArray, List.set_cons_zero, List.set_cons_succ]
    refine wpO_last h (by simp only [List.length_append, List.length_cons, List.length_nil]; omega) (fun _ => (by simp only [List.length_append, List.length_cons, List.length_nil]; omega)) _ _ (by rfl) (by rfl) g2 125 (by rfl) (by simp) (by simp only [List.length_append, List.length_cons, List.length_nil]; omega) ?_
    intro r4 W5 h
    refine ⟨h.box, ?_⟩
    simp only [List.getElem_toArray, List.getElem_cons_zero, List.getElem_cons_succ, Act.put, List.setIfInBounds_toArray, List.set_cons_zero, List.set_cons_succ]
    refine rgn.one (i := 8) _ rfl (by kernel_rfl) (by rfl) ?_
    simp only [List.getElem_toArray, List.getElem_cons_zero, List.getElem_cons_succ, Act.put, List.setIfInBounds_toArray, List.set_cons_zero, List.set_cons_succ]
    go_wp2_with fail
    refine ⟨h.box, ?_⟩
    refine wpAnyH_done (by kernel_rfl) ?_ _; refine NoPanic.normal ?_
    go_wp2
    go_ret
    have e : l ++ [123] ++ PP ++ [125] = l ++ ([123] ++ PP ++ [125]) := by simp only [List.append_assoc]
    have ho := h.own
    rw [e] at ho
    exact ⟨r4, rfl, ho, h.fr, h.fq⟩
end Go.Proofs.YtechaplindbfoaaGreatDoor.jsn
