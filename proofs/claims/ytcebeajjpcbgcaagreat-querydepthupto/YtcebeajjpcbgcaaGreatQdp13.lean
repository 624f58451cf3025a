import Derived.Test.YtcebeajjpcbgcaaGreatQdp12
import Derived.Test.YtcebeajjpcbgcaaGreatQdp7
namespace Go.Proofs.YtcebeajjpcbgcaaGreat.cu
open Go.ChangeShapes Go.WideShapes Go.ChangeAt Go.RowKit
open ints (hide unhide)
open dt (Dt Kp RowAt Ow Grow OwIn)
open mem (Row)
set_option linter.unusedVariables false
set_option linter.unusedSimpArgs false
/-- the same literal, but for places where they are not asked for -/
def EqL (pl : Bool) : Nat → Dt → Dt → Prop
  | 0, _, _ => False
  | f + 1, d, e => ∃ k tx bl its its' fls fls' ln co ln' co', d = litD k tx bl (Dt.of its) (Dt.of fls) ln co ∧ e = litD k tx bl (Dt.of its') (Dt.of fls') ln' co' ∧ (pl = true → ln = ln' ∧ co = co') ∧
      its.length = its'.length ∧ fls.length = fls'.length ∧ (∀ (i : Nat) x y, its[i]? = some x → its'[i]? = some y → EqL pl f x y) ∧
      (∀ (i : Nat) x y, fls[i]? = some x → fls'[i]? = some y → ∃ nm v v' a b a' b', x = fldD nm v a b ∧ y = fldD nm v' a' b' ∧ (pl = true → a = a' ∧ b = b') ∧ EqL pl f v v')
theorem EqL.left {pl : Bool} : ∀ {f : Nat} {d e : Dt}, EqL pl f d e → ∃ k tx bl its fls ln co, d = litD k tx bl its fls ln co
  | 0, d, e, h => h.elim
  | f + 1, d, e, ⟨k, tx, bl, its, its', fls, fls', ln, co, ln', co', h, _⟩ => ⟨k, tx, bl, _, _, ln, co, h⟩
theorem EqL.right {pl : Bool} : ∀ {f : Nat} {d e : Dt}, EqL pl f d e → ∃ k tx bl its fls ln co, e = litD k tx bl its fls ln co
  | 0, d, e, h => h.elim
  | f + 1, d, e, ⟨k, tx, bl, its, its', fls, fls', ln, co, ln', co', _, h, _⟩ => ⟨k, tx, bl, _, _, ln', co', h⟩
theorem IsLit.same (pl : Bool) : ∀ {f : Nat} {d : Dt}, IsLit f d → EqL pl f d d
  | 0, d, h => h.elim
  | f + 1, d, h => by
    obtain ⟨k, tx, bl, its, fls, ln, co, rfl, hI, hF⟩ := h
    refine ⟨k, tx, bl, its, its, fls, fls, ln, co, ln, co, rfl, rfl, fun _ => ⟨rfl, rfl⟩, rfl, rfl, fun i x y hx hy => ?_, fun i x y hx hy => ?_⟩
    · rw [hx] at hy
      obtain rfl := Option.some.inj hy
      exact IsLit.same pl (hI x (List.mem_of_getElem? hx))
    · rw [hx] at hy
      obtain rfl := Option.some.inj hy
      obtain ⟨nm, v, a, b, rfl, hv⟩ := hF x (List.mem_of_getElem? hx)
      exact ⟨nm, v, v, a, b, a, b, rfl, rfl, fun _ => ⟨rfl, rfl⟩, IsLit.same pl hv⟩
theorem lit_shape {w : World} {k : Int} {tx : ByteArray} {bl : Bool} {its fls : Dt} {ln co : Int} {cs : List Value} {F : List Nat} (h : Ow w (litD k tx bl its fls ln co) cs F) : LShape cs := by
  unfold litD at h
  unfold Ow at h
  obtain ⟨d1, rfl, _, h⟩ := h
  unfold Ow at h
  obtain ⟨d2, rfl, _, h⟩ := h
  unfold Ow at h
  obtain ⟨d3, rfl, _, h⟩ := h
  unfold Ow at h
  obtain ⟨ai, ni, ci, d4, F1, F2, rfl, i1, i2, i3, i4, h, rfl⟩ := h
  unfold Ow at h
  obtain ⟨af, nf, cf, d5, F3, F4, rfl, j1, j2, j3, j4, h, rfl⟩ := h
  unfold Ow at h
  obtain ⟨d6, rfl, _, h⟩ := h
  unfold Ow at h
  obtain ⟨d7, rfl, _, h⟩ := h
  unfold Ow at h
  obtain ⟨rfl, rfl⟩ := h
  exact ⟨_, _, _, _, _, _, _, _, _, _, _, rfl⟩
def SmAt (pl : Bool) (d e : Dt) : Prop := ∀ (w : World) (cs ds : List Value) (F G : List Nat), Ow w d cs F → Ow w e ds G → (∀ b ∈ F, b < w.heap.size) → (∀ b ∈ G, b < w.heap.size) → Calls Tryz.prog 34 #[.agg cs.toArray, .agg ds.toArray, .bool pl] w fun e w' => e = .returned (.bool true) ∧ Below w.heap.size w w'
structure SmI (w wr : World) (vc uc : Array Value) : Prop where
  bel : Below w.heap.size w wr
  v : wr.heap[w.heap.size]? = some (.cells vc 70 (0, 0))
  u : wr.heap[w.heap.size + 1]? = some (.cells uc 70 (0, 0))
theorem SmI.more {w wr wn : World} {vc uc : Array Value} (h : SmI w wr vc uc) (hb : Below wr.heap.size wr wn) : SmI w wn vc uc := by
  have h1 : w.heap.size < wr.heap.size := by
    rcases Nat.lt_or_ge w.heap.size wr.heap.size with g | g
    · exact g
    · have := h.v; rw [Array.getElem?_eq_none g] at this; cases this
  have h2 : w.heap.size + 1 < wr.heap.size := by
    rcases Nat.lt_or_ge (w.heap.size + 1) wr.heap.size with g | g
    · exact g
    · have := h.u; rw [Array.getElem?_eq_none g] at this; cases this
  exact ⟨h.bel.trans (hb.mono h.bel.size), (hb.block _ h1).trans h.v, (hb.block _ h2).trans h.u⟩
set_option maxHeartbeats 8000000 in
set_option maxRecDepth 4000 in
theorem same_t : ∀ (f : Nat) (d e : Dt), EqL true f d e → SmAt true d e
  | 0, d, e, h => h.elim
  | f + 1, d, e, h => by
    obtain ⟨k, tx, bl, its, its', fls, fls', ln, co, ln', co', rfl, rfl, hpl, hil, hfl, hI, hF⟩ := h
    intro w cs ds F G how how' hFw hGw
    obtain ⟨ai, n1, ci, af, n2, cf, rfl, hn1, hn2, l1, l2, l3, l4, hit, hft⟩ := lit_cells how
    obtain ⟨ai', n1', ci', af', n2', cf', rfl, hn1', hn2', l1', l2', l3', l4', hit', hft'⟩ := lit_cells how'
    obtain rfl : n1 = n1' := by omega
    obtain rfl : n2 = n2' := by omega
    have Hn := hide (And.intro (And.intro hn1 hn1') (And.intro hn2 hn2'))
    clear hn1 hn1' hn2 hn2' hil hfl
    have ih := hide (fun d e hd => same_t f d e hd)
    have HI := hide hI
    have HFl := hide hF
    have Hit := hide hit
    have Hft := hide hft
    have Hit' := hide hit'
    have Hft' := hide hft'
    have HW := hide hFw
    have HW' := hide hGw
    clear hI hF hit hft hit' hft' hFw hGw how how'
    unfold maxLen at l3 l4 l3' l4'
    obtain ⟨vc, hvc⟩ : ∃ vc : Array Value, vc = #[.int .i64 k, .string tx, .bool bl, .slice ai n1 ci, .slice af n2 cf, .int .i64 ln, .int .i64 co] := ⟨_, rfl⟩
    obtain ⟨uc, huc⟩ : ∃ uc : Array Value, uc = #[.int .i64 k, .string tx, .bool bl, .slice ai' n1 ci', .slice af' n2 cf', .int .i64 ln', .int .i64 co'] := ⟨_, rfl⟩
    obtain ⟨rfl, rfl⟩ := hpl rfl
    go_enter Tryz.func34, Tryz.ntmps34
    go_wp2_with fail
    obtain ⟨w0, hw0⟩ : ∃ w0, w0 = (w.alloc (.cells #[.int .i64 k, .string tx, .bool bl, .slice ai n1 ci, .slice af n2 cf, .int .i64 ln, .int .i64 co] 70)).alloc (.cells #[.int .i64 k, .string tx, .bool bl, .slice ai' n1 ci', .slice af' n2 cf', .int .i64 ln, .int .i64 co] 70) := ⟨_, rfl⟩
    have HV0 := hide (show SmI w w0 vc uc from by
      rw [hw0, hvc, huc]
      refine ⟨((Below.refl _ _).alloc (Nat.le_refl _) _).alloc (by simp) _, (Below.heap_alloc _ _ w.heap.size (by simp)).trans (heap_alloc_new w _), ?_⟩
      have := heap_alloc_new (w.alloc (.cells #[.int .i64 k, .string tx, .bool bl, .slice ai n1 ci, .slice af n2 cf, .int .i64 ln, .int .i64 co] 70)) (.cells #[.int .i64 k, .string tx, .bool bl, .slice ai' n1 ci', .slice af' n2 cf', .int .i64 ln, .int .i64 co] 70)
      simpa using this)
    rw [← hw0]
    clear hw0
    go_loopw [7] (fun i wr => ∃ j : Nat, j ≤ n1 ∧ i = .int .i64 j ∧ SmI w wr vc uc) (fun i _ => n1 - (intOf i).toNat)
    case atStart => exact ⟨0, Nat.zero_le _, rfl, unhide HV0⟩
    case round =>
      obtain ⟨j, hj, rfl, hI⟩ := hrel
      have d3 : wr.cell? ⟨w.heap.size, 3, none⟩ = some (.slice ai n1 ci) := (dt.cell_cells hI.v 3).trans (by rw [hvc]; rfl)
      have u3 : wr.cell? ⟨w.heap.size + 1, 3, none⟩ = some (.slice ai' n1 ci') := (dt.cell_cells hI.u 3).trans (by rw [huc]; rfl)
      by_cases hlt : j < n1
      · have ji : (j : Int) < (n1 : Int) := by omega
        have hlt1 : j < its.length := by have := unhide Hn; omega
        have hlt2 : j < its'.length := by have := unhide Hn; omega
        obtain ⟨p, ds, G1, rfl, hpF, hrow, hdl, hod, hGF⟩ := (unhide Hit) j _ (List.getElem?_eq_getElem hlt1)
        obtain ⟨p', ds', G2, rfl, hpF', hrow', hdl', hod', hGF'⟩ := (unhide Hit') j _ (List.getElem?_eq_getElem hlt2)
        have heq := (unhide HI) j _ _ (List.getElem?_eq_getElem hlt1) (List.getElem?_eq_getElem hlt2)
        obtain ⟨e1, he1⟩ : ∃ e, e = its[j] := ⟨_, rfl⟩
        obtain ⟨e2, he2⟩ : ∃ e, e = its'[j] := ⟨_, rfl⟩
        rw [← he1, ← he2] at heq
        rw [← he1] at hod
        rw [← he2] at hod'
        clear he1 he2
        have hshp : LShape ds ∧ LShape ds' := by
          obtain ⟨_, _, _, _, _, _, _, h1⟩ := heq.left
          obtain ⟨_, _, _, _, _, _, _, h2⟩ := heq.right
          rw [h1] at hod
          rw [h2] at hod'
          exact ⟨lit_shape hod, lit_shape hod'⟩
        obtain ⟨⟨k1, tx1, bl1, ai1, ni1, ci1, af1, nf1, cf1, ln1, co1, rfl⟩, ⟨k2, tx2, bl2, ai2, ni2, ci2, af2, nf2, cf2, ln2, co2, rfl⟩⟩ := hshp
        have hov := hod
        have hov' := hod'
        have hplt := (unhide HW) p hpF
        have hplt' := (unhide HW') p' hpF'
        have hr := fun (q : Nat) (u : Value) hu => (hI.bel.cell (p := ⟨p, j * 7 + q, none⟩) hplt).trans (hrow q u hu)
        have hr' := fun (q : Nat) (u : Value) hu => (hI.bel.cell (p := ⟨p', j * 7 + q, none⟩) hplt').trans (hrow' q u hu)
        have m0 : wr.cell? ⟨p, j * 7, none⟩ = some (.int .i64 k1) := hr 0 _ rfl
        have m1 : wr.cell? ⟨p, j * 7 + 1, none⟩ = some (.string tx1) := hr 1 _ rfl
        have m2 : wr.cell? ⟨p, j * 7 + 2, none⟩ = some (.bool bl1) := hr 2 _ rfl
        have m3 : wr.cell? ⟨p, j * 7 + 3, none⟩ = some (.slice ai1 ni1 ci1) := hr 3 _ rfl
        have m4 : wr.cell? ⟨p, j * 7 + 4, none⟩ = some (.slice af1 nf1 cf1) := hr 4 _ rfl
        have m5 : wr.cell? ⟨p, j * 7 + 5, none⟩ = some (.int .i64 ln1) := hr 5 _ rfl
        have m6 : wr.cell? ⟨p, j * 7 + 6, none⟩ = some (.int .i64 co1) := hr 6 _ rfl
        have n0 : wr.cell? ⟨p', j * 7, none⟩ = some (.int .i64 k2) := hr' 0 _ rfl
        have n1 : wr.cell? ⟨p', j * 7 + 1, none⟩ = some (.string tx2) := hr' 1 _ rfl
        have n2 : wr.cell? ⟨p', j * 7 + 2, none⟩ = some (.bool bl2) := hr' 2 _ rfl
        have n3 : wr.cell? ⟨p', j * 7 + 3, none⟩ = some (.slice ai2 ni2 ci2) := hr' 3 _ rfl
        have n4 : wr.cell? ⟨p', j * 7 + 4, none⟩ = some (.slice af2 nf2 cf2) := hr' 4 _ rfl
        have n5 : wr.cell? ⟨p', j * 7 + 5, none⟩ = some (.int .i64 ln2) := hr' 5 _ rfl
        have n6 : wr.cell? ⟨p', j * 7 + 6, none⟩ = some (.int .i64 co2) := hr' 6 _ rfl
        have hC := hide (fun W (hb : Below w.heap.size w W) => (unhide ih) e1 e2 heq W [Value.int .i64 k1, .string tx1, .bool bl1, .slice ai1 ni1 ci1, .slice af1 nf1 cf1, .int .i64 ln1, .int .i64 co1] [Value.int .i64 k2, .string tx2, .bool bl2, .slice ai2 ni2 ci2, .slice af2 nf2 cf2, .int .i64 ln2, .int .i64 co2] G1 G2 (dt.Ow.agree e1 _ G1 (fun b hb' o => hb.cell (p := ⟨b, o, none⟩) ((unhide HW) b (hGF b hb'))) hov) (dt.Ow.agree e2 _ G2 (fun b hb' o => hb.cell (p := ⟨b, o, none⟩) ((unhide HW') b (hGF' b hb'))) hov') (fun b hb' => Nat.lt_of_lt_of_le ((unhide HW) b (hGF b hb')) hb.size) (fun b hb' => Nat.lt_of_lt_of_le ((unhide HW') b (hGF' b hb')) hb.size))
        have hs0 : w.heap.size < wr.heap.size := by
          rcases Nat.lt_or_ge w.heap.size wr.heap.size with g | g
          · exact g
          · have := hI.v; rw [Array.getElem?_eq_none g] at this; cases this
        have hs1 : w.heap.size + 1 < wr.heap.size := by
          rcases Nat.lt_or_ge (w.heap.size + 1) wr.heap.size with g | g
          · exact g
          · have := hI.u; rw [Array.getElem?_eq_none g] at this; cases this
        have hq1 : p < wr.heap.size := by omega
        have hq2 : p' < wr.heap.size := by omega
        clear hr hr' hrow hrow' hov hov' heq hdl hdl'
        go_wp2_with fail
        have hS0 : Below wr.heap.size wr { wr with drawn := wr.drawn + 1 } := (Below.refl _ _).drew
        have bD := hI.bel.trans (hS0.mono hI.bel.size)
        refine wp_region_noPanic ?_
        refine wp_region_held (S := fun w' => Below wr.heap.size wr w') mixed ?_
        refine wpAnyH_take (i := 0) (v := ?v1) rfl (by kernel_rfl) (by kernel_rfl) (by kernel_rfl) (fun _ _ _ h => h) (Or.inl ⟨by rfl, ?hy1⟩) hS0 ?_
        case hy1 => (intro w' hw'; skip; go_simp; try with_reducible rfl)
        simp only [List.getElem_toArray, List.getElem_cons_zero, List.getElem_cons_succ, Act.put, List.setIfInBounds_toArray, List.set_cons_zero, List.set_cons_succ]
        refine wpAnyH_take (i := 1) (v := ?v2) rfl (by kernel_rfl) (by kernel_rfl) (by kernel_rfl) (fun _ _ _ h => h) (Or.inl ⟨by rfl, ?hy2⟩) hS0 ?_
        case hy2 => (intro w' hw'; have d3' := (hw'.cell (p := ⟨w.heap.size, 3, none⟩) hs0).trans d3; go_simp; try with_reducible rfl)
        simp only [List.getElem_toArray, List.getElem_cons_zero, List.getElem_cons_succ, Act.put, List.setIfInBounds_toArray, List.set_cons_zero, List.set_cons_succ]
        refine wpAnyH_take (i := 2) (v := ?v3) rfl (by kernel_rfl) (by kernel_rfl) (by kernel_rfl) (fun _ _ _ h => h) (Or.inl ⟨by rfl, ?hy3⟩) hS0 ?_
        case hy3 => (intro w' hw'; skip; go_simp; try with_reducible rfl)
        simp only [List.getElem_toArray, List.getElem_cons_zero, List.getElem_cons_succ, Act.put, List.setIfInBounds_toArray, List.set_cons_zero, List.set_cons_succ]
        refine wpAnyH_take (i := 3) (v := ?v4) rfl (by kernel_rfl) (by kernel_rfl) (by kernel_rfl) (fun _ _ _ h => h) (Or.inl ⟨by rfl, ?hy4⟩) hS0 ?_
        case hy4 => (intro w' hw'; skip; go_simp; try with_reducible rfl)
        simp only [List.getElem_toArray, List.getElem_cons_zero, List.getElem_cons_succ, Act.put, List.setIfInBounds_toArray, List.set_cons_zero, List.set_cons_succ]
        refine wpAnyH_take (i := 4) (v := ?v5) rfl (by kernel_rfl) (by kernel_rfl) (by kernel_rfl) (fun _ _ _ h => h) (Or.inl ⟨by rfl, ?hy5⟩) hS0 ?_
        case hy5 => (intro w' hw'; have m0' := (hw'.cell (p := ⟨p, j * 7, none⟩) hq1).trans m0; have m1' := (hw'.cell (p := ⟨p, j * 7 + 1, none⟩) hq1).trans m1; have m2' := (hw'.cell (p := ⟨p, j * 7 + 2, none⟩) hq1).trans m2; have m3' := (hw'.cell (p := ⟨p, j * 7 + 3, none⟩) hq1).trans m3; have m4' := (hw'.cell (p := ⟨p, j * 7 + 4, none⟩) hq1).trans m4; have m5' := (hw'.cell (p := ⟨p, j * 7 + 5, none⟩) hq1).trans m5; have m6' := (hw'.cell (p := ⟨p, j * 7 + 6, none⟩) hq1).trans m6; go_simp; try with_reducible rfl)
        simp only [List.getElem_toArray, List.getElem_cons_zero, List.getElem_cons_succ, Act.put, List.setIfInBounds_toArray, List.set_cons_zero, List.set_cons_succ]
        refine wpAnyH_take (i := 5) (v := ?v6) rfl (by kernel_rfl) (by kernel_rfl) (by kernel_rfl) (fun _ _ _ h => h) (Or.inl ⟨by rfl, ?hy6⟩) hS0 ?_
        case hy6 => (intro w' hw'; skip; go_simp; try with_reducible rfl)
        simp only [List.getElem_toArray, List.getElem_cons_zero, List.getElem_cons_succ, Act.put, List.setIfInBounds_toArray, List.set_cons_zero, List.set_cons_succ]
        refine wpAnyH_take (i := 6) (v := ?v7) rfl (by kernel_rfl) (by kernel_rfl) (by kernel_rfl) (fun _ _ _ h => h) (Or.inl ⟨by rfl, ?hy7⟩) hS0 ?_
        case hy7 => (intro w' hw'; have u3' := (hw'.cell (p := ⟨w.heap.size + 1, 3, none⟩) hs1).trans u3; go_simp; try with_reducible rfl)
        simp only [List.getElem_toArray, List.getElem_cons_zero, List.getElem_cons_succ, Act.put, List.setIfInBounds_toArray, List.set_cons_zero, List.set_cons_succ]
        refine wpAnyH_take (i := 7) (v := ?v8) rfl (by kernel_rfl) (by kernel_rfl) (by kernel_rfl) (fun _ _ _ h => h) (Or.inl ⟨by rfl, ?hy8⟩) hS0 ?_
        case hy8 => (intro w' hw'; skip; go_simp; try with_reducible rfl)
        simp only [List.getElem_toArray, List.getElem_cons_zero, List.getElem_cons_succ, Act.put, List.setIfInBounds_toArray, List.set_cons_zero, List.set_cons_succ]
        refine wpAnyH_take (i := 8) (v := ?v9) rfl (by kernel_rfl) (by kernel_rfl) (by kernel_rfl) (fun _ _ _ h => h) (Or.inl ⟨by rfl, ?hy9⟩) hS0 ?_
        case hy9 => (intro w' hw'; skip; go_simp; try with_reducible rfl)
        simp only [List.getElem_toArray, List.getElem_cons_zero, List.getElem_cons_succ, Act.put, List.setIfInBounds_toArray, List.set_cons_zero, List.set_cons_succ]
        refine wpAnyH_take (i := 9) (v := ?v10) rfl (by kernel_rfl) (by kernel_rfl) (by kernel_rfl) (fun _ _ _ h => h) (Or.inl ⟨by rfl, ?hy10⟩) hS0 ?_
        case hy10 => (intro w' hw'; have n0' := (hw'.cell (p := ⟨p', j * 7, none⟩) hq2).trans n0; have n1' := (hw'.cell (p := ⟨p', j * 7 + 1, none⟩) hq2).trans n1; have n2' := (hw'.cell (p := ⟨p', j * 7 + 2, none⟩) hq2).trans n2; have n3' := (hw'.cell (p := ⟨p', j * 7 + 3, none⟩) hq2).trans n3; have n4' := (hw'.cell (p := ⟨p', j * 7 + 4, none⟩) hq2).trans n4; have n5' := (hw'.cell (p := ⟨p', j * 7 + 5, none⟩) hq2).trans n5; have n6' := (hw'.cell (p := ⟨p', j * 7 + 6, none⟩) hq2).trans n6; go_simp; try with_reducible rfl)
        simp only [List.getElem_toArray, List.getElem_cons_zero, List.getElem_cons_succ, Act.put, List.setIfInBounds_toArray, List.set_cons_zero, List.set_cons_succ]
        refine wpAnyH_take (i := 10) (v := ?v11) rfl (by kernel_rfl) (by kernel_rfl) (by kernel_rfl) (fun _ _ _ h => h) (Or.inl ⟨by rfl, ?hy11⟩) hS0 ?_
        case hy11 => (intro w' hw'; skip; go_simp; try with_reducible rfl)
        simp only [List.getElem_toArray, List.getElem_cons_zero, List.getElem_cons_succ, Act.put, List.setIfInBounds_toArray, List.set_cons_zero, List.set_cons_succ]
        refine rgn.one (i := 11) _ rfl (by kernel_rfl) (by rfl) ?_
        simp only [List.getElem_toArray, List.getElem_cons_zero, List.getElem_cons_succ, Act.put, List.setIfInBounds_toArray, List.set_cons_zero, List.set_cons_succ]
        go_wp2_with fail
        refine ((unhide hC) _ bD).mono ?_
        rintro e' w2 ⟨rfl, b2⟩
        have b02 : Below wr.heap.size wr w2 := hS0.trans b2
        refine ⟨b02, ?_⟩
        clear hS0 b2 bD
        have hS0 := b02
        try simp only [List.getElem_toArray, List.getElem_cons_zero, List.getElem_cons_succ, Act.put, List.setIfInBounds_toArray, List.set_cons_zero, List.set_cons_succ]
        refine rgn.take (i := 12) _ (.bool true) rfl (by kernel_rfl) (by kernel_rfl) (by kernel_rfl) (fun _ _ _ h => h) (by rfl) hS0 (fun w' hw' => by go_simp) ?_
        simp only [List.getElem_toArray, List.getElem_cons_zero, List.getElem_cons_succ, Act.put, List.setIfInBounds_toArray, List.set_cons_zero, List.set_cons_succ]
        refine wpAnyH_done (by kernel_rfl) ?_ _; refine NoPanic.normal ?_
        have hI2 := hI.more b02
        clear m0 m1 m2 m3 m4 m5 m6 n0 n1 n2 n3 n4 n5 n6 d3 u3 hC hS0
        go_wp2_with fail
        go_roundw
        case rel => exact ⟨j + 1, by omega, by go_num, hI2⟩
        case measure => first | (simp [intOf]; omega) | simp [intOf]
      · have ji : ¬ (j : Int) < (n1 : Int) := by omega
        have hI9 := hide hI
        clear hlt
        go_wp2_with fail
        have HV0 := hI9
        clear d3 u3
        go_loopw [9] (fun i wr => ∃ j : Nat, j ≤ n2 ∧ i = .int .i64 j ∧ SmI w wr vc uc) (fun i _ => n2 - (intOf i).toNat)
        case atStart => exact ⟨0, Nat.zero_le _, rfl, unhide HV0⟩
        case round =>
          obtain ⟨j, hj, rfl, hI⟩ := hrel
          have d3 : wr.cell? ⟨w.heap.size, 4, none⟩ = some (.slice af n2 cf) := (dt.cell_cells hI.v 4).trans (by rw [hvc]; rfl)
          have u3 : wr.cell? ⟨w.heap.size + 1, 4, none⟩ = some (.slice af' n2 cf') := (dt.cell_cells hI.u 4).trans (by rw [huc]; rfl)
          by_cases hlt : j < n2
          · have ji : (j : Int) < (n2 : Int) := by omega
            have hlt1 : j < fls.length := by have := unhide Hn; omega
            have hlt2 : j < fls'.length := by have := unhide Hn; omega
            obtain ⟨p, ds, G1, rfl, hpF, hrow, hdl, hod, hGF⟩ := (unhide Hft) j _ (List.getElem?_eq_getElem hlt1)
            obtain ⟨p', ds', G2, rfl, hpF', hrow', hdl', hod', hGF'⟩ := (unhide Hft') j _ (List.getElem?_eq_getElem hlt2)
            obtain ⟨nm, e1, e2, x1, y1, x2, y2, hx, hy, hxy, heq⟩ := (unhide HFl) j _ _ (List.getElem?_eq_getElem hlt1) (List.getElem?_eq_getElem hlt2)
            rw [hx] at hod
            rw [hy] at hod'
            have hshp : ∃ k1 tx1 bl1 ai1 ni1 ci1 af1 nf1 cf1 ln1 co1 k2 tx2 bl2 ai2 ni2 ci2 af2 nf2 cf2 ln2 co2, ds = [.string nm, .int .i64 k1, .string tx1, .bool bl1, .slice ai1 ni1 ci1, .slice af1 nf1 cf1, .int .i64 ln1, .int .i64 co1, .int .i64 x1, .int .i64 y1] ∧ ds' = [.string nm, .int .i64 k2, .string tx2, .bool bl2, .slice ai2 ni2 ci2, .slice af2 nf2 cf2, .int .i64 ln2, .int .i64 co2, .int .i64 x2, .int .i64 y2] ∧ Ow w e1 [.int .i64 k1, .string tx1, .bool bl1, .slice ai1 ni1 ci1, .slice af1 nf1 cf1, .int .i64 ln1, .int .i64 co1] G1 ∧ Ow w e2 [.int .i64 k2, .string tx2, .bool bl2, .slice ai2 ni2 ci2, .slice af2 nf2 cf2, .int .i64 ln2, .int .i64 co2] G2 := by
              obtain ⟨k1, tx1, bl1, i1, f1, ln1, co1, h1⟩ := heq.left
              obtain ⟨k2, tx2, bl2, i2, f2, ln2, co2, h2⟩ := heq.right
              rw [h1] at hod
              rw [h2] at hod'
              obtain ⟨a1, a2, a3, a4, a5, a6, q1, q2⟩ := fld_cells hod
              obtain ⟨b1, b2, b3, b4, b5, b6, r1, r2⟩ := fld_cells hod'
              rw [← h1] at q2
              rw [← h2] at r2
              exact ⟨k1, tx1, bl1, a1, a2, a3, a4, a5, a6, ln1, co1, k2, tx2, bl2, b1, b2, b3, b4, b5, b6, ln2, co2, q1, r1, q2, r2⟩
            obtain ⟨k1, tx1, bl1, ai1, ni1, ci1, af1, nf1, cf1, ln1, co1, k2, tx2, bl2, ai2, ni2, ci2, af2, nf2, cf2, ln2, co2, rfl, rfl, hov, hov'⟩ := hshp
            obtain ⟨rfl, rfl⟩ := hxy (by first | rfl | trivial)
            clear hod hod' hx hy
            have hplt := (unhide HW) p hpF
            have hplt' := (unhide HW') p' hpF'
            have hr := fun (q : Nat) (u : Value) hu => (hI.bel.cell (p := ⟨p, j * 10 + q, none⟩) hplt).trans (hrow q u hu)
            have hr' := fun (q : Nat) (u : Value) hu => (hI.bel.cell (p := ⟨p', j * 10 + q, none⟩) hplt').trans (hrow' q u hu)
            have mN : wr.cell? ⟨p, j * 10, none⟩ = some (.string nm) := hr 0 _ rfl
            have m0 : wr.cell? ⟨p, j * 10 + 1, none⟩ = some (.int .i64 k1) := hr 1 _ rfl
            have m1 : wr.cell? ⟨p, j * 10 + 2, none⟩ = some (.string tx1) := hr 2 _ rfl
            have m2 : wr.cell? ⟨p, j * 10 + 3, none⟩ = some (.bool bl1) := hr 3 _ rfl
            have m3 : wr.cell? ⟨p, j * 10 + 4, none⟩ = some (.slice ai1 ni1 ci1) := hr 4 _ rfl
            have m4 : wr.cell? ⟨p, j * 10 + 5, none⟩ = some (.slice af1 nf1 cf1) := hr 5 _ rfl
            have m5 : wr.cell? ⟨p, j * 10 + 6, none⟩ = some (.int .i64 ln1) := hr 6 _ rfl
            have m6 : wr.cell? ⟨p, j * 10 + 7, none⟩ = some (.int .i64 co1) := hr 7 _ rfl
            have m8 : wr.cell? ⟨p, j * 10 + 8, none⟩ = some (.int .i64 x1) := hr 8 _ rfl
            have m9 : wr.cell? ⟨p, j * 10 + 9, none⟩ = some (.int .i64 y1) := hr 9 _ rfl
            have nN : wr.cell? ⟨p', j * 10, none⟩ = some (.string nm) := hr' 0 _ rfl
            have n0 : wr.cell? ⟨p', j * 10 + 1, none⟩ = some (.int .i64 k2) := hr' 1 _ rfl
            have n1 : wr.cell? ⟨p', j * 10 + 2, none⟩ = some (.string tx2) := hr' 2 _ rfl
            have n2 : wr.cell? ⟨p', j * 10 + 3, none⟩ = some (.bool bl2) := hr' 3 _ rfl
            have n3 : wr.cell? ⟨p', j * 10 + 4, none⟩ = some (.slice ai2 ni2 ci2) := hr' 4 _ rfl
            have n4 : wr.cell? ⟨p', j * 10 + 5, none⟩ = some (.slice af2 nf2 cf2) := hr' 5 _ rfl
            have n5 : wr.cell? ⟨p', j * 10 + 6, none⟩ = some (.int .i64 ln2) := hr' 6 _ rfl
            have n6 : wr.cell? ⟨p', j * 10 + 7, none⟩ = some (.int .i64 co2) := hr' 7 _ rfl
            have n8 : wr.cell? ⟨p', j * 10 + 8, none⟩ = some (.int .i64 x1) := hr' 8 _ rfl
            have n9 : wr.cell? ⟨p', j * 10 + 9, none⟩ = some (.int .i64 y1) := hr' 9 _ rfl
            have hC := hide (fun W (hb : Below w.heap.size w W) => (unhide ih) e1 e2 heq W [Value.int .i64 k1, .string tx1, .bool bl1, .slice ai1 ni1 ci1, .slice af1 nf1 cf1, .int .i64 ln1, .int .i64 co1] [Value.int .i64 k2, .string tx2, .bool bl2, .slice ai2 ni2 ci2, .slice af2 nf2 cf2, .int .i64 ln2, .int .i64 co2] G1 G2 (dt.Ow.agree e1 _ G1 (fun b hb' o => hb.cell (p := ⟨b, o, none⟩) ((unhide HW) b (hGF b hb'))) hov) (dt.Ow.agree e2 _ G2 (fun b hb' o => hb.cell (p := ⟨b, o, none⟩) ((unhide HW') b (hGF' b hb'))) hov') (fun b hb' => Nat.lt_of_lt_of_le ((unhide HW) b (hGF b hb')) hb.size) (fun b hb' => Nat.lt_of_lt_of_le ((unhide HW') b (hGF' b hb')) hb.size))
            have hs0 : w.heap.size < wr.heap.size := by
              rcases Nat.lt_or_ge w.heap.size wr.heap.size with g | g
              · exact g
              · have := hI.v; rw [Array.getElem?_eq_none g] at this; cases this
            have hs1 : w.heap.size + 1 < wr.heap.size := by
              rcases Nat.lt_or_ge (w.heap.size + 1) wr.heap.size with g | g
              · exact g
              · have := hI.u; rw [Array.getElem?_eq_none g] at this; cases this
            have hq1 : p < wr.heap.size := by omega
            have hq2 : p' < wr.heap.size := by omega
            clear hr hr' hrow hrow' hov hov' heq hdl hdl'
            go_wp2_with fail
            have hS0 : Below wr.heap.size wr { wr with drawn := wr.drawn + 1 } := (Below.refl _ _).drew
            have bD := hI.bel.trans (hS0.mono hI.bel.size)
            refine wp_region_noPanic ?_
            refine wp_region_held (S := fun w' => Below wr.heap.size wr w') mixed ?_
            refine wpAnyH_take (i := 0) (v := ?v12) rfl (by kernel_rfl) (by kernel_rfl) (by kernel_rfl) (fun _ _ _ h => h) (Or.inl ⟨by rfl, ?hy12⟩) hS0 ?_
            case hy12 => (intro w' hw'; skip; go_simp; try with_reducible rfl)
            simp only [List.getElem_toArray, List.getElem_cons_zero, List.getElem_cons_succ, Act.put, List.setIfInBounds_toArray, List.set_cons_zero, List.set_cons_succ]
            refine wpAnyH_take (i := 1) (v := ?v13) rfl (by kernel_rfl) (by kernel_rfl) (by kernel_rfl) (fun _ _ _ h => h) (Or.inl ⟨by rfl, ?hy13⟩) hS0 ?_
            case hy13 => (intro w' hw'; have d3' := (hw'.cell (p := ⟨w.heap.size, 4, none⟩) hs0).trans d3; go_simp; try with_reducible rfl)
            simp only [List.getElem_toArray, List.getElem_cons_zero, List.getElem_cons_succ, Act.put, List.setIfInBounds_toArray, List.set_cons_zero, List.set_cons_succ]
            refine wpAnyH_take (i := 2) (v := ?v14) rfl (by kernel_rfl) (by kernel_rfl) (by kernel_rfl) (fun _ _ _ h => h) (Or.inl ⟨by rfl, ?hy14⟩) hS0 ?_
            case hy14 => (intro w' hw'; skip; go_simp; try with_reducible rfl)
            simp only [List.getElem_toArray, List.getElem_cons_zero, List.getElem_cons_succ, Act.put, List.setIfInBounds_toArray, List.set_cons_zero, List.set_cons_succ]
            refine wpAnyH_take (i := 3) (v := ?v15) rfl (by kernel_rfl) (by kernel_rfl) (by kernel_rfl) (fun _ _ _ h => h) (Or.inl ⟨by rfl, ?hy15⟩) hS0 ?_
            case hy15 => (intro w' hw'; skip; go_simp; try with_reducible rfl)
            simp only [List.getElem_toArray, List.getElem_cons_zero, List.getElem_cons_succ, Act.put, List.setIfInBounds_toArray, List.set_cons_zero, List.set_cons_succ]
            refine wpAnyH_take (i := 4) (v := ?v16) rfl (by kernel_rfl) (by kernel_rfl) (by kernel_rfl) (fun _ _ _ h => h) (Or.inl ⟨by rfl, ?hy16⟩) hS0 ?_
            case hy16 => (intro w' hw'; skip; go_simp; try with_reducible rfl)
            simp only [List.getElem_toArray, List.getElem_cons_zero, List.getElem_cons_succ, Act.put, List.setIfInBounds_toArray, List.set_cons_zero, List.set_cons_succ]
            refine wpAnyH_take (i := 5) (v := ?v17) rfl (by kernel_rfl) (by kernel_rfl) (by kernel_rfl) (fun _ _ _ h => h) (Or.inl ⟨by rfl, ?hy17⟩) hS0 ?_
            case hy17 => (intro w' hw'; have m0' := (hw'.cell (p := ⟨p, j * 10 + 1, none⟩) hq1).trans m0; have m1' := (hw'.cell (p := ⟨p, j * 10 + 2, none⟩) hq1).trans m1; have m2' := (hw'.cell (p := ⟨p, j * 10 + 3, none⟩) hq1).trans m2; have m3' := (hw'.cell (p := ⟨p, j * 10 + 4, none⟩) hq1).trans m3; have m4' := (hw'.cell (p := ⟨p, j * 10 + 5, none⟩) hq1).trans m4; have m5' := (hw'.cell (p := ⟨p, j * 10 + 6, none⟩) hq1).trans m5; have m6' := (hw'.cell (p := ⟨p, j * 10 + 7, none⟩) hq1).trans m6; go_simp; try with_reducible rfl)
            simp only [List.getElem_toArray, List.getElem_cons_zero, List.getElem_cons_succ, Act.put, List.setIfInBounds_toArray, List.set_cons_zero, List.set_cons_succ]
            refine wpAnyH_take (i := 6) (v := ?v18) rfl (by kernel_rfl) (by kernel_rfl) (by kernel_rfl) (fun _ _ _ h => h) (Or.inl ⟨by rfl, ?hy18⟩) hS0 ?_
            case hy18 => (intro w' hw'; skip; go_simp; try with_reducible rfl)
            simp only [List.getElem_toArray, List.getElem_cons_zero, List.getElem_cons_succ, Act.put, List.setIfInBounds_toArray, List.set_cons_zero, List.set_cons_succ]
            refine wpAnyH_take (i := 7) (v := ?v19) rfl (by kernel_rfl) (by kernel_rfl) (by kernel_rfl) (fun _ _ _ h => h) (Or.inl ⟨by rfl, ?hy19⟩) hS0 ?_
            case hy19 => (intro w' hw'; have u3' := (hw'.cell (p := ⟨w.heap.size + 1, 4, none⟩) hs1).trans u3; go_simp; try with_reducible rfl)
            simp only [List.getElem_toArray, List.getElem_cons_zero, List.getElem_cons_succ, Act.put, List.setIfInBounds_toArray, List.set_cons_zero, List.set_cons_succ]
            refine wpAnyH_take (i := 8) (v := ?v20) rfl (by kernel_rfl) (by kernel_rfl) (by kernel_rfl) (fun _ _ _ h => h) (Or.inl ⟨by rfl, ?hy20⟩) hS0 ?_
            case hy20 => (intro w' hw'; skip; go_simp; try with_reducible rfl)
            simp only [List.getElem_toArray, List.getElem_cons_zero, List.getElem_cons_succ, Act.put, List.setIfInBounds_toArray, List.set_cons_zero, List.set_cons_succ]
            refine wpAnyH_take (i := 9) (v := ?v21) rfl (by kernel_rfl) (by kernel_rfl) (by kernel_rfl) (fun _ _ _ h => h) (Or.inl ⟨by rfl, ?hy21⟩) hS0 ?_
            case hy21 => (intro w' hw'; skip; go_simp; try with_reducible rfl)
            simp only [List.getElem_toArray, List.getElem_cons_zero, List.getElem_cons_succ, Act.put, List.setIfInBounds_toArray, List.set_cons_zero, List.set_cons_succ]
            refine wpAnyH_take (i := 10) (v := ?v22) rfl (by kernel_rfl) (by kernel_rfl) (by kernel_rfl) (fun _ _ _ h => h) (Or.inl ⟨by rfl, ?hy22⟩) hS0 ?_
            case hy22 => (intro w' hw'; skip; go_simp; try with_reducible rfl)
            simp only [List.getElem_toArray, List.getElem_cons_zero, List.getElem_cons_succ, Act.put, List.setIfInBounds_toArray, List.set_cons_zero, List.set_cons_succ]
            refine wpAnyH_take (i := 11) (v := ?v23) rfl (by kernel_rfl) (by kernel_rfl) (by kernel_rfl) (fun _ _ _ h => h) (Or.inl ⟨by rfl, ?hy23⟩) hS0 ?_
            case hy23 => (intro w' hw'; have n0' := (hw'.cell (p := ⟨p', j * 10 + 1, none⟩) hq2).trans n0; have n1' := (hw'.cell (p := ⟨p', j * 10 + 2, none⟩) hq2).trans n1; have n2' := (hw'.cell (p := ⟨p', j * 10 + 3, none⟩) hq2).trans n2; have n3' := (hw'.cell (p := ⟨p', j * 10 + 4, none⟩) hq2).trans n3; have n4' := (hw'.cell (p := ⟨p', j * 10 + 5, none⟩) hq2).trans n4; have n5' := (hw'.cell (p := ⟨p', j * 10 + 6, none⟩) hq2).trans n5; have n6' := (hw'.cell (p := ⟨p', j * 10 + 7, none⟩) hq2).trans n6; go_simp; try with_reducible rfl)
            simp only [List.getElem_toArray, List.getElem_cons_zero, List.getElem_cons_succ, Act.put, List.setIfInBounds_toArray, List.set_cons_zero, List.set_cons_succ]
            refine wpAnyH_take (i := 12) (v := ?v24) rfl (by kernel_rfl) (by kernel_rfl) (by kernel_rfl) (fun _ _ _ h => h) (Or.inl ⟨by rfl, ?hy24⟩) hS0 ?_
            case hy24 => (intro w' hw'; skip; go_simp; try with_reducible rfl)
            simp only [List.getElem_toArray, List.getElem_cons_zero, List.getElem_cons_succ, Act.put, List.setIfInBounds_toArray, List.set_cons_zero, List.set_cons_succ]
            refine rgn.one (i := 13) _ rfl (by kernel_rfl) (by rfl) ?_
            simp only [List.getElem_toArray, List.getElem_cons_zero, List.getElem_cons_succ, Act.put, List.setIfInBounds_toArray, List.set_cons_zero, List.set_cons_succ]
            go_wp2_with fail
            refine ((unhide hC) _ bD).mono ?_
            rintro e' w2 ⟨rfl, b2⟩
            have b02 : Below wr.heap.size wr w2 := hS0.trans b2
            refine ⟨b02, ?_⟩
            clear hS0 b2 bD
            have hS0 := b02
            try simp only [List.getElem_toArray, List.getElem_cons_zero, List.getElem_cons_succ, Act.put, List.setIfInBounds_toArray, List.set_cons_zero, List.set_cons_succ]
            refine rgn.take (i := 14) _ (.bool true) rfl (by kernel_rfl) (by kernel_rfl) (by kernel_rfl) (fun _ _ _ h => h) (by rfl) hS0 (fun w' hw' => by go_simp) ?_
            simp only [List.getElem_toArray, List.getElem_cons_zero, List.getElem_cons_succ, Act.put, List.setIfInBounds_toArray, List.set_cons_zero, List.set_cons_succ]
            refine wpAnyH_done (by kernel_rfl) ?_ _; refine NoPanic.normal ?_
            have hI2 := hI.more b02
            have d3x := (b02.cell (p := ⟨w.heap.size, 4, none⟩) hs0).trans d3
            have u3x := (b02.cell (p := ⟨w.heap.size + 1, 4, none⟩) hs1).trans u3
            have mNx := (b02.cell (p := ⟨p, j * 10, none⟩) hq1).trans mN
            have nNx := (b02.cell (p := ⟨p', j * 10, none⟩) hq2).trans nN
            have m8x := (b02.cell (p := ⟨p, j * 10 + 8, none⟩) hq1).trans m8
            have n8x := (b02.cell (p := ⟨p', j * 10 + 8, none⟩) hq2).trans n8
            have m9x := (b02.cell (p := ⟨p, j * 10 + 9, none⟩) hq1).trans m9
            have n9x := (b02.cell (p := ⟨p', j * 10 + 9, none⟩) hq2).trans n9
            clear m0 m1 m2 m3 m4 m5 m6 n0 n1 n2 n3 n4 n5 n6 mN nN m8 n8 m9 n9 d3 u3 hC hS0
            go_wp2_with fail
            have hS0 : Below w2.heap.size w2 { w2 with drawn := w2.drawn + 1 } := (Below.refl _ _).drew
            have g0 : w.heap.size < w2.heap.size := Nat.lt_of_lt_of_le hs0 b02.size
            have g1 : w.heap.size + 1 < w2.heap.size := Nat.lt_of_lt_of_le hs1 b02.size
            have g2 : p < w2.heap.size := Nat.lt_of_lt_of_le hq1 b02.size
            have g3 : p' < w2.heap.size := Nat.lt_of_lt_of_le hq2 b02.size
            refine wp_region_noPanic ?_
            refine wp_region_held (S := fun w' => Below w2.heap.size w2 w') mixed ?_
            refine wpAnyH_take (i := 0) (v := ?v25) rfl (by kernel_rfl) (by kernel_rfl) (by kernel_rfl) (fun _ _ _ h => h) (Or.inl ⟨by rfl, ?hy25⟩) hS0 ?_
            case hy25 => (intro w' hw'; skip; go_simp; try with_reducible rfl)
            simp only [List.getElem_toArray, List.getElem_cons_zero, List.getElem_cons_succ, Act.put, List.setIfInBounds_toArray, List.set_cons_zero, List.set_cons_succ]
            refine wpAnyH_take (i := 1) (v := ?v26) rfl (by kernel_rfl) (by kernel_rfl) (by kernel_rfl) (fun _ _ _ h => h) (Or.inl ⟨by rfl, ?hy26⟩) hS0 ?_
            case hy26 => (intro w' hw'; skip; go_simp; try with_reducible rfl)
            simp only [List.getElem_toArray, List.getElem_cons_zero, List.getElem_cons_succ, Act.put, List.setIfInBounds_toArray, List.set_cons_zero, List.set_cons_succ]
            refine wpAnyH_take (i := 2) (v := ?v27) rfl (by kernel_rfl) (by kernel_rfl) (by kernel_rfl) (fun _ _ _ h => h) (Or.inl ⟨by rfl, ?hy27⟩) hS0 ?_
            case hy27 => (intro w' hw'; skip; go_simp; try with_reducible rfl)
            simp only [List.getElem_toArray, List.getElem_cons_zero, List.getElem_cons_succ, Act.put, List.setIfInBounds_toArray, List.set_cons_zero, List.set_cons_succ]
            refine wpAnyH_take (i := 3) (v := ?v28) rfl (by kernel_rfl) (by kernel_rfl) (by kernel_rfl) (fun _ _ _ h => h) (Or.inl ⟨by rfl, ?hy28⟩) hS0 ?_
            case hy28 => (intro w' hw'; skip; go_simp; try with_reducible rfl)
            simp only [List.getElem_toArray, List.getElem_cons_zero, List.getElem_cons_succ, Act.put, List.setIfInBounds_toArray, List.set_cons_zero, List.set_cons_succ]
            refine wpAnyH_take (i := 4) (v := ?v29) rfl (by kernel_rfl) (by kernel_rfl) (by kernel_rfl) (fun _ _ _ h => h) (Or.inl ⟨by rfl, ?hy29⟩) hS0 ?_
            case hy29 => (intro w' hw'; have d3' := (hw'.cell (p := ⟨w.heap.size, 4, none⟩) g0).trans d3x; go_simp; try with_reducible rfl)
            simp only [List.getElem_toArray, List.getElem_cons_zero, List.getElem_cons_succ, Act.put, List.setIfInBounds_toArray, List.set_cons_zero, List.set_cons_succ]
            refine wpAnyH_take (i := 5) (v := ?v30) rfl (by kernel_rfl) (by kernel_rfl) (by kernel_rfl) (fun _ _ _ h => h) (Or.inl ⟨by rfl, ?hy30⟩) hS0 ?_
            case hy30 => (intro w' hw'; skip; go_simp; try with_reducible rfl)
            simp only [List.getElem_toArray, List.getElem_cons_zero, List.getElem_cons_succ, Act.put, List.setIfInBounds_toArray, List.set_cons_zero, List.set_cons_succ]
            refine wpAnyH_take (i := 6) (v := ?v31) rfl (by kernel_rfl) (by kernel_rfl) (by kernel_rfl) (fun _ _ _ h => h) (Or.inl ⟨by rfl, ?hy31⟩) hS0 ?_
            case hy31 => (intro w' hw'; skip; go_simp; try with_reducible rfl)
            simp only [List.getElem_toArray, List.getElem_cons_zero, List.getElem_cons_succ, Act.put, List.setIfInBounds_toArray, List.set_cons_zero, List.set_cons_succ]
            refine wpAnyH_take (i := 7) (v := ?v32) rfl (by kernel_rfl) (by kernel_rfl) (by kernel_rfl) (fun _ _ _ h => h) (Or.inl ⟨by rfl, ?hy32⟩) hS0 ?_
            case hy32 => (intro w' hw'; skip; go_simp; try with_reducible rfl)
            simp only [List.getElem_toArray, List.getElem_cons_zero, List.getElem_cons_succ, Act.put, List.setIfInBounds_toArray, List.set_cons_zero, List.set_cons_succ]
            refine wpAnyH_take (i := 8) (v := ?v33) rfl (by kernel_rfl) (by kernel_rfl) (by kernel_rfl) (fun _ _ _ h => h) (Or.inl ⟨by rfl, ?hy33⟩) hS0 ?_
            case hy33 => (intro w' hw'; have mN' := (hw'.cell (p := ⟨p, j * 10, none⟩) g2).trans mNx; go_simp; try with_reducible rfl)
            simp only [List.getElem_toArray, List.getElem_cons_zero, List.getElem_cons_succ, Act.put, List.setIfInBounds_toArray, List.set_cons_zero, List.set_cons_succ]
            refine wpAnyH_take (i := 9) (v := ?v34) rfl (by kernel_rfl) (by kernel_rfl) (by kernel_rfl) (fun _ _ _ h => h) (Or.inl ⟨by rfl, ?hy34⟩) hS0 ?_
            case hy34 => (intro w' hw'; skip; go_simp; try with_reducible rfl)
            simp only [List.getElem_toArray, List.getElem_cons_zero, List.getElem_cons_succ, Act.put, List.setIfInBounds_toArray, List.set_cons_zero, List.set_cons_succ]
            refine wpAnyH_take (i := 10) (v := ?v35) rfl (by kernel_rfl) (by kernel_rfl) (by kernel_rfl) (fun _ _ _ h => h) (Or.inl ⟨by rfl, ?hy35⟩) hS0 ?_
            case hy35 => (intro w' hw'; have u3' := (hw'.cell (p := ⟨w.heap.size + 1, 4, none⟩) g1).trans u3x; go_simp; try with_reducible rfl)
            simp only [List.getElem_toArray, List.getElem_cons_zero, List.getElem_cons_succ, Act.put, List.setIfInBounds_toArray, List.set_cons_zero, List.set_cons_succ]
            refine wpAnyH_take (i := 11) (v := ?v36) rfl (by kernel_rfl) (by kernel_rfl) (by kernel_rfl) (fun _ _ _ h => h) (Or.inl ⟨by rfl, ?hy36⟩) hS0 ?_
            case hy36 => (intro w' hw'; skip; go_simp; try with_reducible rfl)
            simp only [List.getElem_toArray, List.getElem_cons_zero, List.getElem_cons_succ, Act.put, List.setIfInBounds_toArray, List.set_cons_zero, List.set_cons_succ]
            refine wpAnyH_take (i := 12) (v := ?v37) rfl (by kernel_rfl) (by kernel_rfl) (by kernel_rfl) (fun _ _ _ h => h) (Or.inl ⟨by rfl, ?hy37⟩) hS0 ?_
            case hy37 => (intro w' hw'; skip; go_simp; try with_reducible rfl)
            simp only [List.getElem_toArray, List.getElem_cons_zero, List.getElem_cons_succ, Act.put, List.setIfInBounds_toArray, List.set_cons_zero, List.set_cons_succ]
            refine wpAnyH_take (i := 13) (v := ?v38) rfl (by kernel_rfl) (by kernel_rfl) (by kernel_rfl) (fun _ _ _ h => h) (Or.inl ⟨by rfl, ?hy38⟩) hS0 ?_
            case hy38 => (intro w' hw'; skip; go_simp; try with_reducible rfl)
            simp only [List.getElem_toArray, List.getElem_cons_zero, List.getElem_cons_succ, Act.put, List.setIfInBounds_toArray, List.set_cons_zero, List.set_cons_succ]
            refine wpAnyH_take (i := 14) (v := ?v39) rfl (by kernel_rfl) (by kernel_rfl) (by kernel_rfl) (fun _ _ _ h => h) (Or.inl ⟨by rfl, ?hy39⟩) hS0 ?_
            case hy39 => (intro w' hw'; have nN' := (hw'.cell (p := ⟨p', j * 10, none⟩) g3).trans nNx; go_simp; try with_reducible rfl)
            simp only [List.getElem_toArray, List.getElem_cons_zero, List.getElem_cons_succ, Act.put, List.setIfInBounds_toArray, List.set_cons_zero, List.set_cons_succ]
            refine wpAnyH_take (i := 15) (v := ?v40) rfl (by kernel_rfl) (by kernel_rfl) (by kernel_rfl) (fun _ _ _ h => h) (Or.inl ⟨by rfl, ?hy40⟩) hS0 ?_
            case hy40 => (intro w' hw'; skip; go_simp; try with_reducible rfl)
            simp only [List.getElem_toArray, List.getElem_cons_zero, List.getElem_cons_succ, Act.put, List.setIfInBounds_toArray, List.set_cons_zero, List.set_cons_succ]
            refine wpAnyH_take (i := 16) (v := ?v41) rfl (by kernel_rfl) (by kernel_rfl) (by kernel_rfl) (fun _ _ _ h => h) (Or.inl ⟨by rfl, ?hy41⟩) hS0 ?_
            case hy41 => (intro w' hw'; skip; go_simp; try with_reducible rfl)
            simp only [List.getElem_toArray, List.getElem_cons_zero, List.getElem_cons_succ, Act.put, List.setIfInBounds_toArray, List.set_cons_zero, List.set_cons_succ]
            refine wpAnyH_take (i := 17) (v := ?v42) rfl (by kernel_rfl) (by kernel_rfl) (by kernel_rfl) (fun _ _ _ h => h) (Or.inl ⟨by rfl, ?hy42⟩) hS0 ?_
            case hy42 => (intro w' hw'; skip; go_simp; try with_reducible rfl)
            simp only [List.getElem_toArray, List.getElem_cons_zero, List.getElem_cons_succ, Act.put, List.setIfInBounds_toArray, List.set_cons_zero, List.set_cons_succ]
            refine wpAnyH_take (i := 18) (v := ?v43) rfl (by kernel_rfl) (by kernel_rfl) (by kernel_rfl) (fun _ _ _ h => h) (Or.inl ⟨by rfl, ?hy43⟩) hS0 ?_
            case hy43 => (intro w' hw'; skip; go_simp; try with_reducible rfl)
            simp only [List.getElem_toArray, List.getElem_cons_zero, List.getElem_cons_succ, Act.put, List.setIfInBounds_toArray, List.set_cons_zero, List.set_cons_succ]
            refine wpAnyH_take (i := 19) (v := ?v44) rfl (by kernel_rfl) (by kernel_rfl) (by kernel_rfl) (fun _ _ _ h => h) (Or.inl ⟨by rfl, ?hy44⟩) hS0 ?_
            case hy44 => (intro w' hw'; skip; go_simp; try with_reducible rfl)
            simp only [List.getElem_toArray, List.getElem_cons_zero, List.getElem_cons_succ, Act.put, List.setIfInBounds_toArray, List.set_cons_zero, List.set_cons_succ]
            refine wpAnyH_take (i := 20) (v := ?v45) rfl (by kernel_rfl) (by kernel_rfl) (by kernel_rfl) (fun _ _ _ h => h) (Or.inl ⟨by rfl, ?hy45⟩) hS0 ?_
            case hy45 => (intro w' hw'; skip; go_simp; try with_reducible rfl)
            simp only [List.getElem_toArray, List.getElem_cons_zero, List.getElem_cons_succ, Act.put, List.setIfInBounds_toArray, List.set_cons_zero, List.set_cons_succ]
            refine wpAnyH_take (i := 21) (v := ?v46) rfl (by kernel_rfl) (by kernel_rfl) (by kernel_rfl) (fun _ _ _ h => h) (Or.inl ⟨by rfl, ?hy46⟩) hS0 ?_
            case hy46 => (intro w' hw'; have d3' := (hw'.cell (p := ⟨w.heap.size, 4, none⟩) g0).trans d3x; go_simp; try with_reducible rfl)
            simp only [List.getElem_toArray, List.getElem_cons_zero, List.getElem_cons_succ, Act.put, List.setIfInBounds_toArray, List.set_cons_zero, List.set_cons_succ]
            refine wpAnyH_take (i := 22) (v := ?v47) rfl (by kernel_rfl) (by kernel_rfl) (by kernel_rfl) (fun _ _ _ h => h) (Or.inl ⟨by rfl, ?hy47⟩) hS0 ?_
            case hy47 => (intro w' hw'; skip; go_simp; try with_reducible rfl)
            simp only [List.getElem_toArray, List.getElem_cons_zero, List.getElem_cons_succ, Act.put, List.setIfInBounds_toArray, List.set_cons_zero, List.set_cons_succ]
            refine wpAnyH_take (i := 23) (v := ?v48) rfl (by kernel_rfl) (by kernel_rfl) (by kernel_rfl) (fun _ _ _ h => h) (Or.inl ⟨by rfl, ?hy48⟩) hS0 ?_
            case hy48 => (intro w' hw'; skip; go_simp; try with_reducible rfl)
            simp only [List.getElem_toArray, List.getElem_cons_zero, List.getElem_cons_succ, Act.put, List.setIfInBounds_toArray, List.set_cons_zero, List.set_cons_succ]
            refine wpAnyH_take (i := 24) (v := ?v49) rfl (by kernel_rfl) (by kernel_rfl) (by kernel_rfl) (fun _ _ _ h => h) (Or.inl ⟨by rfl, ?hy49⟩) hS0 ?_
            case hy49 => (intro w' hw'; skip; go_simp; try with_reducible rfl)
            simp only [List.getElem_toArray, List.getElem_cons_zero, List.getElem_cons_succ, Act.put, List.setIfInBounds_toArray, List.set_cons_zero, List.set_cons_succ]
            refine wpAnyH_take (i := 25) (v := ?v50) rfl (by kernel_rfl) (by kernel_rfl) (by kernel_rfl) (fun _ _ _ h => h) (Or.inl ⟨by rfl, ?hy50⟩) hS0 ?_
            case hy50 => (intro w' hw'; have m8' := (hw'.cell (p := ⟨p, j * 10 + 8, none⟩) g2).trans m8x; have m9' := (hw'.cell (p := ⟨p, j * 10 + 9, none⟩) g2).trans m9x; go_simp; try with_reducible rfl)
            simp only [List.getElem_toArray, List.getElem_cons_zero, List.getElem_cons_succ, Act.put, List.setIfInBounds_toArray, List.set_cons_zero, List.set_cons_succ]
            refine wpAnyH_take (i := 26) (v := ?v51) rfl (by kernel_rfl) (by kernel_rfl) (by kernel_rfl) (fun _ _ _ h => h) (Or.inl ⟨by rfl, ?hy51⟩) hS0 ?_
            case hy51 => (intro w' hw'; skip; go_simp; try with_reducible rfl)
            simp only [List.getElem_toArray, List.getElem_cons_zero, List.getElem_cons_succ, Act.put, List.setIfInBounds_toArray, List.set_cons_zero, List.set_cons_succ]
            refine wpAnyH_take (i := 27) (v := ?v52) rfl (by kernel_rfl) (by kernel_rfl) (by kernel_rfl) (fun _ _ _ h => h) (Or.inl ⟨by rfl, ?hy52⟩) hS0 ?_
            case hy52 => (intro w' hw'; have u3' := (hw'.cell (p := ⟨w.heap.size + 1, 4, none⟩) g1).trans u3x; go_simp; try with_reducible rfl)
            simp only [List.getElem_toArray, List.getElem_cons_zero, List.getElem_cons_succ, Act.put, List.setIfInBounds_toArray, List.set_cons_zero, List.set_cons_succ]
            refine wpAnyH_take (i := 28) (v := ?v53) rfl (by kernel_rfl) (by kernel_rfl) (by kernel_rfl) (fun _ _ _ h => h) (Or.inl ⟨by rfl, ?hy53⟩) hS0 ?_
            case hy53 => (intro w' hw'; skip; go_simp; try with_reducible rfl)
            simp only [List.getElem_toArray, List.getElem_cons_zero, List.getElem_cons_succ, Act.put, List.setIfInBounds_toArray, List.set_cons_zero, List.set_cons_succ]
            refine wpAnyH_take (i := 29) (v := ?v54) rfl (by kernel_rfl) (by kernel_rfl) (by kernel_rfl) (fun _ _ _ h => h) (Or.inl ⟨by rfl, ?hy54⟩) hS0 ?_
            case hy54 => (intro w' hw'; skip; go_simp; try with_reducible rfl)
            simp only [List.getElem_toArray, List.getElem_cons_zero, List.getElem_cons_succ, Act.put, List.setIfInBounds_toArray, List.set_cons_zero, List.set_cons_succ]
            refine wpAnyH_take (i := 30) (v := ?v55) rfl (by kernel_rfl) (by kernel_rfl) (by kernel_rfl) (fun _ _ _ h => h) (Or.inl ⟨by rfl, ?hy55⟩) hS0 ?_
            case hy55 => (intro w' hw'; skip; go_simp; try with_reducible rfl)
            simp only [List.getElem_toArray, List.getElem_cons_zero, List.getElem_cons_succ, Act.put, List.setIfInBounds_toArray, List.set_cons_zero, List.set_cons_succ]
            refine wpAnyH_take (i := 31) (v := ?v56) rfl (by kernel_rfl) (by kernel_rfl) (by kernel_rfl) (fun _ _ _ h => h) (Or.inl ⟨by rfl, ?hy56⟩) hS0 ?_
            case hy56 => (intro w' hw'; have n8' := (hw'.cell (p := ⟨p', j * 10 + 8, none⟩) g3).trans n8x; have n9' := (hw'.cell (p := ⟨p', j * 10 + 9, none⟩) g3).trans n9x; go_simp; try with_reducible rfl)
            simp only [List.getElem_toArray, List.getElem_cons_zero, List.getElem_cons_succ, Act.put, List.setIfInBounds_toArray, List.set_cons_zero, List.set_cons_succ]
            refine wpAnyH_take (i := 32) (v := ?v57) rfl (by kernel_rfl) (by kernel_rfl) (by kernel_rfl) (fun _ _ _ h => h) (Or.inl ⟨by rfl, ?hy57⟩) hS0 ?_
            case hy57 => (intro w' hw'; skip; go_simp; try with_reducible rfl)
            simp only [List.getElem_toArray, List.getElem_cons_zero, List.getElem_cons_succ, Act.put, List.setIfInBounds_toArray, List.set_cons_zero, List.set_cons_succ]
            refine wpAnyH_take (i := 33) (v := ?v58) rfl (by kernel_rfl) (by kernel_rfl) (by kernel_rfl) (fun _ _ _ h => h) (Or.inl ⟨by rfl, ?hy58⟩) hS0 ?_
            case hy58 => (intro w' hw'; skip; go_simp; try with_reducible rfl)
            simp only [List.getElem_toArray, List.getElem_cons_zero, List.getElem_cons_succ, Act.put, List.setIfInBounds_toArray, List.set_cons_zero, List.set_cons_succ]
            refine wpAnyH_take (i := 34) (v := ?v59) rfl (by kernel_rfl) (by kernel_rfl) (by kernel_rfl) (fun _ _ _ h => h) (Or.inl ⟨by rfl, ?hy59⟩) hS0 ?_
            case hy59 => (intro w' hw'; skip; go_simp; try with_reducible rfl)
            simp only [List.getElem_toArray, List.getElem_cons_zero, List.getElem_cons_succ, Act.put, List.setIfInBounds_toArray, List.set_cons_zero, List.set_cons_succ]
            refine wpAnyH_done (by kernel_rfl) ?_ _; refine NoPanic.normal ?_
            go_wp2_with fail
            go_roundw
            case rel => exact ⟨j + 1, by omega, by go_num, hI2.more hS0⟩
            case measure => first | (simp [intOf]; omega) | simp [intOf]
          · have ji : ¬ (j : Int) < (n2 : Int) := by omega
            have hI9 := hide hI
            clear hlt
            go_wp2_with fail
            go_ret
            exact ⟨rfl, (unhide hI9).bel⟩
end Go.Proofs.YtcebeajjpcbgcaaGreat.cu
namespace Go.Proofs.YtcebeajjpcbgcaaGreat.cu
open Go.ChangeShapes Go.WideShapes Go.ChangeAt Go.RowKit
open ints (hide unhide)
open dt (Dt Kp RowAt Ow Grow OwIn)
open mem (Row)
set_option linter.unusedVariables false
set_option linter.unusedSimpArgs false
/-- lists alike, one by one -/
def EqLs (R : Dt → Dt → Prop) (l l' : List Dt) : Prop := l.length = l'.length ∧ ∀ (i : Nat) x y, l[i]? = some x → l'[i]? = some y → R x y
/-- the same argument, directive, selection, variable, definition, but for places where they are not asked for -/
def EqA (pl : Bool) (f : Nat) (x y : Dt) : Prop := ∃ nm v v' a b a' b', x = fldD nm v a b ∧ y = fldD nm v' a' b' ∧ (pl = true → a = a' ∧ b = b') ∧ EqL pl f v v'
def EqR (pl : Bool) (f : Nat) (x y : Dt) : Prop := ∃ nm l l' a b a' b', x = dirD nm l a b ∧ y = dirD nm l' a' b' ∧ (pl = true → a = a' ∧ b = b') ∧ EqLs (EqA pl f) l l'
def EqS (pl : Bool) (f : Nat) : Nat → Dt → Dt → Prop
  | 0, _, _ => False
  | g + 1, x, y => ∃ k al nm on ars ars' ds ds' ss ss' a b a' b', x = selD k al nm on ars ds ss a b ∧ y = selD k al nm on ars' ds' ss' a' b' ∧ (pl = true → a = a' ∧ b = b') ∧ EqLs (EqA pl f) ars ars' ∧ EqLs (EqR pl f) ds ds' ∧ EqLs (EqS pl f g) ss ss'
def EqV (pl : Bool) (f : Nat) (x y : Dt) : Prop := ∃ nm tn tw hd v v' ds ds' a b a' b', x = varD nm tn tw hd v ds a b ∧ y = varD nm tn tw hd v' ds' a' b' ∧ (pl = true → a = a' ∧ b = b') ∧ EqL pl f v v' ∧ EqLs (EqR pl f) ds ds'
def EqF (pl : Bool) (f g : Nat) (x y : Dt) : Prop := ∃ k nm on sh vs vs' ds ds' ss ss' a b a' b', x = defD k nm on sh vs ds ss a b ∧ y = defD k nm on sh vs' ds' ss' a' b' ∧ (pl = true → a = a' ∧ b = b') ∧ EqLs (EqV pl f) vs vs' ∧ EqLs (EqR pl f) ds ds' ∧ EqLs (EqS pl f g) ss ss'
/-- a list that lies in memory, to be read -/
def Ls (w : World) (k : Nat) (l : List Dt) (a : Option Addr) (F : List Nat) : Prop := l = [] ∨ ∃ p off, a = some ⟨p, off, none⟩ ∧ p ∈ F ∧ ∀ (i : Nat) e, l[i]? = some e → ∃ ds G, RowAt w p (off + i * k) ds ∧ ds.length = k ∧ Ow w e ds G ∧ ∀ b ∈ G, b ∈ F
theorem Ls.below {w w' : World} {k : Nat} {l : List Dt} {a : Option Addr} {F : List Nat} (h : Ls w k l a F) (hF : ∀ b ∈ F, b < w.heap.size) (hb : Below w.heap.size w w') : Ls w' k l a F := by
  rcases h with h | ⟨p, off, ha, hp, h⟩
  · exact .inl h
  · refine .inr ⟨p, off, ha, hp, fun i e he => ?_⟩
    obtain ⟨ds, G, h1, h2, h3, h4⟩ := h i e he
    exact ⟨ds, G, h1.below hb, h2, dt.Ow.agree e ds G (fun b hb' o => hb.cell (p := ⟨b, o, none⟩) (hF b (h4 b hb'))) h3, h4⟩
theorem Ls.mono {w : World} {k : Nat} {l : List Dt} {a : Option Addr} {F F' : List Nat} (h : Ls w k l a F) (hF : ∀ b ∈ F, b ∈ F') : Ls w k l a F' := by
  rcases h with h | ⟨p, off, ha, hp, h⟩
  · exact .inl h
  · refine .inr ⟨p, off, ha, hF p hp, fun i e he => ?_⟩
    obtain ⟨ds, G, h1, h2, h3, h4⟩ := h i e he
    exact ⟨ds, G, h1, h2, h3, fun b hb => hF b (h4 b hb)⟩
theorem Ls.take {w : World} {k : Nat} {l : List Dt} {a : Option Addr} {F : List Nat} (h : Ls w k l a F) (n : Nat) : Ls w k (l.take n) a F := by
  rcases h with h | ⟨p', off', ha, hp, h⟩
  · exact .inl (by rw [h]; simp)
  · refine .inr ⟨p', off', ha, hp, fun i e he => ?_⟩
    rw [List.getElem?_take] at he
    split at he
    · exact h i e he
    · cases he
theorem lst_ls {w : World} {k n : Nat} {l : List Dt} {a : Option Addr} {F : List Nat} (h : (a = none ∧ Dt.of l = .nil ∧ n = 0 ∧ F = []) ∨ ∃ p G, a = some ⟨p, 0, none⟩ ∧ F = p :: G ∧ OwIn w (Dt.of l) k p 0 n G) : n = l.length ∧ Ls w k l a F := by
  rcases h with ⟨h1, h2, h3, h4⟩ | ⟨p, G, h1, rfl, h3⟩
  · have : l = [] := by
      cases l with
      | nil => rfl
      | cons e r => simp [Dt.of] at h2
    exact ⟨by rw [this, h3]; rfl, .inl this⟩
  · obtain ⟨h4, h5⟩ := dt.OwIn.get l k p 0 n G h3
    refine ⟨h4.symm, .inr ⟨p, 0, h1, List.mem_cons_self .., fun i e he => ?_⟩⟩
    obtain ⟨cs, Gi, h6, h7, h8, h9⟩ := h5 i e he
    exact ⟨cs, Gi, h6, h7, h8, fun b hb => List.mem_cons_of_mem _ (h9 b hb)⟩
theorem dir_cells {w : World} {nm : ByteArray} {l : List Dt} {x y : Int} {cs : List Value} {F : List Nat} (h : Ow w (dirD nm l x y) cs F) :
    ∃ a c, cs = [.string nm, .slice a l.length c, .int .i64 x, .int .i64 y] ∧ l.length ≤ c ∧ c ≤ maxLen ∧ Ls w 10 l a F := by
  unfold dirD Ow at h
  obtain ⟨d0, rfl, _, h⟩ := h
  unfold Ow at h
  obtain ⟨a, n, c, d1, F1, F2, rfl, i1, i2, i3, i4, h, rfl⟩ := h
  obtain ⟨rfl, hl⟩ := lst_ls i4
  unfold Ow at h
  obtain ⟨d2, rfl, a6, h⟩ := h
  unfold Ow at h
  obtain ⟨d3, rfl, a7, h⟩ := h
  unfold Ow at h
  obtain ⟨rfl, rfl⟩ := h
  exact ⟨a, c, rfl, i1, i2, hl.mono (fun b hb => List.mem_append_left _ hb)⟩
theorem sel_cells {w : World} {k : Int} {al nm on : ByteArray} {ars ds ss : List Dt} {x y : Int} {cs : List Value} {F : List Nat} (h : Ow w (selD k al nm on ars ds ss x y) cs F) :
    ∃ a1 c1 a2 c2 a3 c3, cs = [.int .i64 k, .string al, .string nm, .string on, .slice a1 ars.length c1, .slice a2 ds.length c2, .slice a3 ss.length c3, .int .i64 x, .int .i64 y] ∧ (ars.length ≤ c1 ∧ c1 ≤ maxLen ∧ ds.length ≤ c2 ∧ c2 ≤ maxLen ∧ ss.length ≤ c3 ∧ c3 ≤ maxLen) ∧ Ls w 10 ars a1 F ∧ Ls w 4 ds a2 F ∧ Ls w 9 ss a3 F := by
  unfold selD Ow at h
  obtain ⟨d0, rfl, _, h⟩ := h
  unfold Ow at h
  obtain ⟨d1, rfl, _, h⟩ := h
  unfold Ow at h
  obtain ⟨d2, rfl, _, h⟩ := h
  unfold Ow at h
  obtain ⟨d3, rfl, _, h⟩ := h
  unfold Ow at h
  obtain ⟨a1, n1, c1, d4, F1, F1', rfl, i1, i2, i3, i4, h, rfl⟩ := h
  obtain ⟨rfl, hl1⟩ := lst_ls i4
  unfold Ow at h
  obtain ⟨a2, n2, c2, d5, F2, F2', rfl, j1, j2, j3, j4, h, rfl⟩ := h
  obtain ⟨rfl, hl2⟩ := lst_ls j4
  unfold Ow at h
  obtain ⟨a3, n3, c3, d6, F3, F3', rfl, k1, k2, k3, k4, h, rfl⟩ := h
  obtain ⟨rfl, hl3⟩ := lst_ls k4
  unfold Ow at h
  obtain ⟨d7, rfl, a6, h⟩ := h
  unfold Ow at h
  obtain ⟨d8, rfl, a7, h⟩ := h
  unfold Ow at h
  obtain ⟨rfl, rfl⟩ := h
  exact ⟨a1, c1, a2, c2, a3, c3, rfl, ⟨i1, i2, j1, j2, k1, k2⟩, hl1.mono (fun b hb => List.mem_append_left _ hb), hl2.mono (fun b hb => List.mem_append_right _ (List.mem_append_left _ hb)), hl3.mono (fun b hb => List.mem_append_right _ (List.mem_append_right _ (List.mem_append_left _ hb)))⟩
theorem def_cells {w : World} {k : Int} {nm on : ByteArray} {sh : Bool} {vs ds ss : List Dt} {x y : Int} {cs : List Value} {F : List Nat} (h : Ow w (defD k nm on sh vs ds ss x y) cs F) :
    ∃ a1 c1 a2 c2 a3 c3, cs = [.int .i64 k, .string nm, .string on, .bool sh, .slice a1 vs.length c1, .slice a2 ds.length c2, .slice a3 ss.length c3, .int .i64 x, .int .i64 y] ∧ (vs.length ≤ c1 ∧ c1 ≤ maxLen ∧ ds.length ≤ c2 ∧ c2 ≤ maxLen ∧ ss.length ≤ c3 ∧ c3 ≤ maxLen) ∧ Ls w 14 vs a1 F ∧ Ls w 4 ds a2 F ∧ Ls w 9 ss a3 F := by
  unfold defD Ow at h
  obtain ⟨d0, rfl, _, h⟩ := h
  unfold Ow at h
  obtain ⟨d1, rfl, _, h⟩ := h
  unfold Ow at h
  obtain ⟨d2, rfl, _, h⟩ := h
  unfold Ow at h
  obtain ⟨d3, rfl, _, h⟩ := h
  unfold Ow at h
  obtain ⟨a1, n1, c1, d4, F1, F1', rfl, i1, i2, i3, i4, h, rfl⟩ := h
  obtain ⟨rfl, hl1⟩ := lst_ls i4
  unfold Ow at h
  obtain ⟨a2, n2, c2, d5, F2, F2', rfl, j1, j2, j3, j4, h, rfl⟩ := h
  obtain ⟨rfl, hl2⟩ := lst_ls j4
  unfold Ow at h
  obtain ⟨a3, n3, c3, d6, F3, F3', rfl, k1, k2, k3, k4, h, rfl⟩ := h
  obtain ⟨rfl, hl3⟩ := lst_ls k4
  unfold Ow at h
  obtain ⟨d7, rfl, a6, h⟩ := h
  unfold Ow at h
  obtain ⟨d8, rfl, a7, h⟩ := h
  unfold Ow at h
  obtain ⟨rfl, rfl⟩ := h
  exact ⟨a1, c1, a2, c2, a3, c3, rfl, ⟨i1, i2, j1, j2, k1, k2⟩, hl1.mono (fun b hb => List.mem_append_left _ hb), hl2.mono (fun b hb => List.mem_append_right _ (List.mem_append_left _ hb)), hl3.mono (fun b hb => List.mem_append_right _ (List.mem_append_right _ (List.mem_append_left _ hb)))⟩
theorem var_cells {w : World} {nm tn tw : ByteArray} {hd : Bool} {k : Int} {tx : ByteArray} {bl : Bool} {its fls : Dt} {ln co : Int} {ds : List Dt} {x y : Int} {cs : List Value} {F : List Nat} (h : Ow w (varD nm tn tw hd (litD k tx bl its fls ln co) ds x y) cs F) :
    ∃ ai ni ci af nf cf a2 c2 G, cs = [.string nm, .string tn, .string tw, .bool hd, .int .i64 k, .string tx, .bool bl, .slice ai ni ci, .slice af nf cf, .int .i64 ln, .int .i64 co, .slice a2 ds.length c2, .int .i64 x, .int .i64 y] ∧ (ds.length ≤ c2 ∧ c2 ≤ maxLen) ∧ Ow w (litD k tx bl its fls ln co) [.int .i64 k, .string tx, .bool bl, .slice ai ni ci, .slice af nf cf, .int .i64 ln, .int .i64 co] G ∧ (∀ b ∈ G, b ∈ F) ∧ Ls w 4 ds a2 F := by
  unfold varD litD at h
  simp only [app] at h
  unfold Ow at h
  obtain ⟨e0, rfl, _, h⟩ := h
  unfold Ow at h
  obtain ⟨e1, rfl, _, h⟩ := h
  unfold Ow at h
  obtain ⟨e2, rfl, _, h⟩ := h
  unfold Ow at h
  obtain ⟨e3, rfl, _, h⟩ := h
  unfold Ow at h
  obtain ⟨d1, rfl, a1, h⟩ := h
  unfold Ow at h
  obtain ⟨d2, rfl, a2, h⟩ := h
  unfold Ow at h
  obtain ⟨d3, rfl, a3, h⟩ := h
  unfold Ow at h
  obtain ⟨ai, ni, ci, d4, F1, F2, rfl, i1, i2, i3, i4, h, rfl⟩ := h
  unfold Ow at h
  obtain ⟨af, nf, cf, d5, F3, F4, rfl, j1, j2, j3, j4, h, rfl⟩ := h
  unfold Ow at h
  obtain ⟨d6, rfl, a6, h⟩ := h
  unfold Ow at h
  obtain ⟨d7, rfl, a7, h⟩ := h
  unfold Ow at h
  obtain ⟨aq, nq, cq, d8, F5, F6, rfl, k1, k2, k3, k4, h, rfl⟩ := h
  obtain ⟨rfl, hl⟩ := lst_ls k4
  unfold Ow at h
  obtain ⟨d9, rfl, a9, h⟩ := h
  unfold Ow at h
  obtain ⟨d10, rfl, a10, h⟩ := h
  unfold Ow at h
  obtain ⟨rfl, rfl⟩ := h
  refine ⟨ai, ni, ci, af, nf, cf, aq, cq, F1 ++ (F3 ++ []), rfl, ⟨k1, k2⟩, ?_, ?_, ?_⟩
  · unfold litD Ow
    refine ⟨_, rfl, a1, ?_⟩
    unfold Ow
    refine ⟨_, rfl, a2, ?_⟩
    unfold Ow
    refine ⟨_, rfl, a3, ?_⟩
    unfold Ow
    refine ⟨ai, ni, ci, _, F1, F3 ++ [], rfl, i1, i2, i3, i4, ?_, rfl⟩
    unfold Ow
    refine ⟨af, nf, cf, _, F3, [], rfl, j1, j2, j3, j4, ?_, rfl⟩
    unfold Ow
    refine ⟨_, rfl, a6, ?_⟩
    unfold Ow
    refine ⟨_, rfl, a7, ?_⟩
    unfold Ow
    exact ⟨rfl, rfl⟩
  · intro b hb
    simp at hb ⊢
    rcases hb with hb | hb
    · exact .inl hb
    · exact .inr (.inl hb)
  · exact hl.mono (fun b hb => by simp [hb])
end Go.Proofs.YtcebeajjpcbgcaaGreat.cu
namespace Go.Proofs.YtcebeajjpcbgcaaGreat.cu
open dt (Dt Kp RowAt Ow Grow)
set_option linter.unusedVariables false
set_option linter.unusedSimpArgs false
/-- the same token, but for its place where that is not asked for -/
def EqT (pl : Bool) (t t' : Tk) : Prop := t'.k = t.k ∧ t'.tx = t.tx ∧ t'.va = t.va ∧ (pl = true → t.ln = t'.ln ∧ t.co = t'.co)
theorem EqT.refl (pl : Bool) (t : Tk) : EqT pl t t := ⟨rfl, rfl, rfl, fun _ => ⟨rfl, rfl⟩⟩
/-- two cursors at the same tokens, the second so many tokens and brackets further -/
structure Sf (pl : Bool) (m s e : Nat) (c c' : Cu) : Prop where
  ix : c'.ix = c.ix + s
  op : c'.op = c.op + e
  mo : c'.mo = c.mo + e
  kd : c'.kd = c.kd
  tk : ∀ i, i ≤ m → EqT pl (c.ts.getD i Tk.zero) (c'.ts.getD (i + s) Tk.zero)
/-- brackets may be counted from another number where all goes well -/
def Ps {A : Type} (e : Nat) (c : Cu) (E : Cu → A × Cu) : Prop := e = 0 ∨ (Inv c ∧ c.kd = 0 ∧ (E c).2.kd = 0)
section
variable {pl : Bool} {m s e : Nat}
theorem Sf.tok {c c' : Cu} (h : Sf pl m s e c c') (hi : c.ix ≤ m) : EqT pl c.tok c'.tok := by
  have := h.tk c.ix hi
  rw [← h.ix] at this
  exact this
theorem Sf.isP {c c' : Cu} (h : Sf pl m s e c c') (hi : c.ix ≤ m) (p : ByteArray) : c'.isP p = c.isP p := by
  have t := h.tok hi
  unfold Cu.isP
  rw [h.kd, t.1, t.2.1]
theorem Sf.isN {c c' : Cu} (h : Sf pl m s e c c') (hi : c.ix ≤ m) : c'.isN = c.isN := by
  have t := h.tok hi
  unfold Cu.isN
  rw [h.kd, t.1]
theorem Sf.isW {c c' : Cu} (h : Sf pl m s e c c') (hi : c.ix ≤ m) (ws : List ByteArray) : c'.isW ws = c.isW ws := by
  have t := h.tok hi
  unfold Cu.isW
  rw [h.isN hi, t.2.1]
theorem Sf.finB {c c' : Cu} (h : Sf pl m s e c c') (hi : c.ix ≤ m) : c'.finB = c.finB := by
  have t := h.tok hi
  unfold Cu.finB
  rw [h.kd, t.1]
theorem Sf.take {c c' : Cu} (h : Sf pl m s e c c') : Sf pl m s e c.take c'.take := ⟨by show c'.ix + 1 = c.ix + 1 + s; rw [h.ix]; omega, h.op, h.mo, h.kd, h.tk⟩
theorem Sf.stop {c c' : Cu} (h : Sf pl m s e c c') (k : Int) : Sf pl m s e (c.stop k) (c'.stop k) := by
  unfold Cu.stop
  rw [h.kd]
  split
  · exact ⟨h.ix, h.op, h.mo, rfl, h.tk⟩
  · exact h
theorem Sf.nmC {c c' : Cu} (h : Sf pl m s e c c') (so : Bool) : Sf pl m s e (c.nmC so) (c'.nmC so) := by
  cases so
  · exact h.stop 70
  · exact h.take
theorem Sf.name {c c' : Cu} (h : Sf pl m s e c c') (hi : c.ix ≤ m) : Sf pl m s e c.name c'.name := by
  unfold Cu.name
  rw [h.isN hi]
  split
  · exact h.take
  · exact h.stop 70
theorem Sf.want {c c' : Cu} (h : Sf pl m s e c c') (hi : c.ix ≤ m) (p : ByteArray) : Sf pl m s e (c.want p) (c'.want p) := by
  unfold Cu.want
  rw [h.isP hi]
  split
  · exact h.take
  · exact h.stop 70
theorem Sf.punct {c c' : Cu} (h : Sf pl m s e c c') (hi : c.ix ≤ m) (p : ByteArray) : Sf pl m s e (c.punct p) (c'.punct p) := by
  unfold Cu.punct
  rw [h.isP hi]
  split
  · exact h.take
  · exact h
theorem Sf.word {c c' : Cu} (h : Sf pl m s e c c') (hi : c.ix ≤ m) (q : ByteArray) : Sf pl m s e (c.word q) (c'.word q) := by
  unfold Cu.word
  rw [h.isW hi]
  split
  · exact h.take
  · exact h
theorem Sf.fin {c c' : Cu} (h : Sf pl m s e c c') (hi : c.ix ≤ m) : Sf pl m s e c.fin c'.fin := by
  unfold Cu.fin
  rw [h.finB hi]
  split
  · exact h
  · exact h.stop 70
theorem Sf.opB {c c' : Cu} (h : Sf pl m s e c c') (hi : c.ix ≤ m) (p : ByteArray) : c'.opB p = c.opB p := by
  unfold Cu.opB
  rw [h.isP hi, h.op, h.mo]
  congr 1
  exact decide_eq_decide.2 (by omega)
theorem Sf.opn {c c' : Cu} (h : Sf pl m s e c c') (hi : c.ix ≤ m) (p : ByteArray) : Sf pl m s e (c.opn p) (c'.opn p) := by
  unfold Cu.opn
  rw [h.isP hi]
  split
  · have hx := h.op
    have hy := h.mo
    by_cases g : c.op < c.mo
    · rw [if_pos g, if_pos (by omega)]
      exact ⟨by show c'.ix + 1 = c.ix + 1 + s; rw [h.ix]; omega, by show c'.op + 1 = c.op + 1 + e; omega, hy, h.kd, h.tk⟩
    · rw [if_neg g, if_neg (by omega)]
      exact h.stop 71
  · exact h.stop 70
theorem Sf.cls {c c' : Cu} (h : Sf pl m s e c c') (hi : c.ix ≤ m) (p : ByteArray) (he : e = 0 ∨ 1 ≤ c.op) : Sf pl m s e (c.cls p) (c'.cls p) := by
  unfold Cu.cls
  rw [h.isP hi]
  split
  · have hx := h.op
    exact ⟨by show c'.ix + 1 = c.ix + 1 + s; rw [h.ix]; omega, by show c'.op - 1 = c.op - 1 + e; omega, h.mo, h.kd, h.tk⟩
  · exact h.stop 70
end
/-- two readings that go alike -/
structure Ok4 {A X : Type} (pl : Bool) (m s e : Nat) (P : Prop) (V : A → X → Prop) (E : Cu → A × Cu) (E' : Cu → X × Cu) (b b' : Nat) : Prop where
  o : Ok3 0 E b
  st' : St E'
  near : P → ∀ c c', c.Ok → c'.Ok → Sf pl m s e c c' → c.ts.length ≤ b + c.ix → c'.ts.length ≤ b' + c'.ix → Ps e c E → (E c).2.ix ≤ m → V (E c).1 (E' c').1 ∧ Sf pl m s e (E c).2 (E' c').2
/-- the same of a reading that ends in a bracket -/
structure Ok5 {A X : Type} (pl : Bool) (m s e : Nat) (P : Prop) (V : Option A → Option X → Prop) (E : Cu → Option A × Cu) (E' : Cu → Option X × Cu) (b b' : Nat) : Prop where
  o : Ok3 0 E b
  st' : St E'
  go : ∀ c, c.Ok → (E c).1.isSome = true → c.ix < (E c).2.ix
  near : P → ∀ c c', c.Ok → c'.Ok → Sf pl m s e c c' → c.ts.length ≤ b + c.ix → c'.ts.length ≤ b' + c'.ix → Ps e c E → (E c).1.isSome = true → (E c).2.ix ≤ m + 1 → V (E c).1 (E' c').1 ∧ Sf pl m s e (E c).2 (E' c').2
section
variable {pl : Bool} {m s e : Nat} {P : Prop} {b b' : Nat}
theorem Ps.one {A X : Type} {E : Cu → A × Cu} {F : A → Cu → X × Cu} {c : Cu} (sF : ∀ a, Sti (F a)) (h : Ps e c (bnd E F)) : Ps e c E := by
  rcases h with h | ⟨h1, h2, h3⟩
  · exact .inl h
  · refine .inr ⟨h1, h2, Classical.byContradiction fun x => ?_⟩
    have h4 : (F (E c).1 (E c).2).2.kd = 0 := h3
    rw [sF _ _ x] at h4
    exact x h4
theorem Ps.two {A X : Type} {E : Cu → A × Cu} {F : A → Cu → X × Cu} {c : Cu} (o : Ok3 0 E b) (sF : ∀ a, Sti (F a)) (hc : c.Ok) (hb : c.ts.length ≤ b + c.ix) (h : Ps e c (bnd E F)) : Ps e (E c).2 (F (E c).1) := by
  have h5 := h.one sF
  rcases h with h | ⟨h1, h2, h3⟩
  · exact .inl h
  · rcases h5 with h5 | ⟨_, _, h6⟩
    · exact .inl h5
    · exact .inr ⟨(o.bal c hc hb h1 h2 h6).2, h6, h3⟩
theorem Ok4.bnd {A X Y Z : Type} {V : A → X → Prop} {V' : Y → Z → Prop} {E : Cu → A × Cu} {E' : Cu → X × Cu} {F : A → Cu → Y × Cu} {F' : X → Cu → Z × Cu} [Nonempty A] [Nonempty X] (h : Ok4 pl m s e P V E E' b b') (k : ∀ a a', Ok4 pl m s e (P ∧ V a a') V' (F a) (F' a') b b') : Ok4 pl m s e P V' (bnd E F) (bnd E' F') b b' := by
  have oF : ∀ a, Ok3 0 (F a) b := fun a => (k a (Classical.choice inferInstance)).o
  have sF' : ∀ a', St (F' a') := fun a' => (k (Classical.choice inferInstance) a').st'
  refine ⟨h.o.bnd oF, h.st'.bnd sF', fun hp c c' hc hc' hs hb hb' hP hm => ?_⟩
  have s1 := h.o.st c hc
  have s2 := h.st' c' hc'
  have t1 := (oF (E c).1).st _ s1.ok
  obtain ⟨e1, e2⟩ := h.near hp c c' hc hc' hs hb hb' (hP.one fun a => (oF a).sti) (Nat.le_trans t1.ix hm)
  exact (k (E c).1 (E' c').1).near ⟨hp, e1⟩ (E c).2 (E' c').2 s1.ok s2.ok e2 (by rw [s1.ts]; have := s1.ix; omega) (by rw [s2.ts]; have := s2.ix; omega) (hP.two h.o (fun a => (oF a).sti) hc hb) hm
/-- what is made of a reading's answer -/
theorem Ok5.map {A X Y Z : Type} {V : Option A → Option X → Prop} {V' : Option Y → Option Z → Prop} {E : Cu → Option A × Cu} {E' : Cu → Option X × Cu} {f : Option A → Option Y} {f' : Option X → Option Z} (h : Ok5 pl m s e P V E E' b b') (hf : ∀ r, (f r).isSome = true → r.isSome = true) (k : ∀ r r', P → V r r' → V' (f r) (f' r')) : Ok5 pl m s e P V' (bnd E fun r => ret (f r)) (bnd E' fun r => ret (f' r)) b b' := by
  refine ⟨h.o.bnd fun _ => ret_3 _, h.st'.bnd fun _ => ret_st _, fun c hc hsm => h.go c hc (hf _ hsm), fun hp c c' hc hc' hs hb hb' hP hsm hm => ?_⟩
  obtain ⟨e1, e2⟩ := h.near hp c c' hc hc' hs hb hb' (hP.one fun a => (ret_3 (M := 0) (b := b) _).sti) (hf _ hsm) hm
  exact ⟨k _ _ hp e1, e2⟩
theorem Ok4.mono {A X : Type} {V : A → X → Prop} {E : Cu → A × Cu} {E' : Cu → X × Cu} {d d' : Nat} (h : Ok4 pl m s e P V E E' b b') (hd : d ≤ b) (hd' : d' ≤ b') : Ok4 pl m s e P V E E' d d' := ⟨h.o.mono hd, h.st', fun hp c c' hc hc' hs hb hb' => h.near hp c c' hc hc' hs (by omega) (by omega)⟩
theorem Ok5.mono {A X : Type} {V : Option A → Option X → Prop} {E : Cu → Option A × Cu} {E' : Cu → Option X × Cu} {d d' : Nat} (h : Ok5 pl m s e P V E E' b b') (hd : d ≤ b) (hd' : d' ≤ b') : Ok5 pl m s e P V E E' d d' := ⟨h.o.mono hd, h.st', h.go, fun hp c c' hc hc' hs hb hb' => h.near hp c c' hc hc' hs (by omega) (by omega)⟩
theorem Ok4.wk {A X : Type} {V : A → X → Prop} {E : Cu → A × Cu} {E' : Cu → X × Cu} (h : Ok4 pl m s e True V E E' b b') : Ok4 pl m s e P V E E' b b' := ⟨h.o, h.st', fun _ => h.near trivial⟩
theorem Ok5.wk {A X : Type} {V : Option A → Option X → Prop} {E : Cu → Option A × Cu} {E' : Cu → Option X × Cu} (h : Ok5 pl m s e True V E E' b b') : Ok5 pl m s e P V E E' b b' := ⟨h.o, h.st', h.go, fun _ => h.near trivial⟩
theorem cond_4 {A X : Type} {V : A → X → Prop} {q q' : Bool} {E F : Cu → A × Cu} {E' F' : Cu → X × Cu} (hq : P → q = q') (h : Ok4 pl m s e P V E E' b b') (k : Ok4 pl m s e P V F F' b b') : Ok4 pl m s e P V (cond q E F) (cond q' E' F') b b' := by
  refine ⟨cond_3 h.o k.o, by cases q'; exact k.st'; exact h.st', fun hp => ?_⟩
  obtain rfl := hq hp
  cases q
  · exact k.near hp
  · exact h.near hp
theorem ret_4 {A X : Type} {V : A → X → Prop} {a : A} {x : X} (h : P → V a x) : Ok4 pl m s e P V (ret a) (ret x) b b' := ⟨ret_3 _, ret_st _, fun hp c c' hc hc' hs hb hb' hP hm => ⟨h hp, hs⟩⟩
theorem tokR_4 : Ok4 pl m s e P (EqT pl) tokR tokR b b' := ⟨tokR_3, tokR_st, fun hp c c' hc hc' hs hb hb' hP hm => ⟨hs.tok hm, hs⟩⟩
theorem isPR_4 (p : ByteArray) : Ok4 pl m s e P Eq (isPR p) (isPR p) b b' := ⟨isPR_3 p, isPR_st p, fun hp c c' hc hc' hs hb hb' hP hm => ⟨(hs.isP hm p).symm, hs⟩⟩
theorem aliveR_4 : Ok4 pl m s e P Eq aliveR aliveR b b' := ⟨aliveR_3, aliveR_st, fun hp c c' hc hc' hs hb hb' hP hm => ⟨by show decide (c.kd = 0) = decide (c'.kd = 0); rw [hs.kd], hs⟩⟩
theorem sprR_4 : Ok4 pl m s e P Eq sprR sprR b b' := ⟨sprR_3, sprR_st, fun hp c c' hc hc' hs hb hb' hP hm => ⟨by show (c.isN && _) = (c'.isN && _); rw [hs.isN hm, (hs.tok hm).2.1], hs⟩⟩
theorem nmR_4 : Ok4 pl m s e P Eq nmR nmR b b' := ⟨nmR_3, nmR_st, fun hp c c' hc hc' hs hb hb' hP hm => by
  have hi : c.ix ≤ m := Nat.le_trans (name_stp hc).ix hm
  exact ⟨by show c.nmS = c'.nmS; unfold Cu.nmS; rw [hs.isN hi, (hs.tok hi).2.1], hs.name hi⟩⟩
theorem nR_4 : Ok4 pl m s e P Eq nR nR b b' := ⟨nR_3, nR_st, fun hp c c' hc hc' hs hb hb' hP hm => by
  have hi : c.ix ≤ m := Nat.le_trans (name_stp hc).ix hm
  exact ⟨by show (c.isN, c.tok.tx) = (c'.isN, c'.tok.tx); rw [hs.isN hi, (hs.tok hi).2.1], hs.name hi⟩⟩
theorem wantR_4 (p : ByteArray) (hp : dlt (pk p) = 0) : Ok4 pl m s e P Eq (wantR p) (wantR p) b b' := ⟨wantR_3 p hp, wantR_st p, fun hp c c' hc hc' hs hb hb' hP hm => by
  have hi : c.ix ≤ m := Nat.le_trans (want_stp hc p).ix hm
  exact ⟨rfl, hs.want hi p⟩⟩
theorem punctR_4 (p : ByteArray) (hp : dlt (pk p) = 0) : Ok4 pl m s e P Eq (punctR p) (punctR p) b b' := ⟨punctR_3 p hp, punctR_st p, fun hp c c' hc hc' hs hb hb' hP hm => by
  have hi : c.ix ≤ m := Nat.le_trans (punct_stp hc p).ix hm
  exact ⟨(hs.isP hi p).symm, hs.punct hi p⟩⟩
theorem wordR_4 (q : ByteArray) : Ok4 pl m s e P Eq (wordR q) (wordR q) b b' := ⟨wordR_3 q, wordR_st q, fun hp c c' hc hc' hs hb hb' hP hm => by
  have hi : c.ix ≤ m := Nat.le_trans (wordR_st q c hc).ix hm
  exact ⟨(hs.isW hi [q]).symm, hs.word hi q⟩⟩
theorem butR_4 (ws : List ByteArray) : Ok4 pl m s e P Eq (butR ws) (butR ws) b b' := ⟨butR_3 ws, butR_st ws, fun hp c c' hc hc' hs hb hb' hP hm => by
  have hi : c.ix ≤ m := Nat.le_trans (butR_st ws c hc).ix hm
  refine ⟨?_, ?_⟩
  · show c.nmB _ = c'.nmB _
    unfold Cu.nmB
    rw [hs.isN hi, (hs.tok hi).2.1]
  · show Sf pl m s e (c.nmC _) (c'.nmC _)
    rw [hs.isN hi, (hs.tok hi).2.1]
    exact hs.nmC _⟩
theorem wwR_4 (ws : List ByteArray) : Ok4 pl m s e P Eq (wwR ws) (wwR ws) b b' := ⟨wwR_3 ws, wwR_st ws, fun hp c c' hc hc' hs hb hb' hP hm => by
  have hi : c.ix ≤ m := Nat.le_trans (wwR_st ws c hc).ix hm
  refine ⟨(hs.isW hi ws).symm, ?_⟩
  show Sf pl m s e (c.nmC _) (c'.nmC _)
  rw [hs.isW hi ws]
  exact hs.nmC _⟩
theorem wordsR_4 : Ok4 pl m s e P Eq wordsR wordsR b b' := ⟨wordsR_3, wordsR_st, fun hp c c' hc hc' hs hb hb' hP hm => by
  have hi : c.ix ≤ m := Nat.le_trans (wordsR_st c hc).ix hm
  refine ⟨?_, ?_⟩
  · show (c.isW _, c.tok.tx) = (c'.isW _, c'.tok.tx)
    rw [hs.isW hi, (hs.tok hi).2.1]
  · show Sf pl m s e (c.nmC _) (c'.nmC _)
    rw [hs.isW hi]
    exact hs.nmC _⟩
theorem stopR_4 {A X : Type} {V : A → X → Prop} {a : A} {x : X} (h : P → V a x) : Ok4 pl m s e P V (stopR a) (stopR x) b b' := ⟨stopR_3 a, stopR_st x, fun hp c c' hc hc' hs hb hb' hP hm => ⟨h hp, hs.stop 70⟩⟩
theorem takeK_4 (k : Int) (h0 : k ≠ 0) (h1 : k ≠ 1) (h2 : k ≠ 2) : Ok4 pl m s e P Eq (takeK k) (takeK k) b b' := ⟨takeK_3 k h0 h1 h2, takeK_st k h0 h1, fun hp c c' hc hc' hs hb hb' hP hm => by
  have hi : c.ix ≤ m := Nat.le_trans (takeK_st k h0 h1 c hc).ix hm
  refine ⟨rfl, ?_⟩
  show Sf pl m s e (if c.kd = 0 ∧ c.tok.k = k then c.take else c) (if c'.kd = 0 ∧ c'.tok.k = k then c'.take else c')
  rw [hs.kd, (hs.tok hi).1]
  split
  · exact hs.take
  · exact hs⟩
end
end Go.Proofs.YtcebeajjpcbgcaaGreat.cu
namespace Go.Proofs.YtcebeajjpcbgcaaGreat.cu
open dt (Dt Kp RowAt Ow Grow)
set_option linter.unusedVariables false
set_option linter.unusedSimpArgs false
def OD (R : Dt → Dt → Prop) : Option Dt → Option Dt → Prop
  | none, none => True
  | some x, some y => R x y
  | _, _ => False
def OL (R : Dt → Dt → Prop) : Option (List Dt) → Option (List Dt) → Prop
  | none, none => True
  | some x, some y => EqLs R x y
  | _, _ => False
theorem OD.map {R R' : Dt → Dt → Prop} {a b : Option Dt} {f f' : Dt → Dt} (h : OD R a b) (k : ∀ x y, R x y → R' (f x) (f' y)) : OD R' (a.map f) (b.map f') := by
  cases a <;> cases b
  · trivial
  · exact h.elim
  · exact h.elim
  · exact k _ _ h
theorem OL.map {R R' : Dt → Dt → Prop} {a b : Option (List Dt)} {f f' : List Dt → Dt} (h : OL R a b) (k : ∀ x y, EqLs R x y → R' (f x) (f' y)) : OD R' (a.map f) (b.map f') := by
  cases a <;> cases b
  · trivial
  · exact h.elim
  · exact h.elim
  · exact k _ _ h
theorem EqLs.nil {R : Dt → Dt → Prop} : EqLs R [] [] := ⟨rfl, fun i x y hx => by simp at hx⟩
theorem EqLs.snoc {R : Dt → Dt → Prop} {l l' : List Dt} {d d' : Dt} (h : EqLs R l l') (hd : R d d') : EqLs R (l ++ [d]) (l' ++ [d']) := by
  refine ⟨by simp [h.1], fun i x y hx hy => ?_⟩
  rcases Nat.lt_or_ge i l.length with g | g
  · rw [List.getElem?_append_left g] at hx
    rw [List.getElem?_append_left (by rw [← h.1]; exact g)] at hy
    exact h.2 i x y hx hy
  · rw [List.getElem?_append_right g] at hx
    rw [List.getElem?_append_right (by rw [← h.1]; exact g), ← h.1] at hy
    rcases Nat.eq_zero_or_pos (i - l.length) with k | k
    · rw [k] at hx hy
      simp at hx hy
      subst hx; subst hy; exact hd
    · rw [List.getElem?_eq_none (by simp; omega)] at hx
      cases hx
theorem OL.getD {R : Dt → Dt → Prop} {a b : Option (List Dt)} (h : OL R a b) : EqLs R (a.getD []) (b.getD []) := by
  cases a <;> cases b
  · exact EqLs.nil
  · exact h.elim
  · exact h.elim
  · exact h
theorem OL.some {R : Dt → Dt → Prop} {l : List Dt} {b : Option (List Dt)} (h : OL R (some l) b) : ∃ l', b = some l' ∧ EqLs R l l' := by
  cases b with
  | none => exact h.elim
  | some l' => exact ⟨l', rfl, h⟩
theorem OD.some {R : Dt → Dt → Prop} {d : Dt} {b : Option Dt} (h : OD R (some d) b) : ∃ d', b = some d' ∧ R d d' := by
  cases b with
  | none => exact h.elim
  | some d' => exact ⟨d', rfl, h⟩
theorem OD.none {R : Dt → Dt → Prop} {b : Option Dt} (h : OD R none b) : b = none := by
  cases b with
  | none => rfl
  | some d' => exact h.elim
theorem brkF_go (E : LitR) (r : ByteArray) (n : Nat) (hG : Goes E) : ∀ (g : Nat) (l : List Dt) (c : Cu), c.Ok → (brkF E r n g l c).1.isSome = true → c.ix < (brkF E r n g l c).2.ix
  | 0, l, c, h, hs => by cases hs
  | g + 1, l, c, h, hs => by
    simp only [brkF] at hs ⊢
    by_cases hq : l.length < n ∨ c.isP r = false
    · rw [if_pos hq] at hs ⊢
      cases he : (E c).1 with
      | none => rw [he] at hs; cases hs
      | some d =>
        rw [he] at hs
        exact Nat.lt_of_le_of_lt (hG c h).1.ix (brkF_go E r n hG g _ _ (hG c h).1.ok hs)
    · rw [if_neg hq]
      have hp : c.isP r = true := by
        cases hp : c.isP r with
        | true => rfl
        | false => exact absurd (.inr hp) hq
      dsimp only
      rw [cls_yes hp]
      exact Nat.lt_succ_self _
section
variable {pl : Bool} {m s e : Nat} {P : Prop} {b b' : Nat}
theorem Ok4.tb {Y Z : Type} {V' : Y → Z → Prop} {F : Tk → Cu → Y × Cu} {F' : Tk → Cu → Z × Cu} (k : ∀ a a', Ok4 pl m s e (P ∧ EqT pl a a') V' (F a) (F' a') b b') : Ok4 pl m s e P V' (cu.bnd tokR F) (cu.bnd tokR F') b b' := by
  haveI : Nonempty Tk := ⟨Tk.zero⟩
  exact tokR_4.bnd k
theorem brkF_4 {R : Dt → Dt → Prop} {E E' : LitR} (hG : Goes E) (hG' : Goes E') (hF : Faults E b) (h : Ok4 pl m s e True (OD R) E E' b b') {r : ByteArray} (hr : dlt (pk r) = -1) (n : Nat) : ∀ (g g' : Nat) (l l' : List Dt) (c c' : Cu), c.Ok → c'.Ok → Sf pl m s e c c' → c.ts.length ≤ b + c.ix → c'.ts.length ≤ b' + c'.ix → c.ts.length ≤ g + c.ix → c'.ts.length ≤ g' + c'.ix → EqLs R l l' → (e = 0 ∨ (Inv c ∧ c.kd = 0 ∧ 1 ≤ c.op ∧ (brkF E r n g l c).2.kd = 0)) → ((brkF E r n g l c).2.ix ≤ m ∨ ((brkF E r n g l c).1.isSome = true ∧ (brkF E r n g l c).2.ix ≤ m + 1)) → OL R (brkF E r n g l c).1 (brkF E' r n g' l' c').1 ∧ Sf pl m s e (brkF E r n g l c).2 (brkF E' r n g' l' c').2
  | 0, g', l, l', c, c', hc, hc', hs, hb, hb', hg, hg', hl, hP, hm => by have := hc.lt; omega
  | g + 1, 0, l, l', c, c', hc, hc', hs, hb, hb', hg, hg', hl, hP, hm => by have := hc'.lt; omega
  | g + 1, g' + 1, l, l', c, c', hc, hc', hs, hb, hb', hg, hg', hl, hP, hm => by
    have hi : c.ix ≤ m := by
      rcases hm with hm | ⟨h1, h2⟩
      · exact Nat.le_trans (brkF_stp hG r n (g + 1) l c hc).ix hm
      · have := brkF_go E r n hG (g + 1) l c hc h1
        omega
    simp only [brkF] at hP hm ⊢
    rw [hs.isP hi, ← hl.1]
    by_cases hq : l.length < n ∨ c.isP r = false
    · rw [if_pos hq] at hP hm
      rw [if_pos hq, if_pos hq]
      have hgo := hG c hc
      have hgo' := hG' c' hc'
      cases he : (E c).1 with
      | none =>
        rw [he] at hP hm
        have hm1 : (E c).2.ix ≤ m := by
          rcases hm with hm | ⟨h1, h2⟩
          · exact hm
          · cases h1
        have hp1 : Ps e c E := by
          rcases hP with hP | ⟨h1, h2, h3, h4⟩
          · exact .inl hP
          · exact .inr ⟨h1, h2, h4⟩
        obtain ⟨e1, e2⟩ := h.near trivial c c' hc hc' hs hb hb' hp1 hm1
        rw [he] at e1
        rw [e1.none]
        exact ⟨trivial, e2⟩
      | some d =>
        rw [he] at hP hm
        dsimp only at hP hm
        have hm1 : (E c).2.ix ≤ m := by
          rcases hm with hm | ⟨h1, h2⟩
          · exact Nat.le_trans (brkF_stp hG r n g _ _ hgo.1.ok).ix hm
          · have := brkF_go E r n hG g _ _ hgo.1.ok h1
            omega
        have hk0 : e = 0 ∨ (E c).2.kd = 0 := by
          rcases hP with hP | ⟨h1, h2, h3, h4⟩
          · exact .inl hP
          · refine .inr (Classical.byContradiction fun x => ?_)
            rw [brkF_sti h.o.sti r n x] at h4
            exact x h4
        have hp1 : Ps e c E := by
          rcases hP with hP | ⟨h1, h2, h3, h4⟩
          · exact .inl hP
          · rcases hk0 with hk0 | hk0
            · exact .inl hk0
            · exact .inr ⟨h1, h2, hk0⟩
        obtain ⟨e1, e2⟩ := h.near trivial c c' hc hc' hs hb hb' hp1 hm1
        rw [he] at e1
        obtain ⟨d', he', hR⟩ := e1.some
        rw [he']
        have i1 := hgo.2 (by rw [he]; rfl)
        have i2 := hgo'.2 (by rw [he']; rfl)
        refine brkF_4 hG hG' hF h hr n g g' (l ++ [d]) (l' ++ [d']) _ _ hgo.1.ok hgo'.1.ok e2 (by rw [hgo.1.ts]; omega) (by rw [hgo'.1.ts]; omega) (by rw [hgo.1.ts]; omega) (by rw [hgo'.1.ts]; omega) (hl.snoc hR) ?_ hm
        rcases hP with hP | ⟨h1, h2, h3, h4⟩
        · exact .inl hP
        · rcases hk0 with hk0 | hk0
          · exact .inl hk0
          · obtain ⟨o1, i3⟩ := h.o.bal c hc hb h1 h2 hk0
            exact .inr ⟨i3, hk0, by omega, h4⟩
    · rw [if_neg hq] at hP
      rw [if_neg hq, if_neg hq]
      refine ⟨hl, hs.cls hi r ?_⟩
      rcases hP with hP | ⟨h1, h2, h3, h4⟩
      · exact .inl hP
      · exact .inr h3
theorem brk_45 {R : Dt → Dt → Prop} {E E' : LitR} (hG : Goes E) (hG' : Goes E') (hF : Faults E b) (h : Ok4 pl m s e True (OD R) E E' b b') {l r : ByteArray} (hl : dlt (pk l) = 1) (hr : dlt (pk r) = -1) (n : Nat) (c c' : Cu) (hc : c.Ok) (hc' : c'.Ok) (hs : Sf pl m s e c c') (hb : c.ts.length ≤ b + 1 + c.ix) (hb' : c'.ts.length ≤ b' + 1 + c'.ix) (hP : Ps e c (brk E l r n)) (hm : (brk E l r n c).2.ix ≤ m ∨ ((brk E l r n c).1.isSome = true ∧ (brk E l r n c).2.ix ≤ m + 1)) : OL R (brk E l r n c).1 (brk E' l r n c').1 ∧ Sf pl m s e (brk E l r n c).2 (brk E' l r n c').2 := by
  have hgo := brk_goes hG l r n c hc
  have hi : c.ix ≤ m := by
    rcases hm with hm | ⟨h1, h2⟩
    · exact Nat.le_trans hgo.1.ix hm
    · have := hgo.2 h1
      omega
  have ho := opn_stp hc l
  have ho' := opn_stp hc' l
  have eB := hs.opB hi l
  have eS := hs.opn hi l
  unfold Ps at hP
  unfold brk at hP hm ⊢
  rw [eB]
  by_cases hB : c.opB l = true
  · rw [if_pos hB] at hP hm
    rw [if_pos hB, if_pos hB]
    have x1 := opn_ix hB
    have x2 := opn_ix (show c'.opB l = true by rw [eB]; exact hB)
    refine brkF_4 hG hG' hF h hr n _ _ [] [] _ _ ho.ok ho'.ok eS (by rw [ho.ts, x1]; omega) (by rw [ho'.ts, x2]; omega) (by rw [ho.ts]; omega) (by rw [ho'.ts]; omega) EqLs.nil ?_ hm
    rcases hP with hP | ⟨h1, h2, h3⟩
    · exact .inl hP
    · obtain ⟨q1, q2, q3⟩ := opn_yes hB
      exact .inr ⟨opn_inv hl hB h1, by rw [q3]; exact h2, by rw [q3]; exact Nat.succ_le_succ (Nat.zero_le _), h3⟩
  · rw [if_neg hB, if_neg hB]
    exact ⟨trivial, eS⟩
theorem brk_4 {R : Dt → Dt → Prop} {E E' : LitR} (hG : Goes E) (hG' : Goes E') (hF : Faults E b) (h : Ok4 pl m s e True (OD R) E E' b b') {l r : ByteArray} (hl : dlt (pk l) = 1) (hr : dlt (pk r) = -1) (n : Nat) : Ok4 pl m s e P (OL R) (brk E l r n) (brk E' l r n) (b + 1) (b' + 1) :=
  ⟨brk_3 hG hF h.o hl hr n, (brk_goes hG' l r n).st, fun hp c c' hc hc' hs hb hb' hP hm => brk_45 hG hG' hF h hl hr n c c' hc hc' hs hb hb' hP (.inl hm)⟩
theorem leaf_eq (f : Nat) {k : Int} {tx : ByteArray} {bl : Bool} {a c a' c' : Int} (h : pl = true → a = a' ∧ c = c') : EqL pl (f + 1) (litD k tx bl .nil .nil a c) (litD k tx bl .nil .nil a' c') :=
  ⟨k, tx, bl, [], [], [], [], a, c, a', c', rfl, rfl, h, rfl, rfl, fun i x y hx => by simp at hx, fun i x y hx => by simp at hx⟩
theorem word_eq (f : Nat) {t t' : Tk} (h : EqT pl t t') : EqL pl (f + 1) (wordD t) (wordD t') := by
  unfold wordD
  rw [h.2.1]
  split
  · exact leaf_eq f h.2.2.2
  · split
    · exact leaf_eq f h.2.2.2
    · exact leaf_eq f h.2.2.2
theorem argS_4 {f : Nat} {L L' : LitR} (h : Ok4 pl m s e True (OD (EqL pl f)) L L' b b') : Ok4 pl m s e P (OD (EqA pl f)) (argS L) (argS L') b b' := by
  rw [argS_eq3, argS_eq3]
  exact Ok4.tb fun t t' => nR_4.bnd fun _ _ => (wantR_4 _ dl_col).bnd fun _ _ => h.wk.bnd fun r r' => ret_4 fun hp => hp.2.map fun x y hxy => by
    have ht := hp.1.1.1.2
    rw [ht.2.1]
    exact ⟨t.tx, x, y, _, _, _, _, rfl, rfl, ht.2.2.2, hxy⟩
theorem litS_4 {f : Nat} {L L' : LitR} (hG : Goes L) (hG' : Goes L') (hF : Faults L b) (h : Ok4 pl m s e True (OD (EqL pl f)) L L' b b') (ct : Bool) : Ok4 pl m s e P (OD (EqL pl (f + 1))) (litS L ct) (litS L' ct) (b + 1) (b' + 1) := by
  rw [litS_eq, litS_eq]
  refine aliveR_4.bnd fun al al' => cond_4 (fun hp => hp.2) (Ok4.tb fun t t' => ?_) (ret_4 fun _ => trivial)
  have hK : ∀ {P' : Prop} (k : Int) {v v' : Dt}, k ≠ 0 → k ≠ 1 → k ≠ 2 → (P' → EqL pl (f + 1) v v') → Ok4 pl m s e P' (OD (EqL pl (f + 1))) (bnd (takeK k) fun _ => ret (some v)) (bnd (takeK k) fun _ => ret (some v')) (b + 1) (b' + 1) := fun {P'} k {v v'} h0 h1 h2 hv => (takeK_4 k h0 h1 h2).bnd fun _ _ => ret_4 fun hp => hv hp.1
  have hk : ∀ {Q : Prop} (k : Int), ((Q ∧ EqT pl t t') → decide (t.k = k) = decide (t'.k = k)) := fun k hp => by rw [hp.2.1]
  unfold litT
  refine cond_4 (hk 4) (hK 4 (by decide) (by decide) (by decide) fun hp => ?_) (cond_4 (hk 5) (hK 5 (by decide) (by decide) (by decide) fun hp => ?_) (cond_4 (hk 6) (hK 6 (by decide) (by decide) (by decide) fun hp => ?_) (cond_4 (hk 7) (hK 7 (by decide) (by decide) (by decide) fun hp => ?_) (cond_4 (hk 3) (hK 3 (by decide) (by decide) (by decide) fun hp => word_eq f hp.2)
    ((isPR_4 _).bnd fun q q' => cond_4 (fun hp => by rw [hp.2]) ((punctR_4 _ dl_dol).bnd fun _ _ => nR_4.bnd fun n n' => ret_4 fun hp => ?_)
    ((isPR_4 _).bnd fun q q' => cond_4 (fun hp => hp.2) ((brk_4 hG hG' hF h dl_lb dl_rb 0).bnd fun r r' => ret_4 fun hp => hp.2.map fun x y hxy => ?_)
    ((isPR_4 _).bnd fun q q' => cond_4 (fun hp => hp.2) ((brk_4 (argS_goes hG) (argS_goes hG') (argS_faults b hF) (argS_4 h) dl_lc dl_rc 0).bnd fun r r' => ret_4 fun hp => hp.2.map fun x y hxy => ?_)
    (stopR_4 fun _ => trivial))))))))
  · rw [hp.2.2.1]; exact leaf_eq f hp.2.2.2.2
  · rw [hp.2.2.1]; exact leaf_eq f hp.2.2.2.2
  · rw [hp.2.2.2.1]; exact leaf_eq f hp.2.2.2.2
  · rw [hp.2.2.2.1]; exact leaf_eq f hp.2.2.2.2
  · obtain ⟨⟨⟨⟨_, ht⟩, _⟩, _⟩, rfl⟩ := hp
    cases n.1
    · trivial
    · exact leaf_eq f ht.2.2.2
  · have ht := hp.1.1.1.2
    exact ⟨8, em, false, x, y, [], [], _, _, _, _, rfl, rfl, ht.2.2.2, hxy.1, rfl, hxy.2, fun i x y hx => by simp at hx⟩
  · have ht := hp.1.1.1.1.2
    exact ⟨9, em, false, [], [], x, y, _, _, _, _, rfl, rfl, ht.2.2.2, rfl, hxy.1, (fun i x y hx => by simp at hx), hxy.2⟩
theorem litF_4 (ct : Bool) : ∀ (f f' : Nat), Ok4 pl m s e True (OD (EqL pl f)) (litF ct f) (litF ct f') f f'
  | 0, f' => ⟨litF_3 ct 0, (litF_goes ct f').st, fun hp c c' hc hc' hs hb => by have := hc.lt; omega⟩
  | f + 1, 0 => ⟨litF_3 ct (f + 1), (litF_goes ct 0).st, fun hp c c' hc hc' hs hb hb' => by have := hc'.lt; omega⟩
  | f + 1, f' + 1 => litS_4 (litF_goes ct f) (litF_goes ct f') (litF_faults ct f) (litF_4 ct f f') ct
end
end Go.Proofs.YtcebeajjpcbgcaaGreat.cu
namespace Go.Proofs.YtcebeajjpcbgcaaGreat.cu
open dt (Dt Kp RowAt Ow Grow)
set_option linter.unusedVariables false
set_option linter.unusedSimpArgs false
section
variable {pl : Bool} {m s e : Nat} {P : Prop} {b b' : Nat} {f : Nat} {L L' : LitR}
theorem argsS_4 (hG : Goes L) (hG' : Goes L') (hF : Faults L b) (h : Ok4 pl m s e True (OD (EqL pl f)) L L' b b') : Ok4 pl m s e P (OL (EqA pl f)) (argsS L) (argsS L') b b' := by
  rw [argsS_eq, argsS_eq]
  exact (isPR_4 _).bnd fun q q' => cond_4 (fun hp => hp.2) ((brk_4 (argS_goes hG) (argS_goes hG') (argS_faults b hF) (argS_4 h) dl_lp dl_rp 1).mono (Nat.le_succ _) (Nat.le_succ _)) (aliveR_4.bnd fun a a' => ret_4 fun hp => by
    obtain ⟨_, rfl⟩ := hp
    cases a
    · trivial
    · exact EqLs.nil)
theorem dirB_4 (hG : Goes L) (hG' : Goes L') (hF : Faults L b) (h : Ok4 pl m s e True (OD (EqL pl f)) L L' b b') : Ok4 pl m s e P (OD (EqR pl f)) (dirB L) (dirB L') b b' :=
  Ok4.tb fun t t' => (punctR_4 _ dl_at).bnd fun _ _ => nR_4.bnd fun n n' => (argsS_4 hG hG' hF h).bnd fun r r' => ret_4 fun hp => hp.2.map fun x y hxy => by
    obtain ⟨⟨⟨⟨_, ht⟩, _⟩, rfl⟩, _⟩ := hp
    exact ⟨n.2, x, y, _, _, _, _, rfl, rfl, ht.2.2.2, hxy⟩
theorem dirsF_4 (hG : Goes L) (hG' : Goes L') (hF : Faults L b) (o : Ok4 pl m s e True (OD (EqR pl f)) (dirB L) (dirB L') b b') : ∀ (g g' : Nat) (l l' : List Dt) (c c' : Cu), c.Ok → c'.Ok → Sf pl m s e c c' → c.ts.length ≤ b + c.ix → c'.ts.length ≤ b' + c'.ix → c.ts.length ≤ g + c.ix → c'.ts.length ≤ g' + c'.ix → EqLs (EqR pl f) l l' → Ps e c (dirsF L g l) → (dirsF L g l c).2.ix ≤ m → OL (EqR pl f) (dirsF L g l c).1 (dirsF L' g' l' c').1 ∧ Sf pl m s e (dirsF L g l c).2 (dirsF L' g' l' c').2
  | 0, g', l, l', c, c', hc, hc', hs, hb, hb', hg, hg', hl, hP, hm => by have := hc.lt; omega
  | g + 1, 0, l, l', c, c', hc, hc', hs, hb, hb', hg, hg', hl, hP, hm => by have := hc'.lt; omega
  | g + 1, g' + 1, l, l', c, c', hc, hc', hs, hb, hb', hg, hg', hl, hP, hm => by
    have hi : c.ix ≤ m := Nat.le_trans (dirsF_stp hG (g + 1) l c hc).ix hm
    unfold Ps at hP
    simp only [dirsF] at hP hm ⊢
    rw [hs.isP hi]
    by_cases hp : c.isP bAt = true
    · rw [if_pos hp] at hP hm
      rw [if_pos hp, if_pos hp]
      have hp' : c'.isP bAt = true := by rw [hs.isP hi]; exact hp
      have hgo := dirS_stp hG hc hp
      have hgo' := dirS_stp hG' hc' hp'
      have eq1 : dirB L c = dirS L c := (dirS_eq L c hp).symm
      have eq2 : dirB L' c' = dirS L' c' := (dirS_eq L' c' hp').symm
      have hnear := o.near trivial c c' hc hc' hs hb hb'
      have hbal := o.o.bal c hc hb
      unfold Ps at hnear
      rw [eq1, eq2] at hnear
      rw [eq1] at hbal
      cases he : (dirS L c).1 with
      | none =>
        rw [he] at hP hm
        obtain ⟨e1, e2⟩ := hnear hP hm
        rw [he] at e1
        rw [e1.none]
        exact ⟨trivial, e2⟩
      | some d =>
        rw [he] at hP hm
        dsimp only at hP hm
        have hm1 : (dirS L c).2.ix ≤ m := Nat.le_trans (dirsF_stp hG g _ _ hgo.1.ok).ix hm
        have hk0 : e = 0 ∨ (dirS L c).2.kd = 0 := by
          rcases hP with hP | ⟨h1, h2, h4⟩
          · exact .inl hP
          · refine .inr (Classical.byContradiction fun x => ?_)
            rw [dirsF_still L x] at h4
            exact x h4
        have hp1 : e = 0 ∨ (Inv c ∧ c.kd = 0 ∧ (dirS L c).2.kd = 0) := by
          rcases hP with hP | ⟨h1, h2, h4⟩
          · exact .inl hP
          · rcases hk0 with hk0 | hk0
            · exact .inl hk0
            · exact .inr ⟨h1, h2, hk0⟩
        obtain ⟨e1, e2⟩ := hnear hp1 hm1
        rw [he] at e1
        obtain ⟨d', he', hR⟩ := e1.some
        rw [he']
        have i1 := hgo.2
        have i2 := hgo'.2
        refine dirsF_4 hG hG' hF o g g' (l ++ [d]) (l' ++ [d']) _ _ hgo.1.ok hgo'.1.ok e2 (by rw [hgo.1.ts]; omega) (by rw [hgo'.1.ts]; omega) (by rw [hgo.1.ts]; omega) (by rw [hgo'.1.ts]; omega) (hl.snoc hR) ?_ hm
        rcases hP with hP | ⟨h1, h2, h4⟩
        · exact .inl hP
        · rcases hk0 with hk0 | hk0
          · exact .inl hk0
          · exact .inr ⟨(hbal h1 h2 hk0).2, hk0, h4⟩
    · rw [if_neg hp, if_neg hp]
      refine ⟨?_, hs⟩
      show OL _ (if c.kd = 0 then some l else none) (if c'.kd = 0 then some l' else none)
      rw [hs.kd]
      split
      · exact hl
      · trivial
theorem dirs_4 (hG : Goes L) (hG' : Goes L') (hF : Faults L b) (h : Ok4 pl m s e True (OD (EqL pl f)) L L' b b') : Ok4 pl m s e P (OL (EqR pl f)) (dirs L) (dirs L') b b' :=
  ⟨dirs_3 hG hF h.o, dirs_st hG', fun hp c c' hc hc' hs hb hb' hP hm => dirsF_4 hG hG' hF (dirB_4 hG hG' hF h) _ _ [] [] c c' hc hc' hs hb hb' (by omega) (by omega) EqLs.nil hP hm⟩
theorem spreadS_4 (g : Nat) (hG : Goes L) (hG' : Goes L') (hF : Faults L b) (h : Ok4 pl m s e True (OD (EqL pl f)) L L' b b') {t t' : Tk} (ht : P → EqT pl t t') : Ok4 pl m s e P (OD (EqS pl f (g + 1))) (spreadS L t) (spreadS L' t') b b' := by
  rw [spreadS_eq, spreadS_eq]
  exact (butR_4 _).bnd fun nm nm' => (dirs_4 hG hG' hF h).bnd fun r r' => ret_4 fun hp => hp.2.map fun x y hxy => by
    obtain ⟨⟨hp, rfl⟩, _⟩ := hp
    exact ⟨2, em, nm, em, [], [], x, y, [], [], _, _, _, _, rfl, rfl, (ht hp).2.2.2, EqLs.nil, hxy, EqLs.nil⟩
theorem inlineS_4 {g : Nat} {S S' : LstR} (hG : Goes L) (hG' : Goes L') (hF : Faults L b) (h : Ok4 pl m s e True (OD (EqL pl f)) L L' b b') (hS : Ok4 pl m s e True (OL (EqS pl f g)) S S' b b') {t t' : Tk} (ht : P → EqT pl t t') : Ok4 pl m s e P (OD (EqS pl f (g + 1))) (inlineS L S t) (inlineS L' S' t') b b' := by
  rw [inlineS_eq, inlineS_eq]
  exact (wordR_4 _).bnd fun q q' => (cond_4 (V := Eq) (fun hp => hp.2) nmR_4 (ret_4 fun _ => rfl)).bnd fun on on' => (dirs_4 hG hG' hF h).bnd fun d d' => hS.wk.bnd fun r r' => ret_4 fun hp => hp.2.map fun x y hxy => by
    obtain ⟨⟨⟨⟨hp, _⟩, rfl⟩, hd⟩, _⟩ := hp
    exact ⟨3, em, em, on, [], [], _, _, x, y, _, _, _, _, rfl, rfl, (ht hp).2.2.2, EqLs.nil, hd.getD, hxy⟩
theorem fieldS_4 {g : Nat} {S S' : LstR} (hG : Goes L) (hG' : Goes L') (hF : Faults L b) (h : Ok4 pl m s e True (OD (EqL pl f)) L L' b b') (hS : Ok4 pl m s e True (OL (EqS pl f g)) S S' b b') {t t' : Tk} (ht : P → EqT pl t t') : Ok4 pl m s e P (OD (EqS pl f (g + 1))) (fieldS L S t) (fieldS L' S' t') b b' := by
  rw [fieldS_eq, fieldS_eq]
  refine nmR_4.bnd fun n n' => (punctR_4 _ dl_col).bnd fun q q' => (cond_4 (V := Eq) (fun hp => hp.2) nmR_4 (ret_4 fun hp => hp.1.2)).bnd fun n2 n2' => (argsS_4 hG hG' hF h).bnd fun a a' => (dirs_4 hG hG' hF h).bnd fun d d' => (isPR_4 _).bnd fun q2 q2' => cond_4 (fun hp => hp.2) (hS.wk.bnd fun r r' => ret_4 fun hp => hp.2.map fun x y hxy => ?_) (ret_4 fun hp => hp.1.2.map fun x y hxy => ?_)
  · obtain ⟨⟨⟨⟨⟨⟨⟨hp, rfl⟩, rfl⟩, rfl⟩, ha⟩, hd⟩, _⟩, _⟩ := hp
    exact ⟨1, _, n2, em, _, _, _, _, x, y, _, _, _, _, rfl, rfl, (ht hp).2.2.2, ha.getD, hd.getD, hxy⟩
  · obtain ⟨⟨⟨⟨⟨⟨hp, rfl⟩, rfl⟩, rfl⟩, ha⟩, hd⟩, _⟩ := hp
    exact ⟨1, _, n2, em, _, _, x, y, [], [], _, _, _, _, rfl, rfl, (ht hp).2.2.2, ha.getD, hxy, EqLs.nil⟩
theorem selS_4 {g : Nat} {S S' : LstR} (hG : Goes L) (hG' : Goes L') (hF : Faults L b) (h : Ok4 pl m s e True (OD (EqL pl f)) L L' b b') (hS : Ok4 pl m s e True (OL (EqS pl f g)) S S' b b') : Ok4 pl m s e P (OD (EqS pl f (g + 1))) (selS L S) (selS L' S') b b' := by
  rw [selS_eq, selS_eq]
  exact Ok4.tb fun t t' => (punctR_4 _ dl_dots).bnd fun q q' => cond_4 (fun hp => hp.2) (sprR_4.bnd fun z z' => cond_4 (fun hp => hp.2) (spreadS_4 g hG hG' hF h fun hp => hp.1.1.2) (inlineS_4 hG hG' hF h hS fun hp => hp.1.1.2)) (fieldS_4 hG hG' hF h hS fun hp => hp.1.2)
theorem selsF_4 (hG : Goes L) (hG' : Goes L') {N N' : Nat} (hF : Faults L N) (h : Ok4 pl m s e True (OD (EqL pl f)) L L' N N') : ∀ (g g' : Nat), g ≤ N → g' ≤ N' → Ok4 pl m s e True (OL (EqS pl f g)) (selsF L g) (selsF L' g') g g'
  | 0, g', _, _ => ⟨selsF_3 hG hF h.o 0 (Nat.zero_le _), (selsF_goes hG' g').st, fun hp c c' hc hc' hs hb => by have := hc.lt; omega⟩
  | g + 1, 0, hg, _ => ⟨selsF_3 hG hF h.o (g + 1) hg, (selsF_goes hG' 0).st, fun hp c c' hc hc' hs hb hb' => by have := hc'.lt; omega⟩
  | g + 1, g' + 1, hg, hg' => brk_4 (selS_goes hG (selsF_goes hG g)) (selS_goes hG' (selsF_goes hG' g')) (selS_faults hG (hF.mono (by omega)) (selsF_faults hG hF g (by omega))) (selS_4 hG hG' (hF.mono (by omega)) (h.mono (by omega) (by omega)) (selsF_4 hG hG' hF h g g' (by omega) (by omega))) dl_lc dl_rc 1
theorem unmO_4 {T T' : TypR} (hF : Faults T b) (h : Ok4 pl m s e True Eq T T' b b') : Ok4 pl m s e P Eq (bnd (opnR bLb) fun o => cond o (unmI T) (ret none)) (bnd (opnR bLb) fun o => cond o (unmI T') (ret none)) (b + 1) (b' + 1) := by
  refine ⟨unmO_3 hF h.o, (opnR_st bLb).bnd fun o => ite_st (unmI_st h.st') (ret_st _), fun hp c c' hc hc' hs hb hb' hP hm => ?_⟩
  have eq : ∀ (T : TypR) (c : Cu), (bnd (opnR bLb) fun o => cond o (unmI T) (ret none)) c = cond (c.opB bLb) (unmI T) (ret none) (c.opn bLb) := fun T c => rfl
  have ho := opn_stp hc bLb
  have ho' := opn_stp hc' bLb
  have hst := (unmO_3 (M := 0) hF h.o).st c hc
  have hi : c.ix ≤ m := Nat.le_trans hst.ix hm
  unfold Ps at hP
  rw [eq] at hP hm
  rw [eq, eq, hs.opB hi]
  have eS := hs.opn hi bLb
  by_cases hB : c.opB bLb = true
  · rw [hB] at hP hm ⊢
    simp only [cond_true] at hP hm ⊢
    rw [unmI_at] at hP hm
    rw [unmI_at, unmI_at]
    have x1 := opn_ix hB
    have x2 := opn_ix (show c'.opB bLb = true by rw [hs.opB hi]; exact hB)
    have hb1 : (c.opn bLb).ts.length ≤ b + (c.opn bLb).ix := by rw [ho.ts, x1]; omega
    have hb2 : (c'.opn bLb).ts.length ≤ b' + (c'.opn bLb).ix := by rw [ho'.ts, x2]; omega
    obtain ⟨q1, q2, q3⟩ := opn_yes hB
    have sT := h.o.st _ ho.ok
    cases hq : (T (c.opn bLb)).1 with
    | none =>
      rw [hq] at hP hm
      have hP1 : Ps e (c.opn bLb) T := by
        rcases hP with hP | ⟨h1, h2, h3⟩
        · exact .inl hP
        · exact absurd h3 (hF _ ho.ok hb1 hq)
      obtain ⟨e1, e2⟩ := h.near trivial _ _ ho.ok ho'.ok eS hb1 hb2 hP1 hm
      rw [← e1, hq]
      exact ⟨rfl, e2⟩
    | some it =>
      rw [hq] at hP hm
      dsimp only at hP hm
      have hm1 : (T (c.opn bLb)).2.ix ≤ m := Nat.le_trans (cls_stp sT.ok bRb).ix hm
      have hk0 : e = 0 ∨ (T (c.opn bLb)).2.kd = 0 := by
        rcases hP with hP | ⟨h1, h2, h3⟩
        · exact .inl hP
        · refine .inr (Classical.byContradiction fun x => ?_)
          have : (T (c.opn bLb)).2.cls bRb = (T (c.opn bLb)).2 := by unfold Cu.cls; rw [isP_dead x]; exact stop_dead _ _ x
          rw [this] at h3
          exact x h3
      have hP1 : Ps e (c.opn bLb) T := by
        rcases hP with hP | ⟨h1, h2, h3⟩
        · exact .inl hP
        · rcases hk0 with hk0 | hk0
          · exact .inl hk0
          · exact .inr ⟨opn_inv dl_lb hB h1, by rw [q3]; exact h2, hk0⟩
      obtain ⟨e1, e2⟩ := h.near trivial _ _ ho.ok ho'.ok eS hb1 hb2 hP1 hm1
      rw [← e1, hq]
      dsimp only
      rw [e2.isP hm1]
      refine ⟨rfl, e2.cls hm1 bRb ?_⟩
      rcases hP1 with hP1 | ⟨h1, h2, h3⟩
      · exact .inl hP1
      · obtain ⟨o1, i1⟩ := h.o.bal _ ho.ok hb1 h1 h2 h3
        right
        rw [o1, q3]
        exact Nat.succ_le_succ (Nat.zero_le _)
  · have hB' : c.opB bLb = false := by simpa using hB
    rw [hB']
    exact ⟨rfl, eS⟩
theorem unm_4 {T T' : TypR} (hF : Faults T b) (h : Ok4 pl m s e True Eq T T' b b') : Ok4 pl m s e P Eq (unm T) (unm T') (b + 1) (b' + 1) := by
  rw [unm_eq, unm_eq]
  exact (isPR_4 _).bnd fun q q' => cond_4 (fun hp => hp.2) (unmO_4 hF h) (nR_4.bnd fun n n' => ret_4 fun hp => by rw [hp.2])
theorem typF_4 : ∀ (f f' : Nat), Ok4 pl m s e True Eq (typF f) (typF f') f f'
  | 0, f' => ⟨typF_3 0, typF_st f', fun hp c c' hc hc' hs hb => by have := hc.lt; omega⟩
  | f + 1, 0 => ⟨typF_3 (f + 1), typF_st 0, fun hp c c' hc hc' hs hb hb' => by have := hc'.lt; omega⟩
  | f + 1, f' + 1 => by
    show Ok4 pl m s e True Eq (typ (unm (typF f))) (typ (unm (typF f'))) (f + 1) (f' + 1)
    rw [typ_eq, typ_eq]
    refine (unm_4 (typF_faults f) (typF_4 f f')).bnd fun r r' => ?_
    have h1 : ∀ (P' : Prop) (r : ByteArray × ByteArray), Ok4 pl m s e P' Eq (bnd (punctR bBang) fun q => ret (some (cond q (r.1, r.2 ++ bBang) r))) (bnd (punctR bBang) fun q => ret (some (cond q (r.1, r.2 ++ bBang) r))) (f + 1) (f' + 1) := fun P' r => (punctR_4 _ dl_bang).bnd fun q q' => ret_4 fun hp => by rw [hp.2]
    cases r with
    | none =>
      cases r' with
      | none => exact ret_4 fun _ => rfl
      | some r' => exact ⟨ret_3 _, (h1 True r').st', fun hp => by cases hp.2⟩
    | some r =>
      cases r' with
      | none => exact ⟨(h1 True r).o, ret_st _, fun hp => by cases hp.2⟩
      | some r' =>
        refine ⟨(h1 True r).o, (h1 True r').st', fun hp => ?_⟩
        obtain rfl := Option.some.inj hp.2
        exact (h1 True r).near trivial
end
end Go.Proofs.YtcebeajjpcbgcaaGreat.cu
namespace Go.Proofs.YtcebeajjpcbgcaaGreat.cu
open dt (Dt Kp RowAt Ow Grow)
open lx (toks chs cln tksG tkG)
set_option linter.unusedVariables false
set_option linter.unusedSimpArgs false
section
variable {pl : Bool} {m s e : Nat} {P : Prop} {b b' : Nat} {f : Nat} {L L' K K' : LitR}
theorem OD.getD {R : Dt → Dt → Prop} {a b : Option Dt} {z z' : Dt} (h : OD R a b) (hz : R z z') : R (a.getD z) (b.getD z') := by
  cases a <;> cases b
  · exact hz
  · exact h.elim
  · exact h.elim
  · exact h
theorem varQ_4 {T T' : TypR} (hf : 0 < f) (hT : Ok4 pl m s e True Eq T T' b b') (hG : Goes L) (hG' : Goes L') (hF : Faults L b) (h : Ok4 pl m s e True (OD (EqL pl f)) L L' b b') : Ok4 pl m s e P (OD (EqV pl f)) (varQ T L) (varQ T' L') b b' := by
  rw [varQ_eq, varQ_eq]
  have hz : EqL pl f zeroD zeroD := by
    obtain ⟨f', rfl⟩ : ∃ f', f = f' + 1 := ⟨f - 1, by omega⟩
    exact leaf_eq f' fun _ => ⟨rfl, rfl⟩
  exact Ok4.tb fun t t' => (wantR_4 _ dl_dol).bnd fun _ _ => nmR_4.bnd fun n n' => (wantR_4 _ dl_col).bnd fun _ _ => hT.wk.bnd fun ty ty' => (punctR_4 _ dl_eq).bnd fun q q' => (cond_4 (V := OD (EqL pl f)) (fun hp => hp.2) h.wk (ret_4 (a := none) (x := none) fun _ => trivial)).bnd fun v v' => (dirs_4 hG hG' hF h).bnd fun d d' => ret_4 fun hp => hp.2.map fun x y hxy => by
    obtain ⟨⟨⟨⟨⟨⟨⟨⟨_, ht⟩, _⟩, rfl⟩, _⟩, rfl⟩, rfl⟩, hv⟩, _⟩ := hp
    refine ⟨n, _, _, q, _, _, x, y, _, _, _, _, rfl, rfl, ht.2.2.2, ?_, hxy⟩
    cases q
    · exact hz
    · exact hv.getD hz
theorem varsS_4 {g g' : Nat} (hf : 0 < f) (hT : Ok4 pl m s e True Eq (typF g) (typF g') b b') (hG : Goes K) (hG' : Goes K') (hF : Faults K b) (h : Ok4 pl m s e True (OD (EqL pl f)) K K' b b') : Ok4 pl m s e P (OL (EqV pl f)) (varsS (typF g) K) (varsS (typF g') K') b b' := by
  rw [varsS_eq, varsS_eq]
  exact (isPR_4 _).bnd fun q q' => cond_4 (fun hp => hp.2) ((brk_4 (varQ_goes hG) (varQ_goes hG') (varQ_faults hG hF) (varQ_4 hf hT hG hG' hF h) dl_lp dl_rp 1).mono (Nat.le_succ _) (Nat.le_succ _)) (ret_4 fun _ => EqLs.nil)
theorem bodyS_4 {g : Nat} {S S' : LstR} (hG : Goes L) (hG' : Goes L') (hF : Faults L b) (h : Ok4 pl m s e True (OD (EqL pl f)) L L' b b') (hS : Ok4 pl m s e True (OL (EqS pl f g)) S S' b b') (k : Int) {nm nm' on on' : ByteArray} {vs vs' : List Dt} {t t' : Tk} (hn : P → nm = nm' ∧ on = on' ∧ EqLs (EqV pl f) vs vs' ∧ EqT pl t t') : Ok4 pl m s e P (OD (EqF pl f g)) (bodyS L S k nm on vs t) (bodyS L' S' k nm' on' vs' t') b b' := by
  rw [bodyS_eq, bodyS_eq]
  exact (dirs_4 hG hG' hF h).bnd fun d d' => hS.wk.bnd fun r r' => ret_4 fun hp => hp.2.map fun x y hxy => by
    obtain ⟨rfl, rfl, hv, ht⟩ := hn hp.1.1
    exact ⟨k, nm, on, false, vs, vs', _, _, x, y, _, _, _, _, rfl, rfl, ht.2.2.2, hv, hp.1.2.getD, hxy⟩
theorem operS_4 {g g' j : Nat} {S S' : LstR} (hf : 0 < f) (hT : Ok4 pl m s e True Eq (typF g) (typF g') b b') (kG : Goes K) (kG' : Goes K') (kF : Faults K b) (hK : Ok4 pl m s e True (OD (EqL pl f)) K K' b b') (hG : Goes L) (hG' : Goes L') (hF : Faults L b) (h : Ok4 pl m s e True (OD (EqL pl f)) L L' b b') (hS : Ok4 pl m s e True (OL (EqS pl f j)) S S' b b') (k : Int) {t t' : Tk} (ht : P → EqT pl t t') : Ok4 pl m s e P (OD (EqF pl f j)) (operS (typF g) K L S k t) (operS (typF g') K' L' S' k t') b b' := by
  rw [operS_eq, operS_eq]
  exact Ok4.tb fun u u' => (cond_4 (V := Eq) (fun hp => by rw [hp.2.1]) nmR_4 (ret_4 fun _ => rfl)).bnd fun n n' => (varsS_4 hf hT kG kG' kF hK).bnd fun v v' => bodyS_4 hG hG' hF h hS k fun hp => ⟨hp.1.2, rfl, hp.2.getD, ht hp.1.1.1⟩
theorem fragS_4 {j : Nat} {S S' : LstR} (hG : Goes L) (hG' : Goes L') (hF : Faults L b) (h : Ok4 pl m s e True (OD (EqL pl f)) L L' b b') (hS : Ok4 pl m s e True (OL (EqS pl f j)) S S' b b') {t t' : Tk} (ht : P → EqT pl t t') : Ok4 pl m s e P (OD (EqF pl f j)) (fragS L S t) (fragS L' S' t') b b' := by
  rw [fragS_eq, fragS_eq]
  exact (butR_4 _).bnd fun n n' => (wwR_4 _).bnd fun _ _ => nmR_4.bnd fun on on' => bodyS_4 hG hG' hF h hS 4 fun hp => ⟨hp.1.1.2, hp.2, EqLs.nil, ht hp.1.1.1⟩
/-- by the word that a definition begins with -/
theorem kind_4 {A X : Type} {V : Option A → Option X → Prop} {x x' : ByteArray} {E : Int → Cu → Option A × Cu} {F : Cu → Option A × Cu} {E' : Int → Cu → Option X × Cu} {F' : Cu → Option X × Cu} (hx : P → x = x') (h : ∀ k, Ok4 pl m s e P V (E k) (E' k) b b') (k : Ok4 pl m s e P V F F' b b') : Ok4 pl m s e P V (match kindS x with | some k => E k | none => F) (match kindS x' with | some k => E' k | none => F') b b' := by
  refine ⟨by cases kindS x; exact k.o; exact (h _).o, by cases kindS x'; exact k.st'; exact (h _).st', fun hp => ?_⟩
  obtain rfl := hx hp
  cases kindS x
  · exact k.near hp
  · exact (h _).near hp
theorem defS_4 {g g' j : Nat} {S S' : LstR} (hf : 0 < f) (hT : Ok4 pl m s e True Eq (typF g) (typF g') b b') (kG : Goes K) (kG' : Goes K') (kF : Faults K b) (hK : Ok4 pl m s e True (OD (EqL pl f)) K K' b b') (hG : Goes L) (hG' : Goes L') (hF : Faults L b) (h : Ok4 pl m s e True (OD (EqL pl f)) L L' b b') (hS : Ok4 pl m s e True (OL (EqS pl f j)) S S' b b') : Ok4 pl m s e P (OD (EqF pl f j)) (defS (typF g) K L S) (defS (typF g') K' L' S') b b' := by
  rw [defS_eq, defS_eq]
  refine Ok4.tb fun t t' => (isPR_4 _).bnd fun q q' => cond_4 (fun hp => hp.2) (hS.wk.bnd fun r r' => ret_4 fun hp => hp.2.map fun x y hxy => ?_) (wordsR_4.bnd fun u u' => cond_4 (fun hp => by rw [hp.2]) (kind_4 (fun hp => by rw [hp.2]) (fun k => operS_4 hf hT kG kG' kF hK hG hG' hF h hS k fun hp => hp.1.1.2) (fragS_4 hG hG' hF h hS fun hp => hp.1.1.2)) (ret_4 fun _ => trivial))
  exact ⟨1, em, em, true, [], [], [], [], x, y, _, _, _, _, rfl, rfl, hp.1.1.2.2.2.2, EqLs.nil, EqLs.nil, hxy⟩
theorem defN_4 {N : Nat} (hN : 0 < N) (N' : Nat) : Ok4 pl m s e P (OD (EqF pl N N)) (defN N) (defN N') N N' :=
  defS_4 hN (typF_4 N N') (litF_goes true N) (litF_goes true N') (litF_faults true N) (litF_4 true N N') (litF_goes false N) (litF_goes false N') (litF_faults false N) (litF_4 false N N') (selsF_4 (litF_goes false N) (litF_goes false N') (litF_faults false N) (litF_4 false N N') N N' (Nat.le_refl _) (Nat.le_refl _))
/-- definitions, one behind the other, to the end; the second list may hold more already -/
theorem defsF_4 {R : Dt → Dt → Prop} {D D' : LitR} (hG : Goes D) (hG' : Goes D') (h : Ok4 pl m s 0 True (OD R) D D' b b') (q : List Dt) : ∀ (g g' : Nat) (l l' : List Dt) (c c' : Cu), c.Ok → c'.Ok → Sf pl m s 0 c c' → c.ts.length ≤ b + c.ix → c'.ts.length ≤ b' + c'.ix → c.ts.length ≤ g + c.ix → c'.ts.length ≤ g' + c'.ix → EqLs R l l' → (q = [] ∨ l ≠ [] ∨ c.tok.k ≠ 0) → (defsF D g l c).2.ix ≤ m → ((∃ r r', (defsF D g l c).1 = some r ∧ (defsF D' g' (q ++ l') c').1 = some (q ++ r') ∧ EqLs R r r') ∨ ((defsF D g l c).1 = none ∧ (defsF D' g' (q ++ l') c').1 = none)) ∧ Sf pl m s 0 (defsF D g l c).2 (defsF D' g' (q ++ l') c').2
  | 0, g', l, l', c, c', hc, hc', hs, hb, hb', hg, hg', hl, hq, hm => by have := hc.lt; omega
  | g + 1, 0, l, l', c, c', hc, hc', hs, hb, hb', hg, hg', hl, hq, hm => by have := hc'.lt; omega
  | g + 1, g' + 1, l, l', c, c', hc, hc', hs, hb, hb', hg, hg', hl, hq, hm => by
    have hi : c.ix ≤ m := Nat.le_trans (defsF_stp hG (g + 1) l c hc).ix hm
    simp only [defsF] at hm ⊢
    have ht := hs.tok hi
    have hcond : (l.length = 0 ∨ c.tok.k ≠ 0) ↔ ((q ++ l').length = 0 ∨ c'.tok.k ≠ 0) := by
      rw [ht.1, List.length_append, ← hl.1]
      constructor
      · rintro (x | x)
        · rcases hq with hq | hq | hq
          · left; rw [hq, x]; rfl
          · exact absurd (List.length_eq_zero_iff.1 x) hq
          · exact .inr hq
        · exact .inr x
      · rintro (x | x)
        · left; omega
        · exact .inr x
    by_cases hx : l.length = 0 ∨ c.tok.k ≠ 0
    · rw [if_pos hx] at hm
      rw [if_pos hx, if_pos (hcond.1 hx)]
      have hgo := hG c hc
      have hgo' := hG' c' hc'
      have hm1 : (D c).2.ix ≤ m := by
        cases he : (D c).1 with
        | none => rw [he] at hm; exact hm
        | some d => rw [he] at hm; exact Nat.le_trans (defsF_stp hG g _ _ hgo.1.ok).ix hm
      obtain ⟨e1, e2⟩ := h.near trivial c c' hc hc' hs hb hb' (.inl rfl) hm1
      cases he : (D c).1 with
      | none =>
        rw [he] at e1
        rw [e1.none]
        exact ⟨.inr ⟨rfl, rfl⟩, e2⟩
      | some d =>
        rw [he] at e1 hm
        obtain ⟨d', he', hR⟩ := e1.some
        rw [he']
        have i1 := hgo.2 (by rw [he]; rfl)
        have i2 := hgo'.2 (by rw [he']; rfl)
        have ih := defsF_4 hG hG' h q g g' (l ++ [d]) (l' ++ [d']) _ _ hgo.1.ok hgo'.1.ok e2 (by rw [hgo.1.ts]; omega) (by rw [hgo'.1.ts]; omega) (by rw [hgo.1.ts]; omega) (by rw [hgo'.1.ts]; omega) (hl.snoc hR) (.inr (.inl (by simp))) hm
        dsimp only
        rw [List.append_assoc]
        exact ih
    · rw [if_neg hx, if_neg (fun y => hx (hcond.2 y))]
      refine ⟨?_, hs.fin hi⟩
      dsimp only
      rw [hs.finB hi]
      cases c.finB
      · exact .inr ⟨rfl, rfl⟩
      · exact .inl ⟨l, l', rfl, rfl, hl⟩
/-- two documents whose tokens are the same -/
theorem docS_4 (c c' : Cu) (hc : c.Ok) (hc' : c'.Ok) (hs : Sf pl m s 0 c c') (h0 : c.ix = 0) (hm : (docS c).2.ix ≤ m) : ((∃ r r', (docS c).1 = some r ∧ (docS c').1 = some r' ∧ EqLs (EqF pl c.ts.length c.ts.length) r r') ∨ ((docS c).1 = none ∧ (docS c').1 = none)) ∧ Sf pl m s 0 (docS c).2 (docS c').2 := by
  have hl := hc.lt
  exact defsF_4 (defN_goes _) (defN_goes _) (defN_4 (by omega) _) [] _ _ [] [] c c' hc hc' hs (by omega) (by omega) (by omega) (by omega) EqLs.nil (.inl rfl) hm
/-- a document is the same as itself -/
theorem docS_refl (pl : Bool) (c : Cu) (hc : c.Ok) (h0 : c.ix = 0) {l : List Dt} (h : (docS c).1 = some l) : EqLs (EqF pl c.ts.length c.ts.length) l l := by
  have hs : Sf pl (docS c).2.ix 0 0 c c := ⟨rfl, rfl, rfl, rfl, fun i hi => EqT.refl pl _⟩
  rcases (docS_4 c c hc hc hs h0 (Nat.le_refl _)).1 with ⟨r, r', h1, h2, h3⟩ | ⟨h1, h2⟩
  · rw [h] at h1 h2
    obtain rfl := Option.some.inj h1
    obtain rfl := Option.some.inj h2
    exact h3
  · rw [h] at h1; cases h1
end
end Go.Proofs.YtcebeajjpcbgcaaGreat.cu
namespace Go.Proofs.YtcebeajjpcbgcaaGreat.cu
open Go.ChangeShapes Go.WideShapes Go.ChangeAt Go.RowKit
open ints (hide unhide)
open dt (Dt Kp RowAt Ow Grow OwIn)
open mem (Row)
set_option linter.unusedVariables false
set_option linter.unusedSimpArgs false
/-- two lists that lie in memory are called the same -/
def SmLs (fn : Nat) (pl : Bool) (k : Nat) (l l' : List Dt) : Prop := ∀ (w : World) (a a' : Option Addr) (c c' : Nat) (F G : List Nat), Ls w k l a F → Ls w k l' a' G → (∀ b ∈ F, b < w.heap.size) → (∀ b ∈ G, b < w.heap.size) → l.length ≤ c → l'.length ≤ c' → c ≤ maxLen → c' ≤ maxLen →
  Calls Tryz.prog fn #[.slice a l.length c, .slice a' l'.length c', .bool pl] w fun e w' => e = .returned (.bool true) ∧ Below w.heap.size w w'
set_option maxHeartbeats 8000000 in
set_option maxRecDepth 4000 in
theorem args_t (f : Nat) (l l' : List Dt) (h : EqLs (EqA true f) l l') : SmLs 24 true 10 l l' := by
  intro w a a' c c' F G hl hl' hF hG hc hc' hm hm'
  obtain ⟨hlen, hel⟩ := h
  have HEL := hide hel
  have HL := hide hl
  have HL' := hide hl'
  have HF := hide hF
  have HG := hide hG
  obtain ⟨n, hn⟩ : ∃ n, n = l.length := ⟨_, rfl⟩
  have hn' : n = l'.length := hn.trans hlen
  rw [← hn] at hc ⊢
  rw [← hn'] at hc' ⊢
  have Hn := hide (And.intro hn hn')
  clear hel hl hl' hF hG hn hn' hlen
  unfold maxLen at hm hm'
  go_enter Tryz.func24, Tryz.ntmps24
  go_wp2_with fail
  go_loopw [7] (fun i wr => ∃ j : Nat, j ≤ n ∧ i = .int .i64 j ∧ Below w.heap.size w wr) (fun i _ => n - (intOf i).toNat)
  case atStart => exact ⟨0, Nat.zero_le _, rfl, Below.refl _ _⟩
  case round =>
    obtain ⟨j, hj, rfl, hI⟩ := hrel
    by_cases hlt : j < n
    · have ji : (j : Int) < (n : Int) := by omega
      have hlt1 : j < l.length := by have := unhide Hn; omega
      have hlt2 : j < l'.length := by have := unhide Hn; omega
      obtain ⟨p, off, rfl, hpF, hget⟩ := (unhide HL).resolve_left (fun h0 => by rw [h0] at hlt1; exact absurd hlt1 (Nat.not_lt_zero _))
      obtain ⟨p', off', rfl, hpG, hget'⟩ := (unhide HL').resolve_left (fun h0 => by rw [h0] at hlt2; exact absurd hlt2 (Nat.not_lt_zero _))
      obtain ⟨ds, G1, hrow, hdl, hod, hGF⟩ := hget j _ (List.getElem?_eq_getElem hlt1)
      obtain ⟨ds', G2, hrow', hdl', hod', hGG⟩ := hget' j _ (List.getElem?_eq_getElem hlt2)
      obtain ⟨nm, e1, e2, x1, y1, x2, y2, hx, hy, hxy, heq⟩ := (unhide HEL) j _ _ (List.getElem?_eq_getElem hlt1) (List.getElem?_eq_getElem hlt2)
      rw [hx] at hod
      rw [hy] at hod'
      have hshp : ∃ k1 tx1 bl1 ai1 ni1 ci1 af1 nf1 cf1 ln1 co1 k2 tx2 bl2 ai2 ni2 ci2 af2 nf2 cf2 ln2 co2, ds = [.string nm, .int .i64 k1, .string tx1, .bool bl1, .slice ai1 ni1 ci1, .slice af1 nf1 cf1, .int .i64 ln1, .int .i64 co1, .int .i64 x1, .int .i64 y1] ∧ ds' = [.string nm, .int .i64 k2, .string tx2, .bool bl2, .slice ai2 ni2 ci2, .slice af2 nf2 cf2, .int .i64 ln2, .int .i64 co2, .int .i64 x2, .int .i64 y2] ∧ Ow w e1 [.int .i64 k1, .string tx1, .bool bl1, .slice ai1 ni1 ci1, .slice af1 nf1 cf1, .int .i64 ln1, .int .i64 co1] G1 ∧ Ow w e2 [.int .i64 k2, .string tx2, .bool bl2, .slice ai2 ni2 ci2, .slice af2 nf2 cf2, .int .i64 ln2, .int .i64 co2] G2 := by
        obtain ⟨k1, tx1, bl1, i1, f1, ln1, co1, h1⟩ := heq.left
        obtain ⟨k2, tx2, bl2, i2, f2, ln2, co2, h2⟩ := heq.right
        rw [h1] at hod
        rw [h2] at hod'
        obtain ⟨a1, a2, a3, a4, a5, a6, q1, q2⟩ := fld_cells hod
        obtain ⟨b1, b2, b3, b4, b5, b6, r1, r2⟩ := fld_cells hod'
        rw [← h1] at q2
        rw [← h2] at r2
        exact ⟨k1, tx1, bl1, a1, a2, a3, a4, a5, a6, ln1, co1, k2, tx2, bl2, b1, b2, b3, b4, b5, b6, ln2, co2, q1, r1, q2, r2⟩
      obtain ⟨k1, tx1, bl1, ai1, ni1, ci1, af1, nf1, cf1, ln1, co1, k2, tx2, bl2, ai2, ni2, ci2, af2, nf2, cf2, ln2, co2, rfl, rfl, hov, hov'⟩ := hshp
      obtain ⟨rfl, rfl⟩ := hxy rfl
      clear hod hod' hx hy
      have hplt := (unhide HF) p hpF
      have hplt' := (unhide HG) p' hpG
      have hr := fun (q : Nat) (u : Value) hu => (hI.cell (p := ⟨p, off + j * 10 + q, none⟩) hplt).trans (hrow q u hu)
      have hr' := fun (q : Nat) (u : Value) hu => (hI.cell (p := ⟨p', off' + j * 10 + q, none⟩) hplt').trans (hrow' q u hu)
      have m0 : wr.cell? ⟨p, off + j * 10, none⟩ = some (.string nm) := hr 0 _ rfl
      have m1 : wr.cell? ⟨p, off + j * 10 + 1, none⟩ = some (.int .i64 k1) := hr 1 _ rfl
      have m2 : wr.cell? ⟨p, off + j * 10 + 2, none⟩ = some (.string tx1) := hr 2 _ rfl
      have m3 : wr.cell? ⟨p, off + j * 10 + 3, none⟩ = some (.bool bl1) := hr 3 _ rfl
      have m4 : wr.cell? ⟨p, off + j * 10 + 4, none⟩ = some (.slice ai1 ni1 ci1) := hr 4 _ rfl
      have m5 : wr.cell? ⟨p, off + j * 10 + 5, none⟩ = some (.slice af1 nf1 cf1) := hr 5 _ rfl
      have m6 : wr.cell? ⟨p, off + j * 10 + 6, none⟩ = some (.int .i64 ln1) := hr 6 _ rfl
      have m7 : wr.cell? ⟨p, off + j * 10 + 7, none⟩ = some (.int .i64 co1) := hr 7 _ rfl
      have m8 : wr.cell? ⟨p, off + j * 10 + 8, none⟩ = some (.int .i64 x1) := hr 8 _ rfl
      have m9 : wr.cell? ⟨p, off + j * 10 + 9, none⟩ = some (.int .i64 y1) := hr 9 _ rfl
      have n0 : wr.cell? ⟨p', off' + j * 10, none⟩ = some (.string nm) := hr' 0 _ rfl
      have n1 : wr.cell? ⟨p', off' + j * 10 + 1, none⟩ = some (.int .i64 k2) := hr' 1 _ rfl
      have n2 : wr.cell? ⟨p', off' + j * 10 + 2, none⟩ = some (.string tx2) := hr' 2 _ rfl
      have n3 : wr.cell? ⟨p', off' + j * 10 + 3, none⟩ = some (.bool bl2) := hr' 3 _ rfl
      have n4 : wr.cell? ⟨p', off' + j * 10 + 4, none⟩ = some (.slice ai2 ni2 ci2) := hr' 4 _ rfl
      have n5 : wr.cell? ⟨p', off' + j * 10 + 5, none⟩ = some (.slice af2 nf2 cf2) := hr' 5 _ rfl
      have n6 : wr.cell? ⟨p', off' + j * 10 + 6, none⟩ = some (.int .i64 ln2) := hr' 6 _ rfl
      have n7 : wr.cell? ⟨p', off' + j * 10 + 7, none⟩ = some (.int .i64 co2) := hr' 7 _ rfl
      have n8 : wr.cell? ⟨p', off' + j * 10 + 8, none⟩ = some (.int .i64 x1) := hr' 8 _ rfl
      have n9 : wr.cell? ⟨p', off' + j * 10 + 9, none⟩ = some (.int .i64 y1) := hr' 9 _ rfl
      have hC := hide (fun W (hb : Below w.heap.size w W) => same_t f e1 e2 heq W [Value.int .i64 k1, .string tx1, .bool bl1, .slice ai1 ni1 ci1, .slice af1 nf1 cf1, .int .i64 ln1, .int .i64 co1] [Value.int .i64 k2, .string tx2, .bool bl2, .slice ai2 ni2 ci2, .slice af2 nf2 cf2, .int .i64 ln2, .int .i64 co2] G1 G2 (dt.Ow.agree e1 _ G1 (fun b hb' o => hb.cell (p := ⟨b, o, none⟩) ((unhide HF) b (hGF b hb'))) hov) (dt.Ow.agree e2 _ G2 (fun b hb' o => hb.cell (p := ⟨b, o, none⟩) ((unhide HG) b (hGG b hb'))) hov') (fun b hb' => Nat.lt_of_lt_of_le ((unhide HF) b (hGF b hb')) hb.size) (fun b hb' => Nat.lt_of_lt_of_le ((unhide HG) b (hGG b hb')) hb.size))
      have hq1 : p < wr.heap.size := Nat.lt_of_lt_of_le hplt hI.size
      have hq2 : p' < wr.heap.size := Nat.lt_of_lt_of_le hplt' hI.size
      clear hr hr' hrow hrow' hov hov' heq hdl hdl' hget hget'
      go_wp2_with fail
      have hS0 : Below wr.heap.size wr { wr with drawn := wr.drawn + 1 } := (Below.refl _ _).drew
      have bD := hI.trans (hS0.mono hI.size)
      refine wp_region_noPanic ?_
      refine wp_region_held (S := fun w' => Below wr.heap.size wr w') mixed ?_
      refine wpAnyH_take (i := 0) (v := ?v1) rfl (by kernel_rfl) (by kernel_rfl) (by kernel_rfl) (fun _ _ _ h => h) (Or.inl ⟨by rfl, ?hy1⟩) hS0 ?_
      case hy1 => (intro w' hw'; skip; go_simp; try with_reducible rfl)
      simp only [List.getElem_toArray, List.getElem_cons_zero, List.getElem_cons_succ, Act.put, List.setIfInBounds_toArray, List.set_cons_zero, List.set_cons_succ]
      refine wpAnyH_take (i := 1) (v := ?v2) rfl (by kernel_rfl) (by kernel_rfl) (by kernel_rfl) (fun _ _ _ h => h) (Or.inl ⟨by rfl, ?hy2⟩) hS0 ?_
      case hy2 => (intro w' hw'; skip; go_simp; try with_reducible rfl)
      simp only [List.getElem_toArray, List.getElem_cons_zero, List.getElem_cons_succ, Act.put, List.setIfInBounds_toArray, List.set_cons_zero, List.set_cons_succ]
      refine wpAnyH_take (i := 2) (v := ?v3) rfl (by kernel_rfl) (by kernel_rfl) (by kernel_rfl) (fun _ _ _ h => h) (Or.inl ⟨by rfl, ?hy3⟩) hS0 ?_
      case hy3 => (intro w' hw'; skip; go_simp; try with_reducible rfl)
      simp only [List.getElem_toArray, List.getElem_cons_zero, List.getElem_cons_succ, Act.put, List.setIfInBounds_toArray, List.set_cons_zero, List.set_cons_succ]
      refine wpAnyH_take (i := 3) (v := ?v4) rfl (by kernel_rfl) (by kernel_rfl) (by kernel_rfl) (fun _ _ _ h => h) (Or.inl ⟨by rfl, ?hy4⟩) hS0 ?_
      case hy4 => (intro w' hw'; skip; go_simp; try with_reducible rfl)
      simp only [List.getElem_toArray, List.getElem_cons_zero, List.getElem_cons_succ, Act.put, List.setIfInBounds_toArray, List.set_cons_zero, List.set_cons_succ]
      refine wpAnyH_take (i := 4) (v := ?v5) rfl (by kernel_rfl) (by kernel_rfl) (by kernel_rfl) (fun _ _ _ h => h) (Or.inl ⟨by rfl, ?hy5⟩) hS0 ?_
      case hy5 => (intro w' hw'; have m1' := (hw'.cell (p := ⟨p, off + j * 10 + 1, none⟩) hq1).trans m1; have m2' := (hw'.cell (p := ⟨p, off + j * 10 + 2, none⟩) hq1).trans m2; have m3' := (hw'.cell (p := ⟨p, off + j * 10 + 3, none⟩) hq1).trans m3; have m4' := (hw'.cell (p := ⟨p, off + j * 10 + 4, none⟩) hq1).trans m4; have m5' := (hw'.cell (p := ⟨p, off + j * 10 + 5, none⟩) hq1).trans m5; have m6' := (hw'.cell (p := ⟨p, off + j * 10 + 6, none⟩) hq1).trans m6; have m7' := (hw'.cell (p := ⟨p, off + j * 10 + 7, none⟩) hq1).trans m7; go_simp; try with_reducible rfl)
      simp only [List.getElem_toArray, List.getElem_cons_zero, List.getElem_cons_succ, Act.put, List.setIfInBounds_toArray, List.set_cons_zero, List.set_cons_succ]
      refine wpAnyH_take (i := 5) (v := ?v6) rfl (by kernel_rfl) (by kernel_rfl) (by kernel_rfl) (fun _ _ _ h => h) (Or.inl ⟨by rfl, ?hy6⟩) hS0 ?_
      case hy6 => (intro w' hw'; skip; go_simp; try with_reducible rfl)
      simp only [List.getElem_toArray, List.getElem_cons_zero, List.getElem_cons_succ, Act.put, List.setIfInBounds_toArray, List.set_cons_zero, List.set_cons_succ]
      refine wpAnyH_take (i := 6) (v := ?v7) rfl (by kernel_rfl) (by kernel_rfl) (by kernel_rfl) (fun _ _ _ h => h) (Or.inl ⟨by rfl, ?hy7⟩) hS0 ?_
      case hy7 => (intro w' hw'; skip; go_simp; try with_reducible rfl)
      simp only [List.getElem_toArray, List.getElem_cons_zero, List.getElem_cons_succ, Act.put, List.setIfInBounds_toArray, List.set_cons_zero, List.set_cons_succ]
      refine wpAnyH_take (i := 7) (v := ?v8) rfl (by kernel_rfl) (by kernel_rfl) (by kernel_rfl) (fun _ _ _ h => h) (Or.inl ⟨by rfl, ?hy8⟩) hS0 ?_
      case hy8 => (intro w' hw'; skip; go_simp; try with_reducible rfl)
      simp only [List.getElem_toArray, List.getElem_cons_zero, List.getElem_cons_succ, Act.put, List.setIfInBounds_toArray, List.set_cons_zero, List.set_cons_succ]
      refine wpAnyH_take (i := 8) (v := ?v9) rfl (by kernel_rfl) (by kernel_rfl) (by kernel_rfl) (fun _ _ _ h => h) (Or.inl ⟨by rfl, ?hy9⟩) hS0 ?_
      case hy9 => (intro w' hw'; skip; go_simp; try with_reducible rfl)
      simp only [List.getElem_toArray, List.getElem_cons_zero, List.getElem_cons_succ, Act.put, List.setIfInBounds_toArray, List.set_cons_zero, List.set_cons_succ]
      refine wpAnyH_take (i := 9) (v := ?v10) rfl (by kernel_rfl) (by kernel_rfl) (by kernel_rfl) (fun _ _ _ h => h) (Or.inl ⟨by rfl, ?hy10⟩) hS0 ?_
      case hy10 => (intro w' hw'; have n1' := (hw'.cell (p := ⟨p', off' + j * 10 + 1, none⟩) hq2).trans n1; have n2' := (hw'.cell (p := ⟨p', off' + j * 10 + 2, none⟩) hq2).trans n2; have n3' := (hw'.cell (p := ⟨p', off' + j * 10 + 3, none⟩) hq2).trans n3; have n4' := (hw'.cell (p := ⟨p', off' + j * 10 + 4, none⟩) hq2).trans n4; have n5' := (hw'.cell (p := ⟨p', off' + j * 10 + 5, none⟩) hq2).trans n5; have n6' := (hw'.cell (p := ⟨p', off' + j * 10 + 6, none⟩) hq2).trans n6; have n7' := (hw'.cell (p := ⟨p', off' + j * 10 + 7, none⟩) hq2).trans n7; go_simp; try with_reducible rfl)
      simp only [List.getElem_toArray, List.getElem_cons_zero, List.getElem_cons_succ, Act.put, List.setIfInBounds_toArray, List.set_cons_zero, List.set_cons_succ]
      refine wpAnyH_take (i := 10) (v := ?v11) rfl (by kernel_rfl) (by kernel_rfl) (by kernel_rfl) (fun _ _ _ h => h) (Or.inl ⟨by rfl, ?hy11⟩) hS0 ?_
      case hy11 => (intro w' hw'; skip; go_simp; try with_reducible rfl)
      simp only [List.getElem_toArray, List.getElem_cons_zero, List.getElem_cons_succ, Act.put, List.setIfInBounds_toArray, List.set_cons_zero, List.set_cons_succ]
      refine rgn.one (i := 11) _ rfl (by kernel_rfl) (by rfl) ?_
      simp only [List.getElem_toArray, List.getElem_cons_zero, List.getElem_cons_succ, Act.put, List.setIfInBounds_toArray, List.set_cons_zero, List.set_cons_succ]
      go_wp2_with fail
      refine ((unhide hC) _ bD).mono ?_
      rintro e' w2 ⟨rfl, b2⟩
      have b02 : Below wr.heap.size wr w2 := hS0.trans b2
      refine ⟨b02, ?_⟩
      clear hS0 b2 bD
      have hS0 := b02
      try simp only [List.getElem_toArray, List.getElem_cons_zero, List.getElem_cons_succ, Act.put, List.setIfInBounds_toArray, List.set_cons_zero, List.set_cons_succ]
      refine rgn.take (i := 12) _ (.bool true) rfl (by kernel_rfl) (by kernel_rfl) (by kernel_rfl) (fun _ _ _ h => h) (by rfl) hS0 (fun w' hw' => by go_simp) ?_
      simp only [List.getElem_toArray, List.getElem_cons_zero, List.getElem_cons_succ, Act.put, List.setIfInBounds_toArray, List.set_cons_zero, List.set_cons_succ]
      refine wpAnyH_done (by kernel_rfl) ?_ _; refine NoPanic.normal ?_
      have mNx := (b02.cell (p := ⟨p, off + j * 10, none⟩) hq1).trans m0
      have nNx := (b02.cell (p := ⟨p', off' + j * 10, none⟩) hq2).trans n0
      have m8x := (b02.cell (p := ⟨p, off + j * 10 + 8, none⟩) hq1).trans m8
      have n8x := (b02.cell (p := ⟨p', off' + j * 10 + 8, none⟩) hq2).trans n8
      have m9x := (b02.cell (p := ⟨p, off + j * 10 + 9, none⟩) hq1).trans m9
      have n9x := (b02.cell (p := ⟨p', off' + j * 10 + 9, none⟩) hq2).trans n9
      have hI2 := hI.trans (b02.mono hI.size)
      have g2 : p < w2.heap.size := Nat.lt_of_lt_of_le hq1 b02.size
      have g3 : p' < w2.heap.size := Nat.lt_of_lt_of_le hq2 b02.size
      clear m0 n0 m1 n1 m2 n2 m3 n3 m4 n4 m5 n5 m6 n6 m7 n7 m8 n8 m9 n9 hC hS0
      go_wp2_with fail
      have hS0 : Below w2.heap.size w2 { w2 with drawn := w2.drawn + 1 } := (Below.refl _ _).drew
      refine wp_region_noPanic ?_
      refine wp_region_held (S := fun w' => Below w2.heap.size w2 w') mixed ?_
      refine wpAnyH_take (i := 0) (v := ?v12) rfl (by kernel_rfl) (by kernel_rfl) (by kernel_rfl) (fun _ _ _ h => h) (Or.inl ⟨by rfl, ?hy12⟩) hS0 ?_
      case hy12 => (intro w' hw'; skip; go_simp; try with_reducible rfl)
      simp only [List.getElem_toArray, List.getElem_cons_zero, List.getElem_cons_succ, Act.put, List.setIfInBounds_toArray, List.set_cons_zero, List.set_cons_succ]
      refine wpAnyH_take (i := 1) (v := ?v13) rfl (by kernel_rfl) (by kernel_rfl) (by kernel_rfl) (fun _ _ _ h => h) (Or.inl ⟨by rfl, ?hy13⟩) hS0 ?_
      case hy13 => (intro w' hw'; skip; go_simp; try with_reducible rfl)
      simp only [List.getElem_toArray, List.getElem_cons_zero, List.getElem_cons_succ, Act.put, List.setIfInBounds_toArray, List.set_cons_zero, List.set_cons_succ]
      refine wpAnyH_take (i := 2) (v := ?v14) rfl (by kernel_rfl) (by kernel_rfl) (by kernel_rfl) (fun _ _ _ h => h) (Or.inl ⟨by rfl, ?hy14⟩) hS0 ?_
      case hy14 => (intro w' hw'; skip; go_simp; try with_reducible rfl)
      simp only [List.getElem_toArray, List.getElem_cons_zero, List.getElem_cons_succ, Act.put, List.setIfInBounds_toArray, List.set_cons_zero, List.set_cons_succ]
      refine wpAnyH_take (i := 3) (v := ?v15) rfl (by kernel_rfl) (by kernel_rfl) (by kernel_rfl) (fun _ _ _ h => h) (Or.inl ⟨by rfl, ?hy15⟩) hS0 ?_
      case hy15 => (intro w' hw'; skip; go_simp; try with_reducible rfl)
      simp only [List.getElem_toArray, List.getElem_cons_zero, List.getElem_cons_succ, Act.put, List.setIfInBounds_toArray, List.set_cons_zero, List.set_cons_succ]
      refine wpAnyH_take (i := 4) (v := ?v16) rfl (by kernel_rfl) (by kernel_rfl) (by kernel_rfl) (fun _ _ _ h => h) (Or.inl ⟨by rfl, ?hy16⟩) hS0 ?_
      case hy16 => (intro w' hw'; skip; go_simp; try with_reducible rfl)
      simp only [List.getElem_toArray, List.getElem_cons_zero, List.getElem_cons_succ, Act.put, List.setIfInBounds_toArray, List.set_cons_zero, List.set_cons_succ]
      refine wpAnyH_take (i := 5) (v := ?v17) rfl (by kernel_rfl) (by kernel_rfl) (by kernel_rfl) (fun _ _ _ h => h) (Or.inl ⟨by rfl, ?hy17⟩) hS0 ?_
      case hy17 => (intro w' hw'; skip; go_simp; try with_reducible rfl)
      simp only [List.getElem_toArray, List.getElem_cons_zero, List.getElem_cons_succ, Act.put, List.setIfInBounds_toArray, List.set_cons_zero, List.set_cons_succ]
      refine wpAnyH_take (i := 6) (v := ?v18) rfl (by kernel_rfl) (by kernel_rfl) (by kernel_rfl) (fun _ _ _ h => h) (Or.inl ⟨by rfl, ?hy18⟩) hS0 ?_
      case hy18 => (intro w' hw'; skip; go_simp; try with_reducible rfl)
      simp only [List.getElem_toArray, List.getElem_cons_zero, List.getElem_cons_succ, Act.put, List.setIfInBounds_toArray, List.set_cons_zero, List.set_cons_succ]
      refine wpAnyH_take (i := 7) (v := ?v19) rfl (by kernel_rfl) (by kernel_rfl) (by kernel_rfl) (fun _ _ _ h => h) (Or.inl ⟨by rfl, ?hy19⟩) hS0 ?_
      case hy19 => (intro w' hw'; have mN' := (hw'.cell (p := ⟨p, off + j * 10, none⟩) g2).trans mNx; go_simp; try with_reducible rfl)
      simp only [List.getElem_toArray, List.getElem_cons_zero, List.getElem_cons_succ, Act.put, List.setIfInBounds_toArray, List.set_cons_zero, List.set_cons_succ]
      refine wpAnyH_take (i := 8) (v := ?v20) rfl (by kernel_rfl) (by kernel_rfl) (by kernel_rfl) (fun _ _ _ h => h) (Or.inl ⟨by rfl, ?hy20⟩) hS0 ?_
      case hy20 => (intro w' hw'; skip; go_simp; try with_reducible rfl)
      simp only [List.getElem_toArray, List.getElem_cons_zero, List.getElem_cons_succ, Act.put, List.setIfInBounds_toArray, List.set_cons_zero, List.set_cons_succ]
      refine wpAnyH_take (i := 9) (v := ?v21) rfl (by kernel_rfl) (by kernel_rfl) (by kernel_rfl) (fun _ _ _ h => h) (Or.inl ⟨by rfl, ?hy21⟩) hS0 ?_
      case hy21 => (intro w' hw'; skip; go_simp; try with_reducible rfl)
      simp only [List.getElem_toArray, List.getElem_cons_zero, List.getElem_cons_succ, Act.put, List.setIfInBounds_toArray, List.set_cons_zero, List.set_cons_succ]
      refine wpAnyH_take (i := 10) (v := ?v22) rfl (by kernel_rfl) (by kernel_rfl) (by kernel_rfl) (fun _ _ _ h => h) (Or.inl ⟨by rfl, ?hy22⟩) hS0 ?_
      case hy22 => (intro w' hw'; skip; go_simp; try with_reducible rfl)
      simp only [List.getElem_toArray, List.getElem_cons_zero, List.getElem_cons_succ, Act.put, List.setIfInBounds_toArray, List.set_cons_zero, List.set_cons_succ]
      refine wpAnyH_take (i := 11) (v := ?v23) rfl (by kernel_rfl) (by kernel_rfl) (by kernel_rfl) (fun _ _ _ h => h) (Or.inl ⟨by rfl, ?hy23⟩) hS0 ?_
      case hy23 => (intro w' hw'; skip; go_simp; try with_reducible rfl)
      simp only [List.getElem_toArray, List.getElem_cons_zero, List.getElem_cons_succ, Act.put, List.setIfInBounds_toArray, List.set_cons_zero, List.set_cons_succ]
      refine wpAnyH_take (i := 12) (v := ?v24) rfl (by kernel_rfl) (by kernel_rfl) (by kernel_rfl) (fun _ _ _ h => h) (Or.inl ⟨by rfl, ?hy24⟩) hS0 ?_
      case hy24 => (intro w' hw'; have nN' := (hw'.cell (p := ⟨p', off' + j * 10, none⟩) g3).trans nNx; go_simp; try with_reducible rfl)
      simp only [List.getElem_toArray, List.getElem_cons_zero, List.getElem_cons_succ, Act.put, List.setIfInBounds_toArray, List.set_cons_zero, List.set_cons_succ]
      refine wpAnyH_take (i := 13) (v := ?v25) rfl (by kernel_rfl) (by kernel_rfl) (by kernel_rfl) (fun _ _ _ h => h) (Or.inl ⟨by rfl, ?hy25⟩) hS0 ?_
      case hy25 => (intro w' hw'; skip; go_simp; try with_reducible rfl)
      simp only [List.getElem_toArray, List.getElem_cons_zero, List.getElem_cons_succ, Act.put, List.setIfInBounds_toArray, List.set_cons_zero, List.set_cons_succ]
      refine wpAnyH_take (i := 14) (v := ?v26) rfl (by kernel_rfl) (by kernel_rfl) (by kernel_rfl) (fun _ _ _ h => h) (Or.inl ⟨by rfl, ?hy26⟩) hS0 ?_
      case hy26 => (intro w' hw'; skip; go_simp; try with_reducible rfl)
      simp only [List.getElem_toArray, List.getElem_cons_zero, List.getElem_cons_succ, Act.put, List.setIfInBounds_toArray, List.set_cons_zero, List.set_cons_succ]
      refine wpAnyH_take (i := 15) (v := ?v27) rfl (by kernel_rfl) (by kernel_rfl) (by kernel_rfl) (fun _ _ _ h => h) (Or.inl ⟨by rfl, ?hy27⟩) hS0 ?_
      case hy27 => (intro w' hw'; skip; go_simp; try with_reducible rfl)
      simp only [List.getElem_toArray, List.getElem_cons_zero, List.getElem_cons_succ, Act.put, List.setIfInBounds_toArray, List.set_cons_zero, List.set_cons_succ]
      refine wpAnyH_take (i := 16) (v := ?v28) rfl (by kernel_rfl) (by kernel_rfl) (by kernel_rfl) (fun _ _ _ h => h) (Or.inl ⟨by rfl, ?hy28⟩) hS0 ?_
      case hy28 => (intro w' hw'; skip; go_simp; try with_reducible rfl)
      simp only [List.getElem_toArray, List.getElem_cons_zero, List.getElem_cons_succ, Act.put, List.setIfInBounds_toArray, List.set_cons_zero, List.set_cons_succ]
      refine wpAnyH_take (i := 17) (v := ?v29) rfl (by kernel_rfl) (by kernel_rfl) (by kernel_rfl) (fun _ _ _ h => h) (Or.inl ⟨by rfl, ?hy29⟩) hS0 ?_
      case hy29 => (intro w' hw'; skip; go_simp; try with_reducible rfl)
      simp only [List.getElem_toArray, List.getElem_cons_zero, List.getElem_cons_succ, Act.put, List.setIfInBounds_toArray, List.set_cons_zero, List.set_cons_succ]
      refine wpAnyH_take (i := 18) (v := ?v30) rfl (by kernel_rfl) (by kernel_rfl) (by kernel_rfl) (fun _ _ _ h => h) (Or.inl ⟨by rfl, ?hy30⟩) hS0 ?_
      case hy30 => (intro w' hw'; skip; go_simp; try with_reducible rfl)
      simp only [List.getElem_toArray, List.getElem_cons_zero, List.getElem_cons_succ, Act.put, List.setIfInBounds_toArray, List.set_cons_zero, List.set_cons_succ]
      refine wpAnyH_take (i := 19) (v := ?v31) rfl (by kernel_rfl) (by kernel_rfl) (by kernel_rfl) (fun _ _ _ h => h) (Or.inl ⟨by rfl, ?hy31⟩) hS0 ?_
      case hy31 => (intro w' hw'; skip; go_simp; try with_reducible rfl)
      simp only [List.getElem_toArray, List.getElem_cons_zero, List.getElem_cons_succ, Act.put, List.setIfInBounds_toArray, List.set_cons_zero, List.set_cons_succ]
      refine wpAnyH_take (i := 20) (v := ?v32) rfl (by kernel_rfl) (by kernel_rfl) (by kernel_rfl) (fun _ _ _ h => h) (Or.inl ⟨by rfl, ?hy32⟩) hS0 ?_
      case hy32 => (intro w' hw'; skip; go_simp; try with_reducible rfl)
      simp only [List.getElem_toArray, List.getElem_cons_zero, List.getElem_cons_succ, Act.put, List.setIfInBounds_toArray, List.set_cons_zero, List.set_cons_succ]
      refine wpAnyH_take (i := 21) (v := ?v33) rfl (by kernel_rfl) (by kernel_rfl) (by kernel_rfl) (fun _ _ _ h => h) (Or.inl ⟨by rfl, ?hy33⟩) hS0 ?_
      case hy33 => (intro w' hw'; skip; go_simp; try with_reducible rfl)
      simp only [List.getElem_toArray, List.getElem_cons_zero, List.getElem_cons_succ, Act.put, List.setIfInBounds_toArray, List.set_cons_zero, List.set_cons_succ]
      refine wpAnyH_take (i := 22) (v := ?v34) rfl (by kernel_rfl) (by kernel_rfl) (by kernel_rfl) (fun _ _ _ h => h) (Or.inl ⟨by rfl, ?hy34⟩) hS0 ?_
      case hy34 => (intro w' hw'; have m8' := (hw'.cell (p := ⟨p, off + j * 10 + 8, none⟩) g2).trans m8x; have m9' := (hw'.cell (p := ⟨p, off + j * 10 + 9, none⟩) g2).trans m9x; go_simp; try with_reducible rfl)
      simp only [List.getElem_toArray, List.getElem_cons_zero, List.getElem_cons_succ, Act.put, List.setIfInBounds_toArray, List.set_cons_zero, List.set_cons_succ]
      refine wpAnyH_take (i := 23) (v := ?v35) rfl (by kernel_rfl) (by kernel_rfl) (by kernel_rfl) (fun _ _ _ h => h) (Or.inl ⟨by rfl, ?hy35⟩) hS0 ?_
      case hy35 => (intro w' hw'; skip; go_simp; try with_reducible rfl)
      simp only [List.getElem_toArray, List.getElem_cons_zero, List.getElem_cons_succ, Act.put, List.setIfInBounds_toArray, List.set_cons_zero, List.set_cons_succ]
      refine wpAnyH_take (i := 24) (v := ?v36) rfl (by kernel_rfl) (by kernel_rfl) (by kernel_rfl) (fun _ _ _ h => h) (Or.inl ⟨by rfl, ?hy36⟩) hS0 ?_
      case hy36 => (intro w' hw'; skip; go_simp; try with_reducible rfl)
      simp only [List.getElem_toArray, List.getElem_cons_zero, List.getElem_cons_succ, Act.put, List.setIfInBounds_toArray, List.set_cons_zero, List.set_cons_succ]
      refine wpAnyH_take (i := 25) (v := ?v37) rfl (by kernel_rfl) (by kernel_rfl) (by kernel_rfl) (fun _ _ _ h => h) (Or.inl ⟨by rfl, ?hy37⟩) hS0 ?_
      case hy37 => (intro w' hw'; skip; go_simp; try with_reducible rfl)
      simp only [List.getElem_toArray, List.getElem_cons_zero, List.getElem_cons_succ, Act.put, List.setIfInBounds_toArray, List.set_cons_zero, List.set_cons_succ]
      refine wpAnyH_take (i := 26) (v := ?v38) rfl (by kernel_rfl) (by kernel_rfl) (by kernel_rfl) (fun _ _ _ h => h) (Or.inl ⟨by rfl, ?hy38⟩) hS0 ?_
      case hy38 => (intro w' hw'; skip; go_simp; try with_reducible rfl)
      simp only [List.getElem_toArray, List.getElem_cons_zero, List.getElem_cons_succ, Act.put, List.setIfInBounds_toArray, List.set_cons_zero, List.set_cons_succ]
      refine wpAnyH_take (i := 27) (v := ?v39) rfl (by kernel_rfl) (by kernel_rfl) (by kernel_rfl) (fun _ _ _ h => h) (Or.inl ⟨by rfl, ?hy39⟩) hS0 ?_
      case hy39 => (intro w' hw'; have n8' := (hw'.cell (p := ⟨p', off' + j * 10 + 8, none⟩) g3).trans n8x; have n9' := (hw'.cell (p := ⟨p', off' + j * 10 + 9, none⟩) g3).trans n9x; go_simp; try with_reducible rfl)
      simp only [List.getElem_toArray, List.getElem_cons_zero, List.getElem_cons_succ, Act.put, List.setIfInBounds_toArray, List.set_cons_zero, List.set_cons_succ]
      refine wpAnyH_take (i := 28) (v := ?v40) rfl (by kernel_rfl) (by kernel_rfl) (by kernel_rfl) (fun _ _ _ h => h) (Or.inl ⟨by rfl, ?hy40⟩) hS0 ?_
      case hy40 => (intro w' hw'; skip; go_simp; try with_reducible rfl)
      simp only [List.getElem_toArray, List.getElem_cons_zero, List.getElem_cons_succ, Act.put, List.setIfInBounds_toArray, List.set_cons_zero, List.set_cons_succ]
      refine wpAnyH_take (i := 29) (v := ?v41) rfl (by kernel_rfl) (by kernel_rfl) (by kernel_rfl) (fun _ _ _ h => h) (Or.inl ⟨by rfl, ?hy41⟩) hS0 ?_
      case hy41 => (intro w' hw'; skip; go_simp; try with_reducible rfl)
      simp only [List.getElem_toArray, List.getElem_cons_zero, List.getElem_cons_succ, Act.put, List.setIfInBounds_toArray, List.set_cons_zero, List.set_cons_succ]
      refine wpAnyH_take (i := 30) (v := ?v42) rfl (by kernel_rfl) (by kernel_rfl) (by kernel_rfl) (fun _ _ _ h => h) (Or.inl ⟨by rfl, ?hy42⟩) hS0 ?_
      case hy42 => (intro w' hw'; skip; go_simp; try with_reducible rfl)
      simp only [List.getElem_toArray, List.getElem_cons_zero, List.getElem_cons_succ, Act.put, List.setIfInBounds_toArray, List.set_cons_zero, List.set_cons_succ]
      refine wpAnyH_done (by kernel_rfl) ?_ _; refine NoPanic.normal ?_
      go_wp2_with fail
      go_roundw
      case rel => exact ⟨j + 1, by omega, by go_num, hI2.trans (hS0.mono hI2.size)⟩
      case measure => first | (simp [intOf]; omega) | simp [intOf]
    · have ji : ¬ (j : Int) < (n : Int) := by omega
      have hI9 := hide hI
      clear hlt
      go_wp2_with fail
      go_ret
      exact ⟨rfl, unhide hI9⟩
end Go.Proofs.YtcebeajjpcbgcaaGreat.cu
namespace Go.Proofs.YtcebeajjpcbgcaaGreat.cu
open Go.ChangeShapes Go.WideShapes Go.ChangeAt Go.RowKit
open ints (hide unhide)
open dt (Dt Kp RowAt Ow Grow OwIn)
open mem (Row)
set_option linter.unusedVariables false
set_option linter.unusedSimpArgs false
set_option maxHeartbeats 8000000 in
set_option maxRecDepth 4000 in
theorem dirs_t (f : Nat) (l l' : List Dt) (h : EqLs (EqR true f) l l') : SmLs 23 true 4 l l' := by
  intro w a a' c c' F G hl hl' hF hG hc hc' hm hm'
  obtain ⟨hlen, hel⟩ := h
  have HEL := hide hel
  have HL := hide hl
  have HL' := hide hl'
  have HF := hide hF
  have HG := hide hG
  obtain ⟨n, hn⟩ : ∃ n, n = l.length := ⟨_, rfl⟩
  have hn' : n = l'.length := hn.trans hlen
  rw [← hn] at hc ⊢
  rw [← hn'] at hc' ⊢
  have Hn := hide (And.intro hn hn')
  clear hel hl hl' hF hG hn hn' hlen
  unfold maxLen at hm hm'
  go_enter Tryz.func23, Tryz.ntmps23
  go_wp2_with fail
  go_loopw [7] (fun i wr => ∃ j : Nat, j ≤ n ∧ i = .int .i64 j ∧ Below w.heap.size w wr) (fun i _ => n - (intOf i).toNat)
  case atStart => exact ⟨0, Nat.zero_le _, rfl, Below.refl _ _⟩
  case round =>
    obtain ⟨j, hj, rfl, hI⟩ := hrel
    by_cases hlt : j < n
    · have ji : (j : Int) < (n : Int) := by omega
      have hlt1 : j < l.length := by have := unhide Hn; omega
      have hlt2 : j < l'.length := by have := unhide Hn; omega
      obtain ⟨p, off, rfl, hpF, hget⟩ := (unhide HL).resolve_left (fun h0 => by rw [h0] at hlt1; exact absurd hlt1 (Nat.not_lt_zero _))
      obtain ⟨p', off', rfl, hpG, hget'⟩ := (unhide HL').resolve_left (fun h0 => by rw [h0] at hlt2; exact absurd hlt2 (Nat.not_lt_zero _))
      obtain ⟨ds, G1, hrow, hdl, hod, hGF⟩ := hget j _ (List.getElem?_eq_getElem hlt1)
      obtain ⟨ds', G2, hrow', hdl', hod', hGG⟩ := hget' j _ (List.getElem?_eq_getElem hlt2)
      obtain ⟨nm, l1, l2, x1, y1, x2, y2, hx, hy, hxy, heq⟩ := (unhide HEL) j _ _ (List.getElem?_eq_getElem hlt1) (List.getElem?_eq_getElem hlt2)
      rw [hx] at hod
      rw [hy] at hod'
      obtain ⟨a1, c1, rfl, u1, u2, hov⟩ := dir_cells hod
      obtain ⟨a2, c2, rfl, u3, u4, hov'⟩ := dir_cells hod'
      obtain ⟨rfl, rfl⟩ := hxy rfl
      have HU := hide (And.intro (And.intro u1 u2) (And.intro u3 u4))
      obtain ⟨n1, hn1⟩ : ∃ n1, n1 = l1.length := ⟨_, rfl⟩
      obtain ⟨n2, hn2⟩ : ∃ n2, n2 = l2.length := ⟨_, rfl⟩
      clear hod hod' hx hy u1 u2 u3 u4
      have hplt := (unhide HF) p hpF
      have hplt' := (unhide HG) p' hpG
      have hC := (fun W (hb : Below w.heap.size w W) => args_t f l1 l2 heq W a1 a2 c1 c2 G1 G2 (hov.below (fun b hb' => (unhide HF) b (hGF b hb')) hb) (hov'.below (fun b hb' => (unhide HG) b (hGG b hb')) hb) (fun b hb' => Nat.lt_of_lt_of_le ((unhide HF) b (hGF b hb')) hb.size) (fun b hb' => Nat.lt_of_lt_of_le ((unhide HG) b (hGG b hb')) hb.size) (unhide HU).1.1 (unhide HU).2.1 (unhide HU).1.2 (unhide HU).2.2)
      rw [← hn1, ← hn2] at hC
      rw [← hn1] at hrow
      rw [← hn2] at hrow'
      replace hC := hide hC
      clear hn1 hn2
      have hr := fun (q : Nat) (u : Value) hu => (hI.cell (p := ⟨p, off + j * 4 + q, none⟩) hplt).trans (hrow q u hu)
      have hr' := fun (q : Nat) (u : Value) hu => (hI.cell (p := ⟨p', off' + j * 4 + q, none⟩) hplt').trans (hrow' q u hu)
      have m0 : wr.cell? ⟨p, off + j * 4, none⟩ = some (.string nm) := hr 0 _ rfl
      have m1 : wr.cell? ⟨p, off + j * 4 + 1, none⟩ = some (.slice a1 n1 c1) := hr 1 _ rfl
      have m2 : wr.cell? ⟨p, off + j * 4 + 2, none⟩ = some (.int .i64 x1) := hr 2 _ rfl
      have m3 : wr.cell? ⟨p, off + j * 4 + 3, none⟩ = some (.int .i64 y1) := hr 3 _ rfl
      have n0 : wr.cell? ⟨p', off' + j * 4, none⟩ = some (.string nm) := hr' 0 _ rfl
      have n1 : wr.cell? ⟨p', off' + j * 4 + 1, none⟩ = some (.slice a2 n2 c2) := hr' 1 _ rfl
      have n2 : wr.cell? ⟨p', off' + j * 4 + 2, none⟩ = some (.int .i64 x1) := hr' 2 _ rfl
      have n3 : wr.cell? ⟨p', off' + j * 4 + 3, none⟩ = some (.int .i64 y1) := hr' 3 _ rfl
      have hq1 : p < wr.heap.size := Nat.lt_of_lt_of_le hplt hI.size
      have hq2 : p' < wr.heap.size := Nat.lt_of_lt_of_le hplt' hI.size
      clear hr hr' hrow hrow' hov hov' heq hdl hdl' hget hget'
      go_wp2_with fail
      have hS0 : Below wr.heap.size wr { wr with drawn := wr.drawn + 1 } := (Below.refl _ _).drew
      have bD := hI.trans (hS0.mono hI.size)
      refine wp_region_noPanic ?_
      refine wp_region_held (S := fun w' => Below wr.heap.size wr w') mixed ?_
      refine wpAnyH_take (i := 0) (v := ?v1) rfl (by kernel_rfl) (by kernel_rfl) (by kernel_rfl) (fun _ _ _ h => h) (Or.inl ⟨by rfl, ?hy1⟩) hS0 ?_
      case hy1 => (intro w' hw'; skip; go_simp; try with_reducible rfl)
      simp only [List.getElem_toArray, List.getElem_cons_zero, List.getElem_cons_succ, Act.put, List.setIfInBounds_toArray, List.set_cons_zero, List.set_cons_succ]
      refine wpAnyH_take (i := 1) (v := ?v2) rfl (by kernel_rfl) (by kernel_rfl) (by kernel_rfl) (fun _ _ _ h => h) (Or.inl ⟨by rfl, ?hy2⟩) hS0 ?_
      case hy2 => (intro w' hw'; skip; go_simp; try with_reducible rfl)
      simp only [List.getElem_toArray, List.getElem_cons_zero, List.getElem_cons_succ, Act.put, List.setIfInBounds_toArray, List.set_cons_zero, List.set_cons_succ]
      refine wpAnyH_take (i := 2) (v := ?v3) rfl (by kernel_rfl) (by kernel_rfl) (by kernel_rfl) (fun _ _ _ h => h) (Or.inl ⟨by rfl, ?hy3⟩) hS0 ?_
      case hy3 => (intro w' hw'; skip; go_simp; try with_reducible rfl)
      simp only [List.getElem_toArray, List.getElem_cons_zero, List.getElem_cons_succ, Act.put, List.setIfInBounds_toArray, List.set_cons_zero, List.set_cons_succ]
      refine wpAnyH_take (i := 3) (v := ?v4) rfl (by kernel_rfl) (by kernel_rfl) (by kernel_rfl) (fun _ _ _ h => h) (Or.inl ⟨by rfl, ?hy4⟩) hS0 ?_
      case hy4 => (intro w' hw'; skip; go_simp; try with_reducible rfl)
      simp only [List.getElem_toArray, List.getElem_cons_zero, List.getElem_cons_succ, Act.put, List.setIfInBounds_toArray, List.set_cons_zero, List.set_cons_succ]
      refine wpAnyH_take (i := 4) (v := ?v5) rfl (by kernel_rfl) (by kernel_rfl) (by kernel_rfl) (fun _ _ _ h => h) (Or.inl ⟨by rfl, ?hy5⟩) hS0 ?_
      case hy5 => (intro w' hw'; have m1' := (hw'.cell (p := ⟨p, off + j * 4 + 1, none⟩) hq1).trans m1; go_simp; try with_reducible rfl)
      simp only [List.getElem_toArray, List.getElem_cons_zero, List.getElem_cons_succ, Act.put, List.setIfInBounds_toArray, List.set_cons_zero, List.set_cons_succ]
      refine wpAnyH_take (i := 5) (v := ?v6) rfl (by kernel_rfl) (by kernel_rfl) (by kernel_rfl) (fun _ _ _ h => h) (Or.inl ⟨by rfl, ?hy6⟩) hS0 ?_
      case hy6 => (intro w' hw'; skip; go_simp; try with_reducible rfl)
      simp only [List.getElem_toArray, List.getElem_cons_zero, List.getElem_cons_succ, Act.put, List.setIfInBounds_toArray, List.set_cons_zero, List.set_cons_succ]
      refine wpAnyH_take (i := 6) (v := ?v7) rfl (by kernel_rfl) (by kernel_rfl) (by kernel_rfl) (fun _ _ _ h => h) (Or.inl ⟨by rfl, ?hy7⟩) hS0 ?_
      case hy7 => (intro w' hw'; skip; go_simp; try with_reducible rfl)
      simp only [List.getElem_toArray, List.getElem_cons_zero, List.getElem_cons_succ, Act.put, List.setIfInBounds_toArray, List.set_cons_zero, List.set_cons_succ]
      refine wpAnyH_take (i := 7) (v := ?v8) rfl (by kernel_rfl) (by kernel_rfl) (by kernel_rfl) (fun _ _ _ h => h) (Or.inl ⟨by rfl, ?hy8⟩) hS0 ?_
      case hy8 => (intro w' hw'; skip; go_simp; try with_reducible rfl)
      simp only [List.getElem_toArray, List.getElem_cons_zero, List.getElem_cons_succ, Act.put, List.setIfInBounds_toArray, List.set_cons_zero, List.set_cons_succ]
      refine wpAnyH_take (i := 8) (v := ?v9) rfl (by kernel_rfl) (by kernel_rfl) (by kernel_rfl) (fun _ _ _ h => h) (Or.inl ⟨by rfl, ?hy9⟩) hS0 ?_
      case hy9 => (intro w' hw'; skip; go_simp; try with_reducible rfl)
      simp only [List.getElem_toArray, List.getElem_cons_zero, List.getElem_cons_succ, Act.put, List.setIfInBounds_toArray, List.set_cons_zero, List.set_cons_succ]
      refine wpAnyH_take (i := 9) (v := ?v10) rfl (by kernel_rfl) (by kernel_rfl) (by kernel_rfl) (fun _ _ _ h => h) (Or.inl ⟨by rfl, ?hy10⟩) hS0 ?_
      case hy10 => (intro w' hw'; have n1' := (hw'.cell (p := ⟨p', off' + j * 4 + 1, none⟩) hq2).trans n1; go_simp; try with_reducible rfl)
      simp only [List.getElem_toArray, List.getElem_cons_zero, List.getElem_cons_succ, Act.put, List.setIfInBounds_toArray, List.set_cons_zero, List.set_cons_succ]
      refine wpAnyH_take (i := 10) (v := ?v11) rfl (by kernel_rfl) (by kernel_rfl) (by kernel_rfl) (fun _ _ _ h => h) (Or.inl ⟨by rfl, ?hy11⟩) hS0 ?_
      case hy11 => (intro w' hw'; skip; go_simp; try with_reducible rfl)
      simp only [List.getElem_toArray, List.getElem_cons_zero, List.getElem_cons_succ, Act.put, List.setIfInBounds_toArray, List.set_cons_zero, List.set_cons_succ]
      refine rgn.one (i := 11) _ rfl (by kernel_rfl) (by rfl) ?_
      simp only [List.getElem_toArray, List.getElem_cons_zero, List.getElem_cons_succ, Act.put, List.setIfInBounds_toArray, List.set_cons_zero, List.set_cons_succ]
      go_wp2_with fail
      refine ((unhide hC) _ bD).mono ?_
      rintro e' w2 ⟨rfl, b2⟩
      have b02 : Below wr.heap.size wr w2 := hS0.trans b2
      refine ⟨b02, ?_⟩
      clear hS0 b2 bD
      have hS0 := b02
      try simp only [List.getElem_toArray, List.getElem_cons_zero, List.getElem_cons_succ, Act.put, List.setIfInBounds_toArray, List.set_cons_zero, List.set_cons_succ]
      refine rgn.take (i := 12) _ (.bool true) rfl (by kernel_rfl) (by kernel_rfl) (by kernel_rfl) (fun _ _ _ h => h) (by rfl) hS0 (fun w' hw' => by go_simp) ?_
      simp only [List.getElem_toArray, List.getElem_cons_zero, List.getElem_cons_succ, Act.put, List.setIfInBounds_toArray, List.set_cons_zero, List.set_cons_succ]
      refine wpAnyH_done (by kernel_rfl) ?_ _; refine NoPanic.normal ?_
      have mNx := (b02.cell (p := ⟨p, off + j * 4, none⟩) hq1).trans m0
      have nNx := (b02.cell (p := ⟨p', off' + j * 4, none⟩) hq2).trans n0
      have m8x := (b02.cell (p := ⟨p, off + j * 4 + 2, none⟩) hq1).trans m2
      have n8x := (b02.cell (p := ⟨p', off' + j * 4 + 2, none⟩) hq2).trans n2
      have m9x := (b02.cell (p := ⟨p, off + j * 4 + 3, none⟩) hq1).trans m3
      have n9x := (b02.cell (p := ⟨p', off' + j * 4 + 3, none⟩) hq2).trans n3
      have hI2 := hI.trans (b02.mono hI.size)
      have g2 : p < w2.heap.size := Nat.lt_of_lt_of_le hq1 b02.size
      have g3 : p' < w2.heap.size := Nat.lt_of_lt_of_le hq2 b02.size
      clear m0 n0 m1 n1 m2 n2 m3 n3 hC hS0
      go_wp2_with fail
      have hS0 : Below w2.heap.size w2 { w2 with drawn := w2.drawn + 1 } := (Below.refl _ _).drew
      refine wp_region_noPanic ?_
      refine wp_region_held (S := fun w' => Below w2.heap.size w2 w') mixed ?_
      refine wpAnyH_take (i := 0) (v := ?v12) rfl (by kernel_rfl) (by kernel_rfl) (by kernel_rfl) (fun _ _ _ h => h) (Or.inl ⟨by rfl, ?hy12⟩) hS0 ?_
      case hy12 => (intro w' hw'; skip; go_simp; try with_reducible rfl)
      simp only [List.getElem_toArray, List.getElem_cons_zero, List.getElem_cons_succ, Act.put, List.setIfInBounds_toArray, List.set_cons_zero, List.set_cons_succ]
      refine wpAnyH_take (i := 1) (v := ?v13) rfl (by kernel_rfl) (by kernel_rfl) (by kernel_rfl) (fun _ _ _ h => h) (Or.inl ⟨by rfl, ?hy13⟩) hS0 ?_
      case hy13 => (intro w' hw'; skip; go_simp; try with_reducible rfl)
      simp only [List.getElem_toArray, List.getElem_cons_zero, List.getElem_cons_succ, Act.put, List.setIfInBounds_toArray, List.set_cons_zero, List.set_cons_succ]
      refine wpAnyH_take (i := 2) (v := ?v14) rfl (by kernel_rfl) (by kernel_rfl) (by kernel_rfl) (fun _ _ _ h => h) (Or.inl ⟨by rfl, ?hy14⟩) hS0 ?_
      case hy14 => (intro w' hw'; skip; go_simp; try with_reducible rfl)
      simp only [List.getElem_toArray, List.getElem_cons_zero, List.getElem_cons_succ, Act.put, List.setIfInBounds_toArray, List.set_cons_zero, List.set_cons_succ]
      refine wpAnyH_take (i := 3) (v := ?v15) rfl (by kernel_rfl) (by kernel_rfl) (by kernel_rfl) (fun _ _ _ h => h) (Or.inl ⟨by rfl, ?hy15⟩) hS0 ?_
      case hy15 => (intro w' hw'; skip; go_simp; try with_reducible rfl)
      simp only [List.getElem_toArray, List.getElem_cons_zero, List.getElem_cons_succ, Act.put, List.setIfInBounds_toArray, List.set_cons_zero, List.set_cons_succ]
      refine wpAnyH_take (i := 4) (v := ?v16) rfl (by kernel_rfl) (by kernel_rfl) (by kernel_rfl) (fun _ _ _ h => h) (Or.inl ⟨by rfl, ?hy16⟩) hS0 ?_
      case hy16 => (intro w' hw'; skip; go_simp; try with_reducible rfl)
      simp only [List.getElem_toArray, List.getElem_cons_zero, List.getElem_cons_succ, Act.put, List.setIfInBounds_toArray, List.set_cons_zero, List.set_cons_succ]
      refine wpAnyH_take (i := 5) (v := ?v17) rfl (by kernel_rfl) (by kernel_rfl) (by kernel_rfl) (fun _ _ _ h => h) (Or.inl ⟨by rfl, ?hy17⟩) hS0 ?_
      case hy17 => (intro w' hw'; skip; go_simp; try with_reducible rfl)
      simp only [List.getElem_toArray, List.getElem_cons_zero, List.getElem_cons_succ, Act.put, List.setIfInBounds_toArray, List.set_cons_zero, List.set_cons_succ]
      refine wpAnyH_take (i := 6) (v := ?v18) rfl (by kernel_rfl) (by kernel_rfl) (by kernel_rfl) (fun _ _ _ h => h) (Or.inl ⟨by rfl, ?hy18⟩) hS0 ?_
      case hy18 => (intro w' hw'; skip; go_simp; try with_reducible rfl)
      simp only [List.getElem_toArray, List.getElem_cons_zero, List.getElem_cons_succ, Act.put, List.setIfInBounds_toArray, List.set_cons_zero, List.set_cons_succ]
      refine wpAnyH_take (i := 7) (v := ?v19) rfl (by kernel_rfl) (by kernel_rfl) (by kernel_rfl) (fun _ _ _ h => h) (Or.inl ⟨by rfl, ?hy19⟩) hS0 ?_
      case hy19 => (intro w' hw'; have mN' := (hw'.cell (p := ⟨p, off + j * 4, none⟩) g2).trans mNx; go_simp; try with_reducible rfl)
      simp only [List.getElem_toArray, List.getElem_cons_zero, List.getElem_cons_succ, Act.put, List.setIfInBounds_toArray, List.set_cons_zero, List.set_cons_succ]
      refine wpAnyH_take (i := 8) (v := ?v20) rfl (by kernel_rfl) (by kernel_rfl) (by kernel_rfl) (fun _ _ _ h => h) (Or.inl ⟨by rfl, ?hy20⟩) hS0 ?_
      case hy20 => (intro w' hw'; skip; go_simp; try with_reducible rfl)
      simp only [List.getElem_toArray, List.getElem_cons_zero, List.getElem_cons_succ, Act.put, List.setIfInBounds_toArray, List.set_cons_zero, List.set_cons_succ]
      refine wpAnyH_take (i := 9) (v := ?v21) rfl (by kernel_rfl) (by kernel_rfl) (by kernel_rfl) (fun _ _ _ h => h) (Or.inl ⟨by rfl, ?hy21⟩) hS0 ?_
      case hy21 => (intro w' hw'; skip; go_simp; try with_reducible rfl)
      simp only [List.getElem_toArray, List.getElem_cons_zero, List.getElem_cons_succ, Act.put, List.setIfInBounds_toArray, List.set_cons_zero, List.set_cons_succ]
      refine wpAnyH_take (i := 10) (v := ?v22) rfl (by kernel_rfl) (by kernel_rfl) (by kernel_rfl) (fun _ _ _ h => h) (Or.inl ⟨by rfl, ?hy22⟩) hS0 ?_
      case hy22 => (intro w' hw'; skip; go_simp; try with_reducible rfl)
      simp only [List.getElem_toArray, List.getElem_cons_zero, List.getElem_cons_succ, Act.put, List.setIfInBounds_toArray, List.set_cons_zero, List.set_cons_succ]
      refine wpAnyH_take (i := 11) (v := ?v23) rfl (by kernel_rfl) (by kernel_rfl) (by kernel_rfl) (fun _ _ _ h => h) (Or.inl ⟨by rfl, ?hy23⟩) hS0 ?_
      case hy23 => (intro w' hw'; skip; go_simp; try with_reducible rfl)
      simp only [List.getElem_toArray, List.getElem_cons_zero, List.getElem_cons_succ, Act.put, List.setIfInBounds_toArray, List.set_cons_zero, List.set_cons_succ]
      refine wpAnyH_take (i := 12) (v := ?v24) rfl (by kernel_rfl) (by kernel_rfl) (by kernel_rfl) (fun _ _ _ h => h) (Or.inl ⟨by rfl, ?hy24⟩) hS0 ?_
      case hy24 => (intro w' hw'; have nN' := (hw'.cell (p := ⟨p', off' + j * 4, none⟩) g3).trans nNx; go_simp; try with_reducible rfl)
      simp only [List.getElem_toArray, List.getElem_cons_zero, List.getElem_cons_succ, Act.put, List.setIfInBounds_toArray, List.set_cons_zero, List.set_cons_succ]
      refine wpAnyH_take (i := 13) (v := ?v25) rfl (by kernel_rfl) (by kernel_rfl) (by kernel_rfl) (fun _ _ _ h => h) (Or.inl ⟨by rfl, ?hy25⟩) hS0 ?_
      case hy25 => (intro w' hw'; skip; go_simp; try with_reducible rfl)
      simp only [List.getElem_toArray, List.getElem_cons_zero, List.getElem_cons_succ, Act.put, List.setIfInBounds_toArray, List.set_cons_zero, List.set_cons_succ]
      refine wpAnyH_take (i := 14) (v := ?v26) rfl (by kernel_rfl) (by kernel_rfl) (by kernel_rfl) (fun _ _ _ h => h) (Or.inl ⟨by rfl, ?hy26⟩) hS0 ?_
      case hy26 => (intro w' hw'; skip; go_simp; try with_reducible rfl)
      simp only [List.getElem_toArray, List.getElem_cons_zero, List.getElem_cons_succ, Act.put, List.setIfInBounds_toArray, List.set_cons_zero, List.set_cons_succ]
      refine wpAnyH_take (i := 15) (v := ?v27) rfl (by kernel_rfl) (by kernel_rfl) (by kernel_rfl) (fun _ _ _ h => h) (Or.inl ⟨by rfl, ?hy27⟩) hS0 ?_
      case hy27 => (intro w' hw'; skip; go_simp; try with_reducible rfl)
      simp only [List.getElem_toArray, List.getElem_cons_zero, List.getElem_cons_succ, Act.put, List.setIfInBounds_toArray, List.set_cons_zero, List.set_cons_succ]
      refine wpAnyH_take (i := 16) (v := ?v28) rfl (by kernel_rfl) (by kernel_rfl) (by kernel_rfl) (fun _ _ _ h => h) (Or.inl ⟨by rfl, ?hy28⟩) hS0 ?_
      case hy28 => (intro w' hw'; skip; go_simp; try with_reducible rfl)
      simp only [List.getElem_toArray, List.getElem_cons_zero, List.getElem_cons_succ, Act.put, List.setIfInBounds_toArray, List.set_cons_zero, List.set_cons_succ]
      refine wpAnyH_take (i := 17) (v := ?v29) rfl (by kernel_rfl) (by kernel_rfl) (by kernel_rfl) (fun _ _ _ h => h) (Or.inl ⟨by rfl, ?hy29⟩) hS0 ?_
      case hy29 => (intro w' hw'; skip; go_simp; try with_reducible rfl)
      simp only [List.getElem_toArray, List.getElem_cons_zero, List.getElem_cons_succ, Act.put, List.setIfInBounds_toArray, List.set_cons_zero, List.set_cons_succ]
      refine wpAnyH_take (i := 18) (v := ?v30) rfl (by kernel_rfl) (by kernel_rfl) (by kernel_rfl) (fun _ _ _ h => h) (Or.inl ⟨by rfl, ?hy30⟩) hS0 ?_
      case hy30 => (intro w' hw'; skip; go_simp; try with_reducible rfl)
      simp only [List.getElem_toArray, List.getElem_cons_zero, List.getElem_cons_succ, Act.put, List.setIfInBounds_toArray, List.set_cons_zero, List.set_cons_succ]
      refine wpAnyH_take (i := 19) (v := ?v31) rfl (by kernel_rfl) (by kernel_rfl) (by kernel_rfl) (fun _ _ _ h => h) (Or.inl ⟨by rfl, ?hy31⟩) hS0 ?_
      case hy31 => (intro w' hw'; skip; go_simp; try with_reducible rfl)
      simp only [List.getElem_toArray, List.getElem_cons_zero, List.getElem_cons_succ, Act.put, List.setIfInBounds_toArray, List.set_cons_zero, List.set_cons_succ]
      refine wpAnyH_take (i := 20) (v := ?v32) rfl (by kernel_rfl) (by kernel_rfl) (by kernel_rfl) (fun _ _ _ h => h) (Or.inl ⟨by rfl, ?hy32⟩) hS0 ?_
      case hy32 => (intro w' hw'; skip; go_simp; try with_reducible rfl)
      simp only [List.getElem_toArray, List.getElem_cons_zero, List.getElem_cons_succ, Act.put, List.setIfInBounds_toArray, List.set_cons_zero, List.set_cons_succ]
      refine wpAnyH_take (i := 21) (v := ?v33) rfl (by kernel_rfl) (by kernel_rfl) (by kernel_rfl) (fun _ _ _ h => h) (Or.inl ⟨by rfl, ?hy33⟩) hS0 ?_
      case hy33 => (intro w' hw'; skip; go_simp; try with_reducible rfl)
      simp only [List.getElem_toArray, List.getElem_cons_zero, List.getElem_cons_succ, Act.put, List.setIfInBounds_toArray, List.set_cons_zero, List.set_cons_succ]
      refine wpAnyH_take (i := 22) (v := ?v34) rfl (by kernel_rfl) (by kernel_rfl) (by kernel_rfl) (fun _ _ _ h => h) (Or.inl ⟨by rfl, ?hy34⟩) hS0 ?_
      case hy34 => (intro w' hw'; have m8' := (hw'.cell (p := ⟨p, off + j * 4 + 2, none⟩) g2).trans m8x; have m9' := (hw'.cell (p := ⟨p, off + j * 4 + 3, none⟩) g2).trans m9x; go_simp; try with_reducible rfl)
      simp only [List.getElem_toArray, List.getElem_cons_zero, List.getElem_cons_succ, Act.put, List.setIfInBounds_toArray, List.set_cons_zero, List.set_cons_succ]
      refine wpAnyH_take (i := 23) (v := ?v35) rfl (by kernel_rfl) (by kernel_rfl) (by kernel_rfl) (fun _ _ _ h => h) (Or.inl ⟨by rfl, ?hy35⟩) hS0 ?_
      case hy35 => (intro w' hw'; skip; go_simp; try with_reducible rfl)
      simp only [List.getElem_toArray, List.getElem_cons_zero, List.getElem_cons_succ, Act.put, List.setIfInBounds_toArray, List.set_cons_zero, List.set_cons_succ]
      refine wpAnyH_take (i := 24) (v := ?v36) rfl (by kernel_rfl) (by kernel_rfl) (by kernel_rfl) (fun _ _ _ h => h) (Or.inl ⟨by rfl, ?hy36⟩) hS0 ?_
      case hy36 => (intro w' hw'; skip; go_simp; try with_reducible rfl)
      simp only [List.getElem_toArray, List.getElem_cons_zero, List.getElem_cons_succ, Act.put, List.setIfInBounds_toArray, List.set_cons_zero, List.set_cons_succ]
      refine wpAnyH_take (i := 25) (v := ?v37) rfl (by kernel_rfl) (by kernel_rfl) (by kernel_rfl) (fun _ _ _ h => h) (Or.inl ⟨by rfl, ?hy37⟩) hS0 ?_
      case hy37 => (intro w' hw'; skip; go_simp; try with_reducible rfl)
      simp only [List.getElem_toArray, List.getElem_cons_zero, List.getElem_cons_succ, Act.put, List.setIfInBounds_toArray, List.set_cons_zero, List.set_cons_succ]
      refine wpAnyH_take (i := 26) (v := ?v38) rfl (by kernel_rfl) (by kernel_rfl) (by kernel_rfl) (fun _ _ _ h => h) (Or.inl ⟨by rfl, ?hy38⟩) hS0 ?_
      case hy38 => (intro w' hw'; skip; go_simp; try with_reducible rfl)
      simp only [List.getElem_toArray, List.getElem_cons_zero, List.getElem_cons_succ, Act.put, List.setIfInBounds_toArray, List.set_cons_zero, List.set_cons_succ]
      refine wpAnyH_take (i := 27) (v := ?v39) rfl (by kernel_rfl) (by kernel_rfl) (by kernel_rfl) (fun _ _ _ h => h) (Or.inl ⟨by rfl, ?hy39⟩) hS0 ?_
      case hy39 => (intro w' hw'; have n8' := (hw'.cell (p := ⟨p', off' + j * 4 + 2, none⟩) g3).trans n8x; have n9' := (hw'.cell (p := ⟨p', off' + j * 4 + 3, none⟩) g3).trans n9x; go_simp; try with_reducible rfl)
      simp only [List.getElem_toArray, List.getElem_cons_zero, List.getElem_cons_succ, Act.put, List.setIfInBounds_toArray, List.set_cons_zero, List.set_cons_succ]
      refine wpAnyH_take (i := 28) (v := ?v40) rfl (by kernel_rfl) (by kernel_rfl) (by kernel_rfl) (fun _ _ _ h => h) (Or.inl ⟨by rfl, ?hy40⟩) hS0 ?_
      case hy40 => (intro w' hw'; skip; go_simp; try with_reducible rfl)
      simp only [List.getElem_toArray, List.getElem_cons_zero, List.getElem_cons_succ, Act.put, List.setIfInBounds_toArray, List.set_cons_zero, List.set_cons_succ]
      refine wpAnyH_take (i := 29) (v := ?v41) rfl (by kernel_rfl) (by kernel_rfl) (by kernel_rfl) (fun _ _ _ h => h) (Or.inl ⟨by rfl, ?hy41⟩) hS0 ?_
      case hy41 => (intro w' hw'; skip; go_simp; try with_reducible rfl)
      simp only [List.getElem_toArray, List.getElem_cons_zero, List.getElem_cons_succ, Act.put, List.setIfInBounds_toArray, List.set_cons_zero, List.set_cons_succ]
      refine wpAnyH_take (i := 30) (v := ?v42) rfl (by kernel_rfl) (by kernel_rfl) (by kernel_rfl) (fun _ _ _ h => h) (Or.inl ⟨by rfl, ?hy42⟩) hS0 ?_
      case hy42 => (intro w' hw'; skip; go_simp; try with_reducible rfl)
      simp only [List.getElem_toArray, List.getElem_cons_zero, List.getElem_cons_succ, Act.put, List.setIfInBounds_toArray, List.set_cons_zero, List.set_cons_succ]
      refine wpAnyH_done (by kernel_rfl) ?_ _; refine NoPanic.normal ?_
      go_wp2_with fail
      go_roundw
      case rel => exact ⟨j + 1, by omega, by go_num, hI2.trans (hS0.mono hI2.size)⟩
      case measure => first | (simp [intOf]; omega) | simp [intOf]
    · have ji : ¬ (j : Int) < (n : Int) := by omega
      have hI9 := hide hI
      clear hlt
      go_wp2_with fail
      go_ret
      exact ⟨rfl, unhide hI9⟩
end Go.Proofs.YtcebeajjpcbgcaaGreat.cu
namespace Go.Proofs.YtcebeajjpcbgcaaGreat.cu
open Go.ChangeShapes Go.WideShapes Go.ChangeAt Go.RowKit
open ints (hide unhide)
open dt (Dt Kp RowAt Ow Grow OwIn)
open mem (Row)
set_option linter.unusedVariables false
set_option linter.unusedSimpArgs false
set_option maxHeartbeats 8000000 in
set_option maxRecDepth 4000 in
theorem sels_ts (f g : Nat) (ih : ∀ g', g = g' + 1 → ∀ l l', EqLs (EqS true f g') l l' → SmLs 13 true 9 l l') (l l' : List Dt) (h : EqLs (EqS true f g) l l') : SmLs 13 true 9 l l' := by
  have IH := hide ih
  clear ih
  intro w a a' c c' F G hl hl' hF hG hc hc' hm hm'
  obtain ⟨hlen, hel⟩ := h
  have HEL := hide hel
  have HL := hide hl
  have HL' := hide hl'
  have HF := hide hF
  have HG := hide hG
  obtain ⟨n, hn⟩ : ∃ n, n = l.length := ⟨_, rfl⟩
  have hn' : n = l'.length := hn.trans hlen
  rw [← hn] at hc ⊢
  rw [← hn'] at hc' ⊢
  have Hn := hide (And.intro hn hn')
  clear hel hl hl' hF hG hn hn' hlen
  unfold maxLen at hm hm'
  go_enter Tryz.func13, Tryz.ntmps13
  go_wp2_with fail
  go_loopw [7] (fun i wr => ∃ j : Nat, j ≤ n ∧ i = .int .i64 j ∧ Below w.heap.size w wr) (fun i _ => n - (intOf i).toNat)
  case atStart => exact ⟨0, Nat.zero_le _, rfl, Below.refl _ _⟩
  case round =>
    obtain ⟨j, hj, rfl, hI⟩ := hrel
    by_cases hlt : j < n
    · have ji : (j : Int) < (n : Int) := by omega
      have hlt1 : j < l.length := by have := unhide Hn; omega
      have hlt2 : j < l'.length := by have := unhide Hn; omega
      obtain ⟨p, off, rfl, hpF, hget⟩ := (unhide HL).resolve_left (fun h0 => by rw [h0] at hlt1; exact absurd hlt1 (Nat.not_lt_zero _))
      obtain ⟨p', off', rfl, hpG, hget'⟩ := (unhide HL').resolve_left (fun h0 => by rw [h0] at hlt2; exact absurd hlt2 (Nat.not_lt_zero _))
      obtain ⟨ds, G1, hrow, hdl, hod, hGF⟩ := hget j _ (List.getElem?_eq_getElem hlt1)
      obtain ⟨ds', G2, hrow', hdl', hod', hGG⟩ := hget' j _ (List.getElem?_eq_getElem hlt2)
      have heqS := (unhide HEL) j _ _ (List.getElem?_eq_getElem hlt1) (List.getElem?_eq_getElem hlt2)
      obtain ⟨g', hg'⟩ : ∃ g', g = g' + 1 := by
        cases g with
        | zero => exact heqS.elim
        | succ g' => exact ⟨g', rfl⟩
      rw [hg'] at heqS
      obtain ⟨k, al, nm, on, l1, l2, m1', m2', o1', o2', x1, y1, x2, y2, hx, hy, hxy, hq1', hq2', hq3'⟩ := heqS
      rw [hx] at hod
      rw [hy] at hod'
      obtain ⟨a1, c1, b1, d1, e1, g1, rfl, u1, hv1, hv2, hv3⟩ := sel_cells hod
      obtain ⟨a2, c2, b2, d2, e2, g2, rfl, u2, hv1', hv2', hv3'⟩ := sel_cells hod'
      obtain ⟨rfl, rfl⟩ := hxy rfl
      have hplt := (unhide HF) p hpF
      have hplt' := (unhide HG) p' hpG
      have hC4 := (fun W (hb : Below w.heap.size w W) => args_t f l1 l2 hq1' W a1 a2 c1 c2 G1 G2 (hv1.below (fun b hb' => (unhide HF) b (hGF b hb')) hb) (hv1'.below (fun b hb' => (unhide HG) b (hGG b hb')) hb) (fun b hb' => Nat.lt_of_lt_of_le ((unhide HF) b (hGF b hb')) hb.size) (fun b hb' => Nat.lt_of_lt_of_le ((unhide HG) b (hGG b hb')) hb.size) u1.1 u2.1 u1.2.1 u2.2.1)
      have hC5 := (fun W (hb : Below w.heap.size w W) => dirs_t f m1' m2' hq2' W b1 b2 d1 d2 G1 G2 (hv2.below (fun b hb' => (unhide HF) b (hGF b hb')) hb) (hv2'.below (fun b hb' => (unhide HG) b (hGG b hb')) hb) (fun b hb' => Nat.lt_of_lt_of_le ((unhide HF) b (hGF b hb')) hb.size) (fun b hb' => Nat.lt_of_lt_of_le ((unhide HG) b (hGG b hb')) hb.size) u1.2.2.1 u2.2.2.1 u1.2.2.2.1 u2.2.2.2.1)
      have hC6 := (fun W (hb : Below w.heap.size w W) => (unhide IH) g' hg' o1' o2' hq3' W e1 e2 g1 g2 G1 G2 (hv3.below (fun b hb' => (unhide HF) b (hGF b hb')) hb) (hv3'.below (fun b hb' => (unhide HG) b (hGG b hb')) hb) (fun b hb' => Nat.lt_of_lt_of_le ((unhide HF) b (hGF b hb')) hb.size) (fun b hb' => Nat.lt_of_lt_of_le ((unhide HG) b (hGG b hb')) hb.size) u1.2.2.2.2.1 u2.2.2.2.2.1 u1.2.2.2.2.2 u2.2.2.2.2.2)
      obtain ⟨n1, hn1⟩ : ∃ z, z = l1.length := ⟨_, rfl⟩
      obtain ⟨n2, hn2⟩ : ∃ z, z = l2.length := ⟨_, rfl⟩
      rw [← hn1, ← hn2] at hC4
      replace hC4 := hide hC4
      rw [← hn1] at hrow
      rw [← hn2] at hrow'
      obtain ⟨m1, hm1⟩ : ∃ z, z = m1'.length := ⟨_, rfl⟩
      obtain ⟨m2, hm2⟩ : ∃ z, z = m2'.length := ⟨_, rfl⟩
      rw [← hm1, ← hm2] at hC5
      replace hC5 := hide hC5
      rw [← hm1] at hrow
      rw [← hm2] at hrow'
      obtain ⟨o1, ho1⟩ : ∃ z, z = o1'.length := ⟨_, rfl⟩
      obtain ⟨o2, ho2⟩ : ∃ z, z = o2'.length := ⟨_, rfl⟩
      rw [← ho1, ← ho2] at hC6
      replace hC6 := hide hC6
      rw [← ho1] at hrow
      rw [← ho2] at hrow'
      have hr := fun (q : Nat) (u : Value) hu => (hI.cell (p := ⟨p, off + j * 9 + q, none⟩) hplt).trans (hrow q u hu)
      have hr' := fun (q : Nat) (u : Value) hu => (hI.cell (p := ⟨p', off' + j * 9 + q, none⟩) hplt').trans (hrow' q u hu)
      have r0 : wr.cell? ⟨p, off + j * 9, none⟩ = some (.int .i64 k) := hr 0 _ rfl
      have r1 : wr.cell? ⟨p, off + j * 9 + 1, none⟩ = some (.string al) := hr 1 _ rfl
      have r2 : wr.cell? ⟨p, off + j * 9 + 2, none⟩ = some (.string nm) := hr 2 _ rfl
      have r3 : wr.cell? ⟨p, off + j * 9 + 3, none⟩ = some (.string on) := hr 3 _ rfl
      have r4 : wr.cell? ⟨p, off + j * 9 + 4, none⟩ = some (.slice a1 n1 c1) := hr 4 _ rfl
      have r5 : wr.cell? ⟨p, off + j * 9 + 5, none⟩ = some (.slice b1 m1 d1) := hr 5 _ rfl
      have r6 : wr.cell? ⟨p, off + j * 9 + 6, none⟩ = some (.slice e1 o1 g1) := hr 6 _ rfl
      have r7 : wr.cell? ⟨p, off + j * 9 + 7, none⟩ = some (.int .i64 x1) := hr 7 _ rfl
      have r8 : wr.cell? ⟨p, off + j * 9 + 8, none⟩ = some (.int .i64 y1) := hr 8 _ rfl
      have s0 : wr.cell? ⟨p', off' + j * 9, none⟩ = some (.int .i64 k) := hr' 0 _ rfl
      have s1 : wr.cell? ⟨p', off' + j * 9 + 1, none⟩ = some (.string al) := hr' 1 _ rfl
      have s2 : wr.cell? ⟨p', off' + j * 9 + 2, none⟩ = some (.string nm) := hr' 2 _ rfl
      have s3 : wr.cell? ⟨p', off' + j * 9 + 3, none⟩ = some (.string on) := hr' 3 _ rfl
      have s4 : wr.cell? ⟨p', off' + j * 9 + 4, none⟩ = some (.slice a2 n2 c2) := hr' 4 _ rfl
      have s5 : wr.cell? ⟨p', off' + j * 9 + 5, none⟩ = some (.slice b2 m2 d2) := hr' 5 _ rfl
      have s6 : wr.cell? ⟨p', off' + j * 9 + 6, none⟩ = some (.slice e2 o2 g2) := hr' 6 _ rfl
      have s7 : wr.cell? ⟨p', off' + j * 9 + 7, none⟩ = some (.int .i64 x1) := hr' 7 _ rfl
      have s8 : wr.cell? ⟨p', off' + j * 9 + 8, none⟩ = some (.int .i64 y1) := hr' 8 _ rfl
      obtain ⟨W2, hW2⟩ : ∃ W2, W2 = (wr.alloc (.cells #[.int .i64 k, .string al, .string nm, .string on, .slice a1 n1 c1, .slice b1 m1 d1, .slice e1 o1 g1, .int .i64 x1, .int .i64 y1] 57)).alloc (.cells #[.int .i64 k, .string al, .string nm, .string on, .slice a2 n2 c2, .slice b2 m2 d2, .slice e2 o2 g2, .int .i64 x1, .int .i64 y1] 57) := ⟨_, rfl⟩
      have hX := (show W2.heap[wr.heap.size]? = some (.cells #[.int .i64 k, .string al, .string nm, .string on, .slice a1 n1 c1, .slice b1 m1 d1, .slice e1 o1 g1, .int .i64 x1, .int .i64 y1] 57 (0, 0)) ∧ W2.heap[wr.heap.size + 1]? = some (.cells #[.int .i64 k, .string al, .string nm, .string on, .slice a2 n2 c2, .slice b2 m2 d2, .slice e2 o2 g2, .int .i64 x1, .int .i64 y1] 57 (0, 0)) from by rw [hW2]; exact two_at _ _ _ _ _)
      have bX : Below wr.heap.size wr W2 := by rw [hW2]; exact two_alloc _ _ _
      have zX : wr.heap.size + 2 ≤ W2.heap.size := by rw [hW2]; simp
      have bW := hI.trans (bX.mono hI.size)
      have HX := hide hX
      have hq1 : p < wr.heap.size := Nat.lt_of_lt_of_le hplt hI.size
      have hq2 : p' < wr.heap.size := Nat.lt_of_lt_of_le hplt' hI.size
      have s2 : ∀ o, (wr.alloc o).cell? ⟨p, 0, none⟩ = wr.cell? ⟨p, 0, none⟩ := fun o => ((Below.refl _ _).alloc (Nat.le_refl _) o).cell (p := ⟨p, 0, none⟩) hq1
      clear s2
      have s0x : ∀ o, (wr.alloc o).cell? ⟨p', off' + j * 9, none⟩ = some (.int .i64 k) := fun o => (((Below.refl _ _).alloc (Nat.le_refl _) o).cell (p := ⟨p', off' + j * 9, none⟩) hq2).trans s0
      have s1x : ∀ o, (wr.alloc o).cell? ⟨p', off' + j * 9 + 1, none⟩ = some (.string al) := fun o => (((Below.refl _ _).alloc (Nat.le_refl _) o).cell (p := ⟨p', off' + j * 9 + 1, none⟩) hq2).trans s1
      have s2x : ∀ o, (wr.alloc o).cell? ⟨p', off' + j * 9 + 2, none⟩ = some (.string nm) := fun o => (((Below.refl _ _).alloc (Nat.le_refl _) o).cell (p := ⟨p', off' + j * 9 + 2, none⟩) hq2).trans s2
      have s3x : ∀ o, (wr.alloc o).cell? ⟨p', off' + j * 9 + 3, none⟩ = some (.string on) := fun o => (((Below.refl _ _).alloc (Nat.le_refl _) o).cell (p := ⟨p', off' + j * 9 + 3, none⟩) hq2).trans s3
      have s4x : ∀ o, (wr.alloc o).cell? ⟨p', off' + j * 9 + 4, none⟩ = some (.slice a2 n2 c2) := fun o => (((Below.refl _ _).alloc (Nat.le_refl _) o).cell (p := ⟨p', off' + j * 9 + 4, none⟩) hq2).trans s4
      have s5x : ∀ o, (wr.alloc o).cell? ⟨p', off' + j * 9 + 5, none⟩ = some (.slice b2 m2 d2) := fun o => (((Below.refl _ _).alloc (Nat.le_refl _) o).cell (p := ⟨p', off' + j * 9 + 5, none⟩) hq2).trans s5
      have s6x : ∀ o, (wr.alloc o).cell? ⟨p', off' + j * 9 + 6, none⟩ = some (.slice e2 o2 g2) := fun o => (((Below.refl _ _).alloc (Nat.le_refl _) o).cell (p := ⟨p', off' + j * 9 + 6, none⟩) hq2).trans s6
      have s7x : ∀ o, (wr.alloc o).cell? ⟨p', off' + j * 9 + 7, none⟩ = some (.int .i64 x1) := fun o => (((Below.refl _ _).alloc (Nat.le_refl _) o).cell (p := ⟨p', off' + j * 9 + 7, none⟩) hq2).trans s7
      have s8x : ∀ o, (wr.alloc o).cell? ⟨p', off' + j * 9 + 8, none⟩ = some (.int .i64 y1) := fun o => (((Below.refl _ _).alloc (Nat.le_refl _) o).cell (p := ⟨p', off' + j * 9 + 8, none⟩) hq2).trans s8
      clear s0 s1 s2 s3 s4 s5 s6 s7 s8
      clear hr hr' hrow hrow' hdl hdl' hget hget' hod hod' hX hn1 hn2 hm1 hm2 ho1 ho2 hg' hq1' hq2' hq3' u1 u2 hv1 hv2 hv3 hv1' hv2' hv3' hx hy
      go_wp2_with fail
      rw [← hW2]
      clear hW2 r0 s0x r1 s1x r2 s2x r3 s3x r4 s4x r5 s5x r6 s6x r7 s7x r8 s8x
      refine ((unhide hC4) W2 bW).mono ?_
      rintro e' v0 ⟨rfl, bb0⟩
      have ba0 := bW.trans (bb0.mono bW.size)
      have bx0 : Below W2.heap.size W2 v0 := bb0
      have y0 : v0.cell? ⟨wr.heap.size, 5, none⟩ = some (.slice b1 m1 d1) := (bx0.cell (p := ⟨wr.heap.size, 5, none⟩) (show wr.heap.size < W2.heap.size by omega)).trans ((dt.cell_cells (unhide HX).1 5).trans rfl)
      have z0 : v0.cell? ⟨wr.heap.size + 1, 5, none⟩ = some (.slice b2 m2 d2) := (bx0.cell (p := ⟨wr.heap.size + 1, 5, none⟩) (show wr.heap.size + 1 < W2.heap.size by omega)).trans ((dt.cell_cells (unhide HX).2 5).trans rfl)
      clear hC4
      go_wp2_with fail
      refine ((unhide hC5) v0 ba0).mono ?_
      rintro e' v1 ⟨rfl, bb1⟩
      have ba1 := ba0.trans (bb1.mono ba0.size)
      have bx1 : Below W2.heap.size W2 v1 := bx0.trans (bb1.mono bx0.size)
      have y1 : v1.cell? ⟨wr.heap.size, 6, none⟩ = some (.slice e1 o1 g1) := (bx1.cell (p := ⟨wr.heap.size, 6, none⟩) (show wr.heap.size < W2.heap.size by omega)).trans ((dt.cell_cells (unhide HX).1 6).trans rfl)
      have z1 : v1.cell? ⟨wr.heap.size + 1, 6, none⟩ = some (.slice e2 o2 g2) := (bx1.cell (p := ⟨wr.heap.size + 1, 6, none⟩) (show wr.heap.size + 1 < W2.heap.size by omega)).trans ((dt.cell_cells (unhide HX).2 6).trans rfl)
      clear hC5
      go_wp2_with fail
      refine ((unhide hC6) v1 ba1).mono ?_
      rintro e' v2 ⟨rfl, bb2⟩
      have ba2 := ba1.trans (bb2.mono ba1.size)
      have bx2 : Below W2.heap.size W2 v2 := bx1.trans (bb2.mono bx1.size)
      clear hC6
      go_wp2_with fail
      go_roundw
      case rel => exact ⟨j + 1, by omega, by go_num, ba2⟩
      case measure => first | (simp [intOf]; omega) | simp [intOf]
    · have ji : ¬ (j : Int) < (n : Int) := by omega
      have hI9 := hide hI
      clear hlt
      go_wp2_with fail
      go_ret
      exact ⟨rfl, unhide hI9⟩
theorem sels_t (f : Nat) : ∀ (g : Nat) (l l' : List Dt), EqLs (EqS true f g) l l' → SmLs 13 true 9 l l'
  | 0 => sels_ts f 0 (fun g' h => by omega)
  | g + 1 => sels_ts f (g + 1) (fun g' h => (Nat.succ.inj h) ▸ sels_t f g)
end Go.Proofs.YtcebeajjpcbgcaaGreat.cu
