import Derived.Test.YtlgmonphhimbdaaTk4
namespace Go.Proofs.Ytlgmonphhimbdaa.knd
open Go.ChangeShapes Go.WideShapes Go.ChangeAt Go.RowKit Go.Maps
set_option linter.unusedVariables false
/-- what Put leaves -/
def PtPost (B : Nat) (X : Nat → Prop) (b : Nat) (M : Option Nat) (rs : List Rw) (nx : Nat) (s : Fin 65536) (v : Sv) (w : World) (e : Ending) (w' : World) : Prop :=
  e = .returned (.bool (!(gtR rs s).isSome)) ∧ ∃ X' M', Tb w' B X' b M' (putR rs nx s v) (nxR rs nx s) ∧ (∀ k, X k → X' k) ∧ (∀ k, X' k → X k ∨ w.heap.size ≤ k) ∧ Kx X w w' ∧ (∀ m, M = some m → M' = some m)
theorem map_apart {w : World} {m k g o : Nat} {D : DataW Unit} (h : w.ownsMap Try.prog 30 (plainElem (H := Unit) Try.prog 3) m k D) (hc : (w.cell? ⟨g, o, none⟩).isSome = true) : m ≠ g := by
  rintro rfl
  obtain ⟨es, clock, hbk, -⟩ := h
  simp [World.cell?, hbk] at hc
set_option maxRecDepth 6000 in
theorem put_hit {w : World} {B : Nat} {X : Nat → Prop} {b : Nat} {M : Option Nat} {rs : List Rw} {nx : Nat} (h : Tb w B X b M rs nx) (s : Fin 65536) (v : Sv) (hs : True) (hn : rs.length ≤ 1099511627776) {i0 : Nat} {r0 : Rw} (hi0 : rs[i0]? = some r0) (hk0 : r0.2.1 = s) :
    Calls Try.prog 4 #[.pointer (some ⟨b, 0, none⟩), .agg #[.int .i8 (p0 s), .int .i8 (p1 s), .bool (p2 s)], .slice v.1 v.2.1 v.2.2] w (PtPost B X b M rs nx s v w) := by
  have FD := hide (fun W (hW : Below w.heap.size w W) => find_tb (h.below hW) s hs hn)
  obtain ⟨v0, c0, a, cap, rfl, h2, h3, h4⟩ := h.rows
  have hb := (h.lo b h.xb).2
  have hl0 := (List.getElem?_eq_some_iff.1 hi0).1
  rcases h4 with ⟨rfl, rfl⟩ | ⟨g, off, rfl, hg, ⟨hy, hgb, hgm⟩, hr, ht⟩
  · omega
  have HH := hide h
  have HR := hide hr
  have HT := hide ht
  have HI := hide hi0
  have HK := hide hk0
  clear h hr ht hi0 hk0 h2 h3
  obtain ⟨n, hn'⟩ : ∃ n, n = rs.length := ⟨_, rfl⟩
  rw [← hn'] at c0
  have hn2 : n ≤ 1099511627776 := by omega
  have HN := hide hn'
  clear hn' hn hl0
  go_enter Try.func4, Try.ntmps4
  go_wp2_with fail
  refine (holdable_str s _).mono ?_
  rintro e w1 ⟨rfl, hb1⟩
  obtain ⟨hb1, kc0, kc1, kc2, kcl⟩ := ent hb1
  go_wp2_with fail
  refine (unhide FD w1 hb1).mono ?_
  rintro e w2 ⟨hb2, (⟨i, r, hi, er, rfl⟩ | ⟨hno, j, rfl⟩)⟩
  rotate_left
  · exact absurd (unhide HK) (hno r0 (List.mem_of_getElem? (unhide HI)))
  have hin : i < n := by have := (List.getElem?_eq_some_iff.1 hi).1; rw [unhide HN]; exact this
  have hii : (i : Int) < (n : Int) := by omega
  have B2 := hb1.trans (hb2.mono hb1.size)
  have c0' := (B2.cell (p := ⟨b, 0, none⟩) hb).trans c0
  obtain ⟨k0, k1, k3, k4, k2⟩ := ra_cells (unhide HR) hi
  have f2 : w.frozen? ⟨g, off + i * 5 + 4, none⟩ = false := by
    obtain ⟨v0', c0'', a', cap', e', q2, q3, q4⟩ := (unhide HH).rows
    have := (unhide HT (i * 5 + 4) (by
      have : n ≤ cap := by
        rw [unhide HN] at c0
        rw [c0] at c0''
        cases c0''
        cases e'
        rw [unhide HN]
        exact q2
      omega)).2
    rwa [← Nat.add_assoc] at this
  have k2' := (B2.cell (p := ⟨g, off + i * 5 + 4, none⟩) hg).trans k2
  have f2' := (B2.frozen (p := ⟨g, off + i * 5 + 4, none⟩) hg).trans f2
  have HI2 := hide hi
  have ER := hide er
  clear hi er k0 k1 k3 k4 k2 f2 hb2
  go_wp2_with fail
  go_ret
  have hi := unhide HI2
  have er := unhide ER
  have H2 := (unhide HH).below B2
  have hrows := H2.rows
  obtain ⟨v0', c0'', a', cap', e', q2, q3, q4⟩ := hrows
  rw [c0', unhide HN] at c0''
  cases c0''
  cases e'
  have hr2 : w2.rangeAt g off (flat rs) := ra_same (B2.block g hg) (unhide HR)
  have ht2 : w2.there g off (cap * 5) := th_same (B2.block g hg) (unhide HT)
  have s2 := B2.size
  have hfar : ∀ j, (w2.setCell ⟨g, off + i * 5 + 4, none⟩ (.slice v.1 v.2.1 v.2.2)).cell? ⟨b, j, none⟩ = w2.cell? ⟨b, j, none⟩ := fun j => World.cell?_setCell_far _ ⟨g, off + i * 5 + 4, none⟩ ⟨b, j, none⟩ _ hgb
  have hmap := H2.map
  rcases hmap with ⟨_, e0, _⟩ | ⟨m, k, D, m1, m2, m3, m4, m5, m6⟩
  · rw [e0] at hi; cases hi
  have hget : (gtR rs s).isSome = true := by rw [← er, gtR_some m6 H2.ris hi]; rfl
  refine ⟨by rw [hget]; rfl, X, M, ?_, fun k hk => hk, fun k hk => .inl hk, (Kx.of_below B2).trans (Kx.setCell w2 (p := ⟨g, off + i * 5 + 4, none⟩) hy _) (fun i hi => .inl hi), fun m hm => hm⟩
  have eP : putR rs nx s v = rs.set i (r.1, r.2.1, v) := by rw [set_map m6 H2.ris hi, putR, if_pos hget, er]
  have eN : nxR rs nx s = nx := by rw [nxR, if_pos hget]
  rw [eP, eN]
  refine ⟨fun k hk => by simpa using H2.lo k hk, fun k hk => (H2.dat k hk).elim .inl (fun h => .inr (cells_setCell h _ _)), H2.xb, H2.nb, fun j => (World.frozen?_setCell _ _ _ _).trans (H2.fr j), ⟨_, (hfar 0).trans c0', _, cap, by rw [List.length_set, ← unhide HN], by simpa using q2, q3, .inr ⟨g, off, rfl, by simp; omega, ⟨hy, hgb, hgm⟩, ra_set hr2 hi, ?_⟩⟩, .inr ⟨m, k, D, m1, (hfar 1).trans m2, m3, m4, m5.setCell (a := ⟨g, off + i * 5 + 4, none⟩) (fun e => hgm (by rw [m1, e])) _, fits_of m6 (set_keys hi)⟩, (hfar 2).trans H2.next, rising_of H2.ris (set_sers hi), fun q hq => ?_⟩
  · exact World.there_setCells ht2 g (off + i * 5 + 4) [.slice v.1 v.2.1 v.2.2]
  · have : q.1 ∈ (rs.set i (r.1, r.2.1, v)).map (·.1) := List.mem_map.2 ⟨q, hq, rfl⟩
    rw [set_sers hi] at this
    obtain ⟨q', h1, h2⟩ := List.mem_map.1 this
    rw [← h2]
    exact H2.lt q' h1
/-- what stands behind a Put of a new key: from w3, in which the map lies at m -/
theorem put_end {w w2 w3 w4 w5 : World} {B : Nat} {X X3 : Nat → Prop} {b m k : Nat} {M : Option Nat} {rs : List Rw} {nx : Nat} {s : Fin 65536} {v : Sv} {D : DataW Unit} {a5 : Option Addr} {c5 : Nat}
    (h : Tb w B X b M rs nx) (h2 : Below w.heap.size w w2) (k3 : Kx X w2 w3) (x1 : ∀ i, X i → X3 i) (x2 : ∀ i, X3 i → X i ∨ (i = m ∧ w2.heap.size ≤ i)) (xm : X3 m) (hM : ∀ i, M = some i → i = m) (hbm : b ≠ m) (hm3 : m < w3.heap.size) (hX3 : ∀ i, X i → M ≠ some i → IsC w3 i) (hno : ∀ r ∈ rs, r.2.1 ≠ s) (hnm : ¬ (X m ∧ M ≠ some m))
    (hf3 : ∀ i, w3.frozen? ⟨b, i, none⟩ = false) (hk4 : w3.drew.grownBy w4 (some m)) (hown : w4.ownsMap Try.prog 30 (plainElem (H := Unit) Try.prog 3) m (k + 1) (D.put (kl s) (.lit (.int .i64 (nx : Nat))))) (hD : Maps.IsMap D) (hkn : k ≤ nx) (hfit : Fits D rs)
    (l5 : Lie w5 (fun i => (X i ∧ i ≠ b ∧ M ≠ some i) ∨ (w4.heap.size < i ∧ IsC w5 i)) (.slice a5 (rs.length + 1) c5) (rs ++ [((nx : Int), s, v)])) (k5 : Kx (fun i => X i ∧ i ≠ b ∧ M ≠ some i) w4 w5) (i5 : ∀ i, IsC w4 i → IsC w5 i)
    (p0 : (w5.setCell ⟨b, 0, none⟩ (.slice a5 (rs.length + 1) c5)).cell? ⟨b, 0, none⟩ = some (.slice a5 (rs.length + 1) c5)) (p1 : w5.cell? ⟨b, 1, none⟩ = some (.map (some m))) (p2 : w5.cell? ⟨b, 2, none⟩ = some (.int .i64 (nx : Nat))) :
    PtPost B X b M rs nx s v w (.returned (.bool true)) ((w5.setCell ⟨b, 0, none⟩ (.slice a5 (rs.length + 1) c5)).setCell ⟨b, 2, none⟩ (.int .i64 ((nx : Int) + 1))) := by
  have hget : gtR rs s = none := gtR_none hno
  have s2 := h2.size
  have s3 := k3.size
  have s4 : w3.heap.size ≤ w4.heap.size := hk4.size
  have s5 := k5.size
  have hb := (h.lo b h.xb).2
  obtain ⟨W, hW⟩ : ∃ W, W = (w5.setCell ⟨b, 0, none⟩ (.slice a5 (rs.length + 1) c5)).setCell ⟨b, 2, none⟩ (.int .i64 ((nx : Int) + 1)) := ⟨_, rfl⟩
  rw [← hW]
  have sW : W.heap.size = w5.heap.size := by rw [hW]; simp
  have bW : ∀ i, i ≠ b → W.heap[i]? = w5.heap[i]? := fun i hi => by rw [hW]; exact (Below.heap_setCell _ ⟨b, 2, none⟩ _ _ hi).trans (Below.heap_setCell _ ⟨b, 0, none⟩ _ _ hi)
  have cW : ∀ i, IsC w5 i → IsC W i := fun i hi => by rw [hW]; exact cells_setCell (cells_setCell hi _ _) _ _
  have k45 : ∀ i, i < w4.heap.size → ¬ (X i ∧ i ≠ b ∧ M ≠ some i) → w5.heap[i]? = w4.heap[i]? := k5.block
  have kk : Kx X w W := by
    have a1 : Kx X w w3 := (Kx.of_below h2).trans k3 (fun i hi => .inl hi)
    have a2 : Kx X3 w3 w4 := ⟨hk4.os, hk4.tape, hk4.output, hk4.size, fun i hi hx => hk4.block i hi (fun e => hx (by cases e; exact xm))⟩
    have a3 : Kx X w w4 := a1.trans a2 (fun i hi => (x2 i hi).imp id (fun e => by omega))
    have a4 : Kx X w w5 := a3.trans k5 (fun i hi => .inl hi.1)
    have a5 : Kx X w5 W := ⟨by rw [hW]; rfl, by rw [hW]; rfl, by rw [hW]; rfl, by omega, fun i hi hx => bW i (fun e => hx (e ▸ h.xb))⟩
    exact a4.trans a5 (fun i hi => .inl hi)
  refine ⟨by rw [hget]; rfl, fun i => X3 i ∨ (w4.heap.size < i ∧ IsC w5 i), some m, ?_, fun i hi => .inl (x1 i hi), fun i hi => ?_, kk, fun i hi => by rw [hM i hi]⟩
  · have eP : putR rs nx s v = rs ++ [((nx : Int), s, v)] := by rw [putR, hget]; rfl
    have eN : nxR rs nx s = nx + 1 := by rw [nxR, hget]; rfl
    rw [eP, eN]
    have hmW : W.heap[m]? = w4.heap[m]? := (bW m (fun e => hbm e.symm)).trans (k45 m (by omega) (fun hx => hnm ⟨hx.1, hx.2.2⟩))
    have hb5 : w5.heap[b]? = w3.heap[b]? := (k45 b (by omega) (fun hx => hx.2.1 rfl)).trans (hk4.block b (by show b < w3.heap.size; omega) (fun e => hbm (by cases e; rfl)))
    have cb : ∀ i, i ≠ 2 → i ≠ 0 → W.cell? ⟨b, i, none⟩ = w5.cell? ⟨b, i, none⟩ := fun i h1 h2 => by rw [hW]; exact (World.cell?_setCell_other _ _ _ _ (by simp <;> omega)).trans (World.cell?_setCell_other _ _ _ _ (by simp <;> omega))
    refine ⟨fun i hi => ?_, fun i hi => ?_, .inl (x1 b h.xb), fun e => hbm (by cases e; rfl), fun i => ?_, ⟨.slice a5 (rs.length + 1) c5, ?_, ?_⟩, .inr ⟨m, k + 1, _, rfl, (cb 1 (by decide) (by decide)).trans p1, .inl xm, by omega, own_same hmW hown, fits_put hfit hD hno⟩, ?_, rising_snoc h.ris h.lt, fun r hr => ?_⟩
    · rcases hi with hi | hi
      · rcases x2 i hi with h1 | ⟨h1, h3⟩
        · have := h.lo i h1; omega
        · have := h.lo b h.xb; omega
      · have := hi.2.lt
        have := h.lo b h.xb
        omega
    · by_cases him : i = m
      · exact .inl (by rw [him])
      · rcases hi with hi | hi
        · rcases x2 i hi with h1 | ⟨h1, h3⟩
          · have hc := hX3 i h1 (fun e => him (hM i e))
            exact .inr (cW i (i5 i (hc.same (hk4.block i (by show i < w3.heap.size; exact hc.lt) (fun e => him (by cases e; rfl))))))
          · exact absurd h1 him
        · exact .inr (cW i hi.2)
    · rw [hW, World.frozen?_setCell, World.frozen?_setCell, World.frozen?_of_block (a := ⟨b, i, none⟩) hb5]
      exact hf3 i
    · rw [hW]
      exact (World.cell?_setCell_other _ _ _ _ (by simp)).trans p0
    · refine (l5.move (by omega) (fun i hi => bW i ?_)).mono (fun i hi => ?_)
      · rcases hi with hi | hi
        · exact hi.2.1
        · omega
      · rcases hi with hi | hi
        · exact ⟨.inl (x1 i hi.1), hi.2.1, fun e => by cases e; exact hnm ⟨hi.1, hi.2.2⟩⟩
        · exact ⟨.inr hi, by omega, fun e => by cases e; omega⟩
    · rw [hW]
      have e2 := (World.cell?_setCell_other w5 ⟨b, 0, none⟩ ⟨b, 2, none⟩ (.slice a5 (rs.length + 1) c5) (by simp)).trans p2
      have := World.cell?_setCell_same _ ⟨b, 2, none⟩ (.int .i64 ((nx : Int) + 1)) e2
      rw [this]
      simp
    · rcases List.mem_append.1 hr with h1 | h1
      · have := h.lt r h1
        omega
      · simp at h1
        subst h1
        show ((nx : Nat) : Int) < _
        omega
  · rcases hi with hi | hi
    · rcases x2 i hi with h1 | ⟨h1, h3⟩
      · exact .inl h1
      · exact .inr (by omega)
    · exact .inr (by omega)
theorem IsC.cell {w : World} {k : Nat} (h : IsC w k) (p : Addr) (u : Value) : IsC (w.setCell p u) k := cells_setCell h p u
set_option maxHeartbeats 1000000 in
set_option maxRecDepth 6000 in
theorem put_newA {w : World} {B : Nat} {X : Nat → Prop} {b : Nat} {M : Option Nat} {rs : List Rw} {nx : Nat} (h : Tb w B X b M rs nx) (s : Fin 65536) (v : Sv) (hs : True) (hn : rs.length ≤ 1099511627776) (hx : nx ≤ 1152921504606846976) (hno : ∀ r ∈ rs, r.2.1 ≠ s) (hM : M = none) :
    Calls Try.prog 4 #[.pointer (some ⟨b, 0, none⟩), .agg #[.int .i8 (p0 s), .int .i8 (p1 s), .bool (p2 s)], .slice v.1 v.2.1 v.2.2] w (PtPost B X b M rs nx s v w) := by
  have FD := hide (fun W (hW : Below w.heap.size w W) => find_tb (h.below hW) s hs hn)
  have hb := (h.lo b h.xb).2
  have HH := hide h
  have HN := hide hno
  have HX := hide hM
  have hmm := @run_makeMap Try.prog
  have hnil := mapnil
  obtain ⟨q1, q2, q3, q4, c1⟩ : M = none ∧ rs = [] ∧ nx = 0 ∧ w.cell? ⟨b, 0, none⟩ = some (.slice none 0 0) ∧ w.cell? ⟨b, 1, none⟩ = some (.map none) := by
    rcases h.map with h1 | ⟨m, k, D, h1, -⟩
    · exact h1
    · rw [hM] at h1; cases h1
  clear q1 q2 q3 q4
  have c2 := h.next
  have fr := hide h.fr
  obtain ⟨a, cap, c0, -⟩ := h.rws
  clear h hno hM
  obtain ⟨n, hn'⟩ : ∃ n, n = rs.length := ⟨_, rfl⟩
  rw [← hn'] at c0
  have hn2 : n ≤ 1099511627776 := by omega
  have HL := hide hn'
  clear hn'
  go_enter Try.func4, Try.ntmps4
  go_wp2_with fail
  refine (holdable_str s _).mono ?_
  rintro e w1 ⟨rfl, hb1⟩
  obtain ⟨hb1, kc0, kc1, kc2, kcl⟩ := ent hb1
  go_wp2_with fail
  refine (unhide FD w1 hb1).mono ?_
  rintro e w2 ⟨hb2, (⟨i, r, hi, er, rfl⟩ | ⟨_, j, rfl⟩)⟩
  · exact absurd er (unhide HN r (List.mem_of_getElem? hi))
  have kb0 := (hb2.cell (p := ⟨w.heap.size, 0, none⟩) kcl).trans kc0
  have kb1 := (hb2.cell (p := ⟨w.heap.size, 1, none⟩) kcl).trans kc1
  have kb2 := (hb2.cell (p := ⟨w.heap.size, 2, none⟩) kcl).trans kc2
  have kbl : w.heap.size < w2.heap.size := Nat.lt_of_lt_of_le kcl hb2.size
  have nX : ¬ X w.heap.size := fun hx => Nat.lt_irrefl _ ((unhide HH).lo _ hx).2
  clear kc0 kc1 kc2
  have B2 := hb1.trans (hb2.mono hb1.size)
  clear hb2 FD
  have c0' := (B2.cell (p := ⟨b, 0, none⟩) hb).trans c0
  have c1' := (B2.cell (p := ⟨b, 1, none⟩) hb).trans c1
  have c2' := (B2.cell (p := ⟨b, 2, none⟩) hb).trans c2
  have f0' := (B2.frozen (p := ⟨b, 0, none⟩) hb).trans (unhide fr 0)
  have f1' := (B2.frozen (p := ⟨b, 1, none⟩) hb).trans (unhide fr 1)
  have f2' := (B2.frozen (p := ⟨b, 2, none⟩) hb).trans (unhide fr 2)
  have hb2 : b < w2.heap.size := Nat.lt_of_lt_of_le hb B2.size
  have H2 := hide ((unhide HH).below B2)
  have bB := ((unhide HH).lo b (unhide HH).xb).1
  have hne : ¬ b = w2.heap.size := by omega
  have d0 := fun o => (World.cell?_alloc_lt (w := w2) (o := o) (a := ⟨b, 0, none⟩) hb2).trans c0'
  have d1 := fun o => (World.cell?_alloc_lt (w := w2) (o := o) (a := ⟨b, 1, none⟩) hb2).trans c1'
  have d2 := fun o => (World.cell?_alloc_lt (w := w2) (o := o) (a := ⟨b, 2, none⟩) hb2).trans c2'
  have g0 := fun o => (World.frozen?_alloc_old (w := w2) (o := o) (a := ⟨b, 0, none⟩) hne).trans f0'
  have g1 := fun o => (World.frozen?_alloc_old (w := w2) (o := o) (a := ⟨b, 1, none⟩) hne).trans f1'
  have g2 := fun o => (World.frozen?_alloc_old (w := w2) (o := o) (a := ⟨b, 2, none⟩) hne).trans f2'
  go_wp2_with fail
  have w3 : ∃ w3 m k D, m = w2.heap.size ∧ ((w2.setCell ⟨b, 1, none⟩ (.map (some w2.heap.size))).alloc (Obj.map #[] 0)) = w3 ∧ w3.cell? ⟨b, 0, none⟩ = some (.slice a n cap) ∧ w3.cell? ⟨b, 1, none⟩ = some (.map (some m)) ∧ w3.cell? ⟨b, 2, none⟩ = some (.int .i64 (nx : Nat)) ∧ w3.frozen? ⟨b, 0, none⟩ = false ∧ w3.frozen? ⟨b, 2, none⟩ = false ∧ m < w3.heap.size ∧ b ≠ m ∧
      w3.ownsMap Try.prog 30 (plainElem (H := Unit) Try.prog 3) m k D ∧ Kx X w2 w3 ∧ Hid ((∀ i, w3.frozen? ⟨b, i, none⟩ = false) ∧ (∀ i, X i → M ≠ some i → IsC w3 i) ∧ ¬ (X m ∧ M ≠ some m) ∧ (∀ i, M = some i → i = m) ∧ Maps.IsMap D ∧ k ≤ nx ∧ Fits D rs ∧ Lie w3 (fun i => X i ∧ i ≠ b ∧ M ≠ some i) (.slice a n cap) rs ∧ ∃ X3 : Nat → Prop, (∀ i, X i → X3 i) ∧ (∀ i, X3 i → X i ∨ (i = m ∧ w2.heap.size ≤ i)) ∧ X3 m) := by
    have h2 := unhide H2
    have kk : Kx X w2 ((w2.setCell ⟨b, 1, none⟩ (.map (some w2.heap.size))).alloc (Obj.map #[] 0)) := (Kx.setCell w2 (p := ⟨b, 1, none⟩) h2.xb _).trans (Kx.of_below (X := X) ((Below.refl _ _).alloc (Nat.le_refl _) _)) (fun i hi => .inl hi)
    have rs0 : rs = [] := by
      rcases h2.map with ⟨-, h1, -⟩ | ⟨m, k, D, h1, -⟩
      · exact h1
      · rw [unhide HX] at h1; cases h1
    refine ⟨_, _, 0, .map [], rfl, rfl, ?_, ?_, ?_, ?_, ?_, by simp, by omega, ?_, kk, hide ⟨fun i => ?_, fun i hi hm => ?_, fun hx => by have := (h2.lo _ hx.1).2; omega, fun i hi => (by rw [unhide HX] at hi; cases hi), ⟨[], rfl⟩, Nat.zero_le _, ?_, ?_, fun i => X i ∨ i = w2.heap.size, fun i hi => .inl hi, fun i hi => hi.imp id (fun e => ⟨e, by omega⟩), .inr rfl⟩⟩
    · exact (cs_other hb2 (by decide)).trans c0'
    · exact cs_same hb2 c1'
    · exact (cs_other hb2 (by decide)).trans c2'
    · exact (fs_any hne).trans f0'
    · exact (fs_any hne).trans f2'
    · have := World.ownsMap_made (w2.setCell ⟨b, 1, none⟩ (.map (some w2.heap.size))) Try.prog 30 (plainElem (H := Unit) Try.prog 3)
      simpa using this
    · exact (fs_any hne).trans (h2.fr i)
    · rcases h2.dat i hi with e | hc
      · exact absurd e hm
      · exact (IsC.cell hc ⟨b, 1, none⟩ _).same (Below.heap_alloc _ _ _ (by simpa using (h2.lo i hi).2))
    · rw [rs0]
      exact ⟨fun s => by simp [Maps.has_eq], fun r hr => by cases hr⟩
    · obtain ⟨v', e1, hl⟩ := h2.rows
      rw [c0'] at e1
      cases e1
      exact hl.move (by simp) (fun i hi => (Below.heap_alloc _ _ _ (by simpa using (h2.lo i hi.1).2)).trans (Below.heap_setCell _ ⟨b, 1, none⟩ _ _ hi.2.1))
  obtain ⟨w3, m, k, D, em, e3, a0, a1, a2, z0, z2, hm3, hbm, hown3, K3, R3⟩ := w3
  have kd0 := (K3.cell (p := ⟨w.heap.size, 0, none⟩) kbl nX).trans kb0
  have kd1 := (K3.cell (p := ⟨w.heap.size, 1, none⟩) kbl nX).trans kb1
  have kd2 := (K3.cell (p := ⟨w.heap.size, 2, none⟩) kbl nX).trans kb2
  have kdl : w.heap.size < w3.heap.size := Nat.lt_of_lt_of_le kbl K3.size
  clear kb0 kb1 kb2
  have hkm : w.heap.size ≠ m := by rw [em]; omega
  rw [e3]
  rw [← em]
  clear e3 em d0 d1 d2 g0 g1 g2 hmm hnil
  have W2 := hide (⟨w2, B2, K3, R3⟩ : ∃ w2', Below w.heap.size w w2' ∧ Kx X w2' w3 ∧ Hid ((∀ i, w3.frozen? ⟨b, i, none⟩ = false) ∧ (∀ i, X i → M ≠ some i → IsC w3 i) ∧ ¬ (X m ∧ M ≠ some m) ∧ (∀ i, M = some i → i = m) ∧ Maps.IsMap D ∧ k ≤ nx ∧ Fits D rs ∧ Lie w3 (fun i => X i ∧ i ≠ b ∧ M ≠ some i) (.slice a n cap) rs ∧ ∃ X3 : Nat → Prop, (∀ i, X i → X3 i) ∧ (∀ i, X3 i → X i ∨ (i = m ∧ w2'.heap.size ≤ i)) ∧ X3 m))
  have hbw3 : b < w3.heap.size := Nat.lt_of_lt_of_le hb2 K3.size
  have kl : k < maxLen := by
    have := (unhide R3).2.2.2.2.2.1
    simp only [maxLen]
    omega
  clear c0' c1' c2' f0' f1' f2' K3 R3 H2 B2 hb2
  obtain ⟨w4, hrun, hown4, hg4⟩ := hown3.drew.update law Try.underlying24 kl (key_mk2 s) (plainElem_int (q := .i64) Try.underlying3 (a := (nx : Int)) (by simp [Lit.wf, IntKind.min, IntKind.max, IntKind.signed, IntKind.bits]; omega))
  go_region
  have hb3 : b < w3.drew.heap.size := hbw3
  have hb4 : b < w4.heap.size := Nat.lt_of_lt_of_le hb3 hg4.size
  have nb : (some b : Option Nat) ≠ some m := by simp; omega
  have nbk : (some w.heap.size : Option Nat) ≠ some m := by simp; exact hkm
  have ke0 := (hg4.cell_far ⟨w.heap.size, 0, none⟩ kdl nbk).trans kd0
  have ke1 := (hg4.cell_far ⟨w.heap.size, 1, none⟩ kdl nbk).trans kd1
  have ke2 := (hg4.cell_far ⟨w.heap.size, 2, none⟩ kdl nbk).trans kd2
  have kel : w.heap.size < w4.heap.size := Nat.lt_of_lt_of_le kdl hg4.size
  clear kd0 kd1 kd2
  have k0 := (hg4.cell_far ⟨b, 0, none⟩ hb3 nb).trans a0
  have k1 := (hg4.cell_far ⟨b, 1, none⟩ hb3 nb).trans a1
  have k2 := (hg4.cell_far ⟨b, 2, none⟩ hb3 nb).trans a2
  have l0 := (hg4.frozen_far ⟨b, 0, none⟩ hb3 nb).trans z0
  have l2 := (hg4.frozen_far ⟨b, 2, none⟩ hb3 nb).trans z2
  clear hrun a0 a1 a2 z0 z2
  have l4 : Lie w4 (fun i => X i ∧ i ≠ b ∧ M ≠ some i) (.slice a n cap) rs := by
    obtain ⟨w2', -, -, R3⟩ := unhide W2
    have R := unhide R3
    refine R.2.2.2.2.2.2.2.1.move hg4.size (fun i hi => hg4.block i (by show i < w3.heap.size; exact (R.2.1 i hi.1 hi.2.2).lt) (fun e => ?_))
    cases e
    exact R.2.2.1 ⟨hi.1, hi.2.2⟩
  obtain ⟨a5, c5, w5, hrun5, l5, k5, i5⟩ := app_row w4 _ _ rs ((nx : Int), s, v) 52 23 l4 (by have := unhide HL; omega)
  have R5 := hide (⟨l5, k5, i5⟩ : Lie w5 _ (.slice a5 (rs.length + 1) c5) (rs ++ [((nx : Int), s, v)]) ∧ Kx (fun i => X i ∧ i ≠ b ∧ M ≠ some i) w4 w5 ∧ (∀ i, IsC w4 i → IsC w5 i))
  rw [← unhide HL] at hrun5
  have m0 := (k5.cell (p := ⟨b, 0, none⟩) hb4 (fun hx => hx.2.1 rfl)).trans k0
  have m1 := (k5.cell (p := ⟨b, 1, none⟩) hb4 (fun hx => hx.2.1 rfl)).trans k1
  have m2 := (k5.cell (p := ⟨b, 2, none⟩) hb4 (fun hx => hx.2.1 rfl)).trans k2
  have n0 := (k5.frozen (p := ⟨b, 0, none⟩) hb4 (fun hx => hx.2.1 rfl)).trans l0
  have n2 := (k5.frozen (p := ⟨b, 2, none⟩) hb4 (fun hx => hx.2.1 rfl)).trans l2
  have p1 := (World.cell?_setCell_other w5 ⟨b, 0, none⟩ ⟨b, 1, none⟩ (.slice a5 (n + 1) c5) (by simp)).trans m1
  have p2 := (World.cell?_setCell_other w5 ⟨b, 0, none⟩ ⟨b, 2, none⟩ (.slice a5 (n + 1) c5) (by simp)).trans m2
  have p0 := World.cell?_setCell_same w5 ⟨b, 0, none⟩ (.slice a5 (n + 1) c5) m0
  clear l4 l5 k5 i5
  go_wp2_with fail
  go_region_law (refine step_app rfl _ _ 23 23 rfl (.slice a n cap) (.slice (some ⟨w4.heap.size, 0, none⟩) 1 1) (by simp [Act.eval]) (by simp [Act.eval]) (.slice a5 (n + 1) c5) w5 hrun5 ?_)
  all_goals go_wp2
  all_goals go_ret
  all_goals (
    obtain ⟨w2', B2, K3, R3⟩ := unhide W2
    obtain ⟨r1, r2, r3, r4, r5, r6, r7, r8, X3, x1, x2, x3⟩ := unhide R3
    obtain ⟨l5, k5, i5⟩ := unhide R5
    rw [unhide HL] at p0 ⊢
    exact put_end (unhide HH) B2 K3 x1 x2 x3 r4 hbm hm3 r2 (unhide HN) r3 r1 hg4 hown4 r5 r6 r7 l5 k5 i5 p0 m1 m2)

set_option maxHeartbeats 1000000 in
set_option maxRecDepth 6000 in
theorem put_newB {w : World} {B : Nat} {X : Nat → Prop} {b : Nat} {M : Option Nat} {rs : List Rw} {nx : Nat} (h : Tb w B X b M rs nx) (s : Fin 65536) (v : Sv) (hs : True) (hn : rs.length ≤ 1099511627776) (hx : nx ≤ 1152921504606846976) (hno : ∀ r ∈ rs, r.2.1 ≠ s) (m : Nat) (hM : M = some m) :
    Calls Try.prog 4 #[.pointer (some ⟨b, 0, none⟩), .agg #[.int .i8 (p0 s), .int .i8 (p1 s), .bool (p2 s)], .slice v.1 v.2.1 v.2.2] w (PtPost B X b M rs nx s v w) := by
  have FD := hide (fun W (hW : Below w.heap.size w W) => find_tb (h.below hW) s hs hn)
  have hb := (h.lo b h.xb).2
  have HH := hide h
  have HN := hide hno
  have HX := hide hM
  have hsm := mapsome
  obtain ⟨k, D, c1, xm, hk, hown, hfit⟩ : ∃ k D, w.cell? ⟨b, 1, none⟩ = some (.map (some m)) ∧ X m ∧ k ≤ nx ∧ w.ownsMap Try.prog 30 (plainElem (H := Unit) Try.prog 3) m k D ∧ Fits D rs := by
    rcases h.map with ⟨h1, -⟩ | ⟨m', k, D, h1, h2, h3, h4, h5, h6⟩
    · rw [hM] at h1; cases h1
    · rw [hM] at h1; cases h1
      exact ⟨k, D, h2, h3, h4, h5, h6⟩
  have HF := hide hfit
  have HO := hide hown
  clear hfit hown
  have c2 := h.next
  have fr := hide h.fr
  obtain ⟨a, cap, c0, -⟩ := h.rws
  clear h hno hM
  obtain ⟨n, hn'⟩ : ∃ n, n = rs.length := ⟨_, rfl⟩
  rw [← hn'] at c0
  have hn2 : n ≤ 1099511627776 := by omega
  have HL := hide hn'
  clear hn'
  go_enter Try.func4, Try.ntmps4
  go_wp2_with fail
  refine (holdable_str s _).mono ?_
  rintro e w1 ⟨rfl, hb1⟩
  obtain ⟨hb1, kc0, kc1, kc2, kcl⟩ := ent hb1
  go_wp2_with fail
  refine (unhide FD w1 hb1).mono ?_
  rintro e w2 ⟨hb2, (⟨i, r, hi, er, rfl⟩ | ⟨_, j, rfl⟩)⟩
  · exact absurd er (unhide HN r (List.mem_of_getElem? hi))
  have kb0 := (hb2.cell (p := ⟨w.heap.size, 0, none⟩) kcl).trans kc0
  have kb1 := (hb2.cell (p := ⟨w.heap.size, 1, none⟩) kcl).trans kc1
  have kb2 := (hb2.cell (p := ⟨w.heap.size, 2, none⟩) kcl).trans kc2
  have kbl : w.heap.size < w2.heap.size := Nat.lt_of_lt_of_le kcl hb2.size
  have nX : ¬ X w.heap.size := fun hx => Nat.lt_irrefl _ ((unhide HH).lo _ hx).2
  clear kc0 kc1 kc2
  have B2 := hb1.trans (hb2.mono hb1.size)
  clear hb2 FD
  have c0' := (B2.cell (p := ⟨b, 0, none⟩) hb).trans c0
  have c1' := (B2.cell (p := ⟨b, 1, none⟩) hb).trans c1
  have c2' := (B2.cell (p := ⟨b, 2, none⟩) hb).trans c2
  have f0' := (B2.frozen (p := ⟨b, 0, none⟩) hb).trans (unhide fr 0)
  have f1' := (B2.frozen (p := ⟨b, 1, none⟩) hb).trans (unhide fr 1)
  have f2' := (B2.frozen (p := ⟨b, 2, none⟩) hb).trans (unhide fr 2)
  have hb2 : b < w2.heap.size := Nat.lt_of_lt_of_le hb B2.size
  have H2 := hide ((unhide HH).below B2)
  have bB := ((unhide HH).lo b (unhide HH).xb).1
  have hbm : b ≠ m := fun e => (unhide HH).nb (by rw [unhide HX, e])
  have hown2 : w2.ownsMap Try.prog 30 (plainElem (H := Unit) Try.prog 3) m k D := own_same (B2.block m ((unhide HH).lo m xm).2) (unhide HO)
  go_wp2_with fail
  have w3 : ∃ w3, w2 = w3 ∧ w3.cell? ⟨b, 0, none⟩ = some (.slice a n cap) ∧ w3.cell? ⟨b, 1, none⟩ = some (.map (some m)) ∧ w3.cell? ⟨b, 2, none⟩ = some (.int .i64 (nx : Nat)) ∧ w3.frozen? ⟨b, 0, none⟩ = false ∧ w3.frozen? ⟨b, 2, none⟩ = false ∧ m < w3.heap.size ∧
      w3.ownsMap Try.prog 30 (plainElem (H := Unit) Try.prog 3) m k D ∧ Kx X w2 w3 ∧ Hid ((∀ i, w3.frozen? ⟨b, i, none⟩ = false) ∧ (∀ i, X i → M ≠ some i → IsC w3 i) ∧ ¬ (X m ∧ M ≠ some m) ∧ (∀ i, M = some i → i = m) ∧ Maps.IsMap D ∧ k ≤ nx ∧ Fits D rs ∧ Lie w3 (fun i => X i ∧ i ≠ b ∧ M ≠ some i) (.slice a n cap) rs ∧ ∃ X3 : Nat → Prop, (∀ i, X i → X3 i) ∧ (∀ i, X3 i → X i ∨ (i = m ∧ w2.heap.size ≤ i)) ∧ X3 m) := by
    have h2 := unhide H2
    refine ⟨w2, rfl, c0', c1', c2', f0', f2', (h2.lo m xm).2, hown2, Kx.refl _ _, hide ⟨h2.fr, fun i hi hm => (h2.dat i hi).elim (fun e => absurd e hm) (fun hc => hc), fun hx => hx.2 (unhide HX), fun i hi => (by rw [unhide HX] at hi; cases hi; rfl), hown2.isMap, hk, unhide HF, ?_, X, fun i hi => hi, fun i hi => .inl hi, xm⟩⟩
    obtain ⟨v', e1, hl⟩ := h2.rows
    rw [c0'] at e1
    cases e1
    exact hl
  obtain ⟨w3, e3, a0, a1, a2, z0, z2, hm3, hown3, K3, R3⟩ := w3
  have kd0 := (K3.cell (p := ⟨w.heap.size, 0, none⟩) kbl nX).trans kb0
  have kd1 := (K3.cell (p := ⟨w.heap.size, 1, none⟩) kbl nX).trans kb1
  have kd2 := (K3.cell (p := ⟨w.heap.size, 2, none⟩) kbl nX).trans kb2
  have kdl : w.heap.size < w3.heap.size := Nat.lt_of_lt_of_le kbl K3.size
  clear kb0 kb1 kb2
  have hkm : w.heap.size ≠ m := fun e => nX (e ▸ xm)
  have B2' : Below w.heap.size w w2 := B2
  have W2 := hide (⟨w2, B2, K3, R3⟩ : ∃ w2', Below w.heap.size w w2' ∧ Kx X w2' w3 ∧ Hid ((∀ i, w3.frozen? ⟨b, i, none⟩ = false) ∧ (∀ i, X i → M ≠ some i → IsC w3 i) ∧ ¬ (X m ∧ M ≠ some m) ∧ (∀ i, M = some i → i = m) ∧ Maps.IsMap D ∧ k ≤ nx ∧ Fits D rs ∧ Lie w3 (fun i => X i ∧ i ≠ b ∧ M ≠ some i) (.slice a n cap) rs ∧ ∃ X3 : Nat → Prop, (∀ i, X i → X3 i) ∧ (∀ i, X3 i → X i ∨ (i = m ∧ w2'.heap.size ≤ i)) ∧ X3 m))
  rw [e3]
  clear hown2 hsm
  have hbw3 : b < w3.heap.size := Nat.lt_of_lt_of_le hb2 K3.size
  have kl : k < maxLen := by
    have := (unhide R3).2.2.2.2.2.1
    simp only [maxLen]
    omega
  clear c0' c1' c2' f0' f1' f2' K3 R3 H2 B2 hb2
  obtain ⟨w4, hrun, hown4, hg4⟩ := hown3.drew.update law Try.underlying24 kl (key_mk2 s) (plainElem_int (q := .i64) Try.underlying3 (a := (nx : Int)) (by simp [Lit.wf, IntKind.min, IntKind.max, IntKind.signed, IntKind.bits]; omega))
  go_region
  have hb3 : b < w3.drew.heap.size := hbw3
  have hb4 : b < w4.heap.size := Nat.lt_of_lt_of_le hb3 hg4.size
  have nb : (some b : Option Nat) ≠ some m := by simp; omega
  have nbk : (some w.heap.size : Option Nat) ≠ some m := by simp; exact hkm
  have ke0 := (hg4.cell_far ⟨w.heap.size, 0, none⟩ kdl nbk).trans kd0
  have ke1 := (hg4.cell_far ⟨w.heap.size, 1, none⟩ kdl nbk).trans kd1
  have ke2 := (hg4.cell_far ⟨w.heap.size, 2, none⟩ kdl nbk).trans kd2
  have kel : w.heap.size < w4.heap.size := Nat.lt_of_lt_of_le kdl hg4.size
  clear kd0 kd1 kd2
  have k0 := (hg4.cell_far ⟨b, 0, none⟩ hb3 nb).trans a0
  have k1 := (hg4.cell_far ⟨b, 1, none⟩ hb3 nb).trans a1
  have k2 := (hg4.cell_far ⟨b, 2, none⟩ hb3 nb).trans a2
  have l0 := (hg4.frozen_far ⟨b, 0, none⟩ hb3 nb).trans z0
  have l2 := (hg4.frozen_far ⟨b, 2, none⟩ hb3 nb).trans z2
  clear hrun a0 a1 a2 z0 z2
  have l4 : Lie w4 (fun i => X i ∧ i ≠ b ∧ M ≠ some i) (.slice a n cap) rs := by
    obtain ⟨w2', -, -, R3⟩ := unhide W2
    have R := unhide R3
    refine R.2.2.2.2.2.2.2.1.move hg4.size (fun i hi => hg4.block i (by show i < w3.heap.size; exact (R.2.1 i hi.1 hi.2.2).lt) (fun e => ?_))
    cases e
    exact R.2.2.1 ⟨hi.1, hi.2.2⟩
  obtain ⟨a5, c5, w5, hrun5, l5, k5, i5⟩ := app_row w4 _ _ rs ((nx : Int), s, v) 52 23 l4 (by have := unhide HL; omega)
  have R5 := hide (⟨l5, k5, i5⟩ : Lie w5 _ (.slice a5 (rs.length + 1) c5) (rs ++ [((nx : Int), s, v)]) ∧ Kx (fun i => X i ∧ i ≠ b ∧ M ≠ some i) w4 w5 ∧ (∀ i, IsC w4 i → IsC w5 i))
  rw [← unhide HL] at hrun5
  have m0 := (k5.cell (p := ⟨b, 0, none⟩) hb4 (fun hx => hx.2.1 rfl)).trans k0
  have m1 := (k5.cell (p := ⟨b, 1, none⟩) hb4 (fun hx => hx.2.1 rfl)).trans k1
  have m2 := (k5.cell (p := ⟨b, 2, none⟩) hb4 (fun hx => hx.2.1 rfl)).trans k2
  have n0 := (k5.frozen (p := ⟨b, 0, none⟩) hb4 (fun hx => hx.2.1 rfl)).trans l0
  have n2 := (k5.frozen (p := ⟨b, 2, none⟩) hb4 (fun hx => hx.2.1 rfl)).trans l2
  have p1 := (World.cell?_setCell_other w5 ⟨b, 0, none⟩ ⟨b, 1, none⟩ (.slice a5 (n + 1) c5) (by simp)).trans m1
  have p2 := (World.cell?_setCell_other w5 ⟨b, 0, none⟩ ⟨b, 2, none⟩ (.slice a5 (n + 1) c5) (by simp)).trans m2
  have p0 := World.cell?_setCell_same w5 ⟨b, 0, none⟩ (.slice a5 (n + 1) c5) m0
  clear l4 l5 k5 i5
  go_wp2_with fail
  go_region_law (refine step_app rfl _ _ 23 23 rfl (.slice a n cap) (.slice (some ⟨w4.heap.size, 0, none⟩) 1 1) (by simp [Act.eval]) (by simp [Act.eval]) (.slice a5 (n + 1) c5) w5 hrun5 ?_)
  all_goals go_wp2
  all_goals go_ret
  all_goals (
    obtain ⟨w2', B2, K3, R3⟩ := unhide W2
    obtain ⟨r1, r2, r3, r4, r5, r6, r7, r8, X3, x1, x2, x3⟩ := unhide R3
    obtain ⟨l5, k5, i5⟩ := unhide R5
    rw [unhide HL] at p0 ⊢
    exact put_end (unhide HH) B2 K3 x1 x2 x3 r4 hbm hm3 r2 (unhide HN) r3 r1 hg4 hown4 r5 r6 r7 l5 k5 i5 p0 m1 m2)

/-- Put -/
theorem put_tb {w : World} {B : Nat} {X : Nat → Prop} {b : Nat} {M : Option Nat} {rs : List Rw} {nx : Nat} (h : Tb w B X b M rs nx) (s : Fin 65536) (v : Sv) (hs : True) (hn : rs.length ≤ 1099511627776) (hx : nx ≤ 1152921504606846976) :
    Calls Try.prog 4 #[.pointer (some ⟨b, 0, none⟩), .agg #[.int .i8 (p0 s), .int .i8 (p1 s), .bool (p2 s)], .slice v.1 v.2.1 v.2.2] w (PtPost B X b M rs nx s v w) := by
  by_cases hno : ∀ r ∈ rs, r.2.1 ≠ s
  · rcases h.map with ⟨h1, -⟩ | ⟨m, k, D, h1, -⟩
    · exact put_newA h s v hs hn hx hno h1
    · exact put_newB h s v hs hn hx hno m h1
  · simp only [Classical.not_forall] at hno
    obtain ⟨r, hr, hk⟩ := hno
    obtain ⟨i, hi⟩ := List.mem_iff_getElem?.1 hr
    exact put_hit h s v hs hn hi (by simpa using hk)
end Go.Proofs.Ytlgmonphhimbdaa.knd
