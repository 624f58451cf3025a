import Derived.Test.YtlgmonphhimbdaaTk9
import Derived.RangeFuncBox
namespace Go.Proofs.Ytlgmonphhimbdaa.knd
open Go.ChangeShapes Go.WideShapes Go.ChangeAt Go.RowKit Go.Maps Go.Shelf
open wk
set_option linter.unusedVariables false
/-- the keys' numbers -/
def kys (rs : List Rw) : List Int := rs.map (fun r => ((r.2.1.val : Nat) : Int))
theorem kn_val {k : Nat} (hk : k < 65536) : (kn k).val = k := Nat.mod_eq_of_lt hk
theorem kn_fin (s : Fin 65536) : kn s.val = s := Fin.ext (Nat.mod_eq_of_lt s.isLt)
theorem gt_has {rs : List Rw} {ps : List Pr} (h : kys rs = ps.map (·.1)) {k : Nat} (hk : k < 65536) : (gtR rs (kn k)).isSome = hasP ps (k : Int) := by
  have e : ∀ r : Rw, r.2.1 = kn k ↔ ((r.2.1.val : Nat) : Int) = (k : Int) := fun r => by
    constructor
    · intro h; rw [h, kn_val hk]
    · intro h; exact Fin.ext (by rw [kn_val hk]; omega)
  have h1 : (gtR rs (kn k)).isSome = true ↔ (k : Int) ∈ kys rs := by
    unfold gtR kys
    rw [Option.isSome_map, List.find?_isSome]
    simp only [List.mem_map, decide_eq_true_eq]
    constructor
    · rintro ⟨r, hr, he⟩; exact ⟨r, hr, (e r).1 he⟩
    · rintro ⟨r, hr, he⟩; exact ⟨r, hr, (e r).2 he⟩
  have h2 : hasP ps (k : Int) = true ↔ (k : Int) ∈ ps.map (·.1) := by
    unfold hasP
    rw [List.any_eq_true]
    simp only [List.mem_map, beq_iff_eq]
  rw [h, ← h2] at h1
  cases h3 : (gtR rs (kn k)).isSome <;> cases h4 : hasP ps (k : Int) <;> simp_all
theorem put_kys {rs : List Rw} {ps : List Pr} (h : kys rs = ps.map (·.1)) {k : Nat} (hk : k < 65536) (nx : Nat) (v : Sv) (x : Int) : kys (putR rs nx (kn k) v) = (putP ps (k : Int) x).map (·.1) := by
  have hg := gt_has h hk
  unfold putR putP
  rw [← hg]
  split
  · have e1 : kys (rs.map (fun r => if r.2.1 = kn k then (r.1, r.2.1, v) else r)) = kys rs := by
      unfold kys
      rw [List.map_map]
      refine List.map_congr_left fun r _ => ?_
      simp only [Function.comp]
      split <;> rfl
    have e2 : (ps.map (setP (k : Int) x)).map (·.1) = ps.map (·.1) := by
      rw [List.map_map]
      refine List.map_congr_left fun p _ => ?_
      simp only [Function.comp, setP]
      split <;> rfl
    rw [e1, e2, h]
  · have e1 : kys (rs ++ [((nx : Int), kn k, v)]) = kys rs ++ [(k : Int)] := by simp [kys, kn_val hk]
    rw [e1, h]
    simp
theorem put_len {rs : List Rw} {nx : Nat} {s : Fin 65536} {v : Sv} (h : nx = rs.length) : nxR rs nx s = (putR rs nx s v).length := by
  unfold nxR putR
  split <;> simp [h]
theorem put_mem {rs : List Rw} {nx : Nat} {s : Fin 65536} {v : Sv} {q : Rw} (h : q ∈ putR rs nx s v) : q ∈ rs ∨ q.2.2 = v ∨ ∃ r ∈ rs, q.2.2 = r.2.2 := by
  unfold putR at h
  split at h
  · obtain ⟨r, hr, e⟩ := List.mem_map.1 h
    split at e
    · subst e; exact .inr (.inl rfl)
    · subst e; exact .inl hr
  · rcases List.mem_append.1 h with h | h
    · exact .inl h
    · simp at h; subst h; exact .inr (.inl rfl)
theorem rs_few {D : DataW Unit} {rs : List Rw} (hf : Fits D rs) (hr : Rising rs) : rs.length ≤ 65536 := by
  have h := few 65536 (rs.map (fun r => r.2.1.val)) ?_ (fun x hx => by obtain ⟨r, _, rfl⟩ := List.mem_map.1 hx; exact r.2.1.isLt)
  · simpa using h
  · rw [List.Nodup, List.pairwise_map, List.pairwise_iff_getElem]
    intro i j hi hj hij e
    have := keys_apart hf hr (List.getElem?_eq_getElem hi) (List.getElem?_eq_getElem hj) (Fin.ext e)
    omega
theorem Tb.few {w : World} {B : Nat} {X : Nat → Prop} {b : Nat} {M : Option Nat} {rs : List Rw} {nx : Nat} (h : Tb w B X b M rs nx) : rs.length ≤ 65536 := by
  rcases h.map with ⟨_, h1, _⟩ | ⟨m, k, D, _, _, _, _, _, h6⟩
  · rw [h1]; simp
  · exact rs_few h6 h.ris
/-- a list's block: cells that may be written -/
def Vb (W : World) (g : Nat) : Prop := ∃ cs t, W.heap[g]? = some (Obj.cells cs t (0, 0)) ∧ 0 < cs.size
theorem Vb.lt {W : World} {g : Nat} (h : Vb W g) : g < W.heap.size := by
  obtain ⟨cs, t, h, _⟩ := h
  exact (Array.getElem?_eq_some_iff.1 h).1
theorem Vb.same {W W' : World} {g : Nat} (h : Vb W g) (e : W'.heap[g]? = W.heap[g]?) : Vb W' g := by
  obtain ⟨cs, t, h, h2⟩ := h
  exact ⟨cs, t, e.trans h, h2⟩
theorem Vb.cell {W : World} {g : Nat} (h : Vb W g) : (∃ v, W.cell? ⟨g, 0, none⟩ = some v) ∧ W.frozen? ⟨g, 0, none⟩ = false := by
  obtain ⟨cs, t, h, h2⟩ := h
  refine ⟨⟨cs[0], ?_⟩, by simp [World.frozen?, h]⟩
  simp [World.cell?, h, Array.getElem?_eq_getElem h2]
theorem Vb.set {W : World} {g : Nat} (h : Vb W g) (p : Addr) (u : Value) : Vb (W.setCell p u) g := by
  obtain ⟨cs, t, h, h2⟩ := h
  by_cases e : g = p.block
  · subst e
    unfold Vb World.setCell
    simp
    grind
  · exact ⟨cs, t, (Below.heap_setCell W p u g e).trans h, h2⟩
/-- what TreeKinds keeps: the table at ob, the list at lb, the result at rb; V: the blocks of the lists that are values -/
structure Kn (w W : World) (rb ob lb : Nat) (X V : Nat → Prop) (M : Option Nat) (rs : List Rw) (nx : Nat) (u : Value) (ps : List Pr) : Prop where
  tb : Tb W w.heap.size X ob M rs nx
  eqk : kys rs = ps.map (·.1)
  rl : RL W (fun j => ¬ X j ∧ ¬ V j ∧ j ≠ rb ∧ j ≠ lb) u ps
  l : Boxed W lb 35 u
  r : Boxed W rb 4 (.bool false)
  vs : ∀ q ∈ rs, ∃ g n c, q.2.2 = (some ⟨g, 0, none⟩, n + 1, c) ∧ n ≤ 1 ∧ V g
  vb : ∀ g, V g → Vb W g
  vx : ∀ g, V g → ¬ X g ∧ g ≠ rb ∧ g ≠ lb ∧ w.heap.size ≤ g
  xr : ¬ X rb ∧ ¬ X lb ∧ rb ≠ lb
  wr : w.heap.size ≤ rb ∧ w.heap.size ≤ lb
  nxe : nx = rs.length
  bel : Below w.heap.size w W
theorem Kn.len {w W : World} {rb ob lb : Nat} {X V : Nat → Prop} {M : Option Nat} {rs : List Rw} {nx : Nat} {u : Value} {ps : List Pr} (h : Kn w W rb ob lb X V M rs nx u ps) : rs.length ≤ 65536 ∧ ps.length = rs.length := by
  refine ⟨h.tb.few, ?_⟩
  have := congrArg List.length h.eqk
  simpa [kys] using this.symm
theorem Kn.below {w W W' : World} {rb ob lb : Nat} {X V : Nat → Prop} {M : Option Nat} {rs : List Rw} {nx : Nat} {u : Value} {ps : List Pr} (h : Kn w W rb ob lb X V M rs nx u ps) (hb : Below W.heap.size W W') : Kn w W' rb ob lb X V M rs nx u ps :=
  ⟨h.tb.below hb, h.eqk, h.rl.below hb, (hb.block _ h.l.lt).trans h.l, (hb.block _ h.r.lt).trans h.r, h.vs, fun g hg => (h.vb g hg).same (hb.block g (h.vb g hg).lt), h.vx, h.xr, h.wr, h.nxe, h.bel.trans (hb.mono h.bel.size)⟩
theorem Kn.write {w W : World} {rb ob lb : Nat} {X V : Nat → Prop} {M : Option Nat} {rs : List Rw} {nx : Nat} {u : Value} {ps : List Pr} (h : Kn w W rb ob lb X V M rs nx u ps) {g : Nat} (hg : V g) (x : Value) : Kn w (W.setCell ⟨g, 0, none⟩ x) rb ob lb X V M rs nx u ps := by
  obtain ⟨g1, g2, g3, g4⟩ := h.vx g hg
  have far : ∀ j, j ≠ g → (W.setCell ⟨g, 0, none⟩ x).heap[j]? = W.heap[j]? := fun j hj => Below.heap_setCell W ⟨g, 0, none⟩ x j hj
  refine ⟨h.tb.move (by simp) (fun k hk => far k (fun e => g1 (e ▸ hk))), h.eqk, h.rl.move (by simp) (fun k _ hk => far k (fun e => hk.2.1 (e ▸ hg))), (far _ (fun e => g3 e.symm)).trans h.l, (far _ (fun e => g2 e.symm)).trans h.r, h.vs, fun j hj => (h.vb j hj).set _ _, h.vx, h.xr, h.wr, h.nxe, h.bel.setCell (p := ⟨g, 0, none⟩) g4 _⟩
/-- a Put, and the list written down -/
theorem Kn.put {w W W3 W4 : World} {rb ob lb : Nat} {X V X' : Nat → Prop} {M M' : Option Nat} {rs : List Rw} {nx : Nat} {u u' : Value} {ps : List Pr} {k g : Nat} {x : Int} (hk : k < 65536) (h : Kn w W rb ob lb X V M rs nx u ps)
    (b3 : Below W.heap.size W W3) (hu : RL W3 (fun j => W.heap.size ≤ j ∧ j ≠ g) u' (putP ps (k : Int) x)) (hg : Vb W3 g) (hg2 : W.heap.size ≤ g) {n c : Nat} (hn : n ≤ 1)
    (tb : Tb W4 w.heap.size X' ob M' (putR rs nx (kn k) (some ⟨g, 0, none⟩, n + 1, c)) (nxR rs nx (kn k))) (x1 : ∀ j, X j → X' j) (x2 : ∀ j, X' j → X j ∨ W3.heap.size ≤ j) (k4 : Kx X W3 W4) :
    Kn w (W4.setCell ⟨lb, 0, none⟩ u') rb ob lb X' (fun j => V j ∨ j = g) M' (putR rs nx (kn k) (some ⟨g, 0, none⟩, n + 1, c)) (nxR rs nx (kn k)) u' (putP ps (k : Int) x) := by
  have h3 := h.below b3
  have s3 := b3.size
  have s4 := k4.size
  have xlt : ∀ j, X j → j < W.heap.size := fun j hj => (h.tb.lo j hj).2
  have ll := h.l.lt
  have rl := h.r.lt
  have kx : ∀ j, j < W3.heap.size → ¬ X j → ¬ X' j := fun j h1 h2 h3 => (x2 j h3).elim h2 (fun h => by omega)
  have far : ∀ j, j ≠ lb → (W4.setCell ⟨lb, 0, none⟩ u').heap[j]? = W4.heap[j]? := fun j hj => Below.heap_setCell W4 ⟨lb, 0, none⟩ u' j hj
  have nl' : ¬ X' lb := kx lb (by omega) h.xr.2.1
  have nr' : ¬ X' rb := kx rb (by omega) h.xr.1
  have gX : ¬ X g := fun hx => by have := xlt g hx; omega
  refine ⟨tb.move (by simp) (fun j hj => far j (fun e => nl' (e ▸ hj))), put_kys h.eqk hk _ _ _, ?_, ?_, ?_, ?_, ?_, ?_, ⟨nr', nl', h.xr.2.2⟩, h.wr, put_len h.nxe, ?_⟩
  · obtain ⟨a, cc, e, h1⟩ := hu
    refine ⟨a, cc, e, h1.imp id (fun ⟨p, e1, hp, hN, hra⟩ => ⟨p, e1, by simp; omega, ⟨kx p hp (fun hx => by have := xlt p hx; omega), ?_, by omega, by omega⟩, ra_same ((far p (by omega)).trans (k4.block p hp (fun hx => by have := xlt p hx; omega))) hra⟩)⟩
    rintro (hv | rfl)
    · have := (h.vb p hv).lt; omega
    · exact hN.2 rfl
  · have hl4 : Boxed W4 lb 35 u := (k4.block lb h3.l.lt h.xr.2.1).trans h3.l
    exact hl4.set u'
  · exact (far rb (fun e => h.xr.2.2 e)).trans ((k4.block rb h3.r.lt h.xr.1).trans h3.r)
  · intro q hq
    rcases put_mem hq with h1 | h1 | ⟨r, hr, h1⟩
    · obtain ⟨g', n', c', e1, e2, e3⟩ := h.vs q h1
      exact ⟨g', n', c', e1, e2, .inl e3⟩
    · exact ⟨g, n, c, h1, hn, .inr rfl⟩
    · obtain ⟨g', n', c', e1, e2, e3⟩ := h.vs r hr
      exact ⟨g', n', c', h1.trans e1, e2, .inl e3⟩
  · rintro j (hj | rfl)
    · exact ((h3.vb j hj).same (k4.block j (h3.vb j hj).lt (h.vx j hj).1)).set _ _
    · exact (hg.same (k4.block j hg.lt gX)).set _ _
  · rintro j (hj | rfl)
    · obtain ⟨a1, a2, a3, a4⟩ := h.vx j hj
      exact ⟨kx j (by have := (h.vb j hj).lt; omega) a1, a2, a3, a4⟩
    · exact ⟨kx j hg.lt gX, by omega, by omega, by have := h.bel.size; omega⟩
  · exact (h3.bel.trans (k4.below h3.bel.size (fun j hj => (h.tb.lo j hj).1))).setCell (p := ⟨lb, 0, none⟩) h.wr.2 _
end Go.Proofs.Ytlgmonphhimbdaa.knd
