import Derived.Test.YtlgmonphhimbdaaDoorTbm
namespace Go.Proofs.YtlgmonphhimbdaaDoor.tab
open Go.ChangeShapes Go.WideShapes Go.ChangeAt Go.RowKit Go.Maps Go.Shelf
open wk
attribute [local go_sem] Oper.semAt_some
set_option linter.unusedVariables false
set_option linter.unusedSimpArgs false
/-- what a step of the script leaves -/
def StPost (B : Nat) (X : Nat → Prop) (b : Nat) (M : Option Nat) (nx : Nat) (ps : List Pr) (N : Nat → Prop) (w : World) (e : Ending) (w' : World) : Prop :=
  ∃ v' X' M' rs' nx' ps', e = .returned (.tuple #[v', .bool true]) ∧ Tb w' B X' b M' rs' nx' ∧ Rel rs' ps' ∧ RL w' (fun j => (j < w.heap.size → N j) ∧ ¬ X' j) v' ps' ∧ ps'.length ≤ ps.length + 1 ∧ nx' ≤ nx + 1048577 ∧ (∀ j, X' j → X j ∨ w.heap.size ≤ j) ∧ Kx X w w'
theorem rel_dis {w : World} {B : Nat} {X : Nat → Prop} {b : Nat} {M : Option Nat} {rs : List Rw} {nx : Nat} {ps : List Pr} (h : Tb w B X b M rs nx) (hR : Rel rs ps) : ∀ (i j : Nat) (p r : Pr), ps[i]? = some p → ps[j]? = some r → p.1 = r.1 → i = j := by
  intro i j p r hi hj e
  obtain ⟨x, hx⟩ := hR.get hi
  obtain ⟨y, hy⟩ := hR.get hj
  rcases h.map with ⟨-, h0, -⟩ | ⟨m, k, D, -, -, -, -, -, h6⟩
  · rw [h0] at hx; cases hx
  · exact keys_apart h6 h.ris hx hy (by show nm p.1 = nm r.1; rw [e])
theorem RL.but {w w' : World} {N : Nat → Prop} {v : Value} {ps : List Pr} (h : RL w N v ps) (hs : w.heap.size ≤ w'.heap.size) (hb : ∀ j, j < w.heap.size → (∃ i, w.cell? ⟨j, 0, none⟩ = some (.int .i64 i)) → w'.heap[j]? = w.heap[j]?) : RL w' N v ps := by
  obtain ⟨a, c, e, h1⟩ := h
  refine ⟨a, c, e, ?_⟩
  by_cases hp0 : ps = []
  · exact .inl hp0
  rcases h1 with h1 | ⟨p, e1, hp, hN, hra⟩
  · exact .inl h1
  · obtain ⟨q, qs, rfl⟩ := List.exists_cons_of_ne_nil hp0
    have := hra 0 (.int .i64 q.1) (by rw [flat2_cons]; rfl)
    exact .inr ⟨p, e1, by omega, hN, ra_same (hb p hp ⟨_, this⟩) hra⟩
theorem has_all {ps : List Pr} {i : Nat} {p : Pr} (h : ps[i]? = some p) : hasP ps p.1 = true := by
  unfold hasP
  rw [List.any_eq_true]
  exact ⟨p, List.mem_of_getElem? h, by simp⟩
set_option maxRecDepth 100000 in
set_option maxHeartbeats 1000000 in
theorem while_ok {w : World} {B : Nat} {F : Nat → Prop} {b : Nat} {M : Option Nat} {rs : List Rw} {nx : Nat} {N : Nat → Prop} {u : Value} {ps : List Pr} (kd K V : Int) (h : Tb w B F b M rs nx) (hR : Rel rs ps) (hL : RL w N u ps) (hN : ∀ j, N j → ¬ F j) (hn : ps.length ≤ 1048576) (hx : nx ≤ 1152921504605798400) (hT : Tw B w) (hB : B ≤ w.heap.size) :
    Calls Tryd.prog 19 #[.pointer (some ⟨b, 0, none⟩), u, .agg #[.int .i64 kd, .int .i64 K, .int .i64 V]] w (StPost B F b M nx ps N w) := by
  have hL0 := hL
  obtain ⟨a, c, rfl, h1⟩ := hL
  obtain ⟨q, hq⟩ : ∃ q, q = ps.length := ⟨_, rfl⟩
  rw [← hq] at hL0 ⊢
  have hqb : q ≤ 1048576 := by omega
  refine (callsIn_wide (n := 8)).1 ?_
  refine callsIn_of_wp_marks Tryd.func19 rfl trivial ?_ rfl
  simp only [Tryd.ntmps19, List.size_toArray, List.length_cons, List.length_nil, Nat.reduceAdd, Nat.reduceSub, Array.replicate_succ, Array.replicate_zero, List.push_toArray, List.append_toArray, List.nil_append, List.cons_append]
  have HH := hide h
  have HR := hide hR
  have H1 := hide h1
  have HT := hide hT
  have HQ := hide hq
  have HN := hide hN
  have HL := hide hL0
  clear h hR h1 hT hn hq hN hL0
  gi_wp2_with fail
  refine ⟨trivial, (all_any Fence.wide 7 trivial rfl _ _).mono ?_⟩
  rintro e U ⟨rfl, hU⟩
  obtain ⟨w7, e7⟩ : ∃ w7, w7 = (((((((w.alloc (Obj.cells #[Value.pointer (some ⟨b, 0, none⟩)] 23)).alloc (Obj.cells #[Value.slice a q c] 29)).alloc (Obj.cells #[Value.int IntKind.i64 kd, Value.int IntKind.i64 K, Value.int IntKind.i64 V] 31)).alloc (Obj.cells #[Value.slice none 0 0] 29)).alloc (Obj.cells #[Value.bool false] 4)).alloc (Obj.cells #[Value.int IntKind.i64 0] 3)).alloc (Obj.cells #[Value.slice a q c] 29)) := ⟨_, rfl⟩
  have s7 : w7.heap.size = w.heap.size + 7 := by rw [e7]; simp
  have b7 : Below w.heap.size w w7 := by rw [e7]; exact (((((((Below.refl _ _).alloc (Nat.le_refl _) _).alloc (by simp) _).alloc (by simp; omega) _).alloc (by simp; omega) _).alloc (by simp; omega) _).alloc (by simp; omega) _).alloc (by simp; omega) _
  have y0 : w7.heap[w.heap.size]? = some (Obj.cells #[Value.pointer (some ⟨b, 0, none⟩)] 23) := by rw [e7]; have := World.alloc_heap_new w (Obj.cells #[Value.pointer (some ⟨b, 0, none⟩)] 23); exact (Below.heap_alloc _ _ _ (by simp; try omega)).trans ((Below.heap_alloc _ _ _ (by simp; try omega)).trans ((Below.heap_alloc _ _ _ (by simp; try omega)).trans ((Below.heap_alloc _ _ _ (by simp; try omega)).trans ((Below.heap_alloc _ _ _ (by simp; try omega)).trans ((Below.heap_alloc _ _ _ (by simp; try omega)).trans (this))))))
  have y1 : w7.heap[w.heap.size + 1]? = some (Obj.cells #[Value.slice a q c] 29) := by rw [e7]; have := World.alloc_heap_new (w.alloc (Obj.cells #[Value.pointer (some ⟨b, 0, none⟩)] 23)) (Obj.cells #[Value.slice a q c] 29); rw [World.size_alloc] at this; exact (Below.heap_alloc _ _ _ (by simp; try omega)).trans ((Below.heap_alloc _ _ _ (by simp; try omega)).trans ((Below.heap_alloc _ _ _ (by simp; try omega)).trans ((Below.heap_alloc _ _ _ (by simp; try omega)).trans ((Below.heap_alloc _ _ _ (by simp; try omega)).trans (this)))))
  have y2 : w7.heap[w.heap.size + 1 + 1]? = some (Obj.cells #[Value.int IntKind.i64 kd, Value.int IntKind.i64 K, Value.int IntKind.i64 V] 31) := by rw [e7]; have := World.alloc_heap_new ((w.alloc (Obj.cells #[Value.pointer (some ⟨b, 0, none⟩)] 23)).alloc (Obj.cells #[Value.slice a q c] 29)) (Obj.cells #[Value.int IntKind.i64 kd, Value.int IntKind.i64 K, Value.int IntKind.i64 V] 31); rw [World.size_alloc, World.size_alloc] at this; exact (Below.heap_alloc _ _ _ (by simp; try omega)).trans ((Below.heap_alloc _ _ _ (by simp; try omega)).trans ((Below.heap_alloc _ _ _ (by simp; try omega)).trans ((Below.heap_alloc _ _ _ (by simp; try omega)).trans (this))))
  have y3 : w7.heap[w.heap.size + 1 + 1 + 1]? = some (Obj.cells #[Value.slice none 0 0] 29) := by rw [e7]; have := World.alloc_heap_new (((w.alloc (Obj.cells #[Value.pointer (some ⟨b, 0, none⟩)] 23)).alloc (Obj.cells #[Value.slice a q c] 29)).alloc (Obj.cells #[Value.int IntKind.i64 kd, Value.int IntKind.i64 K, Value.int IntKind.i64 V] 31)) (Obj.cells #[Value.slice none 0 0] 29); rw [World.size_alloc, World.size_alloc, World.size_alloc] at this; exact (Below.heap_alloc _ _ _ (by simp; try omega)).trans ((Below.heap_alloc _ _ _ (by simp; try omega)).trans ((Below.heap_alloc _ _ _ (by simp; try omega)).trans (this)))
  have y4 : w7.heap[w.heap.size + 1 + 1 + 1 + 1]? = some (Obj.cells #[Value.bool false] 4) := by rw [e7]; have := World.alloc_heap_new ((((w.alloc (Obj.cells #[Value.pointer (some ⟨b, 0, none⟩)] 23)).alloc (Obj.cells #[Value.slice a q c] 29)).alloc (Obj.cells #[Value.int IntKind.i64 kd, Value.int IntKind.i64 K, Value.int IntKind.i64 V] 31)).alloc (Obj.cells #[Value.slice none 0 0] 29)) (Obj.cells #[Value.bool false] 4); rw [World.size_alloc, World.size_alloc, World.size_alloc, World.size_alloc] at this; exact (Below.heap_alloc _ _ _ (by simp; try omega)).trans ((Below.heap_alloc _ _ _ (by simp; try omega)).trans (this))
  have y5 : w7.heap[w.heap.size + 1 + 1 + 1 + 1 + 1]? = some (Obj.cells #[Value.int IntKind.i64 0] 3) := by rw [e7]; have := World.alloc_heap_new (((((w.alloc (Obj.cells #[Value.pointer (some ⟨b, 0, none⟩)] 23)).alloc (Obj.cells #[Value.slice a q c] 29)).alloc (Obj.cells #[Value.int IntKind.i64 kd, Value.int IntKind.i64 K, Value.int IntKind.i64 V] 31)).alloc (Obj.cells #[Value.slice none 0 0] 29)).alloc (Obj.cells #[Value.bool false] 4)) (Obj.cells #[Value.int IntKind.i64 0] 3); rw [World.size_alloc, World.size_alloc, World.size_alloc, World.size_alloc, World.size_alloc] at this; exact (Below.heap_alloc _ _ _ (by simp; try omega)).trans (this)
  have y6 : w7.heap[w.heap.size + 1 + 1 + 1 + 1 + 1 + 1]? = some (Obj.cells #[Value.slice a q c] 29) := by rw [e7]; have := World.alloc_heap_new ((((((w.alloc (Obj.cells #[Value.pointer (some ⟨b, 0, none⟩)] 23)).alloc (Obj.cells #[Value.slice a q c] 29)).alloc (Obj.cells #[Value.int IntKind.i64 kd, Value.int IntKind.i64 K, Value.int IntKind.i64 V] 31)).alloc (Obj.cells #[Value.slice none 0 0] 29)).alloc (Obj.cells #[Value.bool false] 4)).alloc (Obj.cells #[Value.int IntKind.i64 0] 3)) (Obj.cells #[Value.slice a q c] 29); rw [World.size_alloc, World.size_alloc, World.size_alloc, World.size_alloc, World.size_alloc, World.size_alloc] at this; exact this
  rw [← e7] at hU ⊢
  have s8 : U.heap.size = w7.heap.size + 1 := by rw [hU]; simp
  have b8 : Below w7.heap.size w7 U := by rw [hU]; exact (Below.refl _ _).alloc (Nat.le_refl _) _
  have y7 : Boxed U w7.heap.size 23 (.pointer (some ⟨b, 0, none⟩)) := by rw [hU]; exact Boxed.new _ _ _
  have bU : Below w.heap.size w U := b7.trans (b8.mono b7.size)
  have E : WlE w U B F (fun j => j < w.heap.size → N j) b M nx ps a q c kd K V (w.heap.size) (w.heap.size + 1) (w.heap.size + 1 + 1) (w.heap.size + 1 + 1 + 1 + 1 + 1) (w.heap.size + 1 + 1 + 1 + 1 + 1 + 1) :=
    ⟨bU, hB, fun j hj => by omega, (unhide HH).lo, fun m hm => by
      rcases (unhide HH).map with ⟨e0, -⟩ | ⟨m', k, D, e0, -, hxm, -⟩
      · rw [hm] at e0; cases e0
      · rw [hm] at e0; cases e0; exact hxm, (b8.block _ (by omega)).trans y0, (b8.block _ (by omega)).trans y1, ra_same (b8.block _ (by omega)) (fun j v hv => by
      rw [Nat.zero_add]
      match j, hv with
      | 0, hv => simp at hv; subst hv; simp [World.cell?, y2]
      | 1, hv => simp at hv; subst hv; simp [World.cell?, y2]
      | 2, hv => simp at hv; subst hv; simp [World.cell?, y2]
      | (j + 3), hv => simp at hv), by omega, by omega, by omega, by omega, by omega, by omega, by omega, by omega, ⟨by omega, by omega⟩, ⟨by omega, by omega⟩, ⟨by omega, by omega⟩, by omega, unhide HQ, hqb, hx, (unhide HR).rng, rel_dis (unhide HH) (unhide HR), (unhide H1).imp id (fun ⟨p, h1, h2, h3, h4⟩ => ⟨p, h1, h2, unhide HN p h3, h4⟩), unhide HT⟩
  have I0 : WlI U B F (fun j => j < w.heap.size → N j) b M nx ps (w.heap.size + 1 + 1 + 1 + 1 + 1) (w.heap.size + 1 + 1 + 1 + 1 + 1 + 1) 0 U F rs nx ps (.slice a q c) :=
    ⟨⟨rfl, rfl, rfl, Nat.le_refl _, fun _ _ _ _ _ => rfl⟩, (unhide HH).below bU, unhide HR, fun i p _ hp => has_all hp, Nat.le_refl _, Nat.le_refl _, (b8.block _ (by omega)).trans y5, (b8.block _ (by omega)).trans y6, ((unhide HL).mono (N' := fun j => ¬ F j ∧ j ≠ w.heap.size + 1 + 1 + 1 + 1 + 1 ∧ j ≠ w.heap.size + 1 + 1 + 1 + 1 + 1 + 1 ∧ (j < w.heap.size → N j)) (fun j h1 h2 => ⟨unhide HN j h2, by omega, by omega, fun _ => h2⟩)).below bU, fun j hj => .inl hj, fun j hj => hj⟩
  have xr1 : Boxed U (w.heap.size + 1 + 1 + 1) 29 (.slice none 0 0) := (b8.block _ (by omega)).trans y3
  have xr2 : Boxed U (w.heap.size + 1 + 1 + 1 + 1) 4 (.bool false) := (b8.block _ (by omega)).trans y4
  have HE := hide E
  have HI0 := hide I0
  have HX1 := hide xr1
  have HX2 := hide xr2
  have HY7 := hide y7
  have SU := hide (show U.heap.size = w.heap.size + 8 by omega)
  have S7 := hide s7
  clear E I0 xr1 xr2 y0 y1 y2 y3 y4 y5 y6 y7 b7 b8 s7 s8 e7 hU bU
  have hfn := funcNil
  gi_wp2_with fail
  clear hfn
  have sU := unhide SU
  have s7 := unhide S7
  refine wpT_H (α := ByteArray × Int) rfl (by decide) (gf := 28) (lb := #[.pointer (some ⟨w7.heap.size, 0, none⟩)]) (encs := encE) (Rd := RdE (U.heap.size + 2)) (C := CE) (Kp := KpE (U.heap.size + 2)) (S := fun xs => xs = ents rs) (Sp := SpE (ents rs)) (Nx := NxE (ents rs)) rfl trivial (enters_of Tryd.func28 (by kernel_rfl) rfl)
    ?seq (fun A A' hc k _ h2 h3 => hc.block k h3) (fun x {A A' A''} h1 h2 => ⟨Nat.le_trans h1.1 h2.1, h2.2.trans h1.2⟩) (fun x W o o' _ => ⟨by simp, World.putObj_heap_other (by omega)⟩) (fun x => rfl)
    (WlJ U B F (fun j => j < w.heap.size → N j) b M nx ps (w.heap.size + 1 + 1 + 1 + 1 + 1) (w.heap.size + 1 + 1 + 1 + 1 + 1 + 1)) (fun _ _ _ => False) (fun pre A A' h hc => by obtain ⟨X, r, x, p, v, hI⟩ := h; exact ⟨X, r, x, p, v, hI.below (by omega) (by omega) hc⟩) (fun c pre A A' h hc => h)
    (fun pre A A' row h hg hr => by
      obtain ⟨X, r, x, p, v, hI⟩ := h
      exact ⟨X, r, x, p, v, hI.step (by omega) (by omega) hg (fun m hm e => by have := (hr m e.symm).1; have := ((unhide HE).lo m ((unhide HE).mF m hm)).2; omega) hr⟩)
    (fun c pre A A' row h hg hr => h)
    ⟨F, rs, nx, ps, _, unhide HI0⟩ (fun x a' W => U.heap.size + 4 ≤ W.heap.size ∧ a' = { tmps := #[.pointer (some ⟨b, 0, none⟩), .slice a q c, .agg #[.int .i64 kd, .int .i64 K, .int .i64 V], .pointer (some ⟨w.heap.size, 0, none⟩), .pointer (some ⟨w.heap.size + 1, 0, none⟩), .pointer (some ⟨w.heap.size + 1 + 1, 0, none⟩), .pointer (some ⟨w.heap.size + 1 + 1 + 1, 0, none⟩), .pointer (some ⟨w.heap.size + 1 + 1 + 1 + 1, 0, none⟩), .pointer (some ⟨w.heap.size + 1 + 1 + 1 + 1 + 1, 0, none⟩), .pointer (some ⟨w.heap.size + 1 + 1 + 1 + 1 + 1 + 1, 0, none⟩), .func (.func 28) #[] #[.pointer (some ⟨w7.heap.size, 0, none⟩)], .string x.1, .int .i64 x.2, undef, undef, undef, undef, undef, undef, .slice a q c, .pointer (some ⟨b, 0, none⟩), .func (.func 28) #[] #[.pointer (some ⟨w7.heap.size, 0, none⟩)], .func (.func 28) #[] #[.pointer (some ⟨w7.heap.size, 0, none⟩)], .bool false, undef, .func (.func 28) #[] #[.pointer (some ⟨w7.heap.size, 0, none⟩)], .string x.1, .int .i64 x.2, undef, undef, undef, undef, undef, undef, undef, undef, undef, undef, undef, undef, undef, undef, undef, undef, undef, undef, undef, undef, undef, undef, undef, undef, undef, undef, undef, undef, undef, undef, undef, undef, undef, undef, undef, undef, undef, undef, undef, undef, undef, undef, undef, undef, undef, undef, undef, undef, undef, undef, undef, undef, undef, undef, undef, undef, undef, undef, undef, undef, undef, undef, undef, undef, undef, undef, undef, undef, undef, undef, undef, undef, undef, undef], defers := [] }) (fun x a' _ W W' row hs hg hr => ⟨Nat.le_trans hs.1 hg.size, hs.2⟩) ?assign ?body ?done ?stop
  case seq =>
    intro W1 hb hs
    have := all_seq ((unhide HH).below ((unhide HE).bw.trans (hb.mono (unhide HE).bw.size))) (by have := (unhide HR).len; have := unhide HQ; omega) 7 (by decide) (Bo := w7.heap.size) ((hb.cell (p := ⟨w7.heap.size, 0, none⟩) (by show w7.heap.size < U.heap.size; omega)).trans (unhide HY7).cell)
    rw [hs] at this
    exact this
  case assign =>
    intro l pre x W K' hI hR hN hK
    have HI := hide hI
    have HRd := hide hR
    clear hI hR hN s7 sU
    unfold encE
    gi_wp2
    exact hK _ _ (KeepsFrom.refl _ _) ⟨Nat.le_refl _, rfl⟩ (unhide HI) ⟨unhide HRd, rfl⟩
  case body =>
    rintro l pre x a' W hl hlr hI ⟨hsz, rfl⟩ hnx
    exact wl_body (unhide HE) (unhide HR).eq hI hnx hsz
  case stop => exact fun _ _ _ _ _ _ _ h _ => h.elim
  case done =>
    rintro D xs W hD1 hD2 rfl ⟨X, r, x, p, v, hI⟩ hK
    have hlen : (ents rs).length = q := by rw [ents_len, (unhide HR).len, ← unhide HQ]
    rw [hlen] at hI
    obtain ⟨av, nv, cv, rfl⟩ := hI.rl.shape
    have nF : ∀ j, w.heap.size ≤ j → ¬ F j := fun j hj h => by have := ((unhide HE).lo _ h).2; omega
    have cn := hI.n.cell
    have cf := hI.f.cell
    have cl : W.cell? ⟨w.heap.size + 1, 0, none⟩ = some (.slice a q c) := (hI.kp.box (unhide HE).l (nF _ (by omega)) ⟨by omega, by omega⟩).cell
    have x1 := hI.kp.box (unhide HX1) (nF _ (by omega)) ⟨by omega, by omega⟩
    have x2 := hI.kp.box (unhide HX2) (nF _ (by omega)) ⟨by omega, by omega⟩
    have c1 := x1.cell
    have f1 := x1.frozen
    have c2 := x2.cell
    have f2 := x2.frozen
    have HI := hide hI
    have HX1' := hide x1
    have HX2' := hide x2
    have HD := hide (And.intro hD1 hD2)
    clear hI x1 x2 hlen nF HI0 HX1 HX2 HH H1 HT s7 sU hD1 hD2
    gi_wp2_with fail
    gi_region
    gi_wp2
    have hI := unhide HI
    have sU := unhide SU
    obtain ⟨hD1, hD2⟩ := unhide HD
    obtain ⟨Z, hZ⟩ : ∃ Z, Z = ((W.setCell ⟨w.heap.size + 1 + 1 + 1, 0, none⟩ (.slice av nv cv)).setCell ⟨w.heap.size + 1 + 1 + 1 + 1, 0, none⟩ (.bool true)).drew := ⟨_, rfl⟩
    rw [← hZ]
    have eZ : ∀ j, j ≠ w.heap.size + 1 + 1 + 1 → j ≠ w.heap.size + 1 + 1 + 1 + 1 → Z.heap[j]? = W.heap[j]? := fun j h1 h2 => by rw [hZ]; exact (Below.heap_setCell _ ⟨w.heap.size + 1 + 1 + 1 + 1, 0, none⟩ _ _ h2).trans (Below.heap_setCell _ ⟨w.heap.size + 1 + 1 + 1, 0, none⟩ _ _ h1)
    have sZ : Z.heap.size = W.heap.size := by rw [hZ]; show ((W.setCell ⟨w.heap.size + 1 + 1 + 1, 0, none⟩ (.slice av nv cv)).setCell ⟨w.heap.size + 1 + 1 + 1 + 1, 0, none⟩ (.bool true)).heap.size = _; simp
    have hKZ : Z.heap[D]? = some (.deferred (some [])) := (eZ D (by omega) (by omega)).trans hK
    have r1 : Boxed Z (w.heap.size + 1 + 1 + 1) 29 (.slice av nv cv) := by rw [hZ]; exact (Below.heap_setCell _ ⟨w.heap.size + 1 + 1 + 1 + 1, 0, none⟩ _ _ (show (w.heap.size + 1 + 1 + 1) ≠ (w.heap.size + 1 + 1 + 1 + 1) by omega)).trans ((unhide HX1').set _)
    have r2 : Boxed Z (w.heap.size + 1 + 1 + 1 + 1) 4 (.bool true) := by
      rw [hZ]
      have : Boxed (W.setCell ⟨w.heap.size + 1 + 1 + 1, 0, none⟩ (.slice av nv cv)) (w.heap.size + 1 + 1 + 1 + 1) 4 (.bool false) := (Below.heap_setCell _ ⟨w.heap.size + 1 + 1 + 1, 0, none⟩ _ _ (show (w.heap.size + 1 + 1 + 1 + 1) ≠ (w.heap.size + 1 + 1 + 1) by omega)).trans (unhide HX2')
      exact this.set _
    have q1 : (Z.putObj D (.deferred none)).cell? ⟨w.heap.size + 1 + 1 + 1, 0, none⟩ = some (.slice av nv cv) := Boxed.cell ((World.putObj_heap_other (by omega)).trans r1 : Boxed _ (w.heap.size + 1 + 1 + 1) 29 _)
    have q2 : (Z.putObj D (.deferred none)).cell? ⟨w.heap.size + 1 + 1 + 1 + 1, 0, none⟩ = some (.bool true) := Boxed.cell ((World.putObj_heap_other (by omega)).trans r2 : Boxed _ (w.heap.size + 1 + 1 + 1 + 1) 4 _)
    have os : Z.os = W.os ∧ Z.tape = W.tape ∧ Z.output = W.output := by rw [hZ]; exact ⟨rfl, rfl, rfl⟩
    refine ⟨by simp, .inl ⟨_, _, rfl, run_takeDeferred hKZ, ?_⟩⟩
    refine ⟨.tuple #[.slice av nv cv, .bool true], ?_, ?_⟩
    · simp [results, Tryd.f19, go_sem, q1, q2]
    have E := unhide HE
    have sW := hI.kp.size
    have eP : ∀ j, j ≠ w.heap.size + 1 + 1 + 1 → j ≠ w.heap.size + 1 + 1 + 1 + 1 → j ≠ D → (Z.putObj D (.deferred none)).heap[j]? = W.heap[j]? := fun j h1 h2 h3 => (World.putObj_heap_other (fun e => h3 (by rw [e]))).trans (eZ j h1 h2)
    have sP : (Z.putObj D (.deferred none)).heap.size = W.heap.size := by simp [sZ]
    have xl : ∀ j, X j → j < w.heap.size ∨ U.heap.size + 4 ≤ j := fun j hj => (hI.xf j hj).imp (fun h => (E.lo j h).2) id
    refine ⟨_, X, M, r, x, p, rfl, hI.tb.move (by omega) (fun j hj => eP j (by have := xl j hj; omega) (by have := xl j hj; omega) (by have := xl j hj; omega)), hI.rel, ?_, by have := hI.len; omega, by have := hI.nxb; omega, fun j hj => (hI.xf j hj).imp id (fun h => by omega), ?_⟩
    · refine (hI.rl.mono (N' := fun j => (j < w.heap.size → N j) ∧ ¬ X j) (fun j _ hj => ⟨hj.2.2.2, hj.1⟩)).but (by omega) (fun j h1 h2 => ?_)
      obtain ⟨i, hi⟩ := h2
      refine eP j (fun e => ?_) (fun e => ?_) (fun e => ?_)
      · rw [e, (unhide HX1').cell] at hi; cases hi
      · rw [e, (unhide HX2').cell] at hi; cases hi
      · rw [e] at hi; simp [World.cell?, hK] at hi
    · exact ⟨os.1.trans (hI.kp.os.trans E.bw.os), os.2.1.trans (hI.kp.tape.trans E.bw.tape), os.2.2.trans (hI.kp.output.trans E.bw.output), by have := E.bw.size; omega, fun j h1 h2 => (eP j (by omega) (by omega) (by omega)).trans ((hI.kp.blk j (by omega) h2 (by omega) (by omega)).trans (E.bw.block j h1))⟩
end Go.Proofs.YtlgmonphhimbdaaDoor.tab
