import Derived.Test.YtmlgbglaifnhgaaTso7
import Derived.Test.YtmlgbglaifnhgaaTso3
import Derived.SizedLaws
import Derived.Deep.Strs
import Derived.Test.YtmlgbglaifnhgaaRows
import Derived.Test.YtmlgbglaifnhgaaTso11
namespace Go.Proofs.Ytmlgbglaifnhgaa.vl
open Go.ChangeShapes Go.WideShapes Go.ChangeAt Go.RowKit
open stp (St Pth St3)
set_option linter.unusedVariables false
set_option linter.unusedSimpArgs false
theorem wpList_loadG {P : Program} {ops : Array Oper} {rest : List Oper} {op : Oper} {a : Act} {w : World} {Q : Exit → Act → World → Prop} (hw : Region.wanted op (yielded ops a.tmps) = true) (ty : TypeId) (x : Operand) (ho : op.op = .load ty x)
    (b o : Nat) (hx : a.eval x = .pointer (some ⟨b, o, none⟩)) (cs : List Value) (d : TypeDesc) (hc : w.rangeAt b o cs) (hu : P.underlying ty = some d) (hd : d.isRow = true) (hi : (P.info? ty).map (·.size) = some cs.length)
    (h : wpList P ops Q rest (a.put op.dst (.agg cs.toArray)) w) : wpList P ops Q (op :: rest) a w :=
  wpList_step fun K hK => by rw [if_pos hw]; exact wp_load_mid ty x ho b o hx cs d hc hu hd hi (hK _ _ h)
theorem SmallI.of {l : List Vl} (h : ∀ v ∈ l, Small v) : SmallI (Vls.of l) := by
  induction l with
  | nil => simp [Vls.of, SmallI]
  | cons v r ih => simp only [Vls.of, SmallI]; exact ⟨h v (List.mem_cons_self ..), ih (fun u hu => h u (List.mem_cons_of_mem _ hu))⟩
theorem SmallF.of {l : List (ByteArray × Vl)} (h : ∀ q ∈ l, Small q.2) : SmallF (Fls.of l) := by
  induction l with
  | nil => simp [Fls.of, SmallF]
  | cons v r ih => simp only [Fls.of, SmallF]; exact ⟨h v (List.mem_cons_self ..), ih (fun u hu => h u (List.mem_cons_of_mem _ hu))⟩
theorem mem_modify {α : Type} {f : α → α} : ∀ {l : List α} {i : Nat} {y : α}, y ∈ l.modify i f → y ∈ l ∨ ∃ z ∈ l, y = f z
  | [], i, y, h => by simp at h
  | a :: r, 0, y, h => by
    simp at h
    rcases h with h | h
    · exact .inr ⟨a, List.mem_cons_self .., h⟩
    · exact .inl (List.mem_cons_of_mem _ h)
  | a :: r, i + 1, y, h => by
    simp at h
    rcases h with h | h
    · exact .inl (h ▸ List.mem_cons_self ..)
    · rcases mem_modify h with h | ⟨z, hz, h⟩
      · exact .inl (List.mem_cons_of_mem _ h)
      · exact .inr ⟨z, List.mem_cons_of_mem _ hz, h⟩
theorem Small.setS {v x : Vl} {s : St} {i : Nat} (hv : Small v) (hx : Small x) : Small (setS v s i x) := by
  obtain ⟨kd, bb, ni, f, tx, ty, its, fls⟩ := v
  unfold Small at hv
  obtain ⟨h1, h2, h3, h4, h5⟩ := hv
  simp only [vl.setS]
  split
  · unfold Small
    refine ⟨by rw [Vls.list_of, List.length_set]; exact h1, h2, h3, SmallI.of (fun u hu => ?_), h5⟩
    rcases List.mem_or_eq_of_mem_set hu with h | rfl
    · exact h4.all u h
    · exact hx
  · unfold Small
    refine ⟨h1, by rw [Fls.list_of, List.length_modify]; exact h2, h3, h4, SmallF.of (fun q hq => ?_)⟩
    rcases mem_modify hq with h | ⟨z, hz, rfl⟩
    · exact h5.all q h
    · exact hx
theorem Small.setP : ∀ {ss : List St} {v x u : Vl}, Small v → Small x → setP v ss x = some u → Small u
  | [], v, x, u, hv, hx, h => by simp only [vl.setP, Option.some.injEq] at h; rw [← h]; exact hx
  | s :: r, v, x, u, hv, hx, h => by
    simp only [vl.setP] at h
    cases hc : chI v s with
    | none => rw [hc] at h; simp at h
    | some i =>
      cases hs : vl.getS v s with
      | none => rw [hc, hs] at h; simp at h
      | some y =>
        rw [hc, hs] at h
        simp only [Option.map_eq_some_iff] at h
        obtain ⟨z, hz, rfl⟩ := h
        exact Small.setS hv (Small.setP (hv.getS hs) hx hz)
theorem Small.z0 : Small z0 := by simp [vl.z0, Small, SmallI, SmallF, Vls.list, Fls.list]
theorem same_get {v u u' : Vl} {ss : List St} {a b : Bool} (h : if a = true then getP v ss = some u else getP v ss = none ∧ u = z0) (h' : if b = true then getP v ss = some u' else getP v ss = none ∧ u' = z0) (hv : Small v) : a = b ∧ u = u' ∧ Small u := by
  cases a <;> cases b
  · simp at h h'
    exact ⟨rfl, h.2.trans h'.2.symm, h.2 ▸ Small.z0⟩
  · simp at h h'
    rw [h.1] at h'; cases h'
  · simp at h h'
    rw [h'.1] at h; cases h
  · simp at h h'
    exact ⟨rfl, Option.some.inj (h.symm.trans h'), hv.getP h⟩
theorem same_set {v x u u' : Vl} {ss : List St} {a b : Bool} (h : if a = true then setP v ss x = some u else getP v ss = none ∧ u = z0) (h' : if b = true then setP v ss x = some u' else getP v ss = none ∧ u' = z0) (hv : Small v) (hx : Small x) : a = b ∧ u = u' ∧ Small u := by
  cases a <;> cases b
  · simp at h h'
    exact ⟨rfl, h.2.trans h'.2.symm, h.2 ▸ Small.z0⟩
  · simp at h h'
    rw [setP_none x h.1] at h'; cases h'
  · simp at h h'
    rw [setP_none x h'.1] at h; cases h
  · simp at h h'
    exact ⟨rfl, Option.some.inj (h.symm.trans h'), Small.setP hv hx h⟩
end Go.Proofs.Ytmlgbglaifnhgaa.vl
namespace Go.Proofs.Ytmlgbglaifnhgaa.stp
open Go.ChangeShapes Go.WideShapes Go.ChangeAt Go.RowKit
set_option linter.unusedVariables false
theorem list_three {α : Type} {l : List α} (h : l.length = 3) : ∃ x y z, l = [x, y, z] := by
  match l, h with
  | [x, y, z], _ => exact ⟨x, y, z, rfl⟩
theorem path_of {H : Type} {enc : TypeId × Value → H} {w : World} {base : Nat} {held : Bool} {fuel : Nat} {a0 : Option Addr} {len0 cap0 : Nat} {d : DataW H} {p : List MemPlace}
    (h : DataW.trod enc Try.prog w base (fun _ => true) held fuel 29 [.slice a0 len0 cap0] = some (d, p)) :
    ∃ ss : List St, Pth w a0 len0 ss ∧ len0 ≤ cap0 ∧ (a0 = none → cap0 = 0) ∧ (∀ s ∈ ss, s.nm.size ≤ maxLen ∧ (Lit.int .i64 s.ix).wf = true) := by
  have ce : Try.prog.cellsOf 34 = 3 := by kernel_rfl
  have ce0 : Try.prog.cellsOf 9 = 1 := by kernel_rfl
  have ce1 : Try.prog.cellsOf 3 = 1 := by kernel_rfl
  have ce2 : Try.prog.cellsOf 4 = 1 := by kernel_rfl
  rcases Go.Deep.open_slice Try.underlying29 h with ⟨hcs, _⟩ | ⟨a, len, cap, m, n, D, Pl, hcs, hb, hl, hm, hmm, hx, hcell⟩
  · simp at hcs
    obtain ⟨rfl, rfl, rfl⟩ := hcs
    exact ⟨[], ⟨rfl, .inl rfl⟩, Nat.le_refl _, fun _ => rfl, fun s hs => by simp at hs⟩
  · simp at hcs
    obtain ⟨rfl, rfl, rfl⟩ := hcs
    simp only [if_true] at hmm
    subst hmm
    rw [ce] at hcell
    have key : ∀ i, i < len0 → ∃ (b off : Nat) (s : St), a = ⟨b, off, none⟩ ∧ b < w.heap.size ∧ St3 w b (off + i * 3) s.nm s.ix s.it ∧ s.nm.size ≤ maxLen ∧ (Lit.int .i64 s.ix).wf = true := by
      intro i hi
      obtain ⟨cs', h1, h2⟩ := hcell i (by omega)
      obtain ⟨_, hlen, hc⟩ := World.cells?_some h1
      obtain ⟨y0, y1, y2, n', hD, _, t0, t1, t2⟩ := Go.Deep.trod_struct3 Try.underlying34 h2
      obtain ⟨v0, v1, v2, rfl⟩ := list_three hlen
      have e0 := hc 0 (by omega)
      have e1 := hc 1 (by omega)
      have e2 := hc 2 (by omega)
      obtain ⟨b, off, spot⟩ := a
      have hspot : spot = none := by
        obtain ⟨cs0, h10, h20⟩ := hcell 0 (by omega)
        obtain ⟨_, hlen0, hc0⟩ := World.cells?_some h10
        obtain ⟨q0, q1, q2, rfl⟩ := list_three hlen0
        have := hc0 0 (by omega)
        have : w.cell? (⟨b, off, spot⟩ : Addr) = some q0 := by simpa [Addr.add] using this
        simpa using World.cell?_spot this
      subst hspot
      rw [Go.Deep.add_add, Addr.add_lit] at e0 e1 e2
      simp only [ce0, List.drop_zero, List.take_succ_cons, List.take_zero] at t0
      simp only [ce1, List.drop_succ_cons, List.drop_zero, List.take_succ_cons, List.take_zero] at t1
      simp only [ce2, List.drop_succ_cons, List.drop_zero, List.take_succ_cons, List.take_zero] at t2
      simp only [List.getElem?_cons_zero, List.getElem?_cons_succ] at e0 e1 e2
      obtain ⟨s, hv0, _, hs⟩ := DataW.trod_string Try.underlying9 t0
      obtain ⟨x, hv1, _, hw⟩ := DataW.trod_int Try.underlying3 t1
      obtain ⟨z, hv2, _⟩ := DataW.trod_bool Try.underlying4 t2
      simp only [List.cons.injEq, and_true] at hv0 hv1 hv2
      subst hv0 hv1 hv2
      exact ⟨b, off, ⟨s, x, z⟩, rfl, World.block_lt_of_cell? w _ e0, ⟨by simpa using e0, by rw [Nat.add_assoc]; exact e1, by rw [Nat.add_assoc]; exact e2⟩, hs, hw⟩
    by_cases h0 : len0 = 0
    · exact ⟨[], ⟨by simp [h0], .inl h0⟩, by omega, (fun e => by cases e), fun s hs => by simp at hs⟩
    obtain ⟨b, off, _, rfl, hbw, _⟩ := key 0 (by omega)
    have key' : ∀ i, i < len0 → ∃ s : St, St3 w b (off + i * 3) s.nm s.ix s.it ∧ s.nm.size ≤ maxLen ∧ (Lit.int .i64 s.ix).wf = true := by
      intro i hi
      obtain ⟨b', off', s, e, _, r⟩ := key i hi
      simp only [Addr.mk.injEq, and_true] at e
      obtain ⟨rfl, rfl⟩ := e
      exact ⟨s, r⟩
    obtain ⟨f, hf⟩ : ∃ f : Nat → St, ∀ i, i < len0 → St3 w b (off + i * 3) (f i).nm (f i).ix (f i).it ∧ (f i).nm.size ≤ maxLen ∧ (Lit.int .i64 (f i).ix).wf = true := by
      refine ⟨fun i => if h : i < len0 then Classical.choose (key' i h) else ⟨⟨#[]⟩, 0, false⟩, fun i hi => ?_⟩
      simp only [dif_pos hi]
      exact Classical.choose_spec (key' i hi)
    refine ⟨(List.range len0).map f, ⟨by simp, .inr ⟨b, off, rfl, hbw, fun i hi => ⟨f i, by simp [hi], (hf i hi).1⟩⟩⟩, by omega, (fun e => by cases e), fun s hs => ?_⟩
    obtain ⟨i, hi, rfl⟩ := List.mem_map.1 hs
    exact (hf i (by simpa using hi)).2
theorem path_reach {H : Type} {enc : TypeId × Value → H} {w : World} {base : Nat} {held : Bool} {fuel : Nat} {a0 : Option Addr} {len0 cap0 : Nat} {d : DataW H} {p : List MemPlace}
    (h : DataW.trod enc Try.prog w base (fun _ => true) held fuel 29 [.slice a0 len0 cap0] = some (d, p)) (hN : ∀ n, n ∈ d.weights Try.prog 29 → n ≤ reachBytes) : len0 ≤ 140737488351232 := by
  have hb : Try.prog.bytesOf 34 = 32 := by kernel_rfl
  rcases Go.Deep.open_slice Try.underlying29 h with ⟨hcs, _⟩ | ⟨a, len, cap, m, n, D, Pl, hcs, hb0, hl, hm, hmm, hx, hcell⟩
  · simp at hcs
    omega
  · simp at hcs
    obtain ⟨rfl, rfl, rfl⟩ := hcs
    simp only [if_true] at hmm
    subst hmm
    simp only [Prod.mk.injEq] at hx
    have hm2 : m * 32 ∈ d.weights Try.prog 29 := by
      rw [hx.1]
      simp only [DataW.weights, Try.underlying29]
      refine List.mem_cons.2 (.inl ?_)
      rw [hb]
      simp only [List.length_map, List.length_range]
      rw [show len0 + (m - len0) = m from by omega]
    have := hN _ hm2
    unfold reachBytes at this
    omega
end Go.Proofs.Ytmlgbglaifnhgaa.stp
namespace Go.Proofs.Ytmlgbglaifnhgaa.vl
open Go.ChangeShapes Go.WideShapes Go.ChangeAt Go.RowKit
set_option linter.unusedVariables false
set_option linter.unusedSimpArgs false
theorem vls_ofQ (Q : Vl → Prop) (w : World) (b : Nat) : ∀ (n off : Nat), (∀ i, i < n → ∃ cs v, Row8 w b (off + i * 8) cs ∧ VlC w v cs ∧ Q v) → ∃ l, VlsAt w l (some ⟨b, off, none⟩) n ∧ ∀ v ∈ l.list, Q v
  | 0, off, _ => ⟨.nil, by unfold VlsAt; rfl, by simp [Vls.list]⟩
  | n + 1, off, h => by
    obtain ⟨cs, v, h1, h2, hq⟩ := h 0 (by omega)
    obtain ⟨l, hl, hlq⟩ := vls_ofQ Q w b n (off + 8) (fun i hi => by
      obtain ⟨cs, v, h1, h2⟩ := h (i + 1) (by omega)
      exact ⟨cs, v, by rw [show off + 8 + i * 8 = off + (i + 1) * 8 by omega]; exact h1, h2⟩)
    refine ⟨.cons v l, ?_, fun u hu => ?_⟩
    · unfold VlsAt
      exact ⟨b, off, n, cs, rfl, rfl, by simpa using h1, h2, hl⟩
    · simp only [Vls.list, List.mem_cons] at hu
      rcases hu with rfl | hu
      · exact hq
      · exact hlq u hu
theorem fls_ofQ (Q : Vl → Prop) (w : World) (b : Nat) : ∀ (n off : Nat), (∀ i, i < n → ∃ nm cs v, w.cell? ⟨b, off + i * 9, none⟩ = some (.string nm) ∧ nm.size ≤ maxLen ∧ Row8 w b (off + i * 9 + 1) cs ∧ VlC w v cs ∧ Q v) → ∃ l, FlsAt w l (some ⟨b, off, none⟩) n ∧ ∀ q ∈ l.list, Q q.2
  | 0, off, _ => ⟨.nil, by unfold FlsAt; rfl, by simp [Fls.list]⟩
  | n + 1, off, h => by
    obtain ⟨nm, cs, v, h0, hz, h1, h2, hq⟩ := h 0 (by omega)
    obtain ⟨l, hl, hlq⟩ := fls_ofQ Q w b n (off + 9) (fun i hi => by
      obtain ⟨nm, cs, v, h0, hz, h1, h2⟩ := h (i + 1) (by omega)
      exact ⟨nm, cs, v, by rw [show off + 9 + i * 9 = off + (i + 1) * 9 by omega]; exact h0, hz, by rw [show off + 9 + i * 9 = off + (i + 1) * 9 by omega]; exact h1, h2⟩)
    refine ⟨.cons nm v l, ?_, fun u hu => ?_⟩
    · unfold FlsAt
      exact ⟨b, off, n, cs, rfl, rfl, by simpa using h0, hz, by simpa using h1, h2, hl⟩
    · simp only [Fls.list, List.mem_cons] at hu
      rcases hu with rfl | hu
      · exact hq
      · exact hlq u hu
theorem weights_all {H : Type} {P : Program} {e : TypeId} {d : DataW H} {n : Nat} (hn : n ∈ d.weights P e) : ∀ {l : List (DataW H)}, d ∈ l → n ∈ DataW.weightsAll P e l
  | x :: r, h => by
    simp only [DataW.weightsAll, List.mem_append]
    rcases List.mem_cons.1 h with rfl | h
    · exact .inl hn
    · exact .inr (weights_all hn h)
theorem SmallI.mk : ∀ {l : Vls}, (∀ v ∈ l.list, Small v) → SmallI l := fun {l} h => by have := SmallI.of h; rwa [Vls.of_list] at this
theorem SmallF.mk : ∀ {l : Fls}, (∀ q ∈ l.list, Small q.2) → SmallF l := fun {l} h => by have := SmallF.of h; rwa [Fls.of_list] at this
section
variable {H : Type} {enc : TypeId × Value → H} {w : World} {base : Nat} {held : Bool}
theorem struct8w {P : Program} {spare : Nat → Bool} {t : TypeId} {f0 f1 f2 f3 f4 f5 f6 f7 : Field} {fuel : Nat} {cs : List Value} {x : DataW H × List MemPlace} (ht : P.underlying t = some (.struct #[f0, f1, f2, f3, f4, f5, f6, f7])) (h : DataW.trod enc P w base spare held fuel t cs = some x) :
    ∃ x0 x1 x2 x3 x4 x5 x6 x7 n, fuel = n + 1 ∧ x.1 = .agg [x0.1, x1.1, x2.1, x3.1, x4.1, x5.1, x6.1, x7.1] ∧ cs.length = P.cellsOf t ∧
      DataW.trod enc P w base spare held n f0.type ((cs.drop f0.offset).take (P.cellsOf f0.type)) = some x0 ∧
      DataW.trod enc P w base spare held n f1.type ((cs.drop f1.offset).take (P.cellsOf f1.type)) = some x1 ∧
      DataW.trod enc P w base spare held n f2.type ((cs.drop f2.offset).take (P.cellsOf f2.type)) = some x2 ∧
      DataW.trod enc P w base spare held n f3.type ((cs.drop f3.offset).take (P.cellsOf f3.type)) = some x3 ∧
      DataW.trod enc P w base spare held n f4.type ((cs.drop f4.offset).take (P.cellsOf f4.type)) = some x4 ∧
      DataW.trod enc P w base spare held n f5.type ((cs.drop f5.offset).take (P.cellsOf f5.type)) = some x5 ∧
      DataW.trod enc P w base spare held n f6.type ((cs.drop f6.offset).take (P.cellsOf f6.type)) = some x6 ∧
      DataW.trod enc P w base spare held n f7.type ((cs.drop f7.offset).take (P.cellsOf f7.type)) = some x7 := by
  obtain ⟨xs, n, hfu, hx, hl, hlen, hf⟩ := DataW.trod_struct ht h
  match xs, hlen with
  | [x0, x1, x2, x3, x4, x5, x6, x7], _ => exact ⟨x0, x1, x2, x3, x4, x5, x6, x7, n, hfu, by rw [hx]; rfl, hl, by simpa using hf 0 f0 rfl, by simpa using hf 1 f1 rfl, by simpa using hf 2 f2 rfl, by simpa using hf 3 f3 rfl, by simpa using hf 4 f4 rfl, by simpa using hf 5 f5 rfl, by simpa using hf 6 f6 rfl, by simpa using hf 7 f7 rfl⟩
theorem struct2w {P : Program} {spare : Nat → Bool} {t : TypeId} {f0 f1 : Field} {fuel : Nat} {cs : List Value} {x : DataW H × List MemPlace} (ht : P.underlying t = some (.struct #[f0, f1])) (h : DataW.trod enc P w base spare held fuel t cs = some x) :
    ∃ x0 x1 n, fuel = n + 1 ∧ x.1 = .agg [x0.1, x1.1] ∧ cs.length = P.cellsOf t ∧
      DataW.trod enc P w base spare held n f0.type ((cs.drop f0.offset).take (P.cellsOf f0.type)) = some x0 ∧
      DataW.trod enc P w base spare held n f1.type ((cs.drop f1.offset).take (P.cellsOf f1.type)) = some x1 := by
  obtain ⟨xs, n, hfu, hx, hl, hlen, hf⟩ := DataW.trod_struct ht h
  match xs, hlen with
  | [x0, x1], _ => exact ⟨x0, x1, n, hfu, by rw [hx]; rfl, hl, by simpa using hf 0 f0 rfl, by simpa using hf 1 f1 rfl⟩
theorem bytV : Try.prog.bytesOf 27 = 112 := by kernel_rfl
theorem bytM : Try.prog.bytesOf 69 = 128 := by kernel_rfl
theorem val_ofS : ∀ (fuel : Nat) (cs : List Value) (x : DataW H × List MemPlace), DataW.trod enc Try.prog w base (fun _ => true) held fuel 27 cs = some x → (∀ n, n ∈ x.1.weights Try.prog 27 → n ≤ reachBytes) → ∃ v, VlC w v cs ∧ Small v := by
  intro fuel
  induction fuel using Nat.strongRecOn with
  | _ fuel ih =>
    intro cs x h hN
    obtain ⟨x0, x1, x2, x3, x4, x5, x6, x7, n, hfu, hxd, hl, f0, f1, f2, f3, f4, f5, f6, f7⟩ := struct8w Try.underlying27 h
    have hN6 : ∀ q, q ∈ x6.1.weights Try.prog 24 → q ≤ reachBytes := fun q hq => hN q (by
      rw [hxd]
      simp only [DataW.weights, Try.underlying27]
      exact DataW.weights_mem_each (j := 6) rfl rfl q hq)
    have hN7 : ∀ q, q ∈ x7.1.weights Try.prog 25 → q ≤ reachBytes := fun q hq => hN q (by
      rw [hxd]
      simp only [DataW.weights, Try.underlying27]
      exact DataW.weights_mem_each (j := 7) rfl rfl q hq)
    rw [cellsV] at hl
    obtain ⟨c0, c1, c2, c3, c4, c5, c6, c7, rfl⟩ := list_eight hl
    simp only [cK, cB, cI, cF, cS, cIt, cFl, List.drop_zero, List.drop_succ_cons, List.take_succ_cons, List.take_zero] at f0 f1 f2 f3 f4 f5 f6 f7
    obtain ⟨kd, e0, _, w0⟩ := DataW.trod_int Try.underlying22 f0
    obtain ⟨b, e1, _⟩ := DataW.trod_bool Try.underlying4 f1
    obtain ⟨m, e2, _, w2⟩ := DataW.trod_int Try.underlying2 f2
    obtain ⟨fl, e3, _, w3⟩ := trod_float Try.underlying23 f3
    obtain ⟨tx, e4, _, w4⟩ := DataW.trod_string Try.underlying9 f4
    obtain ⟨ty, e5, _, w5⟩ := DataW.trod_string Try.underlying9 f5
    simp only [List.cons.injEq, and_true] at e0 e1 e2 e3 e4 e5
    subst e0 e1 e2 e3 e4 e5
    have hI : ∃ (ai : Option Addr) (ni ci : Nat) (l : Vls), c6 = .slice ai ni ci ∧ VlsAt w l ai ni ∧ ni ≤ ci ∧ (ai = none → ci = 0) ∧ ci ≤ maxLen ∧ ni ≤ 1256584717458 ∧ ∀ v ∈ l.list, Small v := by
      rcases DataW.trod_slice Try.underlying24 f6 with ⟨hc, _⟩ | ⟨a, len, cap, elems, rest, k, hk, hc, hxs, _, hlc, hcm, hel, hcell, _, _⟩
      · simp at hc
        exact ⟨none, 0, 0, .nil, hc, by unfold VlsAt; rfl, Nat.le_refl _, fun _ => rfl, Nat.zero_le _, Nat.zero_le _, by simp [Vls.list]⟩
      · simp at hc
        have hw6 : (elems.length + rest.length) * 112 ≤ reachBytes := hN6 _ (by
          rw [hxs]
          simp only [DataW.weights, Try.underlying24]
          refine List.mem_cons.2 (.inl ?_)
          rw [bytV]
          simp)
        have hlen6 : len ≤ 1256584717458 := by unfold reachBytes at hw6; omega
        have key : ∀ i, i < len → ∃ cs v, w.cells? base (a.add (i * 8)) 8 = some cs ∧ VlC w v cs ∧ Small v := by
          intro i hi
          have h1 := hcell i hi
          rw [cellsV, List.getElem?_eq_getElem (show i < elems.length by omega), Option.bind_eq_some_iff] at h1
          obtain ⟨cs, h2, h3⟩ := h1
          obtain ⟨v, hv, hsv⟩ := ih k (by omega) cs _ h3 (fun q hq => hN6 q (by
            rw [hxs]
            simp only [DataW.weights, Try.underlying24]
            exact List.mem_cons_of_mem _ (List.mem_append_left _ (weights_all hq (List.mem_map.2 ⟨_, List.getElem_mem (show i < elems.length by omega), rfl⟩)))))
          exact ⟨cs, v, h2, hv, hsv⟩
        by_cases h0 : len = 0
        · subst h0
          exact ⟨some a, 0, cap, .nil, hc, by unfold VlsAt; rfl, by omega, fun e => (by cases e), hcm, by omega, by simp [Vls.list]⟩
        · have hsp : a.spot = none := by
            obtain ⟨cs, v, h1, _, _⟩ := key 0 (by omega)
            have := spot_of h1 (by omega)
            simpa [Addr.add] using this
          obtain ⟨bb, off, spot⟩ := a
          simp only at hsp
          subst hsp
          obtain ⟨l, hl, hlq⟩ := vls_ofQ Small w bb len off (fun i hi => by
            obtain ⟨cs, v, h1, h2, h3⟩ := key i hi
            rw [Addr.add_lit] at h1
            exact ⟨cs, v, (row_of h1 rfl).2, h2, h3⟩)
          exact ⟨some ⟨bb, off, none⟩, len, cap, l, hc, hl, hlc, fun e => (by cases e), hcm, hlen6, hlq⟩
    have hM : ∃ (ai : Option Addr) (ni ci : Nat) (l : Fls), c7 = .slice ai ni ci ∧ FlsAt w l ai ni ∧ ni ≤ ci ∧ (ai = none → ci = 0) ∧ ci ≤ maxLen ∧ ni ≤ 1099511627776 ∧ ∀ q ∈ l.list, Small q.2 := by
      rcases DataW.trod_slice Try.underlying25 f7 with ⟨hc, _⟩ | ⟨a, len, cap, elems, rest, k, hk, hc, hxs, _, hlc, hcm, hel, hcell, _, _⟩
      · simp at hc
        exact ⟨none, 0, 0, .nil, hc, by unfold FlsAt; rfl, Nat.le_refl _, fun _ => rfl, Nat.zero_le _, Nat.zero_le _, by simp [Fls.list]⟩
      · simp at hc
        have hw7 : (elems.length + rest.length) * 128 ≤ reachBytes := hN7 _ (by
          rw [hxs]
          simp only [DataW.weights, Try.underlying25]
          refine List.mem_cons.2 (.inl ?_)
          rw [bytM]
          simp)
        have hlen7 : len ≤ 1099511627776 := by unfold reachBytes at hw7; omega
        have key : ∀ i, i < len → ∃ nm cs v, w.cells? base (a.add (i * 9)) 9 = some (.string nm :: cs) ∧ nm.size ≤ maxLen ∧ VlC w v cs ∧ Small v := by
          intro i hi
          have h1 := hcell i hi
          rw [cellsM, List.getElem?_eq_getElem (show i < elems.length by omega), Option.bind_eq_some_iff] at h1
          obtain ⟨cs, h2, h3⟩ := h1
          obtain ⟨y0, y1, q, hq, hyd, hl9, g0, g1⟩ := struct2w Try.underlying69 h3
          rw [cellsM] at hl9
          obtain ⟨c, r, rfl, hr⟩ := list_nine hl9
          simp only [cS, cellsV, List.drop_zero, List.drop_succ_cons, List.take_succ_cons, List.take_zero] at g0 g1
          rw [List.take_of_length_le (by omega)] at g1
          obtain ⟨nm, e, _, hz⟩ := DataW.trod_string Try.underlying9 g0
          simp only [List.cons.injEq, and_true] at e
          subst e
          obtain ⟨v, hv, hsv⟩ := ih q (by omega) r _ g1 (fun m hm => hN7 m (by
            rw [hxs]
            simp only [DataW.weights, Try.underlying25]
            refine List.mem_cons_of_mem _ (List.mem_append_left _ (weights_all (d := (elems[i]'(by omega)).1) ?_ (List.mem_map.2 ⟨_, List.getElem_mem (show i < elems.length by omega), rfl⟩)))
            rw [hyd]
            simp only [DataW.weights, Try.underlying69]
            exact DataW.weights_mem_each (j := 1) rfl rfl m hm))
          exact ⟨nm, r, v, h2, hz, hv, hsv⟩
        by_cases h0 : len = 0
        · subst h0
          exact ⟨some a, 0, cap, .nil, hc, by unfold FlsAt; rfl, by omega, fun e => (by cases e), hcm, by omega, by simp [Fls.list]⟩
        · have hsp : a.spot = none := by
            obtain ⟨nm, cs, v, h1, _⟩ := key 0 (by omega)
            have := spot_of h1 (by omega)
            simpa [Addr.add] using this
          obtain ⟨bb, off, spot⟩ := a
          simp only at hsp
          subst hsp
          obtain ⟨l, hl, hlq⟩ := fls_ofQ Small w bb len off (fun i hi => by
            obtain ⟨nm, cs, v, h1, hz, h2, h3⟩ := key i hi
            rw [Addr.add_lit] at h1
            have hrow : Row8 w bb (off + i * 9) (.string nm :: cs) := (row_of h1 rfl).2
            refine ⟨nm, cs, v, by simpa using hrow 0 (.string nm) rfl, hz, fun j u hu => ?_, h2, h3⟩
            have := hrow (j + 1) u (by simpa using hu)
            rw [show off + i * 9 + 1 + j = off + i * 9 + (j + 1) by omega]
            exact this)
          exact ⟨some ⟨bb, off, none⟩, len, cap, l, hc, hl, hlc, fun e => (by cases e), hcm, hlen7, hlq⟩
    obtain ⟨ai, ni, ci, its, rfl, hI1, hI2, hI3, hI4, hI5, hI6⟩ := hI
    obtain ⟨af, nf, cf, fls, rfl, hM1, hM2, hM3, hM4, hM5, hM6⟩ := hM
    refine ⟨.mk kd b m fl tx ty its fls, ?_, ?_⟩
    rotate_left
    · unfold Small
      exact ⟨by rw [VlsAt.len its _ _ hI1]; exact hI5, by rw [FlsAt.len fls _ _ hM1]; exact hM5, by simpa [Lit.wf] using w3, SmallI.mk hI6, SmallF.mk hM6⟩
    unfold VlC
    exact ⟨ai, ni, ci, af, nf, cf, rfl, hI1, hM1, hI2, hM2, hI3, hM3, w0, w2, w4, w5, hI4, hM4⟩
end
theorem path_cap {H : Type} {enc : TypeId × Value → H} {w : World} {base : Nat} {held : Bool} {fuel : Nat} {a0 : Option Addr} {len0 cap0 : Nat} {d : DataW H} {p : List MemPlace}
    (h : DataW.trod enc Try.prog w base (fun _ => true) held fuel 29 [.slice a0 len0 cap0] = some (d, p)) (hN : ∀ n, n ∈ d.weights Try.prog 29 → n ≤ reachBytes) : cap0 ≤ 4611686018427387903 := by
  have hb : Try.prog.bytesOf 34 = 32 := by kernel_rfl
  rcases DataW.trod_slice Try.underlying29 h with ⟨hc, _⟩ | ⟨a, len, cap, elems, rest, k, hk, hc, hxs, _, hlc, hcm, hel, hcell, hsp, _⟩
  · simp at hc
    omega
  · simp at hc
    obtain ⟨rfl, rfl, rfl⟩ := hc
    simp only [Prod.mk.injEq] at hxs
    have hr := (hsp rfl).1
    have := hN ((elems.length + rest.length) * 32) (by
      rw [hxs.1]
      simp only [DataW.weights, Try.underlying29]
      refine List.mem_cons.2 (.inl ?_)
      rw [hb]
      simp)
    unfold reachBytes at this
    omega
end Go.Proofs.Ytmlgbglaifnhgaa.vl
namespace Go.Proofs.Ytmlgbglaifnhgaa.vl
open Go.ChangeShapes Go.WideShapes Go.ChangeAt Go.RowKit
set_option linter.unusedVariables false
set_option linter.unusedSimpArgs false
theorem bk_pos {H : Type} (d : DataW H) : 1 ≤ Rows.uptoBulk d := by
  cases d with
  | lit l => cases l <;> simp [Rows.uptoBulk]
  | _ => simp [Rows.uptoBulk]
theorem bk_mem {H : Type} {d : DataW H} : ∀ {l : List (DataW H)}, d ∈ l → Rows.uptoBulk d ≤ Rows.uptoBulkAll l
  | x :: r, h => by
    simp only [Rows.uptoBulkAll]
    rcases List.mem_cons.1 h with e | e
    · subst e; omega
    · have := bk_mem e; omega
theorem bk_len {H : Type} : ∀ (l : List (DataW H)), l.length ≤ Rows.uptoBulkAll l
  | [] => by simp [Rows.uptoBulkAll]
  | x :: r => by
    have := bk_len r
    have := bk_pos x
    simp only [Rows.uptoBulkAll, List.length_cons]
    omega
theorem bk_slice {H : Type} (e s : List (DataW H)) : e.length + s.length ≤ Rows.uptoBulk (.slice e s) := by
  have := bk_len e
  have := bk_len s
  simp only [Rows.uptoBulk]
  omega
theorem bk_elems {H : Type} (e s : List (DataW H)) : Rows.uptoBulkAll e ≤ Rows.uptoBulk (.slice e s) := by
  simp only [Rows.uptoBulk]
  omega
theorem bk_le {H : Type} {l : List (DataW H)} (hk : Rows.uptoSmall H l = true) : Rows.uptoBulkAll l ≤ 1048576 := of_decide_eq_true hk
/-- not deeper than so much -/
def HtLe : Nat → Vl → Prop
  | 0, _ => False
  | n + 1, .mk _ _ _ _ _ _ its fls => (∀ v ∈ its.list, HtLe n v) ∧ ∀ q ∈ fls.list, HtLe n q.2
theorem HtLe.mono : ∀ {m n : Nat} {v : Vl}, HtLe m v → m ≤ n → HtLe n v
  | 0, n, v, h, _ => h.elim
  | m + 1, 0, v, h, hmn => by omega
  | m + 1, n + 1, .mk _ _ _ _ _ _ its fls, h, hmn => ⟨fun v hv => (h.1 v hv).mono (by omega), fun q hq => (h.2 q hq).mono (by omega)⟩
theorem fmax_le (N : Int) : ∀ (l : List Int) (a : Int), 0 ≤ a → a ≤ N → (∀ x ∈ l, 0 ≤ x ∧ x ≤ N) → 0 ≤ l.foldl max a ∧ l.foldl max a ≤ N
  | [], a, h0, h1, _ => ⟨h0, h1⟩
  | x :: l, a, h0, h1, h => fmax_le N l (max a x) (by omega) (by have := (h x (List.mem_cons_self ..)).2; omega) (fun y hy => h y (List.mem_cons_of_mem _ hy))
theorem dep_le : ∀ (n : Nat) (v : Vl), HtLe n v → n ≤ 1048577 → 0 ≤ og.depW v ∧ og.depW v ≤ n
  | 0, v, h, _ => h.elim
  | n + 1, .mk kd b m f tx ty its fls, h, hn => by
    rw [og.depW, og.mxI_fold, og.mxF_fold]
    have h1 := fmax_le n (its.list.map og.depW) 0 (by omega) (by omega) (fun x hx => by
      obtain ⟨v, hv, rfl⟩ := List.mem_map.1 hx
      exact dep_le n v (h.1 v hv) (by omega))
    have h2 := fmax_le n (fls.list.map (fun q => og.depW q.2)) 0 (by omega) (by omega) (fun x hx => by
      obtain ⟨q, hq, rfl⟩ := List.mem_map.1 hx
      exact dep_le n q.2 (h.2 q hq) (by omega))
    split
    · unfold wrap64; omega
    · split
      · unfold wrap64; omega
      · omega
section
variable {H : Type} {enc : TypeId × Value → H} {w : World} {base : Nat} {held : Bool}
theorem val_ofB : ∀ (fuel : Nat) (cs : List Value) (x : DataW H × List MemPlace), DataW.trod enc Try.prog w base (fun _ => true) held fuel 27 cs = some x → Rows.uptoBulk x.1 ≤ 1048576 → ∃ v, VlC w v cs ∧ Small v ∧ HtLe (Rows.uptoBulk x.1) v := by
  intro fuel
  induction fuel using Nat.strongRecOn with
  | _ fuel ih =>
    intro cs x h hN
    obtain ⟨x0, x1, x2, x3, x4, x5, x6, x7, n, hfu, hxd, hl, f0, f1, f2, f3, f4, f5, f6, f7⟩ := struct8w Try.underlying27 h
    have hN6 : Rows.uptoBulk x6.1 + 1 ≤ Rows.uptoBulk x.1 := by
      rw [hxd]
      simp only [Rows.uptoBulk, Rows.uptoBulkAll]
      omega
    have hN7 : Rows.uptoBulk x7.1 + 1 ≤ Rows.uptoBulk x.1 := by
      rw [hxd]
      simp only [Rows.uptoBulk, Rows.uptoBulkAll]
      omega
    obtain ⟨N, eN⟩ : ∃ N, Rows.uptoBulk x.1 = N + 1 := ⟨Rows.uptoBulk x.1 - 1, by omega⟩
    rw [eN] at hN hN6 hN7 ⊢
    rw [cellsV] at hl
    obtain ⟨c0, c1, c2, c3, c4, c5, c6, c7, rfl⟩ := list_eight hl
    simp only [cK, cB, cI, cF, cS, cIt, cFl, List.drop_zero, List.drop_succ_cons, List.take_succ_cons, List.take_zero] at f0 f1 f2 f3 f4 f5 f6 f7
    obtain ⟨kd, e0, _, w0⟩ := DataW.trod_int Try.underlying22 f0
    obtain ⟨b, e1, _⟩ := DataW.trod_bool Try.underlying4 f1
    obtain ⟨m, e2, _, w2⟩ := DataW.trod_int Try.underlying2 f2
    obtain ⟨fl, e3, _, w3⟩ := trod_float Try.underlying23 f3
    obtain ⟨tx, e4, _, w4⟩ := DataW.trod_string Try.underlying9 f4
    obtain ⟨ty, e5, _, w5⟩ := DataW.trod_string Try.underlying9 f5
    simp only [List.cons.injEq, and_true] at e0 e1 e2 e3 e4 e5
    subst e0 e1 e2 e3 e4 e5
    have hI : ∃ (ai : Option Addr) (ni ci : Nat) (l : Vls), c6 = .slice ai ni ci ∧ VlsAt w l ai ni ∧ ni ≤ ci ∧ (ai = none → ci = 0) ∧ ci ≤ maxLen ∧ ni ≤ 1256584717458 ∧ ∀ v ∈ l.list, Small v ∧ HtLe N v := by
      rcases DataW.trod_slice Try.underlying24 f6 with ⟨hc, _⟩ | ⟨a, len, cap, elems, rest, k, hk, hc, hxs, _, hlc, hcm, hel, hcell, _, _⟩
      · simp at hc
        exact ⟨none, 0, 0, .nil, hc, by unfold VlsAt; rfl, Nat.le_refl _, fun _ => rfl, Nat.zero_le _, Nat.zero_le _, by simp [Vls.list]⟩
      · simp at hc
        have hxs1 : x6.1 = .slice (elems.map (·.1)) (rest.map (·.1)) := by rw [hxs]
        rw [hxs1] at hN6
        have hbl := bk_slice (elems.map (·.1)) (rest.map (·.1))
        have hbe := bk_elems (elems.map (·.1)) (rest.map (·.1))
        rw [List.length_map, List.length_map] at hbl
        have hlen6 : len ≤ 1256584717458 := by omega
        have key : ∀ i, i < len → ∃ cs v, w.cells? base (a.add (i * 8)) 8 = some cs ∧ VlC w v cs ∧ (Small v ∧ HtLe N v) := by
          intro i hi
          have h1 := hcell i hi
          rw [cellsV, List.getElem?_eq_getElem (show i < elems.length by omega), Option.bind_eq_some_iff] at h1
          obtain ⟨cs, h2, h3⟩ := h1
          have hbm := bk_mem (List.mem_map.2 ⟨_, List.getElem_mem (show i < elems.length by omega), rfl⟩ : (elems[i]'(by omega)).1 ∈ elems.map (·.1))
          obtain ⟨v, hv, hsv, hht⟩ := ih k (by omega) cs _ h3 (by omega)
          exact ⟨cs, v, h2, hv, hsv, hht.mono (by omega)⟩
        by_cases h0 : len = 0
        · subst h0
          exact ⟨some a, 0, cap, .nil, hc, by unfold VlsAt; rfl, by omega, fun e => (by cases e), hcm, by omega, by simp [Vls.list]⟩
        · have hsp : a.spot = none := by
            obtain ⟨cs, v, h1, _, _⟩ := key 0 (by omega)
            have := spot_of h1 (by omega)
            simpa [Addr.add] using this
          obtain ⟨bb, off, spot⟩ := a
          simp only at hsp
          subst hsp
          obtain ⟨l, hl, hlq⟩ := vls_ofQ (fun v => Small v ∧ HtLe N v) w bb len off (fun i hi => by
            obtain ⟨cs, v, h1, h2, h3⟩ := key i hi
            rw [Addr.add_lit] at h1
            exact ⟨cs, v, (row_of h1 rfl).2, h2, h3⟩)
          exact ⟨some ⟨bb, off, none⟩, len, cap, l, hc, hl, hlc, fun e => (by cases e), hcm, hlen6, hlq⟩
    have hM : ∃ (ai : Option Addr) (ni ci : Nat) (l : Fls), c7 = .slice ai ni ci ∧ FlsAt w l ai ni ∧ ni ≤ ci ∧ (ai = none → ci = 0) ∧ ci ≤ maxLen ∧ ni ≤ 1099511627776 ∧ ∀ q ∈ l.list, Small q.2 ∧ HtLe N q.2 := by
      rcases DataW.trod_slice Try.underlying25 f7 with ⟨hc, _⟩ | ⟨a, len, cap, elems, rest, k, hk, hc, hxs, _, hlc, hcm, hel, hcell, _, _⟩
      · simp at hc
        exact ⟨none, 0, 0, .nil, hc, by unfold FlsAt; rfl, Nat.le_refl _, fun _ => rfl, Nat.zero_le _, Nat.zero_le _, by simp [Fls.list]⟩
      · simp at hc
        have hxs1 : x7.1 = .slice (elems.map (·.1)) (rest.map (·.1)) := by rw [hxs]
        rw [hxs1] at hN7
        have hbl := bk_slice (elems.map (·.1)) (rest.map (·.1))
        have hbe := bk_elems (elems.map (·.1)) (rest.map (·.1))
        rw [List.length_map, List.length_map] at hbl
        have hlen7 : len ≤ 1099511627776 := by omega
        have key : ∀ i, i < len → ∃ nm cs v, w.cells? base (a.add (i * 9)) 9 = some (.string nm :: cs) ∧ nm.size ≤ maxLen ∧ VlC w v cs ∧ (Small v ∧ HtLe N v) := by
          intro i hi
          have h1 := hcell i hi
          rw [cellsM, List.getElem?_eq_getElem (show i < elems.length by omega), Option.bind_eq_some_iff] at h1
          obtain ⟨cs, h2, h3⟩ := h1
          obtain ⟨y0, y1, q, hq, hyd, hl9, g0, g1⟩ := struct2w Try.underlying69 h3
          rw [cellsM] at hl9
          obtain ⟨c, r, rfl, hr⟩ := list_nine hl9
          simp only [cS, cellsV, List.drop_zero, List.drop_succ_cons, List.take_succ_cons, List.take_zero] at g0 g1
          rw [List.take_of_length_le (by omega)] at g1
          obtain ⟨nm, e, _, hz⟩ := DataW.trod_string Try.underlying9 g0
          simp only [List.cons.injEq, and_true] at e
          subst e
          have hbm := bk_mem (List.mem_map.2 ⟨_, List.getElem_mem (show i < elems.length by omega), rfl⟩ : (elems[i]'(by omega)).1 ∈ elems.map (·.1))
          have hby : Rows.uptoBulk y1.1 ≤ Rows.uptoBulk (elems[i]'(by omega)).1 := by
            rw [hyd]
            simp only [Rows.uptoBulk, Rows.uptoBulkAll]
            omega
          obtain ⟨v, hv, hsv, hht⟩ := ih q (by omega) r _ g1 (by omega)
          exact ⟨nm, r, v, h2, hz, hv, hsv, hht.mono (by omega)⟩
        by_cases h0 : len = 0
        · subst h0
          exact ⟨some a, 0, cap, .nil, hc, by unfold FlsAt; rfl, by omega, fun e => (by cases e), hcm, by omega, by simp [Fls.list]⟩
        · have hsp : a.spot = none := by
            obtain ⟨nm, cs, v, h1, _⟩ := key 0 (by omega)
            have := spot_of h1 (by omega)
            simpa [Addr.add] using this
          obtain ⟨bb, off, spot⟩ := a
          simp only at hsp
          subst hsp
          obtain ⟨l, hl, hlq⟩ := fls_ofQ (fun v => Small v ∧ HtLe N v) w bb len off (fun i hi => by
            obtain ⟨nm, cs, v, h1, hz, h2, h3⟩ := key i hi
            rw [Addr.add_lit] at h1
            have hrow : Row8 w bb (off + i * 9) (.string nm :: cs) := (row_of h1 rfl).2
            refine ⟨nm, cs, v, by simpa using hrow 0 (.string nm) rfl, hz, fun j u hu => ?_, h2, h3⟩
            have := hrow (j + 1) u (by simpa using hu)
            rw [show off + i * 9 + 1 + j = off + i * 9 + (j + 1) by omega]
            exact this)
          exact ⟨some ⟨bb, off, none⟩, len, cap, l, hc, hl, hlc, fun e => (by cases e), hcm, hlen7, hlq⟩
    obtain ⟨ai, ni, ci, its, rfl, hI1, hI2, hI3, hI4, hI5, hI6⟩ := hI
    obtain ⟨af, nf, cf, fls, rfl, hM1, hM2, hM3, hM4, hM5, hM6⟩ := hM
    refine ⟨.mk kd b m fl tx ty its fls, ?_, ?_, ?_⟩
    rotate_left
    · unfold Small
      exact ⟨by rw [VlsAt.len its _ _ hI1]; exact hI5, by rw [FlsAt.len fls _ _ hM1]; exact hM5, by simpa [Lit.wf] using w3, SmallI.mk (fun v hv => (hI6 v hv).1), SmallF.mk (fun q hq => (hM6 q hq).1)⟩
    · exact ⟨fun v hv => (hI6 v hv).2, fun q hq => (hM6 q hq).2⟩
    unfold VlC
    exact ⟨ai, ni, ci, af, nf, cf, rfl, hI1, hM1, hI2, hM2, hI3, hM3, w0, w2, w4, w5, hI4, hM4⟩
end
end Go.Proofs.Ytmlgbglaifnhgaa.vl
namespace Go.Proofs.Ytmlgbglaifnhgaa.vl
open Go.ChangeShapes Go.WideShapes Go.ChangeAt Go.RowKit
open og (wtV wtI wtF)
set_option linter.unusedVariables false
set_option linter.unusedSimpArgs false
theorem bk_sum {H : Type} : ∀ (l : List (DataW H)), (l.map Rows.uptoBulk).sum = Rows.uptoBulkAll l
  | [] => rfl
  | x :: r => by rw [List.map_cons, List.sum_cons, bk_sum r]; simp only [Rows.uptoBulkAll]
theorem vls_ofW (w : World) (b : Nat) : ∀ (bs : List Nat) (off : Nat), (∀ i (hi : i < bs.length), ∃ cs v, Row8 w b (off + i * 8) cs ∧ VlC w v cs ∧ Small v ∧ wtV v ≤ bs[i]) → ∃ l, VlsAt w l (some ⟨b, off, none⟩) bs.length ∧ (∀ v ∈ l.list, Small v) ∧ wtI l ≤ bs.sum
  | [], off, _ => ⟨.nil, by unfold VlsAt; rfl, by simp [Vls.list], Nat.le_refl _⟩
  | x :: bs, off, h => by
    obtain ⟨cs, v, h1, h2, h3, h4⟩ := h 0 (by simp)
    obtain ⟨l, hl, hs, hw⟩ := vls_ofW w b bs (off + 8) (fun i hi => by
      obtain ⟨cs, v, h1, h2, h3, h4⟩ := h (i + 1) (by simpa using hi)
      exact ⟨cs, v, by rw [show off + 8 + i * 8 = off + (i + 1) * 8 by omega]; exact h1, h2, h3, by simpa using h4⟩)
    refine ⟨.cons v l, ?_, ?_, ?_⟩
    · unfold VlsAt
      exact ⟨b, off, bs.length, cs, rfl, rfl, by simpa using h1, h2, hl⟩
    · intro u hu
      simp only [Vls.list, List.mem_cons] at hu
      rcases hu with rfl | hu
      · exact h3
      · exact hs u hu
    · rw [wtI, List.sum_cons]
      have : wtV v ≤ x := by simpa using h4
      omega
theorem fls_ofW (w : World) (b : Nat) : ∀ (bs : List Nat) (off : Nat), (∀ i (hi : i < bs.length), ∃ nm cs v, w.cell? ⟨b, off + i * 9, none⟩ = some (.string nm) ∧ nm.size ≤ maxLen ∧ Row8 w b (off + i * 9 + 1) cs ∧ VlC w v cs ∧ Small v ∧ nm.size + wtV v ≤ bs[i]) → ∃ l, FlsAt w l (some ⟨b, off, none⟩) bs.length ∧ (∀ q ∈ l.list, Small q.2) ∧ wtF l ≤ bs.sum
  | [], off, _ => ⟨.nil, by unfold FlsAt; rfl, by simp [Fls.list], Nat.le_refl _⟩
  | x :: bs, off, h => by
    obtain ⟨nm, cs, v, h0, hz, h1, h2, h3, h4⟩ := h 0 (by simp)
    obtain ⟨l, hl, hs, hw⟩ := fls_ofW w b bs (off + 9) (fun i hi => by
      obtain ⟨nm, cs, v, h0, hz, h1, h2, h3, h4⟩ := h (i + 1) (by simpa using hi)
      exact ⟨nm, cs, v, by rw [show off + 9 + i * 9 = off + (i + 1) * 9 by omega]; exact h0, hz, by rw [show off + 9 + i * 9 = off + (i + 1) * 9 by omega]; exact h1, h2, h3, by simpa using h4⟩)
    refine ⟨.cons nm v l, ?_, ?_, ?_⟩
    · unfold FlsAt
      exact ⟨b, off, bs.length, cs, rfl, rfl, by simpa using h0, hz, by simpa using h1, h2, hl⟩
    · intro u hu
      simp only [Fls.list, List.mem_cons] at hu
      rcases hu with rfl | hu
      · exact h3
      · exact hs u hu
    · rw [wtF, List.sum_cons]
      have : nm.size + wtV v ≤ x := by simpa using h4
      omega
theorem len_data (s : ByteArray) : s.data.toList.length = s.size := by rw [Array.length_toList]; rfl
section
variable {H : Type} {enc : TypeId × Value → H} {w : World} {base : Nat} {held : Bool}
theorem val_ofC : ∀ (fuel : Nat) (cs : List Value) (x : DataW H × List MemPlace), DataW.trod enc Try.prog w base (fun _ => true) held fuel 27 cs = some x → Rows.uptoBulk x.1 ≤ 1048576 → ∃ v, VlC w v cs ∧ Small v ∧ wtV v ≤ Rows.uptoBulk x.1 := by
  intro fuel
  induction fuel using Nat.strongRecOn with
  | _ fuel ih =>
    intro cs x h hN
    obtain ⟨x0, x1, x2, x3, x4, x5, x6, x7, n, hfu, hxd, hl, f0, f1, f2, f3, f4, f5, f6, f7⟩ := struct8w Try.underlying27 h
    have hNx : Rows.uptoBulk x4.1 + Rows.uptoBulk x6.1 + Rows.uptoBulk x7.1 + 1 ≤ Rows.uptoBulk x.1 := by
      rw [hxd]
      simp only [Rows.uptoBulk, Rows.uptoBulkAll]
      omega
    rw [cellsV] at hl
    obtain ⟨c0, c1, c2, c3, c4, c5, c6, c7, rfl⟩ := list_eight hl
    simp only [cK, cB, cI, cF, cS, cIt, cFl, List.drop_zero, List.drop_succ_cons, List.take_succ_cons, List.take_zero] at f0 f1 f2 f3 f4 f5 f6 f7
    obtain ⟨kd, e0, _, w0⟩ := DataW.trod_int Try.underlying22 f0
    obtain ⟨b, e1, _⟩ := DataW.trod_bool Try.underlying4 f1
    obtain ⟨m, e2, _, w2⟩ := DataW.trod_int Try.underlying2 f2
    obtain ⟨fl, e3, _, w3⟩ := trod_float Try.underlying23 f3
    obtain ⟨tx, e4, d4, w4⟩ := DataW.trod_string Try.underlying9 f4
    obtain ⟨ty, e5, _, w5⟩ := DataW.trod_string Try.underlying9 f5
    simp only [List.cons.injEq, and_true] at e0 e1 e2 e3 e4 e5
    subst e0 e1 e2 e3 e4 e5
    have ht4 : tx.size + 1 ≤ Rows.uptoBulk x4.1 := by
      rw [d4]
      simp only [Rows.uptoBulk, len_data]
      omega
    have hI : ∃ (ai : Option Addr) (ni ci : Nat) (l : Vls), c6 = .slice ai ni ci ∧ VlsAt w l ai ni ∧ ni ≤ ci ∧ (ai = none → ci = 0) ∧ ci ≤ maxLen ∧ ni ≤ 1256584717458 ∧ (∀ v ∈ l.list, Small v) ∧ wtI l ≤ Rows.uptoBulk x6.1 := by
      rcases DataW.trod_slice Try.underlying24 f6 with ⟨hc, _⟩ | ⟨a, len, cap, elems, rest, k, hk, hc, hxs, _, hlc, hcm, hel, hcell, _, _⟩
      · simp at hc
        exact ⟨none, 0, 0, .nil, hc, by unfold VlsAt; rfl, Nat.le_refl _, fun _ => rfl, Nat.zero_le _, Nat.zero_le _, by simp [Vls.list], Nat.zero_le _⟩
      · simp at hc
        have hxs1 : x6.1 = .slice (elems.map (·.1)) (rest.map (·.1)) := by rw [hxs]
        rw [hxs1] at hNx ⊢
        have hbl := bk_slice (elems.map (·.1)) (rest.map (·.1))
        have hbe := bk_elems (elems.map (·.1)) (rest.map (·.1))
        rw [List.length_map, List.length_map] at hbl
        have hlen6 : len ≤ 1256584717458 := by omega
        have key : ∀ i (hi : i < len), ∃ cs v, w.cells? base (a.add (i * 8)) 8 = some cs ∧ VlC w v cs ∧ Small v ∧ wtV v ≤ Rows.uptoBulk (elems[i]'(by omega)).1 := by
          intro i hi
          have h1 := hcell i hi
          rw [cellsV, List.getElem?_eq_getElem (show i < elems.length by omega), Option.bind_eq_some_iff] at h1
          obtain ⟨cs, h2, h3⟩ := h1
          have hbm := bk_mem (List.mem_map.2 ⟨_, List.getElem_mem (show i < elems.length by omega), rfl⟩ : (elems[i]'(by omega)).1 ∈ elems.map (·.1))
          obtain ⟨v, hv, hsv, hht⟩ := ih k (by omega) cs _ h3 (by omega)
          exact ⟨cs, v, h2, hv, hsv, hht⟩
        by_cases h0 : len = 0
        · subst h0
          exact ⟨some a, 0, cap, .nil, hc, by unfold VlsAt; rfl, by omega, fun e => (by cases e), hcm, by omega, by simp [Vls.list], Nat.zero_le _⟩
        · have hsp : a.spot = none := by
            obtain ⟨cs, v, h1, _, _⟩ := key 0 (by omega)
            have := spot_of h1 (by omega)
            simpa [Addr.add] using this
          obtain ⟨bb, off, spot⟩ := a
          simp only at hsp
          subst hsp
          obtain ⟨l, hl, hlq, hlw⟩ := vls_ofW w bb (elems.map (fun e => Rows.uptoBulk e.1)) off (fun i hi => by
            rw [List.length_map] at hi
            obtain ⟨cs, v, h1, h2, h3, h4⟩ := key i (by omega)
            rw [Addr.add_lit] at h1
            exact ⟨cs, v, (row_of h1 rfl).2, h2, h3, by rw [List.getElem_map]; exact h4⟩)
          rw [List.length_map, hel] at hl
          refine ⟨some ⟨bb, off, none⟩, len, cap, l, hc, hl, hlc, fun e => (by cases e), hcm, hlen6, hlq, ?_⟩
          have := bk_sum (elems.map (·.1))
          rw [List.map_map] at this
          have e2 : (elems.map (fun e => Rows.uptoBulk e.1)).sum = Rows.uptoBulkAll (elems.map (·.1)) := this
          omega
    have hM : ∃ (ai : Option Addr) (ni ci : Nat) (l : Fls), c7 = .slice ai ni ci ∧ FlsAt w l ai ni ∧ ni ≤ ci ∧ (ai = none → ci = 0) ∧ ci ≤ maxLen ∧ ni ≤ 1099511627776 ∧ (∀ q ∈ l.list, Small q.2) ∧ wtF l ≤ Rows.uptoBulk x7.1 := by
      rcases DataW.trod_slice Try.underlying25 f7 with ⟨hc, _⟩ | ⟨a, len, cap, elems, rest, k, hk, hc, hxs, _, hlc, hcm, hel, hcell, _, _⟩
      · simp at hc
        exact ⟨none, 0, 0, .nil, hc, by unfold FlsAt; rfl, Nat.le_refl _, fun _ => rfl, Nat.zero_le _, Nat.zero_le _, by simp [Fls.list], Nat.zero_le _⟩
      · simp at hc
        have hxs1 : x7.1 = .slice (elems.map (·.1)) (rest.map (·.1)) := by rw [hxs]
        rw [hxs1] at hNx ⊢
        have hbl := bk_slice (elems.map (·.1)) (rest.map (·.1))
        have hbe := bk_elems (elems.map (·.1)) (rest.map (·.1))
        rw [List.length_map, List.length_map] at hbl
        have hlen7 : len ≤ 1099511627776 := by omega
        have key : ∀ i (hi : i < len), ∃ nm cs v, w.cells? base (a.add (i * 9)) 9 = some (.string nm :: cs) ∧ nm.size ≤ maxLen ∧ VlC w v cs ∧ Small v ∧ nm.size + wtV v ≤ Rows.uptoBulk (elems[i]'(by omega)).1 := by
          intro i hi
          have h1 := hcell i hi
          rw [cellsM, List.getElem?_eq_getElem (show i < elems.length by omega), Option.bind_eq_some_iff] at h1
          obtain ⟨cs, h2, h3⟩ := h1
          obtain ⟨y0, y1, q, hq, hyd, hl9, g0, g1⟩ := struct2w Try.underlying69 h3
          rw [cellsM] at hl9
          obtain ⟨c, r, rfl, hr⟩ := list_nine hl9
          simp only [cS, cellsV, List.drop_zero, List.drop_succ_cons, List.take_succ_cons, List.take_zero] at g0 g1
          rw [List.take_of_length_le (by omega)] at g1
          obtain ⟨nm, e, dn, hz⟩ := DataW.trod_string Try.underlying9 g0
          simp only [List.cons.injEq, and_true] at e
          subst e
          have hbm := bk_mem (List.mem_map.2 ⟨_, List.getElem_mem (show i < elems.length by omega), rfl⟩ : (elems[i]'(by omega)).1 ∈ elems.map (·.1))
          have hby : nm.size + Rows.uptoBulk y1.1 ≤ Rows.uptoBulk (elems[i]'(by omega)).1 := by
            rw [hyd, dn]
            simp only [Rows.uptoBulk, Rows.uptoBulkAll, len_data]
            omega
          obtain ⟨v, hv, hsv, hht⟩ := ih q (by omega) r _ g1 (by omega)
          exact ⟨nm, r, v, h2, hz, hv, hsv, by omega⟩
        by_cases h0 : len = 0
        · subst h0
          exact ⟨some a, 0, cap, .nil, hc, by unfold FlsAt; rfl, by omega, fun e => (by cases e), hcm, by omega, by simp [Fls.list], Nat.zero_le _⟩
        · have hsp : a.spot = none := by
            obtain ⟨nm, cs, v, h1, _⟩ := key 0 (by omega)
            have := spot_of h1 (by omega)
            simpa [Addr.add] using this
          obtain ⟨bb, off, spot⟩ := a
          simp only at hsp
          subst hsp
          obtain ⟨l, hl, hlq, hlw⟩ := fls_ofW w bb (elems.map (fun e => Rows.uptoBulk e.1)) off (fun i hi => by
            rw [List.length_map] at hi
            obtain ⟨nm, cs, v, h1, hz, h2, h3, h4⟩ := key i (by omega)
            rw [Addr.add_lit] at h1
            have hrow : Row8 w bb (off + i * 9) (.string nm :: cs) := (row_of h1 rfl).2
            refine ⟨nm, cs, v, by simpa using hrow 0 (.string nm) rfl, hz, fun j u hu => ?_, h2, h3, by rw [List.getElem_map]; exact h4⟩
            have := hrow (j + 1) u (by simpa using hu)
            rw [show off + i * 9 + 1 + j = off + i * 9 + (j + 1) by omega]
            exact this)
          rw [List.length_map, hel] at hl
          refine ⟨some ⟨bb, off, none⟩, len, cap, l, hc, hl, hlc, fun e => (by cases e), hcm, hlen7, hlq, ?_⟩
          have := bk_sum (elems.map (·.1))
          rw [List.map_map] at this
          have e2 : (elems.map (fun e => Rows.uptoBulk e.1)).sum = Rows.uptoBulkAll (elems.map (·.1)) := this
          omega
    obtain ⟨ai, ni, ci, its, rfl, hI1, hI2, hI3, hI4, hI5, hI6, hI7⟩ := hI
    obtain ⟨af, nf, cf, fls, rfl, hM1, hM2, hM3, hM4, hM5, hM6, hM7⟩ := hM
    refine ⟨.mk kd b m fl tx ty its fls, ?_, ?_, ?_⟩
    rotate_left
    · unfold Small
      exact ⟨by rw [VlsAt.len its _ _ hI1]; exact hI5, by rw [FlsAt.len fls _ _ hM1]; exact hM5, by simpa [Lit.wf] using w3, SmallI.mk hI6, SmallF.mk hM6⟩
    · rw [wtV]
      omega
    unfold VlC
    exact ⟨ai, ni, ci, af, nf, cf, rfl, hI1, hM1, hI2, hM2, hI3, hM3, w0, w2, w4, w5, hI4, hM4⟩
end
end Go.Proofs.Ytmlgbglaifnhgaa.vl
