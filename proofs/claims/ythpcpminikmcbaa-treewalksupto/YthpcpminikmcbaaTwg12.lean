import Derived.Test.YthpcpminikmcbaaTwg3
import Derived.SizedLaws
import Derived.Deep.Strs
import Derived.Test.YthpcpminikmcbaaTwg11
import Derived.Test.YthpcpminikmcbaaRows
import Derived.Test.YthpcpminikmcbaaTwg7
import Derived.Test.YthpcpminikmcbaaTwg10
namespace Go.Proofs.Ythpcpminikmcbaa.stp
open Go.ChangeShapes Go.WideShapes Go.ChangeAt Go.RowKit
set_option linter.unusedVariables false
theorem list_three {α : Type} {l : List α} (h : l.length = 3) : ∃ x y z, l = [x, y, z] := by
  match l, h with
  | [x, y, z], _ => exact ⟨x, y, z, rfl⟩
theorem path_of {H : Type} {enc : TypeId × Value → H} {w : World} {base : Nat} {held : Bool} {fuel : Nat} {a0 : Option Addr} {len0 cap0 : Nat} {d : DataW H} {p : List MemPlace}
    (h : DataW.trod enc Try.prog w base (fun _ => true) held fuel 29 [.slice a0 len0 cap0] = some (d, p)) :
    ∃ ss : List St, Pth w a0 len0 ss ∧ len0 ≤ cap0 ∧ (a0 = none → cap0 = 0) ∧ (∀ s ∈ ss, s.nm.size ≤ maxLen ∧ (Lit.int .i64 s.ix).wf = true) := by
  have ce : Try.prog.cellsOf 34 = 3 := by kernel_rfl
  have ce0 : Try.prog.cellsOf 9 = 1 := by kernel_rfl
  have ce1 : Try.prog.cellsOf 3 = 1 := by kernel_rfl
  have ce2 : Try.prog.cellsOf 4 = 1 := by kernel_rfl
  rcases Go.Deep.open_slice Try.underlying29 h with ⟨hcs, _⟩ | ⟨a, len, cap, m, n, D, Pl, hcs, hb, hl, hm, hmm, hx, hcell⟩
  · simp at hcs
    obtain ⟨rfl, rfl, rfl⟩ := hcs
    exact ⟨[], ⟨rfl, .inl rfl⟩, Nat.le_refl _, fun _ => rfl, fun s hs => by simp at hs⟩
  · simp at hcs
    obtain ⟨rfl, rfl, rfl⟩ := hcs
    simp only [if_true] at hmm
    subst hmm
    rw [ce] at hcell
    have key : ∀ i, i < len0 → ∃ (b off : Nat) (s : St), a = ⟨b, off, none⟩ ∧ b < w.heap.size ∧ St3 w b (off + i * 3) s.nm s.ix s.it ∧ s.nm.size ≤ maxLen ∧ (Lit.int .i64 s.ix).wf = true := by
      intro i hi
      obtain ⟨cs', h1, h2⟩ := hcell i (by omega)
      obtain ⟨_, hlen, hc⟩ := World.cells?_some h1
      obtain ⟨y0, y1, y2, n', hD, _, t0, t1, t2⟩ := Go.Deep.trod_struct3 Try.underlying34 h2
      obtain ⟨v0, v1, v2, rfl⟩ := list_three hlen
      have e0 := hc 0 (by omega)
      have e1 := hc 1 (by omega)
      have e2 := hc 2 (by omega)
      obtain ⟨b, off, spot⟩ := a
      have hspot : spot = none := by
        obtain ⟨cs0, h10, h20⟩ := hcell 0 (by omega)
        obtain ⟨_, hlen0, hc0⟩ := World.cells?_some h10
        obtain ⟨q0, q1, q2, rfl⟩ := list_three hlen0
        have := hc0 0 (by omega)
        have : w.cell? (⟨b, off, spot⟩ : Addr) = some q0 := by simpa [Addr.add] using this
        simpa using World.cell?_spot this
      subst hspot
      rw [Go.Deep.add_add, Addr.add_lit] at e0 e1 e2
      simp only [ce0, List.drop_zero, List.take_succ_cons, List.take_zero] at t0
      simp only [ce1, List.drop_succ_cons, List.drop_zero, List.take_succ_cons, List.take_zero] at t1
      simp only [ce2, List.drop_succ_cons, List.drop_zero, List.take_succ_cons, List.take_zero] at t2
      simp only [List.getElem?_cons_zero, List.getElem?_cons_succ] at e0 e1 e2
      obtain ⟨s, hv0, _, hs⟩ := DataW.trod_string Try.underlying9 t0
      obtain ⟨x, hv1, _, hw⟩ := DataW.trod_int Try.underlying3 t1
      obtain ⟨z, hv2, _⟩ := DataW.trod_bool Try.underlying4 t2
      simp only [List.cons.injEq, and_true] at hv0 hv1 hv2
      subst hv0 hv1 hv2
      exact ⟨b, off, ⟨s, x, z⟩, rfl, World.block_lt_of_cell? w _ e0, ⟨by simpa using e0, by rw [Nat.add_assoc]; exact e1, by rw [Nat.add_assoc]; exact e2⟩, hs, hw⟩
    by_cases h0 : len0 = 0
    · exact ⟨[], ⟨by simp [h0], .inl h0⟩, by omega, (fun e => by cases e), fun s hs => by simp at hs⟩
    obtain ⟨b, off, _, rfl, hbw, _⟩ := key 0 (by omega)
    have key' : ∀ i, i < len0 → ∃ s : St, St3 w b (off + i * 3) s.nm s.ix s.it ∧ s.nm.size ≤ maxLen ∧ (Lit.int .i64 s.ix).wf = true := by
      intro i hi
      obtain ⟨b', off', s, e, _, r⟩ := key i hi
      simp only [Addr.mk.injEq, and_true] at e
      obtain ⟨rfl, rfl⟩ := e
      exact ⟨s, r⟩
    obtain ⟨f, hf⟩ : ∃ f : Nat → St, ∀ i, i < len0 → St3 w b (off + i * 3) (f i).nm (f i).ix (f i).it ∧ (f i).nm.size ≤ maxLen ∧ (Lit.int .i64 (f i).ix).wf = true := by
      refine ⟨fun i => if h : i < len0 then Classical.choose (key' i h) else ⟨⟨#[]⟩, 0, false⟩, fun i hi => ?_⟩
      simp only [dif_pos hi]
      exact Classical.choose_spec (key' i hi)
    refine ⟨(List.range len0).map f, ⟨by simp, .inr ⟨b, off, rfl, hbw, fun i hi => ⟨f i, by simp [hi], (hf i hi).1⟩⟩⟩, by omega, (fun e => by cases e), fun s hs => ?_⟩
    obtain ⟨i, hi, rfl⟩ := List.mem_map.1 hs
    exact (hf i (by simpa using hi)).2
theorem path_reach {H : Type} {enc : TypeId × Value → H} {w : World} {base : Nat} {held : Bool} {fuel : Nat} {a0 : Option Addr} {len0 cap0 : Nat} {d : DataW H} {p : List MemPlace}
    (h : DataW.trod enc Try.prog w base (fun _ => true) held fuel 29 [.slice a0 len0 cap0] = some (d, p)) (hN : ∀ n, n ∈ d.weights Try.prog 29 → n ≤ reachBytes) : len0 ≤ 140737488351232 := by
  have hb : Try.prog.bytesOf 34 = 32 := by kernel_rfl
  rcases Go.Deep.open_slice Try.underlying29 h with ⟨hcs, _⟩ | ⟨a, len, cap, m, n, D, Pl, hcs, hb0, hl, hm, hmm, hx, hcell⟩
  · simp at hcs
    omega
  · simp at hcs
    obtain ⟨rfl, rfl, rfl⟩ := hcs
    simp only [if_true] at hmm
    subst hmm
    simp only [Prod.mk.injEq] at hx
    have hm2 : m * 32 ∈ d.weights Try.prog 29 := by
      rw [hx.1]
      simp only [DataW.weights, Try.underlying29]
      refine List.mem_cons.2 (.inl ?_)
      rw [hb]
      simp only [List.length_map, List.length_range]
      rw [show len0 + (m - len0) = m from by omega]
    have := hN _ hm2
    unfold reachBytes at this
    omega
end Go.Proofs.Ythpcpminikmcbaa.stp
namespace Go.Proofs.Ythpcpminikmcbaa.vl
open Go.ChangeShapes Go.WideShapes Go.ChangeAt Go.RowKit
set_option linter.unusedVariables false
set_option linter.unusedSimpArgs false
theorem vls_ofQ (Q : Vl → Prop) (w : World) (b : Nat) : ∀ (n off : Nat), (∀ i, i < n → ∃ cs v, Row8 w b (off + i * 8) cs ∧ VlC w v cs ∧ Q v) → ∃ l, VlsAt w l (some ⟨b, off, none⟩) n ∧ ∀ v ∈ l.list, Q v
  | 0, off, _ => ⟨.nil, by unfold VlsAt; rfl, by simp [Vls.list]⟩
  | n + 1, off, h => by
    obtain ⟨cs, v, h1, h2, hq⟩ := h 0 (by omega)
    obtain ⟨l, hl, hlq⟩ := vls_ofQ Q w b n (off + 8) (fun i hi => by
      obtain ⟨cs, v, h1, h2⟩ := h (i + 1) (by omega)
      exact ⟨cs, v, by rw [show off + 8 + i * 8 = off + (i + 1) * 8 by omega]; exact h1, h2⟩)
    refine ⟨.cons v l, ?_, fun u hu => ?_⟩
    · unfold VlsAt
      exact ⟨b, off, n, cs, rfl, rfl, by simpa using h1, h2, hl⟩
    · simp only [Vls.list, List.mem_cons] at hu
      rcases hu with rfl | hu
      · exact hq
      · exact hlq u hu
theorem fls_ofQ (Q : Vl → Prop) (w : World) (b : Nat) : ∀ (n off : Nat), (∀ i, i < n → ∃ nm cs v, w.cell? ⟨b, off + i * 9, none⟩ = some (.string nm) ∧ nm.size ≤ maxLen ∧ Row8 w b (off + i * 9 + 1) cs ∧ VlC w v cs ∧ Q v) → ∃ l, FlsAt w l (some ⟨b, off, none⟩) n ∧ ∀ q ∈ l.list, Q q.2
  | 0, off, _ => ⟨.nil, by unfold FlsAt; rfl, by simp [Fls.list]⟩
  | n + 1, off, h => by
    obtain ⟨nm, cs, v, h0, hz, h1, h2, hq⟩ := h 0 (by omega)
    obtain ⟨l, hl, hlq⟩ := fls_ofQ Q w b n (off + 9) (fun i hi => by
      obtain ⟨nm, cs, v, h0, hz, h1, h2⟩ := h (i + 1) (by omega)
      exact ⟨nm, cs, v, by rw [show off + 9 + i * 9 = off + (i + 1) * 9 by omega]; exact h0, hz, by rw [show off + 9 + i * 9 = off + (i + 1) * 9 by omega]; exact h1, h2⟩)
    refine ⟨.cons nm v l, ?_, fun u hu => ?_⟩
    · unfold FlsAt
      exact ⟨b, off, n, cs, rfl, rfl, by simpa using h0, hz, by simpa using h1, h2, hl⟩
    · simp only [Fls.list, List.mem_cons] at hu
      rcases hu with rfl | hu
      · exact hq
      · exact hlq u hu
theorem weights_all {H : Type} {P : Program} {e : TypeId} {d : DataW H} {n : Nat} (hn : n ∈ d.weights P e) : ∀ {l : List (DataW H)}, d ∈ l → n ∈ DataW.weightsAll P e l
  | x :: r, h => by
    simp only [DataW.weightsAll, List.mem_append]
    rcases List.mem_cons.1 h with rfl | h
    · exact .inl hn
    · exact .inr (weights_all hn h)
theorem SmallI.mk : ∀ {l : Vls}, (∀ v ∈ l.list, Small v) → SmallI l := fun {l} h => by have := SmallI.of h; rwa [Vls.of_list] at this
theorem SmallF.mk : ∀ {l : Fls}, (∀ q ∈ l.list, Small q.2) → SmallF l := fun {l} h => by have := SmallF.of h; rwa [Fls.of_list] at this
section
variable {H : Type} {enc : TypeId × Value → H} {w : World} {base : Nat} {held : Bool}
theorem struct8w {P : Program} {spare : Nat → Bool} {t : TypeId} {f0 f1 f2 f3 f4 f5 f6 f7 : Field} {fuel : Nat} {cs : List Value} {x : DataW H × List MemPlace} (ht : P.underlying t = some (.struct #[f0, f1, f2, f3, f4, f5, f6, f7])) (h : DataW.trod enc P w base spare held fuel t cs = some x) :
    ∃ x0 x1 x2 x3 x4 x5 x6 x7 n, fuel = n + 1 ∧ x.1 = .agg [x0.1, x1.1, x2.1, x3.1, x4.1, x5.1, x6.1, x7.1] ∧ cs.length = P.cellsOf t ∧
      DataW.trod enc P w base spare held n f0.type ((cs.drop f0.offset).take (P.cellsOf f0.type)) = some x0 ∧
      DataW.trod enc P w base spare held n f1.type ((cs.drop f1.offset).take (P.cellsOf f1.type)) = some x1 ∧
      DataW.trod enc P w base spare held n f2.type ((cs.drop f2.offset).take (P.cellsOf f2.type)) = some x2 ∧
      DataW.trod enc P w base spare held n f3.type ((cs.drop f3.offset).take (P.cellsOf f3.type)) = some x3 ∧
      DataW.trod enc P w base spare held n f4.type ((cs.drop f4.offset).take (P.cellsOf f4.type)) = some x4 ∧
      DataW.trod enc P w base spare held n f5.type ((cs.drop f5.offset).take (P.cellsOf f5.type)) = some x5 ∧
      DataW.trod enc P w base spare held n f6.type ((cs.drop f6.offset).take (P.cellsOf f6.type)) = some x6 ∧
      DataW.trod enc P w base spare held n f7.type ((cs.drop f7.offset).take (P.cellsOf f7.type)) = some x7 := by
  obtain ⟨xs, n, hfu, hx, hl, hlen, hf⟩ := DataW.trod_struct ht h
  match xs, hlen with
  | [x0, x1, x2, x3, x4, x5, x6, x7], _ => exact ⟨x0, x1, x2, x3, x4, x5, x6, x7, n, hfu, by rw [hx]; rfl, hl, by simpa using hf 0 f0 rfl, by simpa using hf 1 f1 rfl, by simpa using hf 2 f2 rfl, by simpa using hf 3 f3 rfl, by simpa using hf 4 f4 rfl, by simpa using hf 5 f5 rfl, by simpa using hf 6 f6 rfl, by simpa using hf 7 f7 rfl⟩
theorem struct2w {P : Program} {spare : Nat → Bool} {t : TypeId} {f0 f1 : Field} {fuel : Nat} {cs : List Value} {x : DataW H × List MemPlace} (ht : P.underlying t = some (.struct #[f0, f1])) (h : DataW.trod enc P w base spare held fuel t cs = some x) :
    ∃ x0 x1 n, fuel = n + 1 ∧ x.1 = .agg [x0.1, x1.1] ∧ cs.length = P.cellsOf t ∧
      DataW.trod enc P w base spare held n f0.type ((cs.drop f0.offset).take (P.cellsOf f0.type)) = some x0 ∧
      DataW.trod enc P w base spare held n f1.type ((cs.drop f1.offset).take (P.cellsOf f1.type)) = some x1 := by
  obtain ⟨xs, n, hfu, hx, hl, hlen, hf⟩ := DataW.trod_struct ht h
  match xs, hlen with
  | [x0, x1], _ => exact ⟨x0, x1, n, hfu, by rw [hx]; rfl, hl, by simpa using hf 0 f0 rfl, by simpa using hf 1 f1 rfl⟩
theorem bytV : Try.prog.bytesOf 27 = 112 := by kernel_rfl
theorem bytM : Try.prog.bytesOf 69 = 128 := by kernel_rfl
theorem val_ofS : ∀ (fuel : Nat) (cs : List Value) (x : DataW H × List MemPlace), DataW.trod enc Try.prog w base (fun _ => true) held fuel 27 cs = some x → (∀ n, n ∈ x.1.weights Try.prog 27 → n ≤ reachBytes) → ∃ v, VlC w v cs ∧ Small v := by
  intro fuel
  induction fuel using Nat.strongRecOn with
  | _ fuel ih =>
    intro cs x h hN
    obtain ⟨x0, x1, x2, x3, x4, x5, x6, x7, n, hfu, hxd, hl, f0, f1, f2, f3, f4, f5, f6, f7⟩ := struct8w Try.underlying27 h
    have hN6 : ∀ q, q ∈ x6.1.weights Try.prog 24 → q ≤ reachBytes := fun q hq => hN q (by
      rw [hxd]
      simp only [DataW.weights, Try.underlying27]
      exact DataW.weights_mem_each (j := 6) rfl rfl q hq)
    have hN7 : ∀ q, q ∈ x7.1.weights Try.prog 25 → q ≤ reachBytes := fun q hq => hN q (by
      rw [hxd]
      simp only [DataW.weights, Try.underlying27]
      exact DataW.weights_mem_each (j := 7) rfl rfl q hq)
    rw [cellsV] at hl
    obtain ⟨c0, c1, c2, c3, c4, c5, c6, c7, rfl⟩ := list_eight hl
    simp only [cK, cB, cI, cF, cS, cIt, cFl, List.drop_zero, List.drop_succ_cons, List.take_succ_cons, List.take_zero] at f0 f1 f2 f3 f4 f5 f6 f7
    obtain ⟨kd, e0, _, w0⟩ := DataW.trod_int Try.underlying22 f0
    obtain ⟨b, e1, _⟩ := DataW.trod_bool Try.underlying4 f1
    obtain ⟨m, e2, _, w2⟩ := DataW.trod_int Try.underlying2 f2
    obtain ⟨fl, e3, _, w3⟩ := trod_float Try.underlying23 f3
    obtain ⟨tx, e4, _, w4⟩ := DataW.trod_string Try.underlying9 f4
    obtain ⟨ty, e5, _, w5⟩ := DataW.trod_string Try.underlying9 f5
    simp only [List.cons.injEq, and_true] at e0 e1 e2 e3 e4 e5
    subst e0 e1 e2 e3 e4 e5
    have hI : ∃ (ai : Option Addr) (ni ci : Nat) (l : Vls), c6 = .slice ai ni ci ∧ VlsAt w l ai ni ∧ ni ≤ ci ∧ (ai = none → ci = 0) ∧ ci ≤ maxLen ∧ ni ≤ 1256584717458 ∧ ∀ v ∈ l.list, Small v := by
      rcases DataW.trod_slice Try.underlying24 f6 with ⟨hc, _⟩ | ⟨a, len, cap, elems, rest, k, hk, hc, hxs, _, hlc, hcm, hel, hcell, _, _⟩
      · simp at hc
        exact ⟨none, 0, 0, .nil, hc, by unfold VlsAt; rfl, Nat.le_refl _, fun _ => rfl, Nat.zero_le _, Nat.zero_le _, by simp [Vls.list]⟩
      · simp at hc
        have hw6 : (elems.length + rest.length) * 112 ≤ reachBytes := hN6 _ (by
          rw [hxs]
          simp only [DataW.weights, Try.underlying24]
          refine List.mem_cons.2 (.inl ?_)
          rw [bytV]
          simp)
        have hlen6 : len ≤ 1256584717458 := by unfold reachBytes at hw6; omega
        have key : ∀ i, i < len → ∃ cs v, w.cells? base (a.add (i * 8)) 8 = some cs ∧ VlC w v cs ∧ Small v := by
          intro i hi
          have h1 := hcell i hi
          rw [cellsV, List.getElem?_eq_getElem (show i < elems.length by omega), Option.bind_eq_some_iff] at h1
          obtain ⟨cs, h2, h3⟩ := h1
          obtain ⟨v, hv, hsv⟩ := ih k (by omega) cs _ h3 (fun q hq => hN6 q (by
            rw [hxs]
            simp only [DataW.weights, Try.underlying24]
            exact List.mem_cons_of_mem _ (List.mem_append_left _ (weights_all hq (List.mem_map.2 ⟨_, List.getElem_mem (show i < elems.length by omega), rfl⟩)))))
          exact ⟨cs, v, h2, hv, hsv⟩
        by_cases h0 : len = 0
        · subst h0
          exact ⟨some a, 0, cap, .nil, hc, by unfold VlsAt; rfl, by omega, fun e => (by cases e), hcm, by omega, by simp [Vls.list]⟩
        · have hsp : a.spot = none := by
            obtain ⟨cs, v, h1, _, _⟩ := key 0 (by omega)
            have := spot_of h1 (by omega)
            simpa [Addr.add] using this
          obtain ⟨bb, off, spot⟩ := a
          simp only at hsp
          subst hsp
          obtain ⟨l, hl, hlq⟩ := vls_ofQ Small w bb len off (fun i hi => by
            obtain ⟨cs, v, h1, h2, h3⟩ := key i hi
            rw [Addr.add_lit] at h1
            exact ⟨cs, v, (row_of h1 rfl).2, h2, h3⟩)
          exact ⟨some ⟨bb, off, none⟩, len, cap, l, hc, hl, hlc, fun e => (by cases e), hcm, hlen6, hlq⟩
    have hM : ∃ (ai : Option Addr) (ni ci : Nat) (l : Fls), c7 = .slice ai ni ci ∧ FlsAt w l ai ni ∧ ni ≤ ci ∧ (ai = none → ci = 0) ∧ ci ≤ maxLen ∧ ni ≤ 1099511627776 ∧ ∀ q ∈ l.list, Small q.2 := by
      rcases DataW.trod_slice Try.underlying25 f7 with ⟨hc, _⟩ | ⟨a, len, cap, elems, rest, k, hk, hc, hxs, _, hlc, hcm, hel, hcell, _, _⟩
      · simp at hc
        exact ⟨none, 0, 0, .nil, hc, by unfold FlsAt; rfl, Nat.le_refl _, fun _ => rfl, Nat.zero_le _, Nat.zero_le _, by simp [Fls.list]⟩
      · simp at hc
        have hw7 : (elems.length + rest.length) * 128 ≤ reachBytes := hN7 _ (by
          rw [hxs]
          simp only [DataW.weights, Try.underlying25]
          refine List.mem_cons.2 (.inl ?_)
          rw [bytM]
          simp)
        have hlen7 : len ≤ 1099511627776 := by unfold reachBytes at hw7; omega
        have key : ∀ i, i < len → ∃ nm cs v, w.cells? base (a.add (i * 9)) 9 = some (.string nm :: cs) ∧ nm.size ≤ maxLen ∧ VlC w v cs ∧ Small v := by
          intro i hi
          have h1 := hcell i hi
          rw [cellsM, List.getElem?_eq_getElem (show i < elems.length by omega), Option.bind_eq_some_iff] at h1
          obtain ⟨cs, h2, h3⟩ := h1
          obtain ⟨y0, y1, q, hq, hyd, hl9, g0, g1⟩ := struct2w Try.underlying69 h3
          rw [cellsM] at hl9
          obtain ⟨c, r, rfl, hr⟩ := list_nine hl9
          simp only [cS, cellsV, List.drop_zero, List.drop_succ_cons, List.take_succ_cons, List.take_zero] at g0 g1
          rw [List.take_of_length_le (by omega)] at g1
          obtain ⟨nm, e, _, hz⟩ := DataW.trod_string Try.underlying9 g0
          simp only [List.cons.injEq, and_true] at e
          subst e
          obtain ⟨v, hv, hsv⟩ := ih q (by omega) r _ g1 (fun m hm => hN7 m (by
            rw [hxs]
            simp only [DataW.weights, Try.underlying25]
            refine List.mem_cons_of_mem _ (List.mem_append_left _ (weights_all (d := (elems[i]'(by omega)).1) ?_ (List.mem_map.2 ⟨_, List.getElem_mem (show i < elems.length by omega), rfl⟩)))
            rw [hyd]
            simp only [DataW.weights, Try.underlying69]
            exact DataW.weights_mem_each (j := 1) rfl rfl m hm))
          exact ⟨nm, r, v, h2, hz, hv, hsv⟩
        by_cases h0 : len = 0
        · subst h0
          exact ⟨some a, 0, cap, .nil, hc, by unfold FlsAt; rfl, by omega, fun e => (by cases e), hcm, by omega, by simp [Fls.list]⟩
        · have hsp : a.spot = none := by
            obtain ⟨nm, cs, v, h1, _⟩ := key 0 (by omega)
            have := spot_of h1 (by omega)
            simpa [Addr.add] using this
          obtain ⟨bb, off, spot⟩ := a
          simp only at hsp
          subst hsp
          obtain ⟨l, hl, hlq⟩ := fls_ofQ Small w bb len off (fun i hi => by
            obtain ⟨nm, cs, v, h1, hz, h2, h3⟩ := key i hi
            rw [Addr.add_lit] at h1
            have hrow : Row8 w bb (off + i * 9) (.string nm :: cs) := (row_of h1 rfl).2
            refine ⟨nm, cs, v, by simpa using hrow 0 (.string nm) rfl, hz, fun j u hu => ?_, h2, h3⟩
            have := hrow (j + 1) u (by simpa using hu)
            rw [show off + i * 9 + 1 + j = off + i * 9 + (j + 1) by omega]
            exact this)
          exact ⟨some ⟨bb, off, none⟩, len, cap, l, hc, hl, hlc, fun e => (by cases e), hcm, hlen7, hlq⟩
    obtain ⟨ai, ni, ci, its, rfl, hI1, hI2, hI3, hI4, hI5, hI6⟩ := hI
    obtain ⟨af, nf, cf, fls, rfl, hM1, hM2, hM3, hM4, hM5, hM6⟩ := hM
    refine ⟨.mk kd b m fl tx ty its fls, ?_, ?_⟩
    rotate_left
    · unfold Small
      exact ⟨by rw [VlsAt.len its _ _ hI1]; exact hI5, by rw [FlsAt.len fls _ _ hM1]; exact hM5, by simpa [Lit.wf] using w3, SmallI.mk hI6, SmallF.mk hM6⟩
    unfold VlC
    exact ⟨ai, ni, ci, af, nf, cf, rfl, hI1, hM1, hI2, hM2, hI3, hM3, w0, w2, w4, w5, hI4, hM4⟩
end
theorem path_cap {H : Type} {enc : TypeId × Value → H} {w : World} {base : Nat} {held : Bool} {fuel : Nat} {a0 : Option Addr} {len0 cap0 : Nat} {d : DataW H} {p : List MemPlace}
    (h : DataW.trod enc Try.prog w base (fun _ => true) held fuel 29 [.slice a0 len0 cap0] = some (d, p)) (hN : ∀ n, n ∈ d.weights Try.prog 29 → n ≤ reachBytes) : cap0 ≤ 4611686018427387903 := by
  have hb : Try.prog.bytesOf 34 = 32 := by kernel_rfl
  rcases DataW.trod_slice Try.underlying29 h with ⟨hc, _⟩ | ⟨a, len, cap, elems, rest, k, hk, hc, hxs, _, hlc, hcm, hel, hcell, hsp, _⟩
  · simp at hc
    omega
  · simp at hc
    obtain ⟨rfl, rfl, rfl⟩ := hc
    simp only [Prod.mk.injEq] at hxs
    have hr := (hsp rfl).1
    have := hN ((elems.length + rest.length) * 32) (by
      rw [hxs.1]
      simp only [DataW.weights, Try.underlying29]
      refine List.mem_cons.2 (.inl ?_)
      rw [hb]
      simp)
    unfold reachBytes at this
    omega
end Go.Proofs.Ythpcpminikmcbaa.vl
namespace Go.Proofs.Ythpcpminikmcbaa.vl
open Go.ChangeShapes Go.WideShapes Go.ChangeAt Go.RowKit
set_option linter.unusedVariables false
set_option linter.unusedSimpArgs false
theorem bk_pos {H : Type} (d : DataW H) : 1 ≤ Rows.uptoBulk d := by
  cases d with
  | lit l => cases l <;> simp [Rows.uptoBulk]
  | _ => simp [Rows.uptoBulk]
theorem bk_mem {H : Type} {d : DataW H} : ∀ {l : List (DataW H)}, d ∈ l → Rows.uptoBulk d ≤ Rows.uptoBulkAll l
  | x :: r, h => by
    simp only [Rows.uptoBulkAll]
    rcases List.mem_cons.1 h with e | e
    · subst e; omega
    · have := bk_mem e; omega
theorem bk_len {H : Type} : ∀ (l : List (DataW H)), l.length ≤ Rows.uptoBulkAll l
  | [] => by simp [Rows.uptoBulkAll]
  | x :: r => by
    have := bk_len r
    have := bk_pos x
    simp only [Rows.uptoBulkAll, List.length_cons]
    omega
theorem bk_slice {H : Type} (e s : List (DataW H)) : e.length + s.length ≤ Rows.uptoBulk (.slice e s) := by
  have := bk_len e
  have := bk_len s
  simp only [Rows.uptoBulk]
  omega
theorem bk_elems {H : Type} (e s : List (DataW H)) : Rows.uptoBulkAll e ≤ Rows.uptoBulk (.slice e s) := by
  simp only [Rows.uptoBulk]
  omega
theorem bk_le {H : Type} {l : List (DataW H)} (hk : Rows.uptoSmall H l = true) : Rows.uptoBulkAll l ≤ 1048576 := of_decide_eq_true hk
/-- not deeper than so much -/
def HtLe : Nat → Vl → Prop
  | 0, _ => False
  | n + 1, .mk _ _ _ _ _ _ its fls => (∀ v ∈ its.list, HtLe n v) ∧ ∀ q ∈ fls.list, HtLe n q.2
theorem HtLe.mono : ∀ {m n : Nat} {v : Vl}, HtLe m v → m ≤ n → HtLe n v
  | 0, n, v, h, _ => h.elim
  | m + 1, 0, v, h, hmn => by omega
  | m + 1, n + 1, .mk _ _ _ _ _ _ its fls, h, hmn => ⟨fun v hv => (h.1 v hv).mono (by omega), fun q hq => (h.2 q hq).mono (by omega)⟩
theorem fmax_le (N : Int) : ∀ (l : List Int) (a : Int), 0 ≤ a → a ≤ N → (∀ x ∈ l, 0 ≤ x ∧ x ≤ N) → 0 ≤ l.foldl max a ∧ l.foldl max a ≤ N
  | [], a, h0, h1, _ => ⟨h0, h1⟩
  | x :: l, a, h0, h1, h => fmax_le N l (max a x) (by omega) (by have := (h x (List.mem_cons_self ..)).2; omega) (fun y hy => h y (List.mem_cons_of_mem _ hy))
theorem dep_le : ∀ (n : Nat) (v : Vl), HtLe n v → n ≤ 1048577 → 0 ≤ og.depW v ∧ og.depW v ≤ n
  | 0, v, h, _ => h.elim
  | n + 1, .mk kd b m f tx ty its fls, h, hn => by
    rw [og.depW, og.mxI_fold, og.mxF_fold]
    have h1 := fmax_le n (its.list.map og.depW) 0 (by omega) (by omega) (fun x hx => by
      obtain ⟨v, hv, rfl⟩ := List.mem_map.1 hx
      exact dep_le n v (h.1 v hv) (by omega))
    have h2 := fmax_le n (fls.list.map (fun q => og.depW q.2)) 0 (by omega) (by omega) (fun x hx => by
      obtain ⟨q, hq, rfl⟩ := List.mem_map.1 hx
      exact dep_le n q.2 (h.2 q hq) (by omega))
    split
    · unfold wrap64; omega
    · split
      · unfold wrap64; omega
      · omega
section
variable {H : Type} {enc : TypeId × Value → H} {w : World} {base : Nat} {held : Bool}
theorem val_ofB : ∀ (fuel : Nat) (cs : List Value) (x : DataW H × List MemPlace), DataW.trod enc Try.prog w base (fun _ => true) held fuel 27 cs = some x → Rows.uptoBulk x.1 ≤ 1048576 → ∃ v, VlC w v cs ∧ Small v ∧ HtLe (Rows.uptoBulk x.1) v := by
  intro fuel
  induction fuel using Nat.strongRecOn with
  | _ fuel ih =>
    intro cs x h hN
    obtain ⟨x0, x1, x2, x3, x4, x5, x6, x7, n, hfu, hxd, hl, f0, f1, f2, f3, f4, f5, f6, f7⟩ := struct8w Try.underlying27 h
    have hN6 : Rows.uptoBulk x6.1 + 1 ≤ Rows.uptoBulk x.1 := by
      rw [hxd]
      simp only [Rows.uptoBulk, Rows.uptoBulkAll]
      omega
    have hN7 : Rows.uptoBulk x7.1 + 1 ≤ Rows.uptoBulk x.1 := by
      rw [hxd]
      simp only [Rows.uptoBulk, Rows.uptoBulkAll]
      omega
    obtain ⟨N, eN⟩ : ∃ N, Rows.uptoBulk x.1 = N + 1 := ⟨Rows.uptoBulk x.1 - 1, by omega⟩
    rw [eN] at hN hN6 hN7 ⊢
    rw [cellsV] at hl
    obtain ⟨c0, c1, c2, c3, c4, c5, c6, c7, rfl⟩ := list_eight hl
    simp only [cK, cB, cI, cF, cS, cIt, cFl, List.drop_zero, List.drop_succ_cons, List.take_succ_cons, List.take_zero] at f0 f1 f2 f3 f4 f5 f6 f7
    obtain ⟨kd, e0, _, w0⟩ := DataW.trod_int Try.underlying22 f0
    obtain ⟨b, e1, _⟩ := DataW.trod_bool Try.underlying4 f1
    obtain ⟨m, e2, _, w2⟩ := DataW.trod_int Try.underlying2 f2
    obtain ⟨fl, e3, _, w3⟩ := trod_float Try.underlying23 f3
    obtain ⟨tx, e4, _, w4⟩ := DataW.trod_string Try.underlying9 f4
    obtain ⟨ty, e5, _, w5⟩ := DataW.trod_string Try.underlying9 f5
    simp only [List.cons.injEq, and_true] at e0 e1 e2 e3 e4 e5
    subst e0 e1 e2 e3 e4 e5
    have hI : ∃ (ai : Option Addr) (ni ci : Nat) (l : Vls), c6 = .slice ai ni ci ∧ VlsAt w l ai ni ∧ ni ≤ ci ∧ (ai = none → ci = 0) ∧ ci ≤ maxLen ∧ ni ≤ 1256584717458 ∧ ∀ v ∈ l.list, Small v ∧ HtLe N v := by
      rcases DataW.trod_slice Try.underlying24 f6 with ⟨hc, _⟩ | ⟨a, len, cap, elems, rest, k, hk, hc, hxs, _, hlc, hcm, hel, hcell, _, _⟩
      · simp at hc
        exact ⟨none, 0, 0, .nil, hc, by unfold VlsAt; rfl, Nat.le_refl _, fun _ => rfl, Nat.zero_le _, Nat.zero_le _, by simp [Vls.list]⟩
      · simp at hc
        have hxs1 : x6.1 = .slice (elems.map (·.1)) (rest.map (·.1)) := by rw [hxs]
        rw [hxs1] at hN6
        have hbl := bk_slice (elems.map (·.1)) (rest.map (·.1))
        have hbe := bk_elems (elems.map (·.1)) (rest.map (·.1))
        rw [List.length_map, List.length_map] at hbl
        have hlen6 : len ≤ 1256584717458 := by omega
        have key : ∀ i, i < len → ∃ cs v, w.cells? base (a.add (i * 8)) 8 = some cs ∧ VlC w v cs ∧ (Small v ∧ HtLe N v) := by
          intro i hi
          have h1 := hcell i hi
          rw [cellsV, List.getElem?_eq_getElem (show i < elems.length by omega), Option.bind_eq_some_iff] at h1
          obtain ⟨cs, h2, h3⟩ := h1
          have hbm := bk_mem (List.mem_map.2 ⟨_, List.getElem_mem (show i < elems.length by omega), rfl⟩ : (elems[i]'(by omega)).1 ∈ elems.map (·.1))
          obtain ⟨v, hv, hsv, hht⟩ := ih k (by omega) cs _ h3 (by omega)
          exact ⟨cs, v, h2, hv, hsv, hht.mono (by omega)⟩
        by_cases h0 : len = 0
        · subst h0
          exact ⟨some a, 0, cap, .nil, hc, by unfold VlsAt; rfl, by omega, fun e => (by cases e), hcm, by omega, by simp [Vls.list]⟩
        · have hsp : a.spot = none := by
            obtain ⟨cs, v, h1, _, _⟩ := key 0 (by omega)
            have := spot_of h1 (by omega)
            simpa [Addr.add] using this
          obtain ⟨bb, off, spot⟩ := a
          simp only at hsp
          subst hsp
          obtain ⟨l, hl, hlq⟩ := vls_ofQ (fun v => Small v ∧ HtLe N v) w bb len off (fun i hi => by
            obtain ⟨cs, v, h1, h2, h3⟩ := key i hi
            rw [Addr.add_lit] at h1
            exact ⟨cs, v, (row_of h1 rfl).2, h2, h3⟩)
          exact ⟨some ⟨bb, off, none⟩, len, cap, l, hc, hl, hlc, fun e => (by cases e), hcm, hlen6, hlq⟩
    have hM : ∃ (ai : Option Addr) (ni ci : Nat) (l : Fls), c7 = .slice ai ni ci ∧ FlsAt w l ai ni ∧ ni ≤ ci ∧ (ai = none → ci = 0) ∧ ci ≤ maxLen ∧ ni ≤ 1099511627776 ∧ ∀ q ∈ l.list, Small q.2 ∧ HtLe N q.2 := by
      rcases DataW.trod_slice Try.underlying25 f7 with ⟨hc, _⟩ | ⟨a, len, cap, elems, rest, k, hk, hc, hxs, _, hlc, hcm, hel, hcell, _, _⟩
      · simp at hc
        exact ⟨none, 0, 0, .nil, hc, by unfold FlsAt; rfl, Nat.le_refl _, fun _ => rfl, Nat.zero_le _, Nat.zero_le _, by simp [Fls.list]⟩
      · simp at hc
        have hxs1 : x7.1 = .slice (elems.map (·.1)) (rest.map (·.1)) := by rw [hxs]
        rw [hxs1] at hN7
        have hbl := bk_slice (elems.map (·.1)) (rest.map (·.1))
        have hbe := bk_elems (elems.map (·.1)) (rest.map (·.1))
        rw [List.length_map, List.length_map] at hbl
        have hlen7 : len ≤ 1099511627776 := by omega
        have key : ∀ i, i < len → ∃ nm cs v, w.cells? base (a.add (i * 9)) 9 = some (.string nm :: cs) ∧ nm.size ≤ maxLen ∧ VlC w v cs ∧ (Small v ∧ HtLe N v) := by
          intro i hi
          have h1 := hcell i hi
          rw [cellsM, List.getElem?_eq_getElem (show i < elems.length by omega), Option.bind_eq_some_iff] at h1
          obtain ⟨cs, h2, h3⟩ := h1
          obtain ⟨y0, y1, q, hq, hyd, hl9, g0, g1⟩ := struct2w Try.underlying69 h3
          rw [cellsM] at hl9
          obtain ⟨c, r, rfl, hr⟩ := list_nine hl9
          simp only [cS, cellsV, List.drop_zero, List.drop_succ_cons, List.take_succ_cons, List.take_zero] at g0 g1
          rw [List.take_of_length_le (by omega)] at g1
          obtain ⟨nm, e, _, hz⟩ := DataW.trod_string Try.underlying9 g0
          simp only [List.cons.injEq, and_true] at e
          subst e
          have hbm := bk_mem (List.mem_map.2 ⟨_, List.getElem_mem (show i < elems.length by omega), rfl⟩ : (elems[i]'(by omega)).1 ∈ elems.map (·.1))
          have hby : Rows.uptoBulk y1.1 ≤ Rows.uptoBulk (elems[i]'(by omega)).1 := by
            rw [hyd]
            simp only [Rows.uptoBulk, Rows.uptoBulkAll]
            omega
          obtain ⟨v, hv, hsv, hht⟩ := ih q (by omega) r _ g1 (by omega)
          exact ⟨nm, r, v, h2, hz, hv, hsv, hht.mono (by omega)⟩
        by_cases h0 : len = 0
        · subst h0
          exact ⟨some a, 0, cap, .nil, hc, by unfold FlsAt; rfl, by omega, fun e => (by cases e), hcm, by omega, by simp [Fls.list]⟩
        · have hsp : a.spot = none := by
            obtain ⟨nm, cs, v, h1, _⟩ := key 0 (by omega)
            have := spot_of h1 (by omega)
            simpa [Addr.add] using this
          obtain ⟨bb, off, spot⟩ := a
          simp only at hsp
          subst hsp
          obtain ⟨l, hl, hlq⟩ := fls_ofQ (fun v => Small v ∧ HtLe N v) w bb len off (fun i hi => by
            obtain ⟨nm, cs, v, h1, hz, h2, h3⟩ := key i hi
            rw [Addr.add_lit] at h1
            have hrow : Row8 w bb (off + i * 9) (.string nm :: cs) := (row_of h1 rfl).2
            refine ⟨nm, cs, v, by simpa using hrow 0 (.string nm) rfl, hz, fun j u hu => ?_, h2, h3⟩
            have := hrow (j + 1) u (by simpa using hu)
            rw [show off + i * 9 + 1 + j = off + i * 9 + (j + 1) by omega]
            exact this)
          exact ⟨some ⟨bb, off, none⟩, len, cap, l, hc, hl, hlc, fun e => (by cases e), hcm, hlen7, hlq⟩
    obtain ⟨ai, ni, ci, its, rfl, hI1, hI2, hI3, hI4, hI5, hI6⟩ := hI
    obtain ⟨af, nf, cf, fls, rfl, hM1, hM2, hM3, hM4, hM5, hM6⟩ := hM
    refine ⟨.mk kd b m fl tx ty its fls, ?_, ?_, ?_⟩
    rotate_left
    · unfold Small
      exact ⟨by rw [VlsAt.len its _ _ hI1]; exact hI5, by rw [FlsAt.len fls _ _ hM1]; exact hM5, by simpa [Lit.wf] using w3, SmallI.mk (fun v hv => (hI6 v hv).1), SmallF.mk (fun q hq => (hM6 q hq).1)⟩
    · exact ⟨fun v hv => (hI6 v hv).2, fun q hq => (hM6 q hq).2⟩
    unfold VlC
    exact ⟨ai, ni, ci, af, nf, cf, rfl, hI1, hM1, hI2, hM2, hI3, hM3, w0, w2, w4, w5, hI4, hM4⟩
end
end Go.Proofs.Ythpcpminikmcbaa.vl
namespace Go.Proofs.Ythpcpminikmcbaa.mem
open Go.ChangeShapes Go.WideShapes Go.ChangeAt Go.RowKit
open ints (hide unhide)
set_option linter.unusedVariables false

theorem rsc_yes (c : Int) (w : World) (h : scP c) :
    Calls Try.prog 138 #[.int .i32 c] w fun e w' => e = .returned (.bool true) ∧ w' = w := by
  rcases h with ⟨h1, h2⟩ | ⟨h1, h2⟩
  · have a1 : ¬ 55296 ≤ c := by omega
    have a2 : c ≤ 1114111 := by omega
    go_enter Try.func138, Try.ntmps138
    go_wp2
    go_ret
    exact ⟨rfl, rfl⟩
  · have a1 : 55296 ≤ c := by omega
    have a2 : ¬ c ≤ 57343 := by omega
    have a3 : 0 ≤ c := by omega
    go_enter Try.func138, Try.ntmps138
    go_wp2
    go_ret
    exact ⟨rfl, rfl⟩
theorem rsc_no (c : Int) (w : World) (h : ¬ scP c) :
    Calls Try.prog 138 #[.int .i32 c] w fun e w' => e = .returned (.bool false) ∧ w' = w := by
  unfold scP at h
  by_cases h1 : c < 0
  · have a1 : ¬ 55296 ≤ c := by omega
    have a2 : ¬ 0 ≤ c := by omega
    go_enter Try.func138, Try.ntmps138
    go_wp2
    go_ret
    exact ⟨rfl, rfl⟩
  by_cases h2 : c ≤ 57343
  · have a1 : 55296 ≤ c := by omega
    go_enter Try.func138, Try.ntmps138
    go_wp2
    go_ret
    exact ⟨rfl, rfl⟩
  have a1 : 55296 ≤ c := by omega
  have a2 : 0 ≤ c := by omega
  have a3 : ¬ c ≤ 1114111 := by omega
  go_enter Try.func138, Try.ntmps138
  go_wp2
  go_ret
  exact ⟨rfl, rfl⟩

theorem put_no (c : Int) (w : World) (h : ¬ scP c) :
    Calls Try.prog 126 #[.int .i32 c] w fun e w' => e = .returned (.slice none 0 0) ∧ w' = w := by
  go_enter Try.func126, Try.ntmps126
  go_wp2_with fail
  refine (rsc_no _ _ h).mono ?_
  rintro e w' ⟨rfl, rfl⟩
  go_wp2
  go_ret
  exact ⟨rfl, rfl⟩
theorem put_lit (w : World) (zs : List Int) (m : Nat) (hm : m ≤ maxLen) (hl : zs.length = m) :
    (w.alloc (.cells (zs.map (Value.int .u8)).toArray 5)).ownsRow w.heap.size 5 1 (.slice (some ⟨w.heap.size, 0, none⟩) m m) m (zs.map (Value.int .u8)) := by
  have := World.ownsRow_lit (base := w.heap.size) (e := 5) (size := 1) w (zs.map (Value.int .u8)).toArray m (Nat.le_refl _) hm (by simp [hl])
  simpa using this
set_option maxHeartbeats 1000000 in
theorem put_yes (c : Int) (w : World) (h : scP c) :
    Calls Try.prog 126 #[.int .i32 c] w fun e w' => e = .returned (.slice (some ⟨w.heap.size, 0, none⟩) (putB c).length (putB c).length) ∧ w' = w.alloc (.cells ((putB c).map (Value.int .u8)).toArray 5) := by
  have hc0 : 0 ≤ c := by unfold scP at h; omega
  have hc1 : c ≤ 1114111 := by unfold scP at h; omega
  by_cases h1 : c < 128
  · rw [putB_1 h1]
    go_enter Try.func126, Try.ntmps126
    go_wp2_with fail
    refine (rsc_yes _ _ h).mono ?_
    rintro e w' ⟨rfl, rfl⟩
    go_wp2
    go_ret
    exact ⟨rfl, rfl⟩
  by_cases h2 : c < 2048
  · rw [putB_2 (by omega) h2]
    go_enter Try.func126, Try.ntmps126
    go_wp2_with fail
    refine (rsc_yes _ _ h).mono ?_
    rintro e w' ⟨rfl, rfl⟩
    go_wp2
    go_ret
    exact ⟨rfl, rfl⟩
  by_cases h3 : c < 65536
  · rw [putB_3 (by omega) h3]
    go_enter Try.func126, Try.ntmps126
    go_wp2_with fail
    refine (rsc_yes _ _ h).mono ?_
    rintro e w' ⟨rfl, rfl⟩
    go_wp2
    go_ret
    exact ⟨rfl, rfl⟩
  rw [putB_4 (by omega)]
  go_enter Try.func126, Try.ntmps126
  go_wp2_with fail
  refine (rsc_yes _ _ h).mono ?_
  rintro e w' ⟨rfl, rfl⟩
  go_wp2
  go_ret
  exact ⟨rfl, rfl⟩

end Go.Proofs.Ythpcpminikmcbaa.mem
namespace Go.Proofs.Ythpcpminikmcbaa.mem
open Go.ChangeShapes Go.WideShapes Go.ChangeAt Go.RowKit
open ints (hide unhide)
set_option linter.unusedVariables false

theorem same_any (a a' : Option Addr) (n n' c c' : Nat) (zs zs' : List Int) (w : World) (h : Row .u8 w a n c zs) (h' : Row .u8 w a' n' c' zs') (hn : n ≤ 9223372036854775807) :
    Calls Try.prog 127 #[.slice a n c, .slice a' n' c'] w fun e w' => e = .returned (.bool (decide (zs = zs'))) ∧ Below w.heap.size w w' := by
  by_cases hl : n = n'
  · subst hl
    have hne : ((n : Int) != (n : Int)) = false := by simp
    go_enter Try.func127, Try.ntmps127
    go_wp2
    go_loopw [5] (fun i wr => ∃ k : Nat, k ≤ n ∧ i = .int .i64 k ∧ Hid (∀ j, j < k → zs.getD j 0 = zs'.getD j 0) ∧ Below w.heap.size w wr) (fun i _ => n - (intOf i).toNat)
    case atStart => exact ⟨0, Nat.zero_le _, rfl, hide (fun j hj => by omega), Below.refl _ _⟩
    case round =>
      obtain ⟨k, hk, rfl, heq, hbel⟩ := hrel
      by_cases hlt : k < n
      · rcases h.at_ with h0 | ⟨b, off, rfl, hbw, hcell⟩
        · omega
        rcases h'.at_ with h0 | ⟨b', off', rfl, hbw', hcell'⟩
        · omega
        have c1 := (hbel.cell (p := ⟨b, off + k, none⟩) hbw).trans (hcell k hlt)
        have c2 := (hbel.cell (p := ⟨b', off' + k, none⟩) hbw').trans (hcell' k hlt)
        obtain ⟨x, hx⟩ : ∃ x, x = zs.getD k 0 := ⟨_, rfl⟩
        obtain ⟨y, hy⟩ : ∃ y, y = zs'.getD k 0 := ⟨_, rfl⟩
        rw [← hx] at c1
        rw [← hy] at c2
        have Hx := hide hx
        have Hy := hide hy
        have ki : (k : Int) < (n : Int) := by omega
        clear hx hy hcell hcell'
        by_cases hxy : x = y
        · have hb : (x != y) = false := by simpa using hxy
          have Hxy := hide hxy
          clear hxy
          go_wp2
          go_quiet (fail)
          go_wp2
          go_roundw
          case rel =>
            refine ⟨k + 1, by omega, by go_num, hide (fun j hj => ?_), below_drewN hbel _⟩
            by_cases hjk : j < k
            · exact unhide heq j hjk
            · obtain rfl : j = k := by omega
              rw [← unhide Hx, ← unhide Hy, unhide Hxy]
          case measure => simp [intOf]; omega
        · have hb : (x != y) = true := by simpa using hxy
          have Hxy := hide hxy
          clear hxy
          go_wp2
          go_quiet (fail)
          go_wp2
          go_ret
          have hd : decide (zs = zs') = false := by
            rw [decide_eq_false_iff_not]
            intro e
            apply unhide Hxy
            rw [unhide Hx, unhide Hy, e]
          rw [hd]
          exact ⟨rfl, below_drewN hbel _⟩
      · have hd := hide (show decide (zs = zs') = true from by
          rw [decide_eq_true_iff]
          exact getD_ext (by rw [h.len, h'.len]) (fun j hj => unhide heq j (by have := h.len; omega)))
        go_wp2
        go_ret
        rw [unhide hd]
        exact ⟨rfl, hbel⟩
  · have hne : ((n : Int) != (n' : Int)) = true := by simp; omega
    have hd := hide (show decide (zs = zs') = false from by
      rw [decide_eq_false_iff_not]
      intro e
      apply hl
      rw [← h.len, ← h'.len, e])
    go_enter Try.func127, Try.ntmps127
    go_wp2
    go_ret
    rw [unhide hd]
    exact ⟨rfl, Below.refl _ _⟩

def numTo (m : Int) (g : List Int) : Nat → Int
  | 0 => g.getD 0 0 % m
  | j + 1 => numTo m g j * 64 + g.getD (j + 1) 0 % 64
theorem numTo_bd (m : Int) (hm0 : 1 ≤ m) (hm : m ≤ 128) (g : List Int) (hg : Byt g) (j : Nat) (hj : j ≤ 3) : 0 ≤ numTo m g j ∧ numTo m g j ≤ 33554431 := by
  have h0 := byt_getD hg 0
  have e0 : 0 ≤ g.getD 0 0 % m ∧ g.getD 0 0 % m ≤ 127 := ⟨Int.emod_nonneg _ (by omega), by have := Int.emod_lt_of_pos (g.getD 0 0) (show 0 < m by omega); omega⟩
  match j, hj with
  | 0, _ => unfold numTo; omega
  | 1, _ => unfold numTo numTo; omega
  | 2, _ => unfold numTo numTo numTo; omega
  | 3, _ => unfold numTo numTo numTo numTo; omega
set_option maxHeartbeats 1000000 in
theorem number_any (a : Option Addr) (k m c : Nat) (g : List Int) (w : World) (h : Row .u8 w a k c g) (hg : Byt g) (hkm : (k = 1 ∧ m = 128) ∨ (k = 2 ∧ m = 32) ∨ (k = 3 ∧ m = 16) ∨ (k = 4 ∧ m = 8)) :
    Calls Try.prog 125 #[.slice a k c] w fun e w' => e = .returned (.int .i32 (numTo m g (k - 1))) ∧ Below w.heap.size w w' := by
  have k1 : 1 ≤ k := by omega
  have k4 : k ≤ 4 := by omega
  have m0 : 1 ≤ m := by omega
  have m1 : m ≤ 128 := by omega
  rcases h.at_ with h0 | ⟨b, off, rfl, hbw, hcell⟩
  · omega
  obtain ⟨o, ho⟩ : ∃ o, o = Obj.cells #[.int .i64 0, .int .i64 128, .int .i64 32, .int .i64 16, .int .i64 8] 3 (0, 0) := ⟨_, rfl⟩
  have hf : (w.alloc o).cell? ⟨w.heap.size, k, none⟩ = some (.int .i64 (m : Int)) := by
    rw [ho, World.cell?_alloc_at _ _ _ _ rfl]
    rcases hkm with ⟨rfl, rfl⟩ | ⟨rfl, rfl⟩ | ⟨rfl, rfl⟩ | ⟨rfl, rfl⟩ <;> rfl
  have hbel0 : Below w.heap.size w (w.alloc o) := (Below.refl _ _).alloc (Nat.le_refl _) o
  have hc0 := (hbel0.cell (p := ⟨b, off + 0, none⟩) hbw).trans (hcell 0 (by omega))
  rw [Nat.add_zero] at hc0
  have hb0 := byt_getD hg 0
  obtain ⟨x, hx⟩ : ∃ x, x = g.getD 0 0 := ⟨_, rfl⟩
  rw [← hx] at hc0 hb0
  have x0 := hb0.1
  have x1 := hb0.2
  have Hx := hide hx
  have ki1 : (0 : Int) < (k : Int) := by omega
  have ki5 : (k : Int) < 5 := by omega
  have kn : 0 < k := by omega
  have mi0 : (1 : Int) ≤ (m : Int) := by omega
  have mne : ((m : Int) == 0) = false := by simp; omega
  have HC := hide hcell
  have HK := hide hkm
  have HO := hide ho
  clear hx hb0 hcell hkm ho
  go_enter Try.func125, Try.ntmps125
  go_wp2
  rw [← unhide HO]
  go_quiet (fail)
  clear HO
  go_wp2
  go_loopw [4, 5] (fun nv i wr => ∃ j : Nat, j + 1 ≤ k ∧ i = .int .i64 ((j : Int) + 1) ∧ nv = .int .i64 (numTo m g j) ∧ Below w.heap.size w wr) (fun _ i _ => k - (intOf i).toNat)
  case atStart => exact ⟨0, by omega, rfl, by rw [unhide Hx]; rfl, below_drewN hbel0 _⟩
  case round =>
    obtain ⟨j, hj, rfl, rfl, hbel⟩ := hrel
    have hbd := numTo_bd m (by omega) (by omega) g hg j (by omega)
    have p0 := hbd.1
    have p1 := hbd.2
    by_cases hlt : j + 1 < k
    · have hc := (hbel.cell (p := ⟨b, off + (j + 1), none⟩) hbw).trans (unhide HC (j + 1) hlt)
      have hyb := byt_getD hg (j + 1)
      have hnext := hide (show numTo m g (j + 1) = numTo m g j * 64 + g.getD (j + 1) 0 % 64 from rfl)
      generalize numTo m g j = N at *
      generalize g.getD (j + 1) 0 = y at *
      have y0 := hyb.1
      have y1 := hyb.2
      have hlti : (j : Int) + 1 < (k : Int) := by omega
      clear hyb hbd hf hc0
      go_wp2
      go_roundw
      case rel => exact ⟨j + 1, by omega, by go_num, by rw [unhide hnext], hbel⟩
      case measure => simp [intOf]; omega
    · have ej := hide (show k - 1 = j from by omega)
      have hlti : ¬ (j : Int) + 1 < (k : Int) := by omega
      clear hf hc0
      go_wp2
      go_ret
      rw [unhide ej]
      exact ⟨rfl, hbel⟩

theorem Row.take {k : IntKind} {w : World} {a : Option Addr} {n c : Nat} {l : List Int} (h : Row k w a n c l) {m : Nat} (hm : m ≤ n) : Row k w a m c (l.take m) := by
  refine ⟨by simp [h.len]; omega, Nat.le_trans hm h.le, h.nil, ?_⟩
  rcases h.at_ with h0 | ⟨b, off, ha, hb, hc⟩
  · exact .inl (by omega)
  · exact .inr ⟨b, off, ha, hb, fun i hi => by rw [hc i (by omega)]; simp [List.getD, hi]⟩
def mOf (k : Nat) : Nat := if k = 1 then 128 else if k = 2 then 32 else if k = 3 then 16 else 8
theorem mOf_cases (k : Nat) (h1 : 1 ≤ k) (h4 : k ≤ 4) : (k = 1 ∧ mOf k = 128) ∨ (k = 2 ∧ mOf k = 32) ∨ (k = 3 ∧ mOf k = 16) ∨ (k = 4 ∧ mOf k = 8) := by
  unfold mOf; repeat' split
  all_goals omega
def numK (l : List Int) (k : Nat) : Int := numTo (mOf k) (l.take k) (k - 1)
def hit (l : List Int) (k : Nat) : Prop := scP (numK l k) ∧ putB (numK l k) = l.take k
theorem num_put (c : Int) (h : scP c) : numTo (mOf (putB c).length) (putB c) ((putB c).length - 1) = c := by
  unfold scP at h
  by_cases h1 : c < 128
  · rw [putB_1 h1]
    show c % 128 = c
    omega
  by_cases h2 : c < 2048
  · rw [putB_2 (by omega) h2]
    show (192 + c / 64) % 32 * 64 + (128 + c % 64) % 64 = c
    omega
  by_cases h3 : c < 65536
  · rw [putB_3 (by omega) h3]
    show ((224 + c / 4096) % 16 * 64 + (128 + c / 64 % 64) % 64) * 64 + (128 + c % 64) % 64 = c
    omega
  · rw [putB_4 (by omega)]
    show (((240 + c / 262144) % 8 * 64 + (128 + c / 4096 % 64) % 64) * 64 + (128 + c / 64 % 64) % 64) * 64 + (128 + c % 64) % 64 = c
    omega
theorem oneL_zero (l : List Int) (h : (oneL l).2 = 0) : oneL l = (0, 0) := by
  unfold oneL oneQ at h ⊢
  repeat' split at h
  all_goals first | (simp at h; done) | skip
  rw [if_neg ‹_›, if_neg ‹_›, if_neg ‹_›, if_neg ‹_›]
theorem hit_one (l : List Int) (k : Nat) (hk : k ≤ l.length) (h : hit l k) : oneL l = (numK l k, k) := by
  obtain ⟨h1, h2⟩ := h
  have e : l = putB (numK l k) ++ l.drop k := by rw [h2, List.take_append_drop]
  have hl : (putB (numK l k)).length = k := by rw [h2]; simp; omega
  have := one_put (numK l k) h1 (l.drop k)
  rw [← e, hl] at this
  exact this
theorem no_hit (l : List Int) (hb : Byt l) (h : ∀ j, 1 ≤ j → j ≤ 4 → j ≤ l.length → ¬ hit l j) : oneL l = (0, 0) := by
  by_cases h0 : (oneL l).2 = 0
  · exact oneL_zero l h0
  · exfalso
    obtain ⟨h1, h2, h3⟩ := one_back l hb h0
    have ht := take_of l _ _ _ h2 h3
    refine h (oneL l).2 (by omega) (oneL_4 l) (oneL_le l) ?_
    have hn : numK l (oneL l).2 = (oneL l).1 := by
      unfold numK
      rw [ht]
      have := num_put _ h1
      rw [← h3] at this
      exact this
    exact ⟨by rw [hn]; exact h1, by rw [hn, ht]⟩
theorem no_more {l : List Int} {k : Nat} (h : ∀ j, 1 ≤ j → j < k → ¬ hit l j) (hk : ¬ hit l k) : ∀ j, 1 ≤ j → j < k + 1 → ¬ hit l j := by
  intro j h1 h2
  by_cases e : j = k
  · subst e; exact hk
  · exact h j h1 (by omega)
set_option maxHeartbeats 2000000 in
theorem one_any (a : Option Addr) (n c : Nat) (l : List Int) (w : World) (h : Row .u8 w a n c l) (hz : Byt l) (hn : n ≤ 9223372036854775807) :
    Calls Try.prog 111 #[.slice a n c] w fun e w' => e = .returned (.tuple #[.int .i32 (oneL l).1, .int .i64 ((oneL l).2 : Int)]) ∧ Below w.heap.size w w' := by
  go_enter Try.func111, Try.ntmps111
  go_wp2
  go_loopw [4] (fun i wr => ∃ k : Nat, 1 ≤ k ∧ k ≤ 5 ∧ k ≤ n + 1 ∧ i = .int .i64 k ∧ Hid (∀ j, 1 ≤ j → j < k → ¬ hit l j) ∧ Below w.heap.size w wr) (fun i _ => 5 - (intOf i).toNat)
  case atStart => exact ⟨1, by omega, by omega, by omega, rfl, hide (fun j h1 h2 => by omega), Below.refl _ _⟩
  case round =>
    obtain ⟨k, k1, k5, kn, rfl, hno, hbel⟩ := hrel
    by_cases h4 : k ≤ 4
    · by_cases hkn : k ≤ n
      · have hr := (h.below hbel).take hkn
        rcases h.at_ with h0 | ⟨b, off, rfl, hbw, hcell⟩
        · omega
        have kc := h.le
        have kci : (k : Int) ≤ (c : Int) := by omega
        have hN := hide (number_any _ k (mOf k) c (l.take k) wr hr (fun z hz' => hz z (List.mem_of_mem_take hz')) (mOf_cases k k1 h4))
        obtain ⟨C, hC⟩ : ∃ C, C = numK l k := ⟨_, rfl⟩
        have hnx := hide (show numTo (mOf k) (l.take k) (k - 1) = C from by rw [hC]; rfl)
        rw [unhide hnx] at hN
        have HC := hide hC
        clear hC hcell
        go_wp2_with fail
        refine (unhide hN).mono ?_
        rintro e w1 ⟨rfl, hb1⟩
        have hbel1 := hbel.trans (hb1.mono hbel.size)
        have hr1 := hr.below hb1
        clear hN hr hb1 hbel
        by_cases hs : scP C
        · have hpl := putB_len C
          obtain ⟨P, hP⟩ : ∃ P, P = putB C := ⟨_, rfl⟩
          have R := hide (put_yes C w1 hs)
          obtain ⟨o, ho⟩ : ∃ o, o = Obj.cells ((putB C).map (Value.int .u8)).toArray 5 (0, 0) := ⟨_, rfl⟩
          have hlit := put_lit w1 (putB C) (putB C).length (by unfold maxLen; omega) rfl
          rw [← ho] at R hlit
          rw [← hP] at R hlit hpl
          have hbo : Below w1.heap.size w1 (w1.alloc o) := (Below.refl _ _).alloc (Nat.le_refl _) o
          have hrp : Row .u8 (w1.alloc o) (some ⟨w1.heap.size, 0, none⟩) P.length P.length P := by
            obtain ⟨a', cap', e', hr'⟩ := own_row hlit
            simp only [Value.slice.injEq] at e'
            obtain ⟨rfl, _, rfl⟩ := e'
            exact hr'
          have hr2 := hr1.below hbo
          have hbel2 : Below w.heap.size w (w1.alloc o) := hbel1.trans (hbo.mono hbel1.size)
          have HP := hide hP
          clear ho hP hlit hbo
          by_cases hlen : P.length = k
          · have hb : ((P.length : Int) == (k : Int)) = true := by simp; omega
            by_cases heq : P = l.take k
            · have hone := hide (hit_one l k (by rw [h.len]; exact hkn) ⟨by rw [← unhide HC]; exact hs, by rw [← unhide HC, ← unhide HP]; exact heq⟩)
              have S := hide (same_any _ _ P.length k _ _ P (l.take k) (w1.alloc o) hrp hr2 (by omega))
              have hd : decide (P = l.take k) = true := by simpa using heq
              rw [hd] at S
              clear hlen heq hd
              go_wp2_with fail
              refine (unhide R).mono ?_
              rintro e w' ⟨rfl, rfl⟩
              clear R
              go_wp2_with fail
              refine (unhide S).mono ?_
              rintro e w3 ⟨rfl, hb3⟩
              clear S
              go_wp2
              go_ret2
              rw [unhide hone, ← unhide HC]
              exact ⟨rfl, hbel2.trans (hb3.mono hbel2.size)⟩
            · have hnot := hide (show ¬ hit l k from fun hh => heq (by rw [unhide HP, unhide HC]; exact hh.2))
              have S := hide (same_any _ _ P.length k _ _ P (l.take k) (w1.alloc o) hrp hr2 (by omega))
              have hd : decide (P = l.take k) = false := by simpa using heq
              rw [hd] at S
              clear hlen heq hd
              go_wp2_with fail
              refine (unhide R).mono ?_
              rintro e w' ⟨rfl, rfl⟩
              clear R
              go_wp2_with fail
              refine (unhide S).mono ?_
              rintro e w3 ⟨rfl, hb3⟩
              clear S
              go_wp2
              go_roundw
              case rel => exact ⟨k + 1, by omega, by omega, by omega, by go_num, hide (no_more (unhide hno) (unhide hnot)), hbel2.trans (hb3.mono hbel2.size)⟩
              case measure => simp [intOf]; omega
          · have hb : ((P.length : Int) == (k : Int)) = false := by simp; omega
            have hnot := hide (show ¬ hit l k from fun hh => hlen (by rw [unhide HP, unhide HC, hh.2]; simp [h.len]; omega))
            clear hlen
            go_wp2_with fail
            refine (unhide R).mono ?_
            rintro e w' ⟨rfl, rfl⟩
            clear R
            go_wp2
            go_roundw
            case rel => exact ⟨k + 1, by omega, by omega, by omega, by go_num, hide (no_more (unhide hno) (unhide hnot)), hbel2⟩
            case measure => simp [intOf]; omega
        · have hnot := hide (show ¬ hit l k from fun hh => hs (by rw [unhide HC]; exact hh.1))
          have hb : ((0 : Int) == (k : Int)) = false := by simp; omega
          go_wp2_with fail
          refine (put_no C _ hs).mono ?_
          rintro e w' ⟨rfl, rfl⟩
          go_wp2
          go_roundw
          case rel => exact ⟨k + 1, by omega, by omega, by omega, by go_num, hide (no_more (unhide hno) (unhide hnot)), hbel1⟩
          case measure => simp [intOf]; omega
      · have hfin := hide (no_hit l hz (fun j h1 h2 h3 => unhide hno j h1 (by rw [h.len] at h3; omega)))
        go_wp2
        go_ret2
        rw [unhide hfin]
        exact ⟨rfl, hbel⟩
    · have hfin := hide (no_hit l hz (fun j h1 h2 h3 => unhide hno j h1 (by omega)))
      go_wp2
      go_ret2
      rw [unhide hfin]
      exact ⟨rfl, hbel⟩
end Go.Proofs.Ythpcpminikmcbaa.mem
namespace Go.Proofs.Ythpcpminikmcbaa.mem
open Go.ChangeShapes Go.WideShapes Go.ChangeAt Go.RowKit
open ints (hide unhide)
set_option linter.unusedVariables false

theorem Row.drop {k : IntKind} {w : World} {b off n c : Nat} {l : List Int} (h : Row k w (some ⟨b, off, none⟩) n c l) {m : Nat} (hm : m ≤ n) (hbw : b < w.heap.size) (hcell : ∀ i, i < n → w.cell? ⟨b, off + i, none⟩ = some (.int k (l.getD i 0))) :
    Row k w (some ⟨b, off + m, none⟩) (n - m) (c - m) (l.drop m) := by
  refine ⟨by simp [h.len], by have := h.le; omega, (fun e => by cases e), .inr ⟨b, off + m, rfl, hbw, fun i hi => ?_⟩⟩
  rw [Nat.add_assoc, hcell (m + i) (by omega), drop_getD]
theorem cell_one (w : World) (x : Value) (t : TypeId) : ∀ j u, [x][j]? = some u → (w.alloc (.cells #[x] t)).cell? ((⟨w.heap.size, 0, none⟩ : Addr).add j) = some u := by
  intro j u hj
  match j, hj with
  | 0, hj => simp at hj; subst hj; simp [Addr.add]
  | (j + 1), hj => simp at hj
set_option maxHeartbeats 2000000 in
theorem rdecode_any (a : Option Addr) (n c : Nat) (l : List Int) (w : World) (h : Row .u8 w a n c l) (hz : Byt l) (hn : 4 * n ≤ 140737488355328) :
    Calls Try.prog 85 #[.slice a n c] w fun e w' => ∃ v, e = .returned (.tuple #[v, .int .i64 ((decZ l).2 : Int)]) ∧
      w'.ownsRow w.heap.size 21 1 v (decZ l).1.length ((decZ l).1.map (Value.int .i32)) ∧ Below w.heap.size w w' := by
  obtain ⟨i0, hi, hz0, hz1, hz2⟩ := info_parts info32
  go_enter Try.func85, Try.ntmps85
  go_wp2
  go_loopw [4, 5] (fun v i wr => ∃ (pos f : Nat) (acc : List Int), pos ≤ n ∧ n - pos ≤ f ∧ i = .int .i64 pos ∧ wr.ownsRow w.heap.size 21 1 v acc.length (acc.map (Value.int .i32)) ∧ acc.length ≤ pos ∧
      Hid (acc ++ (decF f (l.drop pos)).1 = (decZ l).1) ∧ Hid (pos + (decF f (l.drop pos)).2 = (decZ l).2) ∧ Below w.heap.size w wr) (fun _ i _ => n - (intOf i).toNat)
  case atStart => exact ⟨0, l.length, [], Nat.zero_le _, by rw [h.len]; omega, rfl, World.ownsRow_nil _ _ _ _, Nat.le_refl _, hide (by simp [decZ]), hide (by simp [decZ]), Below.refl _ _⟩
  case round =>
    obtain ⟨pos, f, acc, hpn, hf, rfl, hown, hacc, hA, hB, hbel⟩ := hrel
    by_cases hlt : pos < n
    · rcases h.at_ with h0 | ⟨b, off, rfl, hbw, hcell⟩
      · omega
      have hr := (h.below hbel).drop (m := pos) (by omega) (Nat.lt_of_lt_of_le hbw hbel.size) (fun i hi => (hbel.cell (p := ⟨b, off + i, none⟩) hbw).trans (hcell i hi))
      have hle := h.le
      have O := hide (one_any _ _ _ _ wr hr (byt_drop hz pos) (by omega))
      obtain ⟨x, hx⟩ : ∃ x, x = (oneL (l.drop pos)).1 := ⟨_, rfl⟩
      obtain ⟨d, hd⟩ : ∃ d, d = (oneL (l.drop pos)).2 := ⟨_, rfl⟩
      rw [← hx, ← hd] at O
      have hdl := oneL_le (l.drop pos)
      rw [← hd, List.length_drop, h.len] at hdl
      have hcp : ¬ c = pos := by omega
      have pni : (pos : Int) < (n : Int) := by omega
      by_cases h0 : d = 0
      · have hfin := hide (show decF f (l.drop pos) = ([], 0) from decF_end _ _ (by rw [← hd]; exact h0))
        have hbz : ((d : Int) == 0) = true := by simp; omega
        have e1 := hide (show (decZ l).1 = acc from by have := unhide hA; rw [unhide hfin] at this; simpa using this.symm)
        have e2 := hide (show (decZ l).2 = pos from by have := unhide hB; rw [unhide hfin] at this; simpa using this.symm)
        have Hown := hide hown
        clear hx hd h0 hcell hr hA hB hfin hown
        go_wp2_with fail
        refine (unhide O).mono ?_
        rintro e w1 ⟨rfl, hb1⟩
        clear O
        go_wp2
        go_ret2
        rw [unhide e1, unhide e2]
        exact ⟨_, rfl, own_below (unhide Hown) hb1, hbel.trans (hb1.mono hbel.size)⟩
      · have hbz : ((d : Int) == 0) = false := by simp; omega
        obtain ⟨f', rfl⟩ : ∃ f', f = f' + 1 := ⟨f - 1, by omega⟩
        have hgo := decF_go f' (l.drop pos) (by rw [← hd]; exact h0)
        rw [← hd, ← hx, List.drop_drop] at hgo
        have e1 := hide (show (acc ++ [x]) ++ (decF f' (l.drop (pos + d))).1 = (decZ l).1 from by have := unhide hA; rw [hgo] at this; simpa using this)
        have e2 := hide (show pos + d + (decF f' (l.drop (pos + d))).2 = (decZ l).2 from by have := unhide hB; rw [hgo] at this; simp only at this; omega)
        have Hown := hide hown
        have d1 : 1 ≤ d := by omega
        clear hx hd h0 hcell hr hA hB hgo hown
        go_wp2_with fail
        refine (unhide O).mono ?_
        rintro e w1 ⟨rfl, hb1⟩
        clear O
        have hown1 := own_below (unhide Hown) hb1
        have hbel1 := hbel.trans (hb1.mono hbel.size)
        have hcel := cell_one w1 (.int .i32 x) 21
        have Hlt := hide hown1.lt
        clear Hown hb1 hbel
        go_wp2_with (at_builtin; refine wpList_append_own _ rfl _ _ 121 rfl w.heap.size 21 i0 (.int .i32 0) 1 4 Try.underlying121 hi hz0 hz1 hz2 rfl (by decide) _ _ _ rfl (hown1.alloc _) ⟨w1.heap.size, 0, none⟩ 1 1 [.int .i32 x] rfl (by simp) hcel (by intro u hu; simp at hu; subst hu; rfl) (by unfold maxLen; omega) (by omega) (by have := hbel1.size; simp; omega) ?_; intro v' w2 hown' hgrow _)
        go_roundw
        case rel =>
          refine ⟨pos + d, f', acc ++ [x], by omega, by omega, by go_num, by simpa using hown', by simp; omega, e1, e2, ?_⟩
          exact (hbel1.alloc hbel1.size _).grown hgrow (by have := hbel1.size; simp; omega) (fun k hk => (unhide Hlt k hk).1)
        case measure => simp [intOf]; omega
    · have hnil : l.drop pos = [] := List.drop_eq_nil_of_le (by rw [h.len]; omega)
      have hfin := hide (show decF f (l.drop pos) = ([], 0) from decF_end _ _ (by rw [hnil]; rfl))
      have e1 := hide (show (decZ l).1 = acc from by have := unhide hA; rw [unhide hfin] at this; simpa using this.symm)
      have e2 := hide (show (decZ l).2 = pos from by have := unhide hB; rw [unhide hfin] at this; simpa using this.symm)
      clear hnil hA hB hfin
      go_wp2
      go_ret2
      rw [unhide e1, unhide e2]
      exact ⟨_, rfl, hown, hbel⟩
end Go.Proofs.Ythpcpminikmcbaa.mem
namespace Go.Proofs.Ythpcpminikmcbaa.og
open Go.ChangeShapes Go.WideShapes Go.ChangeAt Go.RowKit
open vl hiding cB cFl cS cF cI cK cIt
open stp (St Pth St3)
set_option linter.unusedVariables false
set_option linter.unusedSimpArgs false
mutual
/-- a value's bulk: its parts, their texts and names -/
def wtV : Vl → Nat
  | .mk _ _ _ _ tx _ its fls => 1 + tx.size + wtI its + wtF fls
def wtI : Vls → Nat
  | .nil => 0
  | .cons v r => wtV v + wtI r
def wtF : Fls → Nat
  | .nil => 0
  | .cons nm v r => nm.size + wtV v + wtF r
end
theorem wtI_mem {v : Vl} : ∀ {l : Vls}, v ∈ l.list → wtV v ≤ wtI l
  | .nil, h => by simp [Vls.list] at h
  | .cons u r, h => by
    simp only [Vls.list, List.mem_cons] at h
    rw [wtI]
    rcases h with rfl | h
    · omega
    · have := wtI_mem h; omega
theorem wtF_mem {q : ByteArray × Vl} : ∀ {l : Fls}, q ∈ l.list → q.1.size + wtV q.2 ≤ wtF l
  | .nil, h => by simp [Fls.list] at h
  | .cons nm u r, h => by
    simp only [Fls.list, List.mem_cons] at h
    rw [wtF]
    rcases h with rfl | h
    · simp only; omega
    · have := wtF_mem h; omega
mutual
theorem cnt_wt : ∀ v : Vl, cnt v ≤ wtV v
  | .mk kd _ _ _ tx _ its fls => by
    have h1 := cntI_wt its
    have h2 := cntF_wt fls
    rw [cnt, wtV]
    split
    · omega
    · split <;> omega
theorem cntI_wt : ∀ l : Vls, cntI l ≤ wtI l
  | .nil => Nat.le_refl _
  | .cons v r => by have h1 := cnt_wt v; have h2 := cntI_wt r; rw [cntI, wtI]; omega
theorem cntF_wt : ∀ l : Fls, cntF l ≤ wtF l
  | .nil => Nat.le_refl _
  | .cons _ v r => by have h1 := cnt_wt v; have h2 := cntF_wt r; rw [cntF, wtF]; omega
end
theorem kid_wt {v : Vl} : ∀ p ∈ kids v, wtV p.2 ≤ wtV v := by
  obtain ⟨kd, b, n, f, tx, ty, its, fls⟩ := v
  refine mem_kids (P := fun u => wtV u ≤ wtV (.mk kd b n f tx ty its fls)) (fun u hu => ?_) (fun q hq => ?_)
  · have := wtI_mem hu; rw [wtV]; omega
  · have := wtF_mem hq; rw [wtV]; omega
theorem conv_bytes (s : ByteArray) (w : World) : ∃ cap W2, (convert 9 87 (.string s)).run Try.prog w = .ok (.slice (some ⟨w.heap.size, 0, none⟩) s.size cap) W2 ∧
    mem.Row .u8 W2 (some ⟨w.heap.size, 0, none⟩) s.size cap (mem.bytesZ s) ∧ Below w.heap.size w W2 := by
  have h := run_bytes_of_string (P := Try.prog) w 9 87 5 s Try.underlying9 Try.underlying87 Try.underlying5
  refine ⟨_, _, h, ⟨mem.bytesZ_len s, grownCap_ge _ _ _ _, (fun e => by cases e), .inr ⟨w.heap.size, 0, rfl, by simp, fun i hi => ?_⟩⟩, (Below.refl _ _).drew.alloc (Nat.le_refl _) _⟩
  have e : (w.drew.alloc (.cells (bytesRow s (grownCap w s.size 0 5)) 5 ((bytesRow s (grownCap w s.size 0 5)).size, (bytesRow s (grownCap w s.size 0 5)).size + 1))).cell? ⟨w.drew.heap.size, 0 + i, none⟩ = (bytesRow s (grownCap w s.size 0 5))[0 + i]? := World.cell?_alloc_mark _ _ _ _ _
  refine e.trans ?_
  have hi' : i < s.data.size := hi
  unfold bytesRow mem.bytesZ
  rw [Nat.zero_add, Array.getElem?_append_left (by simpa using hi')]
  have e2 : (s.data.toList.map fun b => (b.toNat : Int)).getD i 0 = ((s.data[i]'hi').toNat : Int) := by simp [List.getD, Array.getElem?_eq_getElem hi']
  rw [e2, Array.getElem?_map, Array.getElem?_eq_getElem hi']
  rfl
theorem rclean_ok (s : ByteArray) (a : Option Addr) (c : Nat) (w : World) (h : mem.Row .u8 w a s.size c (mem.bytesZ s)) (hs : s.size ≤ 1048576) : Calls Try.prog 50 #[.slice a s.size c] w fun e w' => e = .returned (.bool (clnS s)) ∧ Below w.heap.size w w' := by
  have D := hide (mem.rdecode_any a s.size c _ w h (mem.bytesZ_byt s) (by omega))
  have hC := hide (show clnS s = ((((mem.decZ (mem.bytesZ s)).2 : Nat) : Int) == (s.size : Int)) from rfl)
  generalize clnS s = C at *
  generalize (mem.decZ (mem.bytesZ s)).2 = d at *
  generalize s.size = n at *
  clear h
  go_enter Try.func50, Try.ntmps50
  go_wp2_with fail
  refine (unhide D).mono ?_
  rintro e w1 ⟨v, rfl, -, b1⟩
  clear D
  go_wp2
  go_ret
  exact ⟨by rw [unhide hC]; rfl, b1⟩
end Go.Proofs.Ythpcpminikmcbaa.og
namespace Go.Proofs.Ythpcpminikmcbaa.vl
open Go.ChangeShapes Go.WideShapes Go.ChangeAt Go.RowKit
open og (wtV wtI wtF)
set_option linter.unusedVariables false
set_option linter.unusedSimpArgs false
theorem bk_sum {H : Type} : ∀ (l : List (DataW H)), (l.map Rows.uptoBulk).sum = Rows.uptoBulkAll l
  | [] => rfl
  | x :: r => by rw [List.map_cons, List.sum_cons, bk_sum r]; simp only [Rows.uptoBulkAll]
theorem vls_ofW (w : World) (b : Nat) : ∀ (bs : List Nat) (off : Nat), (∀ i (hi : i < bs.length), ∃ cs v, Row8 w b (off + i * 8) cs ∧ VlC w v cs ∧ Small v ∧ wtV v ≤ bs[i]) → ∃ l, VlsAt w l (some ⟨b, off, none⟩) bs.length ∧ (∀ v ∈ l.list, Small v) ∧ wtI l ≤ bs.sum
  | [], off, _ => ⟨.nil, by unfold VlsAt; rfl, by simp [Vls.list], Nat.le_refl _⟩
  | x :: bs, off, h => by
    obtain ⟨cs, v, h1, h2, h3, h4⟩ := h 0 (by simp)
    obtain ⟨l, hl, hs, hw⟩ := vls_ofW w b bs (off + 8) (fun i hi => by
      obtain ⟨cs, v, h1, h2, h3, h4⟩ := h (i + 1) (by simpa using hi)
      exact ⟨cs, v, by rw [show off + 8 + i * 8 = off + (i + 1) * 8 by omega]; exact h1, h2, h3, by simpa using h4⟩)
    refine ⟨.cons v l, ?_, ?_, ?_⟩
    · unfold VlsAt
      exact ⟨b, off, bs.length, cs, rfl, rfl, by simpa using h1, h2, hl⟩
    · intro u hu
      simp only [Vls.list, List.mem_cons] at hu
      rcases hu with rfl | hu
      · exact h3
      · exact hs u hu
    · rw [wtI, List.sum_cons]
      have : wtV v ≤ x := by simpa using h4
      omega
theorem fls_ofW (w : World) (b : Nat) : ∀ (bs : List Nat) (off : Nat), (∀ i (hi : i < bs.length), ∃ nm cs v, w.cell? ⟨b, off + i * 9, none⟩ = some (.string nm) ∧ nm.size ≤ maxLen ∧ Row8 w b (off + i * 9 + 1) cs ∧ VlC w v cs ∧ Small v ∧ nm.size + wtV v ≤ bs[i]) → ∃ l, FlsAt w l (some ⟨b, off, none⟩) bs.length ∧ (∀ q ∈ l.list, Small q.2) ∧ wtF l ≤ bs.sum
  | [], off, _ => ⟨.nil, by unfold FlsAt; rfl, by simp [Fls.list], Nat.le_refl _⟩
  | x :: bs, off, h => by
    obtain ⟨nm, cs, v, h0, hz, h1, h2, h3, h4⟩ := h 0 (by simp)
    obtain ⟨l, hl, hs, hw⟩ := fls_ofW w b bs (off + 9) (fun i hi => by
      obtain ⟨nm, cs, v, h0, hz, h1, h2, h3, h4⟩ := h (i + 1) (by simpa using hi)
      exact ⟨nm, cs, v, by rw [show off + 9 + i * 9 = off + (i + 1) * 9 by omega]; exact h0, hz, by rw [show off + 9 + i * 9 = off + (i + 1) * 9 by omega]; exact h1, h2, h3, by simpa using h4⟩)
    refine ⟨.cons nm v l, ?_, ?_, ?_⟩
    · unfold FlsAt
      exact ⟨b, off, bs.length, cs, rfl, rfl, by simpa using h0, hz, by simpa using h1, h2, hl⟩
    · intro u hu
      simp only [Fls.list, List.mem_cons] at hu
      rcases hu with rfl | hu
      · exact h3
      · exact hs u hu
    · rw [wtF, List.sum_cons]
      have : nm.size + wtV v ≤ x := by simpa using h4
      omega
theorem len_data (s : ByteArray) : s.data.toList.length = s.size := by rw [Array.length_toList]; rfl
section
variable {H : Type} {enc : TypeId × Value → H} {w : World} {base : Nat} {held : Bool}
theorem val_ofC : ∀ (fuel : Nat) (cs : List Value) (x : DataW H × List MemPlace), DataW.trod enc Try.prog w base (fun _ => true) held fuel 27 cs = some x → Rows.uptoBulk x.1 ≤ 1048576 → ∃ v, VlC w v cs ∧ Small v ∧ wtV v ≤ Rows.uptoBulk x.1 := by
  intro fuel
  induction fuel using Nat.strongRecOn with
  | _ fuel ih =>
    intro cs x h hN
    obtain ⟨x0, x1, x2, x3, x4, x5, x6, x7, n, hfu, hxd, hl, f0, f1, f2, f3, f4, f5, f6, f7⟩ := struct8w Try.underlying27 h
    have hNx : Rows.uptoBulk x4.1 + Rows.uptoBulk x6.1 + Rows.uptoBulk x7.1 + 1 ≤ Rows.uptoBulk x.1 := by
      rw [hxd]
      simp only [Rows.uptoBulk, Rows.uptoBulkAll]
      omega
    rw [cellsV] at hl
    obtain ⟨c0, c1, c2, c3, c4, c5, c6, c7, rfl⟩ := list_eight hl
    simp only [cK, cB, cI, cF, cS, cIt, cFl, List.drop_zero, List.drop_succ_cons, List.take_succ_cons, List.take_zero] at f0 f1 f2 f3 f4 f5 f6 f7
    obtain ⟨kd, e0, _, w0⟩ := DataW.trod_int Try.underlying22 f0
    obtain ⟨b, e1, _⟩ := DataW.trod_bool Try.underlying4 f1
    obtain ⟨m, e2, _, w2⟩ := DataW.trod_int Try.underlying2 f2
    obtain ⟨fl, e3, _, w3⟩ := trod_float Try.underlying23 f3
    obtain ⟨tx, e4, d4, w4⟩ := DataW.trod_string Try.underlying9 f4
    obtain ⟨ty, e5, _, w5⟩ := DataW.trod_string Try.underlying9 f5
    simp only [List.cons.injEq, and_true] at e0 e1 e2 e3 e4 e5
    subst e0 e1 e2 e3 e4 e5
    have ht4 : tx.size + 1 ≤ Rows.uptoBulk x4.1 := by
      rw [d4]
      simp only [Rows.uptoBulk, len_data]
      omega
    have hI : ∃ (ai : Option Addr) (ni ci : Nat) (l : Vls), c6 = .slice ai ni ci ∧ VlsAt w l ai ni ∧ ni ≤ ci ∧ (ai = none → ci = 0) ∧ ci ≤ maxLen ∧ ni ≤ 1256584717458 ∧ (∀ v ∈ l.list, Small v) ∧ wtI l ≤ Rows.uptoBulk x6.1 := by
      rcases DataW.trod_slice Try.underlying24 f6 with ⟨hc, _⟩ | ⟨a, len, cap, elems, rest, k, hk, hc, hxs, _, hlc, hcm, hel, hcell, _, _⟩
      · simp at hc
        exact ⟨none, 0, 0, .nil, hc, by unfold VlsAt; rfl, Nat.le_refl _, fun _ => rfl, Nat.zero_le _, Nat.zero_le _, by simp [Vls.list], Nat.zero_le _⟩
      · simp at hc
        have hxs1 : x6.1 = .slice (elems.map (·.1)) (rest.map (·.1)) := by rw [hxs]
        rw [hxs1] at hNx ⊢
        have hbl := bk_slice (elems.map (·.1)) (rest.map (·.1))
        have hbe := bk_elems (elems.map (·.1)) (rest.map (·.1))
        rw [List.length_map, List.length_map] at hbl
        have hlen6 : len ≤ 1256584717458 := by omega
        have key : ∀ i (hi : i < len), ∃ cs v, w.cells? base (a.add (i * 8)) 8 = some cs ∧ VlC w v cs ∧ Small v ∧ wtV v ≤ Rows.uptoBulk (elems[i]'(by omega)).1 := by
          intro i hi
          have h1 := hcell i hi
          rw [cellsV, List.getElem?_eq_getElem (show i < elems.length by omega), Option.bind_eq_some_iff] at h1
          obtain ⟨cs, h2, h3⟩ := h1
          have hbm := bk_mem (List.mem_map.2 ⟨_, List.getElem_mem (show i < elems.length by omega), rfl⟩ : (elems[i]'(by omega)).1 ∈ elems.map (·.1))
          obtain ⟨v, hv, hsv, hht⟩ := ih k (by omega) cs _ h3 (by omega)
          exact ⟨cs, v, h2, hv, hsv, hht⟩
        by_cases h0 : len = 0
        · subst h0
          exact ⟨some a, 0, cap, .nil, hc, by unfold VlsAt; rfl, by omega, fun e => (by cases e), hcm, by omega, by simp [Vls.list], Nat.zero_le _⟩
        · have hsp : a.spot = none := by
            obtain ⟨cs, v, h1, _, _⟩ := key 0 (by omega)
            have := spot_of h1 (by omega)
            simpa [Addr.add] using this
          obtain ⟨bb, off, spot⟩ := a
          simp only at hsp
          subst hsp
          obtain ⟨l, hl, hlq, hlw⟩ := vls_ofW w bb (elems.map (fun e => Rows.uptoBulk e.1)) off (fun i hi => by
            rw [List.length_map] at hi
            obtain ⟨cs, v, h1, h2, h3, h4⟩ := key i (by omega)
            rw [Addr.add_lit] at h1
            exact ⟨cs, v, (row_of h1 rfl).2, h2, h3, by rw [List.getElem_map]; exact h4⟩)
          rw [List.length_map, hel] at hl
          refine ⟨some ⟨bb, off, none⟩, len, cap, l, hc, hl, hlc, fun e => (by cases e), hcm, hlen6, hlq, ?_⟩
          have := bk_sum (elems.map (·.1))
          rw [List.map_map] at this
          have e2 : (elems.map (fun e => Rows.uptoBulk e.1)).sum = Rows.uptoBulkAll (elems.map (·.1)) := this
          omega
    have hM : ∃ (ai : Option Addr) (ni ci : Nat) (l : Fls), c7 = .slice ai ni ci ∧ FlsAt w l ai ni ∧ ni ≤ ci ∧ (ai = none → ci = 0) ∧ ci ≤ maxLen ∧ ni ≤ 1099511627776 ∧ (∀ q ∈ l.list, Small q.2) ∧ wtF l ≤ Rows.uptoBulk x7.1 := by
      rcases DataW.trod_slice Try.underlying25 f7 with ⟨hc, _⟩ | ⟨a, len, cap, elems, rest, k, hk, hc, hxs, _, hlc, hcm, hel, hcell, _, _⟩
      · simp at hc
        exact ⟨none, 0, 0, .nil, hc, by unfold FlsAt; rfl, Nat.le_refl _, fun _ => rfl, Nat.zero_le _, Nat.zero_le _, by simp [Fls.list], Nat.zero_le _⟩
      · simp at hc
        have hxs1 : x7.1 = .slice (elems.map (·.1)) (rest.map (·.1)) := by rw [hxs]
        rw [hxs1] at hNx ⊢
        have hbl := bk_slice (elems.map (·.1)) (rest.map (·.1))
        have hbe := bk_elems (elems.map (·.1)) (rest.map (·.1))
        rw [List.length_map, List.length_map] at hbl
        have hlen7 : len ≤ 1099511627776 := by omega
        have key : ∀ i (hi : i < len), ∃ nm cs v, w.cells? base (a.add (i * 9)) 9 = some (.string nm :: cs) ∧ nm.size ≤ maxLen ∧ VlC w v cs ∧ Small v ∧ nm.size + wtV v ≤ Rows.uptoBulk (elems[i]'(by omega)).1 := by
          intro i hi
          have h1 := hcell i hi
          rw [cellsM, List.getElem?_eq_getElem (show i < elems.length by omega), Option.bind_eq_some_iff] at h1
          obtain ⟨cs, h2, h3⟩ := h1
          obtain ⟨y0, y1, q, hq, hyd, hl9, g0, g1⟩ := struct2w Try.underlying69 h3
          rw [cellsM] at hl9
          obtain ⟨c, r, rfl, hr⟩ := list_nine hl9
          simp only [cS, cellsV, List.drop_zero, List.drop_succ_cons, List.take_succ_cons, List.take_zero] at g0 g1
          rw [List.take_of_length_le (by omega)] at g1
          obtain ⟨nm, e, dn, hz⟩ := DataW.trod_string Try.underlying9 g0
          simp only [List.cons.injEq, and_true] at e
          subst e
          have hbm := bk_mem (List.mem_map.2 ⟨_, List.getElem_mem (show i < elems.length by omega), rfl⟩ : (elems[i]'(by omega)).1 ∈ elems.map (·.1))
          have hby : nm.size + Rows.uptoBulk y1.1 ≤ Rows.uptoBulk (elems[i]'(by omega)).1 := by
            rw [hyd, dn]
            simp only [Rows.uptoBulk, Rows.uptoBulkAll, len_data]
            omega
          obtain ⟨v, hv, hsv, hht⟩ := ih q (by omega) r _ g1 (by omega)
          exact ⟨nm, r, v, h2, hz, hv, hsv, by omega⟩
        by_cases h0 : len = 0
        · subst h0
          exact ⟨some a, 0, cap, .nil, hc, by unfold FlsAt; rfl, by omega, fun e => (by cases e), hcm, by omega, by simp [Fls.list], Nat.zero_le _⟩
        · have hsp : a.spot = none := by
            obtain ⟨nm, cs, v, h1, _⟩ := key 0 (by omega)
            have := spot_of h1 (by omega)
            simpa [Addr.add] using this
          obtain ⟨bb, off, spot⟩ := a
          simp only at hsp
          subst hsp
          obtain ⟨l, hl, hlq, hlw⟩ := fls_ofW w bb (elems.map (fun e => Rows.uptoBulk e.1)) off (fun i hi => by
            rw [List.length_map] at hi
            obtain ⟨nm, cs, v, h1, hz, h2, h3, h4⟩ := key i (by omega)
            rw [Addr.add_lit] at h1
            have hrow : Row8 w bb (off + i * 9) (.string nm :: cs) := (row_of h1 rfl).2
            refine ⟨nm, cs, v, by simpa using hrow 0 (.string nm) rfl, hz, fun j u hu => ?_, h2, h3, by rw [List.getElem_map]; exact h4⟩
            have := hrow (j + 1) u (by simpa using hu)
            rw [show off + i * 9 + 1 + j = off + i * 9 + (j + 1) by omega]
            exact this)
          rw [List.length_map, hel] at hl
          refine ⟨some ⟨bb, off, none⟩, len, cap, l, hc, hl, hlc, fun e => (by cases e), hcm, hlen7, hlq, ?_⟩
          have := bk_sum (elems.map (·.1))
          rw [List.map_map] at this
          have e2 : (elems.map (fun e => Rows.uptoBulk e.1)).sum = Rows.uptoBulkAll (elems.map (·.1)) := this
          omega
    obtain ⟨ai, ni, ci, its, rfl, hI1, hI2, hI3, hI4, hI5, hI6, hI7⟩ := hI
    obtain ⟨af, nf, cf, fls, rfl, hM1, hM2, hM3, hM4, hM5, hM6, hM7⟩ := hM
    refine ⟨.mk kd b m fl tx ty its fls, ?_, ?_, ?_⟩
    rotate_left
    · unfold Small
      exact ⟨by rw [VlsAt.len its _ _ hI1]; exact hI5, by rw [FlsAt.len fls _ _ hM1]; exact hM5, by simpa [Lit.wf] using w3, SmallI.mk hI6, SmallF.mk hM6⟩
    · rw [wtV]
      omega
    unfold VlC
    exact ⟨ai, ni, ci, af, nf, cf, rfl, hI1, hM1, hI2, hM2, hI3, hM3, w0, w2, w4, w5, hI4, hM4⟩
end
end Go.Proofs.Ythpcpminikmcbaa.vl
