import Derived.Test.YtjlafneklcfgoabStp4
import Derived.SizedLaws
import Derived.Deep.Strs
namespace Go.Proofs.Ytjlafneklcfgoab.stp
open Go.ChangeShapes Go.WideShapes Go.ChangeAt Go.RowKit
set_option linter.unusedVariables false
theorem list_three {α : Type} {l : List α} (h : l.length = 3) : ∃ x y z, l = [x, y, z] := by
  match l, h with
  | [x, y, z], _ => exact ⟨x, y, z, rfl⟩
theorem path_of {H : Type} {enc : TypeId × Value → H} {w : World} {base : Nat} {held : Bool} {fuel : Nat} {a0 : Option Addr} {len0 cap0 : Nat} {d : DataW H} {p : List MemPlace}
    (h : DataW.trod enc Try.prog w base (fun _ => true) held fuel 28 [.slice a0 len0 cap0] = some (d, p)) :
    ∃ ss : List St, Pth w a0 len0 ss ∧ len0 ≤ cap0 ∧ (a0 = none → cap0 = 0) ∧ (∀ s ∈ ss, s.nm.size ≤ maxLen ∧ (Lit.int .i64 s.ix).wf = true) := by
  have ce : Try.prog.cellsOf 33 = 3 := by kernel_rfl
  have ce0 : Try.prog.cellsOf 9 = 1 := by kernel_rfl
  have ce1 : Try.prog.cellsOf 3 = 1 := by kernel_rfl
  have ce2 : Try.prog.cellsOf 4 = 1 := by kernel_rfl
  rcases Go.Deep.open_slice Try.underlying28 h with ⟨hcs, _⟩ | ⟨a, len, cap, m, n, D, Pl, hcs, hb, hl, hm, hmm, hx, hcell⟩
  · simp at hcs
    obtain ⟨rfl, rfl, rfl⟩ := hcs
    exact ⟨[], ⟨rfl, .inl rfl⟩, Nat.le_refl _, fun _ => rfl, fun s hs => by simp at hs⟩
  · simp at hcs
    obtain ⟨rfl, rfl, rfl⟩ := hcs
    simp only [if_true] at hmm
    subst hmm
    rw [ce] at hcell
    have key : ∀ i, i < len0 → ∃ (b off : Nat) (s : St), a = ⟨b, off, none⟩ ∧ b < w.heap.size ∧ St3 w b (off + i * 3) s.nm s.ix s.it ∧ s.nm.size ≤ maxLen ∧ (Lit.int .i64 s.ix).wf = true := by
      intro i hi
      obtain ⟨cs', h1, h2⟩ := hcell i (by omega)
      obtain ⟨_, hlen, hc⟩ := World.cells?_some h1
      obtain ⟨y0, y1, y2, n', hD, _, t0, t1, t2⟩ := Go.Deep.trod_struct3 Try.underlying33 h2
      obtain ⟨v0, v1, v2, rfl⟩ := list_three hlen
      have e0 := hc 0 (by omega)
      have e1 := hc 1 (by omega)
      have e2 := hc 2 (by omega)
      obtain ⟨b, off, spot⟩ := a
      have hspot : spot = none := by
        obtain ⟨cs0, h10, h20⟩ := hcell 0 (by omega)
        obtain ⟨_, hlen0, hc0⟩ := World.cells?_some h10
        obtain ⟨q0, q1, q2, rfl⟩ := list_three hlen0
        have := hc0 0 (by omega)
        have : w.cell? (⟨b, off, spot⟩ : Addr) = some q0 := by simpa [Addr.add] using this
        simpa using World.cell?_spot this
      subst hspot
      rw [Go.Deep.add_add, Addr.add_lit] at e0 e1 e2
      simp only [ce0, List.drop_zero, List.take_succ_cons, List.take_zero] at t0
      simp only [ce1, List.drop_succ_cons, List.drop_zero, List.take_succ_cons, List.take_zero] at t1
      simp only [ce2, List.drop_succ_cons, List.drop_zero, List.take_succ_cons, List.take_zero] at t2
      simp only [List.getElem?_cons_zero, List.getElem?_cons_succ] at e0 e1 e2
      obtain ⟨s, hv0, _, hs⟩ := DataW.trod_string Try.underlying9 t0
      obtain ⟨x, hv1, _, hw⟩ := DataW.trod_int Try.underlying3 t1
      obtain ⟨z, hv2, _⟩ := DataW.trod_bool Try.underlying4 t2
      simp only [List.cons.injEq, and_true] at hv0 hv1 hv2
      subst hv0 hv1 hv2
      exact ⟨b, off, ⟨s, x, z⟩, rfl, World.block_lt_of_cell? w _ e0, ⟨by simpa using e0, by rw [Nat.add_assoc]; exact e1, by rw [Nat.add_assoc]; exact e2⟩, hs, hw⟩
    by_cases h0 : len0 = 0
    · exact ⟨[], ⟨by simp [h0], .inl h0⟩, by omega, (fun e => by cases e), fun s hs => by simp at hs⟩
    obtain ⟨b, off, _, rfl, hbw, _⟩ := key 0 (by omega)
    have key' : ∀ i, i < len0 → ∃ s : St, St3 w b (off + i * 3) s.nm s.ix s.it ∧ s.nm.size ≤ maxLen ∧ (Lit.int .i64 s.ix).wf = true := by
      intro i hi
      obtain ⟨b', off', s, e, _, r⟩ := key i hi
      simp only [Addr.mk.injEq, and_true] at e
      obtain ⟨rfl, rfl⟩ := e
      exact ⟨s, r⟩
    obtain ⟨f, hf⟩ : ∃ f : Nat → St, ∀ i, i < len0 → St3 w b (off + i * 3) (f i).nm (f i).ix (f i).it ∧ (f i).nm.size ≤ maxLen ∧ (Lit.int .i64 (f i).ix).wf = true := by
      refine ⟨fun i => if h : i < len0 then Classical.choose (key' i h) else ⟨⟨#[]⟩, 0, false⟩, fun i hi => ?_⟩
      simp only [dif_pos hi]
      exact Classical.choose_spec (key' i hi)
    refine ⟨(List.range len0).map f, ⟨by simp, .inr ⟨b, off, rfl, hbw, fun i hi => ⟨f i, by simp [hi], (hf i hi).1⟩⟩⟩, by omega, (fun e => by cases e), fun s hs => ?_⟩
    obtain ⟨i, hi, rfl⟩ := List.mem_map.1 hs
    exact (hf i (by simpa using hi)).2
theorem path_reach {H : Type} {enc : TypeId × Value → H} {w : World} {base : Nat} {held : Bool} {fuel : Nat} {a0 : Option Addr} {len0 cap0 : Nat} {d : DataW H} {p : List MemPlace}
    (h : DataW.trod enc Try.prog w base (fun _ => true) held fuel 28 [.slice a0 len0 cap0] = some (d, p)) (hN : ∀ n, n ∈ d.weights Try.prog 28 → n ≤ reachBytes) : len0 ≤ 140737488351232 := by
  have hb : Try.prog.bytesOf 33 = 32 := by kernel_rfl
  rcases Go.Deep.open_slice Try.underlying28 h with ⟨hcs, _⟩ | ⟨a, len, cap, m, n, D, Pl, hcs, hb0, hl, hm, hmm, hx, hcell⟩
  · simp at hcs
    omega
  · simp at hcs
    obtain ⟨rfl, rfl, rfl⟩ := hcs
    simp only [if_true] at hmm
    subst hmm
    simp only [Prod.mk.injEq] at hx
    have hm2 : m * 32 ∈ d.weights Try.prog 28 := by
      rw [hx.1]
      simp only [DataW.weights, Try.underlying28]
      refine List.mem_cons.2 (.inl ?_)
      rw [hb]
      simp only [List.length_map, List.length_range]
      rw [show len0 + (m - len0) = m from by omega]
    have := hN _ hm2
    unfold reachBytes at this
    omega
end Go.Proofs.Ytjlafneklcfgoab.stp
