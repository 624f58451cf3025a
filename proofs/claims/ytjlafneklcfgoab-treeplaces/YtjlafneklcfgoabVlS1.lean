import Derived.Test.YtjlafneklcfgoabVlL2
namespace Go.Proofs.Ytjlafneklcfgoab.vl
open Go.ChangeShapes Go.WideShapes Go.ChangeAt Go.RowKit
open stp (St Pth St3)
set_option linter.unusedVariables false
set_option linter.unusedSimpArgs false
/-- the child number i is another value -/
def setS : Vl → St → Nat → Vl → Vl
  | .mk kd b n f tx ty its fls, s, i, x => if s.it = true then .mk kd b n f tx ty (Vls.of (its.list.set i x)) fls else .mk kd b n f tx ty its (Fls.of (fls.list.modify i fun q => (q.1, x)))
def setP : Vl → List St → Vl → Option Vl
  | v, [], x => some x
  | v, s :: r, x => match chI v s, getS v s with
    | some i, some u => (setP u r x).map (setS v s i)
    | _, _ => none
theorem setP_snoc : ∀ {l : List St} {v u : Vl} {s : St} {i : Nat} {c : Vl} (x : Vl), getP v l = some u → chI u s = some i → getS u s = some c → setP v (l ++ [s]) x = setP v l (setS u s i x)
  | [], v, u, s, i, c, x, h, hc, hs => by
    simp only [getP, Option.some.injEq] at h
    subst h
    simp only [List.nil_append, setP, hc, hs, Option.map_some]
  | t :: l, v, u, s, i, c, x, h, hc, hs => by
    simp only [getP] at h
    cases ht : getS v t with
    | none => rw [ht] at h; cases h
    | some y =>
      rw [ht] at h
      simp only [List.cons_append, setP, ht]
      cases hct : chI v t with
      | none => rfl
      | some j => simp only; rw [setP_snoc x h hc hs]
theorem setP_none : ∀ {l : List St} {v : Vl} (x : Vl), getP v l = none → setP v l x = none
  | [], v, x, h => by simp [getP] at h
  | t :: l, v, x, h => by
    simp only [getP] at h
    simp only [setP]
    cases ht : getS v t with
    | none => cases chI v t <;> rfl
    | some y =>
      rw [ht] at h
      cases hct : chI v t with
      | none => rfl
      | some j => simp only; rw [setP_none x h]; rfl
theorem OwsIn.keepR {w w' : World} : ∀ (l : Vls) (p off n : Nat) (G : List Nat), Agree G w w' → (∀ o, off ≤ o → o < off + n * 8 → w'.cell? ⟨p, o, none⟩ = w.cell? ⟨p, o, none⟩) → OwsIn w l p off n G → OwsIn w' l p off n G
  | .nil, p, off, n, G, ha, hc, h => by unfold OwsIn at h ⊢; exact h
  | .cons v r, p, off, n, G, ha, hc, h => by
    unfold OwsIn at h ⊢
    obtain ⟨m, cs, G1, G2, rfl, h1, h2, h3, rfl⟩ := h
    have h8 := (OwC.read v cs G1 h2).cells
    exact ⟨m, cs, G1, G2, rfl, fun i u hu => (hc (off + i) (by omega) (by have := (List.getElem?_eq_some_iff.1 hu).1; omega)).trans (h1 i u hu), OwC.agree v cs G1 ha.left h2, OwsIn.keepR r p _ m G2 ha.right (fun o h0 ho => hc o (by omega) (by omega)) h3, rfl⟩
theorem OwfIn.keepR {w w' : World} : ∀ (l : Fls) (p off n : Nat) (G : List Nat), Agree G w w' → (∀ o, off ≤ o → o < off + n * 9 → w'.cell? ⟨p, o, none⟩ = w.cell? ⟨p, o, none⟩) → OwfIn w l p off n G → OwfIn w' l p off n G
  | .nil, p, off, n, G, ha, hc, h => by unfold OwfIn at h ⊢; exact h
  | .cons nm v r, p, off, n, G, ha, hc, h => by
    unfold OwfIn at h ⊢
    obtain ⟨m, cs, G1, G2, rfl, h0, hz, h1, h2, h3, rfl⟩ := h
    have h8 := (OwC.read v cs G1 h2).cells
    exact ⟨m, cs, G1, G2, rfl, (hc off (by omega) (by omega)).trans h0, hz, fun i u hu => (hc (off + 1 + i) (by omega) (by have := (List.getElem?_eq_some_iff.1 hu).1; omega)).trans (h1 i u hu), OwC.agree v cs G1 ha.left h2, OwfIn.keepR r p _ m G2 ha.right (fun o h0 ho => hc o (by omega) (by omega)) h3, rfl⟩
/-- one item of a list that is owned, and the list around it -/
theorem OwsIn.hole {w : World} : ∀ (l : Vls) (p off n : Nat) (G : List Nat), OwsIn w l p off n G → G.Nodup → ∀ i, i < n → ∃ u us Gi Gr, l.list[i]? = some u ∧ Row8 w p (off + i * 8) us ∧ OwC w u us Gi ∧ Gi.Nodup ∧ (∀ c ∈ Gi, c ∈ G ∧ c ∉ Gr) ∧ (∀ c ∈ Gr, c ∈ G) ∧
    ∀ w' x ds, Agree Gr w w' → (∀ j, (j < off + i * 8 ∨ off + i * 8 + 8 ≤ j) → w'.cell? ⟨p, j, none⟩ = w.cell? ⟨p, j, none⟩) → Row8 w' p (off + i * 8) ds → VlC w' x ds → VlsAt w' (Vls.of (l.list.set i x)) (some ⟨p, off, none⟩) n
  | .nil, p, off, n, G, h, hn, i, hi => by unfold OwsIn at h; omega
  | .cons v r, p, off, n, G, h, hn, i, hi => by
    unfold OwsIn at h
    obtain ⟨m, cs, G1, G2, rfl, h1, h2, h3, rfl⟩ := h
    rw [List.nodup_append] at hn
    obtain ⟨n1, n2, n3⟩ := hn
    match i with
    | 0 =>
      refine ⟨v, cs, G1, G2, rfl, by simpa using h1, h2, n1, fun c hc => ⟨List.mem_append_left _ hc, fun hc' => n3 c hc c hc' rfl⟩, fun c hc => List.mem_append_right _ hc, ?_⟩
      intro w' x ds ha hc hr hx
      simp only [Vls.list, List.set_cons_zero, Vls.of]
      unfold VlsAt
      refine ⟨p, off, m, ds, rfl, rfl, by simpa using hr, hx, ?_⟩
      rw [Vls.of_list]
      exact OwsIn.read _ _ _ _ _ (OwsIn.keepR r p (off + 8) m G2 ha (fun o h0 _ => hc o (.inr (by omega))) h3)
    | i + 1 =>
      obtain ⟨u, us, Gi, Gr, g1, g2, g3, g4, g5, g6, g7⟩ := OwsIn.hole r p (off + 8) m G2 h3 n2 i (by omega)
      rw [show off + 8 + i * 8 = off + (i + 1) * 8 by omega] at g2 g7
      refine ⟨u, us, Gi, G1 ++ Gr, by simpa [Vls.list] using g1, g2, g3, g4, fun c hc => ⟨List.mem_append_right _ (g5 c hc).1, fun hc' => ?_⟩, fun c hc => ?_, ?_⟩
      · rcases List.mem_append.1 hc' with h | h
        · exact n3 c h c (g5 c hc).1 rfl
        · exact (g5 c hc).2 h
      · rcases List.mem_append.1 hc with h | h
        · exact List.mem_append_left _ h
        · exact List.mem_append_right _ (g6 c h)
      · intro w' x ds ha hc hr hx
        simp only [Vls.list, List.set_cons_succ, Vls.of]
        unfold VlsAt
        have h8 := (OwC.read v cs G1 h2).cells
        refine ⟨p, off, m, cs, rfl, rfl, fun j y hy => (hc (off + j) (.inl (by have := (List.getElem?_eq_some_iff.1 hy).1; omega))).trans (h1 j y hy), OwC.read _ _ _ (OwC.agree v cs G1 ha.left h2), g7 w' x ds ha.right hc hr hx⟩
theorem OwfIn.hole {w : World} : ∀ (l : Fls) (p off n : Nat) (G : List Nat), OwfIn w l p off n G → G.Nodup → ∀ i, i < n → ∃ nm u us Gi Gr, l.list[i]? = some (nm, u) ∧ Row8 w p (off + i * 9 + 1) us ∧ OwC w u us Gi ∧ Gi.Nodup ∧ (∀ c ∈ Gi, c ∈ G ∧ c ∉ Gr) ∧ (∀ c ∈ Gr, c ∈ G) ∧
    ∀ w' x ds, Agree Gr w w' → (∀ j, (j < off + i * 9 + 1 ∨ off + i * 9 + 1 + 8 ≤ j) → w'.cell? ⟨p, j, none⟩ = w.cell? ⟨p, j, none⟩) → Row8 w' p (off + i * 9 + 1) ds → VlC w' x ds → FlsAt w' (Fls.of (l.list.modify i fun q => (q.1, x))) (some ⟨p, off, none⟩) n
  | .nil, p, off, n, G, h, hn, i, hi => by unfold OwfIn at h; omega
  | .cons nm v r, p, off, n, G, h, hn, i, hi => by
    unfold OwfIn at h
    obtain ⟨m, cs, G1, G2, rfl, h0, hz, h1, h2, h3, rfl⟩ := h
    rw [List.nodup_append] at hn
    obtain ⟨n1, n2, n3⟩ := hn
    match i with
    | 0 =>
      refine ⟨nm, v, cs, G1, G2, rfl, by simpa using h1, h2, n1, fun c hc => ⟨List.mem_append_left _ hc, fun hc' => n3 c hc c hc' rfl⟩, fun c hc => List.mem_append_right _ hc, ?_⟩
      intro w' x ds ha hc hr hx
      simp only [Fls.list, List.modify_zero_cons, Fls.of]
      unfold FlsAt
      refine ⟨p, off, m, ds, rfl, rfl, (hc off (.inl (by omega))).trans h0, hz, by simpa using hr, hx, ?_⟩
      rw [Fls.of_list]
      exact OwfIn.read _ _ _ _ _ (OwfIn.keepR r p (off + 9) m G2 ha (fun o h0 _ => hc o (.inr (by omega))) h3)
    | i + 1 =>
      obtain ⟨nm', u, us, Gi, Gr, g1, g2, g3, g4, g5, g6, g7⟩ := OwfIn.hole r p (off + 9) m G2 h3 n2 i (by omega)
      rw [show off + 9 + i * 9 + 1 = off + (i + 1) * 9 + 1 by omega] at g2 g7
      refine ⟨nm', u, us, Gi, G1 ++ Gr, by simpa [Fls.list] using g1, g2, g3, g4, fun c hc => ⟨List.mem_append_right _ (g5 c hc).1, fun hc' => ?_⟩, fun c hc => ?_, ?_⟩
      · rcases List.mem_append.1 hc' with h | h
        · exact n3 c h c (g5 c hc).1 rfl
        · exact (g5 c hc).2 h
      · rcases List.mem_append.1 hc with h | h
        · exact List.mem_append_left _ h
        · exact List.mem_append_right _ (g6 c h)
      · intro w' x ds ha hc hr hx
        simp only [Fls.list, List.modify_succ_cons, Fls.of]
        unfold FlsAt
        have h8 := (OwC.read v cs G1 h2).cells
        refine ⟨p, off, m, cs, rfl, rfl, (hc off (.inl (by omega))).trans h0, hz, fun j y hy => (hc (off + 1 + j) (.inl (by have := (List.getElem?_eq_some_iff.1 hy).1; omega))).trans (h1 j y hy), OwC.read _ _ _ (OwC.agree v cs G1 ha.left h2), g7 w' x ds ha.right hc hr hx⟩
end Go.Proofs.Ytjlafneklcfgoab.vl
