import Derived.Test.YtjlafneklcfgoabVlI
namespace Go.Proofs.Ytjlafneklcfgoab.vl
open Go.ChangeShapes Go.WideShapes Go.ChangeAt Go.RowKit
set_option linter.unusedVariables false
/-- two worlds that agree on these blocks -/
def Agree (F : List Nat) (w w' : World) : Prop := ∀ b ∈ F, ∀ o, w'.cell? ⟨b, o, none⟩ = w.cell? ⟨b, o, none⟩
theorem Agree.left {F G : List Nat} {w w' : World} (h : Agree (F ++ G) w w') : Agree F w w' := fun b hb => h b (List.mem_append_left _ hb)
theorem Agree.right {F G : List Nat} {w w' : World} (h : Agree (F ++ G) w w') : Agree G w w' := fun b hb => h b (List.mem_append_right _ hb)
theorem Agree.tail {p : Nat} {G : List Nat} {w w' : World} (h : Agree (p :: G) w w') : Agree G w w' := fun b hb => h b (List.mem_cons_of_mem _ hb)
theorem Agree.of_below {F : List Nat} {w w' : World} (h : Below w.heap.size w w') (hF : ∀ b ∈ F, b < w.heap.size) : Agree F w w' := fun b hb o => h.cell (p := ⟨b, o, none⟩) (hF b hb)
theorem Agree.trans {F : List Nat} {w w' w'' : World} (h : Agree F w w') (h' : Agree F w' w'') : Agree F w w'' := fun b hb o => (h' b hb o).trans (h b hb o)
mutual
/-- these eight cells are the value v, all its lists in blocks of their own, F -/
def OwC (w : World) : Vl → List Value → List Nat → Prop
  | .mk kd b n f tx ty its fls, cs, F => ∃ (ai : Option Addr) (ni ci : Nat) (af : Option Addr) (nf cf : Nat) (Fi Ff : List Nat), cs = [.int .i64 kd, .bool b, .int .i64 n, .float .f64 f, .string tx, .string ty, .slice ai ni ci, .slice af nf cf] ∧
      ((ai = none ∧ its = .nil ∧ ni = 0 ∧ Fi = []) ∨ ∃ p G, ai = some ⟨p, 0, none⟩ ∧ Fi = p :: G ∧ OwsIn w its p 0 ni G) ∧
      ((af = none ∧ fls = .nil ∧ nf = 0 ∧ Ff = []) ∨ ∃ p G, af = some ⟨p, 0, none⟩ ∧ Ff = p :: G ∧ OwfIn w fls p 0 nf G) ∧
      ni ≤ ci ∧ nf ≤ cf ∧ (ai = none → ci = 0) ∧ (af = none → cf = 0) ∧ (Lit.int .i64 kd).wf = true ∧ (Lit.int .i64 n).wf = true ∧ tx.size ≤ maxLen ∧ ty.size ≤ maxLen ∧ ci ≤ maxLen ∧ cf ≤ maxLen ∧ F = Fi ++ Ff
def OwsIn (w : World) : Vls → Nat → Nat → Nat → List Nat → Prop
  | .nil, p, off, n, G => n = 0 ∧ G = []
  | .cons v r, p, off, n, G => ∃ (m : Nat) (cs : List Value) (G1 G2 : List Nat), n = m + 1 ∧ Row8 w p off cs ∧ OwC w v cs G1 ∧ OwsIn w r p (off + 8) m G2 ∧ G = G1 ++ G2
def OwfIn (w : World) : Fls → Nat → Nat → Nat → List Nat → Prop
  | .nil, p, off, n, G => n = 0 ∧ G = []
  | .cons nm v r, p, off, n, G => ∃ (m : Nat) (cs : List Value) (G1 G2 : List Nat), n = m + 1 ∧ w.cell? ⟨p, off, none⟩ = some (.string nm) ∧ nm.size ≤ maxLen ∧ Row8 w p (off + 1) cs ∧ OwC w v cs G1 ∧ OwfIn w r p (off + 9) m G2 ∧ G = G1 ++ G2
end
theorem Row8.agree {w w' : World} {F : List Nat} {b off : Nat} {cs : List Value} (h : Row8 w b off cs) (hb : b ∈ F) (ha : Agree F w w') : Row8 w' b off cs := fun i u hu => (ha b hb _).trans (h i u hu)
mutual
theorem OwC.agree {w w' : World} : ∀ (v : Vl) (cs : List Value) (F : List Nat), Agree F w w' → OwC w v cs F → OwC w' v cs F
  | .mk kd b n f tx ty its fls, cs, F, ha, h => by
    unfold OwC at h ⊢
    obtain ⟨ai, ni, ci, af, nf, cf, Fi, Ff, rfl, h1, h2, r1, r2, r3, r4, r5, r6, r7, r8, r9, r10, rfl⟩ := h
    refine ⟨ai, ni, ci, af, nf, cf, Fi, Ff, rfl, ?_, ?_, r1, r2, r3, r4, r5, r6, r7, r8, r9, r10, rfl⟩
    · rcases h1 with h1 | ⟨p, G, e1, rfl, h1⟩
      · exact .inl h1
      · exact .inr ⟨p, G, e1, rfl, OwsIn.agree its p 0 ni G (ha.left) h1⟩
    · rcases h2 with h2 | ⟨p, G, e1, rfl, h2⟩
      · exact .inl h2
      · exact .inr ⟨p, G, e1, rfl, OwfIn.agree fls p 0 nf G (ha.right) h2⟩
theorem OwsIn.agree {w w' : World} : ∀ (l : Vls) (p off n : Nat) (G : List Nat), Agree (p :: G) w w' → OwsIn w l p off n G → OwsIn w' l p off n G
  | .nil, p, off, n, G, ha, h => by unfold OwsIn at h ⊢; exact h
  | .cons v r, p, off, n, G, ha, h => by
    unfold OwsIn at h ⊢
    obtain ⟨m, cs, G1, G2, rfl, h1, h2, h3, rfl⟩ := h
    exact ⟨m, cs, G1, G2, rfl, h1.agree (List.mem_cons_self ..) ha, OwC.agree v cs G1 ha.tail.left h2, OwsIn.agree r p _ m G2 (fun b hb => ha b (by simp at hb ⊢; rcases hb with hb | hb <;> simp [hb])) h3, rfl⟩
theorem OwfIn.agree {w w' : World} : ∀ (l : Fls) (p off n : Nat) (G : List Nat), Agree (p :: G) w w' → OwfIn w l p off n G → OwfIn w' l p off n G
  | .nil, p, off, n, G, ha, h => by unfold OwfIn at h ⊢; exact h
  | .cons nm v r, p, off, n, G, ha, h => by
    unfold OwfIn at h ⊢
    obtain ⟨m, cs, G1, G2, rfl, h0, hz, h1, h2, h3, rfl⟩ := h
    exact ⟨m, cs, G1, G2, rfl, (ha p (List.mem_cons_self ..) _).trans h0, hz, h1.agree (List.mem_cons_self ..) ha, OwC.agree v cs G1 ha.tail.left h2, OwfIn.agree r p _ m G2 (fun b hb => ha b (by simp at hb ⊢; rcases hb with hb | hb <;> simp [hb])) h3, rfl⟩
end
mutual
/-- what is owned can be read -/
theorem OwC.read {w : World} : ∀ (v : Vl) (cs : List Value) (F : List Nat), OwC w v cs F → VlC w v cs
  | .mk kd b n f tx ty its fls, cs, F, h => by
    unfold OwC at h
    unfold VlC
    obtain ⟨ai, ni, ci, af, nf, cf, Fi, Ff, rfl, h1, h2, r1, r2, r3, r4, r5, r6, r7, r8, r9, r10, rfl⟩ := h
    refine ⟨ai, ni, ci, af, nf, cf, rfl, ?_, ?_, r1, r2, r3, r4, r5, r6, r7, r8, r9, r10⟩
    · rcases h1 with ⟨rfl, rfl, rfl, -⟩ | ⟨p, G, rfl, rfl, h1⟩
      · unfold VlsAt; rfl
      · exact OwsIn.read its p 0 ni G h1
    · rcases h2 with ⟨rfl, rfl, rfl, -⟩ | ⟨p, G, rfl, rfl, h2⟩
      · unfold FlsAt; rfl
      · exact OwfIn.read fls p 0 nf G h2
theorem OwsIn.read {w : World} : ∀ (l : Vls) (p off n : Nat) (G : List Nat), OwsIn w l p off n G → VlsAt w l (some ⟨p, off, none⟩) n
  | .nil, p, off, n, G, h => by unfold OwsIn at h; unfold VlsAt; exact h.1
  | .cons v r, p, off, n, G, h => by
    unfold OwsIn at h
    unfold VlsAt
    obtain ⟨m, cs, G1, G2, rfl, h1, h2, h3, rfl⟩ := h
    exact ⟨p, off, m, cs, rfl, rfl, h1, OwC.read v cs G1 h2, OwsIn.read r p _ m G2 h3⟩
theorem OwfIn.read {w : World} : ∀ (l : Fls) (p off n : Nat) (G : List Nat), OwfIn w l p off n G → FlsAt w l (some ⟨p, off, none⟩) n
  | .nil, p, off, n, G, h => by unfold OwfIn at h; unfold FlsAt; exact h.1
  | .cons nm v r, p, off, n, G, h => by
    unfold OwfIn at h
    unfold FlsAt
    obtain ⟨m, cs, G1, G2, rfl, h0, hz, h1, h2, h3, rfl⟩ := h
    exact ⟨p, off, m, cs, rfl, rfl, h0, hz, h1, OwC.read v cs G1 h2, OwfIn.read r p _ m G2 h3⟩
end
end Go.Proofs.Ytjlafneklcfgoab.vl
