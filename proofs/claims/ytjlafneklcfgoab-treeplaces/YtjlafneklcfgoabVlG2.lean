import Derived.Test.YtjlafneklcfgoabVlG1
namespace Go.Proofs.Ytjlafneklcfgoab.vl
open Go.ChangeShapes Go.WideShapes Go.ChangeAt Go.RowKit
set_option linter.unusedVariables false
set_option linter.unusedSimpArgs false
/-- a member that is owned -/
def OwM (w : World) (q : ByteArray × Vl) (cs : List Value) (F : List Nat) : Prop := ∃ ds, cs = Value.string q.1 :: ds ∧ q.1.size ≤ maxLen ∧ OwC w q.2 ds F
theorem agV : ∀ (w w' : World) (e : Vl) (cs : List Value) (F : List Nat), Agree F w w' → OwC w e cs F → OwC w' e cs F := fun _ _ e cs F ha h => OwC.agree e cs F ha h
theorem agM : ∀ (w w' : World) (e : ByteArray × Vl) (cs : List Value) (F : List Nat), Agree F w w' → OwM w e cs F → OwM w' e cs F := fun _ _ e cs F ha ⟨ds, h1, h2, h3⟩ => ⟨ds, h1, h2, OwC.agree e.2 ds F ha h3⟩
theorem OwL.insV {w : World} : ∀ {l : List Vl} {xss : List (List Value)} {G : List Nat} (p off : Nat), OwL OwC w l xss G → (∀ j u, xss.flatten[j]? = some u → w.cell? ⟨p, off + j, none⟩ = some u) → OwsIn w (Vls.of l) p off l.length G
  | [], xss, G, p, off, h, hc => by
    obtain ⟨rfl, rfl⟩ := h
    simp only [Vls.of]
    unfold OwsIn
    exact ⟨rfl, rfl⟩
  | v :: r, xss, G, p, off, h, hc => by
    obtain ⟨cs, l, G1, G2, rfl, h1, h2, rfl⟩ := h
    have h8 := (OwC.read v cs G1 h1).cells
    simp only [Vls.of]
    unfold OwsIn
    refine ⟨r.length, cs, G1, G2, rfl, fun j u hu => hc j u ?_, h1, OwL.insV p (off + 8) h2 (fun j u hu => ?_), rfl⟩
    · rw [List.flatten_cons, List.getElem?_append_left (List.getElem?_eq_some_iff.1 hu).1]; exact hu
    · rw [show off + 8 + j = off + (8 + j) by omega]
      refine hc (8 + j) u ?_
      rw [List.flatten_cons, List.getElem?_append_right (by omega), h8]
      simpa using hu
theorem OwL.insM {w : World} : ∀ {l : List (ByteArray × Vl)} {xss : List (List Value)} {G : List Nat} (p off : Nat), OwL OwM w l xss G → (∀ j u, xss.flatten[j]? = some u → w.cell? ⟨p, off + j, none⟩ = some u) → OwfIn w (Fls.of l) p off l.length G
  | [], xss, G, p, off, h, hc => by
    obtain ⟨rfl, rfl⟩ := h
    simp only [Fls.of]
    unfold OwfIn
    exact ⟨rfl, rfl⟩
  | q :: r, xss, G, p, off, h, hc => by
    obtain ⟨cs, l, G1, G2, rfl, ⟨ds, rfl, hz, h1⟩, h2, rfl⟩ := h
    have h8 := (OwC.read q.2 ds G1 h1).cells
    simp only [Fls.of]
    unfold OwfIn
    refine ⟨r.length, ds, G1, G2, rfl, ?_, hz, fun j u hu => ?_, h1, OwL.insM p (off + 9) h2 (fun j u hu => ?_), rfl⟩
    · exact hc 0 _ rfl
    · rw [show off + 1 + j = off + (j + 1) by omega]
      refine hc (j + 1) u ?_
      rw [List.flatten_cons, List.getElem?_append_left (by have := (List.getElem?_eq_some_iff.1 hu).1; simp; omega)]
      simpa using hu
    · rw [show off + 9 + j = off + (9 + j) by omega]
      refine hc (9 + j) u ?_
      rw [List.flatten_cons, List.getElem?_append_right (by simp; omega)]
      simpa [h8] using hu
theorem Grow.parts {E : Type} {Ow : World → E → List Value → List Nat → Prop} {t : TypeId} {size : Nat} {w : World} {B : Nat} {l : List E} {sl : Value} {G : List Nat} (h : Grow Ow t size w B l sl G) :
    ∃ (aj : Option Addr) (cj : Nat) (F : List Nat), sl = .slice aj l.length cj ∧ ((aj = none ∧ l = [] ∧ l.length = 0 ∧ F = []) ∨ ∃ p xss, aj = some ⟨p, 0, none⟩ ∧ F = p :: G ∧ OwL Ow w l xss G ∧ ∀ j u, xss.flatten[j]? = some u → w.cell? ⟨p, 0 + j, none⟩ = some u) ∧ F.Nodup ∧ (∀ b ∈ F, B ≤ b ∧ b < w.heap.size) ∧ Fz w F ∧ l.length ≤ cj ∧ (aj = none → cj = 0) ∧ cj ≤ maxLen := by
  obtain ⟨xss, hr, hl⟩ := h.row
  have hlt := hr.lt
  have hr' := hr
  obtain ⟨h1, h2⟩ := hr
  rcases h2 with ⟨rfl, h0⟩ | ⟨g, cap, cur, rfl, hg, hh, hc1, hc2, r⟩
  · have hl0 : l = [] := List.length_eq_zero_iff.1 h0
    subst hl0
    exact ⟨none, 0, [], rfl, .inl ⟨rfl, rfl, rfl, rfl⟩, List.nodup_nil, by simp, fun b hb => by simp at hb, Nat.le_refl _, fun _ => rfl, Nat.zero_le _⟩
  · have hgl := hlt g rfl
    refine ⟨_, cap, g :: G, rfl, .inr ⟨g, xss, rfl, rfl, hl, fun j u hu => ?_⟩, List.nodup_cons.2 ⟨fun hm => h.own g hm rfl, h.nodup⟩, fun b hb => ?_, fun b hb j => ?_, hc1, fun e => (by cases e), hc2⟩
    · rw [Nat.zero_add, hr'.cellAt j (by rw [← h1]; exact (List.getElem?_eq_some_iff.1 hu).1)]
      exact hu
    · rcases List.mem_cons.1 hb with rfl | hb
      · exact hgl
      · exact h.rng b hb
    · rcases List.mem_cons.1 hb with rfl | hb
      · exact hr'.frozenAt j
      · exact h.fz b hb j
theorem Grow.form {E : Type} {Ow : World → E → List Value → List Nat → Prop} {t : TypeId} {size : Nat} {w : World} {B : Nat} {l : List E} {sl : Value} {G : List Nat} (h : Grow Ow t size w B l sl G) : ∃ aj n cj, sl = .slice aj n cj := by
  obtain ⟨aj, cj, _, h, _⟩ := h.parts
  exact ⟨aj, _, cj, h⟩
theorem buildV {w0 : World} {v : Vl} {ds : List Value} (h : VlC w0 v ds) (w : World) : (Instr.buildSlice 24 1 #[(0, .agg ds.toArray)]).run Try.prog w = .ok (.slice (some ⟨w.heap.size, 0, none⟩) 1 1) (w.alloc (.cells ds.toArray 27)) := by
  cases v
  unfold VlC at h
  obtain ⟨_, _, _, _, _, _, rfl, -⟩ := h
  go_simp
theorem buildM {w0 : World} {v : Vl} {ds : List Value} (nm : ByteArray) (h : VlC w0 v ds) (w : World) : (Instr.buildSlice 25 1 #[(0, .agg (Value.string nm :: ds).toArray)]).run Try.prog w = .ok (.slice (some ⟨w.heap.size, 0, none⟩) 1 1) (w.alloc (.cells (Value.string nm :: ds).toArray 68)) := by
  cases v
  unfold VlC at h
  obtain ⟨_, _, _, _, _, _, rfl, -⟩ := h
  go_simp
theorem wpO_buildOne {P : Program} {o : Oper} {a : Act} {w w' : World} {K : Act → World → Prop} {Q : Exit → Act → World → Prop} (t : TypeId) (x : Operand) (ho : o.op = .buildSlice t 1 #[(0, x)]) (v sl : Value) (hx : a.eval x = v) (hr : (Instr.buildSlice t 1 #[(0, v)]).run P w = .ok sl w')
    (h : K (a.put o.dst sl) w') : o.wp P a w K Q := by
  unfold Oper.wp execOp
  simp only [ho, List.map_toArray, List.map_cons, List.map_nil, hx, Sem.run_bind, hr, Result.andThen_ok, Sem.run_pure]
  exact h
theorem wpList_buildOne {P : Program} {ops : Array Oper} {rest : List Oper} {o : Oper} {a : Act} {w w' : World} {Q : Exit → Act → World → Prop} (hgd : o.guard = none) (t : TypeId) (x : Operand) (ho : o.op = .buildSlice t 1 #[(0, x)]) (v sl : Value) (hx : a.eval x = v) (hr : (Instr.buildSlice t 1 #[(0, v)]).run P w = .ok sl w')
    (h : wpList P ops Q rest (a.put o.dst sl) w') : wpList P ops Q (o :: rest) a w :=
  wpList_plain hgd fun _ hK => by
    unfold Oper.wp execOp
    simp only [ho, List.map_toArray, List.map_cons, List.map_nil, hx, Sem.run_bind, hr, Result.andThen_ok, Sem.run_pure]
    exact hK _ _ h
end Go.Proofs.Ytjlafneklcfgoab.vl
