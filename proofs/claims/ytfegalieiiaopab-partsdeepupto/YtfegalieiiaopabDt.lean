import Derived.Test.YtfegalieiiaopabRows
import Derived.WalkKit
import Derived.ProofKit
import Derived.OpenShut
import Derived.ShutString
import Derived.Below
import Derived.SizedLaws
import Derived.Deep.Strs
import Derived.Deep.AppendLies
namespace Go.Proofs.Ytfegalieiiaopab.dt
open Go.ChangeShapes Go.WideShapes Go.ChangeAt Go.RowKit
set_option linter.unusedVariables false
set_option linter.unusedSimpArgs false
/-- What lies in memory as a tree of structs: a row of cells, some of them lists of rows. -/
inductive Dt where
  | nil
  | val (v : Value) (r : Dt)
  | lst (k : Nat) (rs : Dt) (r : Dt)
  | row (e : Dt) (r : Dt)
def RowAt (w : World) (b off : Nat) (cs : List Value) : Prop := ∀ i u, cs[i]? = some u → w.cell? ⟨b, off + i, none⟩ = some u
def Agree (F : List Nat) (w w' : World) : Prop := ∀ b ∈ F, ∀ o, w'.cell? ⟨b, o, none⟩ = w.cell? ⟨b, o, none⟩
theorem Agree.left {F G : List Nat} {w w' : World} (h : Agree (F ++ G) w w') : Agree F w w' := fun b hb => h b (List.mem_append_left _ hb)
theorem Agree.right {F G : List Nat} {w w' : World} (h : Agree (F ++ G) w w') : Agree G w w' := fun b hb => h b (List.mem_append_right _ hb)
theorem Agree.tail {p : Nat} {G : List Nat} {w w' : World} (h : Agree (p :: G) w w') : Agree G w w' := fun b hb => h b (List.mem_cons_of_mem _ hb)
theorem Agree.of_below {F : List Nat} {w w' : World} (h : Below w.heap.size w w') (hF : ∀ b ∈ F, b < w.heap.size) : Agree F w w' := fun b hb o => h.cell (p := ⟨b, o, none⟩) (hF b hb)
theorem Agree.trans {F : List Nat} {w w' w'' : World} (h : Agree F w w') (h' : Agree F w' w'') : Agree F w w'' := fun b hb o => (h' b hb o).trans (h b hb o)
theorem RowAt.agree {w w' : World} {F : List Nat} {b off : Nat} {cs : List Value} (h : RowAt w b off cs) (hb : b ∈ F) (ha : Agree F w w') : RowAt w' b off cs := fun i u hu => (ha b hb _).trans (h i u hu)
theorem RowAt.below {w w' : World} {b off : Nat} {cs : List Value} (h : RowAt w b off cs) (hb : Below w.heap.size w w') : RowAt w' b off cs := by
  intro i u hu
  have h1 := h i u hu
  exact (hb.cell (World.block_lt_of_cell? w _ h1)).trans h1
mutual
/-- these cells are the row d, all its lists in blocks of their own, F -/
def Ow (w : World) : Dt → List Value → List Nat → Prop
  | .nil, cs, F => cs = [] ∧ F = []
  | .val v r, cs, F => ∃ ds, cs = v :: ds ∧ v.oneCell' = true ∧ Ow w r ds F
  | .lst k rs r, cs, F => ∃ (a : Option Addr) (n c : Nat) (ds : List Value) (F1 F2 : List Nat), cs = .slice a n c :: ds ∧ n ≤ c ∧ c ≤ maxLen ∧ (a = none → c = 0) ∧
      ((a = none ∧ rs = .nil ∧ n = 0 ∧ F1 = []) ∨ ∃ p G, a = some ⟨p, 0, none⟩ ∧ F1 = p :: G ∧ OwIn w rs k p 0 n G) ∧ Ow w r ds F2 ∧ F = F1 ++ F2
  | .row _ _, _, _ => False
def OwIn (w : World) : Dt → Nat → Nat → Nat → Nat → List Nat → Prop
  | .nil, k, p, off, n, G => n = 0 ∧ G = []
  | .row e r, k, p, off, n, G => ∃ (m : Nat) (cs : List Value) (G1 G2 : List Nat), n = m + 1 ∧ RowAt w p off cs ∧ cs.length = k ∧ Ow w e cs G1 ∧ OwIn w r k p (off + k) m G2 ∧ G = G1 ++ G2
  | .val _ _, _, _, _, _, _ => False
  | .lst _ _ _, _, _, _, _, _ => False
end
mutual
theorem Ow.agree {w w' : World} : ∀ (d : Dt) (cs : List Value) (F : List Nat), Agree F w w' → Ow w d cs F → Ow w' d cs F
  | .nil, cs, F, ha, h => by unfold Ow at h ⊢; exact h
  | .val v r, cs, F, ha, h => by
    unfold Ow at h ⊢
    obtain ⟨ds, rfl, h1, h2⟩ := h
    exact ⟨ds, rfl, h1, Ow.agree r ds F ha h2⟩
  | .lst k rs r, cs, F, ha, h => by
    unfold Ow at h ⊢
    obtain ⟨a, n, c, ds, F1, F2, rfl, h1, h2, h3, h4, h5, rfl⟩ := h
    refine ⟨a, n, c, ds, F1, F2, rfl, h1, h2, h3, ?_, Ow.agree r ds F2 ha.right h5, rfl⟩
    rcases h4 with h4 | ⟨p, G, e1, rfl, h4⟩
    · exact .inl h4
    · exact .inr ⟨p, G, e1, rfl, OwIn.agree rs k p 0 n G ha.left h4⟩
  | .row _ _, cs, F, ha, h => by unfold Ow at h; exact h.elim
theorem OwIn.agree {w w' : World} : ∀ (d : Dt) (k p off n : Nat) (G : List Nat), Agree (p :: G) w w' → OwIn w d k p off n G → OwIn w' d k p off n G
  | .nil, k, p, off, n, G, ha, h => by unfold OwIn at h ⊢; exact h
  | .row e r, k, p, off, n, G, ha, h => by
    unfold OwIn at h ⊢
    obtain ⟨m, cs, G1, G2, rfl, h1, h2, h3, h4, rfl⟩ := h
    exact ⟨m, cs, G1, G2, rfl, h1.agree (List.mem_cons_self ..) ha, h2, Ow.agree e cs G1 ha.tail.left h3, OwIn.agree r k p _ m G2 (fun b hb => ha b (by simp at hb ⊢; rcases hb with hb | hb <;> simp [hb])) h4, rfl⟩
  | .val _ _, k, p, off, n, G, ha, h => by unfold OwIn at h; exact h.elim
  | .lst _ _ _, k, p, off, n, G, ha, h => by unfold OwIn at h; exact h.elim
end
theorem Ow.one {w : World} : ∀ (d : Dt) (cs : List Value) (F : List Nat), Ow w d cs F → ∀ u ∈ cs, u.oneCell' = true
  | .nil, cs, F, h => by unfold Ow at h; rw [h.1]; simp
  | .val v r, cs, F, h => by
    unfold Ow at h
    obtain ⟨ds, rfl, h1, h2⟩ := h
    intro u hu
    rcases List.mem_cons.1 hu with rfl | hu
    · exact h1
    · exact Ow.one r ds F h2 u hu
  | .lst k rs r, cs, F, h => by
    unfold Ow at h
    obtain ⟨a, n, c, ds, F1, F2, rfl, h1, h2, h3, h4, h5, rfl⟩ := h
    intro u hu
    rcases List.mem_cons.1 hu with rfl | hu
    · rfl
    · exact Ow.one r ds F2 h5 u hu
  | .row _ _, cs, F, h => by unfold Ow at h; exact h.elim
/-- the width of a row -/
def Dt.wid : Dt → Nat
  | .nil => 0
  | .val _ r => r.wid + 1
  | .lst _ _ r => r.wid + 1
  | .row _ _ => 0
theorem Ow.wid {w : World} : ∀ (d : Dt) (cs : List Value) (F : List Nat), Ow w d cs F → cs.length = d.wid
  | .nil, cs, F, h => by unfold Ow at h; rw [h.1]; rfl
  | .val v r, cs, F, h => by
    unfold Ow at h
    obtain ⟨ds, rfl, h1, h2⟩ := h
    simp only [List.length_cons, Dt.wid, Ow.wid r ds F h2]
  | .lst k rs r, cs, F, h => by
    unfold Ow at h
    obtain ⟨a, n, c, ds, F1, F2, rfl, h1, h2, h3, h4, h5, rfl⟩ := h
    simp only [List.length_cons, Dt.wid, Ow.wid r ds F2 h5]
  | .row _ _, cs, F, h => by unfold Ow at h; exact h.elim
/-- a list of rows, as a chain -/
def Dt.of : List Dt → Dt
  | [] => .nil
  | e :: r => .row e (Dt.of r)
/-- the i-th of a list -/
theorem OwIn.get {w : World} : ∀ (l : List Dt) (k p off n : Nat) (G : List Nat), OwIn w (Dt.of l) k p off n G → l.length = n ∧ ∀ (i : Nat) (e : Dt), l[i]? = some e → ∃ cs Gi, RowAt w p (off + i * k) cs ∧ cs.length = k ∧ Ow w e cs Gi ∧ ∀ b ∈ Gi, b ∈ G
  | [], k, p, off, n, G, h => by
    unfold Dt.of OwIn at h
    exact ⟨h.1.symm, fun i e he => by simp at he⟩
  | d :: l, k, p, off, n, G, h => by
    unfold Dt.of OwIn at h
    obtain ⟨m, cs, G1, G2, rfl, h1, h2, h3, h4, rfl⟩ := h
    obtain ⟨h5, h6⟩ := OwIn.get l k p _ m G2 h4
    refine ⟨by simp [h5], fun i e he => ?_⟩
    cases i with
    | zero => simp at he; subst he; exact ⟨cs, G1, by simpa using h1, h2, h3, fun b hb => List.mem_append_left _ hb⟩
    | succ i =>
      obtain ⟨cs', Gi, h7, h8, h9, h10⟩ := h6 i e (by simpa using he)
      exact ⟨cs', Gi, by rw [show off + (i + 1) * k = off + k + i * k by rw [Nat.add_mul]; omega]; exact h7, h8, h9, fun b hb => List.mem_append_right _ (h10 b hb)⟩
/-- a list of things that are owned, each in so many cells -/
def OwL {E : Type} (O : World → E → List Value → List Nat → Prop) (w : World) : List E → List (List Value) → List Nat → Prop
  | [], xss, G => xss = [] ∧ G = []
  | v :: r, xss, G => ∃ cs l G1 G2, xss = cs :: l ∧ O w v cs G1 ∧ OwL O w r l G2 ∧ G = G1 ++ G2
theorem OwL.snoc {E : Type} {O : World → E → List Value → List Nat → Prop} {w : World} {v : E} {cs : List Value} {G' : List Nat} (hv : O w v cs G') : ∀ {l : List E} {xss : List (List Value)} {G : List Nat}, OwL O w l xss G → OwL O w (l ++ [v]) (xss ++ [cs]) (G ++ G')
  | [], xss, G, h => by
    obtain ⟨rfl, rfl⟩ := h
    exact ⟨cs, [], G', [], rfl, hv, ⟨rfl, rfl⟩, by simp⟩
  | u :: r, xss, G, h => by
    obtain ⟨ds, l, G1, G2, rfl, h1, h2, rfl⟩ := h
    exact ⟨ds, l ++ [cs], G1, G2 ++ G', rfl, h1, OwL.snoc hv h2, by simp⟩
theorem OwL.agree {E : Type} {O : World → E → List Value → List Nat → Prop} (ha : ∀ w w' e cs F, Agree F w w' → O w e cs F → O w' e cs F) {w w' : World} : ∀ {l : List E} {xss : List (List Value)} {G : List Nat}, Agree G w w' → OwL O w l xss G → OwL O w' l xss G
  | [], xss, G, hg, h => h
  | u :: r, xss, G, hg, h => by
    obtain ⟨ds, l, G1, G2, rfl, h1, h2, rfl⟩ := h
    exact ⟨ds, l, G1, G2, rfl, ha w w' u ds G1 hg.left h1, OwL.agree ha hg.right h2, rfl⟩
/-- rows that lie one behind another are a list -/
theorem OwL.shut {w : World} {k p : Nat} : ∀ (l : List Dt) (xss : List (List Value)) (G : List Nat) (off : Nat), OwL Ow w l xss G → (∀ xs ∈ xss, xs.length = k) → RowAt w p off xss.flatten → OwIn w (Dt.of l) k p off l.length G
  | [], xss, G, off, h, hk, hr => by
    obtain ⟨rfl, rfl⟩ := h
    unfold Dt.of OwIn
    exact ⟨rfl, rfl⟩
  | e :: l, xss, G, off, h, hk, hr => by
    obtain ⟨cs, r, G1, G2, rfl, h1, h2, rfl⟩ := h
    have hc := hk cs (List.mem_cons_self ..)
    unfold Dt.of OwIn
    refine ⟨l.length, cs, G1, G2, by simp, fun i u hu => hr i u ?_, hc, h1, OwL.shut l r G2 (off + k) h2 (fun xs hx => hk xs (List.mem_cons_of_mem _ hx)) (fun i u hu => ?_), rfl⟩
    · have : i < cs.length := (List.getElem?_eq_some_iff.1 hu).1
      rw [List.flatten_cons, List.getElem?_append_left this]; exact hu
    · have := hr (k + i) u (by rw [List.flatten_cons, List.getElem?_append_right (by omega), hc]; rw [show k + i - k = i by omega]; exact hu)
      rw [← Nat.add_assoc] at this
      exact this
end Go.Proofs.Ytfegalieiiaopab.dt
