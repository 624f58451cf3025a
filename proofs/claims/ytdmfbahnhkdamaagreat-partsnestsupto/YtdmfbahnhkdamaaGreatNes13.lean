import Derived.Test.YtdmfbahnhkdamaaGreatNes12
import Derived.Test.YtdmfbahnhkdamaaGreatNes8
namespace Go.Proofs.YtdmfbahnhkdamaaGreat.cu
open Go.ChangeShapes Go.WideShapes Go.ChangeAt Go.RowKit
open ints (hide unhide)
open dt (Dt Kp RowAt Ow Grow OwIn)
open mem (Row)
set_option linter.unusedVariables false
set_option linter.unusedSimpArgs false
/-- lists alike, one by one -/
def EqLs (R : Dt → Dt → Prop) (l l' : List Dt) : Prop := l.length = l'.length ∧ ∀ (i : Nat) x y, l[i]? = some x → l'[i]? = some y → R x y
/-- the same argument, directive, selection, variable, definition, but for places where they are not asked for -/
def EqA (pl : Bool) (f : Nat) (x y : Dt) : Prop := ∃ nm v v' a b a' b', x = fldD nm v a b ∧ y = fldD nm v' a' b' ∧ (pl = true → a = a' ∧ b = b') ∧ EqL pl f v v'
/-- a list that lies in memory, to be read -/
def Ls (w : World) (k : Nat) (l : List Dt) (a : Option Addr) (F : List Nat) : Prop := l = [] ∨ ∃ p off, a = some ⟨p, off, none⟩ ∧ p ∈ F ∧ ∀ (i : Nat) e, l[i]? = some e → ∃ ds G, RowAt w p (off + i * k) ds ∧ ds.length = k ∧ Ow w e ds G ∧ ∀ b ∈ G, b ∈ F
theorem Ls.below {w w' : World} {k : Nat} {l : List Dt} {a : Option Addr} {F : List Nat} (h : Ls w k l a F) (hF : ∀ b ∈ F, b < w.heap.size) (hb : Below w.heap.size w w') : Ls w' k l a F := by
  rcases h with h | ⟨p, off, ha, hp, h⟩
  · exact .inl h
  · refine .inr ⟨p, off, ha, hp, fun i e he => ?_⟩
    obtain ⟨ds, G, h1, h2, h3, h4⟩ := h i e he
    exact ⟨ds, G, h1.below hb, h2, dt.Ow.agree e ds G (fun b hb' o => hb.cell (p := ⟨b, o, none⟩) (hF b (h4 b hb'))) h3, h4⟩
theorem Ls.mono {w : World} {k : Nat} {l : List Dt} {a : Option Addr} {F F' : List Nat} (h : Ls w k l a F) (hF : ∀ b ∈ F, b ∈ F') : Ls w k l a F' := by
  rcases h with h | ⟨p, off, ha, hp, h⟩
  · exact .inl h
  · refine .inr ⟨p, off, ha, hF p hp, fun i e he => ?_⟩
    obtain ⟨ds, G, h1, h2, h3, h4⟩ := h i e he
    exact ⟨ds, G, h1, h2, h3, fun b hb => hF b (h4 b hb)⟩
theorem lst_ls {w : World} {k n : Nat} {l : List Dt} {a : Option Addr} {F : List Nat} (h : (a = none ∧ Dt.of l = .nil ∧ n = 0 ∧ F = []) ∨ ∃ p G, a = some ⟨p, 0, none⟩ ∧ F = p :: G ∧ OwIn w (Dt.of l) k p 0 n G) : n = l.length ∧ Ls w k l a F := by
  rcases h with ⟨h1, h2, h3, h4⟩ | ⟨p, G, h1, rfl, h3⟩
  · have : l = [] := by
      cases l with
      | nil => rfl
      | cons e r => simp [Dt.of] at h2
    exact ⟨by rw [this, h3]; rfl, .inl this⟩
  · obtain ⟨h4, h5⟩ := dt.OwIn.get l k p 0 n G h3
    refine ⟨h4.symm, .inr ⟨p, 0, h1, List.mem_cons_self .., fun i e he => ?_⟩⟩
    obtain ⟨cs, Gi, h6, h7, h8, h9⟩ := h5 i e he
    exact ⟨cs, Gi, h6, h7, h8, fun b hb => List.mem_cons_of_mem _ (h9 b hb)⟩
theorem dir_cells {w : World} {nm : ByteArray} {l : List Dt} {x y : Int} {cs : List Value} {F : List Nat} (h : Ow w (dirD nm l x y) cs F) :
    ∃ a c, cs = [.string nm, .slice a l.length c, .int .i64 x, .int .i64 y] ∧ l.length ≤ c ∧ c ≤ maxLen ∧ Ls w 10 l a F := by
  unfold dirD Ow at h
  obtain ⟨d0, rfl, _, h⟩ := h
  unfold Ow at h
  obtain ⟨a, n, c, d1, F1, F2, rfl, i1, i2, i3, i4, h, rfl⟩ := h
  obtain ⟨rfl, hl⟩ := lst_ls i4
  unfold Ow at h
  obtain ⟨d2, rfl, a6, h⟩ := h
  unfold Ow at h
  obtain ⟨d3, rfl, a7, h⟩ := h
  unfold Ow at h
  obtain ⟨rfl, rfl⟩ := h
  exact ⟨a, c, rfl, i1, i2, hl.mono (fun b hb => List.mem_append_left _ hb)⟩
end Go.Proofs.YtdmfbahnhkdamaaGreat.cu
namespace Go.Proofs.YtdmfbahnhkdamaaGreat.cu
open dt (Dt Kp RowAt Ow Grow)
set_option linter.unusedVariables false
set_option linter.unusedSimpArgs false
/-- the same token, but for its place where that is not asked for -/
def EqT (pl : Bool) (t t' : Tk) : Prop := t'.k = t.k ∧ t'.tx = t.tx ∧ t'.va = t.va ∧ (pl = true → t.ln = t'.ln ∧ t.co = t'.co)
theorem EqT.refl (pl : Bool) (t : Tk) : EqT pl t t := ⟨rfl, rfl, rfl, fun _ => ⟨rfl, rfl⟩⟩
/-- two cursors at the same tokens, the second so many tokens and brackets further -/
structure Sf (pl : Bool) (m s e : Nat) (c c' : Cu) : Prop where
  ix : c'.ix = c.ix + s
  op : c'.op = c.op + e
  mo : c'.mo = c.mo + e
  kd : c'.kd = c.kd
  tk : ∀ i, i ≤ m → EqT pl (c.ts.getD i Tk.zero) (c'.ts.getD (i + s) Tk.zero)
/-- brackets may be counted from another number where all goes well -/
def Ps {A : Type} (e : Nat) (c : Cu) (E : Cu → A × Cu) : Prop := e = 0 ∨ (Inv c ∧ c.kd = 0 ∧ (E c).2.kd = 0)
section
variable {pl : Bool} {m s e : Nat}
theorem Sf.tok {c c' : Cu} (h : Sf pl m s e c c') (hi : c.ix ≤ m) : EqT pl c.tok c'.tok := by
  have := h.tk c.ix hi
  rw [← h.ix] at this
  exact this
theorem Sf.isP {c c' : Cu} (h : Sf pl m s e c c') (hi : c.ix ≤ m) (p : ByteArray) : c'.isP p = c.isP p := by
  have t := h.tok hi
  unfold Cu.isP
  rw [h.kd, t.1, t.2.1]
theorem Sf.isN {c c' : Cu} (h : Sf pl m s e c c') (hi : c.ix ≤ m) : c'.isN = c.isN := by
  have t := h.tok hi
  unfold Cu.isN
  rw [h.kd, t.1]
theorem Sf.finB {c c' : Cu} (h : Sf pl m s e c c') (hi : c.ix ≤ m) : c'.finB = c.finB := by
  have t := h.tok hi
  unfold Cu.finB
  rw [h.kd, t.1]
theorem Sf.take {c c' : Cu} (h : Sf pl m s e c c') : Sf pl m s e c.take c'.take := ⟨by show c'.ix + 1 = c.ix + 1 + s; rw [h.ix]; omega, h.op, h.mo, h.kd, h.tk⟩
theorem Sf.stop {c c' : Cu} (h : Sf pl m s e c c') (k : Int) : Sf pl m s e (c.stop k) (c'.stop k) := by
  unfold Cu.stop
  rw [h.kd]
  split
  · exact ⟨h.ix, h.op, h.mo, rfl, h.tk⟩
  · exact h
theorem Sf.name {c c' : Cu} (h : Sf pl m s e c c') (hi : c.ix ≤ m) : Sf pl m s e c.name c'.name := by
  unfold Cu.name
  rw [h.isN hi]
  split
  · exact h.take
  · exact h.stop 70
theorem Sf.want {c c' : Cu} (h : Sf pl m s e c c') (hi : c.ix ≤ m) (p : ByteArray) : Sf pl m s e (c.want p) (c'.want p) := by
  unfold Cu.want
  rw [h.isP hi]
  split
  · exact h.take
  · exact h.stop 70
theorem Sf.punct {c c' : Cu} (h : Sf pl m s e c c') (hi : c.ix ≤ m) (p : ByteArray) : Sf pl m s e (c.punct p) (c'.punct p) := by
  unfold Cu.punct
  rw [h.isP hi]
  split
  · exact h.take
  · exact h
theorem Sf.fin {c c' : Cu} (h : Sf pl m s e c c') (hi : c.ix ≤ m) : Sf pl m s e c.fin c'.fin := by
  unfold Cu.fin
  rw [h.finB hi]
  split
  · exact h
  · exact h.stop 70
theorem Sf.opB {c c' : Cu} (h : Sf pl m s e c c') (hi : c.ix ≤ m) (p : ByteArray) : c'.opB p = c.opB p := by
  unfold Cu.opB
  rw [h.isP hi, h.op, h.mo]
  congr 1
  exact decide_eq_decide.2 (by omega)
theorem Sf.opn {c c' : Cu} (h : Sf pl m s e c c') (hi : c.ix ≤ m) (p : ByteArray) : Sf pl m s e (c.opn p) (c'.opn p) := by
  unfold Cu.opn
  rw [h.isP hi]
  split
  · have hx := h.op
    have hy := h.mo
    by_cases g : c.op < c.mo
    · rw [if_pos g, if_pos (by omega)]
      exact ⟨by show c'.ix + 1 = c.ix + 1 + s; rw [h.ix]; omega, by show c'.op + 1 = c.op + 1 + e; omega, hy, h.kd, h.tk⟩
    · rw [if_neg g, if_neg (by omega)]
      exact h.stop 71
  · exact h.stop 70
theorem Sf.cls {c c' : Cu} (h : Sf pl m s e c c') (hi : c.ix ≤ m) (p : ByteArray) (he : e = 0 ∨ 1 ≤ c.op) : Sf pl m s e (c.cls p) (c'.cls p) := by
  unfold Cu.cls
  rw [h.isP hi]
  split
  · have hx := h.op
    exact ⟨by show c'.ix + 1 = c.ix + 1 + s; rw [h.ix]; omega, by show c'.op - 1 = c.op - 1 + e; omega, h.mo, h.kd, h.tk⟩
  · exact h.stop 70
end
/-- two readings that go alike -/
structure Ok4 {A X : Type} (pl : Bool) (m s e : Nat) (P : Prop) (V : A → X → Prop) (E : Cu → A × Cu) (E' : Cu → X × Cu) (b b' : Nat) : Prop where
  o : Ok3 0 E b
  st' : St E'
  near : P → ∀ c c', c.Ok → c'.Ok → Sf pl m s e c c' → c.ts.length ≤ b + c.ix → c'.ts.length ≤ b' + c'.ix → Ps e c E → (E c).2.ix ≤ m → V (E c).1 (E' c').1 ∧ Sf pl m s e (E c).2 (E' c').2
/-- the same of a reading that ends in a bracket -/
structure Ok5 {A X : Type} (pl : Bool) (m s e : Nat) (P : Prop) (V : Option A → Option X → Prop) (E : Cu → Option A × Cu) (E' : Cu → Option X × Cu) (b b' : Nat) : Prop where
  o : Ok3 0 E b
  st' : St E'
  go : ∀ c, c.Ok → (E c).1.isSome = true → c.ix < (E c).2.ix
  near : P → ∀ c c', c.Ok → c'.Ok → Sf pl m s e c c' → c.ts.length ≤ b + c.ix → c'.ts.length ≤ b' + c'.ix → Ps e c E → (E c).1.isSome = true → (E c).2.ix ≤ m + 1 → V (E c).1 (E' c').1 ∧ Sf pl m s e (E c).2 (E' c').2
section
variable {pl : Bool} {m s e : Nat} {P : Prop} {b b' : Nat}
theorem Ps.one {A X : Type} {E : Cu → A × Cu} {F : A → Cu → X × Cu} {c : Cu} (sF : ∀ a, Sti (F a)) (h : Ps e c (bnd E F)) : Ps e c E := by
  rcases h with h | ⟨h1, h2, h3⟩
  · exact .inl h
  · refine .inr ⟨h1, h2, Classical.byContradiction fun x => ?_⟩
    have h4 : (F (E c).1 (E c).2).2.kd = 0 := h3
    rw [sF _ _ x] at h4
    exact x h4
theorem Ps.two {A X : Type} {E : Cu → A × Cu} {F : A → Cu → X × Cu} {c : Cu} (o : Ok3 0 E b) (sF : ∀ a, Sti (F a)) (hc : c.Ok) (hb : c.ts.length ≤ b + c.ix) (h : Ps e c (bnd E F)) : Ps e (E c).2 (F (E c).1) := by
  have h5 := h.one sF
  rcases h with h | ⟨h1, h2, h3⟩
  · exact .inl h
  · rcases h5 with h5 | ⟨_, _, h6⟩
    · exact .inl h5
    · exact .inr ⟨(o.bal c hc hb h1 h2 h6).2, h6, h3⟩
theorem Ok4.bnd {A X Y Z : Type} {V : A → X → Prop} {V' : Y → Z → Prop} {E : Cu → A × Cu} {E' : Cu → X × Cu} {F : A → Cu → Y × Cu} {F' : X → Cu → Z × Cu} [Nonempty A] [Nonempty X] (h : Ok4 pl m s e P V E E' b b') (k : ∀ a a', Ok4 pl m s e (P ∧ V a a') V' (F a) (F' a') b b') : Ok4 pl m s e P V' (bnd E F) (bnd E' F') b b' := by
  have oF : ∀ a, Ok3 0 (F a) b := fun a => (k a (Classical.choice inferInstance)).o
  have sF' : ∀ a', St (F' a') := fun a' => (k (Classical.choice inferInstance) a').st'
  refine ⟨h.o.bnd oF, h.st'.bnd sF', fun hp c c' hc hc' hs hb hb' hP hm => ?_⟩
  have s1 := h.o.st c hc
  have s2 := h.st' c' hc'
  have t1 := (oF (E c).1).st _ s1.ok
  obtain ⟨e1, e2⟩ := h.near hp c c' hc hc' hs hb hb' (hP.one fun a => (oF a).sti) (Nat.le_trans t1.ix hm)
  exact (k (E c).1 (E' c').1).near ⟨hp, e1⟩ (E c).2 (E' c').2 s1.ok s2.ok e2 (by rw [s1.ts]; have := s1.ix; omega) (by rw [s2.ts]; have := s2.ix; omega) (hP.two h.o (fun a => (oF a).sti) hc hb) hm
/-- what is made of a reading's answer -/
theorem Ok5.map {A X Y Z : Type} {V : Option A → Option X → Prop} {V' : Option Y → Option Z → Prop} {E : Cu → Option A × Cu} {E' : Cu → Option X × Cu} {f : Option A → Option Y} {f' : Option X → Option Z} (h : Ok5 pl m s e P V E E' b b') (hf : ∀ r, (f r).isSome = true → r.isSome = true) (k : ∀ r r', P → V r r' → V' (f r) (f' r')) : Ok5 pl m s e P V' (bnd E fun r => ret (f r)) (bnd E' fun r => ret (f' r)) b b' := by
  refine ⟨h.o.bnd fun _ => ret_3 _, h.st'.bnd fun _ => ret_st _, fun c hc hsm => h.go c hc (hf _ hsm), fun hp c c' hc hc' hs hb hb' hP hsm hm => ?_⟩
  obtain ⟨e1, e2⟩ := h.near hp c c' hc hc' hs hb hb' (hP.one fun a => (ret_3 (M := 0) (b := b) _).sti) (hf _ hsm) hm
  exact ⟨k _ _ hp e1, e2⟩
theorem Ok4.mono {A X : Type} {V : A → X → Prop} {E : Cu → A × Cu} {E' : Cu → X × Cu} {d d' : Nat} (h : Ok4 pl m s e P V E E' b b') (hd : d ≤ b) (hd' : d' ≤ b') : Ok4 pl m s e P V E E' d d' := ⟨h.o.mono hd, h.st', fun hp c c' hc hc' hs hb hb' => h.near hp c c' hc hc' hs (by omega) (by omega)⟩
theorem Ok5.mono {A X : Type} {V : Option A → Option X → Prop} {E : Cu → Option A × Cu} {E' : Cu → Option X × Cu} {d d' : Nat} (h : Ok5 pl m s e P V E E' b b') (hd : d ≤ b) (hd' : d' ≤ b') : Ok5 pl m s e P V E E' d d' := ⟨h.o.mono hd, h.st', h.go, fun hp c c' hc hc' hs hb hb' => h.near hp c c' hc hc' hs (by omega) (by omega)⟩
theorem Ok4.wk {A X : Type} {V : A → X → Prop} {E : Cu → A × Cu} {E' : Cu → X × Cu} (h : Ok4 pl m s e True V E E' b b') : Ok4 pl m s e P V E E' b b' := ⟨h.o, h.st', fun _ => h.near trivial⟩
theorem cond_4 {A X : Type} {V : A → X → Prop} {q q' : Bool} {E F : Cu → A × Cu} {E' F' : Cu → X × Cu} (hq : P → q = q') (h : Ok4 pl m s e P V E E' b b') (k : Ok4 pl m s e P V F F' b b') : Ok4 pl m s e P V (cond q E F) (cond q' E' F') b b' := by
  refine ⟨cond_3 h.o k.o, by cases q'; exact k.st'; exact h.st', fun hp => ?_⟩
  obtain rfl := hq hp
  cases q
  · exact k.near hp
  · exact h.near hp
theorem ret_4 {A X : Type} {V : A → X → Prop} {a : A} {x : X} (h : P → V a x) : Ok4 pl m s e P V (ret a) (ret x) b b' := ⟨ret_3 _, ret_st _, fun hp c c' hc hc' hs hb hb' hP hm => ⟨h hp, hs⟩⟩
theorem tokR_4 : Ok4 pl m s e P (EqT pl) tokR tokR b b' := ⟨tokR_3, tokR_st, fun hp c c' hc hc' hs hb hb' hP hm => ⟨hs.tok hm, hs⟩⟩
theorem isPR_4 (p : ByteArray) : Ok4 pl m s e P Eq (isPR p) (isPR p) b b' := ⟨isPR_3 p, isPR_st p, fun hp c c' hc hc' hs hb hb' hP hm => ⟨(hs.isP hm p).symm, hs⟩⟩
theorem aliveR_4 : Ok4 pl m s e P Eq aliveR aliveR b b' := ⟨aliveR_3, aliveR_st, fun hp c c' hc hc' hs hb hb' hP hm => ⟨by show decide (c.kd = 0) = decide (c'.kd = 0); rw [hs.kd], hs⟩⟩
theorem nR_4 : Ok4 pl m s e P Eq nR nR b b' := ⟨nR_3, nR_st, fun hp c c' hc hc' hs hb hb' hP hm => by
  have hi : c.ix ≤ m := Nat.le_trans (name_stp hc).ix hm
  exact ⟨by show (c.isN, c.tok.tx) = (c'.isN, c'.tok.tx); rw [hs.isN hi, (hs.tok hi).2.1], hs.name hi⟩⟩
theorem wantR_4 (p : ByteArray) (hp : dlt (pk p) = 0) : Ok4 pl m s e P Eq (wantR p) (wantR p) b b' := ⟨wantR_3 p hp, wantR_st p, fun hp c c' hc hc' hs hb hb' hP hm => by
  have hi : c.ix ≤ m := Nat.le_trans (want_stp hc p).ix hm
  exact ⟨rfl, hs.want hi p⟩⟩
theorem punctR_4 (p : ByteArray) (hp : dlt (pk p) = 0) : Ok4 pl m s e P Eq (punctR p) (punctR p) b b' := ⟨punctR_3 p hp, punctR_st p, fun hp c c' hc hc' hs hb hb' hP hm => by
  have hi : c.ix ≤ m := Nat.le_trans (punct_stp hc p).ix hm
  exact ⟨(hs.isP hi p).symm, hs.punct hi p⟩⟩
theorem stopR_4 {A X : Type} {V : A → X → Prop} {a : A} {x : X} (h : P → V a x) : Ok4 pl m s e P V (stopR a) (stopR x) b b' := ⟨stopR_3 a, stopR_st x, fun hp c c' hc hc' hs hb hb' hP hm => ⟨h hp, hs.stop 70⟩⟩
theorem takeK_4 (k : Int) (h0 : k ≠ 0) (h1 : k ≠ 1) (h2 : k ≠ 2) : Ok4 pl m s e P Eq (takeK k) (takeK k) b b' := ⟨takeK_3 k h0 h1 h2, takeK_st k h0 h1, fun hp c c' hc hc' hs hb hb' hP hm => by
  have hi : c.ix ≤ m := Nat.le_trans (takeK_st k h0 h1 c hc).ix hm
  refine ⟨rfl, ?_⟩
  show Sf pl m s e (if c.kd = 0 ∧ c.tok.k = k then c.take else c) (if c'.kd = 0 ∧ c'.tok.k = k then c'.take else c')
  rw [hs.kd, (hs.tok hi).1]
  split
  · exact hs.take
  · exact hs⟩
end
end Go.Proofs.YtdmfbahnhkdamaaGreat.cu
namespace Go.Proofs.YtdmfbahnhkdamaaGreat.cu
open dt (Dt Kp RowAt Ow Grow)
set_option linter.unusedVariables false
set_option linter.unusedSimpArgs false
def OD (R : Dt → Dt → Prop) : Option Dt → Option Dt → Prop
  | none, none => True
  | some x, some y => R x y
  | _, _ => False
def OL (R : Dt → Dt → Prop) : Option (List Dt) → Option (List Dt) → Prop
  | none, none => True
  | some x, some y => EqLs R x y
  | _, _ => False
theorem OD.map {R R' : Dt → Dt → Prop} {a b : Option Dt} {f f' : Dt → Dt} (h : OD R a b) (k : ∀ x y, R x y → R' (f x) (f' y)) : OD R' (a.map f) (b.map f') := by
  cases a <;> cases b
  · trivial
  · exact h.elim
  · exact h.elim
  · exact k _ _ h
theorem OL.map {R R' : Dt → Dt → Prop} {a b : Option (List Dt)} {f f' : List Dt → Dt} (h : OL R a b) (k : ∀ x y, EqLs R x y → R' (f x) (f' y)) : OD R' (a.map f) (b.map f') := by
  cases a <;> cases b
  · trivial
  · exact h.elim
  · exact h.elim
  · exact k _ _ h
theorem EqLs.nil {R : Dt → Dt → Prop} : EqLs R [] [] := ⟨rfl, fun i x y hx => by simp at hx⟩
theorem EqLs.snoc {R : Dt → Dt → Prop} {l l' : List Dt} {d d' : Dt} (h : EqLs R l l') (hd : R d d') : EqLs R (l ++ [d]) (l' ++ [d']) := by
  refine ⟨by simp [h.1], fun i x y hx hy => ?_⟩
  rcases Nat.lt_or_ge i l.length with g | g
  · rw [List.getElem?_append_left g] at hx
    rw [List.getElem?_append_left (by rw [← h.1]; exact g)] at hy
    exact h.2 i x y hx hy
  · rw [List.getElem?_append_right g] at hx
    rw [List.getElem?_append_right (by rw [← h.1]; exact g), ← h.1] at hy
    rcases Nat.eq_zero_or_pos (i - l.length) with k | k
    · rw [k] at hx hy
      simp at hx hy
      subst hx; subst hy; exact hd
    · rw [List.getElem?_eq_none (by simp; omega)] at hx
      cases hx
theorem OL.getD {R : Dt → Dt → Prop} {a b : Option (List Dt)} (h : OL R a b) : EqLs R (a.getD []) (b.getD []) := by
  cases a <;> cases b
  · exact EqLs.nil
  · exact h.elim
  · exact h.elim
  · exact h
theorem OL.some {R : Dt → Dt → Prop} {l : List Dt} {b : Option (List Dt)} (h : OL R (some l) b) : ∃ l', b = some l' ∧ EqLs R l l' := by
  cases b with
  | none => exact h.elim
  | some l' => exact ⟨l', rfl, h⟩
theorem OD.some {R : Dt → Dt → Prop} {d : Dt} {b : Option Dt} (h : OD R (some d) b) : ∃ d', b = some d' ∧ R d d' := by
  cases b with
  | none => exact h.elim
  | some d' => exact ⟨d', rfl, h⟩
theorem OD.none {R : Dt → Dt → Prop} {b : Option Dt} (h : OD R none b) : b = none := by
  cases b with
  | none => rfl
  | some d' => exact h.elim
theorem brkF_go (E : LitR) (r : ByteArray) (n : Nat) (hG : Goes E) : ∀ (g : Nat) (l : List Dt) (c : Cu), c.Ok → (brkF E r n g l c).1.isSome = true → c.ix < (brkF E r n g l c).2.ix
  | 0, l, c, h, hs => by cases hs
  | g + 1, l, c, h, hs => by
    simp only [brkF] at hs ⊢
    by_cases hq : l.length < n ∨ c.isP r = false
    · rw [if_pos hq] at hs ⊢
      cases he : (E c).1 with
      | none => rw [he] at hs; cases hs
      | some d =>
        rw [he] at hs
        exact Nat.lt_of_le_of_lt (hG c h).1.ix (brkF_go E r n hG g _ _ (hG c h).1.ok hs)
    · rw [if_neg hq]
      have hp : c.isP r = true := by
        cases hp : c.isP r with
        | true => rfl
        | false => exact absurd (.inr hp) hq
      dsimp only
      rw [cls_yes hp]
      exact Nat.lt_succ_self _
section
variable {pl : Bool} {m s e : Nat} {P : Prop} {b b' : Nat}
theorem Ok4.tb {Y Z : Type} {V' : Y → Z → Prop} {F : Tk → Cu → Y × Cu} {F' : Tk → Cu → Z × Cu} (k : ∀ a a', Ok4 pl m s e (P ∧ EqT pl a a') V' (F a) (F' a') b b') : Ok4 pl m s e P V' (cu.bnd tokR F) (cu.bnd tokR F') b b' := by
  haveI : Nonempty Tk := ⟨Tk.zero⟩
  exact tokR_4.bnd k
theorem brkF_4 {R : Dt → Dt → Prop} {E E' : LitR} (hG : Goes E) (hG' : Goes E') (hF : Faults E b) (h : Ok4 pl m s e True (OD R) E E' b b') {r : ByteArray} (hr : dlt (pk r) = -1) (n : Nat) : ∀ (g g' : Nat) (l l' : List Dt) (c c' : Cu), c.Ok → c'.Ok → Sf pl m s e c c' → c.ts.length ≤ b + c.ix → c'.ts.length ≤ b' + c'.ix → c.ts.length ≤ g + c.ix → c'.ts.length ≤ g' + c'.ix → EqLs R l l' → (e = 0 ∨ (Inv c ∧ c.kd = 0 ∧ 1 ≤ c.op ∧ (brkF E r n g l c).2.kd = 0)) → ((brkF E r n g l c).2.ix ≤ m ∨ ((brkF E r n g l c).1.isSome = true ∧ (brkF E r n g l c).2.ix ≤ m + 1)) → OL R (brkF E r n g l c).1 (brkF E' r n g' l' c').1 ∧ Sf pl m s e (brkF E r n g l c).2 (brkF E' r n g' l' c').2
  | 0, g', l, l', c, c', hc, hc', hs, hb, hb', hg, hg', hl, hP, hm => by have := hc.lt; omega
  | g + 1, 0, l, l', c, c', hc, hc', hs, hb, hb', hg, hg', hl, hP, hm => by have := hc'.lt; omega
  | g + 1, g' + 1, l, l', c, c', hc, hc', hs, hb, hb', hg, hg', hl, hP, hm => by
    have hi : c.ix ≤ m := by
      rcases hm with hm | ⟨h1, h2⟩
      · exact Nat.le_trans (brkF_stp hG r n (g + 1) l c hc).ix hm
      · have := brkF_go E r n hG (g + 1) l c hc h1
        omega
    simp only [brkF] at hP hm ⊢
    rw [hs.isP hi, ← hl.1]
    by_cases hq : l.length < n ∨ c.isP r = false
    · rw [if_pos hq] at hP hm
      rw [if_pos hq, if_pos hq]
      have hgo := hG c hc
      have hgo' := hG' c' hc'
      cases he : (E c).1 with
      | none =>
        rw [he] at hP hm
        have hm1 : (E c).2.ix ≤ m := by
          rcases hm with hm | ⟨h1, h2⟩
          · exact hm
          · cases h1
        have hp1 : Ps e c E := by
          rcases hP with hP | ⟨h1, h2, h3, h4⟩
          · exact .inl hP
          · exact .inr ⟨h1, h2, h4⟩
        obtain ⟨e1, e2⟩ := h.near trivial c c' hc hc' hs hb hb' hp1 hm1
        rw [he] at e1
        rw [e1.none]
        exact ⟨trivial, e2⟩
      | some d =>
        rw [he] at hP hm
        dsimp only at hP hm
        have hm1 : (E c).2.ix ≤ m := by
          rcases hm with hm | ⟨h1, h2⟩
          · exact Nat.le_trans (brkF_stp hG r n g _ _ hgo.1.ok).ix hm
          · have := brkF_go E r n hG g _ _ hgo.1.ok h1
            omega
        have hk0 : e = 0 ∨ (E c).2.kd = 0 := by
          rcases hP with hP | ⟨h1, h2, h3, h4⟩
          · exact .inl hP
          · refine .inr (Classical.byContradiction fun x => ?_)
            rw [brkF_sti h.o.sti r n x] at h4
            exact x h4
        have hp1 : Ps e c E := by
          rcases hP with hP | ⟨h1, h2, h3, h4⟩
          · exact .inl hP
          · rcases hk0 with hk0 | hk0
            · exact .inl hk0
            · exact .inr ⟨h1, h2, hk0⟩
        obtain ⟨e1, e2⟩ := h.near trivial c c' hc hc' hs hb hb' hp1 hm1
        rw [he] at e1
        obtain ⟨d', he', hR⟩ := e1.some
        rw [he']
        have i1 := hgo.2 (by rw [he]; rfl)
        have i2 := hgo'.2 (by rw [he']; rfl)
        refine brkF_4 hG hG' hF h hr n g g' (l ++ [d]) (l' ++ [d']) _ _ hgo.1.ok hgo'.1.ok e2 (by rw [hgo.1.ts]; omega) (by rw [hgo'.1.ts]; omega) (by rw [hgo.1.ts]; omega) (by rw [hgo'.1.ts]; omega) (hl.snoc hR) ?_ hm
        rcases hP with hP | ⟨h1, h2, h3, h4⟩
        · exact .inl hP
        · rcases hk0 with hk0 | hk0
          · exact .inl hk0
          · obtain ⟨o1, i3⟩ := h.o.bal c hc hb h1 h2 hk0
            exact .inr ⟨i3, hk0, by omega, h4⟩
    · rw [if_neg hq] at hP
      rw [if_neg hq, if_neg hq]
      refine ⟨hl, hs.cls hi r ?_⟩
      rcases hP with hP | ⟨h1, h2, h3, h4⟩
      · exact .inl hP
      · exact .inr h3
theorem brk_45 {R : Dt → Dt → Prop} {E E' : LitR} (hG : Goes E) (hG' : Goes E') (hF : Faults E b) (h : Ok4 pl m s e True (OD R) E E' b b') {l r : ByteArray} (hl : dlt (pk l) = 1) (hr : dlt (pk r) = -1) (n : Nat) (c c' : Cu) (hc : c.Ok) (hc' : c'.Ok) (hs : Sf pl m s e c c') (hb : c.ts.length ≤ b + 1 + c.ix) (hb' : c'.ts.length ≤ b' + 1 + c'.ix) (hP : Ps e c (brk E l r n)) (hm : (brk E l r n c).2.ix ≤ m ∨ ((brk E l r n c).1.isSome = true ∧ (brk E l r n c).2.ix ≤ m + 1)) : OL R (brk E l r n c).1 (brk E' l r n c').1 ∧ Sf pl m s e (brk E l r n c).2 (brk E' l r n c').2 := by
  have hgo := brk_goes hG l r n c hc
  have hi : c.ix ≤ m := by
    rcases hm with hm | ⟨h1, h2⟩
    · exact Nat.le_trans hgo.1.ix hm
    · have := hgo.2 h1
      omega
  have ho := opn_stp hc l
  have ho' := opn_stp hc' l
  have eB := hs.opB hi l
  have eS := hs.opn hi l
  unfold Ps at hP
  unfold brk at hP hm ⊢
  rw [eB]
  by_cases hB : c.opB l = true
  · rw [if_pos hB] at hP hm
    rw [if_pos hB, if_pos hB]
    have x1 := opn_ix hB
    have x2 := opn_ix (show c'.opB l = true by rw [eB]; exact hB)
    refine brkF_4 hG hG' hF h hr n _ _ [] [] _ _ ho.ok ho'.ok eS (by rw [ho.ts, x1]; omega) (by rw [ho'.ts, x2]; omega) (by rw [ho.ts]; omega) (by rw [ho'.ts]; omega) EqLs.nil ?_ hm
    rcases hP with hP | ⟨h1, h2, h3⟩
    · exact .inl hP
    · obtain ⟨q1, q2, q3⟩ := opn_yes hB
      exact .inr ⟨opn_inv hl hB h1, by rw [q3]; exact h2, by rw [q3]; exact Nat.succ_le_succ (Nat.zero_le _), h3⟩
  · rw [if_neg hB, if_neg hB]
    exact ⟨trivial, eS⟩
theorem brk_4 {R : Dt → Dt → Prop} {E E' : LitR} (hG : Goes E) (hG' : Goes E') (hF : Faults E b) (h : Ok4 pl m s e True (OD R) E E' b b') {l r : ByteArray} (hl : dlt (pk l) = 1) (hr : dlt (pk r) = -1) (n : Nat) : Ok4 pl m s e P (OL R) (brk E l r n) (brk E' l r n) (b + 1) (b' + 1) :=
  ⟨brk_3 hG hF h.o hl hr n, (brk_goes hG' l r n).st, fun hp c c' hc hc' hs hb hb' hP hm => brk_45 hG hG' hF h hl hr n c c' hc hc' hs hb hb' hP (.inl hm)⟩
theorem leaf_eq (f : Nat) {k : Int} {tx : ByteArray} {bl : Bool} {a c a' c' : Int} (h : pl = true → a = a' ∧ c = c') : EqL pl (f + 1) (litD k tx bl .nil .nil a c) (litD k tx bl .nil .nil a' c') :=
  ⟨k, tx, bl, [], [], [], [], a, c, a', c', rfl, rfl, h, rfl, rfl, fun i x y hx => by simp at hx, fun i x y hx => by simp at hx⟩
theorem word_eq (f : Nat) {t t' : Tk} (h : EqT pl t t') : EqL pl (f + 1) (wordD t) (wordD t') := by
  unfold wordD
  rw [h.2.1]
  split
  · exact leaf_eq f h.2.2.2
  · split
    · exact leaf_eq f h.2.2.2
    · exact leaf_eq f h.2.2.2
theorem argS_4 {f : Nat} {L L' : LitR} (h : Ok4 pl m s e True (OD (EqL pl f)) L L' b b') : Ok4 pl m s e P (OD (EqA pl f)) (argS L) (argS L') b b' := by
  rw [argS_eq3, argS_eq3]
  exact Ok4.tb fun t t' => nR_4.bnd fun _ _ => (wantR_4 _ dl_col).bnd fun _ _ => h.wk.bnd fun r r' => ret_4 fun hp => hp.2.map fun x y hxy => by
    have ht := hp.1.1.1.2
    rw [ht.2.1]
    exact ⟨t.tx, x, y, _, _, _, _, rfl, rfl, ht.2.2.2, hxy⟩
theorem litS_4 {f : Nat} {L L' : LitR} (hG : Goes L) (hG' : Goes L') (hF : Faults L b) (h : Ok4 pl m s e True (OD (EqL pl f)) L L' b b') (ct : Bool) : Ok4 pl m s e P (OD (EqL pl (f + 1))) (litS L ct) (litS L' ct) (b + 1) (b' + 1) := by
  rw [litS_eq, litS_eq]
  refine aliveR_4.bnd fun al al' => cond_4 (fun hp => hp.2) (Ok4.tb fun t t' => ?_) (ret_4 fun _ => trivial)
  have hK : ∀ {P' : Prop} (k : Int) {v v' : Dt}, k ≠ 0 → k ≠ 1 → k ≠ 2 → (P' → EqL pl (f + 1) v v') → Ok4 pl m s e P' (OD (EqL pl (f + 1))) (bnd (takeK k) fun _ => ret (some v)) (bnd (takeK k) fun _ => ret (some v')) (b + 1) (b' + 1) := fun {P'} k {v v'} h0 h1 h2 hv => (takeK_4 k h0 h1 h2).bnd fun _ _ => ret_4 fun hp => hv hp.1
  have hk : ∀ {Q : Prop} (k : Int), ((Q ∧ EqT pl t t') → decide (t.k = k) = decide (t'.k = k)) := fun k hp => by rw [hp.2.1]
  unfold litT
  refine cond_4 (hk 4) (hK 4 (by decide) (by decide) (by decide) fun hp => ?_) (cond_4 (hk 5) (hK 5 (by decide) (by decide) (by decide) fun hp => ?_) (cond_4 (hk 6) (hK 6 (by decide) (by decide) (by decide) fun hp => ?_) (cond_4 (hk 7) (hK 7 (by decide) (by decide) (by decide) fun hp => ?_) (cond_4 (hk 3) (hK 3 (by decide) (by decide) (by decide) fun hp => word_eq f hp.2)
    ((isPR_4 _).bnd fun q q' => cond_4 (fun hp => by rw [hp.2]) ((punctR_4 _ dl_dol).bnd fun _ _ => nR_4.bnd fun n n' => ret_4 fun hp => ?_)
    ((isPR_4 _).bnd fun q q' => cond_4 (fun hp => hp.2) ((brk_4 hG hG' hF h dl_lb dl_rb 0).bnd fun r r' => ret_4 fun hp => hp.2.map fun x y hxy => ?_)
    ((isPR_4 _).bnd fun q q' => cond_4 (fun hp => hp.2) ((brk_4 (argS_goes hG) (argS_goes hG') (argS_faults b hF) (argS_4 h) dl_lc dl_rc 0).bnd fun r r' => ret_4 fun hp => hp.2.map fun x y hxy => ?_)
    (stopR_4 fun _ => trivial))))))))
  · rw [hp.2.2.1]; exact leaf_eq f hp.2.2.2.2
  · rw [hp.2.2.1]; exact leaf_eq f hp.2.2.2.2
  · rw [hp.2.2.2.1]; exact leaf_eq f hp.2.2.2.2
  · rw [hp.2.2.2.1]; exact leaf_eq f hp.2.2.2.2
  · obtain ⟨⟨⟨⟨_, ht⟩, _⟩, _⟩, rfl⟩ := hp
    cases n.1
    · trivial
    · exact leaf_eq f ht.2.2.2
  · have ht := hp.1.1.1.2
    exact ⟨8, em, false, x, y, [], [], _, _, _, _, rfl, rfl, ht.2.2.2, hxy.1, rfl, hxy.2, fun i x y hx => by simp at hx⟩
  · have ht := hp.1.1.1.1.2
    exact ⟨9, em, false, [], [], x, y, _, _, _, _, rfl, rfl, ht.2.2.2, rfl, hxy.1, (fun i x y hx => by simp at hx), hxy.2⟩
theorem litF_4 (ct : Bool) : ∀ (f f' : Nat), Ok4 pl m s e True (OD (EqL pl f)) (litF ct f) (litF ct f') f f'
  | 0, f' => ⟨litF_3 ct 0, (litF_goes ct f').st, fun hp c c' hc hc' hs hb => by have := hc.lt; omega⟩
  | f + 1, 0 => ⟨litF_3 ct (f + 1), (litF_goes ct 0).st, fun hp c c' hc hc' hs hb hb' => by have := hc'.lt; omega⟩
  | f + 1, f' + 1 => litS_4 (litF_goes ct f) (litF_goes ct f') (litF_faults ct f) (litF_4 ct f f') ct
end
end Go.Proofs.YtdmfbahnhkdamaaGreat.cu
namespace Go.Proofs.YtdmfbahnhkdamaaGreat.cu
open dt (Dt Kp RowAt Ow Grow)
set_option linter.unusedVariables false
set_option linter.unusedSimpArgs false
section
variable {pl : Bool} {m s e : Nat} {P : Prop} {b b' : Nat} {f : Nat} {L L' : LitR}
end
end Go.Proofs.YtdmfbahnhkdamaaGreat.cu
namespace Go.Proofs.YtdmfbahnhkdamaaGreat.cu
open dt (Dt Kp RowAt Ow Grow)
open lx (toks chs cln tksG tkG)
set_option linter.unusedVariables false
set_option linter.unusedSimpArgs false
section
variable {pl : Bool} {m s e : Nat} {P : Prop} {b b' : Nat} {f : Nat} {L L' K K' : LitR}
theorem OD.getD {R : Dt → Dt → Prop} {a b : Option Dt} {z z' : Dt} (h : OD R a b) (hz : R z z') : R (a.getD z) (b.getD z') := by
  cases a <;> cases b
  · exact hz
  · exact h.elim
  · exact h.elim
  · exact h
end
end Go.Proofs.YtdmfbahnhkdamaaGreat.cu
namespace Go.Proofs.YtdmfbahnhkdamaaGreat.cu
open dt (Dt Kp RowAt Ow Grow)
open mem (posT Byt)
open lx (toks chs cln tksG tkG)
set_option linter.unusedVariables false
set_option linter.unusedSimpArgs false
/- at depth nought nothing is read -/
theorem tks_last3 (l : List Int) (cl : Bool) : ∀ (m i : Nat) (t : Tk), i ≤ l.length → (tksG l cl i)[m]? = some t → t.k = 0 ∨ t.k = 1 → (tksG l cl i).length = m + 1
  | 0, i, t, hi, h, hk => by
    by_cases he : (tkG l cl i).k = 0 ∨ (tkG l cl i).k = 1
    · rw [lx.tksG_end he]; rfl
    · rw [lx.tksG_go hi he] at h; simp at h; subst h; exact absurd hk he
  | m + 1, i, t, hi, h, hk => by
    have hle := lx.tkG_le l cl i hi
    by_cases he : (tkG l cl i).k = 0 ∨ (tkG l cl i).k = 1
    · rw [lx.tksG_end he] at h; simp at h
    · rw [lx.tksG_go hi he] at h ⊢
      have := tks_last3 l cl m _ t hle.2.1 (by simpa using h) hk
      simp; omega
end Go.Proofs.YtdmfbahnhkdamaaGreat.cu
namespace Go.Proofs.YtdmfbahnhkdamaaGreat.lx
open mem (pfx digB digs digAt isAt bWhole bPart bPoint bMark pfxFirst pfxR posT enB prB digsF)
open cu (Tk)
set_option linter.unusedVariables false
set_option linter.unusedSimpArgs false
/-- l' is l behind n characters -/
structure Shf (l l' : List Int) (n : Nat) : Prop where
  len : l'.length = n + l.length
  dr : l'.drop n = l
theorem Shf.of (p l : List Int) : Shf l (p ++ l) p.length := ⟨by simp, by simp⟩
section
variable {l l' : List Int} {n : Nat} (H : Shf l l' n)
include H
theorem Shf.at (i : Nat) : cAt l' (n + i) = cAt l i := by
  unfold cAt
  have h1 := H.len
  rcases Nat.lt_or_ge i l.length with g | g
  · rw [if_pos g, if_pos (by omega), List.getD_eq_getElem?_getD, List.getD_eq_getElem?_getD, ← H.dr, List.getElem?_drop]
  · rw [if_neg (by omega), if_neg (by omega)]
theorem Shf.at1 (i : Nat) : cAt l' (n + i + 1) = cAt l (i + 1) := H.at (i + 1)
theorem Shf.at2 (i : Nat) : cAt l' (n + i + 2) = cAt l (i + 2) := H.at (i + 2)
theorem ignF_shf : ∀ (f : Nat) (b : Bool) (i : Nat), ignF l' f b (n + i) = n + ignF l f b i
  | 0, b, i => rfl
  | f + 1, false, i => by
    simp only [ignF, H.at]
    split
    · exact ignF_shf f false (i + 1)
    · split
      · exact ignF_shf f true (i + 1)
      · rfl
  | f + 1, true, i => by
    simp only [ignF, H.at]
    split
    · exact ignF_shf f false (i + 1)
    · split
      · exact ignF_shf f true (i + 1)
      · rfl
theorem ign_shf (b : Bool) (i : Nat) : ign l' b (n + i) = n + ign l b i := by
  unfold ign
  rw [H.len, show n + l.length + 1 - (n + i) = l.length + 1 - i by omega]
  exact ignF_shf H _ b i
theorem namF_shf : ∀ (f : Nat) (i : Nat), namF l' f (n + i) = n + namF l f i
  | 0, i => rfl
  | f + 1, i => by
    simp only [namF, H.at]
    split
    · exact namF_shf f (i + 1)
    · rfl
theorem nam_shf (i : Nat) : nam l' (n + i) = n + nam l i := by
  unfold nam
  rw [H.len, show n + l.length + 1 - (n + i) = l.length + 1 - i by omega]
  exact namF_shf H _ i
theorem digAt_shf (i : Nat) : digAt l' (n + i) = digAt l i := by rw [digAt_c, digAt_c, H.at]
theorem isAt_shf (i : Nat) (c : Int) (hc : c ≠ -1) : isAt l' (n + i) c = isAt l i c := by rw [isAt_c _ _ _ hc, isAt_c _ _ _ hc, H.at]
theorem digsF_shf : ∀ (f : Nat) (i : Nat), digsF l' f (n + i) = n + digsF l f i
  | 0, i => rfl
  | f + 1, i => by
    simp only [digsF, digAt_shf H]
    split
    · exact digsF_shf f (i + 1)
    · rfl
theorem digs_shf (i : Nat) : digs l' (n + i) = n + digs l i := by
  unfold digs
  rw [H.len, show n + l.length - (n + i) = l.length - i by omega]
  exact digsF_shf H _ i
theorem bWhole_shf (i : Nat) : bWhole l' (n + i) = n + bWhole l i := by
  unfold bWhole
  rw [isAt_shf H i 48 (by decide), digs_shf H]
  split <;> rfl
theorem bPoint_shf (i : Nat) : bPoint l' (n + i) = n + bPoint l i := by
  unfold bPoint
  rw [isAt_shf H i 46 (by decide)]
  split <;> rfl
theorem pfxFirst_shf (i : Nat) : pfxFirst l' (n + i) = n + pfxFirst l i := by
  unfold pfxFirst
  rw [isAt_shf H i 45 (by decide)]
  split <;> rfl
theorem bMark_shf (i : Nat) : bMark l' (n + i) = n + bMark l i := by
  unfold bMark
  rw [isAt_shf H i 101 (by decide), isAt_shf H i 69 (by decide), show n + i + 1 = n + (i + 1) from rfl, isAt_shf H (i + 1) 43 (by decide), isAt_shf H (i + 1) 45 (by decide)]
  split
  · rfl
  · split <;> rfl
theorem bPart_shf (i q : Nat) : bPart l' (n + i) (n + q) = (n + (bPart l i q).1, n + (bPart l i q).2) := by
  unfold bPart
  rw [digs_shf H]
  by_cases h1 : q = i
  · rw [if_pos h1, if_pos (by omega)]
  · rw [if_neg h1, if_neg (by omega)]
    by_cases h2 : digs l q = q
    · rw [if_pos h2, if_pos (by omega)]
    · rw [if_neg h2, if_neg (by omega)]
theorem pfxR_shf (i : Nat) : pfxR l' (n + i) = (n + (pfxR l i).1, n + (pfxR l i).2) := by
  unfold pfxR
  rw [bPoint_shf H, bPart_shf H]
  dsimp only
  rw [bMark_shf H, bPart_shf H]
  by_cases h : (bPart l i (bPoint l i)).1 = (bPart l i (bPoint l i)).2
  · rw [if_pos h, if_pos (by omega)]
  · rw [if_neg h, if_neg (by omega)]
theorem pfx_shf (i : Nat) : pfx l' (n + i) = (n + (pfx l i).1, n + (pfx l i).2.1, (pfx l i).2.2) := by
  unfold pfx
  rw [pfxFirst_shf H, bWhole_shf H, pfxR_shf H]
  dsimp only
  by_cases h : bWhole l (pfxFirst l i) = pfxFirst l i
  · rw [if_pos h, if_pos (by omega)]
  · rw [if_neg h, if_neg (by omega)]
    dsimp only
    congr 2
    by_cases g : (pfxR l (bWhole l (pfxFirst l i))).1 > bWhole l (pfxFirst l i)
    · rw [if_pos g, if_pos (by omega)]
    · rw [if_neg g, if_neg (by omega)]
theorem num_shf (i : Nat) : num l' (n + i) = ((num l i).1, n + (num l i).2) := by
  unfold num
  rw [pfx_shf H]
  dsimp only
  rw [H.at]
  split
  · rfl
  · split
    · rfl
    · split <;> rfl
theorem tq_shf (i : Nat) : tq l' (n + i) = tq l i := by
  unfold tq
  rw [H.at, H.at1, H.at2]
theorem endB_shf : ∀ (k i : Nat), endB l' k (n + i) = (endB l k i).map (n + ·)
  | 0, i => rfl
  | k + 1, i => by
    simp only [endB]
    rw [tq_shf H, H.at, show n + i + 1 = n + (i + 1) from rfl, tq_shf H, show n + i + 4 = n + (i + 4) from rfl, endB_shf k (i + 4), endB_shf k (i + 1)]
    split
    · rfl
    · split
      · rfl
      · split <;> rfl
theorem endQ_shf : ∀ (k i : Nat), endQ l' k (n + i) = (endQ l k i).map (n + ·)
  | 0, i => rfl
  | k + 1, i => by
    simp only [endQ]
    rw [H.at, show n + i + 1 = n + (i + 1) from rfl, H.at, show n + i + 2 = n + (i + 2) from rfl, endQ_shf k (i + 2), endQ_shf k (i + 1)]
    split
    · rfl
    · split
      · split <;> rfl
      · split <;> rfl
theorem insZ_shf (p i : Nat) : insZ l' (n + p) (n + i) = insZ l p i := by
  unfold insZ
  rw [← List.drop_drop, H.dr, show n + i - (n + p) = i - p by omega]
omit H in
theorem endB_fuel (l : List Int) : ∀ (k k' i : Nat), l.length + 1 ≤ k + i → l.length + 1 ≤ k' + i → endB l k i = endB l k' i
  | 0, 0, i, h, h' => rfl
  | 0, k' + 1, i, h, h' => by
    have e : cAt l i = -1 := cAt_end (by omega)
    have t : tq l i = false := by unfold tq; rw [e]; rfl
    simp only [endB, e, t]
    rfl
  | k + 1, 0, i, h, h' => by
    have e : cAt l i = -1 := cAt_end (by omega)
    have t : tq l i = false := by unfold tq; rw [e]; rfl
    simp only [endB, e, t]
    rfl
  | k + 1, k' + 1, i, h, h' => by
    simp only [endB]
    rw [endB_fuel l k k' (i + 4) (by omega) (by omega), endB_fuel l k k' (i + 1) (by omega) (by omega)]
omit H in
theorem endQ_fuel (l : List Int) : ∀ (k k' i : Nat), l.length + 1 ≤ k + i → l.length + 1 ≤ k' + i → endQ l k i = endQ l k' i
  | 0, 0, i, h, h' => rfl
  | 0, k' + 1, i, h, h' => by
    have e : cAt l i = -1 := cAt_end (by omega)
    simp only [endQ, e]
    rfl
  | k + 1, 0, i, h, h' => by
    have e : cAt l i = -1 := cAt_end (by omega)
    simp only [endQ, e]
    rfl
  | k + 1, k' + 1, i, h, h' => by
    simp only [endQ]
    rw [endQ_fuel l k k' (i + 2) (by omega) (by omega), endQ_fuel l k k' (i + 1) (by omega) (by omega)]
theorem blc_shf (bS : List Int → ByteArray) (i : Nat) : blc bS l' (n + i) = ((blc bS l i).1, n + (blc bS l i).2.1, (blc bS l i).2.2) := by
  unfold blc
  rw [H.len, show n + i + 3 = n + (i + 3) from rfl, endB_shf H, endB_fuel l (n + l.length + 2) (l.length + 2) (i + 3) (by omega) (by omega)]
  cases endB l (l.length + 2) (i + 3) with
  | none => rfl
  | some j =>
    show (7, n + j + 3, bS (insZ l' (n + i + 3) (n + j))) = _
    rw [show n + i + 3 = n + (i + 3) from rfl, insZ_shf H]
    rfl
theorem qtd_shf (i : Nat) : qtd l' (n + i) = ((qtd l i).1, n + (qtd l i).2.1, (qtd l i).2.2) := by
  unfold qtd
  rw [H.len, show n + i + 1 = n + (i + 1) from rfl, endQ_shf H, endQ_fuel l (n + l.length + 2) (l.length + 2) (i + 1) (by omega) (by omega)]
  cases endQ l (l.length + 2) (i + 1) with
  | none => rfl
  | some j =>
    show qtdR l' (n + i) (some (n + j)) = _
    unfold qtdR
    dsimp only
    rw [show n + i + 1 = n + (i + 1) from rfl, insZ_shf H]
    cases quo (insZ l (i + 1) j) <;> rfl
theorem rdG_shf (cl : Bool) (i : Nat) : rdG l' cl (n + i) = ((rdG l cl i).1, n + (rdG l cl i).2.1, (rdG l cl i).2.2) := by
  unfold rdG
  rw [H.at, H.at1, H.at2, show n + i + 1 = n + (i + 1) from rfl, nam_shf H, num_shf H, tq_shf H, blc_shf H, qtd_shf H]
  have h1 : (n + i = l'.length ∧ cl = true) ↔ (i = l.length ∧ cl = true) := by rw [H.len]; constructor <;> (rintro ⟨a, b⟩; exact ⟨by omega, b⟩)
  by_cases h0 : i = l.length ∧ cl = true
  · rw [if_pos h0, if_pos (h1.2 h0)]
  · rw [if_neg h0, if_neg (fun x => h0 (h1.1 x))]
    split
    · split <;> rfl
    · split
      · rfl
      · split
        · rfl
        · split
          · rfl
          · split
            · rfl
            · split <;> rfl
/-- a token, so many characters further on -/
def shT (l' : List Int) (n : Nat) (t : Tk) : Tk := ⟨t.k, (posT l' (n + t.fr)).1, (posT l' (n + t.fr)).2, n + t.fr, n + t.to, t.tx, t.va⟩
theorem tkG_shf (cl : Bool) (i : Nat) : tkG l' cl (n + i) = shT l' n (tkG l cl i) := by
  unfold tkG shT
  rw [ign_shf H, rdG_shf H]
  dsimp only
  congr 2
  obtain ⟨a, ha⟩ : ∃ a, a = (rdG l cl (ign l false i)).2.1 := ⟨_, rfl⟩
  obtain ⟨b, hb⟩ : ∃ b, b = ign l false i := ⟨_, rfl⟩
  rw [← ha, ← hb, List.drop_take, List.drop_take, ← List.drop_drop, H.dr, show n + a - (n + b) = a - b by omega]
theorem tksGF_shf (cl : Bool) : ∀ (f i : Nat), tksGF l' cl f (n + i) = (tksGF l cl f i).map (shT l' n)
  | 0, i => rfl
  | f + 1, i => by
    simp only [tksGF]
    rw [tkG_shf H]
    have e : (shT l' n (tkG l cl i)).k = (tkG l cl i).k := rfl
    have e2 : (shT l' n (tkG l cl i)).to = n + (tkG l cl i).to := rfl
    rw [e, e2]
    split
    · rfl
    · rw [tksGF_shf cl f _]
      rfl
theorem tksG_shf (cl : Bool) {i : Nat} (hi : i ≤ l.length) : tksG l' cl (n + i) = (tksG l cl i).map (shT l' n) := by
  unfold tksG
  rw [tksGF_more l' cl (l'.length + 1) (l.length + 1) (n + i) (by omega) (by rw [H.len]; omega) (by rw [H.len]; omega)]
  exact tksGF_shf H cl _ i
end
/-- a token that is the end stands at the end -/
theorem rdG_zero {l : List Int} {cl : Bool} {i : Nat} (hi : i ≤ l.length) (h : (rdG l cl i).1 = 0) : i = l.length ∧ cl = true := by
  by_cases h0 : i = l.length ∧ cl = true
  · exact h0
  · exfalso
    unfold rdG at h
    rw [if_neg h0] at h
    split at h
    · split at h <;> cases h
    · split at h
      · cases h
      · split at h
        · cases h
        · split at h
          · exact (num_le l i hi).2.2.2 h
          · split at h
            · exact (blc_le sv.bS l i hi).2.2.2 h
            · split at h
              · exact (qtd_le l i hi).2.2.2 h
              · cases h
/-- ignored up to the end, a line feed there, and further on -/
theorem ign_over {l l' : List Int} (H : Loc l l' l.length) : ∀ (k : Nat) (b : Bool) (i : Nat), l.length ≤ i + k → i ≤ l.length → ign l b i = l.length → ign l' b i = ign l' false (l.length + 1)
  | 0, b, i, hk, hi, h => by
    obtain rfl : i = l.length := by omega
    cases b
    · rw [ign_f l' l.length, H.nl]; rfl
    · rw [ign_t l' l.length, H.nl]; rfl
  | k + 1, b, i, hk, hi, h => by
    rcases Nat.lt_or_ge i l.length with g | g
    · have hc := H.at_ g
      cases b with
      | false =>
        rw [ign_f l i] at h
        rw [ign_f l' i, hc]
        split
        · rename_i h3; rw [if_pos h3] at h; exact ign_over H k false (i + 1) (by omega) (by omega) h
        · rename_i h3; rw [if_neg h3] at h
          split
          · rename_i h4; rw [if_pos h4] at h; exact ign_over H k true (i + 1) (by omega) (by omega) h
          · rename_i h4; rw [if_neg h4] at h; omega
      | true =>
        rw [ign_t l i] at h
        rw [ign_t l' i, hc]
        split
        · rename_i h3; rw [if_pos h3] at h; exact ign_over H k false (i + 1) (by omega) (by omega) h
        · rename_i h3; rw [if_neg h3] at h
          split
          · rename_i h4; rw [if_pos h4] at h; exact ign_over H k true (i + 1) (by omega) (by omega) h
          · rename_i h4; rw [if_neg h4] at h; omega
    · exact ign_over H 0 b i (by omega) hi h
theorem tksG_same {l : List Int} {cl : Bool} {i j : Nat} (hi : i ≤ l.length) (hj : j ≤ l.length) (h : ign l false i = ign l false j) : tksG l cl i = tksG l cl j := by
  have e : tkG l cl i = tkG l cl j := by unfold tkG; rw [h]
  by_cases he : (tkG l cl i).k = 0 ∨ (tkG l cl i).k = 1
  · rw [tksG_end he, tksG_end (by rw [← e]; exact he), e]
  · rw [tksG_go hi he, tksG_go hj (by rw [← e]; exact he), e]
/-- the tokens of two sources, a line feed between them -/
theorem tks_join {l l' : List Int} (H : Loc l l' l.length) {cl cl' : Bool} : ∀ (m i : Nat) (t : Tk), i ≤ l.length → (tksG l cl i)[m]? = some t → t.k = 0 → tksG l' cl' i = (tksG l cl i).take m ++ tksG l' cl' (l.length + 1)
  | m, i, t, hi, hm, h0 => by
    have hlt := H.lt
    have hle := tkG_le l cl i hi
    by_cases he : (tkG l cl i).k = 0 ∨ (tkG l cl i).k = 1
    · rw [tksG_end he] at hm
      cases m with
      | succ m => simp at hm
      | zero =>
        simp at hm
        subst hm
        have hz := rdG_zero ((ign_le l false i).2 hi) h0
        rw [List.take_zero, List.nil_append]
        exact tksG_same (by omega) (by omega) (ign_over H l.length false i (by omega) hi hz.1)
    · have e0 : (tkG l cl i).k ≠ 0 := fun e => he (.inl e)
      have e1 : (tkG l cl i).k ≠ 1 := fun e => he (.inr e)
      have hgo := tksG_go hi he
      have hk := tkG_loc H (cl' := cl') hi e0 e1 hle.2.1
      cases m with
      | zero => rw [hgo] at hm; simp at hm; subst hm; exact absurd h0 e0
      | succ m =>
        rw [hgo] at hm
        simp at hm
        have ih := tks_join H (cl := cl) (cl' := cl') m (tkG l cl i).to t hle.2.1 hm h0
        rw [hgo, tksG_go (l := l') (cl := cl') (by omega) (by rw [hk]; exact he), hk, ih]
        rfl
end Go.Proofs.YtdmfbahnhkdamaaGreat.lx
namespace Go.Proofs.YtdmfbahnhkdamaaGreat.cu
open dt (Dt Kp RowAt Ow Grow)
open mem (decF decZ putB scB Byt posT enB)
open lx (toks chs cln tksG tkG shT)
set_option linter.unusedVariables false
set_option linter.unusedSimpArgs false
theorem EqL.symm {pl : Bool} : ∀ {f : Nat} {d e : Dt}, EqL pl f d e → EqL pl f e d
  | 0, d, e, h => h.elim
  | f + 1, d, e, ⟨k, tx, bl, its, its', fls, fls', ln, co, ln', co', h1, h2, h3, h4, h5, h6, h7⟩ =>
    ⟨k, tx, bl, its', its, fls', fls, ln', co', ln, co, h2, h1, fun p => ⟨(h3 p).1.symm, (h3 p).2.symm⟩, h4.symm, h5.symm, fun i x y hx hy => (h6 i y x hy hx).symm, fun i x y hx hy => by
      obtain ⟨nm, v, v', a, b, a', b', e1, e2, e3, e4⟩ := h7 i y x hy hx
      exact ⟨nm, v', v, a', b', a, b, e2, e1, fun p => ⟨(e3 p).1.symm, (e3 p).2.symm⟩, e4.symm⟩⟩
theorem dec_app {zs : List Int} (h : zs.all scB = true) (r : List Int) : decZ (zs.flatMap putB ++ r) = (zs ++ (decZ r).1, (zs.flatMap putB).length + (decZ r).2) := by
  have hlen : zs.length ≤ (zs.flatMap putB).length := mem.flat_ge _
  unfold decZ
  rw [decF_fuel _ (zs.length + (zs.flatMap putB ++ r).length) _ (Nat.le_refl _) (by omega), decF_app _ _ _ h]
  rw [decF_fuel _ r.length r (by rw [List.length_append]; omega) (Nat.le_refl _)]
theorem chs_app {zs : List Int} (h : zs.all scB = true) (r : List Int) : chs (zs.flatMap putB ++ r) = zs ++ chs r := by unfold chs; rw [dec_app h]
theorem cln_app {zs : List Int} (h : zs.all scB = true) (r : List Int) : cln (zs.flatMap putB ++ r) = cln r := by
  unfold cln
  rw [dec_app h, List.length_append]
  exact decide_eq_decide.2 (by dsimp only; omega)
theorem clean_flat {z : List Int} (hz : Byt z) (hc : cln z = true) : z = (chs z).flatMap putB ∧ (chs z).all scB = true := by
  have h := mem.decF_flat z.length z hz
  have h2 : (decZ z).2 = z.length := of_decide_eq_true hc
  unfold decZ at h2
  refine ⟨?_, h.2.2.1⟩
  have := h.1
  rw [h2, List.take_length] at this
  exact this.symm
theorem tks_zero (l : List Int) (cl : Bool) : ∀ (m i : Nat) (t : Tk), i ≤ l.length → (tksG l cl i)[m]? = some t → t.k = 0 → cl = true
  | 0, i, t, hi, h, hk => by
    have h0 : (tksG l cl i)[0]? = some (tkG l cl i) := by
      by_cases he : (tkG l cl i).k = 0 ∨ (tkG l cl i).k = 1
      · rw [lx.tksG_end he]; rfl
      · rw [lx.tksG_go hi he]; rfl
    rw [h0] at h
    obtain rfl := Option.some.inj h
    exact (lx.rdG_zero ((lx.ign_le l false i).2 hi) hk).2
  | m + 1, i, t, hi, h, hk => by
    have hle := lx.tkG_le l cl i hi
    by_cases he : (tkG l cl i).k = 0 ∨ (tkG l cl i).k = 1
    · rw [lx.tksG_end he] at h; simp at h
    · rw [lx.tksG_go hi he] at h
      exact tks_zero l cl m _ t hle.2.1 (by simpa using h) hk
end Go.Proofs.YtdmfbahnhkdamaaGreat.cu
namespace Go.Proofs.YtdmfbahnhkdamaaGreat.cu
open dt (Dt Kp RowAt Ow Grow)
open mem (decF decZ putB scB Byt posT enB)
open lx (toks chs cln tksG tkG shT cAt ign rdG)
set_option linter.unusedVariables false
set_option linter.unusedSimpArgs false
/- what of tokens is not their place -/
abbrev Ky := Int × ByteArray × ByteArray
def key (t : Tk) : Ky := (t.k, t.tx, t.va)
def ky (l : List Int) : List Ky := (tksG l true 0).map key
theorem ky_shf {l l' : List Int} {n : Nat} (H : lx.Shf l l' n) : (tksG l' true n).map key = ky l := by
  have h := lx.tksG_shf H true (i := 0) (Nat.zero_le _)
  rw [Nat.add_zero] at h
  rw [h, ky, List.map_map]
  rfl
theorem shf_cons (b : Int) (X : List Int) : lx.Shf X (b :: X) 1 := lx.Shf.of [b] X
theorem at_c0 (b : Int) (X : List Int) : cAt (b :: X) 0 = b := rfl
/-- a text up to its end, a line feed, and what stands behind -/
theorem ky_join {l : List Int} (Y : List Int) {m : Nat} {t : Tk} (h : (tksG l true 0)[m]? = some t) (hk : t.k = 0) : ky (l ++ 10 :: Y) = (ky l).take m ++ ky Y := by
  have hloc : lx.Loc l (l ++ 10 :: Y) l.length := by
    refine ⟨by simp, Nat.le_refl _, ?_⟩
    rw [lx.cAt_in (by simp), List.getD_eq_getElem?_getD, List.getElem?_append_right (Nat.le_refl _), Nat.sub_self]
    rfl
  have hshf : lx.Shf Y (l ++ 10 :: Y) (l.length + 1) := by
    have := lx.Shf.of (l ++ [10]) Y
    simpa using this
  unfold ky
  rw [lx.tks_join hloc (cl := true) (cl' := true) m 0 t (Nat.zero_le _) h hk, List.map_append, List.map_take, ky_shf hshf]
  rfl
/-- a mark -/
theorem tk_pu {l : List Int} {cl : Bool} {i : Nat} {b : Int} (h : cAt l i = b) (h1 : b ≠ -1) (h2 : b ≠ 46) (h3 : lx.blB b = false) (h4 : b ≠ 35) (h5 : lx.puB b = true) : (tkG l cl i).k = 2 ∧ (tkG l cl i).tx = mem.encS [b] ∧ (tkG l cl i).va = lx.E0 ∧ (tkG l cl i).to = i + 1 := by
  have hi : i < l.length := lx.cAt_lt h h1
  have hg : ign l false i = i := by
    rw [lx.ign_f, h, h3, if_neg (by decide), if_neg h4]
  have hr : rdG l cl i = (2, i + 1, lx.E0) := by
    unfold rdG
    rw [if_neg (fun x => by omega), h, if_neg h2, h5, if_pos rfl]
  have hd : (l.take (i + 1)).drop i = [b] := by
    rw [List.drop_take, show i + 1 - i = 1 by omega]
    have : l.drop i = l[i] :: l.drop (i + 1) := (List.drop_eq_getElem_cons hi)
    rw [this]
    rw [lx.cAt_in hi, List.getD_eq_getElem?_getD, List.getElem?_eq_getElem hi] at h
    simp at h
    simp [h]
  unfold tkG
  rw [hg, hr]
  exact ⟨rfl, by show mem.encS ((l.take (i + 1)).drop i) = _; rw [hd], rfl, rfl⟩
theorem ky_pu {b : Int} (X : List Int) (h1 : b ≠ -1) (h2 : b ≠ 46) (h3 : lx.blB b = false) (h4 : b ≠ 35) (h5 : lx.puB b = true) : ky (b :: X) = (2, mem.encS [b], lx.E0) :: ky X := by
  obtain ⟨q1, q2, q3, q4⟩ := tk_pu (l := b :: X) (cl := true) (at_c0 b X) h1 h2 h3 h4 h5
  unfold ky
  rw [lx.tksG_go (Nat.zero_le _) (by rw [q1]; decide), q4, List.map_cons]
  have e := ky_shf (shf_cons b X)
  unfold ky at e
  rw [show 0 + 1 = 1 from rfl, e]
  unfold key
  rw [q1, q2, q3]
/-- a word -/
theorem nam_run (b : Int) (X : List Int) (hb : lx.nrB b = false) : ∀ (w p : List Int), (∀ c ∈ w, lx.nrB c = true) → lx.nam (p ++ (w ++ b :: X)) p.length = p.length + w.length
  | [], p, _ => by
    have h : cAt (p ++ ([] ++ b :: X)) p.length = b := by
      rw [lx.cAt_in (by simp), List.getD_eq_getElem?_getD, List.getElem?_append_right (Nat.le_refl _), Nat.sub_self]
      rfl
    rw [lx.nam_eq, h, hb, if_neg (by decide)]
    rfl
  | c :: w, p, hw => by
    have h : cAt (p ++ (c :: w ++ b :: X)) p.length = c := by
      rw [lx.cAt_in (by simp), List.getD_eq_getElem?_getD, List.getElem?_append_right (Nat.le_refl _), Nat.sub_self]
      rfl
    have ih := nam_run b X hb w (p ++ [c]) (fun x hx => hw x (List.mem_cons_of_mem _ hx))
    rw [lx.nam_eq, h, hw c (List.mem_cons_self ..), if_pos rfl]
    have e : p ++ [c] ++ (w ++ b :: X) = p ++ (c :: w ++ b :: X) := by simp
    rw [e] at ih
    simp only [List.length_append, List.length_cons, List.length_nil] at ih ⊢
    rw [ih]
    omega
theorem ky_nm {c b : Int} {w X : List Int} (h1 : lx.nsB c = true) (h2 : c ≠ -1) (h3 : lx.blB c = false) (h4 : c ≠ 35) (h5 : c ≠ 46) (h6 : lx.puB c = false) (hw : ∀ x ∈ w, lx.nrB x = true) (hb : lx.nrB b = false) : ky (c :: (w ++ b :: X)) = (3, mem.encS (c :: w), lx.E0) :: ky (b :: X) := by
  have hn : lx.nam (c :: (w ++ b :: X)) 1 = 1 + w.length := by
    have := nam_run b X hb w [c] hw
    simpa using this
  have hg : ign (c :: (w ++ b :: X)) false 0 = 0 := by
    rw [lx.ign_f, at_c0, h3, if_neg (by decide), if_neg h4]
  have hr : rdG (c :: (w ++ b :: X)) true 0 = (3, 1 + w.length, lx.E0) := by
    unfold rdG
    rw [if_neg (fun x => by simp at x), at_c0, if_neg h5, h6, if_neg (by decide), h1, if_pos rfl, hn]
  have ht : (tkG (c :: (w ++ b :: X)) true 0).k = 3 ∧ (tkG (c :: (w ++ b :: X)) true 0).tx = mem.encS (c :: w) ∧ (tkG (c :: (w ++ b :: X)) true 0).va = lx.E0 ∧ (tkG (c :: (w ++ b :: X)) true 0).to = 1 + w.length := by
    unfold tkG
    rw [hg, hr]
    refine ⟨rfl, ?_, rfl, rfl⟩
    show mem.encS (((c :: (w ++ b :: X)).take (1 + w.length)).drop 0) = _
    rw [List.drop_zero, Nat.add_comm, List.take_succ_cons, List.take_append_of_le_length (Nat.le_refl _), List.take_length]
  obtain ⟨q1, q2, q3, q4⟩ := ht
  have e := ky_shf (l := b :: X) (l' := c :: (w ++ b :: X)) (n := 1 + w.length) (by
    have := lx.Shf.of (c :: w) (b :: X)
    simpa [Nat.add_comm] using this)
  unfold ky at e ⊢
  rw [lx.tksG_go (Nat.zero_le _) (by rw [q1]; decide), q4, List.map_cons, e]
  unfold key
  rw [q1, q2, q3]
/-- a blank -/
theorem ky_bl {b : Int} (X : List Int) (h : lx.blB b = true) : ky (b :: X) = ky X := by
  have e := ky_shf (shf_cons b X)
  rw [← e]
  unfold ky
  rw [lx.tksG_same (l := b :: X) (cl := true) (i := 0) (j := 1) (Nat.zero_le _) (by simp) (by rw [lx.ign_f, at_c0, h, if_pos rfl])]
theorem ky_end : ky [] = [(0, mem.encS [], lx.E0)] := rfl
/-- a source's tokens, where its characters are all there -/
theorem toks_ky {cs : List Int} (h : cs.all scB = true) : (toks (cs.flatMap putB)).map key = ky cs := by
  have h1 := chs_app h []
  have h2 := cln_app h []
  rw [List.append_nil] at h1 h2
  unfold toks ky
  rw [h1, h2]
  simp [chs, mem.decZ, mem.decF, cln]
/-- of a text that is read: its keys, all characters -/
theorem end_ky {z : List Int} (hz : Byt z) {m : Nat} {t : Tk} (h : (toks z)[m]? = some t) (hk : t.k = 0) : (chs z).all scB = true ∧ z = (chs z).flatMap putB ∧ (tksG (chs z) true 0)[m]? = some t ∧ (toks z).map key = ky (chs z) ∧ (toks z).length = m + 1 := by
  have hc : cln z = true := tks_zero _ _ _ _ _ (Nat.zero_le _) h hk
  obtain ⟨h1, h2⟩ := clean_flat hz hc
  have hl := tks_last3 (chs z) (cln z) _ 0 _ (Nat.zero_le _) h (.inl hk)
  refine ⟨h2, h1, ?_, ?_, hl⟩
  · unfold toks at h; rw [hc] at h; exact h
  · unfold toks ky; rw [hc]
def k2 (b : Int) : Ky := (2, mem.encS [b], lx.E0)
def k3 (w : List Int) : Ky := (3, mem.encS w, lx.E0)
def k0 : Ky := (0, mem.encS [], lx.E0)
set_option maxHeartbeats 4000000 in
/-- the three sources -/
theorem three_ky {z y : List Int} (hz : Byt z) (hy : Byt y) {m n : Nat} {t u : Tk} (h : (toks z)[m]? = some t) (hk : t.k = 0) (g : (toks y)[n]? = some u) (gk : u.k = 0) :
    (toks ([91] ++ z ++ [10] ++ y ++ [10, 93])).map key = [k2 91] ++ (((toks z).map key).take m ++ (((toks y).map key).take n ++ [k2 93, k0])) ∧
    (toks ([123, 120, 58] ++ z ++ [10, 120, 58] ++ y ++ [10, 125])).map key = [k2 123, k3 [120], k2 58] ++ (((toks z).map key).take m ++ ([k3 [120], k2 58] ++ (((toks y).map key).take n ++ [k2 125, k0]))) ∧
    (toks ([64, 100, 32, 64, 111, 110, 40, 110, 117, 108, 108, 58] ++ z ++ [10, 121, 58] ++ y ++ [10, 41])).map key = [k2 64, k3 [100], k2 64, k3 [111, 110], k2 40, k3 [110, 117, 108, 108], k2 58] ++ (((toks z).map key).take m ++ ([k3 [121], k2 58] ++ (((toks y).map key).take n ++ [k2 41, k0]))) := by
  obtain ⟨a1, a2, a3, a4, _⟩ := end_ky hz h hk
  obtain ⟨b1, b2, b3, b4, _⟩ := end_ky hy g gk
  rw [a4, b4]
  obtain ⟨A, hA⟩ : ∃ A, A = chs z := ⟨_, rfl⟩
  obtain ⟨B, hB⟩ : ∃ B, B = chs y := ⟨_, rfl⟩
  rw [← hA] at a1 a2 a3 ⊢
  rw [← hB] at b1 b2 b3 ⊢
  have hj := fun Y => ky_join Y a3 hk
  have hj2 := fun Y => ky_join Y b3 gk
  have e : ∀ P Q R : List Int, P.flatMap putB = P → Q.flatMap putB = Q → R.flatMap putB = R → P.all scB = true → Q.all scB = true → R.all scB = true → (toks (P ++ z ++ 10 :: Q ++ y ++ 10 :: R)).map key = ky (P ++ (A ++ 10 :: (Q ++ (B ++ 10 :: R)))) := fun P Q R p1 q1 r1 p2 q2 r2 => by
    have h10 : putB 10 = [10] := mem.putB_1 (by omega)
    have : P ++ z ++ 10 :: Q ++ y ++ 10 :: R = (P ++ (A ++ 10 :: (Q ++ (B ++ 10 :: R)))).flatMap putB := by
      simp only [List.flatMap_append, List.flatMap_cons, p1, q1, r1, h10, ← a2, ← b2]
      simp
    rw [this]
    exact toks_ky (by simp only [List.all_append, List.all_cons, p2, q2, r2, a1, b1]; rfl)
  refine ⟨?_, ?_, ?_⟩
  · have := e [91] [] [93] (by decide) (by decide) (by decide) (by decide) (by decide) (by decide)
    rw [show ([91] ++ z ++ [10] ++ y ++ [10, 93] : List Int) = [91] ++ z ++ 10 :: [] ++ y ++ 10 :: [93] from rfl, this]
    rw [show ([91] ++ (A ++ 10 :: ([] ++ (B ++ 10 :: [93]))) : List Int) = (91 :: (A ++ 10 :: (B ++ 10 :: [93]))) from rfl]
    rw [ky_pu _ (by decide) (by decide) (by decide) (by decide) (by decide), hj, hj2, ky_pu _ (by decide) (by decide) (by decide) (by decide) (by decide), ky_end]
    rfl
  · have := e [123, 120, 58] [120, 58] [125] (by decide) (by decide) (by decide) (by decide) (by decide) (by decide)
    rw [show ([123, 120, 58] ++ z ++ [10, 120, 58] ++ y ++ [10, 125] : List Int) = [123, 120, 58] ++ z ++ 10 :: [120, 58] ++ y ++ 10 :: [125] from rfl, this]
    rw [show ([123, 120, 58] ++ (A ++ 10 :: ([120, 58] ++ (B ++ 10 :: [125]))) : List Int) = (123 :: (120 :: ([] ++ 58 :: (A ++ 10 :: (120 :: ([] ++ 58 :: (B ++ 10 :: [125]))))))) from rfl]
    rw [ky_pu _ (by decide) (by decide) (by decide) (by decide) (by decide), ky_nm (by decide) (by decide) (by decide) (by decide) (by decide) (by decide) (by simp) (by decide), ky_pu _ (by decide) (by decide) (by decide) (by decide) (by decide), hj, ky_nm (by decide) (by decide) (by decide) (by decide) (by decide) (by decide) (by simp) (by decide), ky_pu _ (by decide) (by decide) (by decide) (by decide) (by decide), hj2, ky_pu _ (by decide) (by decide) (by decide) (by decide) (by decide), ky_end]
    rfl
  · have := e [64, 100, 32, 64, 111, 110, 40, 110, 117, 108, 108, 58] [121, 58] [41] (by decide) (by decide) (by decide) (by decide) (by decide) (by decide)
    rw [show ([64, 100, 32, 64, 111, 110, 40, 110, 117, 108, 108, 58] ++ z ++ [10, 121, 58] ++ y ++ [10, 41] : List Int) = [64, 100, 32, 64, 111, 110, 40, 110, 117, 108, 108, 58] ++ z ++ 10 :: [121, 58] ++ y ++ 10 :: [41] from rfl, this]
    rw [show ([64, 100, 32, 64, 111, 110, 40, 110, 117, 108, 108, 58] ++ (A ++ 10 :: ([121, 58] ++ (B ++ 10 :: [41]))) : List Int) = (64 :: (100 :: ([] ++ 32 :: (64 :: (111 :: ([110] ++ 40 :: (110 :: ([117, 108, 108] ++ 58 :: (A ++ 10 :: (121 :: ([] ++ 58 :: (B ++ 10 :: [41])))))))))))) from rfl]
    rw [ky_pu _ (by decide) (by decide) (by decide) (by decide) (by decide), ky_nm (by decide) (by decide) (by decide) (by decide) (by decide) (by decide) (by simp) (by decide), ky_bl _ (by decide), ky_pu _ (by decide) (by decide) (by decide) (by decide) (by decide), ky_nm (by decide) (by decide) (by decide) (by decide) (by decide) (by decide) (by decide) (by decide), ky_pu _ (by decide) (by decide) (by decide) (by decide) (by decide), ky_nm (by decide) (by decide) (by decide) (by decide) (by decide) (by decide) (by decide) (by decide), ky_pu _ (by decide) (by decide) (by decide) (by decide) (by decide), hj, ky_nm (by decide) (by decide) (by decide) (by decide) (by decide) (by decide) (by simp) (by decide), ky_pu _ (by decide) (by decide) (by decide) (by decide) (by decide), hj2, ky_pu _ (by decide) (by decide) (by decide) (by decide) (by decide), ky_end]
    rfl
end Go.Proofs.YtdmfbahnhkdamaaGreat.cu
