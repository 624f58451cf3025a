import Derived.Test.YtnkaoapnooanlaaGreatSdd20
set_option linter.unusedVariables false
set_option linter.unusedSimpArgs false
namespace Go.Proofs.YtnkaoapnooanlaaGreat.cu
open Go.ChangeShapes Go.WideShapes Go.ChangeAt Go.RowKit
open ints (Hi uh)
open dt (Dt Kp RowAt Ow Grow OwIn)
open mem (Row)
def EqLs (R : Dt → Dt → Prop) (l l' : List Dt) : Prop := l.length = l'.length ∧ ∀ (i : Nat) x y, l[i]? = some x → l'[i]? = some y → R x y
def EqA (pl : Bool) (f : Nat) (x y : Dt) : Prop := ∃ nm v v' a b a' b', x = fldD nm v a b ∧ y = fldD nm v' a' b' ∧ (pl = true → a = a' ∧ b = b') ∧ EqL pl f v v'
def EqR (pl : Bool) (f : Nat) (x y : Dt) : Prop := ∃ nm l l' a b a' b', x = dirD nm l a b ∧ y = dirD nm l' a' b' ∧ (pl = true → a = a' ∧ b = b') ∧ EqLs (EqA pl f) l l'
def Ls (w : World) (k : Nat) (l : List Dt) (a : Option Addr) (F : List Nat) : Prop := l = [] ∨ ∃ p off, a = some ⟨p, off, none⟩ ∧ p ∈ F ∧ ∀ (i : Nat) e, l[i]? = some e → ∃ ds G, RowAt w p (off + i * k) ds ∧ ds.length = k ∧ Ow w e ds G ∧ ∀ b ∈ G, b ∈ F
theorem Ls.below {w w' : World} {k : Nat} {l : List Dt} {a : Option Addr} {F : List Nat} (h : Ls w k l a F) (hF : ∀ b ∈ F, b < w.heap.size) (hb : Below w.heap.size w w') : Ls w' k l a F := by
 rcases h with h | ⟨p, off, ha, hp, h⟩
 ·exact .inl h
 ·refine .inr ⟨p, off, ha, hp, fun i e he => ?_⟩
  obtain ⟨ds, G, h1, h2, h3, h4⟩ := h i e he
  exact ⟨ds, G, h1.below hb, h2, dt.Ow.agree e ds G (fun b hb' o => hb.cell (p := ⟨b, o, none⟩) (hF b (h4 b hb'))) h3, h4⟩
theorem Ls.mono {w : World} {k : Nat} {l : List Dt} {a : Option Addr} {F F' : List Nat} (h : Ls w k l a F) (hF : ∀ b ∈ F, b ∈ F') : Ls w k l a F' := by
 rcases h with h | ⟨p, off, ha, hp, h⟩
 ·exact .inl h
 ·refine .inr ⟨p, off, ha, hF p hp, fun i e he => ?_⟩
  obtain ⟨ds, G, h1, h2, h3, h4⟩ := h i e he
  exact ⟨ds, G, h1, h2, h3, fun b hb => hF b (h4 b hb)⟩
theorem lst_ls {w : World} {k n : Nat} {l : List Dt} {a : Option Addr} {F : List Nat} (h : (a = none ∧ Dt.of l = .nil ∧ n = 0 ∧ F = []) ∨ ∃ p G, a = some ⟨p, 0, none⟩ ∧ F = p :: G ∧ OwIn w (Dt.of l) k p 0 n G) : n = l.length ∧ Ls w k l a F := by
 rcases h with ⟨h1, h2, h3, h4⟩ | ⟨p, G, h1, rfl, h3⟩
 ·have : l = [] := by
   cases l with
   | nil => rfl
   | cons e r => simp [Dt.of] at h2
  exact ⟨by rw [this, h3]; rfl, .inl this⟩
 ·obtain ⟨h4, h5⟩ := dt.OwIn.get l k p 0 n G h3
  refine ⟨h4.symm, .inr ⟨p, 0, h1, List.mem_cons_self .., fun i e he => ?_⟩⟩
  obtain ⟨cs, Gi, h6, h7, h8, h9⟩ := h5 i e he
  exact ⟨cs, Gi, h6, h7, h8, fun b hb => List.mem_cons_of_mem _ (h9 b hb)⟩
theorem dir_cells {w : World} {nm : ByteArray} {l : List Dt} {x y : Int} {cs : List Value} {F : List Nat} (h : Ow w (dirD nm l x y) cs F) :
  ∃ a c, cs = [.string nm, .slice a l.length c, .int .i64 x, .int .i64 y] ∧ l.length ≤ c ∧ c ≤ maxLen ∧ Ls w 10 l a F := by
 unfold dirD Ow at h
 obtain ⟨d0, rfl, _, h⟩ := h
 unfold Ow at h
 obtain ⟨a, n, c, d1, F1, F2, rfl, i1, i2, i3, i4, h, rfl⟩ := h
 obtain ⟨rfl, hl⟩ := lst_ls i4
 unfold Ow at h
 obtain ⟨d2, rfl, a6, h⟩ := h
 unfold Ow at h
 obtain ⟨d3, rfl, a7, h⟩ := h
 unfold Ow at h
 obtain ⟨rfl, rfl⟩ := h
 exact ⟨a, c, rfl, i1, i2, hl.mono (fun b hb => List.mem_append_left _ hb)⟩
def SmLs (fn : Nat) (pl : Bool) (k : Nat) (l l' : List Dt) : Prop := ∀ (w : World) (a a' : Option Addr) (c c' : Nat) (F G : List Nat), Ls w k l a F → Ls w k l' a' G → (∀ b ∈ F, b < w.heap.size) → (∀ b ∈ G, b < w.heap.size) → l.length ≤ c → l'.length ≤ c' → c ≤ maxLen → c' ≤ maxLen →
 Calls Tryz.prog fn #[.slice a l.length c, .slice a' l'.length c', .bool pl] w fun e w' => e = .returned (.bool true) ∧ Below w.heap.size w w'
open dt (Dt Kp RowAt Ow Grow)
def EqT (pl : Bool) (t t' : Tk) : Prop := t'.k = t.k ∧ t'.tx = t.tx ∧ t'.va = t.va ∧ (pl = true → t.ln = t'.ln ∧ t.co = t'.co)
theorem EqT.refl (pl : Bool) (t : Tk) : EqT pl t t := ⟨rfl, rfl, rfl, fun _ => ⟨rfl, rfl⟩⟩
structure Sf (pl : Bool) (m s e : Nat) (c c' : Cu) : Prop where
 ix : c'.ix = c.ix + s
 op : c'.op = c.op + e
 mo : c'.mo = c.mo + e
 kd : c'.kd = c.kd
 tk : ∀ i, i ≤ m → EqT pl (c.ts.getD i Tk.zero) (c'.ts.getD (i + s) Tk.zero)
def Ps {A : Type} (e : Nat) (c : Cu) (E : Cu → A × Cu) : Prop := e = 0 ∨ (Inv c ∧ c.kd = 0 ∧ (E c).2.kd = 0)
section
variable {pl : Bool} {m s e : Nat}
theorem Sf.tok {c c' : Cu} (h : Sf pl m s e c c') (hi : c.ix ≤ m) : EqT pl c.tok c'.tok := by
 have := h.tk c.ix hi
 rw [← h.ix] at this
 exact this
theorem Sf.isP {c c' : Cu} (h : Sf pl m s e c c') (hi : c.ix ≤ m) (p : ByteArray) : c'.isP p = c.isP p := by
 have t := h.tok hi
 unfold Cu.isP
 rw [h.kd, t.1, t.2.1]
theorem Sf.isN {c c' : Cu} (h : Sf pl m s e c c') (hi : c.ix ≤ m) : c'.isN = c.isN := by
 have t := h.tok hi
 unfold Cu.isN
 rw [h.kd, t.1]
theorem Sf.isW {c c' : Cu} (h : Sf pl m s e c c') (hi : c.ix ≤ m) (ws : List ByteArray) : c'.isW ws = c.isW ws := by
 have t := h.tok hi
 unfold Cu.isW
 rw [h.isN hi, t.2.1]
theorem Sf.finB {c c' : Cu} (h : Sf pl m s e c c') (hi : c.ix ≤ m) : c'.finB = c.finB := by
 have t := h.tok hi
 unfold Cu.finB
 rw [h.kd, t.1]
theorem Sf.take {c c' : Cu} (h : Sf pl m s e c c') : Sf pl m s e c.take c'.take := ⟨by show c'.ix + 1 = c.ix + 1 + s; rw [h.ix]; omega, h.op, h.mo, h.kd, h.tk⟩
theorem Sf.stop {c c' : Cu} (h : Sf pl m s e c c') (k : Int) : Sf pl m s e (c.stop k) (c'.stop k) := by
 unfold Cu.stop
 rw [h.kd]
 split
 ·exact ⟨h.ix, h.op, h.mo, rfl, h.tk⟩
 ·exact h
theorem Sf.nmC {c c' : Cu} (h : Sf pl m s e c c') (so : Bool) : Sf pl m s e (c.nmC so) (c'.nmC so) := by
 cases so
 ·exact h.stop 70
 ·exact h.take
theorem Sf.name {c c' : Cu} (h : Sf pl m s e c c') (hi : c.ix ≤ m) : Sf pl m s e c.name c'.name := by
 unfold Cu.name
 rw [h.isN hi]
 split
 ·exact h.take
 ·exact h.stop 70
theorem Sf.want {c c' : Cu} (h : Sf pl m s e c c') (hi : c.ix ≤ m) (p : ByteArray) : Sf pl m s e (c.want p) (c'.want p) := by
 unfold Cu.want
 rw [h.isP hi]
 split
 ·exact h.take
 ·exact h.stop 70
theorem Sf.punct {c c' : Cu} (h : Sf pl m s e c c') (hi : c.ix ≤ m) (p : ByteArray) : Sf pl m s e (c.punct p) (c'.punct p) := by
 unfold Cu.punct
 rw [h.isP hi]
 split
 ·exact h.take
 ·exact h
theorem Sf.word {c c' : Cu} (h : Sf pl m s e c c') (hi : c.ix ≤ m) (q : ByteArray) : Sf pl m s e (c.word q) (c'.word q) := by
 unfold Cu.word
 rw [h.isW hi]
 split
 ·exact h.take
 ·exact h
theorem Sf.fin {c c' : Cu} (h : Sf pl m s e c c') (hi : c.ix ≤ m) : Sf pl m s e c.fin c'.fin := by
 unfold Cu.fin
 rw [h.finB hi]
 split
 ·exact h
 ·exact h.stop 70
theorem Sf.opB {c c' : Cu} (h : Sf pl m s e c c') (hi : c.ix ≤ m) (p : ByteArray) : c'.opB p = c.opB p := by
 unfold Cu.opB
 rw [h.isP hi, h.op, h.mo]
 congr 1
 exact decide_eq_decide.2 (by omega)
theorem Sf.opn {c c' : Cu} (h : Sf pl m s e c c') (hi : c.ix ≤ m) (p : ByteArray) : Sf pl m s e (c.opn p) (c'.opn p) := by
 unfold Cu.opn
 rw [h.isP hi]
 split
 ·have hx := h.op
  have hy := h.mo
  by_cases g : c.op < c.mo
  ·rw [if_pos g, if_pos (by omega)]
   exact ⟨by show c'.ix + 1 = c.ix + 1 + s; rw [h.ix]; omega, by show c'.op + 1 = c.op + 1 + e; omega, hy, h.kd, h.tk⟩
  ·rw [if_neg g, if_neg (by omega)]
   exact h.stop 71
 ·exact h.stop 70
theorem Sf.cls {c c' : Cu} (h : Sf pl m s e c c') (hi : c.ix ≤ m) (p : ByteArray) (he : e = 0 ∨ 1 ≤ c.op) : Sf pl m s e (c.cls p) (c'.cls p) := by
 unfold Cu.cls
 rw [h.isP hi]
 split
 ·have hx := h.op
  exact ⟨by show c'.ix + 1 = c.ix + 1 + s; rw [h.ix]; omega, by show c'.op - 1 = c.op - 1 + e; omega, h.mo, h.kd, h.tk⟩
 ·exact h.stop 70
end
structure Ok4 {A X : Type} (pl : Bool) (m s e : Nat) (P : Prop) (V : A → X → Prop) (E : Cu → A × Cu) (E' : Cu → X × Cu) (b b' : Nat) : Prop where
 o : Ok3 0 E b
 st' : St E'
 near : P → ∀ c c', c.Ok → c'.Ok → Sf pl m s e c c' → c.ts.length ≤ b + c.ix → c'.ts.length ≤ b' + c'.ix → Ps e c E → (E c).2.ix ≤ m → V (E c).1 (E' c').1 ∧ Sf pl m s e (E c).2 (E' c').2
structure Ok5 {A X : Type} (pl : Bool) (m s e : Nat) (P : Prop) (V : Option A → Option X → Prop) (E : Cu → Option A × Cu) (E' : Cu → Option X × Cu) (b b' : Nat) : Prop where
 o : Ok3 0 E b
 st' : St E'
 go : ∀ c, c.Ok → (E c).1.isSome = true → c.ix < (E c).2.ix
 near : P → ∀ c c', c.Ok → c'.Ok → Sf pl m s e c c' → c.ts.length ≤ b + c.ix → c'.ts.length ≤ b' + c'.ix → Ps e c E → (E c).1.isSome = true → (E c).2.ix ≤ m + 1 → V (E c).1 (E' c').1 ∧ Sf pl m s e (E c).2 (E' c').2
section
variable {pl : Bool} {m s e : Nat} {P : Prop} {b b' : Nat}
theorem Ps.one {A X : Type} {E : Cu → A × Cu} {F : A → Cu → X × Cu} {c : Cu} (sF : ∀ a, Sti (F a)) (h : Ps e c (bnd E F)) : Ps e c E := by
 rcases h with h | ⟨h1, h2, h3⟩
 ·exact .inl h
 ·refine .inr ⟨h1, h2, Classical.byContradiction fun x => ?_⟩
  have h4 : (F (E c).1 (E c).2).2.kd = 0 := h3
  rw [sF _ _ x] at h4
  exact x h4
theorem Ps.two {A X : Type} {E : Cu → A × Cu} {F : A → Cu → X × Cu} {c : Cu} (o : Ok3 0 E b) (sF : ∀ a, Sti (F a)) (hc : c.Ok) (hb : c.ts.length ≤ b + c.ix) (h : Ps e c (bnd E F)) : Ps e (E c).2 (F (E c).1) := by
 have h5 := h.one sF
 rcases h with h | ⟨h1, h2, h3⟩
 ·exact .inl h
 ·rcases h5 with h5 | ⟨_, _, h6⟩
  ·exact .inl h5
  ·exact .inr ⟨(o.bal c hc hb h1 h2 h6).2, h6, h3⟩
theorem Ok4.bnd {A X Y Z : Type} {V : A → X → Prop} {V' : Y → Z → Prop} {E : Cu → A × Cu} {E' : Cu → X × Cu} {F : A → Cu → Y × Cu} {F' : X → Cu → Z × Cu} [Nonempty A] [Nonempty X] (h : Ok4 pl m s e P V E E' b b') (k : ∀ a a', Ok4 pl m s e (P ∧ V a a') V' (F a) (F' a') b b') : Ok4 pl m s e P V' (bnd E F) (bnd E' F') b b' := by
 have oF : ∀ a, Ok3 0 (F a) b := fun a => (k a (Classical.choice inferInstance)).o
 have sF' : ∀ a', St (F' a') := fun a' => (k (Classical.choice inferInstance) a').st'
 refine ⟨h.o.bnd oF, h.st'.bnd sF', fun hp c c' hc hc' hs hb hb' hP hm => ?_⟩
 have s1 := h.o.st c hc
 have s2 := h.st' c' hc'
 have t1 := (oF (E c).1).st _ s1.ok
 obtain ⟨e1, e2⟩ := h.near hp c c' hc hc' hs hb hb' (hP.one fun a => (oF a).sti) (Nat.le_trans t1.ix hm)
 exact (k (E c).1 (E' c').1).near ⟨hp, e1⟩ (E c).2 (E' c').2 s1.ok s2.ok e2 (by rw [s1.ts]; have := s1.ix; omega) (by rw [s2.ts]; have := s2.ix; omega) (hP.two h.o (fun a => (oF a).sti) hc hb) hm
theorem Ok4.mono {A X : Type} {V : A → X → Prop} {E : Cu → A × Cu} {E' : Cu → X × Cu} {d d' : Nat} (h : Ok4 pl m s e P V E E' b b') (hd : d ≤ b) (hd' : d' ≤ b') : Ok4 pl m s e P V E E' d d' := ⟨h.o.mono hd, h.st', fun hp c c' hc hc' hs hb hb' => h.near hp c c' hc hc' hs (by omega) (by omega)⟩
theorem Ok4.wk {A X : Type} {V : A → X → Prop} {E : Cu → A × Cu} {E' : Cu → X × Cu} (h : Ok4 pl m s e True V E E' b b') : Ok4 pl m s e P V E E' b b' := ⟨h.o, h.st', fun _ => h.near trivial⟩
theorem cond_4 {A X : Type} {V : A → X → Prop} {q q' : Bool} {E F : Cu → A × Cu} {E' F' : Cu → X × Cu} (hq : P → q = q') (h : Ok4 pl m s e P V E E' b b') (k : Ok4 pl m s e P V F F' b b') : Ok4 pl m s e P V (cond q E F) (cond q' E' F') b b' := by
 refine ⟨cond_3 h.o k.o, by cases q'; exact k.st'; exact h.st', fun hp => ?_⟩
 obtain rfl := hq hp
 cases q
 ·exact k.near hp
 ·exact h.near hp
theorem ret_4 {A X : Type} {V : A → X → Prop} {a : A} {x : X} (h : P → V a x) : Ok4 pl m s e P V (ret a) (ret x) b b' := ⟨ret_3 _, ret_st _, fun hp c c' hc hc' hs hb hb' hP hm => ⟨h hp, hs⟩⟩
theorem tokR_4 : Ok4 pl m s e P (EqT pl) tokR tokR b b' := ⟨tokR_3, tokR_st, fun hp c c' hc hc' hs hb hb' hP hm => ⟨hs.tok hm, hs⟩⟩
theorem isPR_4 (p : ByteArray) : Ok4 pl m s e P Eq (isPR p) (isPR p) b b' := ⟨isPR_3 p, isPR_st p, fun hp c c' hc hc' hs hb hb' hP hm => ⟨(hs.isP hm p).symm, hs⟩⟩
theorem aliveR_4 : Ok4 pl m s e P Eq aliveR aliveR b b' := ⟨aliveR_3, aliveR_st, fun hp c c' hc hc' hs hb hb' hP hm => ⟨by show decide (c.kd = 0) = decide (c'.kd = 0); rw [hs.kd], hs⟩⟩
theorem nR_4 : Ok4 pl m s e P Eq nR nR b b' := ⟨nR_3, nR_st, fun hp c c' hc hc' hs hb hb' hP hm => by
 have hi : c.ix ≤ m := Nat.le_trans (name_stp hc).ix hm
 exact ⟨by show (c.isN, c.tok.tx) = (c'.isN, c'.tok.tx); rw [hs.isN hi, (hs.tok hi).2.1], hs.name hi⟩⟩
theorem wantR_4 (p : ByteArray) (hp : dlt (pk p) = 0) : Ok4 pl m s e P Eq (wantR p) (wantR p) b b' := ⟨wantR_3 p hp, wantR_st p, fun hp c c' hc hc' hs hb hb' hP hm => by
 have hi : c.ix ≤ m := Nat.le_trans (want_stp hc p).ix hm
 exact ⟨rfl, hs.want hi p⟩⟩
theorem punctR_4 (p : ByteArray) (hp : dlt (pk p) = 0) : Ok4 pl m s e P Eq (punctR p) (punctR p) b b' := ⟨punctR_3 p hp, punctR_st p, fun hp c c' hc hc' hs hb hb' hP hm => by
 have hi : c.ix ≤ m := Nat.le_trans (punct_stp hc p).ix hm
 exact ⟨(hs.isP hi p).symm, hs.punct hi p⟩⟩
theorem wordR_4 (q : ByteArray) : Ok4 pl m s e P Eq (wordR q) (wordR q) b b' := ⟨wordR_3 q, wordR_st q, fun hp c c' hc hc' hs hb hb' hP hm => by
 have hi : c.ix ≤ m := Nat.le_trans (wordR_st q c hc).ix hm
 exact ⟨(hs.isW hi [q]).symm, hs.word hi q⟩⟩
theorem wwR_4 (ws : List ByteArray) : Ok4 pl m s e P Eq (wwR ws) (wwR ws) b b' := ⟨wwR_3 ws, wwR_st ws, fun hp c c' hc hc' hs hb hb' hP hm => by
 have hi : c.ix ≤ m := Nat.le_trans (wwR_st ws c hc).ix hm
 refine ⟨(hs.isW hi ws).symm, ?_⟩
 show Sf pl m s e (c.nmC _) (c'.nmC _)
 rw [hs.isW hi ws]
 exact hs.nmC _⟩
theorem stopR_4 {A X : Type} {V : A → X → Prop} {a : A} {x : X} (h : P → V a x) : Ok4 pl m s e P V (stopR a) (stopR x) b b' := ⟨stopR_3 a, stopR_st x, fun hp c c' hc hc' hs hb hb' hP hm => ⟨h hp, hs.stop 70⟩⟩
theorem takeK_4 (k : Int) (h0 : k ≠ 0) (h1 : k ≠ 1) (h2 : k ≠ 2) : Ok4 pl m s e P Eq (takeK k) (takeK k) b b' := ⟨takeK_3 k h0 h1 h2, takeK_st k h0 h1, fun hp c c' hc hc' hs hb hb' hP hm => by
 have hi : c.ix ≤ m := Nat.le_trans (takeK_st k h0 h1 c hc).ix hm
 refine ⟨rfl, ?_⟩
 show Sf pl m s e (if c.kd = 0 ∧ c.tok.k = k then c.take else c) (if c'.kd = 0 ∧ c'.tok.k = k then c'.take else c')
 rw [hs.kd, (hs.tok hi).1]
 split
 ·exact hs.take
 ·exact hs⟩
end
def OD (R : Dt → Dt → Prop) : Option Dt → Option Dt → Prop
 | none, none => True
 | some x, some y => R x y
 | _, _ => False
def OL (R : Dt → Dt → Prop) : Option (List Dt) → Option (List Dt) → Prop
 | none, none => True
 | some x, some y => EqLs R x y
 | _, _ => False
theorem OD.map {R R' : Dt → Dt → Prop} {a b : Option Dt} {f f' : Dt → Dt} (h : OD R a b) (k : ∀ x y, R x y → R' (f x) (f' y)) : OD R' (a.map f) (b.map f') := by
 cases a <;> cases b
 ·trivial
 ·exact h.elim
 ·exact h.elim
 ·exact k _ _ h
theorem OL.map {R R' : Dt → Dt → Prop} {a b : Option (List Dt)} {f f' : List Dt → Dt} (h : OL R a b) (k : ∀ x y, EqLs R x y → R' (f x) (f' y)) : OD R' (a.map f) (b.map f') := by
 cases a <;> cases b
 ·trivial
 ·exact h.elim
 ·exact h.elim
 ·exact k _ _ h
theorem EqLs.nil {R : Dt → Dt → Prop} : EqLs R [] [] := ⟨rfl, fun i x y hx => by simp at hx⟩
theorem EqLs.snoc {R : Dt → Dt → Prop} {l l' : List Dt} {d d' : Dt} (h : EqLs R l l') (hd : R d d') : EqLs R (l ++ [d]) (l' ++ [d']) := by
 refine ⟨by simp [h.1], fun i x y hx hy => ?_⟩
 rcases Nat.lt_or_ge i l.length with g | g
 ·rw [List.getElem?_append_left g] at hx
  rw [List.getElem?_append_left (by rw [← h.1]; exact g)] at hy
  exact h.2 i x y hx hy
 ·rw [List.getElem?_append_right g] at hx
  rw [List.getElem?_append_right (by rw [← h.1]; exact g), ← h.1] at hy
  rcases Nat.eq_zero_or_pos (i - l.length) with k | k
  ·rw [k] at hx hy
   simp at hx hy
   subst hx; subst hy; exact hd
  ·rw [List.getElem?_eq_none (by simp; omega)] at hx
   cases hx
theorem OL.getD {R : Dt → Dt → Prop} {a b : Option (List Dt)} (h : OL R a b) : EqLs R (a.getD []) (b.getD []) := by
 cases a <;> cases b
 ·exact EqLs.nil
 ·exact h.elim
 ·exact h.elim
 ·exact h
theorem OD.some {R : Dt → Dt → Prop} {d : Dt} {b : Option Dt} (h : OD R (some d) b) : ∃ d', b = some d' ∧ R d d' := by
 cases b with
 | none => exact h.elim
 | some d' => exact ⟨d', rfl, h⟩
theorem OD.none {R : Dt → Dt → Prop} {b : Option Dt} (h : OD R none b) : b = none := by
 cases b with
 | none => rfl
 | some d' => exact h.elim
theorem brkF_go (E : LitR) (r : ByteArray) (n : Nat) (hG : Goes E) : ∀ (g : Nat) (l : List Dt) (c : Cu), c.Ok → (brkF E r n g l c).1.isSome = true → c.ix < (brkF E r n g l c).2.ix
 | 0, l, c, h, hs => by cases hs
 | g + 1, l, c, h, hs => by
  simp only [brkF] at hs ⊢
  by_cases hq : l.length < n ∨ c.isP r = false
  ·rw [if_pos hq] at hs ⊢
   cases he : (E c).1 with
   | none => rw [he] at hs; cases hs
   | some d =>
    rw [he] at hs
    exact Nat.lt_of_le_of_lt (hG c h).1.ix (brkF_go E r n hG g _ _ (hG c h).1.ok hs)
  ·rw [if_neg hq]
   have hp : c.isP r = true := by
    cases hp : c.isP r with
    | true => rfl
    | false => exact absurd (.inr hp) hq
   dsimp only
   rw [cls_yes hp]
   exact Nat.lt_succ_self _
section
variable {pl : Bool} {m s e : Nat} {P : Prop} {b b' : Nat}
theorem Ok4.tb {Y Z : Type} {V' : Y → Z → Prop} {F : Tk → Cu → Y × Cu} {F' : Tk → Cu → Z × Cu} (k : ∀ a a', Ok4 pl m s e (P ∧ EqT pl a a') V' (F a) (F' a') b b') : Ok4 pl m s e P V' (cu.bnd tokR F) (cu.bnd tokR F') b b' := by
 haveI : Nonempty Tk := ⟨Tk.zero⟩
 exact tokR_4.bnd k
theorem brkF_4 {R : Dt → Dt → Prop} {E E' : LitR} (hG : Goes E) (hG' : Goes E') (hF : Faults E b) (h : Ok4 pl m s e True (OD R) E E' b b') {r : ByteArray} (hr : dlt (pk r) = -1) (n : Nat) : ∀ (g g' : Nat) (l l' : List Dt) (c c' : Cu), c.Ok → c'.Ok → Sf pl m s e c c' → c.ts.length ≤ b + c.ix → c'.ts.length ≤ b' + c'.ix → c.ts.length ≤ g + c.ix → c'.ts.length ≤ g' + c'.ix → EqLs R l l' → (e = 0 ∨ (Inv c ∧ c.kd = 0 ∧ 1 ≤ c.op ∧ (brkF E r n g l c).2.kd = 0)) → ((brkF E r n g l c).2.ix ≤ m ∨ ((brkF E r n g l c).1.isSome = true ∧ (brkF E r n g l c).2.ix ≤ m + 1)) → OL R (brkF E r n g l c).1 (brkF E' r n g' l' c').1 ∧ Sf pl m s e (brkF E r n g l c).2 (brkF E' r n g' l' c').2
 | 0, g', l, l', c, c', hc, hc', hs, hb, hb', hg, hg', hl, hP, hm => by have := hc.lt; omega
 | g + 1, 0, l, l', c, c', hc, hc', hs, hb, hb', hg, hg', hl, hP, hm => by have := hc'.lt; omega
 | g + 1, g' + 1, l, l', c, c', hc, hc', hs, hb, hb', hg, hg', hl, hP, hm => by
  have hi : c.ix ≤ m := by
   rcases hm with hm | ⟨h1, h2⟩
   ·exact Nat.le_trans (brkF_stp hG r n (g + 1) l c hc).ix hm
   ·have := brkF_go E r n hG (g + 1) l c hc h1
    omega
  simp only [brkF] at hP hm ⊢
  rw [hs.isP hi, ← hl.1]
  by_cases hq : l.length < n ∨ c.isP r = false
  ·rw [if_pos hq] at hP hm
   rw [if_pos hq, if_pos hq]
   have hgo := hG c hc
   have hgo' := hG' c' hc'
   cases he : (E c).1 with
   | none =>
    rw [he] at hP hm
    have hm1 : (E c).2.ix ≤ m := by
     rcases hm with hm | ⟨h1, h2⟩
     ·exact hm
     ·cases h1
    have hp1 : Ps e c E := by
     rcases hP with hP | ⟨h1, h2, h3, h4⟩
     ·exact .inl hP
     ·exact .inr ⟨h1, h2, h4⟩
    obtain ⟨e1, e2⟩ := h.near trivial c c' hc hc' hs hb hb' hp1 hm1
    rw [he] at e1
    rw [e1.none]
    exact ⟨trivial, e2⟩
   | some d =>
    rw [he] at hP hm
    dsimp only at hP hm
    have hm1 : (E c).2.ix ≤ m := by
     rcases hm with hm | ⟨h1, h2⟩
     ·exact Nat.le_trans (brkF_stp hG r n g _ _ hgo.1.ok).ix hm
     ·have := brkF_go E r n hG g _ _ hgo.1.ok h1
      omega
    have hk0 : e = 0 ∨ (E c).2.kd = 0 := by
     rcases hP with hP | ⟨h1, h2, h3, h4⟩
     ·exact .inl hP
     ·refine .inr (Classical.byContradiction fun x => ?_)
      rw [brkF_sti h.o.sti r n x] at h4
      exact x h4
    have hp1 : Ps e c E := by
     rcases hP with hP | ⟨h1, h2, h3, h4⟩
     ·exact .inl hP
     ·rcases hk0 with hk0 | hk0
      ·exact .inl hk0
      ·exact .inr ⟨h1, h2, hk0⟩
    obtain ⟨e1, e2⟩ := h.near trivial c c' hc hc' hs hb hb' hp1 hm1
    rw [he] at e1
    obtain ⟨d', he', hR⟩ := e1.some
    rw [he']
    have i1 := hgo.2 (by rw [he]; rfl)
    have i2 := hgo'.2 (by rw [he']; rfl)
    refine brkF_4 hG hG' hF h hr n g g' (l ++ [d]) (l' ++ [d']) _ _ hgo.1.ok hgo'.1.ok e2 (by rw [hgo.1.ts]; omega) (by rw [hgo'.1.ts]; omega) (by rw [hgo.1.ts]; omega) (by rw [hgo'.1.ts]; omega) (hl.snoc hR) ?_ hm
    rcases hP with hP | ⟨h1, h2, h3, h4⟩
    ·exact .inl hP
    ·rcases hk0 with hk0 | hk0
     ·exact .inl hk0
     ·obtain ⟨o1, i3⟩ := h.o.bal c hc hb h1 h2 hk0
      exact .inr ⟨i3, hk0, by omega, h4⟩
  ·rw [if_neg hq] at hP
   rw [if_neg hq, if_neg hq]
   refine ⟨hl, hs.cls hi r ?_⟩
   rcases hP with hP | ⟨h1, h2, h3, h4⟩
   ·exact .inl hP
   ·exact .inr h3
theorem brk_45 {R : Dt → Dt → Prop} {E E' : LitR} (hG : Goes E) (hG' : Goes E') (hF : Faults E b) (h : Ok4 pl m s e True (OD R) E E' b b') {l r : ByteArray} (hl : dlt (pk l) = 1) (hr : dlt (pk r) = -1) (n : Nat) (c c' : Cu) (hc : c.Ok) (hc' : c'.Ok) (hs : Sf pl m s e c c') (hb : c.ts.length ≤ b + 1 + c.ix) (hb' : c'.ts.length ≤ b' + 1 + c'.ix) (hP : Ps e c (brk E l r n)) (hm : (brk E l r n c).2.ix ≤ m ∨ ((brk E l r n c).1.isSome = true ∧ (brk E l r n c).2.ix ≤ m + 1)) : OL R (brk E l r n c).1 (brk E' l r n c').1 ∧ Sf pl m s e (brk E l r n c).2 (brk E' l r n c').2 := by
 have hgo := brk_goes hG l r n c hc
 have hi : c.ix ≤ m := by
  rcases hm with hm | ⟨h1, h2⟩
  ·exact Nat.le_trans hgo.1.ix hm
  ·have := hgo.2 h1
   omega
 have ho := opn_stp hc l
 have ho' := opn_stp hc' l
 have eB := hs.opB hi l
 have eS := hs.opn hi l
 unfold Ps at hP
 unfold brk at hP hm ⊢
 rw [eB]
 by_cases hB : c.opB l = true
 ·rw [if_pos hB] at hP hm
  rw [if_pos hB, if_pos hB]
  have x1 := opn_ix hB
  have x2 := opn_ix (show c'.opB l = true by rw [eB]; exact hB)
  refine brkF_4 hG hG' hF h hr n _ _ [] [] _ _ ho.ok ho'.ok eS (by rw [ho.ts, x1]; omega) (by rw [ho'.ts, x2]; omega) (by rw [ho.ts]; omega) (by rw [ho'.ts]; omega) EqLs.nil ?_ hm
  rcases hP with hP | ⟨h1, h2, h3⟩
  ·exact .inl hP
  ·obtain ⟨q1, q2, q3⟩ := opn_yes hB
   exact .inr ⟨opn_inv hl hB h1, by rw [q3]; exact h2, by rw [q3]; exact Nat.succ_le_succ (Nat.zero_le _), h3⟩
 ·rw [if_neg hB, if_neg hB]
  exact ⟨trivial, eS⟩
theorem brk_4 {R : Dt → Dt → Prop} {E E' : LitR} (hG : Goes E) (hG' : Goes E') (hF : Faults E b) (h : Ok4 pl m s e True (OD R) E E' b b') {l r : ByteArray} (hl : dlt (pk l) = 1) (hr : dlt (pk r) = -1) (n : Nat) : Ok4 pl m s e P (OL R) (brk E l r n) (brk E' l r n) (b + 1) (b' + 1) :=
 ⟨brk_3 hG hF h.o hl hr n, (brk_goes hG' l r n).st, fun hp c c' hc hc' hs hb hb' hP hm => brk_45 hG hG' hF h hl hr n c c' hc hc' hs hb hb' hP (.inl hm)⟩
theorem leaf_eq (f : Nat) {k : Int} {tx : ByteArray} {bl : Bool} {a c a' c' : Int} (h : pl = true → a = a' ∧ c = c') : EqL pl (f + 1) (litD k tx bl .nil .nil a c) (litD k tx bl .nil .nil a' c') :=
 ⟨k, tx, bl, [], [], [], [], a, c, a', c', rfl, rfl, h, rfl, rfl, fun i x y hx => by simp at hx, fun i x y hx => by simp at hx⟩
theorem word_eq (f : Nat) {t t' : Tk} (h : EqT pl t t') : EqL pl (f + 1) (wordD t) (wordD t') := by
 unfold wordD
 rw [h.2.1]
 split
 ·exact leaf_eq f h.2.2.2
 ·split
  ·exact leaf_eq f h.2.2.2
  ·exact leaf_eq f h.2.2.2
theorem argS_4 {f : Nat} {L L' : LitR} (h : Ok4 pl m s e True (OD (EqL pl f)) L L' b b') : Ok4 pl m s e P (OD (EqA pl f)) (argS L) (argS L') b b' := by
 rw [argS_eq3, argS_eq3]
 exact Ok4.tb fun t t' => nR_4.bnd fun _ _ => (wantR_4 _ dl_col).bnd fun _ _ => h.wk.bnd fun r r' => ret_4 fun hp => hp.2.map fun x y hxy => by
  have ht := hp.1.1.1.2
  rw [ht.2.1]
  exact ⟨t.tx, x, y, _, _, _, _, rfl, rfl, ht.2.2.2, hxy⟩
theorem litS_4 {f : Nat} {L L' : LitR} (hG : Goes L) (hG' : Goes L') (hF : Faults L b) (h : Ok4 pl m s e True (OD (EqL pl f)) L L' b b') (ct : Bool) : Ok4 pl m s e P (OD (EqL pl (f + 1))) (litS L ct) (litS L' ct) (b + 1) (b' + 1) := by
 rw [litS_eq, litS_eq]
 refine aliveR_4.bnd fun al al' => cond_4 (fun hp => hp.2) (Ok4.tb fun t t' => ?_) (ret_4 fun _ => trivial)
 have hK : ∀ {P' : Prop} (k : Int) {v v' : Dt}, k ≠ 0 → k ≠ 1 → k ≠ 2 → (P' → EqL pl (f + 1) v v') → Ok4 pl m s e P' (OD (EqL pl (f + 1))) (bnd (takeK k) fun _ => ret (some v)) (bnd (takeK k) fun _ => ret (some v')) (b + 1) (b' + 1) := fun {P'} k {v v'} h0 h1 h2 hv => (takeK_4 k h0 h1 h2).bnd fun _ _ => ret_4 fun hp => hv hp.1
 have hk : ∀ {Q : Prop} (k : Int), ((Q ∧ EqT pl t t') → decide (t.k = k) = decide (t'.k = k)) := fun k hp => by rw [hp.2.1]
 unfold litT
 refine cond_4 (hk 4) (hK 4 (by decide) (by decide) (by decide) fun hp => ?_) (cond_4 (hk 5) (hK 5 (by decide) (by decide) (by decide) fun hp => ?_) (cond_4 (hk 6) (hK 6 (by decide) (by decide) (by decide) fun hp => ?_) (cond_4 (hk 7) (hK 7 (by decide) (by decide) (by decide) fun hp => ?_) (cond_4 (hk 3) (hK 3 (by decide) (by decide) (by decide) fun hp => word_eq f hp.2)
  ((isPR_4 _).bnd fun q q' => cond_4 (fun hp => by rw [hp.2]) ((punctR_4 _ dl_dol).bnd fun _ _ => nR_4.bnd fun n n' => ret_4 fun hp => ?_)
  ((isPR_4 _).bnd fun q q' => cond_4 (fun hp => hp.2) ((brk_4 hG hG' hF h dl_lb dl_rb 0).bnd fun r r' => ret_4 fun hp => hp.2.map fun x y hxy => ?_)
  ((isPR_4 _).bnd fun q q' => cond_4 (fun hp => hp.2) ((brk_4 (argS_goes hG) (argS_goes hG') (argS_faults b hF) (argS_4 h) dl_lc dl_rc 0).bnd fun r r' => ret_4 fun hp => hp.2.map fun x y hxy => ?_)
  (stopR_4 fun _ => trivial))))))))
 ·rw [hp.2.2.1]; exact leaf_eq f hp.2.2.2.2
 ·rw [hp.2.2.1]; exact leaf_eq f hp.2.2.2.2
 ·rw [hp.2.2.2.1]; exact leaf_eq f hp.2.2.2.2
 ·rw [hp.2.2.2.1]; exact leaf_eq f hp.2.2.2.2
 ·obtain ⟨⟨⟨⟨_, ht⟩, _⟩, _⟩, rfl⟩ := hp
  cases n.1
  ·trivial
  ·exact leaf_eq f ht.2.2.2
 ·have ht := hp.1.1.1.2
  exact ⟨8, em, false, x, y, [], [], _, _, _, _, rfl, rfl, ht.2.2.2, hxy.1, rfl, hxy.2, fun i x y hx => by simp at hx⟩
 ·have ht := hp.1.1.1.1.2
  exact ⟨9, em, false, [], [], x, y, _, _, _, _, rfl, rfl, ht.2.2.2, rfl, hxy.1, (fun i x y hx => by simp at hx), hxy.2⟩
theorem litF_4 (ct : Bool) : ∀ (f f' : Nat), Ok4 pl m s e True (OD (EqL pl f)) (litF ct f) (litF ct f') f f'
 | 0, f' => ⟨litF_3 ct 0, (litF_goes ct f').st, fun hp c c' hc hc' hs hb => by have := hc.lt; omega⟩
 | f + 1, 0 => ⟨litF_3 ct (f + 1), (litF_goes ct 0).st, fun hp c c' hc hc' hs hb hb' => by have := hc'.lt; omega⟩
 | f + 1, f' + 1 => litS_4 (litF_goes ct f) (litF_goes ct f') (litF_faults ct f) (litF_4 ct f f') ct
end
section
variable {pl : Bool} {m s e : Nat} {P : Prop} {b b' : Nat} {f : Nat} {L L' : LitR}
theorem argsS_4 (hG : Goes L) (hG' : Goes L') (hF : Faults L b) (h : Ok4 pl m s e True (OD (EqL pl f)) L L' b b') : Ok4 pl m s e P (OL (EqA pl f)) (argsS L) (argsS L') b b' := by
 rw [argsS_eq, argsS_eq]
 exact (isPR_4 _).bnd fun q q' => cond_4 (fun hp => hp.2) ((brk_4 (argS_goes hG) (argS_goes hG') (argS_faults b hF) (argS_4 h) dl_lp dl_rp 1).mono (Nat.le_succ _) (Nat.le_succ _)) (aliveR_4.bnd fun a a' => ret_4 fun hp => by
  obtain ⟨_, rfl⟩ := hp
  cases a
  ·trivial
  ·exact EqLs.nil)
theorem dirB_4 (hG : Goes L) (hG' : Goes L') (hF : Faults L b) (h : Ok4 pl m s e True (OD (EqL pl f)) L L' b b') : Ok4 pl m s e P (OD (EqR pl f)) (dirB L) (dirB L') b b' :=
 Ok4.tb fun t t' => (punctR_4 _ dl_at).bnd fun _ _ => nR_4.bnd fun n n' => (argsS_4 hG hG' hF h).bnd fun r r' => ret_4 fun hp => hp.2.map fun x y hxy => by
  obtain ⟨⟨⟨⟨_, ht⟩, _⟩, rfl⟩, _⟩ := hp
  exact ⟨n.2, x, y, _, _, _, _, rfl, rfl, ht.2.2.2, hxy⟩
theorem dirsF_4 (hG : Goes L) (hG' : Goes L') (hF : Faults L b) (o : Ok4 pl m s e True (OD (EqR pl f)) (dirB L) (dirB L') b b') : ∀ (g g' : Nat) (l l' : List Dt) (c c' : Cu), c.Ok → c'.Ok → Sf pl m s e c c' → c.ts.length ≤ b + c.ix → c'.ts.length ≤ b' + c'.ix → c.ts.length ≤ g + c.ix → c'.ts.length ≤ g' + c'.ix → EqLs (EqR pl f) l l' → Ps e c (dirsF L g l) → (dirsF L g l c).2.ix ≤ m → OL (EqR pl f) (dirsF L g l c).1 (dirsF L' g' l' c').1 ∧ Sf pl m s e (dirsF L g l c).2 (dirsF L' g' l' c').2
 | 0, g', l, l', c, c', hc, hc', hs, hb, hb', hg, hg', hl, hP, hm => by have := hc.lt; omega
 | g + 1, 0, l, l', c, c', hc, hc', hs, hb, hb', hg, hg', hl, hP, hm => by have := hc'.lt; omega
 | g + 1, g' + 1, l, l', c, c', hc, hc', hs, hb, hb', hg, hg', hl, hP, hm => by
  have hi : c.ix ≤ m := Nat.le_trans (dirsF_stp hG (g + 1) l c hc).ix hm
  unfold Ps at hP
  simp only [dirsF] at hP hm ⊢
  rw [hs.isP hi]
  by_cases hp : c.isP bAt = true
  ·rw [if_pos hp] at hP hm
   rw [if_pos hp, if_pos hp]
   have hp' : c'.isP bAt = true := by rw [hs.isP hi]; exact hp
   have hgo := dirS_stp hG hc hp
   have hgo' := dirS_stp hG' hc' hp'
   have eq1 : dirB L c = dirS L c := (dirS_eq L c hp).symm
   have eq2 : dirB L' c' = dirS L' c' := (dirS_eq L' c' hp').symm
   have hnear := o.near trivial c c' hc hc' hs hb hb'
   have hbal := o.o.bal c hc hb
   unfold Ps at hnear
   rw [eq1, eq2] at hnear
   rw [eq1] at hbal
   cases he : (dirS L c).1 with
   | none =>
    rw [he] at hP hm
    obtain ⟨e1, e2⟩ := hnear hP hm
    rw [he] at e1
    rw [e1.none]
    exact ⟨trivial, e2⟩
   | some d =>
    rw [he] at hP hm
    dsimp only at hP hm
    have hm1 : (dirS L c).2.ix ≤ m := Nat.le_trans (dirsF_stp hG g _ _ hgo.1.ok).ix hm
    have hk0 : e = 0 ∨ (dirS L c).2.kd = 0 := by
     rcases hP with hP | ⟨h1, h2, h4⟩
     ·exact .inl hP
     ·refine .inr (Classical.byContradiction fun x => ?_)
      rw [dirsF_still L x] at h4
      exact x h4
    have hp1 : e = 0 ∨ (Inv c ∧ c.kd = 0 ∧ (dirS L c).2.kd = 0) := by
     rcases hP with hP | ⟨h1, h2, h4⟩
     ·exact .inl hP
     ·rcases hk0 with hk0 | hk0
      ·exact .inl hk0
      ·exact .inr ⟨h1, h2, hk0⟩
    obtain ⟨e1, e2⟩ := hnear hp1 hm1
    rw [he] at e1
    obtain ⟨d', he', hR⟩ := e1.some
    rw [he']
    have i1 := hgo.2
    have i2 := hgo'.2
    refine dirsF_4 hG hG' hF o g g' (l ++ [d]) (l' ++ [d']) _ _ hgo.1.ok hgo'.1.ok e2 (by rw [hgo.1.ts]; omega) (by rw [hgo'.1.ts]; omega) (by rw [hgo.1.ts]; omega) (by rw [hgo'.1.ts]; omega) (hl.snoc hR) ?_ hm
    rcases hP with hP | ⟨h1, h2, h4⟩
    ·exact .inl hP
    ·rcases hk0 with hk0 | hk0
     ·exact .inl hk0
     ·exact .inr ⟨(hbal h1 h2 hk0).2, hk0, h4⟩
  ·rw [if_neg hp, if_neg hp]
   refine ⟨?_, hs⟩
   show OL _ (if c.kd = 0 then some l else none) (if c'.kd = 0 then some l' else none)
   rw [hs.kd]
   split
   ·exact hl
   ·trivial
theorem dirs_4 (hG : Goes L) (hG' : Goes L') (hF : Faults L b) (h : Ok4 pl m s e True (OD (EqL pl f)) L L' b b') : Ok4 pl m s e P (OL (EqR pl f)) (dirs L) (dirs L') b b' :=
 ⟨dirs_3 hG hF h.o, dirs_st hG', fun hp c c' hc hc' hs hb hb' hP hm => dirsF_4 hG hG' hF (dirB_4 hG hG' hF h) _ _ [] [] c c' hc hc' hs hb hb' (by omega) (by omega) EqLs.nil hP hm⟩
theorem unmO_4 {T T' : TypR} (hF : Faults T b) (h : Ok4 pl m s e True Eq T T' b b') : Ok4 pl m s e P Eq (bnd (opnR bLb) fun o => cond o (unmI T) (ret none)) (bnd (opnR bLb) fun o => cond o (unmI T') (ret none)) (b + 1) (b' + 1) := by
 refine ⟨unmO_3 hF h.o, (opnR_st bLb).bnd fun o => ite_st (unmI_st h.st') (ret_st _), fun hp c c' hc hc' hs hb hb' hP hm => ?_⟩
 have eq : ∀ (T : TypR) (c : Cu), (bnd (opnR bLb) fun o => cond o (unmI T) (ret none)) c = cond (c.opB bLb) (unmI T) (ret none) (c.opn bLb) := fun T c => rfl
 have ho := opn_stp hc bLb
 have ho' := opn_stp hc' bLb
 have hst := (unmO_3 (M := 0) hF h.o).st c hc
 have hi : c.ix ≤ m := Nat.le_trans hst.ix hm
 unfold Ps at hP
 rw [eq] at hP hm
 rw [eq, eq, hs.opB hi]
 have eS := hs.opn hi bLb
 by_cases hB : c.opB bLb = true
 ·rw [hB] at hP hm ⊢
  simp only [cond_true] at hP hm ⊢
  rw [unmI_at] at hP hm
  rw [unmI_at, unmI_at]
  have x1 := opn_ix hB
  have x2 := opn_ix (show c'.opB bLb = true by rw [hs.opB hi]; exact hB)
  have hb1 : (c.opn bLb).ts.length ≤ b + (c.opn bLb).ix := by rw [ho.ts, x1]; omega
  have hb2 : (c'.opn bLb).ts.length ≤ b' + (c'.opn bLb).ix := by rw [ho'.ts, x2]; omega
  obtain ⟨q1, q2, q3⟩ := opn_yes hB
  have sT := h.o.st _ ho.ok
  cases hq : (T (c.opn bLb)).1 with
  | none =>
   rw [hq] at hP hm
   have hP1 : Ps e (c.opn bLb) T := by
    rcases hP with hP | ⟨h1, h2, h3⟩
    ·exact .inl hP
    ·exact absurd h3 (hF _ ho.ok hb1 hq)
   obtain ⟨e1, e2⟩ := h.near trivial _ _ ho.ok ho'.ok eS hb1 hb2 hP1 hm
   rw [← e1, hq]
   exact ⟨rfl, e2⟩
  | some it =>
   rw [hq] at hP hm
   dsimp only at hP hm
   have hm1 : (T (c.opn bLb)).2.ix ≤ m := Nat.le_trans (cls_stp sT.ok bRb).ix hm
   have hk0 : e = 0 ∨ (T (c.opn bLb)).2.kd = 0 := by
    rcases hP with hP | ⟨h1, h2, h3⟩
    ·exact .inl hP
    ·refine .inr (Classical.byContradiction fun x => ?_)
     have : (T (c.opn bLb)).2.cls bRb = (T (c.opn bLb)).2 := by unfold Cu.cls; rw [isP_dead x]; exact stop_dead _ _ x
     rw [this] at h3
     exact x h3
   have hP1 : Ps e (c.opn bLb) T := by
    rcases hP with hP | ⟨h1, h2, h3⟩
    ·exact .inl hP
    ·rcases hk0 with hk0 | hk0
     ·exact .inl hk0
     ·exact .inr ⟨opn_inv dl_lb hB h1, by rw [q3]; exact h2, hk0⟩
   obtain ⟨e1, e2⟩ := h.near trivial _ _ ho.ok ho'.ok eS hb1 hb2 hP1 hm1
   rw [← e1, hq]
   dsimp only
   rw [e2.isP hm1]
   refine ⟨rfl, e2.cls hm1 bRb ?_⟩
   rcases hP1 with hP1 | ⟨h1, h2, h3⟩
   ·exact .inl hP1
   ·obtain ⟨o1, i1⟩ := h.o.bal _ ho.ok hb1 h1 h2 h3
    right
    rw [o1, q3]
    exact Nat.succ_le_succ (Nat.zero_le _)
 ·have hB' : c.opB bLb = false := by simpa using hB
  rw [hB']
  exact ⟨rfl, eS⟩
theorem unm_4 {T T' : TypR} (hF : Faults T b) (h : Ok4 pl m s e True Eq T T' b b') : Ok4 pl m s e P Eq (unm T) (unm T') (b + 1) (b' + 1) := by
 rw [unm_eq, unm_eq]
 exact (isPR_4 _).bnd fun q q' => cond_4 (fun hp => hp.2) (unmO_4 hF h) (nR_4.bnd fun n n' => ret_4 fun hp => by rw [hp.2])
theorem typF_4 : ∀ (f f' : Nat), Ok4 pl m s e True Eq (typF f) (typF f') f f'
 | 0, f' => ⟨typF_3 0, typF_st f', fun hp c c' hc hc' hs hb => by have := hc.lt; omega⟩
 | f + 1, 0 => ⟨typF_3 (f + 1), typF_st 0, fun hp c c' hc hc' hs hb hb' => by have := hc'.lt; omega⟩
 | f + 1, f' + 1 => by
  show Ok4 pl m s e True Eq (typ (unm (typF f))) (typ (unm (typF f'))) (f + 1) (f' + 1)
  rw [typ_eq, typ_eq]
  refine (unm_4 (typF_faults f) (typF_4 f f')).bnd fun r r' => ?_
  have h1 : ∀ (P' : Prop) (r : ByteArray × ByteArray), Ok4 pl m s e P' Eq (bnd (punctR bBang) fun q => ret (some (cond q (r.1, r.2 ++ bBang) r))) (bnd (punctR bBang) fun q => ret (some (cond q (r.1, r.2 ++ bBang) r))) (f + 1) (f' + 1) := fun P' r => (punctR_4 _ dl_bang).bnd fun q q' => ret_4 fun hp => by rw [hp.2]
  cases r with
  | none =>
   cases r' with
   | none => exact ret_4 fun _ => rfl
   | some r' => exact ⟨ret_3 _, (h1 True r').st', fun hp => by cases hp.2⟩
  | some r =>
   cases r' with
   | none => exact ⟨(h1 True r).o, ret_st _, fun hp => by cases hp.2⟩
   | some r' =>
    refine ⟨(h1 True r).o, (h1 True r').st', fun hp => ?_⟩
    obtain rfl := Option.some.inj hp.2
    exact (h1 True r).near trivial
end
open lx (toks chs cln tksG tkG)
section
variable {pl : Bool} {m s e : Nat} {P : Prop} {b b' : Nat} {f : Nat} {L L' K K' : LitR}
theorem OD.getD {R : Dt → Dt → Prop} {a b : Option Dt} {z z' : Dt} (h : OD R a b) (hz : R z z') : R (a.getD z) (b.getD z') := by
 cases a <;> cases b
 ·exact hz
 ·exact h.elim
 ·exact h.elim
 ·exact h
theorem defsF_4 {R : Dt → Dt → Prop} {D D' : LitR} (hG : Goes D) (hG' : Goes D') (h : Ok4 pl m s 0 True (OD R) D D' b b') (q : List Dt) : ∀ (g g' : Nat) (l l' : List Dt) (c c' : Cu), c.Ok → c'.Ok → Sf pl m s 0 c c' → c.ts.length ≤ b + c.ix → c'.ts.length ≤ b' + c'.ix → c.ts.length ≤ g + c.ix → c'.ts.length ≤ g' + c'.ix → EqLs R l l' → (q = [] ∨ l ≠ [] ∨ c.tok.k ≠ 0) → (defsF D g l c).2.ix ≤ m → ((∃ r r', (defsF D g l c).1 = some r ∧ (defsF D' g' (q ++ l') c').1 = some (q ++ r') ∧ EqLs R r r') ∨ ((defsF D g l c).1 = none ∧ (defsF D' g' (q ++ l') c').1 = none)) ∧ Sf pl m s 0 (defsF D g l c).2 (defsF D' g' (q ++ l') c').2
 | 0, g', l, l', c, c', hc, hc', hs, hb, hb', hg, hg', hl, hq, hm => by have := hc.lt; omega
 | g + 1, 0, l, l', c, c', hc, hc', hs, hb, hb', hg, hg', hl, hq, hm => by have := hc'.lt; omega
 | g + 1, g' + 1, l, l', c, c', hc, hc', hs, hb, hb', hg, hg', hl, hq, hm => by
  have hi : c.ix ≤ m := Nat.le_trans (defsF_stp hG (g + 1) l c hc).ix hm
  simp only [defsF] at hm ⊢
  have ht := hs.tok hi
  have hcond : (l.length = 0 ∨ c.tok.k ≠ 0) ↔ ((q ++ l').length = 0 ∨ c'.tok.k ≠ 0) := by
   rw [ht.1, List.length_append, ← hl.1]
   constructor
   ·rintro (x | x)
    ·rcases hq with hq | hq | hq
     ·left; rw [hq, x]; rfl
     ·exact absurd (List.length_eq_zero_iff.1 x) hq
     ·exact .inr hq
    ·exact .inr x
   ·rintro (x | x)
    ·left; omega
    ·exact .inr x
  by_cases hx : l.length = 0 ∨ c.tok.k ≠ 0
  ·rw [if_pos hx] at hm
   rw [if_pos hx, if_pos (hcond.1 hx)]
   have hgo := hG c hc
   have hgo' := hG' c' hc'
   have hm1 : (D c).2.ix ≤ m := by
    cases he : (D c).1 with
    | none => rw [he] at hm; exact hm
    | some d => rw [he] at hm; exact Nat.le_trans (defsF_stp hG g _ _ hgo.1.ok).ix hm
   obtain ⟨e1, e2⟩ := h.near trivial c c' hc hc' hs hb hb' (.inl rfl) hm1
   cases he : (D c).1 with
   | none =>
    rw [he] at e1
    rw [e1.none]
    exact ⟨.inr ⟨rfl, rfl⟩, e2⟩
   | some d =>
    rw [he] at e1 hm
    obtain ⟨d', he', hR⟩ := e1.some
    rw [he']
    have i1 := hgo.2 (by rw [he]; rfl)
    have i2 := hgo'.2 (by rw [he']; rfl)
    have ih := defsF_4 hG hG' h q g g' (l ++ [d]) (l' ++ [d']) _ _ hgo.1.ok hgo'.1.ok e2 (by rw [hgo.1.ts]; omega) (by rw [hgo'.1.ts]; omega) (by rw [hgo.1.ts]; omega) (by rw [hgo'.1.ts]; omega) (hl.snoc hR) (.inr (.inl (by simp))) hm
    dsimp only
    rw [List.append_assoc]
    exact ih
  ·rw [if_neg hx, if_neg (fun y => hx (hcond.2 y))]
   refine ⟨?_, hs.fin hi⟩
   dsimp only
   rw [hs.finB hi]
   cases c.finB
   ·exact .inr ⟨rfl, rfl⟩
   ·exact .inl ⟨l, l', rfl, rfl, hl⟩
end
def EqNm (pl : Bool) (x y : Nm) : Prop := x.1 = y.1 ∧ (pl = true → x.2.1 = y.2.1 ∧ x.2.2 = y.2.2)
def EqN (pl : Bool) (x y : Dt) : Prop := ∃ a b : Nm, x = namD a ∧ y = namD b ∧ EqNm pl a b
def EqI (pl : Bool) (f : Nat) (x y : Dt) : Prop := ∃ n m m' tn tw hd v v' ds ds', x = inpD n m tn tw hd v ds ∧ y = inpD n m' tn tw hd v' ds' ∧ EqNm pl m m' ∧ EqL pl f v v' ∧ EqLs (EqR pl f) ds ds'
def EqFd (pl : Bool) (f : Nat) (x y : Dt) : Prop := ∃ n m m' al al' tn tw ds ds', x = fdD n m al tn tw ds ∧ y = fdD n m' al' tn tw ds' ∧ EqNm pl m m' ∧ EqLs (EqI pl f) al al' ∧ EqLs (EqR pl f) ds ds'
def EqC (pl : Bool) (f : Nat) (x y : Dt) : Prop := ∃ n m m' ds ds', x = choD n m ds ∧ y = choD n m' ds' ∧ EqNm pl m m' ∧ EqLs (EqR pl f) ds ds'
def EqRt (pl : Bool) (x y : Dt) : Prop := ∃ k ty a b a' b', x = rooD k ty a b ∧ y = rooD k ty a' b' ∧ (pl = true → a = a' ∧ b = b')
structure EqY (pl : Bool) (f : Nat) (s s' : Sy) : Prop where
 k : s.k = s'.k
 ex : s.ex = s'.ex
 n : s.n = s'.n
 nm : s.nm = s'.nm
 ifs : EqLs (EqN pl) s.ifs s'.ifs
 ds : EqLs (EqR pl f) s.ds s'.ds
 fs : EqLs (EqFd pl f) s.fs s'.fs
 ins : EqLs (EqI pl f) s.ins s'.ins
 ms : EqLs (EqN pl) s.ms s'.ms
 vs : EqLs (EqC pl f) s.vs s'.vs
 rs : EqLs (EqRt pl) s.rs s'.rs
 rp : s.rp = s'.rp
 ps : EqLs (EqN pl) s.ps s'.ps
 pos : pl = true → s.ln = s'.ln ∧ s.co = s'.co
def EqD (pl : Bool) (f : Nat) (x y : Dt) : Prop := ∃ s s' : Sy, x = s.d ∧ y = s'.d ∧ EqY pl f s s'
theorem nm3_eq {pl : Bool} {t t' : Tk} (h : EqT pl t t') (so : Bool) : EqNm pl (nm3 t so) (nm3 t' so) := by
 cases so
 ·exact ⟨rfl, fun _ => ⟨rfl, rfl⟩⟩
 ·exact ⟨h.2.1.symm, h.2.2.2⟩
theorem EqY.bare {pl : Bool} {f : Nat} {s s' : Sy} (h : EqY pl f s s') : s.bare = s'.bare := by
 unfold Sy.bare
 rw [h.ifs.1, h.ds.1, h.fs.1, h.ins.1, h.ms.1, h.vs.1, h.rs.1]
theorem EqY.at {pl : Bool} {f : Nat} {s s' : Sy} {t t' : Tk} (h : EqY pl f s s') (k : Int) (ht : EqT pl t t') : EqY pl f (s.at k t) (s'.at k t') :=
 ⟨rfl, h.ex, h.n, h.nm, h.ifs, h.ds, h.fs, h.ins, h.ms, h.vs, h.rs, h.rp, h.ps, ht.2.2.2⟩
theorem EqY.of (pl : Bool) (f : Nat) (n : Nt) (x : Bool) : EqY pl f (Sy.of n x) (Sy.of n x) :=
 ⟨rfl, rfl, rfl, rfl, EqLs.nil, EqLs.nil, EqLs.nil, EqLs.nil, EqLs.nil, EqLs.nil, EqLs.nil, rfl, EqLs.nil, fun _ => ⟨rfl, rfl⟩⟩
section
variable {pl : Bool} {m s e : Nat} {P : Prop} {b b' : Nat}
theorem Ok4.imp {A X : Type} {P' : Prop} {V : A → X → Prop} {E : Cu → A × Cu} {E' : Cu → X × Cu} (h : Ok4 pl m s e P V E E' b b') (k : P' → P) : Ok4 pl m s e P' V E E' b b' := ⟨h.o, h.st', fun hp => h.near (k hp)⟩
theorem Ok4.yb {Y Z : Type} {V : Sy → Sy → Prop} {V' : Y → Z → Prop} {E E' : Cu → Sy × Cu} {F : Sy → Cu → Y × Cu} {F' : Sy → Cu → Z × Cu} (h : Ok4 pl m s e P V E E' b b') (k : ∀ a a', Ok4 pl m s e (P ∧ V a a') V' (F a) (F' a') b b') : Ok4 pl m s e P V' (cu.bnd E F) (cu.bnd E' F') b b' := by
 haveI : Nonempty Sy := ⟨Sy.of (false, false, em) false⟩
 exact h.bnd k
theorem Ok4.db {Y Z : Type} {V : Dt → Dt → Prop} {V' : Y → Z → Prop} {E E' : Cu → Dt × Cu} {F : Dt → Cu → Y × Cu} {F' : Dt → Cu → Z × Cu} (h : Ok4 pl m s e P V E E' b b') (k : ∀ a a', Ok4 pl m s e (P ∧ V a a') V' (F a) (F' a') b b') : Ok4 pl m s e P V' (cu.bnd E F) (cu.bnd E' F') b b' := by
 haveI : Nonempty Dt := ⟨Dt.nil⟩
 exact h.bnd k
theorem Sf.isS {c c' : Cu} (h : Sf pl m s e c c') (hi : c.ix ≤ m) : c'.isS = c.isS := by
 have t := h.tok hi
 unfold Cu.isS
 rw [h.kd, t.1]
theorem namR_4 : Ok4 pl m s e P (EqNm pl) namR namR b b' := ⟨namR_3, namR_st, fun hp c c' hc hc' hs hb hb' hP hm => by
 have hi : c.ix ≤ m := Nat.le_trans (name_stp hc).ix hm
 refine ⟨?_, hs.name hi⟩
 show EqNm pl (nm3 c.tok c.isN) (nm3 c'.tok c'.isN)
 rw [hs.isN hi]
 exact nm3_eq (hs.tok hi) _⟩
theorem butN_4 (ws : List ByteArray) : Ok4 pl m s e P (EqNm pl) (butN ws) (butN ws) b b' := ⟨butN_3 ws, butN_st ws, fun hp c c' hc hc' hs hb hb' hP hm => by
 have hi : c.ix ≤ m := Nat.le_trans (butN_st ws c hc).ix hm
 refine ⟨?_, ?_⟩
 ·show EqNm pl (nm3 c.tok _) (nm3 c'.tok _)
  rw [hs.isN hi, (hs.tok hi).2.1]
  exact nm3_eq (hs.tok hi) _
 ·show Sf pl m s e (c.nmC _) (c'.nmC _)
  rw [hs.isN hi, (hs.tok hi).2.1]
  exact hs.nmC _⟩
theorem wwN_4 (ws : List ByteArray) : Ok4 pl m s e P (EqNm pl) (wwN ws) (wwN ws) b b' := ⟨wwN_3 ws, wwN_st ws, fun hp c c' hc hc' hs hb hb' hP hm => by
 have hi : c.ix ≤ m := Nat.le_trans (wwN_st ws c hc).ix hm
 refine ⟨?_, ?_⟩
 ·show EqNm pl (nm3 c.tok _) (nm3 c'.tok _)
  rw [hs.isW hi]
  exact nm3_eq (hs.tok hi) _
 ·show Sf pl m s e (c.nmC _) (c'.nmC _)
  rw [hs.isW hi]
  exact hs.nmC _⟩
theorem noteR_4 : Ok4 pl m s e P Eq noteR noteR b b' := ⟨noteR_3, noteR_st, fun hp c c' hc hc' hs hb hb' hP hm => by
 have hi : c.ix ≤ m := Nat.le_trans (noteR_st c hc).ix hm
 have t := hs.tok hi
 unfold noteR
 rw [hs.isS hi, t.1, t.2.2.1]
 split
 ·exact ⟨rfl, hs.take⟩
 ·exact ⟨rfl, hs⟩⟩
theorem optR_4 {R : Dt → Dt → Prop} {E E' : Cu → Dt × Cu} (h : Ok4 pl m s e P R E E' b b') : Ok4 pl m s e P (OD R) (optR E) (optR E') b b' := h.db fun d d' => aliveR_4.bnd fun a a' => ret_4 fun hp => by
 obtain ⟨⟨_, hR⟩, rfl⟩ := hp
 cases a
 ·trivial
 ·exact hR
theorem brkT_4 {R : Dt → Dt → Prop} {E E' : Cu → Dt × Cu} (hG : Goes (optR E)) (hG' : Goes (optR E')) (h : Ok4 pl m s e True R E E' b b') {l r : ByteArray} (hl : dlt (pk l) = 1) (hr : dlt (pk r) = -1) : Ok4 pl m s e P (EqLs R) (brkT E l r) (brkT E' l r) b b' :=
 ((brk_4 hG hG' (optR_faults b) (optR_4 h) hl hr 1).mono (Nat.le_succ _) (Nat.le_succ _)).bnd fun x x' => ret_4 fun hp => hp.2.getD
theorem optT_4 {R : Dt → Dt → Prop} {E E' : Cu → Dt × Cu} (hG : Goes (optR E)) (hG' : Goes (optR E')) (h : Ok4 pl m s e True R E E' b b') {l r : ByteArray} (hl : dlt (pk l) = 1) (hr : dlt (pk r) = -1) : Ok4 pl m s e P (EqLs R) (optT E l r) (optT E' l r) b b' :=
 (isPR_4 l).bnd fun q q' => cond_4 (fun hp => hp.2) (brkT_4 hG hG' h hl hr) (ret_4 fun _ => EqLs.nil)
theorem pun_4 {X Z : Type} {V : X → Z → Prop} {p : ByteArray} (hp : dlt (pk p) = 0) {F : Bool → Cu → X × Cu} {F' : Bool → Cu → Z × Cu} (o : ∀ q, Ok3 0 (F q) (b + 1)) (k : Ok4 pl m s e P V (F true) (F' true) b b') (k0 : Ok4 pl m s e P V (F false) (F' false) (b + 1) (b' + 1)) : Ok4 pl m s e P V (bnd (punctR p) F) (bnd (punctR p) F') (b + 1) (b' + 1) := by
 refine ⟨(punctR_3 p hp).bnd o, (punctR_st p).bnd fun q => by cases q; exact k0.st'; exact k.st', fun hP' c c' hc hc' hs hb hb' hP hm => ?_⟩
 have s1 := punct_stp hc p
 have s2 := punct_stp hc' p
 have hm' : (F (c.isP p) (c.punct p)).2.ix ≤ m := hm
 have hi : c.ix ≤ m := Nat.le_trans s1.ix (Nat.le_trans ((o (c.isP p)).st _ s1.ok).ix hm')
 have e1 := hs.isP hi p
 have eS := hs.punct hi p
 have hP2 : Ps e (c.punct p) (F (c.isP p)) := hP.two (punctR_3 (M := 0) (b := b + 1) p hp) (fun a => (o a).sti) hc hb
 show V (F (c.isP p) (c.punct p)).1 (F' (c'.isP p) (c'.punct p)).1 ∧ Sf pl m s e (F (c.isP p) (c.punct p)).2 (F' (c'.isP p) (c'.punct p)).2
 rw [e1]
 cases hq : c.isP p
 ·rw [hq] at hm' hP2
  exact k0.near hP' _ _ s1.ok s2.ok eS (by rw [s1.ts]; have := s1.ix; omega) (by rw [s2.ts]; have := s2.ix; omega) hP2 hm'
 ·rw [hq] at hm' hP2 e1
  have x1 : (c.punct p).ix = c.ix + 1 := by unfold Cu.punct; rw [if_pos hq]; rfl
  have x2 : (c'.punct p).ix = c'.ix + 1 := by unfold Cu.punct; rw [if_pos e1]; rfl
  exact k.near hP' _ _ s1.ok s2.ok eS (by rw [s1.ts, x1]; omega) (by rw [s2.ts, x2]; omega) hP2 hm'
theorem parF_4 {k : ByteArray} (hk : dlt (pk k) = 0) {E E' : Cu → Nm × Cu} (hE : ∀ (P : Prop) (b b' : Nat), Ok4 pl m s e P (EqNm pl) E E' b b') : ∀ (g g' : Nat) (P : Prop) (l l' : List Dt), (P → EqLs (EqN pl) l l') → Ok4 pl m s e P (EqLs (EqN pl)) (parF E k g l) (parF E' k g' l') g g'
 | 0, g', P, l, l', hl => ⟨parF_3 hk (hE True 0 0).o 0 l, parF_st (hE True 0 0).st' k g' l', fun hp c c' hc hc' hs hb => by have := hc.lt; omega⟩
 | g + 1, 0, P, l, l', hl => ⟨parF_3 hk (hE True (g + 1) 0).o (g + 1) l, parF_st (hE True 0 0).st' k 0 l', fun hp c c' hc hc' hs hb hb' => by have := hc'.lt; omega⟩
 | g + 1, g' + 1, P, l, l', hl => pun_4 hk (F := fun q => cond q (cu.bnd E fun d => parF E k g (l ++ [namD d])) (ret l)) (F' := fun q => cond q (cu.bnd E' fun d => parF E' k g' (l' ++ [namD d])) (ret l'))
   (fun q => cond_3 ((hE True (g + 1) 0).o.bnd fun d => parF_3 hk (hE True (g + 1) 0).o g _) (ret_3 l))
   (show Ok4 pl m s e P (EqLs (EqN pl)) (cu.bnd E fun d => parF E k g (l ++ [namD d])) (cu.bnd E' fun d => parF E' k g' (l' ++ [namD d])) g g' from (hE P g g').bnd fun d d' => parF_4 hk hE g g' _ _ _ fun hp => (hl hp.1).snoc ⟨d, d', rfl, rfl, hp.2⟩)
   (ret_4 hl)
theorem parT_4 {k : ByteArray} (hk : dlt (pk k) = 0) {E E' : Cu → Nm × Cu} (hE : ∀ (P : Prop) (b b' : Nat), Ok4 pl m s e P (EqNm pl) E E' b b') (N N' : Nat) : Ok4 pl m s e P (EqLs (EqN pl)) (parT N E k) (parT N' E' k) N N' :=
 (punctR_4 k hk).bnd fun _ _ => (hE _ N N').bnd fun d d' => parF_4 hk hE N N' _ _ _ fun hp => EqLs.snoc (l := []) (l' := []) EqLs.nil ⟨d, d', rfl, rfl, hp.2⟩
end
section
variable {pl : Bool} {m s e : Nat} {P : Prop} {N : Nat} (hN : 0 < N) (N' : Nat)
theorem dirsL_4 : Ok4 pl m s e P (OL (EqR pl N)) (dirs (litF true N)) (dirs (litF true N')) N N' := dirs_4 (litF_goes true N) (litF_goes true N') (litF_faults true N) (litF_4 true N N')
include hN in
theorem zero_eq : EqL pl N zeroD zeroD := by
 obtain ⟨f', rfl⟩ : ∃ f', N = f' + 1 := ⟨N - 1, by omega⟩
 exact leaf_eq f' fun _ => ⟨rfl, rfl⟩
include hN in
theorem inp_4 : Ok4 pl m s e P (EqI pl N) (inpT (typF N) (litF true N)) (inpT (typF N') (litF true N')) N N' :=
 noteR_4.bnd fun n n' => namR_4.bnd fun x x' => (wantR_4 _ dl_col).bnd fun _ _ => (typF_4 N N').wk.bnd fun ty ty' => (punctR_4 _ dl_eq).bnd fun q q' => (cond_4 (V := OD (EqL pl N)) (fun hp => hp.2) (litF_4 true N N').wk (ret_4 (a := none) (x := none) fun _ => trivial)).bnd fun v v' => (dirsL_4 N').bnd fun d d' => ret_4 fun hp => by
  obtain ⟨⟨⟨⟨⟨⟨⟨_, rfl⟩, hm⟩, _⟩, rfl⟩, rfl⟩, hv⟩, hd⟩ := hp
  exact ⟨n, x, x', _, _, q, _, _, _, _, rfl, rfl, hm, hv.getD (zero_eq hN), hd.getD⟩
include hN in
theorem fd_4 : Ok4 pl m s e P (EqFd pl N) (fdT (typF N) (litF true N)) (fdT (typF N') (litF true N')) N N' :=
 noteR_4.bnd fun n n' => namR_4.bnd fun x x' => (optT_4 (inp_go N) (inp_go N') (inp_4 hN N') dl_lp dl_rp).bnd fun al al' => (wantR_4 _ dl_col).bnd fun _ _ => (typF_4 N N').wk.bnd fun ty ty' => (dirsL_4 N').bnd fun d d' => ret_4 fun hp => by
  obtain ⟨⟨⟨⟨⟨⟨_, rfl⟩, hm⟩, ha⟩, _⟩, rfl⟩, hd⟩ := hp
  exact ⟨n, x, x', al, al', _, _, _, _, rfl, rfl, hm, ha, hd.getD⟩
theorem cho_4 : Ok4 pl m s e P (EqC pl N) (choT (litF true N)) (choT (litF true N')) N N' :=
 noteR_4.bnd fun n n' => (butN_4 _).bnd fun x x' => (dirsL_4 N').bnd fun d d' => ret_4 fun hp => by
  obtain ⟨⟨⟨_, rfl⟩, hm⟩, hd⟩ := hp
  exact ⟨n, x, x', _, _, rfl, rfl, hm, hd.getD⟩
theorem roo_4 {b b' : Nat} : Ok4 pl m s e P (EqRt pl) rooT rooT b b' :=
 (wwN_4 _).bnd fun x x' => (wantR_4 _ dl_col).bnd fun _ _ => namR_4.bnd fun y y' => ret_4 fun hp => by
  obtain ⟨⟨⟨_, hx⟩, _⟩, hy⟩ := hp
  refine ⟨opK x.1, y.1, _, _, _, _, rfl, ?_, hx.2⟩
  rw [hx.1, hy.1]
theorem nmd_4 {b b' : Nat} {y y' : Sy} (h : P → EqY pl N y y') : Ok4 pl m s e P (EqY pl N) (nmdT y) (nmdT y') b b' :=
 namR_4.bnd fun x x' => ret_4 fun hp => by
  have h := h hp.1
  exact ⟨h.k, h.ex, h.n, hp.2.1, h.ifs, h.ds, h.fs, h.ins, h.ms, h.vs, h.rs, h.rp, h.ps, hp.2.2⟩
theorem sch_4 {y y' : Sy} (h : P → EqY pl N y y') : Ok4 pl m s e P (EqY pl N) (schT (litF true N) y) (schT (litF true N') y') N N' :=
 (dirsL_4 N').bnd fun d d' => (isPR_4 _).bnd fun q q' => (cond_4 (V := EqLs (EqRt pl)) (fun hp => by rw [(h hp.1.1).ex, hp.2]) (brkT_4 roo_go roo_go roo_4 dl_lc dl_rc) (ret_4 fun _ => EqLs.nil)).bnd fun r r' => ret_4 fun hp => by
  have h := h hp.1.1.1
  exact ⟨h.k, h.ex, h.n, h.nm, h.ifs, hp.1.1.2.getD, h.fs, h.ins, h.ms, h.vs, hp.2, h.rp, h.ps, h.pos⟩
theorem sca_4 {y y' : Sy} (h : P → EqY pl N y y') : Ok4 pl m s e P (EqY pl N) (scaT (litF true N) y) (scaT (litF true N') y') N N' :=
 (nmd_4 h).yb fun y y' => (dirsL_4 N').bnd fun d d' => ret_4 fun hp => by
  have h := hp.1.2
  exact ⟨h.k, h.ex, h.n, h.nm, h.ifs, hp.2.getD, h.fs, h.ins, h.ms, h.vs, h.rs, h.rp, h.ps, h.pos⟩
include hN in
theorem obj_4 {y y' : Sy} (h : P → EqY pl N y y') : Ok4 pl m s e P (EqY pl N) (objT (typF N) (litF true N) N y) (objT (typF N') (litF true N') N' y') N N' :=
 (nmd_4 h).yb fun y y' => (wordR_4 _).bnd fun q q' => (cond_4 (V := EqLs (EqN pl)) (fun hp => hp.2) (parT_4 dl_amp (fun _ _ _ => namR_4) N N') (ret_4 fun _ => EqLs.nil)).bnd fun i i' => (dirsL_4 N').bnd fun d d' => (optT_4 (fd_go N) (fd_go N') (fd_4 hN N') dl_lc dl_rc).bnd fun f f' => ret_4 fun hp => by
  have h := hp.1.1.1.1.2
  exact ⟨h.k, h.ex, h.n, h.nm, hp.1.1.2, hp.1.2.getD, hp.2, h.ins, h.ms, h.vs, h.rs, h.rp, h.ps, h.pos⟩
theorem uni_4 {y y' : Sy} (h : P → EqY pl N y y') : Ok4 pl m s e P (EqY pl N) (uniT (litF true N) N y) (uniT (litF true N') N' y') N N' :=
 (nmd_4 h).yb fun y y' => (dirsL_4 N').bnd fun d d' => (punctR_4 _ dl_eq).bnd fun q q' => (cond_4 (V := EqLs (EqN pl)) (fun hp => hp.2) (parT_4 dl_pipe (fun _ _ _ => namR_4) N N') (ret_4 fun _ => EqLs.nil)).bnd fun i i' => ret_4 fun hp => by
  have h := hp.1.1.1.2
  exact ⟨h.k, h.ex, h.n, h.nm, h.ifs, hp.1.1.2.getD, h.fs, h.ins, hp.2, h.vs, h.rs, h.rp, h.ps, h.pos⟩
theorem enu_4 {y y' : Sy} (h : P → EqY pl N y y') : Ok4 pl m s e P (EqY pl N) (enuT (litF true N) y) (enuT (litF true N') y') N N' :=
 (nmd_4 h).yb fun y y' => (dirsL_4 N').bnd fun d d' => (optT_4 (cho_go N) (cho_go N') (cho_4 N') dl_lc dl_rc).bnd fun f f' => ret_4 fun hp => by
  have h := hp.1.1.2
  exact ⟨h.k, h.ex, h.n, h.nm, h.ifs, hp.1.2.getD, h.fs, h.ins, h.ms, hp.2, h.rs, h.rp, h.ps, h.pos⟩
include hN in
theorem inu_4 {y y' : Sy} (h : P → EqY pl N y y') : Ok4 pl m s e P (EqY pl N) (inuT (typF N) (litF true N) y) (inuT (typF N') (litF true N') y') N N' :=
 (nmd_4 h).yb fun y y' => (dirsL_4 N').bnd fun d d' => (optT_4 (inp_go N) (inp_go N') (inp_4 hN N') dl_lc dl_rc).bnd fun f f' => ret_4 fun hp => by
  have h := hp.1.1.2
  exact ⟨h.k, h.ex, h.n, h.nm, h.ifs, hp.1.2.getD, h.fs, hp.2, h.ms, h.vs, h.rs, h.rp, h.ps, h.pos⟩
include hN in
theorem dird_4 {y y' : Sy} (h : P → EqY pl N y y') : Ok4 pl m s e P (EqY pl N) (dirT (typF N) (litF true N) N y) (dirT (typF N') (litF true N') N' y') N N' :=
 (wantR_4 _ dl_at).bnd fun _ _ => (nmd_4 (P := P ∧ _) fun hp => h hp.1).yb fun y y' => (optT_4 (inp_go N) (inp_go N') (inp_4 hN N') dl_lp dl_rp).bnd fun f f' => (wordR_4 _).bnd fun r r' => (wwR_4 _).bnd fun _ _ => (parT_4 dl_pipe (fun _ _ _ => wwN_4 _) N N').bnd fun p p' => ret_4 fun hp => by
  have h := hp.1.1.1.1.2
  exact ⟨h.k, h.ex, h.n, h.nm, h.ifs, h.ds, h.fs, hp.1.1.1.2, h.ms, h.vs, h.rs, hp.1.1.2, hp.2, h.pos⟩
theorem kw_4 {b b' : Nat} (q : ByteArray) {E E' F F' : Cu → Sy × Cu} {V : Sy → Sy → Prop} (h : Ok4 pl m s e P V E E' b b') (k : Ok4 pl m s e P V F F' b b') : Ok4 pl m s e P V (kwT q E F) (kwT q E' F') b b' :=
 (wordR_4 q).bnd fun x x' => cond_4 (fun hp => hp.2) (h.imp fun hp => hp.1) (k.imp fun hp => hp.1)
include hN in
theorem key_4 {y y' : Sy} (h : P → EqY pl N y y') : Ok4 pl m s e P (EqY pl N) (keyT (typF N) (litF true N) N y) (keyT (typF N') (litF true N') N' y') N N' :=
 Ok4.tb fun t t' =>
  kw_4 _ (sch_4 N' fun hp => (h hp.1).at 1 hp.2) (kw_4 _ (sca_4 N' fun hp => (h hp.1).at 2 hp.2) (kw_4 _ (obj_4 hN N' fun hp => (h hp.1).at 3 hp.2) (kw_4 _ (obj_4 hN N' fun hp => (h hp.1).at 4 hp.2) (kw_4 _ (uni_4 N' fun hp => (h hp.1).at 5 hp.2) (kw_4 _ (enu_4 N' fun hp => (h hp.1).at 6 hp.2) (kw_4 _ (inu_4 hN N' fun hp => (h hp.1).at 7 hp.2) (cond_4 (fun hp => (h hp.1).ex) (stopR_4 fun hp => h hp.1) (kw_4 _ (dird_4 hN N' fun hp => (h hp.1).at 8 hp.2) (stopR_4 fun hp => h hp.1)))))))))
include hN in
theorem def_4 : Ok4 pl m s e P (EqD pl N) (defT (typF N) (litF true N) N) (defT (typF N') (litF true N') N') N N' :=
 noteR_4.bnd fun n n' => (cond_4 (V := Eq) (fun hp => by rw [hp.2]) (ret_4 fun _ => rfl) (wordR_4 _)).bnd fun x x' => (key_4 (P := (P ∧ n = n') ∧ x = x') hN N' fun hp => by obtain ⟨⟨_, rfl⟩, rfl⟩ := hp; exact EqY.of pl N n x).yb fun y y' => cond_4 (fun hp => by rw [hp.2.ex, hp.2.bare]) (stopR_4 fun hp => ⟨y, y', rfl, rfl, hp.2⟩) (ret_4 fun hp => ⟨y, y', rfl, rfl, hp.2⟩)
include hN in
theorem sd_4 : Ok4 pl m s e P (OD (EqD pl N)) (sdN N) (sdN N') N N' := optR_4 (def_4 hN N')
end
section
variable {pl : Bool} {m s : Nat}
theorem sdocS_4 (c c' : Cu) (hc : c.Ok) (hc' : c'.Ok) (hs : Sf pl m s 0 c c') (hm : (sdocS c).2.ix ≤ m) : ((∃ r r', (sdocS c).1 = some r ∧ (sdocS c').1 = some r' ∧ EqLs (EqD pl c.ts.length) r r') ∨ ((sdocS c).1 = none ∧ (sdocS c').1 = none)) ∧ Sf pl m s 0 (sdocS c).2 (sdocS c').2 := by
 have hl := hc.lt
 exact defsF_4 (sd_go _) (sd_go _) (sd_4 (by omega) _) [] _ _ [] [] c c' hc hc' hs (by omega) (by omega) (by omega) (by omega) EqLs.nil (.inl rfl) hm
theorem sdocS_refl (pl : Bool) (c : Cu) (hc : c.Ok) {l : List Dt} (h : (sdocS c).1 = some l) : EqLs (EqD pl c.ts.length) l l := by
 have hs : Sf pl (sdocS c).2.ix 0 0 c c := ⟨rfl, rfl, rfl, rfl, fun i hi => EqT.refl pl _⟩
 rcases (sdocS_4 c c hc hc hs (Nat.le_refl _)).1 with ⟨r, r', h1, h2, h3⟩ | ⟨h1, h2⟩
 ·rw [h] at h1 h2
  obtain rfl := Option.some.inj h1
  obtain rfl := Option.some.inj h2
  exact h3
 ·rw [h] at h1; cases h1
end
def LsC (w : World) (k : Nat) (l : List Dt) (a : Option Addr) (c : Nat) (F : List Nat) : Prop := Ls w k l a F ∧ l.length ≤ c ∧ c ≤ maxLen
theorem nam_cells {w : World} {m : Nm} {cs : List Value} {F : List Nat} (h : Ow w (namD m) cs F) :
  cs = [.string m.1, .int .i64 m.2.1, .int .i64 m.2.2] := by
 unfold namD Ow at h
 obtain ⟨d0, rfl, v0, h⟩ := h
 unfold Ow at h
 obtain ⟨d1, rfl, v1, h⟩ := h
 unfold Ow at h
 obtain ⟨d2, rfl, v2, h⟩ := h
 unfold Ow at h
 obtain ⟨rfl, rfl⟩ := h
 rfl
theorem roo_cells {w : World} {k : Int} {ty : ByteArray} {x y : Int} {cs : List Value} {F : List Nat} (h : Ow w (rooD k ty x y) cs F) :
  cs = [.int .i64 k, .string ty, .int .i64 x, .int .i64 y] := by
 unfold rooD Ow at h
 obtain ⟨d0, rfl, v0, h⟩ := h
 unfold Ow at h
 obtain ⟨d1, rfl, v1, h⟩ := h
 unfold Ow at h
 obtain ⟨d2, rfl, v2, h⟩ := h
 unfold Ow at h
 obtain ⟨d3, rfl, v3, h⟩ := h
 unfold Ow at h
 obtain ⟨rfl, rfl⟩ := h
 rfl
theorem cho_cells {w : World} {n : Nt} {m : Nm} {ds : List Dt} {cs : List Value} {F : List Nat} (h : Ow w (choD n m ds) cs F) :
  ∃ a1 c1, cs = [.bool n.1, .bool n.2.1, .string n.2.2, .string m.1, .slice a1 ds.length c1, .int .i64 m.2.1, .int .i64 m.2.2] ∧ LsC w 4 ds a1 c1 F := by
 unfold choD ntD Ow at h
 obtain ⟨d0, rfl, v0, h⟩ := h
 unfold Ow at h
 obtain ⟨d1, rfl, v1, h⟩ := h
 unfold Ow at h
 obtain ⟨d2, rfl, v2, h⟩ := h
 unfold Ow at h
 obtain ⟨d3, rfl, v3, h⟩ := h
 unfold Ow at h
 obtain ⟨a1, na1, c1, d4, F4, G4, rfl, i4, j4, k4, m4, h, rfl⟩ := h
 obtain ⟨rfl, l4⟩ := lst_ls m4
 unfold Ow at h
 obtain ⟨d5, rfl, v5, h⟩ := h
 unfold Ow at h
 obtain ⟨d6, rfl, v6, h⟩ := h
 unfold Ow at h
 obtain ⟨rfl, rfl⟩ := h
 exact ⟨a1, c1, rfl, ⟨l4.mono (fun b hb => List.mem_append_left _ hb), i4, j4⟩⟩
theorem inp_cells {w : World} {n : Nt} {m : Nm} {tn tw : ByteArray} {hd : Bool} {k : Int} {tx : ByteArray} {bl : Bool} {its fls : Dt} {ln co : Int} {ds : List Dt} {cs : List Value} {F : List Nat} (h : Ow w (inpD n m tn tw hd (litD k tx bl its fls ln co) ds) cs F) :
  ∃ ai nai ci af naf cf a1 c1 G, cs = [.bool n.1, .bool n.2.1, .string n.2.2, .string m.1, .string tn, .string tw, .bool hd, .int .i64 k, .string tx, .bool bl, .slice ai nai ci, .slice af naf cf, .int .i64 ln, .int .i64 co, .slice a1 ds.length c1, .int .i64 m.2.1, .int .i64 m.2.2] ∧ Ow w (litD k tx bl its fls ln co) [.int .i64 k, .string tx, .bool bl, .slice ai nai ci, .slice af naf cf, .int .i64 ln, .int .i64 co] G ∧ (∀ b ∈ G, b ∈ F) ∧ LsC w 4 ds a1 c1 F := by
 unfold inpD ntD litD at h
 simp only [app] at h
 unfold Ow at h
 obtain ⟨d0, rfl, v0, h⟩ := h
 unfold Ow at h
 obtain ⟨d1, rfl, v1, h⟩ := h
 unfold Ow at h
 obtain ⟨d2, rfl, v2, h⟩ := h
 unfold Ow at h
 obtain ⟨d3, rfl, v3, h⟩ := h
 unfold Ow at h
 obtain ⟨d4, rfl, v4, h⟩ := h
 unfold Ow at h
 obtain ⟨d5, rfl, v5, h⟩ := h
 unfold Ow at h
 obtain ⟨d6, rfl, v6, h⟩ := h
 unfold Ow at h
 obtain ⟨d7, rfl, v7, h⟩ := h
 unfold Ow at h
 obtain ⟨d8, rfl, v8, h⟩ := h
 unfold Ow at h
 obtain ⟨d9, rfl, v9, h⟩ := h
 unfold Ow at h
 obtain ⟨ai, nai, ci, d10, F10, G10, rfl, i10, j10, k10, m10, h, rfl⟩ := h
 unfold Ow at h
 obtain ⟨af, naf, cf, d11, F11, G11, rfl, i11, j11, k11, m11, h, rfl⟩ := h
 unfold Ow at h
 obtain ⟨d12, rfl, v12, h⟩ := h
 unfold Ow at h
 obtain ⟨d13, rfl, v13, h⟩ := h
 unfold Ow at h
 obtain ⟨a1, na1, c1, d14, F14, G14, rfl, i14, j14, k14, m14, h, rfl⟩ := h
 obtain ⟨rfl, l14⟩ := lst_ls m14
 unfold Ow at h
 obtain ⟨d15, rfl, v15, h⟩ := h
 unfold Ow at h
 obtain ⟨d16, rfl, v16, h⟩ := h
 unfold Ow at h
 obtain ⟨rfl, rfl⟩ := h
 refine ⟨ai, nai, ci, af, naf, cf, a1, c1, F10 ++ (F11 ++ []), rfl, ?_, ?_, ⟨l14.mono (fun b hb => List.mem_append_right _ (List.mem_append_right _ (List.mem_append_left _ hb))), i14, j14⟩⟩
 ·unfold litD Ow
  refine ⟨_, rfl, v7, ?_⟩
  unfold Ow
  refine ⟨_, rfl, v8, ?_⟩
  unfold Ow
  refine ⟨_, rfl, v9, ?_⟩
  unfold Ow
  refine ⟨ai, nai, ci, _, F10, F11 ++ [], rfl, i10, j10, k10, m10, ?_, rfl⟩
  unfold Ow
  refine ⟨af, naf, cf, _, F11, [], rfl, i11, j11, k11, m11, ?_, rfl⟩
  unfold Ow
  refine ⟨_, rfl, v12, ?_⟩
  unfold Ow
  refine ⟨_, rfl, v13, ?_⟩
  unfold Ow
  exact ⟨rfl, rfl⟩
 ·intro b hb
  simp at hb ⊢
  rcases hb with hb | hb
  ·exact .inl hb
  ·exact .inr (.inl hb)
theorem fd_cells {w : World} {n : Nt} {m : Nm} {al : List Dt} {tn tw : ByteArray} {ds : List Dt} {cs : List Value} {F : List Nat} (h : Ow w (fdD n m al tn tw ds) cs F) :
  ∃ a1 c1 a2 c2, cs = [.bool n.1, .bool n.2.1, .string n.2.2, .string m.1, .slice a1 al.length c1, .string tn, .string tw, .slice a2 ds.length c2, .int .i64 m.2.1, .int .i64 m.2.2] ∧ LsC w 17 al a1 c1 F ∧ LsC w 4 ds a2 c2 F := by
 unfold fdD ntD Ow at h
 obtain ⟨d0, rfl, v0, h⟩ := h
 unfold Ow at h
 obtain ⟨d1, rfl, v1, h⟩ := h
 unfold Ow at h
 obtain ⟨d2, rfl, v2, h⟩ := h
 unfold Ow at h
 obtain ⟨d3, rfl, v3, h⟩ := h
 unfold Ow at h
 obtain ⟨a1, na1, c1, d4, F4, G4, rfl, i4, j4, k4, m4, h, rfl⟩ := h
 obtain ⟨rfl, l4⟩ := lst_ls m4
 unfold Ow at h
 obtain ⟨d5, rfl, v5, h⟩ := h
 unfold Ow at h
 obtain ⟨d6, rfl, v6, h⟩ := h
 unfold Ow at h
 obtain ⟨a2, na2, c2, d7, F7, G7, rfl, i7, j7, k7, m7, h, rfl⟩ := h
 obtain ⟨rfl, l7⟩ := lst_ls m7
 unfold Ow at h
 obtain ⟨d8, rfl, v8, h⟩ := h
 unfold Ow at h
 obtain ⟨d9, rfl, v9, h⟩ := h
 unfold Ow at h
 obtain ⟨rfl, rfl⟩ := h
 exact ⟨a1, c1, a2, c2, rfl, ⟨l4.mono (fun b hb => List.mem_append_left _ hb), i4, j4⟩, ⟨l7.mono (fun b hb => List.mem_append_right _ (List.mem_append_left _ hb)), i7, j7⟩⟩
theorem sy_cells {w : World} {s : Sy} {cs : List Value} {F : List Nat} (h : Ow w (s.d) cs F) :
  ∃ a1 c1 a2 c2 a3 c3 a4 c4 a5 c5 a6 c6 a7 c7 a8 c8, cs = [.int .i64 s.k, .bool s.ex, .bool s.n.1, .bool s.n.2.1, .string s.n.2.2, .string s.nm, .slice a1 s.ifs.length c1, .slice a2 s.ds.length c2, .slice a3 s.fs.length c3, .slice a4 s.ins.length c4, .slice a5 s.ms.length c5, .slice a6 s.vs.length c6, .slice a7 s.rs.length c7, .bool s.rp, .slice a8 s.ps.length c8, .int .i64 s.ln, .int .i64 s.co] ∧ LsC w 3 s.ifs a1 c1 F ∧ LsC w 4 s.ds a2 c2 F ∧ LsC w 10 s.fs a3 c3 F ∧ LsC w 17 s.ins a4 c4 F ∧ LsC w 3 s.ms a5 c5 F ∧ LsC w 7 s.vs a6 c6 F ∧ LsC w 4 s.rs a7 c7 F ∧ LsC w 3 s.ps a8 c8 F := by
 unfold Sy.d ntD Ow at h
 obtain ⟨d0, rfl, v0, h⟩ := h
 unfold Ow at h
 obtain ⟨d1, rfl, v1, h⟩ := h
 unfold Ow at h
 obtain ⟨d2, rfl, v2, h⟩ := h
 unfold Ow at h
 obtain ⟨d3, rfl, v3, h⟩ := h
 unfold Ow at h
 obtain ⟨d4, rfl, v4, h⟩ := h
 unfold Ow at h
 obtain ⟨d5, rfl, v5, h⟩ := h
 unfold Ow at h
 obtain ⟨a1, na1, c1, d6, F6, G6, rfl, i6, j6, k6, m6, h, rfl⟩ := h
 obtain ⟨rfl, l6⟩ := lst_ls m6
 unfold Ow at h
 obtain ⟨a2, na2, c2, d7, F7, G7, rfl, i7, j7, k7, m7, h, rfl⟩ := h
 obtain ⟨rfl, l7⟩ := lst_ls m7
 unfold Ow at h
 obtain ⟨a3, na3, c3, d8, F8, G8, rfl, i8, j8, k8, m8, h, rfl⟩ := h
 obtain ⟨rfl, l8⟩ := lst_ls m8
 unfold Ow at h
 obtain ⟨a4, na4, c4, d9, F9, G9, rfl, i9, j9, k9, m9, h, rfl⟩ := h
 obtain ⟨rfl, l9⟩ := lst_ls m9
 unfold Ow at h
 obtain ⟨a5, na5, c5, d10, F10, G10, rfl, i10, j10, k10, m10, h, rfl⟩ := h
 obtain ⟨rfl, l10⟩ := lst_ls m10
 unfold Ow at h
 obtain ⟨a6, na6, c6, d11, F11, G11, rfl, i11, j11, k11, m11, h, rfl⟩ := h
 obtain ⟨rfl, l11⟩ := lst_ls m11
 unfold Ow at h
 obtain ⟨a7, na7, c7, d12, F12, G12, rfl, i12, j12, k12, m12, h, rfl⟩ := h
 obtain ⟨rfl, l12⟩ := lst_ls m12
 unfold Ow at h
 obtain ⟨d13, rfl, v13, h⟩ := h
 unfold Ow at h
 obtain ⟨a8, na8, c8, d14, F14, G14, rfl, i14, j14, k14, m14, h, rfl⟩ := h
 obtain ⟨rfl, l14⟩ := lst_ls m14
 unfold Ow at h
 obtain ⟨d15, rfl, v15, h⟩ := h
 unfold Ow at h
 obtain ⟨d16, rfl, v16, h⟩ := h
 unfold Ow at h
 obtain ⟨rfl, rfl⟩ := h
 exact ⟨a1, c1, a2, c2, a3, c3, a4, c4, a5, c5, a6, c6, a7, c7, a8, c8, rfl, ⟨l6.mono (fun b hb => List.mem_append_left _ hb), i6, j6⟩, ⟨l7.mono (fun b hb => List.mem_append_right _ (List.mem_append_left _ hb)), i7, j7⟩, ⟨l8.mono (fun b hb => List.mem_append_right _ (List.mem_append_right _ (List.mem_append_left _ hb))), i8, j8⟩, ⟨l9.mono (fun b hb => List.mem_append_right _ (List.mem_append_right _ (List.mem_append_right _ (List.mem_append_left _ hb)))), i9, j9⟩, ⟨l10.mono (fun b hb => List.mem_append_right _ (List.mem_append_right _ (List.mem_append_right _ (List.mem_append_right _ (List.mem_append_left _ hb))))), i10, j10⟩, ⟨l11.mono (fun b hb => List.mem_append_right _ (List.mem_append_right _ (List.mem_append_right _ (List.mem_append_right _ (List.mem_append_right _ (List.mem_append_left _ hb)))))), i11, j11⟩, ⟨l12.mono (fun b hb => List.mem_append_right _ (List.mem_append_right _ (List.mem_append_right _ (List.mem_append_right _ (List.mem_append_right _ (List.mem_append_right _ (List.mem_append_left _ hb))))))), i12, j12⟩, ⟨l14.mono (fun b hb => List.mem_append_right _ (List.mem_append_right _ (List.mem_append_right _ (List.mem_append_right _ (List.mem_append_right _ (List.mem_append_right _ (List.mem_append_right _ (List.mem_append_left _ hb)))))))), i14, j14⟩⟩
set_option maxHeartbeats 8000000 in
set_option maxRecDepth 4000 in
theorem named_t (l l' : List Dt) (h : EqLs (EqN true) l l') : SmLs 40 true 3 l l' := by
 intro w a a' c c' F G hl hl' hF hG hc hc' hm hm'
 obtain ⟨hlen, hel⟩ := h
 have HEL := Hi hel
 have HL := Hi hl
 have HL' := Hi hl'
 have HF := Hi hF
 have HG := Hi hG
 obtain ⟨n, hn⟩ : ∃ n, n = l.length := ⟨_, rfl⟩
 have hn' : n = l'.length := hn.trans hlen
 rw [← hn] at hc ⊢
 rw [← hn'] at hc' ⊢
 have Hn := Hi (And.intro hn hn')
 clear hel hl hl' hF hG hn hn' hlen
 unfold maxLen at hm hm'
 go_enter Tryz.func40, Tryz.ntmps40
 go_wp2_with fail
 go_loopw [7] (fun i wr => ∃ j : Nat, j ≤ n ∧ i = .int .i64 j ∧ Below w.heap.size w wr) (fun i _ => n - (intOf i).toNat)
 case atStart => exact ⟨0, Nat.zero_le _, rfl, Below.refl _ _⟩
 case round =>
  obtain ⟨j, hj, rfl, hI⟩ := hrel
  by_cases hlt : j < n
  ·have ji : (j : Int) < (n : Int) := by omega
   have hlt1 : j < l.length := by have := uh Hn; omega
   have hlt2 : j < l'.length := by have := uh Hn; omega
   obtain ⟨p, off, rfl, hpF, hget⟩ := (uh HL).resolve_left (fun h0 => by rw [h0] at hlt1; exact absurd hlt1 (Nat.not_lt_zero _))
   obtain ⟨p', off', rfl, hpG, hget'⟩ := (uh HL').resolve_left (fun h0 => by rw [h0] at hlt2; exact absurd hlt2 (Nat.not_lt_zero _))
   obtain ⟨ds, G1, hrow, hdl, hod, hGF⟩ := hget j _ (List.getElem?_eq_getElem hlt1)
   obtain ⟨ds', G2, hrow', hdl', hod', hGG⟩ := hget' j _ (List.getElem?_eq_getElem hlt2)
   obtain ⟨⟨nm, x1, y1⟩, ⟨nm', x2, y2⟩, hx, hy, hnm, hxy⟩ := (uh HEL) j _ _ (List.getElem?_eq_getElem hlt1) (List.getElem?_eq_getElem hlt2)
   have hnm : nm = nm' := hnm
   subst hnm
   rw [hx] at hod
   rw [hy] at hod'
   have q1 : ds = [.string nm, .int .i64 x1, .int .i64 y1] := nam_cells hod
   subst q1
   have q2 : ds' = [.string nm, .int .i64 x2, .int .i64 y2] := nam_cells hod'
   subst q2
   obtain ⟨rfl, rfl⟩ : x1 = x2 ∧ y1 = y2 := hxy rfl
   have hplt := (uh HF) p hpF
   have hplt' := (uh HG) p' hpG
   have hr := fun (q : Nat) (u : Value) hu => (hI.cell (p := ⟨p, off + j * 3 + q, none⟩) hplt).trans (hrow q u hu)
   have hr' := fun (q : Nat) (u : Value) hu => (hI.cell (p := ⟨p', off' + j * 3 + q, none⟩) hplt').trans (hrow' q u hu)
   have r0 : wr.cell? ⟨p, off + j * 3, none⟩ = some (.string nm) := hr 0 _ rfl
   have r1 : wr.cell? ⟨p, off + j * 3 + 1, none⟩ = some (.int .i64 x1) := hr 1 _ rfl
   have r2 : wr.cell? ⟨p, off + j * 3 + 2, none⟩ = some (.int .i64 y1) := hr 2 _ rfl
   have s0 : wr.cell? ⟨p', off' + j * 3, none⟩ = some (.string nm) := hr' 0 _ rfl
   have s1 : wr.cell? ⟨p', off' + j * 3 + 1, none⟩ = some (.int .i64 x1) := hr' 1 _ rfl
   have s2 : wr.cell? ⟨p', off' + j * 3 + 2, none⟩ = some (.int .i64 y1) := hr' 2 _ rfl
   have hq1 : p < wr.heap.size := Nat.lt_of_lt_of_le hplt hI.size
   have hq2 : p' < wr.heap.size := Nat.lt_of_lt_of_le hplt' hI.size
   clear hr hr' hrow hrow' hod hod' hx hy hdl hdl' hget hget' hGF hGG
   go_wp2_with fail
   go_quiet (fail)
   obtain ⟨V0, hV0⟩ : ∃ V0, V0 = wr.drewN nq := ⟨_, rfl⟩
   have hS0 : Below wr.heap.size wr V0 := by rw [hV0]; exact Go.below_drewN (Below.refl _ _) nq
   rw [← hV0]
   clear hV0
   go_wp2_with fail
   go_roundw
   case rel => exact ⟨j + 1, by omega, by go_num, hI.trans (hS0.mono hI.size)⟩
   case measure => first | (simp [intOf]; omega) | simp [intOf]
  ·have ji : ¬ (j : Int) < (n : Int) := by omega
   have hI9 := Hi hI
   clear hlt
   go_wp2_with fail
   go_ret
   exact ⟨rfl, uh hI9⟩
set_option maxHeartbeats 8000000 in
set_option maxRecDepth 4000 in
theorem roots_t (l l' : List Dt) (h : EqLs (EqRt true) l l') : SmLs 44 true 4 l l' := by
 intro w a a' c c' F G hl hl' hF hG hc hc' hm hm'
 obtain ⟨hlen, hel⟩ := h
 have HEL := Hi hel
 have HL := Hi hl
 have HL' := Hi hl'
 have HF := Hi hF
 have HG := Hi hG
 obtain ⟨n, hn⟩ : ∃ n, n = l.length := ⟨_, rfl⟩
 have hn' : n = l'.length := hn.trans hlen
 rw [← hn] at hc ⊢
 rw [← hn'] at hc' ⊢
 have Hn := Hi (And.intro hn hn')
 clear hel hl hl' hF hG hn hn' hlen
 unfold maxLen at hm hm'
 go_enter Tryz.func44, Tryz.ntmps44
 go_wp2_with fail
 go_loopw [7] (fun i wr => ∃ j : Nat, j ≤ n ∧ i = .int .i64 j ∧ Below w.heap.size w wr) (fun i _ => n - (intOf i).toNat)
 case atStart => exact ⟨0, Nat.zero_le _, rfl, Below.refl _ _⟩
 case round =>
  obtain ⟨j, hj, rfl, hI⟩ := hrel
  by_cases hlt : j < n
  ·have ji : (j : Int) < (n : Int) := by omega
   have hlt1 : j < l.length := by have := uh Hn; omega
   have hlt2 : j < l'.length := by have := uh Hn; omega
   obtain ⟨p, off, rfl, hpF, hget⟩ := (uh HL).resolve_left (fun h0 => by rw [h0] at hlt1; exact absurd hlt1 (Nat.not_lt_zero _))
   obtain ⟨p', off', rfl, hpG, hget'⟩ := (uh HL').resolve_left (fun h0 => by rw [h0] at hlt2; exact absurd hlt2 (Nat.not_lt_zero _))
   obtain ⟨ds, G1, hrow, hdl, hod, hGF⟩ := hget j _ (List.getElem?_eq_getElem hlt1)
   obtain ⟨ds', G2, hrow', hdl', hod', hGG⟩ := hget' j _ (List.getElem?_eq_getElem hlt2)
   obtain ⟨k, ty, x1, y1, x2, y2, hx, hy, hxy⟩ := (uh HEL) j _ _ (List.getElem?_eq_getElem hlt1) (List.getElem?_eq_getElem hlt2)
   rw [hx] at hod
   rw [hy] at hod'
   have q1 : ds = [.int .i64 k, .string ty, .int .i64 x1, .int .i64 y1] := roo_cells hod
   subst q1
   have q2 : ds' = [.int .i64 k, .string ty, .int .i64 x2, .int .i64 y2] := roo_cells hod'
   subst q2
   obtain ⟨rfl, rfl⟩ : x1 = x2 ∧ y1 = y2 := hxy rfl
   have hplt := (uh HF) p hpF
   have hplt' := (uh HG) p' hpG
   have hr := fun (q : Nat) (u : Value) hu => (hI.cell (p := ⟨p, off + j * 4 + q, none⟩) hplt).trans (hrow q u hu)
   have hr' := fun (q : Nat) (u : Value) hu => (hI.cell (p := ⟨p', off' + j * 4 + q, none⟩) hplt').trans (hrow' q u hu)
   have r0 : wr.cell? ⟨p, off + j * 4, none⟩ = some (.int .i64 k) := hr 0 _ rfl
   have r1 : wr.cell? ⟨p, off + j * 4 + 1, none⟩ = some (.string ty) := hr 1 _ rfl
   have r2 : wr.cell? ⟨p, off + j * 4 + 2, none⟩ = some (.int .i64 x1) := hr 2 _ rfl
   have r3 : wr.cell? ⟨p, off + j * 4 + 3, none⟩ = some (.int .i64 y1) := hr 3 _ rfl
   have s0 : wr.cell? ⟨p', off' + j * 4, none⟩ = some (.int .i64 k) := hr' 0 _ rfl
   have s1 : wr.cell? ⟨p', off' + j * 4 + 1, none⟩ = some (.string ty) := hr' 1 _ rfl
   have s2 : wr.cell? ⟨p', off' + j * 4 + 2, none⟩ = some (.int .i64 x1) := hr' 2 _ rfl
   have s3 : wr.cell? ⟨p', off' + j * 4 + 3, none⟩ = some (.int .i64 y1) := hr' 3 _ rfl
   have hq1 : p < wr.heap.size := Nat.lt_of_lt_of_le hplt hI.size
   have hq2 : p' < wr.heap.size := Nat.lt_of_lt_of_le hplt' hI.size
   clear hr hr' hrow hrow' hod hod' hx hy hdl hdl' hget hget' hGF hGG
   go_wp2_with fail
   go_quiet (fail)
   obtain ⟨V0, hV0⟩ : ∃ V0, V0 = wr.drewN nq := ⟨_, rfl⟩
   have hS0 : Below wr.heap.size wr V0 := by rw [hV0]; exact Go.below_drewN (Below.refl _ _) nq
   rw [← hV0]
   clear hV0
   go_wp2_with fail
   go_roundw
   case rel => exact ⟨j + 1, by omega, by go_num, hI.trans (hS0.mono hI.size)⟩
   case measure => first | (simp [intOf]; omega) | simp [intOf]
  ·have ji : ¬ (j : Int) < (n : Int) := by omega
   have hI9 := Hi hI
   clear hlt
   go_wp2_with fail
   go_ret
   exact ⟨rfl, uh hI9⟩
end Go.Proofs.YtnkaoapnooanlaaGreat.cu
