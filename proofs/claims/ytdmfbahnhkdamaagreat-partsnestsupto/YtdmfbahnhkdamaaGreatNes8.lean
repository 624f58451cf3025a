import Derived.Test.YtdmfbahnhkdamaaGreatNes7
import Derived.Test.YtdmfbahnhkdamaaGreatNes2
import Derived.Laws.CopyOwn
namespace Go.Proofs.YtdmfbahnhkdamaaGreat.cu
open dt (Dt Kp RowAt Ow Grow)
set_option linter.unusedVariables false
set_option linter.unusedSimpArgs false
abbrev LitR := Cu → Option Dt × Cu
theorem want_dead {c : Cu} (h : c.kd ≠ 0) (p : ByteArray) : c.want p = c := by unfold Cu.want; rw [isP_dead h]; exact stop_dead _ _ h
theorem name_still {c : Cu} (h : c.kd ≠ 0) : c.name = c := by unfold Cu.name; rw [isN_dead h]; exact stop_dead _ _ h
end Go.Proofs.YtdmfbahnhkdamaaGreat.cu
namespace Go.Proofs.YtdmfbahnhkdamaaGreat.cu
open dt (Dt Kp RowAt Ow Grow)
set_option linter.unusedVariables false
set_option linter.unusedSimpArgs false
/-- one reading behind another -/
def bnd {A X : Type} (E : Cu → A × Cu) (F : A → Cu → X × Cu) : Cu → X × Cu := fun c => F (E c).1 (E c).2
def ret {A : Type} (a : A) : Cu → A × Cu := fun c => (a, c)
def tokR : Cu → Tk × Cu := fun c => (c.tok, c)
def isPR (p : ByteArray) : Cu → Bool × Cu := fun c => (c.isP p, c)
def aliveR : Cu → Bool × Cu := fun c => (decide (c.kd = 0), c)
def nR : Cu → (Bool × ByteArray) × Cu := fun c => ((c.isN, c.tok.tx), c.name)
def wantR (p : ByteArray) : Cu → Unit × Cu := fun c => ((), c.want p)
def punctR (p : ByteArray) : Cu → Bool × Cu := fun c => (c.isP p, c.punct p)
def stopR {A : Type} (a : A) : Cu → A × Cu := fun c => (a, c.stop 70)
/-- it keeps what every step keeps -/
def St {A : Type} (E : Cu → A × Cu) : Prop := ∀ c, c.Ok → Stp c (E c).2
theorem St.bnd {A X : Type} {E : Cu → A × Cu} {F : A → Cu → X × Cu} (h : St E) (k : ∀ a, St (F a)) : St (bnd E F) := fun c hc => (h c hc).trans (k _ _ (h c hc).ok)
theorem Goes.st {A : Type} {E : Cu → Option A × Cu} (h : Goes E) : St E := fun c hc => (h c hc).1
theorem ret_st {A : Type} (a : A) : St (ret a) := fun c h => Stp.refl h
theorem tokR_st : St tokR := fun c h => Stp.refl h
theorem isPR_st (p : ByteArray) : St (isPR p) := fun c h => Stp.refl h
theorem aliveR_st : St aliveR := fun c h => Stp.refl h
theorem nR_st : St nR := fun c h => name_stp h
theorem wantR_st (p : ByteArray) : St (wantR p) := fun c h => want_stp h p
theorem punctR_st (p : ByteArray) : St (punctR p) := fun c h => punct_stp h p
theorem stopR_st {A : Type} (a : A) : St (stopR a) := fun c h => stop_stp h 70
/-- a reading that looks no further than it goes -/
def NearA {A : Type} (m : Nat) (E E' : Cu → A × Cu) (b b' : Nat) : Prop := ∀ c c', c.Ok → c'.Ok → Sim m c c' → c.ts.length ≤ b + c.ix → c'.ts.length ≤ b' + c'.ix → (E c).2.ix ≤ m → (E' c').1 = (E c).1 ∧ Sim m (E c).2 (E' c').2
theorem Near.a {A : Type} {m : Nat} {E E' : Cu → Option A × Cu} {b b' : Nat} (h : Near m E E' b b') : NearA m E E' b b' := h
section
variable {m b b' : Nat}
theorem NearA.mono {A : Type} {E E' : Cu → A × Cu} {d d' : Nat} (h : NearA m E E' b b') (h1 : d ≤ b) (h2 : d' ≤ b') : NearA m E E' d d' := fun c c' hc hc' hs hb hb' hm => h c c' hc hc' hs (by omega) (by omega) hm
end
end Go.Proofs.YtdmfbahnhkdamaaGreat.cu
namespace Go.Proofs.YtdmfbahnhkdamaaGreat.cu
open dt (Dt Kp RowAt Ow Grow)
set_option linter.unusedVariables false
set_option linter.unusedSimpArgs false
theorem bb (x : Bool) : x = false ∨ x = true := by cases x; exact .inl rfl; exact .inr rfl
theorem dirS_eq (L : LitR) : ∀ c : Cu, c.isP bAt = true → dirS L c = (bnd tokR fun t => bnd (punctR bAt) fun _ => bnd nR fun n => bnd (argsS L) fun r => ret (r.map fun l => dirD n.2 l t.ln t.co)) c := by
  intro c h
  simp only [dirS, bnd, tokR, punctR, nR, ret, Cu.punct, h, if_true, cond_true]
  cases (argsS L c.take.name).1 <;> rfl
end Go.Proofs.YtdmfbahnhkdamaaGreat.cu
namespace Go.Proofs.YtdmfbahnhkdamaaGreat.cu
open dt (Dt Kp RowAt Ow Grow)
set_option linter.unusedVariables false
set_option linter.unusedSimpArgs false
section
variable {m b b' : Nat}
end
end Go.Proofs.YtdmfbahnhkdamaaGreat.cu
namespace Go.Proofs.YtdmfbahnhkdamaaGreat.cu
open dt (Dt Kp RowAt Ow Grow)
set_option linter.unusedVariables false
set_option linter.unusedSimpArgs false
section
variable {m b b' : Nat}
end
end Go.Proofs.YtdmfbahnhkdamaaGreat.cu
namespace Go.Proofs.YtdmfbahnhkdamaaGreat.cu
open dt (Dt Kp RowAt Ow Grow)
set_option linter.unusedVariables false
set_option linter.unusedSimpArgs false
/-- what a token does to the number of open brackets -/
def dlt (t : Tk) : Int := if t.k = 2 then (if t.tx = bLp ∨ t.tx = bLb ∨ t.tx = bLc then 1 else if t.tx = bRp ∨ t.tx = bRb ∨ t.tx = bRc then -1 else 0) else 0
def dpt (ts : List Tk) : Nat → Int
  | 0 => 0
  | i + 1 => dpt ts i + dlt (ts.getD i Tk.zero)
theorem dpt_tok (c : Cu) : dpt c.ts (c.ix + 1) = dpt c.ts c.ix + dlt c.tok := rfl
def pk (p : ByteArray) : Tk := ⟨2, 0, 0, 0, 0, p, em⟩
theorem dlt_pk {t : Tk} {p : ByteArray} (hk : t.k = 2) (hp : t.tx = p) : dlt t = dlt (pk p) := by unfold dlt pk; rw [hk, hp]
theorem dlt_k {t : Tk} (hk : t.k ≠ 2) : dlt t = 0 := if_neg hk
theorem dlt_isP {c : Cu} {p : ByteArray} (h : c.isP p = true) : dlt c.tok = dlt (pk p) := dlt_pk (isP_k h).2.1 (isP_k h).2.2
theorem dlt_isN {c : Cu} (h : c.isN = true) : dlt c.tok = 0 := dlt_k (by rw [(isN_k h).2]; decide)
/-- no bracket is one too many among the first i tokens -/
def Low (M : Nat) (ts : List Tk) (i : Nat) : Prop := ∀ j, j < i → dpt ts (j + 1) ≤ (M : Int)
theorem Low.top {M : Nat} {ts : List Tk} {i : Nat} (h : Low M ts i) : dpt ts i ≤ (M : Int) := by
  cases i with
  | zero => exact Int.natCast_nonneg M
  | succ i => exact h i (Nat.lt_succ_self _)
theorem Low.succ {M : Nat} {ts : List Tk} {i : Nat} (h : Low M ts i) (h1 : dpt ts (i + 1) ≤ (M : Int)) : Low M ts (i + 1) := by
  intro j hj
  rcases Nat.lt_or_ge j i with g | g
  · exact h j g
  · obtain rfl : j = i := by omega
    exact h1
def Cu.at (c : Cu) (M : Nat) : Cu := ⟨c.ts, c.ix, c.op, M, c.kd⟩
def Inv (c : Cu) : Prop := (c.op : Int) = dpt c.ts c.ix
/-- at a lower depth it ends at the bracket that is one too many -/
def Dd (M : Nat) (c : Cu) (e : Nat) (u : Cu) : Prop := ∃ j o, c.ix ≤ j ∧ j < e ∧ Low M c.ts j ∧ (M : Int) < dpt c.ts (j + 1) ∧ u = ⟨c.ts, j, o, M, 71⟩
theorem Dd.dead {M : Nat} {c : Cu} {e : Nat} {u : Cu} (h : Dd M c e u) : u.kd ≠ 0 := by
  obtain ⟨j, o, _, _, _, _, rfl⟩ := h
  show (71 : Int) ≠ 0
  decide
theorem Dd.to {M : Nat} {c : Cu} {e e' : Nat} {u : Cu} (h : Dd M c e u) (he : e ≤ e') : Dd M c e' u := by
  obtain ⟨j, o, h1, h2, h3, h4, h5⟩ := h
  exact ⟨j, o, h1, by omega, h3, h4, h5⟩
theorem Dd.of {M : Nat} {a c : Cu} {e : Nat} {u : Cu} (s : Stp a c) (h : Dd M c e u) : Dd M a e u := by
  obtain ⟨j, o, h1, h2, h3, h4, h5⟩ := h
  rw [s.ts] at h3 h4 h5
  exact ⟨j, o, Nat.le_trans s.ix h1, h2, h3, h4, h5⟩
def Sti {A : Type} (E : Cu → A × Cu) : Prop := ∀ c, c.kd ≠ 0 → (E c).2 = c
def Bal {A : Type} (E : Cu → A × Cu) (b : Nat) : Prop := ∀ c, c.Ok → c.ts.length ≤ b + c.ix → Inv c → c.kd = 0 → (E c).2.kd = 0 → (E c).2.op = c.op ∧ Inv (E c).2
def Dep {A : Type} (M : Nat) (E : Cu → A × Cu) (b : Nat) : Prop := ∀ c, c.Ok → c.ts.length ≤ b + c.ix → Inv c → c.kd = 0 → (E c).2.kd = 0 → Low M c.ts c.ix → (Low M c.ts (E c).2.ix ∧ E (c.at M) = ((E c).1, (E c).2.at M)) ∨ Dd M c (E c).2.ix (E (c.at M)).2
structure Ok3 {A : Type} (M : Nat) (E : Cu → A × Cu) (b : Nat) : Prop where
  st : St E
  sti : Sti E
  bal : Bal E b
  dep : Dep M E b
section
variable {M b : Nat}
theorem Ok3.bnd {A X : Type} {E : Cu → A × Cu} {F : A → Cu → X × Cu} (h : Ok3 M E b) (k : ∀ a, Ok3 M (F a) b) : Ok3 M (bnd E F) b := by
  have live : ∀ c, (F (E c).1 (E c).2).2.kd = 0 → (E c).2.kd = 0 := fun c hk => Classical.byContradiction fun x => by rw [(k _).sti _ x] at hk; exact x hk
  refine ⟨h.st.bnd fun a => (k a).st, fun c hc => ?_, fun c hc hb hi h0 hk => ?_, fun c hc hb hi h0 hk hl => ?_⟩
  · show (F (E c).1 (E c).2).2 = c
    rw [h.sti c hc, (k _).sti c hc]
  · have k0 := live c hk
    have s1 := h.st c hc
    obtain ⟨o1, i1⟩ := h.bal c hc hb hi h0 k0
    obtain ⟨o2, i2⟩ := (k (E c).1).bal (E c).2 s1.ok (by rw [s1.ts]; have := s1.ix; omega) i1 k0 hk
    exact ⟨o2.trans o1, i2⟩
  · have k0 := live c hk
    have s1 := h.st c hc
    have s2 := (k (E c).1).st _ s1.ok
    obtain ⟨o1, i1⟩ := h.bal c hc hb hi h0 k0
    show (Low M c.ts (F (E c).1 (E c).2).2.ix ∧ F (E (c.at M)).1 (E (c.at M)).2 = ((F (E c).1 (E c).2).1, (F (E c).1 (E c).2).2.at M)) ∨ Dd M c (F (E c).1 (E c).2).2.ix (F (E (c.at M)).1 (E (c.at M)).2).2
    rcases h.dep c hc hb hi h0 k0 hl with ⟨l1, e1⟩ | d1
    · rw [e1]
      rcases (k (E c).1).dep (E c).2 s1.ok (by rw [s1.ts]; have := s1.ix; omega) i1 k0 hk (by rw [s1.ts]; exact l1) with ⟨l2, e2⟩ | d2
      · rw [s1.ts] at l2
        exact .inl ⟨l2, e2⟩
      · exact .inr (d2.of s1)
    · right
      rw [(k _).sti _ d1.dead]
      exact d1.to s2.ix
theorem Ok3.mono {A : Type} {E : Cu → A × Cu} {d : Nat} (h : Ok3 M E b) (hd : d ≤ b) : Ok3 M E d := ⟨h.st, h.sti, fun c hc hb => h.bal c hc (by omega), fun c hc hb => h.dep c hc (by omega)⟩
theorem prim3 {A : Type} {E : Cu → A × Cu} (st : St E) (sti : Sti E) (h1 : ∀ c, c.kd = 0 → (E c).2.kd = 0 → (E c).2 = c ∨ ((E c).2 = c.take ∧ dlt c.tok = 0)) (h2 : ∀ c, E (Cu.at c M) = ((E c).1, (E c).2.at M)) : Ok3 M E b := by
  refine ⟨st, sti, fun c hc hb hi h0 hk => ?_, fun c hc hb hi h0 hk hl => .inl ⟨?_, h2 c⟩⟩
  · rcases h1 c h0 hk with e | ⟨e, hd⟩
    · rw [e]; exact ⟨rfl, hi⟩
    · rw [e]
      refine ⟨rfl, ?_⟩
      show (c.op : Int) = dpt c.ts (c.ix + 1)
      rw [dpt_tok, hd, Int.add_zero]
      exact hi
  · rcases h1 c h0 hk with e | ⟨e, hd⟩
    · rw [e]; exact hl
    · rw [e]
      refine hl.succ ?_
      rw [dpt_tok, hd, Int.add_zero]
      exact hl.top
theorem id3 {A : Type} (f : Cu → A) (hf : ∀ c, f (Cu.at c M) = f c) : Ok3 M (fun c => (f c, c)) b := prim3 (fun c h => Stp.refl h) (fun c h => rfl) (fun c h0 hk => .inl rfl) (fun c => by rw [hf c])
theorem ret_3 {A : Type} (a : A) : Ok3 M (ret a) b := id3 _ fun c => rfl
theorem tokR_3 : Ok3 M tokR b := id3 _ fun c => rfl
theorem isPR_3 (p : ByteArray) : Ok3 M (isPR p) b := id3 _ fun c => rfl
theorem aliveR_3 : Ok3 M aliveR b := id3 _ fun c => rfl
theorem stop_at (c : Cu) (k : Int) : (c.at M).stop k = (c.stop k).at M := by
  show (if c.kd = 0 then _ else c.at M) = _
  unfold Cu.stop
  split <;> rfl
theorem stop_kd0 {c : Cu} {k : Int} (hk : k ≠ 0) (h : (c.stop k).kd = 0) : False := stop_kd c k hk h
theorem nmC_at (c : Cu) (so : Bool) : (c.at M).nmC so = (c.nmC so).at M := by
  cases so
  · exact stop_at c 70
  · rfl
theorem nmC_1 {c : Cu} {so : Bool} (hs : so = true → c.isN = true) (hk : (c.nmC so).kd = 0) : c.nmC so = c ∨ (c.nmC so = c.take ∧ dlt c.tok = 0) := by
  cases so
  · exact (stop_kd0 (by decide) hk).elim
  · exact .inr ⟨rfl, dlt_isN (hs rfl)⟩
theorem nR_3 : Ok3 M nR b := prim3 nR_st (fun c h => name_still h) (fun c h0 hk => nmC_1 (fun e => e) hk) (fun c => by
  show ((c.isN, c.tok.tx), (c.at M).nmC c.isN) = ((c.isN, c.tok.tx), (c.nmC c.isN).at M)
  rw [nmC_at])
theorem punctR_3 (p : ByteArray) (hp : dlt (pk p) = 0) : Ok3 M (punctR p) b := prim3 (punctR_st p) (fun c h => by
  show c.punct p = c
  unfold Cu.punct; rw [isP_dead h]; rfl) (fun c h0 hk => by
  show c.punct p = c ∨ (c.punct p = c.take ∧ dlt c.tok = 0)
  unfold Cu.punct
  split
  · exact .inr ⟨rfl, (dlt_isP ‹_›).trans hp⟩
  · exact .inl rfl) (fun c => by
  show (c.isP p, if c.isP p then (c.at M).take else c.at M) = (c.isP p, (c.punct p).at M)
  unfold Cu.punct
  split <;> rfl)
theorem wantR_3 (p : ByteArray) (hp : dlt (pk p) = 0) : Ok3 M (wantR p) b := prim3 (wantR_st p) (fun c h => want_dead h p) (fun c h0 hk => by
  have hk' : (c.want p).kd = 0 := hk
  show c.want p = c ∨ (c.want p = c.take ∧ dlt c.tok = 0)
  unfold Cu.want at hk' ⊢
  split
  · exact .inr ⟨rfl, (dlt_isP ‹_›).trans hp⟩
  · rename_i h; rw [if_neg h] at hk'; exact (stop_kd0 (by decide) hk').elim) (fun c => by
  show ((), if c.isP p then (c.at M).take else (c.at M).stop 70) = ((), (c.want p).at M)
  unfold Cu.want
  split
  · rfl
  · rw [stop_at])
theorem stopR_3 {A : Type} (a : A) : Ok3 M (stopR a) b := prim3 (stopR_st a) (fun c h => stop_dead _ _ h) (fun c h0 hk => (stop_kd0 (by decide) hk).elim) (fun c => by
  show (a, (c.at M).stop 70) = (a, (c.stop 70).at M)
  rw [stop_at])
theorem cond_3 {A : Type} {q : Bool} {E F : Cu → A × Cu} (h : Ok3 M E b) (k : Ok3 M F b) : Ok3 M (cond q E F) b := by cases q; exact k; exact h
/-- a token of this kind is taken -/
def takeK (k : Int) : Cu → Unit × Cu := fun c => ((), if c.kd = 0 ∧ c.tok.k = k then c.take else c)
theorem takeK_st (k : Int) (h0 : k ≠ 0) (h1 : k ≠ 1) : St (takeK k) := fun c h => by
  show Stp c (if c.kd = 0 ∧ c.tok.k = k then c.take else c)
  split
  · rename_i e; exact take_stp h (by rw [e.2]; exact h0) (by rw [e.2]; exact h1)
  · exact Stp.refl h
theorem takeK_3 (k : Int) (h0 : k ≠ 0) (h1 : k ≠ 1) (h2 : k ≠ 2) : Ok3 M (takeK k) b := prim3 (takeK_st k h0 h1) (fun c h => if_neg fun e => h e.1) (fun c h0 hk => by
  show (if c.kd = 0 ∧ c.tok.k = k then c.take else c) = c ∨ ((if c.kd = 0 ∧ c.tok.k = k then c.take else c) = _ ∧ _)
  split
  · rename_i e; exact .inr ⟨rfl, dlt_k (by rw [e.2]; exact h2)⟩
  · exact .inl rfl) (fun c => by
  show ((), if c.kd = 0 ∧ c.tok.k = k then (c.at M).take else c.at M) = ((), (if c.kd = 0 ∧ c.tok.k = k then c.take else c).at M)
  split <;> rfl)
/- brackets -/
theorem brkF_sti {E : LitR} (hE : Sti E) (r : ByteArray) (least : Nat) {c : Cu} (h : c.kd ≠ 0) : ∀ (g : Nat) (l : List Dt), (brkF E r least g l c).2 = c
  | 0, l => rfl
  | g + 1, l => by
    simp only [brkF]
    rw [if_pos (.inr (isP_dead h r))]
    cases hq : (E c).1 with
    | none => exact hE c h
    | some d => dsimp only; rw [hE c h]; exact brkF_sti hE r least h g _
theorem cls_yes {c : Cu} {r : ByteArray} (h : c.isP r = true) : c.cls r = ⟨c.ts, c.ix + 1, c.op - 1, c.mo, c.kd⟩ := if_pos h
theorem brkF_bal {E : LitR} (hG : Goes E) (hF : Faults E b) (hS : Sti E) (h : Bal E b) {r : ByteArray} (hr : dlt (pk r) = -1) (least : Nat) : ∀ (g : Nat) (l : List Dt) (c : Cu), c.Ok → c.ts.length ≤ b + c.ix → c.ts.length ≤ g + c.ix → Inv c → c.kd = 0 → 1 ≤ c.op → (brkF E r least g l c).2.kd = 0 → (brkF E r least g l c).2.op + 1 = c.op ∧ Inv (brkF E r least g l c).2
  | 0, l, c, hc, hb, hg, hi, h0, ho, hk => by have := hc.lt; omega
  | g + 1, l, c, hc, hb, hg, hi, h0, ho, hk => by
    simp only [brkF] at hk ⊢
    by_cases hq : l.length < least ∨ c.isP r = false
    · rw [if_pos hq] at hk ⊢
      have hgo := hG c hc
      cases he : (E c).1 with
      | none => rw [he] at hk; exact absurd hk (hF c hc hb he)
      | some d =>
        rw [he] at hk
        have k0 : (E c).2.kd = 0 := Classical.byContradiction fun x => by
          dsimp only at hk
          rw [brkF_sti hS r least x] at hk
          exact x hk
        obtain ⟨o1, i1⟩ := h c hc hb hi h0 k0
        have i2 := hgo.2 (by rw [he]; rfl)
        have ih := brkF_bal hG hF hS h hr least g (l ++ [d]) (E c).2 hgo.1.ok (by rw [hgo.1.ts]; omega) (by rw [hgo.1.ts]; omega) i1 k0 (by rw [o1]; exact ho) hk
        rw [o1] at ih
        exact ih
    · rw [if_neg hq] at hk ⊢
      have hp : c.isP r = true := by
        cases hp : c.isP r with
        | true => rfl
        | false => exact absurd (.inr hp) hq
      dsimp only
      rw [cls_yes hp]
      refine ⟨by show c.op - 1 + 1 = c.op; omega, ?_⟩
      show ((c.op - 1 : Nat) : Int) = dpt c.ts (c.ix + 1)
      rw [dpt_tok, dlt_isP hp, hr]
      have hi' : (c.op : Int) = dpt c.ts c.ix := hi
      omega
theorem brkF_dep {E : LitR} (hG : Goes E) (hF : Faults E b) (h : Ok3 M E b) {r : ByteArray} (hr : dlt (pk r) = -1) (least : Nat) : ∀ (g : Nat) (l : List Dt) (c : Cu), c.Ok → c.ts.length ≤ b + c.ix → c.ts.length ≤ g + c.ix → Inv c → c.kd = 0 → 1 ≤ c.op → (brkF E r least g l c).2.kd = 0 → Low M c.ts c.ix → (Low M c.ts (brkF E r least g l c).2.ix ∧ brkF E r least g l (c.at M) = ((brkF E r least g l c).1, (brkF E r least g l c).2.at M)) ∨ Dd M c (brkF E r least g l c).2.ix (brkF E r least g l (c.at M)).2
  | 0, l, c, hc, hb, hg, hi, h0, ho, hk, hl => by have := hc.lt; omega
  | g + 1, l, c, hc, hb, hg, hi, h0, ho, hk, hl => by
    have eP : (c.at M).isP r = c.isP r := rfl
    simp only [brkF] at hk ⊢
    rw [eP]
    by_cases hq : l.length < least ∨ c.isP r = false
    · rw [if_pos hq] at hk
      rw [if_pos hq, if_pos hq]
      have hgo := hG c hc
      cases he : (E c).1 with
      | none => rw [he] at hk; exact absurd hk (hF c hc hb he)
      | some d =>
        rw [he] at hk
        have k0 : (E c).2.kd = 0 := Classical.byContradiction fun x => by
          dsimp only at hk
          rw [brkF_sti h.sti r least x] at hk
          exact x hk
        obtain ⟨o1, i1⟩ := h.bal c hc hb hi h0 k0
        have i2 := hgo.2 (by rw [he]; rfl)
        have s2 := brkF_stp hG r least g (l ++ [d]) _ hgo.1.ok
        rcases h.dep c hc hb hi h0 k0 hl with ⟨l1, e1⟩ | d1
        · rw [e1, he]
          have ih := brkF_dep hG hF h hr least g (l ++ [d]) (E c).2 hgo.1.ok (by rw [hgo.1.ts]; omega) (by rw [hgo.1.ts]; omega) i1 k0 (by rw [o1]; exact ho) hk (by rw [hgo.1.ts]; exact l1)
          rcases ih with ⟨l2, e2⟩ | d2
          · rw [hgo.1.ts] at l2
            exact .inl ⟨l2, e2⟩
          · exact .inr (d2.of hgo.1)
        · right
          dsimp only
          have hdd := d1.dead
          cases hx : (E (c.at M)).1 with
          | none => exact d1.to s2.ix
          | some d' => dsimp only; rw [brkF_sti h.sti r least hdd]; exact d1.to s2.ix
    · rw [if_neg hq] at hk
      rw [if_neg hq, if_neg hq]
      have hp : c.isP r = true := by
        cases hp : c.isP r with
        | true => rfl
        | false => exact absurd (.inr hp) hq
      left
      rw [cls_yes hp, cls_yes (show (c.at M).isP r = true from hp)]
      refine ⟨hl.succ ?_, rfl⟩
      rw [dpt_tok, dlt_isP hp, hr]
      have := hl.top
      omega
theorem opn_yes {c : Cu} {p : ByteArray} (h : c.opB p = true) : c.isP p = true ∧ c.op < c.mo ∧ c.opn p = ⟨c.ts, c.ix + 1, c.op + 1, c.mo, c.kd⟩ := by
  unfold Cu.opB at h
  simp only [Bool.and_eq_true, decide_eq_true_eq] at h
  exact ⟨h.1, h.2, by unfold Cu.opn; rw [if_pos h.1, if_pos h.2]⟩
theorem opn_inv {c : Cu} {p : ByteArray} (hp : dlt (pk p) = 1) (h : c.opB p = true) (hi : Inv c) : Inv (c.opn p) := by
  obtain ⟨h1, h2, h3⟩ := opn_yes h
  rw [h3]
  show ((c.op + 1 : Nat) : Int) = dpt c.ts (c.ix + 1)
  rw [dpt_tok, dlt_isP h1, hp]
  have hi' : (c.op : Int) = dpt c.ts c.ix := hi
  omega
/-- a bracket at a lower depth: it is opened there too, or it is one too many -/
theorem opn_dep {c : Cu} {p : ByteArray} (hp : dlt (pk p) = 1) (h : c.opB p = true) (h0 : c.kd = 0) (hi : Inv c) (hl : Low M c.ts c.ix) : (Low M c.ts (c.ix + 1) ∧ (c.at M).opB p = true ∧ (c.at M).opn p = (c.opn p).at M) ∨ ((c.at M).opB p = false ∧ ∀ e, c.ix < e → Dd M c e ((c.at M).opn p)) := by
  obtain ⟨h1, h2, h3⟩ := opn_yes h
  have hi' : (c.op : Int) = dpt c.ts c.ix := hi
  have ht := hl.top
  have hd : dpt c.ts (c.ix + 1) = (c.op : Int) + 1 := by rw [dpt_tok, dlt_isP h1, hp, hi']
  by_cases hm : c.op < M
  · left
    have hB : (c.at M).opB p = true := by
      show (c.isP p && decide (c.op < M)) = true
      rw [h1, decide_eq_true hm]; rfl
    refine ⟨hl.succ (by rw [hd]; omega), hB, ?_⟩
    rw [(opn_yes hB).2.2, h3]
    rfl
  · right
    have hB : (c.at M).opB p = false := by
      show (c.isP p && decide (c.op < M)) = false
      rw [decide_eq_false hm, Bool.and_false]
    refine ⟨hB, fun e he => ⟨c.ix, c.op, Nat.le_refl _, he, hl, by rw [hd]; omega, ?_⟩⟩
    show (if c.isP p then (if c.op < M then _ else (c.at M).stop 71) else _) = _
    rw [if_pos h1, if_neg hm]
    show (if c.kd = 0 then _ else _) = _
    rw [if_pos h0]
    rfl
theorem brk_3 {E : LitR} (hG : Goes E) (hF : Faults E b) (h : Ok3 M E b) {l r : ByteArray} (hl : dlt (pk l) = 1) (hr : dlt (pk r) = -1) (n : Nat) : Ok3 M (brk E l r n) (b + 1) := by
  refine ⟨(brk_goes hG l r n).st, fun c hc => by rw [brk_dead E l r n hc], fun c hc hb hi h0 hk => ?_, fun c hc hb hi h0 hk hw => ?_⟩
  · have ho := opn_stp hc l
    unfold brk at hk ⊢
    by_cases hB : c.opB l = true
    · rw [if_pos hB] at hk ⊢
      obtain ⟨h1, h2, h3⟩ := opn_yes hB
      have hI := opn_inv hl hB hi
      have hkd : (c.opn l).kd = 0 := by rw [h3]; exact h0
      have hop : (c.opn l).op = c.op + 1 := by rw [h3]
      obtain ⟨q1, q2⟩ := brkF_bal hG hF h.sti h.bal hr n c.ts.length [] (c.opn l) ho.ok (by rw [ho.ts, opn_ix hB]; omega) (by rw [ho.ts]; omega) hI hkd (by omega) hk
      exact ⟨by omega, q2⟩
    · rw [if_neg hB] at hk
      exact absurd hk (opn_kd (by simpa using hB))
  · have ho := opn_stp hc l
    unfold brk at hk ⊢
    by_cases hB : c.opB l = true
    · rw [if_pos hB] at hk ⊢
      obtain ⟨h1, h2, h3⟩ := opn_yes hB
      have hI := opn_inv hl hB hi
      have hkd : (c.opn l).kd = 0 := by rw [h3]; exact h0
      have hop : (c.opn l).op = c.op + 1 := by rw [h3]
      have hix := opn_ix hB
      have s2 := brkF_stp hG r n c.ts.length [] (c.opn l) ho.ok
      rcases opn_dep hl hB h0 hi hw with ⟨l1, b1, e1⟩ | ⟨b1, d1⟩
      · rw [if_pos b1, e1]
        have := brkF_dep hG hF h hr n c.ts.length [] (c.opn l) ho.ok (by rw [ho.ts, hix]; omega) (by rw [ho.ts]; omega) hI hkd (by omega) hk (by rw [ho.ts, hix]; exact l1)
        rcases this with ⟨l2, e2⟩ | d2
        · rw [ho.ts] at l2
          exact .inl ⟨l2, e2⟩
        · exact .inr (d2.of ho)
      · rw [if_neg (by rw [b1]; decide)]
        exact .inr (d1 _ (by have := s2.ix; omega))
    · rw [if_neg hB] at hk
      exact absurd hk (opn_kd (by simpa using hB))
end
end Go.Proofs.YtdmfbahnhkdamaaGreat.cu
namespace Go.Proofs.YtdmfbahnhkdamaaGreat.cu
open dt (Dt Kp RowAt Ow Grow)
set_option linter.unusedVariables false
set_option linter.unusedSimpArgs false
theorem dl_lb : dlt (pk bLb) = 1 := by decide
theorem dl_lc : dlt (pk bLc) = 1 := by decide
theorem dl_rb : dlt (pk bRb) = -1 := by decide
theorem dl_rc : dlt (pk bRc) = -1 := by decide
theorem dl_col : dlt (pk bCol) = 0 := by decide
theorem dl_dol : dlt (pk bDol) = 0 := by decide
theorem argS_eq3 (L : LitR) : argS L = bnd tokR fun t => bnd nR fun _ => bnd (wantR bCol) fun _ => bnd L fun r => ret (r.map fun v => fldD t.tx v t.ln t.co) := by
  funext c
  simp only [argS, bnd, tokR, nR, wantR, ret]
  cases (L (c.name.want bCol)).1 <;> rfl
/-- a literal, by its first token -/
def litT (L : LitR) (ct : Bool) (t : Tk) : LitR :=
  cond (decide (t.k = 4)) (bnd (takeK 4) fun _ => ret (some (litD 2 t.tx false .nil .nil t.ln t.co)))
  (cond (decide (t.k = 5)) (bnd (takeK 5) fun _ => ret (some (litD 3 t.tx false .nil .nil t.ln t.co)))
  (cond (decide (t.k = 6)) (bnd (takeK 6) fun _ => ret (some (litD 4 t.va false .nil .nil t.ln t.co)))
  (cond (decide (t.k = 7)) (bnd (takeK 7) fun _ => ret (some (litD 4 t.va true .nil .nil t.ln t.co)))
  (cond (decide (t.k = 3)) (bnd (takeK 3) fun _ => ret (some (wordD t)))
  (bnd (isPR bDol) fun q => cond (q && !ct) (bnd (punctR bDol) fun _ => bnd nR fun n => ret (cond n.1 (some (litD 1 n.2 false .nil .nil t.ln t.co)) none))
  (bnd (isPR bLb) fun q => cond q (bnd (brk L bLb bRb 0) fun r => ret (r.map fun l => litD 8 em false (Dt.of l) .nil t.ln t.co))
  (bnd (isPR bLc) fun q => cond q (bnd (brk (argS L) bLc bRc 0) fun r => ret (r.map fun l => litD 9 em false .nil (Dt.of l) t.ln t.co))
  (stopR none))))))))
theorem takeK_eq {c : Cu} {k : Int} (h0 : c.kd = 0) (h : c.tok.k = k) : takeK k c = ((), c.take) := by unfold takeK; rw [if_pos ⟨h0, h⟩]
theorem litS_eq (L : LitR) (ct : Bool) : litS L ct = bnd aliveR fun al => cond al (bnd tokR fun t => litT L ct t) (ret none) := by
  funext c
  by_cases h0 : c.kd = 0
  · have e0 : (bnd aliveR fun al => cond al (bnd tokR fun t => litT L ct t) (ret none)) c = litT L ct c.tok c := by
      show cond (decide (c.kd = 0)) (bnd tokR fun t => litT L ct t) (ret none) c = _
      rw [decide_eq_true h0]
      rfl
    rw [e0]
    unfold litS litT
    rw [if_neg (by simpa using h0)]
    by_cases h4 : c.tok.k = 4
    · rw [if_pos h4, decide_eq_true h4]
      simp only [cond_true, bnd, ret, takeK_eq h0 h4]
    rw [if_neg h4, decide_eq_false h4]
    simp only [cond_false]
    by_cases h5 : c.tok.k = 5
    · rw [if_pos h5, decide_eq_true h5]
      simp only [cond_true, bnd, ret, takeK_eq h0 h5]
    rw [if_neg h5, decide_eq_false h5]
    simp only [cond_false]
    by_cases h6 : c.tok.k = 6
    · rw [if_pos (.inl h6), decide_eq_true h6]
      have h7 : ¬ c.tok.k = 7 := by omega
      simp only [cond_true, bnd, ret, takeK_eq h0 h6, decide_eq_false h7]
    rw [decide_eq_false h6]
    simp only [cond_false]
    by_cases h7 : c.tok.k = 7
    · rw [if_pos (.inr h7), decide_eq_true h7]
      simp only [cond_true, bnd, ret, takeK_eq h0 h7]
    rw [if_neg (by omega), decide_eq_false h7]
    simp only [cond_false]
    by_cases h3 : c.tok.k = 3
    · rw [if_pos h3, decide_eq_true h3]
      simp only [cond_true, bnd, ret, takeK_eq h0 h3]
    rw [if_neg h3, decide_eq_false h3]
    simp only [cond_false]
    show _ = (cond (c.isP bDol && !ct) _ _ : Cu → Option Dt × Cu) c
    by_cases hd : c.isP bDol = true ∧ ct = false
    · rw [if_pos hd, hd.1, hd.2]
      simp only [Bool.not_false, Bool.and_self, cond_true, bnd, punctR, nR, ret, Cu.punct, hd.1, if_true, varS]
      rcases bb c.take.isN with g | g <;> simp [g]
    rw [if_neg hd]
    have hd' : (c.isP bDol && !ct) = false := by
      cases h1 : c.isP bDol
      · rfl
      · cases ct
        · exact absurd ⟨h1, rfl⟩ hd
        · rfl
    rw [hd']
    simp only [cond_false]
    show _ = (cond (c.isP bLb) _ _ : Cu → Option Dt × Cu) c
    rcases bb (c.isP bLb) with g | g
    · rw [g, if_neg (by decide)]
      simp only [cond_false]
      show _ = (cond (c.isP bLc) _ _ : Cu → Option Dt × Cu) c
      rcases bb (c.isP bLc) with k | k
      · rw [k, if_neg (by decide)]
        rfl
      · rw [k, if_pos rfl]
        simp only [cond_true, bnd, ret, objS]
        cases (brk (argS L) bLc bRc 0 c).1 <;> rfl
    · rw [g, if_pos rfl]
      simp only [cond_true, bnd, ret, listS]
      cases (brk L bLb bRb 0 c).1 <;> rfl
  · show litS L ct c = cond (decide (c.kd = 0)) (bnd tokR fun t => litT L ct t) (ret none) c
    rw [decide_eq_false h0]
    unfold litS
    rw [if_pos h0]
    rfl
section
variable {M b : Nat}
theorem argS_3 {L : LitR} (h : Ok3 M L b) : Ok3 M (argS L) b := by
  rw [argS_eq3]
  exact tokR_3.bnd fun _ => nR_3.bnd fun _ => (wantR_3 _ dl_col).bnd fun _ => h.bnd fun _ => ret_3 _
theorem litS_3 {L : LitR} (hG : Goes L) (hF : Faults L b) (h : Ok3 M L b) (ct : Bool) : Ok3 M (litS L ct) (b + 1) := by
  rw [litS_eq]
  have hK : ∀ (k : Int) (v : Option Dt), k ≠ 0 → k ≠ 1 → k ≠ 2 → Ok3 M (bnd (takeK k) fun _ => ret v) (b + 1) := fun k v h0 h1 h2 => (takeK_3 k h0 h1 h2).bnd fun _ => ret_3 _
  exact aliveR_3.bnd fun al => cond_3 (tokR_3.bnd fun t => cond_3 (hK _ _ (by decide) (by decide) (by decide)) (cond_3 (hK _ _ (by decide) (by decide) (by decide)) (cond_3 (hK _ _ (by decide) (by decide) (by decide)) (cond_3 (hK _ _ (by decide) (by decide) (by decide)) (cond_3 (hK _ _ (by decide) (by decide) (by decide))
    ((isPR_3 _).bnd fun q => cond_3 ((punctR_3 _ dl_dol).bnd fun _ => nR_3.bnd fun _ => ret_3 _) ((isPR_3 _).bnd fun q => cond_3 ((brk_3 hG hF h dl_lb dl_rb 0).bnd fun _ => ret_3 _) ((isPR_3 _).bnd fun q => cond_3 ((brk_3 (argS_goes hG) (argS_faults b hF) (argS_3 h) dl_lc dl_rc 0).bnd fun _ => ret_3 _) (stopR_3 _))))))))) (ret_3 _)
theorem litF_sti (ct : Bool) (f : Nat) : Sti (litF ct f) := fun c h => by
  cases f with
  | zero => rfl
  | succ f => show (litS _ ct c).2 = c; unfold litS; rw [if_pos h]
theorem litF_3 (ct : Bool) : ∀ f, Ok3 M (litF ct f) f
  | 0 => ⟨(litF_goes ct 0).st, litF_sti ct 0, fun c hc hb => by have := hc.lt; omega, fun c hc hb => by have := hc.lt; omega⟩
  | f + 1 => litS_3 (litF_goes ct f) (litF_faults ct f) (litF_3 ct f) ct
end
end Go.Proofs.YtdmfbahnhkdamaaGreat.cu
namespace Go.Proofs.YtdmfbahnhkdamaaGreat.mem
open Go.ChangeShapes Go.WideShapes Go.ChangeAt Go.RowKit
open ints (hide unhide)
set_option linter.unusedVariables false

theorem size32 : (Tryz.prog.info? 21).map (·.size) = some 1 := by kernel_rfl
theorem splice_all {α : Type} (L cs : List α) (h : L.length = cs.length) : splice L 0 cs = cs := by
  unfold splice
  rw [Nat.zero_add, List.drop_eq_nil_of_le (by omega)]
  simp
theorem own_block {w : World} {base g n cap : Nat} {e : TypeId} {xs : List Value} (h : w.ownsRow base e 1 (.slice (some ⟨g, 0, none⟩) n cap) n xs) : ∃ cur : Array Value, w.heap[g]? = some (.cells cur.toList.toArray e (0, 0)) ∧ cur.size = cap := by
  rcases h.2 with ⟨h2, _⟩ | ⟨g', cap', cur, hv, hg, hh, hnc, hcm, hcs, hx⟩
  · cases h2
  · simp only [Value.slice.injEq, Option.some.injEq, Addr.mk.injEq] at hv
    obtain ⟨⟨rfl, _, _⟩, _, rfl⟩ := hv
    exact ⟨cur, by simpa using hh, by simpa using hcs⟩
theorem row_some {k : IntKind} {w : World} {a : Option Addr} {n cap : Nat} {zs : List Int} (h : Row k w a n cap zs) (hn : 0 < n) : ∃ ad, a = some ad ∧ ∀ j u, (zs.map (Value.int k))[j]? = some u → w.cell? (ad.add j) = some u := by
  rcases h.at_ with h0 | ⟨b, off, rfl, _, _⟩
  · omega
  · exact ⟨_, rfl, h.cells _ rfl⟩
theorem own_lo {w : World} {base base' : Nat} {e : TypeId} {size : Nat} {v : Value} {n : Nat} {xs : List Value} (h : w.ownsRow base e size v n xs) (hb : base' ≤ base) : w.ownsRow base' e size v n xs :=
  ⟨h.1, h.2.imp id (fun ⟨g', r1, r2, r3, r4, r5⟩ => ⟨g', r1, r2, r3, Nat.le_trans hb r4, r5⟩)⟩
theorem newLine_any (a : Option Addr) (n c : Nat) (l : List Int) (w : World) (h : Row .i32 w a n c l) (hn : 4 * n ≤ 281474976710656) :
    Calls Tryz.prog 98 #[.slice a n c] w fun e w' => e = .returned (.slice (some ⟨w.heap.size, 0, none⟩) n n) ∧
      w'.ownsRow w.heap.size 21 1 (.slice (some ⟨w.heap.size, 0, none⟩) n n) n (l.map (Value.int .i32)) ∧ Below w.heap.size w w' := by
  obtain ⟨i0, hi, hz0, hz1, hz2⟩ := info_parts info32
  have hl : (l.map (Value.int .i32)).length = n := by simp [h.len]
  go_enter Tryz.func98, Tryz.ntmps98
  go_wp2_with (first
    | (refine wpList_make_full _ rfl _ _ 77 rfl w.heap.size 21 i0 (.int .i32 0) 1 Tryz.underlying77 hi hz0 hz1 .i64 .i64 _ _ n rfl rfl rfl rfl (by rw [hz2]; omega) (by unfold maxLen; omega) (Nat.le_refl _) ?_; intro w1 hown hgrow; have hg1 := belowNone hgrow; have hr1 := h.below hg1; obtain ⟨cur, hcur, hcs⟩ := own_block hown)
    | (refine wpList_copy_splice rfl (.tmp 7) (.tmp 8) 77 77 rfl 21 Tryz.underlying77 size32 _ _ n n n c rfl rfl w.heap.size 0 cur.toList 21 hcur (l.map (Value.int .i32)) (by rw [hl]; exact (Nat.min_self n).symm) (fun hp => ⟨rfl, row_some hr1 (by rw [hl] at hp; exact hp)⟩) (by rw [hl]; simp; omega) (ints_oneCell _ _) w.heap.size w hg1 (Nat.le_refl _) ?_; intro w2 hrow2 hb2))
  go_ret
  refine ⟨rfl, ?_, hb2⟩
  have := hrow2.out
  rw [splice_all _ _ (by rw [hl]; simpa using hcs)] at this
  exact ⟨by simp [h.len], .inr ⟨w.heap.size, n, _, rfl, Nat.le_refl _, this, Nat.le_refl _, by unfold maxLen; omega, by simp [h.len], by rw [Nat.mul_one]; exact List.take_of_length_le (by simp [h.len])⟩⟩

def toOf (l : List Int) (k : Nat) : Nat := if 1 ≤ k ∧ prB l (k - 1) = true then k - 1 else k
def cut (l : List Int) (a b : Nat) : List Int := (l.drop a).take (b - a)
def linesTo (l : List Int) : Nat → List (List Int) × Nat
  | 0 => ([], 0)
  | k + 1 => if enB l k then ((linesTo l k).1 ++ [cut l (linesTo l k).2 (toOf l k)], k + 1) else linesTo l k
def linesL (l : List Int) : List (List Int) := (linesTo l l.length).1 ++ [l.drop (linesTo l l.length).2]
theorem en_pr (l : List Int) (k : Nat) (h : prB l k = true) : enB l k = false := by
  have h2 := h
  simp only [prB, Bool.and_eq_true, beq_iff_eq] at h2
  unfold enB
  rw [h, h2.1.2]
  rfl
theorem linesTo_inv (l : List Int) (k : Nat) : (linesTo l k).2 ≤ k ∧ ((linesTo l k).2 = 0 ∨ enB l ((linesTo l k).2 - 1) = true) ∧ (linesTo l k).1.length ≤ k := by
  induction k with
  | zero => simp [linesTo]
  | succ k ih =>
    simp only [linesTo]
    split
    · rename_i h
      refine ⟨Nat.le_refl _, .inr (by simpa using h), by simp; omega⟩
    · exact ⟨by omega, ih.2.1, by omega⟩
theorem from_to (l : List Int) (k : Nat) : (linesTo l k).2 ≤ toOf l k ∧ toOf l k ≤ k := by
  have h := linesTo_inv l k
  unfold toOf
  split
  · rename_i hp
    refine ⟨?_, by omega⟩
    rcases Nat.lt_or_ge (linesTo l k).2 k with h1 | h1
    · omega
    · exfalso
      have e : (linesTo l k).2 = k := by omega
      rcases h.2.1 with h2 | h2
      · omega
      · rw [e, en_pr l (k - 1) hp.2] at h2
        cases h2
  · omega
def lineVal (g : Nat) (ln : List Int) : Value := .slice (some ⟨g, 0, none⟩) ln.length ln.length
structure LinesAt (w : World) (base : Nat) (v : Value) (gs : List Nat) (lns : List (List Int)) : Prop where
  len : gs.length = lns.length
  own : w.ownsRow base 77 1 v lns.length (List.zipWith lineVal gs lns)
  each : ∀ i, i < lns.length → w.ownsRow base 21 1 (lineVal (gs.getD i 0) (lns.getD i [])) (lns.getD i []).length ((lns.getD i []).map (Value.int .i32))
  nodup : gs.Nodup
theorem LinesAt.below {w w' : World} {base : Nat} {v : Value} {gs : List Nat} {lns : List (List Int)} (h : LinesAt w base v gs lns) (hb : Below w.heap.size w w') : LinesAt w' base v gs lns :=
  ⟨h.len, own_below h.own hb, fun i hi => own_below (h.each i hi) hb, h.nodup⟩
theorem line_block {w : World} {base g : Nat} {ln : List Int} (h : w.ownsRow base 21 1 (lineVal g ln) ln.length (ln.map (Value.int .i32))) : base ≤ g ∧ ∃ cur, w.heap[g]? = some (.cells cur 21 (0, 0)) := by
  rcases h.2 with ⟨h2, _⟩ | ⟨g', cap', cur, hv, hg, hh, _⟩
  · cases h2
  · simp only [lineVal, Value.slice.injEq, Option.some.injEq, Addr.mk.injEq] at hv
    obtain ⟨⟨rfl, _, _⟩, _, _⟩ := hv
    exact ⟨hg, cur, hh⟩
theorem outer_block {w : World} {base : Nat} {v : Value} {n : Nat} {xs : List Value} (h : w.ownsRow base 77 1 v n xs) : ∀ G, v.ownBlock = some G → ∃ cur, w.heap[G]? = some (.cells cur 77 (0, 0)) := by
  intro G hG
  rcases h.2 with ⟨rfl, _⟩ | ⟨g', cap', cur, rfl, hg, hh, _⟩
  · cases hG
  · obtain rfl := Option.some.inj hG
    exact ⟨cur, hh⟩
/-- One line more: the new line's row lies in 'w1', the outer row has been appended to. -/
theorem LinesAt.snoc {w w1 w2 : World} {base : Nat} {v v' : Value} {gs : List Nat} {lns : List (List Int)} {o : Obj} {g : Nat} {ln : List Int}
    (h : LinesAt w base v gs lns) (hg : g = w.heap.size) (hb : Below w.heap.size w w1) (hln : w1.ownsRow base 21 1 (lineVal g ln) ln.length (ln.map (Value.int .i32)))
    (hown : w2.ownsRow base 77 1 v' (lns.length + 1) (List.zipWith lineVal gs lns ++ [lineVal g ln])) (hgrow : (w1.alloc o).grownBy w2 v.ownBlock) :
    LinesAt w2 base v' (gs ++ [g]) (lns ++ [ln]) := by
  have hne : ∀ (g' : Nat) (ln' : List Int), w1.ownsRow base 21 1 (lineVal g' ln') ln'.length (ln'.map (Value.int .i32)) → w2.ownsRow base 21 1 (lineVal g' ln') ln'.length (ln'.map (Value.int .i32)) := by
    intro g' ln' h'
    refine (h'.alloc o).kept hgrow (.inr ?_)
    intro e
    obtain ⟨cur, hcur⟩ := outer_block (own_below h.own hb) g' (by rw [← e]; rfl)
    obtain ⟨_, cur', hcur'⟩ := line_block h'
    rw [hcur'] at hcur
    simp at hcur
  refine ⟨by simp [h.len], ?_, fun i hi => ?_, ?_⟩
  · rw [List.zipWith_append (by exact h.len)]
    simpa using hown
  · by_cases hi' : i < lns.length
    · have e1 : (gs ++ [g]).getD i 0 = gs.getD i 0 := by simp [List.getD, List.getElem?_append_left (show i < gs.length by rw [h.len]; exact hi')]
      have e2 : (lns ++ [ln]).getD i [] = lns.getD i [] := by simp [List.getD, List.getElem?_append_left hi']
      rw [e1, e2]
      exact hne _ _ (own_below (h.each i hi') hb)
    · have e : i = lns.length := by simp at hi; omega
      have e1 : (gs ++ [g]).getD i 0 = g := by rw [e, ← h.len]; simp [List.getD]
      have e2 : (lns ++ [ln]).getD i [] = ln := by rw [e]; simp [List.getD]
      rw [e1, e2]
      exact hne _ _ hln
  · rw [List.nodup_append]
    refine ⟨h.nodup, by simp, ?_⟩
    intro x hx y hy e
    simp at hy
    subst hy
    subst e
    obtain ⟨i, hi, rfl⟩ := List.mem_iff_getElem.1 hx
    obtain ⟨_, cur, hcur⟩ := line_block (h.each i (by rw [← h.len]; exact hi))
    have e1 : gs.getD i 0 = gs[i] := by simp [List.getD, hi]
    rw [e1, hg, Array.getElem?_eq_none (Nat.le_refl _)] at hcur
    cases hcur
end Go.Proofs.YtdmfbahnhkdamaaGreat.mem
namespace Go.Proofs.YtdmfbahnhkdamaaGreat.mem
open Go.ChangeShapes Go.WideShapes Go.ChangeAt Go.RowKit
open ints (hide unhide)
set_option linter.unusedVariables false

theorem infoSl : (Tryz.prog.info? 77).map (fun i => (i.zero, i.size, i.bytes)) = some (some (.slice none 0 0), 1, 24) := by kernel_rfl
theorem cut_len (l : List Int) (a b : Nat) (h : b ≤ l.length) : (cut l a b).length = b - a := by simp [cut]; omega
theorem Row.sub {k : IntKind} {w : World} {b off n c : Nat} {l : List Int} (hl : l.length = n) (hc : n ≤ c) {f t : Nat} (hft : f ≤ t) (ht : t ≤ n) (hbw : b < w.heap.size) (hcell : ∀ i, i < n → w.cell? ⟨b, off + i, none⟩ = some (.int k (l.getD i 0))) :
    Row k w (some ⟨b, off + f, none⟩) (t - f) (c - f) (cut l f t) := by
  refine ⟨cut_len l f t (by omega), by omega, (fun e => by cases e), .inr ⟨b, off + f, rfl, hbw, fun i hi => ?_⟩⟩
  rw [Nat.add_assoc, hcell (f + i) (by omega)]
  simp [cut, List.getD, hi]
theorem one_val (v : Value) (h : v.oneCell' = true) : ∀ u ∈ [v], u.oneCell' = true := by intro u hu; simp at hu; subst hu; exact h
theorem cellv (w : World) (x : Value) (t : TypeId) : ∀ j u, [x][j]? = some u → (w.alloc (.cells #[x] t)).cell? ((⟨w.heap.size, 0, none⟩ : Addr).add j) = some u := by
  intro j u hj
  match j, hj with
  | 0, hj => simp at hj; subst hj; simp [Addr.add]
  | (j + 1), hj => simp at hj
theorem rowZ {k : IntKind} {w : World} {a : Option Addr} {n c : Nat} (h : n = 0) (hn : a = none → c = 0) : Row k w a n c [] := ⟨by simp [h], by omega, hn, .inl h⟩
theorem linesNil (w : World) (base : Nat) : LinesAt w base (.slice none 0 0) [] [] := ⟨rfl, World.ownsRow_nil _ _ _ _, fun i hi => by simp at hi, List.nodup_nil⟩
theorem linesTo_yes {l : List Int} {k : Nat} (h : enB l k = true) : linesTo l (k + 1) = ((linesTo l k).1 ++ [cut l (linesTo l k).2 (toOf l k)], k + 1) := by simp [linesTo, h]
theorem linesTo_no {l : List Int} {k : Nat} (h : enB l k = false) : linesTo l (k + 1) = linesTo l k := by simp [linesTo, h]
/-- pairedAt(chars, k - 1), k from 0 on. -/
theorem paired_pred (a : Option Addr) (n c : Nat) (l : List Int) (k : Nat) (w : World) (h : Row .i32 w a n c l) (hn : n ≤ 9223372036854775806) (hk : k ≤ n) :
    Calls Tryz.prog 71 #[.slice a n c, .int .i64 ((k : Int) - 1)] w fun e w' => e = .returned (.bool (decide (1 ≤ k) && prB l (k - 1))) ∧ w' = w := by
  cases k with
  | zero => exact paired_neg a n c w
  | succ k =>
    have e : (((k + 1 : Nat) : Int) - 1) = (k : Int) := by omega
    rw [e]
    have := paired_nat a n c l k w h hn (by omega)
    simpa using this
set_option maxHeartbeats 2000000 in
theorem lines_any (a : Option Addr) (n c : Nat) (l : List Int) (w : World) (h : Row .i32 w a n c l) (hn : n ≤ 1099511627776) :
    Calls Tryz.prog 90 #[.slice a n c] w fun e w' => ∃ v gs, e = .returned v ∧ LinesAt w' w.heap.size v gs (linesL l) ∧ Below w.heap.size w w' := by
  obtain ⟨i0, hi, hz0, hz1, hz2⟩ := info_parts infoSl
  go_enter Tryz.func90, Tryz.ntmps90
  go_wp2
  go_loopw [3, 4, 9] (fun v f i wr => ∃ (k : Nat) (gs : List Nat), k ≤ n ∧ i = .int .i64 k ∧ f = .int .i64 ((linesTo l k).2 : Nat) ∧ LinesAt wr w.heap.size v gs (linesTo l k).1 ∧ Below w.heap.size w wr) (fun _ _ i _ => n - (intOf i).toNat)
  case atStart => exact ⟨0, [], Nat.zero_le _, rfl, rfl, linesNil _ _, Below.refl _ _⟩
  case round =>
    obtain ⟨k, gs, hk, rfl, rfl, hat, hbel⟩ := hrel
    have hinv := linesTo_inv l k
    have hft := from_to l k
    obtain ⟨F, hF⟩ : ∃ F, F = (linesTo l k).2 := ⟨_, rfl⟩
    obtain ⟨L, hL⟩ : ∃ L, L = (linesTo l k).1 := ⟨_, rfl⟩
    rw [← hF] at hinv hft ⊢
    rw [← hL] at hat hinv
    have HF := hide hF
    have HL := hide hL
    clear hF hL
    by_cases hlt : k < n
    · have hr := h.below hbel
      have P := hide (ends_any a n c l k wr hr (by omega) hlt)
      have hki : (k : Int) < (n : Int) := by omega
      cases hp : enB l k
      · rw [hp] at P
        have HP := hide hp
        clear hp
        go_wp2_with fail
        refine (unhide P).mono ?_
        rintro e w' ⟨rfl, rfl⟩
        clear P
        go_wp2
        go_roundw
        case rel => exact ⟨k + 1, gs, by omega, by go_num, by rw [linesTo_no (unhide HP), ← unhide HF], by rw [linesTo_no (unhide HP), ← unhide HL]; exact hat, hbel⟩
        case measure => simp [intOf]; omega
      · rw [hp] at P
        have HP := hide hp
        have Q := hide (paired_pred a n c l k wr hr (by omega) (by omega))
        obtain ⟨T, hT⟩ : ∃ T, T = toOf l k := ⟨_, rfl⟩
        rw [← hT] at hft
        have HT := hide hT
        rcases h.at_ with h0 | ⟨b, off, rfl, hbw, hcell⟩
        · omega
        have hle := h.le
        have hsub := Row.sub (k := .i32) (w := wr) (b := b) (off := off) (c := c) h.len hle hft.1 (show T ≤ n by omega) (Nat.lt_of_lt_of_le hbw hbel.size) (fun i hi => (hbel.cell (p := ⟨b, off + i, none⟩) hbw).trans (hcell i hi))
        have N := hide (newLine_any _ _ _ _ wr hsub (by omega))
        have hlen := cut_len l F T (by rw [h.len]; omega)
        have f1 := hft.1
        have f2 := hft.2
        have hcF : ¬ c = F := by omega
        clear hp hT hcell hsub hr
        cases hpp : (decide (1 ≤ k) && prB l (k - 1))
        · have eT : T = k := by rw [unhide HT]; unfold toOf; rw [if_neg (fun hh => by rw [decide_eq_true hh.1, hh.2] at hpp; cases hpp)]
          rw [hpp] at Q
          have HS := hide (show cut l F k = cut l F (toOf l k) from by rw [← unhide HT, eT])
          rw [eT] at N hlen f1 f2
          clear HT hpp eT hft
          go_wp2_with fail
          refine (unhide P).mono ?_
          rintro e w' ⟨rfl, rfl⟩
          clear P
          go_wp2_with fail
          refine (unhide Q).mono ?_
          rintro e w' ⟨rfl, rfl⟩
          clear Q
          go_wp2_with fail
          have hkF : 0 ≤ (k : Int) := by omega
          refine (unhide N).mono ?_
          rintro e w2 ⟨rfl, hln, hb2⟩
          have Hlen := hide hlen
          have hown2 := own_below hat.own hb2
          have hl2 : w2.ownsRow w.heap.size 21 1 (lineVal w'.heap.size (cut l F k)) (cut l F k).length ((cut l F k).map (Value.int .i32)) := by
            unfold lineVal
            rw [unhide Hlen]
            exact own_lo hln hbel.size
          have HL2 := hide hl2
          have HB2 := hide hb2
          have hsz2 := Nat.le_trans hbel.size hb2.size
          have hLk := hinv.2.2
          have HLT := hide hown2.lt
          clear N hln hlen hl2 hb2 hinv
          go_wp2_with (at_builtin; refine wpList_append_own _ rfl (.tmp 23) (.tmp 29) 136 rfl w.heap.size 77 i0 (.slice none 0 0) 1 24 Tryz.underlying136 hi hz0 hz1 hz2 rfl (by decide) _ _ _ rfl (hown2.alloc _) ⟨w2.heap.size, 0, none⟩ 1 1 [.slice (some ⟨w'.heap.size, 0, none⟩) (k - F) (k - F)] rfl rfl (cellv _ _ _) (one_val _ rfl) (by unfold maxLen; omega) (by omega) (by simp; omega) ?_; intro v' w3 hown3 hgrow3 _)
          go_roundw
          case rel =>
            have e3 : Value.slice (some ⟨w'.heap.size, 0, none⟩) (k - F) (k - F) = lineVal w'.heap.size (cut l F k) := by unfold lineVal; rw [unhide Hlen]
            rw [e3] at hown3
            have R := hat.snoc rfl (unhide HB2) (unhide HL2) hown3 hgrow3
            refine ⟨k + 1, gs ++ [w'.heap.size], by omega, by go_num, ?_, ?_, ?_⟩
            · rw [linesTo_yes (unhide HP)]; go_num
            · rw [linesTo_yes (unhide HP), ← unhide HL, ← unhide HF, ← unhide HS]; exact R
            · exact ((hbel.trans ((unhide HB2).mono hbel.size)).alloc hsz2 _).grown hgrow3 (by simp; omega) (fun k hk => (unhide HLT k hk).1)
          case measure => simp [intOf]; omega
        · have hk1 : 1 ≤ k := by simp at hpp; exact hpp.1
          have eT : T = k - 1 := by rw [unhide HT]; unfold toOf; rw [if_pos (by simpa using hpp)]
          rw [hpp] at Q
          have HS := hide (show cut l F (k - 1) = cut l F (toOf l k) from by rw [← unhide HT, eT])
          rw [eT] at N hlen f1 f2
          clear HT hpp eT hft
          go_wp2_with fail
          refine (unhide P).mono ?_
          rintro e w' ⟨rfl, rfl⟩
          clear P
          go_wp2_with fail
          refine (unhide Q).mono ?_
          rintro e w' ⟨rfl, rfl⟩
          clear Q
          go_wp2_with fail
          have hkF : 0 ≤ (k : Int) := by omega
          refine (unhide N).mono ?_
          rintro e w2 ⟨rfl, hln, hb2⟩
          have Hlen := hide hlen
          have hown2 := own_below hat.own hb2
          have hl2 : w2.ownsRow w.heap.size 21 1 (lineVal w'.heap.size (cut l F (k - 1))) (cut l F (k - 1)).length ((cut l F (k - 1)).map (Value.int .i32)) := by
            unfold lineVal
            rw [unhide Hlen]
            exact own_lo hln hbel.size
          have HL2 := hide hl2
          have HB2 := hide hb2
          have hsz2 := Nat.le_trans hbel.size hb2.size
          have hLk := hinv.2.2
          have HLT := hide hown2.lt
          clear N hln hlen hl2 hb2 hinv
          go_wp2_with (at_builtin; refine wpList_append_own _ rfl (.tmp 23) (.tmp 29) 136 rfl w.heap.size 77 i0 (.slice none 0 0) 1 24 Tryz.underlying136 hi hz0 hz1 hz2 rfl (by decide) _ _ _ rfl (hown2.alloc _) ⟨w2.heap.size, 0, none⟩ 1 1 [.slice (some ⟨w'.heap.size, 0, none⟩) ((k - 1) - F) ((k - 1) - F)] rfl rfl (cellv _ _ _) (one_val _ rfl) (by unfold maxLen; omega) (by omega) (by simp; omega) ?_; intro v' w3 hown3 hgrow3 _)
          go_roundw
          case rel =>
            have e3 : Value.slice (some ⟨w'.heap.size, 0, none⟩) ((k - 1) - F) ((k - 1) - F) = lineVal w'.heap.size (cut l F (k - 1)) := by unfold lineVal; rw [unhide Hlen]
            rw [e3] at hown3
            have R := hat.snoc rfl (unhide HB2) (unhide HL2) hown3 hgrow3
            refine ⟨k + 1, gs ++ [w'.heap.size], by omega, by go_num, ?_, ?_, ?_⟩
            · rw [linesTo_yes (unhide HP)]; go_num
            · rw [linesTo_yes (unhide HP), ← unhide HL, ← unhide HF, ← unhide HS]; exact R
            · exact ((hbel.trans ((unhide HB2).mono hbel.size)).alloc hsz2 _).grown hgrow3 (by simp; omega) (fun k hk => (unhide HLT k hk).1)
          case measure => simp [intOf]; omega
    · have hkn : k = n := by omega
      have HLL := hide (show linesL l = L ++ [l.drop F] from by unfold linesL; rw [h.len, ← hkn, ← unhide HF, ← unhide HL])
      have Hdl := hide (show (l.drop F).length = n - F from by simp [h.len])
      have hFn : F ≤ n := by omega
      have hnk : ¬ (k : Int) < (n : Int) := by omega
      have hle := h.le
      clear hft
      by_cases hpos : 0 < n
      · rcases h.at_ with h0 | ⟨b, off, rfl, hbw, hcell⟩
        · omega
        by_cases hcF : c = F
        · have hz0' : n - F = 0 := by omega
          have hnil : l.drop F = [] := List.drop_eq_nil_of_le (by rw [h.len]; omega)
          have HN := hide hnil
          have N := hide (newLine_any (some ⟨b, off, none⟩) (n - F) 0 (l.drop F) wr (by rw [hnil]; exact rowZ hz0' (fun e => by cases e)) (by omega))
          have hfi : (F : Int) ≤ (n : Int) := by omega
          clear hcell hnil hz0'
          go_wp2_with fail
          refine (unhide N).mono ?_
          rintro e w2 ⟨rfl, hln, hb2⟩
          have hown2 := own_below hat.own hb2
          have hl2 : w2.ownsRow w.heap.size 21 1 (lineVal wr.heap.size (l.drop F)) (l.drop F).length ((l.drop F).map (Value.int .i32)) := by
            unfold lineVal
            rw [unhide Hdl]
            exact own_lo hln hbel.size
          have HL2 := hide hl2
          have HB2 := hide hb2
          have hsz2 := Nat.le_trans hbel.size hb2.size
          have hLk := hinv.2.2
          have HLT := hide hown2.lt
          clear hln hl2 hb2 hinv
          go_wp2_with (at_builtin; refine wpList_append_own _ rfl (.tmp 34) (.tmp 39) 136 rfl w.heap.size 77 i0 (.slice none 0 0) 1 24 Tryz.underlying136 hi hz0 hz1 hz2 rfl (by decide) _ _ _ rfl (hown2.alloc _) ⟨w2.heap.size, 0, none⟩ 1 1 [.slice (some ⟨wr.heap.size, 0, none⟩) (n - F) (n - F)] rfl rfl (cellv _ _ _) (one_val _ rfl) (by unfold maxLen; omega) (by omega) (by simp; omega) ?_; intro v' w3 hown3 hgrow3 _)
          go_ret
          have e3 : Value.slice (some ⟨wr.heap.size, 0, none⟩) (n - F) (n - F) = lineVal wr.heap.size (l.drop F) := by unfold lineVal; rw [unhide Hdl]
          rw [e3] at hown3
          have R := hat.snoc rfl (unhide HB2) (unhide HL2) hown3 hgrow3
          rw [unhide HLL]
          exact ⟨v', _, rfl, R, ((hbel.trans ((unhide HB2).mono hbel.size)).alloc hsz2 _).grown hgrow3 (by simp; omega) (fun k hk => (unhide HLT k hk).1)⟩
        · have ecut : cut l F n = l.drop F := by unfold cut; rw [List.take_of_length_le (by simp [h.len])]
          have hsub := Row.sub (k := .i32) (w := wr) (b := b) (off := off) (c := c) h.len hle hFn (Nat.le_refl n) (Nat.lt_of_lt_of_le hbw hbel.size) (fun i hi => (hbel.cell (p := ⟨b, off + i, none⟩) hbw).trans (hcell i hi))
          rw [ecut] at hsub
          have N := hide (newLine_any _ _ _ _ wr hsub (by omega))
          have hfi : (F : Int) ≤ (n : Int) := by omega
          clear hcell hsub ecut
          go_wp2_with fail
          refine (unhide N).mono ?_
          rintro e w2 ⟨rfl, hln, hb2⟩
          have hown2 := own_below hat.own hb2
          have hl2 : w2.ownsRow w.heap.size 21 1 (lineVal wr.heap.size (l.drop F)) (l.drop F).length ((l.drop F).map (Value.int .i32)) := by
            unfold lineVal
            rw [unhide Hdl]
            exact own_lo hln hbel.size
          have HL2 := hide hl2
          have HB2 := hide hb2
          have hsz2 := Nat.le_trans hbel.size hb2.size
          have hLk := hinv.2.2
          have HLT := hide hown2.lt
          clear hln hl2 hb2 hinv
          go_wp2_with (at_builtin; refine wpList_append_own _ rfl (.tmp 34) (.tmp 39) 136 rfl w.heap.size 77 i0 (.slice none 0 0) 1 24 Tryz.underlying136 hi hz0 hz1 hz2 rfl (by decide) _ _ _ rfl (hown2.alloc _) ⟨w2.heap.size, 0, none⟩ 1 1 [.slice (some ⟨wr.heap.size, 0, none⟩) (n - F) (n - F)] rfl rfl (cellv _ _ _) (one_val _ rfl) (by unfold maxLen; omega) (by omega) (by simp; omega) ?_; intro v' w3 hown3 hgrow3 _)
          go_ret
          have e3 : Value.slice (some ⟨wr.heap.size, 0, none⟩) (n - F) (n - F) = lineVal wr.heap.size (l.drop F) := by unfold lineVal; rw [unhide Hdl]
          rw [e3] at hown3
          have R := hat.snoc rfl (unhide HB2) (unhide HL2) hown3 hgrow3
          rw [unhide HLL]
          exact ⟨v', _, rfl, R, ((hbel.trans ((unhide HB2).mono hbel.size)).alloc hsz2 _).grown hgrow3 (by simp; omega) (fun k hk => (unhide HLT k hk).1)⟩
      · have hn0 : n = 0 := by omega
        have hF0 : F = 0 := by omega
        have hl0 : l = [] := List.eq_nil_of_length_eq_zero (by rw [h.len]; exact hn0)
        have hnil' := h.nil
        subst hn0 hF0
        have Hdl0 := hide (show (l.drop 0).length = 0 from by rw [hl0]; rfl)
        have Hl0 := hide hl0
        clear hl0 Hdl
        have Hdl := Hdl0
        clear Hdl0
        cases a with
        | none =>
          have hc0 : c = 0 := hnil' rfl
          subst hc0
          have N := hide (newLine_any none 0 0 (l.drop 0) wr (by rw [unhide Hl0]; exact rowZ rfl (fun _ => rfl)) (by omega))
          clear hnil' h
          go_wp2_with fail
          refine (unhide N).mono ?_
          rintro e w2 ⟨rfl, hln, hb2⟩
          have hown2 := own_below hat.own hb2
          have hl2 : w2.ownsRow w.heap.size 21 1 (lineVal wr.heap.size (l.drop 0)) (l.drop 0).length ((l.drop 0).map (Value.int .i32)) := by
            unfold lineVal
            rw [unhide Hdl]
            exact own_lo hln hbel.size
          have HL2 := hide hl2
          have HB2 := hide hb2
          have hsz2 := Nat.le_trans hbel.size hb2.size
          have hLk := hinv.2.2
          have HLT := hide hown2.lt
          clear hln hl2 hb2 hinv
          go_wp2_with (at_builtin; refine wpList_append_own _ rfl (.tmp 34) (.tmp 39) 136 rfl w.heap.size 77 i0 (.slice none 0 0) 1 24 Tryz.underlying136 hi hz0 hz1 hz2 rfl (by decide) _ _ _ rfl (hown2.alloc _) ⟨w2.heap.size, 0, none⟩ 1 1 [.slice (some ⟨wr.heap.size, 0, none⟩) 0 0] rfl rfl (cellv _ _ _) (one_val _ rfl) (by unfold maxLen; omega) (by omega) (by simp; omega) ?_; intro v' w3 hown3 hgrow3 _)
          go_ret
          have e3 : Value.slice (some ⟨wr.heap.size, 0, none⟩) 0 0 = lineVal wr.heap.size (l.drop 0) := by unfold lineVal; rw [unhide Hdl]
          rw [e3] at hown3
          have R := hat.snoc rfl (unhide HB2) (unhide HL2) hown3 hgrow3
          rw [unhide HLL]
          exact ⟨v', _, rfl, R, ((hbel.trans ((unhide HB2).mono hbel.size)).alloc hsz2 _).grown hgrow3 (by simp; omega) (fun k hk => (unhide HLT k hk).1)⟩
        | some ad =>
          have N := hide (newLine_any (some ad) 0 c (l.drop 0) wr (by rw [unhide Hl0]; exact rowZ rfl (fun e => by cases e)) (by omega))
          by_cases hc0 : c = 0
          · subst hc0
            clear hnil' h
            go_wp2_with fail
            refine (unhide N).mono ?_
            rintro e w2 ⟨rfl, hln, hb2⟩
            have hown2 := own_below hat.own hb2
            have hl2 : w2.ownsRow w.heap.size 21 1 (lineVal wr.heap.size (l.drop 0)) (l.drop 0).length ((l.drop 0).map (Value.int .i32)) := by
              unfold lineVal
              rw [unhide Hdl]
              exact own_lo hln hbel.size
            have HL2 := hide hl2
            have HB2 := hide hb2
            have hsz2 := Nat.le_trans hbel.size hb2.size
            have hLk := hinv.2.2
            have HLT := hide hown2.lt
            clear hln hl2 hb2 hinv
            go_wp2_with (at_builtin; refine wpList_append_own _ rfl (.tmp 34) (.tmp 39) 136 rfl w.heap.size 77 i0 (.slice none 0 0) 1 24 Tryz.underlying136 hi hz0 hz1 hz2 rfl (by decide) _ _ _ rfl (hown2.alloc _) ⟨w2.heap.size, 0, none⟩ 1 1 [.slice (some ⟨wr.heap.size, 0, none⟩) 0 0] rfl rfl (cellv _ _ _) (one_val _ rfl) (by unfold maxLen; omega) (by omega) (by simp; omega) ?_; intro v' w3 hown3 hgrow3 _)
            go_ret
            have e3 : Value.slice (some ⟨wr.heap.size, 0, none⟩) 0 0 = lineVal wr.heap.size (l.drop 0) := by unfold lineVal; rw [unhide Hdl]
            rw [e3] at hown3
            have R := hat.snoc rfl (unhide HB2) (unhide HL2) hown3 hgrow3
            rw [unhide HLL]
            exact ⟨v', _, rfl, R, ((hbel.trans ((unhide HB2).mono hbel.size)).alloc hsz2 _).grown hgrow3 (by simp; omega) (fun k hk => (unhide HLT k hk).1)⟩
          · clear hnil' h
            go_wp2_with fail
            refine (unhide N).mono ?_
            rintro e w2 ⟨rfl, hln, hb2⟩
            have hown2 := own_below hat.own hb2
            have hl2 : w2.ownsRow w.heap.size 21 1 (lineVal wr.heap.size (l.drop 0)) (l.drop 0).length ((l.drop 0).map (Value.int .i32)) := by
              unfold lineVal
              rw [unhide Hdl]
              exact own_lo hln hbel.size
            have HL2 := hide hl2
            have HB2 := hide hb2
            have hsz2 := Nat.le_trans hbel.size hb2.size
            have hLk := hinv.2.2
            have HLT := hide hown2.lt
            clear hln hl2 hb2 hinv
            go_wp2_with (at_builtin; refine wpList_append_own _ rfl (.tmp 34) (.tmp 39) 136 rfl w.heap.size 77 i0 (.slice none 0 0) 1 24 Tryz.underlying136 hi hz0 hz1 hz2 rfl (by decide) _ _ _ rfl (hown2.alloc _) ⟨w2.heap.size, 0, none⟩ 1 1 [.slice (some ⟨wr.heap.size, 0, none⟩) 0 0] rfl rfl (cellv _ _ _) (one_val _ rfl) (by unfold maxLen; omega) (by omega) (by simp; omega) ?_; intro v' w3 hown3 hgrow3 _)
            go_ret
            have e3 : Value.slice (some ⟨wr.heap.size, 0, none⟩) 0 0 = lineVal wr.heap.size (l.drop 0) := by unfold lineVal; rw [unhide Hdl]
            rw [e3] at hown3
            have R := hat.snoc rfl (unhide HB2) (unhide HL2) hown3 hgrow3
            rw [unhide HLL]
            exact ⟨v', _, rfl, R, ((hbel.trans ((unhide HB2).mono hbel.size)).alloc hsz2 _).grown hgrow3 (by simp; omega) (fun k hk => (unhide HLT k hk).1)⟩
end Go.Proofs.YtdmfbahnhkdamaaGreat.mem
