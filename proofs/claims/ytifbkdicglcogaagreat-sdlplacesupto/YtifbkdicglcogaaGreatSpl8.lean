import Derived.Test.YtifbkdicglcogaaGreatSpl7
import Derived.Laws.CopyOwn
set_option linter.unusedVariables false
set_option linter.unusedSimpArgs false
namespace Go.Proofs.YtifbkdicglcogaaGreat.cu
open dt (Dt Kp RowAt Ow Grow)
def bnd {A X : Type} (E : Cu → A × Cu) (F : A → Cu → X × Cu) : Cu → X × Cu := fun c => F (E c).1 (E c).2
def ret {A : Type} (a : A) : Cu → A × Cu := fun c => (a, c)
def tokR : Cu → Tk × Cu := fun c => (c.tok, c)
def isPR (p : ByteArray) : Cu → Bool × Cu := fun c => (c.isP p, c)
def aliveR : Cu → Bool × Cu := fun c => (decide (c.kd = 0), c)
def wantR (p : ByteArray) : Cu → Unit × Cu := fun c => ((), c.want p)
def punctR (p : ByteArray) : Cu → Bool × Cu := fun c => (c.isP p, c.punct p)
def wordR (q : ByteArray) : Cu → Bool × Cu := fun c => (c.isW [q], c.word q)
def butR (ws : List ByteArray) : Cu → ByteArray × Cu := fun c => (c.nmB (c.isN && !inW ws c.tok.tx), c.nmC (c.isN && !inW ws c.tok.tx))
def wwR (ws : List ByteArray) : Cu → Bool × Cu := fun c => (c.isW ws, c.nmC (c.isW ws))
def stopR {A : Type} (a : A) : Cu → A × Cu := fun c => (a, c.stop 70)
def St {A : Type} (E : Cu → A × Cu) : Prop := ∀ c, c.Ok → Stp c (E c).2
theorem St.bnd {A X : Type} {E : Cu → A × Cu} {F : A → Cu → X × Cu} (h : St E) (k : ∀ a, St (F a)) : St (bnd E F) := fun c hc => (h c hc).trans (k _ _ (h c hc).ok)
theorem Goes.st {A : Type} {E : Cu → Option A × Cu} (h : Goes E) : St E := fun c hc => (h c hc).1
theorem ret_st {A : Type} (a : A) : St (ret a) := fun c h => Stp.refl h
theorem tokR_st : St tokR := fun c h => Stp.refl h
theorem isPR_st (p : ByteArray) : St (isPR p) := fun c h => Stp.refl h
theorem wantR_st (p : ByteArray) : St (wantR p) := fun c h => want_stp h p
theorem punctR_st (p : ByteArray) : St (punctR p) := fun c h => punct_stp h p
theorem wordR_st (q : ByteArray) : St (wordR q) := fun c h => by
 show Stp c (c.word q)
 unfold Cu.word
 split
 ·exact takeN h (isW_N ‹_›)
 ·exact Stp.refl h
theorem butR_st (ws : List ByteArray) : St (butR ws) := fun c h => nmC_stp h (fun e => by simp at e; exact e.1)
theorem wwR_st (ws : List ByteArray) : St (wwR ws) := fun c h => nmC_stp h (fun e => isW_N e)
theorem stopR_st {A : Type} (a : A) : St (stopR a) := fun c h => stop_stp h 70
theorem ite_st {A : Type} {b : Bool} {E F : Cu → A × Cu} (h : St E) (k : St F) : St (cond b E F) := by cases b; exact k; exact h
def KdP {A : Type} (E : Cu → A × Cu) : Prop := ∀ c, Kd c → Kd (E c).2
def NearA {A : Type} (m : Nat) (E E' : Cu → A × Cu) (b b' : Nat) : Prop := ∀ c c', c.Ok → c'.Ok → Sim m c c' → c.ts.length ≤ b + c.ix → c'.ts.length ≤ b' + c'.ix → (E c).2.ix ≤ m → (E' c').1 = (E c).1 ∧ Sim m (E c).2 (E' c').2
section
variable {m b b' : Nat}
end
theorem bb (x : Bool) : x = false ∨ x = true := by cases x; exact .inl rfl; exact .inr rfl
theorem dirs_st {L : LitR} (hG : Goes L) : St (dirs L) := fun c h => dirs_stp hG h
theorem typF_st (f : Nat) : St (typF f) := fun c h => (typF_goes f c h).1
section
variable {m b b' : Nat}
end
section
variable {m b b' : Nat}
end
def bAmp : ByteArray := ⟨#[38]⟩
def bPipe : ByteArray := ⟨#[124]⟩
def bImpl : ByteArray := ⟨#[105, 109, 112, 108, 101, 109, 101, 110, 116, 115]⟩
def bRep : ByteArray := ⟨#[114, 101, 112, 101, 97, 116, 97, 98, 108, 101]⟩
def bExt : ByteArray := ⟨#[101, 120, 116, 101, 110, 100]⟩
def bSchema : ByteArray := ⟨#[115, 99, 104, 101, 109, 97]⟩
def bScalar : ByteArray := ⟨#[115, 99, 97, 108, 97, 114]⟩
def bType : ByteArray := ⟨#[116, 121, 112, 101]⟩
def bIface : ByteArray := ⟨#[105, 110, 116, 101, 114, 102, 97, 99, 101]⟩
def bUnion : ByteArray := ⟨#[117, 110, 105, 111, 110]⟩
def bEnum : ByteArray := ⟨#[101, 110, 117, 109]⟩
def bInput : ByteArray := ⟨#[105, 110, 112, 117, 116]⟩
def bDirec : ByteArray := ⟨#[100, 105, 114, 101, 99, 116, 105, 118, 101]⟩
def bPlaces : List ByteArray := [⟨#[81, 85, 69, 82, 89]⟩, ⟨#[77, 85, 84, 65, 84, 73, 79, 78]⟩, ⟨#[83, 85, 66, 83, 67, 82, 73, 80, 84, 73, 79, 78]⟩, ⟨#[70, 73, 69, 76, 68]⟩, ⟨#[70, 82, 65, 71, 77, 69, 78, 84, 95, 68, 69, 70, 73, 78, 73, 84, 73, 79, 78]⟩, ⟨#[70, 82, 65, 71, 77, 69, 78, 84, 95, 83, 80, 82, 69, 65, 68]⟩, ⟨#[73, 78, 76, 73, 78, 69, 95, 70, 82, 65, 71, 77, 69, 78, 84]⟩, ⟨#[86, 65, 82, 73, 65, 66, 76, 69, 95, 68, 69, 70, 73, 78, 73, 84, 73, 79, 78]⟩, ⟨#[83, 67, 72, 69, 77, 65]⟩, ⟨#[83, 67, 65, 76, 65, 82]⟩, ⟨#[79, 66, 74, 69, 67, 84]⟩, ⟨#[70, 73, 69, 76, 68, 95, 68, 69, 70, 73, 78, 73, 84, 73, 79, 78]⟩, ⟨#[65, 82, 71, 85, 77, 69, 78, 84, 95, 68, 69, 70, 73, 78, 73, 84, 73, 79, 78]⟩, ⟨#[73, 78, 84, 69, 82, 70, 65, 67, 69]⟩, ⟨#[85, 78, 73, 79, 78]⟩, ⟨#[69, 78, 85, 77]⟩, ⟨#[69, 78, 85, 77, 95, 86, 65, 76, 85, 69]⟩, ⟨#[73, 78, 80, 85, 84, 95, 79, 66, 74, 69, 67, 84]⟩, ⟨#[73, 78, 80, 85, 84, 95, 70, 73, 69, 76, 68, 95, 68, 69, 70, 73, 78, 73, 84, 73, 79, 78]⟩]
abbrev Nm := ByteArray × Int × Int
def nm3 (t : Tk) (so : Bool) : Nm := if so then (t.tx, t.ln, t.co) else (em, 0, 0)
def namD (x : Nm) : Dt := .val (.string x.1) (.val (.int .i64 x.2.1) (.val (.int .i64 x.2.2) .nil))
def namR : Cu → Nm × Cu := fun c => (nm3 c.tok c.isN, c.name)
def butN (ws : List ByteArray) : Cu → Nm × Cu := fun c => (nm3 c.tok (c.isN && !inW ws c.tok.tx), c.nmC (c.isN && !inW ws c.tok.tx))
def wwN (ws : List ByteArray) : Cu → Nm × Cu := fun c => (nm3 c.tok (c.isW ws), c.nmC (c.isW ws))
abbrev Nt := Bool × Bool × ByteArray
def Cu.isS (c : Cu) : Bool := decide (c.kd = 0 ∧ (c.tok.k = 6 ∨ c.tok.k = 7))
def noteR : Cu → Nt × Cu := fun c => if c.isS then ((true, decide (c.tok.k = 7), c.tok.va), c.take) else ((false, false, em), c)
def optR (E : Cu → Dt × Cu) : Cu → Option Dt × Cu := bnd E fun d => bnd aliveR fun a => ret (cond a (some d) none)
def brkT (E : Cu → Dt × Cu) (l r : ByteArray) : Cu → List Dt × Cu := bnd (brk (optR E) l r 1) fun x => ret (x.getD [])
def optT (E : Cu → Dt × Cu) (l r : ByteArray) : Cu → List Dt × Cu := bnd (isPR l) fun q => cond q (brkT E l r) (ret [])
def parF (E : Cu → Nm × Cu) (mark : ByteArray) : Nat → List Dt → Cu → List Dt × Cu
 | 0, l => ret l
 | g + 1, l => bnd (punctR mark) fun q => cond q (bnd E fun d => parF E mark g (l ++ [namD d])) (ret l)
def parT (N : Nat) (E : Cu → Nm × Cu) (mark : ByteArray) : Cu → List Dt × Cu := bnd (punctR mark) fun _ => bnd E fun d => parF E mark N [namD d]
def tyN (t : Option (ByteArray × ByteArray)) : ByteArray := (t.map (·.1)).getD em
def tyW (t : Option (ByteArray × ByteArray)) : ByteArray := (t.map (·.2)).getD em
def ntD (n : Nt) (r : Dt) : Dt := .val (.bool n.1) (.val (.bool n.2.1) (.val (.string n.2.2) r))
def inpD (n : Nt) (m : Nm) (tn tw : ByteArray) (hd : Bool) (v : Dt) (ds : List Dt) : Dt := ntD n (.val (.string m.1) (.val (.string tn) (.val (.string tw) (.val (.bool hd) (app v (.lst 4 (Dt.of ds) (.val (.int .i64 m.2.1) (.val (.int .i64 m.2.2) .nil))))))))
def inpT (T : TypR) (L : LitR) : Cu → Dt × Cu := bnd noteR fun n => bnd namR fun m => bnd (wantR bCol) fun _ => bnd T fun ty => bnd (punctR bEq) fun q => bnd (cond q L (ret none)) fun v => bnd (dirs L) fun d => ret (inpD n m (tyN ty) (tyW ty) q (v.getD zeroD) (d.getD []))
def fdD (n : Nt) (m : Nm) (al : List Dt) (tn tw : ByteArray) (ds : List Dt) : Dt := ntD n (.val (.string m.1) (.lst 17 (Dt.of al) (.val (.string tn) (.val (.string tw) (.lst 4 (Dt.of ds) (.val (.int .i64 m.2.1) (.val (.int .i64 m.2.2) .nil)))))))
def fdT (T : TypR) (L : LitR) : Cu → Dt × Cu := bnd noteR fun n => bnd namR fun m => bnd (optT (inpT T L) bLp bRp) fun al => bnd (wantR bCol) fun _ => bnd T fun ty => bnd (dirs L) fun d => ret (fdD n m al (tyN ty) (tyW ty) (d.getD []))
def choD (n : Nt) (m : Nm) (ds : List Dt) : Dt := ntD n (.val (.string m.1) (.lst 4 (Dt.of ds) (.val (.int .i64 m.2.1) (.val (.int .i64 m.2.2) .nil))))
def choT (L : LitR) : Cu → Dt × Cu := bnd noteR fun n => bnd (butN [bTrue, bFalse, bNull]) fun m => bnd (dirs L) fun d => ret (choD n m (d.getD []))
def opK (x : ByteArray) : Int := if x = bMut then 2 else if x = bSub then 3 else 1
def rooD (k : Int) (ty : ByteArray) (ln co : Int) : Dt := .val (.int .i64 k) (.val (.string ty) (.val (.int .i64 ln) (.val (.int .i64 co) .nil)))
def rooT : Cu → Dt × Cu := bnd (wwN [bQuery, bMut, bSub]) fun x => bnd (wantR bCol) fun _ => bnd namR fun m => ret (rooD (opK x.1) m.1 x.2.1 x.2.2)
structure Sy where
 k : Int
 ex : Bool
 n : Nt
 nm : ByteArray
 ifs : List Dt
 ds : List Dt
 fs : List Dt
 ins : List Dt
 ms : List Dt
 vs : List Dt
 rs : List Dt
 rp : Bool
 ps : List Dt
 ln : Int
 co : Int
def Sy.d (s : Sy) : Dt := .val (.int .i64 s.k) (.val (.bool s.ex) (ntD s.n (.val (.string s.nm) (.lst 3 (Dt.of s.ifs) (.lst 4 (Dt.of s.ds) (.lst 10 (Dt.of s.fs) (.lst 17 (Dt.of s.ins) (.lst 3 (Dt.of s.ms) (.lst 7 (Dt.of s.vs) (.lst 4 (Dt.of s.rs) (.val (.bool s.rp) (.lst 3 (Dt.of s.ps) (.val (.int .i64 s.ln) (.val (.int .i64 s.co) .nil))))))))))))))
def Sy.bare (s : Sy) : Bool := decide (s.ifs.length + s.ds.length + s.fs.length + s.ins.length + s.ms.length + s.vs.length + s.rs.length = 0)
def nmdT (s : Sy) : Cu → Sy × Cu := bnd namR fun m => ret { s with nm := m.1, ln := m.2.1, co := m.2.2 }
def schT (L : LitR) (s : Sy) : Cu → Sy × Cu := bnd (dirs L) fun d => bnd (isPR bLc) fun q => bnd (cond (!s.ex || q) (brkT rooT bLc bRc) (ret [])) fun r => ret { s with ds := d.getD [], rs := r }
def scaT (L : LitR) (s : Sy) : Cu → Sy × Cu := bnd (nmdT s) fun s => bnd (dirs L) fun d => ret { s with ds := d.getD [] }
def objT (T : TypR) (L : LitR) (N : Nat) (s : Sy) : Cu → Sy × Cu := bnd (nmdT s) fun s => bnd (wordR bImpl) fun q => bnd (cond q (parT N namR bAmp) (ret [])) fun i => bnd (dirs L) fun d => bnd (optT (fdT T L) bLc bRc) fun f => ret { s with ifs := i, ds := d.getD [], fs := f }
def uniT (L : LitR) (N : Nat) (s : Sy) : Cu → Sy × Cu := bnd (nmdT s) fun s => bnd (dirs L) fun d => bnd (punctR bEq) fun q => bnd (cond q (parT N namR bPipe) (ret [])) fun i => ret { s with ds := d.getD [], ms := i }
def enuT (L : LitR) (s : Sy) : Cu → Sy × Cu := bnd (nmdT s) fun s => bnd (dirs L) fun d => bnd (optT (choT L) bLc bRc) fun f => ret { s with ds := d.getD [], vs := f }
def inuT (T : TypR) (L : LitR) (s : Sy) : Cu → Sy × Cu := bnd (nmdT s) fun s => bnd (dirs L) fun d => bnd (optT (inpT T L) bLc bRc) fun f => ret { s with ds := d.getD [], ins := f }
def dirT (T : TypR) (L : LitR) (N : Nat) (s : Sy) : Cu → Sy × Cu := bnd (wantR bAt) fun _ => bnd (nmdT s) fun s => bnd (optT (inpT T L) bLp bRp) fun f => bnd (wordR bRep) fun r => bnd (wwR [bOn]) fun _ => bnd (parT N (wwN bPlaces) bPipe) fun p => ret { s with ins := f, rp := r, ps := p }
def Sy.at (s : Sy) (k : Int) (t : Tk) : Sy := { s with k := k, ln := t.ln, co := t.co }
def kwT (q : ByteArray) (E F : Cu → Sy × Cu) : Cu → Sy × Cu := bnd (wordR q) fun b => cond b E F
def keyT (T : TypR) (L : LitR) (N : Nat) (s : Sy) : Cu → Sy × Cu := bnd tokR fun t =>
 kwT bSchema (schT L (s.at 1 t)) (kwT bScalar (scaT L (s.at 2 t)) (kwT bType (objT T L N (s.at 3 t)) (kwT bIface (objT T L N (s.at 4 t)) (kwT bUnion (uniT L N (s.at 5 t)) (kwT bEnum (enuT L (s.at 6 t)) (kwT bInput (inuT T L (s.at 7 t)) (cond s.ex (stopR s) (kwT bDirec (dirT T L N (s.at 8 t)) (stopR s)))))))))
def Sy.of (n : Nt) (x : Bool) : Sy := ⟨0, x, n, em, [], [], [], [], [], [], [], false, [], 0, 0⟩
def defT (T : TypR) (L : LitR) (N : Nat) : Cu → Dt × Cu := bnd noteR fun n => bnd (cond n.1 (ret false) (wordR bExt)) fun x => bnd (keyT T L N (Sy.of n x)) fun s => cond (s.ex && s.bare) (stopR s.d) (ret s.d)
def sdN (N : Nat) : LitR := optR (defT (typF N) (litF true N) N)
def sdocS (c : Cu) : Option (List Dt) × Cu := defsF (sdN c.ts.length) c.ts.length [] c
structure Rg {A : Type} (m : Nat) (E E' : Cu → A × Cu) (b b' : Nat) : Prop where
 near : NearA m E E' b b'
 st : St E
 st' : St E'
 kd : KdP E
section
variable {m b b' : Nat}
theorem namR_st : St namR := fun c h => name_stp h
theorem butN_st (ws : List ByteArray) : St (butN ws) := fun c h => butR_st ws c h
theorem wwN_st (ws : List ByteArray) : St (wwN ws) := fun c h => wwR_st ws c h
theorem isS_k {c : Cu} (h : c.isS = true) : c.kd = 0 ∧ (c.tok.k = 6 ∨ c.tok.k = 7) := of_decide_eq_true h
theorem noteR_st : St noteR := fun c h => by
 unfold noteR
 split
 ·rename_i hs
  have := (isS_k hs).2
  exact take_stp h (by omega) (by omega)
 ·exact Stp.refl h
def Pg {A : Type} (E : Cu → A × Cu) : Prop := ∀ c, c.Ok → (E c).2.kd = 0 → c.ix < (E c).2.ix
def Dm {A : Type} (E : Cu → A × Cu) : Prop := ∀ c, c.kd ≠ 0 → (E c).2 = c
theorem Dm.bnd {A X : Type} {E : Cu → A × Cu} {F : A → Cu → X × Cu} (h : Dm E) (k : ∀ a, Dm (F a)) : Dm (bnd E F) := fun c hc => by
 show (F (E c).1 (E c).2).2 = c
 rw [h c hc]
 exact k _ c hc
theorem Dm.alive {A : Type} {E : Cu → A × Cu} (h : Dm E) {c : Cu} (k : (E c).2.kd = 0) : c.kd = 0 := Classical.byContradiction fun x => x (by rw [h c x] at k; exact k)
theorem Pg.l {A X : Type} {E : Cu → A × Cu} {F : A → Cu → X × Cu} (h : Pg E) (s : St E) (k : ∀ a, Dm (F a)) (t : ∀ a, St (F a)) : Pg (cu.bnd E F) := fun c hc hk =>
 Nat.lt_of_lt_of_le (h c hc ((k _).alive hk)) (t (E c).1 _ (s c hc).ok).ix
theorem Pg.r {A X : Type} {E : Cu → A × Cu} {F : A → Cu → X × Cu} (s : St E) (k : ∀ a, Pg (F a)) : Pg (cu.bnd E F) := fun c hc hk =>
 Nat.lt_of_le_of_lt (s c hc).ix (k (E c).1 _ (s c hc).ok hk)
theorem Pg.optR {E : Cu → Dt × Cu} (h : Pg E) (s : St E) : Goes (optR E) := fun c hc => ⟨s c hc, fun hs => by
 have hk : (E c).2.kd = 0 := by
  have hs' : (cond (decide ((E c).2.kd = 0)) (some (E c).1) none).isSome = true := hs
  by_cases hk : (E c).2.kd = 0
  ·exact hk
  ·rw [decide_eq_false hk] at hs'; cases hs'
 exact h c hc hk⟩
theorem optR_some {E : Cu → Dt × Cu} {c : Cu} (h : (E c).2.kd = 0) : optR E c = (some (E c).1, (E c).2) := by
 show (cond (decide ((E c).2.kd = 0)) (some (E c).1) none, (E c).2) = _
 rw [decide_eq_true h]; rfl
theorem optR_none {E : Cu → Dt × Cu} {c : Cu} (h : (E c).2.kd ≠ 0) : optR E c = (none, (E c).2) := by
 show (cond (decide ((E c).2.kd = 0)) (some (E c).1) none, (E c).2) = _
 rw [decide_eq_false h]; rfl
theorem ret_m {A : Type} (a : A) : Dm (ret a) := fun _ _ => rfl
theorem cond_m {A : Type} {b : Bool} {E F : Cu → A × Cu} (h : Dm E) (k : Dm F) : Dm (cond b E F) := by cases b; exact k; exact h
theorem isW_dead {c : Cu} (h : c.kd ≠ 0) (ws : List ByteArray) : c.isW ws = false := by unfold Cu.isW; rw [isN_dead h]; rfl
theorem isS_dead {c : Cu} (h : c.kd ≠ 0) : c.isS = false := by unfold Cu.isS; simp [h]
theorem namR_m : Dm namR := fun c h => name_still h
theorem tokR_m : Dm tokR := fun _ _ => rfl
theorem isPR_m (p : ByteArray) : Dm (isPR p) := fun _ _ => rfl
theorem wantR_m (p : ByteArray) : Dm (wantR p) := fun c h => want_dead h p
theorem punctR_m (p : ByteArray) : Dm (punctR p) := fun c h => by show c.punct p = c; unfold Cu.punct; rw [isP_dead h]; rfl
theorem wordR_m (q : ByteArray) : Dm (wordR q) := fun c h => by show c.word q = c; unfold Cu.word; rw [isW_dead h]; rfl
theorem butN_m (ws : List ByteArray) : Dm (butN ws) := fun c h => by show c.nmC _ = c; rw [isN_dead h]; exact stop_dead _ _ h
theorem wwN_m (ws : List ByteArray) : Dm (wwN ws) := fun c h => by show c.nmC _ = c; rw [isW_dead h]; exact stop_dead _ _ h
theorem wwR_m (ws : List ByteArray) : Dm (wwR ws) := fun c h => by show c.nmC _ = c; rw [isW_dead h]; exact stop_dead _ _ h
theorem stopR_m {A : Type} (a : A) : Dm (stopR a) := fun c h => stop_dead _ _ h
theorem noteR_m : Dm noteR := fun c h => by unfold noteR; rw [isS_dead h]; rfl
theorem dirs_m (L : LitR) : Dm (dirs L) := fun c h => by rw [dirs_still L h]
theorem typF_m (f : Nat) : Dm (typF f) := fun c h => by rw [typF_still f h]
theorem litF_m (f : Nat) : Dm (litF true f) := fun c h => by
 cases f with
 | zero => rfl
 | succ f => show (litS (litF true f) true c).2 = c; unfold litS; rw [if_pos h]
theorem brkT_m (E : Cu → Dt × Cu) (l r : ByteArray) : Dm (brkT E l r) := fun c h => by show (brk (optR E) l r 1 c).2 = c; rw [brk_dead _ _ _ _ h]
theorem optT_m (E : Cu → Dt × Cu) (l r : ByteArray) : Dm (optT E l r) := (isPR_m l).bnd fun q => cond_m (brkT_m E l r) (ret_m _)
theorem parF_m {E : Cu → Nm × Cu} (hE : Dm E) (k : ByteArray) : ∀ (g : Nat) (l : List Dt), Dm (parF E k g l)
 | 0, l => ret_m l
 | g + 1, l => (punctR_m k).bnd fun q => cond_m (hE.bnd fun d => parF_m hE k g _) (ret_m l)
theorem parT_m {E : Cu → Nm × Cu} (hE : Dm E) (N : Nat) (k : ByteArray) : Dm (parT N E k) := (punctR_m k).bnd fun _ => hE.bnd fun d => parF_m hE k N _
theorem namR_pg : Pg namR := fun c hc hk => by
 have hn : c.isN = true := by
  cases hn : c.isN with
  | true => rfl
  | false => exact absurd hk (name_dead' hn)
 show c.ix < c.name.ix
 unfold Cu.name
 rw [if_pos hn]
 exact Nat.lt_succ_self _
theorem nmC_pg {c : Cu} {so : Bool} (hk : (c.nmC so).kd = 0) : c.ix < (c.nmC so).ix := by
 cases so with
 | true => exact Nat.lt_succ_self _
 | false => exact absurd hk (stop_kd _ _ (by decide))
theorem butN_pg (ws : List ByteArray) : Pg (butN ws) := fun c hc hk => nmC_pg hk
theorem wwN_pg (ws : List ByteArray) : Pg (wwN ws) := fun c hc hk => nmC_pg hk
theorem brkT_st {E : Cu → Dt × Cu} (hG : Goes (optR E)) (l r : ByteArray) : St (brkT E l r) := (brk_goes hG l r 1).st.bnd fun _ => ret_st _
theorem optT_st {E : Cu → Dt × Cu} (hG : Goes (optR E)) (l r : ByteArray) : St (optT E l r) := (isPR_st l).bnd fun q => ite_st ((brk_goes hG l r 1).st.bnd fun _ => ret_st _) (ret_st _)
theorem parF_st {E : Cu → Nm × Cu} (h : St E) (k : ByteArray) : ∀ (g : Nat) (l : List Dt), St (parF E k g l)
 | 0, l => ret_st l
 | g + 1, l => (punctR_st k).bnd fun q => ite_st (h.bnd fun d => parF_st h k g _) (ret_st l)
theorem parT_st {E : Cu → Nm × Cu} (h : St E) (N : Nat) (k : ByteArray) : St (parT N E k) := (punctR_st k).bnd fun _ => h.bnd fun d => parF_st h k N _
end
section
variable {m : Nat} (N N' : Nat)
theorem inp_m : Dm (inpT (typF N) (litF true N)) := noteR_m.bnd fun _ => namR_m.bnd fun _ => (wantR_m _).bnd fun _ => (typF_m N).bnd fun _ => (punctR_m _).bnd fun q => (cond_m (litF_m N) (ret_m _)).bnd fun _ => (dirs_m _).bnd fun _ => ret_m _
theorem inp_pg : Pg (inpT (typF N) (litF true N)) := Pg.r noteR_st fun _ => namR_pg.l namR_st (fun _ => (wantR_m _).bnd fun _ => (typF_m N).bnd fun _ => (punctR_m _).bnd fun q => (cond_m (litF_m N) (ret_m _)).bnd fun _ => (dirs_m _).bnd fun _ => ret_m _) (fun _ => (wantR_st _).bnd fun _ => (typF_st N).bnd fun _ => (punctR_st _).bnd fun q => (ite_st (litF_goes true N).st (ret_st _)).bnd fun _ => (dirs_st (litF_goes true N)).bnd fun _ => ret_st _)
theorem inp_st : St (inpT (typF N) (litF true N)) := noteR_st.bnd fun _ => namR_st.bnd fun _ => (wantR_st _).bnd fun _ => (typF_st N).bnd fun _ => (punctR_st _).bnd fun q => (ite_st (litF_goes true N).st (ret_st _)).bnd fun _ => (dirs_st (litF_goes true N)).bnd fun _ => ret_st _
theorem inp_go : Goes (optR (inpT (typF N) (litF true N))) := (inp_pg N).optR (inp_st N)
theorem fd_st : St (fdT (typF N) (litF true N)) := noteR_st.bnd fun _ => namR_st.bnd fun _ => (optT_st (inp_go N) _ _).bnd fun _ => (wantR_st _).bnd fun _ => (typF_st N).bnd fun _ => (dirs_st (litF_goes true N)).bnd fun _ => ret_st _
theorem fd_pg : Pg (fdT (typF N) (litF true N)) := Pg.r noteR_st fun _ => namR_pg.l namR_st (fun _ => (optT_m _ _ _).bnd fun _ => (wantR_m _).bnd fun _ => (typF_m N).bnd fun _ => (dirs_m _).bnd fun _ => ret_m _) (fun _ => (optT_st (inp_go N) _ _).bnd fun _ => (wantR_st _).bnd fun _ => (typF_st N).bnd fun _ => (dirs_st (litF_goes true N)).bnd fun _ => ret_st _)
theorem fd_go : Goes (optR (fdT (typF N) (litF true N))) := (fd_pg N).optR (fd_st N)
theorem cho_st : St (choT (litF true N)) := noteR_st.bnd fun _ => (butN_st _).bnd fun _ => (dirs_st (litF_goes true N)).bnd fun _ => ret_st _
theorem cho_pg : Pg (choT (litF true N)) := Pg.r noteR_st fun _ => (butN_pg _).l (butN_st _) (fun _ => (dirs_m _).bnd fun _ => ret_m _) (fun _ => (dirs_st (litF_goes true N)).bnd fun _ => ret_st _)
theorem cho_go : Goes (optR (choT (litF true N))) := (cho_pg N).optR (cho_st N)
theorem roo_st : St rooT := (wwN_st _).bnd fun _ => (wantR_st _).bnd fun _ => namR_st.bnd fun _ => ret_st _
theorem roo_pg : Pg rooT := (wwN_pg _).l (wwN_st _) (fun _ => (wantR_m _).bnd fun _ => namR_m.bnd fun _ => ret_m _) (fun _ => (wantR_st _).bnd fun _ => namR_st.bnd fun _ => ret_st _)
theorem roo_go : Goes (optR rooT) := roo_pg.optR roo_st
theorem nmd_st (s : Sy) : St (nmdT s) := namR_st.bnd fun _ => ret_st _
theorem sch_st (s : Sy) : St (schT (litF true N) s) := (dirs_st (litF_goes true N)).bnd fun _ => (isPR_st _).bnd fun q => (ite_st (brkT_st roo_go _ _) (ret_st _)).bnd fun _ => ret_st _
theorem sca_st (s : Sy) : St (scaT (litF true N) s) := (nmd_st s).bnd fun _ => (dirs_st (litF_goes true N)).bnd fun _ => ret_st _
theorem obj_st (s : Sy) : St (objT (typF N) (litF true N) N s) := (nmd_st s).bnd fun _ => (wordR_st _).bnd fun q => (ite_st (parT_st namR_st N _) (ret_st _)).bnd fun _ => (dirs_st (litF_goes true N)).bnd fun _ => (optT_st (fd_go N) _ _).bnd fun _ => ret_st _
theorem uni_st (s : Sy) : St (uniT (litF true N) N s) := (nmd_st s).bnd fun _ => (dirs_st (litF_goes true N)).bnd fun _ => (punctR_st _).bnd fun q => (ite_st (parT_st namR_st N _) (ret_st _)).bnd fun _ => ret_st _
theorem enu_st (s : Sy) : St (enuT (litF true N) s) := (nmd_st s).bnd fun _ => (dirs_st (litF_goes true N)).bnd fun _ => (optT_st (cho_go N) _ _).bnd fun _ => ret_st _
theorem inu_st (s : Sy) : St (inuT (typF N) (litF true N) s) := (nmd_st s).bnd fun _ => (dirs_st (litF_goes true N)).bnd fun _ => (optT_st (inp_go N) _ _).bnd fun _ => ret_st _
theorem dird_st (s : Sy) : St (dirT (typF N) (litF true N) N s) := (wantR_st _).bnd fun _ => (nmd_st s).bnd fun _ => (optT_st (inp_go N) _ _).bnd fun _ => (wordR_st _).bnd fun _ => (wwR_st _).bnd fun _ => (parT_st (wwN_st _) N _).bnd fun _ => ret_st _
theorem kw_st (q : ByteArray) {E F : Cu → Sy × Cu} (h : St E) (k : St F) : St (kwT q E F) := (wordR_st q).bnd fun _ => ite_st h k
theorem key_st (s : Sy) : St (keyT (typF N) (litF true N) N s) := tokR_st.bnd fun t =>
 kw_st _ (sch_st N _) (kw_st _ (sca_st N _) (kw_st _ (obj_st N _) (kw_st _ (obj_st N _) (kw_st _ (uni_st N _) (kw_st _ (enu_st N _) (kw_st _ (inu_st N _) (ite_st (stopR_st _) (kw_st _ (dird_st N _) (stopR_st _)))))))))
theorem def_st : St (defT (typF N) (litF true N) N) := noteR_st.bnd fun n => (ite_st (ret_st _) (wordR_st _)).bnd fun x => (key_st N _).bnd fun s => ite_st (stopR_st _) (ret_st _)
end
theorem wordR_pg {X : Type} {q : ByteArray} {E F : Cu → X × Cu} (s : St E) (k : Pg F) : Pg (bnd (wordR q) fun b => cond b E F) := fun c hc hk => by
 have s0 := wordR_st q c hc
 have hk' : (cond (c.isW [q]) E F (c.word q)).2.kd = 0 := hk
 show c.ix < (cond (c.isW [q]) E F (c.word q)).2.ix
 cases hq : c.isW [q] with
 | true =>
  have e : c.word q = c.take := by unfold Cu.word; rw [if_pos hq]
  have s1 : Stp (c.word q) (E (c.word q)).2 := s _ s0.ok
  have := s1.ix
  rw [e] at this ⊢
  exact Nat.lt_of_lt_of_le (Nat.lt_succ_self _) this
 | false =>
  have e : c.word q = c := by unfold Cu.word; rw [if_neg (by rw [hq]; decide)]
  rw [hq, e] at hk'
  rw [e]
  exact k c hc hk'
theorem stopR_pg {A : Type} (a : A) : Pg (stopR a) := fun c hc hk => absurd hk (stop_kd _ _ (by decide))
theorem cond_pg {A : Type} {b : Bool} {E F : Cu → A × Cu} (h : Pg E) (k : Pg F) : Pg (cond b E F) := by cases b; exact k; exact h
theorem key_pg (N : Nat) (s : Sy) : Pg (keyT (typF N) (litF true N) N s) := Pg.r tokR_st fun t =>
 wordR_pg (sch_st N _) (wordR_pg (sca_st N _) (wordR_pg (obj_st N _) (wordR_pg (obj_st N _) (wordR_pg (uni_st N _) (wordR_pg (enu_st N _) (wordR_pg (inu_st N _) (cond_pg (stopR_pg _) (wordR_pg (dird_st N _) (stopR_pg _)))))))))
theorem def_pg (N : Nat) : Pg (defT (typF N) (litF true N) N) := Pg.r noteR_st fun n => Pg.r (ite_st (ret_st _) (wordR_st _)) fun x => (key_pg N _).l (key_st N _) (fun s => cond_m (stopR_m _) (ret_m _)) (fun s => ite_st (stopR_st _) (ret_st _))
theorem sd_go (N : Nat) : Goes (sdN N) := (def_pg N).optR (def_st N)
end Go.Proofs.YtifbkdicglcogaaGreat.cu
namespace Go.Proofs.YtifbkdicglcogaaGreat.mem
open Go.ChangeShapes Go.WideShapes Go.ChangeAt Go.RowKit
open ints (Hi uh)
theorem size32 : (Tryz.prog.info? 21).map (·.size) = some 1 := by kernel_rfl
theorem splice_all {α : Type} (L cs : List α) (h : L.length = cs.length) : splice L 0 cs = cs := by
 unfold splice
 rw [Nat.zero_add, List.drop_eq_nil_of_le (by omega)]
 simp
theorem own_block {w : World} {base g n cap : Nat} {e : TypeId} {xs : List Value} (h : w.ownsRow base e 1 (.slice (some ⟨g, 0, none⟩) n cap) n xs) : ∃ cur : Array Value, w.heap[g]? = some (.cells cur.toList.toArray e (0, 0)) ∧ cur.size = cap := by
 rcases h.2 with ⟨h2, _⟩ | ⟨g', cap', cur, hv, hg, hh, hnc, hcm, hcs, hx⟩
 ·cases h2
 ·simp only [Value.slice.injEq, Option.some.injEq, Addr.mk.injEq] at hv
  obtain ⟨⟨rfl, _, _⟩, _, rfl⟩ := hv
  exact ⟨cur, by simpa using hh, by simpa using hcs⟩
theorem row_some {k : IntKind} {w : World} {a : Option Addr} {n cap : Nat} {zs : List Int} (h : Row k w a n cap zs) (hn : 0 < n) : ∃ ad, a = some ad ∧ ∀ j u, (zs.map (Value.int k))[j]? = some u → w.cell? (ad.add j) = some u := by
 rcases h.at_ with h0 | ⟨b, off, rfl, _, _⟩
 ·omega
 ·exact ⟨_, rfl, h.cells _ rfl⟩
theorem own_lo {w : World} {base base' : Nat} {e : TypeId} {size : Nat} {v : Value} {n : Nat} {xs : List Value} (h : w.ownsRow base e size v n xs) (hb : base' ≤ base) : w.ownsRow base' e size v n xs :=
 ⟨h.1, h.2.imp id (fun ⟨g', r1, r2, r3, r4, r5⟩ => ⟨g', r1, r2, r3, Nat.le_trans hb r4, r5⟩)⟩
theorem newLine_any (a : Option Addr) (n c : Nat) (l : List Int) (w : World) (h : Row .i32 w a n c l) (hn : 4 * n ≤ 281474976710656) :
  Calls Tryz.prog 129 #[.slice a n c] w fun e w' => e = .returned (.slice (some ⟨w.heap.size, 0, none⟩) n n) ∧
   w'.ownsRow w.heap.size 21 1 (.slice (some ⟨w.heap.size, 0, none⟩) n n) n (l.map (Value.int .i32)) ∧ Below w.heap.size w w' := by
 obtain ⟨i0, hi, hz0, hz1, hz2⟩ := info_parts info32
 have hl : (l.map (Value.int .i32)).length = n := by simp [h.len]
 go_enter Tryz.func129, Tryz.ntmps129
 go_wp2_with (first
  | (refine wpList_make_full _ rfl _ _ 78 rfl w.heap.size 21 i0 (.int .i32 0) 1 Tryz.underlying78 hi hz0 hz1 .i64 .i64 _ _ n rfl rfl rfl rfl (by rw [hz2]; omega) (by unfold maxLen; omega) (Nat.le_refl _) ?_; intro w1 hown hgrow; have hg1 := belowNone hgrow; have hr1 := h.below hg1; obtain ⟨cur, hcur, hcs⟩ := own_block hown)
  | (refine wpList_copy_splice rfl (.tmp 7) (.tmp 8) 78 78 rfl 21 Tryz.underlying78 size32 _ _ n n n c rfl rfl w.heap.size 0 cur.toList 21 hcur (l.map (Value.int .i32)) (by rw [hl]; exact (Nat.min_self n).symm) (fun hp => ⟨rfl, row_some hr1 (by rw [hl] at hp; exact hp)⟩) (by rw [hl]; simp; omega) (ints_oneCell _ _) w.heap.size w hg1 (Nat.le_refl _) ?_; intro w2 hrow2 hb2))
 go_ret
 refine ⟨rfl, ?_, hb2⟩
 have := hrow2.out
 rw [splice_all _ _ (by rw [hl]; simpa using hcs)] at this
 exact ⟨by simp [h.len], .inr ⟨w.heap.size, n, _, rfl, Nat.le_refl _, this, Nat.le_refl _, by unfold maxLen; omega, by simp [h.len], by rw [Nat.mul_one]; exact List.take_of_length_le (by simp [h.len])⟩⟩
def toOf (l : List Int) (k : Nat) : Nat := if 1 ≤ k ∧ prB l (k - 1) = true then k - 1 else k
def cut (l : List Int) (a b : Nat) : List Int := (l.drop a).take (b - a)
def linesTo (l : List Int) : Nat → List (List Int) × Nat
 | 0 => ([], 0)
 | k + 1 => if enB l k then ((linesTo l k).1 ++ [cut l (linesTo l k).2 (toOf l k)], k + 1) else linesTo l k
def linesL (l : List Int) : List (List Int) := (linesTo l l.length).1 ++ [l.drop (linesTo l l.length).2]
theorem en_pr (l : List Int) (k : Nat) (h : prB l k = true) : enB l k = false := by
 have h2 := h
 simp only [prB, Bool.and_eq_true, beq_iff_eq] at h2
 unfold enB
 rw [h, h2.1.2]
 rfl
theorem linesTo_inv (l : List Int) (k : Nat) : (linesTo l k).2 ≤ k ∧ ((linesTo l k).2 = 0 ∨ enB l ((linesTo l k).2 - 1) = true) ∧ (linesTo l k).1.length ≤ k := by
 induction k with
 | zero => simp [linesTo]
 | succ k ih =>
  simp only [linesTo]
  split
  ·rename_i h
   refine ⟨Nat.le_refl _, .inr (by simpa using h), by simp; omega⟩
  ·exact ⟨by omega, ih.2.1, by omega⟩
theorem from_to (l : List Int) (k : Nat) : (linesTo l k).2 ≤ toOf l k ∧ toOf l k ≤ k := by
 have h := linesTo_inv l k
 unfold toOf
 split
 ·rename_i hp
  refine ⟨?_, by omega⟩
  rcases Nat.lt_or_ge (linesTo l k).2 k with h1 | h1
  ·omega
  ·exfalso
   have e : (linesTo l k).2 = k := by omega
   rcases h.2.1 with h2 | h2
   ·omega
   ·rw [e, en_pr l (k - 1) hp.2] at h2
    cases h2
 ·omega
def lineVal (g : Nat) (ln : List Int) : Value := .slice (some ⟨g, 0, none⟩) ln.length ln.length
structure LinesAt (w : World) (base : Nat) (v : Value) (gs : List Nat) (lns : List (List Int)) : Prop where
 len : gs.length = lns.length
 own : w.ownsRow base 78 1 v lns.length (List.zipWith lineVal gs lns)
 each : ∀ i, i < lns.length → w.ownsRow base 21 1 (lineVal (gs.getD i 0) (lns.getD i [])) (lns.getD i []).length ((lns.getD i []).map (Value.int .i32))
 nodup : gs.Nodup
theorem line_block {w : World} {base g : Nat} {ln : List Int} (h : w.ownsRow base 21 1 (lineVal g ln) ln.length (ln.map (Value.int .i32))) : base ≤ g ∧ ∃ cur, w.heap[g]? = some (.cells cur 21 (0, 0)) := by
 rcases h.2 with ⟨h2, _⟩ | ⟨g', cap', cur, hv, hg, hh, _⟩
 ·cases h2
 ·simp only [lineVal, Value.slice.injEq, Option.some.injEq, Addr.mk.injEq] at hv
  obtain ⟨⟨rfl, _, _⟩, _, _⟩ := hv
  exact ⟨hg, cur, hh⟩
theorem outer_block {w : World} {base : Nat} {v : Value} {n : Nat} {xs : List Value} (h : w.ownsRow base 78 1 v n xs) : ∀ G, v.ownBlock = some G → ∃ cur, w.heap[G]? = some (.cells cur 78 (0, 0)) := by
 intro G hG
 rcases h.2 with ⟨rfl, _⟩ | ⟨g', cap', cur, rfl, hg, hh, _⟩
 ·cases hG
 ·obtain rfl := Option.some.inj hG
  exact ⟨cur, hh⟩
theorem LinesAt.snoc {w w1 w2 : World} {base : Nat} {v v' : Value} {gs : List Nat} {lns : List (List Int)} {o : Obj} {g : Nat} {ln : List Int}
  (h : LinesAt w base v gs lns) (hg : g = w.heap.size) (hb : Below w.heap.size w w1) (hln : w1.ownsRow base 21 1 (lineVal g ln) ln.length (ln.map (Value.int .i32)))
  (hown : w2.ownsRow base 78 1 v' (lns.length + 1) (List.zipWith lineVal gs lns ++ [lineVal g ln])) (hgrow : (w1.alloc o).grownBy w2 v.ownBlock) :
  LinesAt w2 base v' (gs ++ [g]) (lns ++ [ln]) := by
 have hne : ∀ (g' : Nat) (ln' : List Int), w1.ownsRow base 21 1 (lineVal g' ln') ln'.length (ln'.map (Value.int .i32)) → w2.ownsRow base 21 1 (lineVal g' ln') ln'.length (ln'.map (Value.int .i32)) := by
  intro g' ln' h'
  refine (h'.alloc o).kept hgrow (.inr ?_)
  intro e
  obtain ⟨cur, hcur⟩ := outer_block (own_below h.own hb) g' (by rw [← e]; rfl)
  obtain ⟨_, cur', hcur'⟩ := line_block h'
  rw [hcur'] at hcur
  simp at hcur
 refine ⟨by simp [h.len], ?_, fun i hi => ?_, ?_⟩
 ·rw [List.zipWith_append (by exact h.len)]
  simpa using hown
 ·by_cases hi' : i < lns.length
  ·have e1 : (gs ++ [g]).getD i 0 = gs.getD i 0 := by simp [List.getD, List.getElem?_append_left (show i < gs.length by rw [h.len]; exact hi')]
   have e2 : (lns ++ [ln]).getD i [] = lns.getD i [] := by simp [List.getD, List.getElem?_append_left hi']
   rw [e1, e2]
   exact hne _ _ (own_below (h.each i hi') hb)
  ·have e : i = lns.length := by simp at hi; omega
   have e1 : (gs ++ [g]).getD i 0 = g := by rw [e, ← h.len]; simp [List.getD]
   have e2 : (lns ++ [ln]).getD i [] = ln := by rw [e]; simp [List.getD]
   rw [e1, e2]
   exact hne _ _ hln
 ·rw [List.nodup_append]
  refine ⟨h.nodup, by simp, ?_⟩
  intro x hx y hy e
  simp at hy
  subst hy
  subst e
  obtain ⟨i, hi, rfl⟩ := List.mem_iff_getElem.1 hx
  obtain ⟨_, cur, hcur⟩ := line_block (h.each i (by rw [← h.len]; exact hi))
  have e1 : gs.getD i 0 = gs[i] := by simp [List.getD, hi]
  rw [e1, hg, Array.getElem?_eq_none (Nat.le_refl _)] at hcur
  cases hcur
theorem infoSl : (Tryz.prog.info? 78).map (fun i => (i.zero, i.size, i.bytes)) = some (some (.slice none 0 0), 1, 24) := by kernel_rfl
theorem cut_len (l : List Int) (a b : Nat) (h : b ≤ l.length) : (cut l a b).length = b - a := by simp [cut]; omega
theorem Row.sub {k : IntKind} {w : World} {b off n c : Nat} {l : List Int} (hl : l.length = n) (hc : n ≤ c) {f t : Nat} (hft : f ≤ t) (ht : t ≤ n) (hbw : b < w.heap.size) (hcell : ∀ i, i < n → w.cell? ⟨b, off + i, none⟩ = some (.int k (l.getD i 0))) :
  Row k w (some ⟨b, off + f, none⟩) (t - f) (c - f) (cut l f t) := by
 refine ⟨cut_len l f t (by omega), by omega, (fun e => by cases e), .inr ⟨b, off + f, rfl, hbw, fun i hi => ?_⟩⟩
 rw [Nat.add_assoc, hcell (f + i) (by omega)]
 simp [cut, List.getD, hi]
theorem one_val (v : Value) (h : v.oneCell' = true) : ∀ u ∈ [v], u.oneCell' = true := by intro u hu; simp at hu; subst hu; exact h
theorem cellv (w : World) (x : Value) (t : TypeId) : ∀ j u, [x][j]? = some u → (w.alloc (.cells #[x] t)).cell? ((⟨w.heap.size, 0, none⟩ : Addr).add j) = some u := by
 intro j u hj
 match j, hj with
 | 0, hj => simp at hj; subst hj; simp [Addr.add]
 | (j + 1), hj => simp at hj
theorem rowZ {k : IntKind} {w : World} {a : Option Addr} {n c : Nat} (h : n = 0) (hn : a = none → c = 0) : Row k w a n c [] := ⟨by simp [h], by omega, hn, .inl h⟩
theorem linesNil (w : World) (base : Nat) : LinesAt w base (.slice none 0 0) [] [] := ⟨rfl, World.ownsRow_nil _ _ _ _, fun i hi => by simp at hi, List.nodup_nil⟩
theorem linesTo_yes {l : List Int} {k : Nat} (h : enB l k = true) : linesTo l (k + 1) = ((linesTo l k).1 ++ [cut l (linesTo l k).2 (toOf l k)], k + 1) := by simp [linesTo, h]
theorem linesTo_no {l : List Int} {k : Nat} (h : enB l k = false) : linesTo l (k + 1) = linesTo l k := by simp [linesTo, h]
theorem paired_pred (a : Option Addr) (n c : Nat) (l : List Int) (k : Nat) (w : World) (h : Row .i32 w a n c l) (hn : n ≤ 9223372036854775806) (hk : k ≤ n) :
  Calls Tryz.prog 76 #[.slice a n c, .int .i64 ((k : Int) - 1)] w fun e w' => e = .returned (.bool (decide (1 ≤ k) && prB l (k - 1))) ∧ w' = w := by
 cases k with
 | zero => exact paired_neg a n c w
 | succ k =>
  have e : (((k + 1 : Nat) : Int) - 1) = (k : Int) := by omega
  rw [e]
  have := paired_nat a n c l k w h hn (by omega)
  simpa using this
set_option maxHeartbeats 2000000 in
theorem lines_any (a : Option Addr) (n c : Nat) (l : List Int) (w : World) (h : Row .i32 w a n c l) (hn : n ≤ 1099511627776) :
  Calls Tryz.prog 103 #[.slice a n c] w fun e w' => ∃ v gs, e = .returned v ∧ LinesAt w' w.heap.size v gs (linesL l) ∧ Below w.heap.size w w' := by
 obtain ⟨i0, hi, hz0, hz1, hz2⟩ := info_parts infoSl
 go_enter Tryz.func103, Tryz.ntmps103
 go_wp2
 go_loopw [3, 4, 9] (fun v f i wr => ∃ (k : Nat) (gs : List Nat), k ≤ n ∧ i = .int .i64 k ∧ f = .int .i64 ((linesTo l k).2 : Nat) ∧ LinesAt wr w.heap.size v gs (linesTo l k).1 ∧ Below w.heap.size w wr) (fun _ _ i _ => n - (intOf i).toNat)
 case atStart => exact ⟨0, [], Nat.zero_le _, rfl, rfl, linesNil _ _, Below.refl _ _⟩
 case round =>
  obtain ⟨k, gs, hk, rfl, rfl, hat, hbel⟩ := hrel
  have hinv := linesTo_inv l k
  have hft := from_to l k
  obtain ⟨F, hF⟩ : ∃ F, F = (linesTo l k).2 := ⟨_, rfl⟩
  obtain ⟨L, hL⟩ : ∃ L, L = (linesTo l k).1 := ⟨_, rfl⟩
  rw [← hF] at hinv hft ⊢
  rw [← hL] at hat hinv
  have HF := Hi hF
  have HL := Hi hL
  clear hF hL
  by_cases hlt : k < n
  ·have hr := h.below hbel
   have P := Hi (ends_any a n c l k wr hr (by omega) hlt)
   have hki : (k : Int) < (n : Int) := by omega
   cases hp : enB l k
   ·rw [hp] at P
    have HP := Hi hp
    clear hp
    go_wp2_with fail
    refine (uh P).mono ?_
    rintro e w' ⟨rfl, rfl⟩
    clear P
    go_wp2
    go_roundw
    case rel => exact ⟨k + 1, gs, by omega, by go_num, by rw [linesTo_no (uh HP), ← uh HF], by rw [linesTo_no (uh HP), ← uh HL]; exact hat, hbel⟩
    case measure => simp [intOf]; omega
   ·rw [hp] at P
    have HP := Hi hp
    have Q := Hi (paired_pred a n c l k wr hr (by omega) (by omega))
    obtain ⟨T, hT⟩ : ∃ T, T = toOf l k := ⟨_, rfl⟩
    rw [← hT] at hft
    have HT := Hi hT
    rcases h.at_ with h0 | ⟨b, off, rfl, hbw, hcell⟩
    ·omega
    have hle := h.le
    have hsub := Row.sub (k := .i32) (w := wr) (b := b) (off := off) (c := c) h.len hle hft.1 (show T ≤ n by omega) (Nat.lt_of_lt_of_le hbw hbel.size) (fun i hi => (hbel.cell (p := ⟨b, off + i, none⟩) hbw).trans (hcell i hi))
    have N := Hi (newLine_any _ _ _ _ wr hsub (by omega))
    have hlen := cut_len l F T (by rw [h.len]; omega)
    have f1 := hft.1
    have f2 := hft.2
    have hcF : ¬ c = F := by omega
    clear hp hT hcell hsub hr
    cases hpp : (decide (1 ≤ k) && prB l (k - 1))
    ·have eT : T = k := by rw [uh HT]; unfold toOf; rw [if_neg (fun hh => by rw [decide_eq_true hh.1, hh.2] at hpp; cases hpp)]
     rw [hpp] at Q
     have HS := Hi (show cut l F k = cut l F (toOf l k) from by rw [← uh HT, eT])
     rw [eT] at N hlen f1 f2
     clear HT hpp eT hft
     go_wp2_with fail
     refine (uh P).mono ?_
     rintro e w' ⟨rfl, rfl⟩
     clear P
     go_wp2_with fail
     refine (uh Q).mono ?_
     rintro e w' ⟨rfl, rfl⟩
     clear Q
     go_wp2_with fail
     have hkF : 0 ≤ (k : Int) := by omega
     refine (uh N).mono ?_
     rintro e w2 ⟨rfl, hln, hb2⟩
     have Hlen := Hi hlen
     have hown2 := own_below hat.own hb2
     have hl2 : w2.ownsRow w.heap.size 21 1 (lineVal w'.heap.size (cut l F k)) (cut l F k).length ((cut l F k).map (Value.int .i32)) := by
      unfold lineVal
      rw [uh Hlen]
      exact own_lo hln hbel.size
     have HL2 := Hi hl2
     have HB2 := Hi hb2
     have hsz2 := Nat.le_trans hbel.size hb2.size
     have hLk := hinv.2.2
     have HLT := Hi hown2.lt
     clear N hln hlen hl2 hb2 hinv
     go_wp2_with (at_builtin; refine wpList_append_own _ rfl (.tmp 23) (.tmp 29) 170 rfl w.heap.size 78 i0 (.slice none 0 0) 1 24 Tryz.underlying170 hi hz0 hz1 hz2 rfl (by decide) _ _ _ rfl (hown2.alloc _) ⟨w2.heap.size, 0, none⟩ 1 1 [.slice (some ⟨w'.heap.size, 0, none⟩) (k - F) (k - F)] rfl rfl (cellv _ _ _) (one_val _ rfl) (by unfold maxLen; omega) (by omega) (by simp; omega) ?_; intro v' w3 hown3 hgrow3 _)
     go_roundw
     case rel =>
      have e3 : Value.slice (some ⟨w'.heap.size, 0, none⟩) (k - F) (k - F) = lineVal w'.heap.size (cut l F k) := by unfold lineVal; rw [uh Hlen]
      rw [e3] at hown3
      have R := hat.snoc rfl (uh HB2) (uh HL2) hown3 hgrow3
      refine ⟨k + 1, gs ++ [w'.heap.size], by omega, by go_num, ?_, ?_, ?_⟩
      ·rw [linesTo_yes (uh HP)]; go_num
      ·rw [linesTo_yes (uh HP), ← uh HL, ← uh HF, ← uh HS]; exact R
      ·exact ((hbel.trans ((uh HB2).mono hbel.size)).alloc hsz2 _).grown hgrow3 (by simp; omega) (fun k hk => (uh HLT k hk).1)
     case measure => simp [intOf]; omega
    ·have hk1 : 1 ≤ k := by simp at hpp; exact hpp.1
     have eT : T = k - 1 := by rw [uh HT]; unfold toOf; rw [if_pos (by simpa using hpp)]
     rw [hpp] at Q
     have HS := Hi (show cut l F (k - 1) = cut l F (toOf l k) from by rw [← uh HT, eT])
     rw [eT] at N hlen f1 f2
     clear HT hpp eT hft
     go_wp2_with fail
     refine (uh P).mono ?_
     rintro e w' ⟨rfl, rfl⟩
     clear P
     go_wp2_with fail
     refine (uh Q).mono ?_
     rintro e w' ⟨rfl, rfl⟩
     clear Q
     go_wp2_with fail
     have hkF : 0 ≤ (k : Int) := by omega
     refine (uh N).mono ?_
     rintro e w2 ⟨rfl, hln, hb2⟩
     have Hlen := Hi hlen
     have hown2 := own_below hat.own hb2
     have hl2 : w2.ownsRow w.heap.size 21 1 (lineVal w'.heap.size (cut l F (k - 1))) (cut l F (k - 1)).length ((cut l F (k - 1)).map (Value.int .i32)) := by
      unfold lineVal
      rw [uh Hlen]
      exact own_lo hln hbel.size
     have HL2 := Hi hl2
     have HB2 := Hi hb2
     have hsz2 := Nat.le_trans hbel.size hb2.size
     have hLk := hinv.2.2
     have HLT := Hi hown2.lt
     clear N hln hlen hl2 hb2 hinv
     go_wp2_with (at_builtin; refine wpList_append_own _ rfl (.tmp 23) (.tmp 29) 170 rfl w.heap.size 78 i0 (.slice none 0 0) 1 24 Tryz.underlying170 hi hz0 hz1 hz2 rfl (by decide) _ _ _ rfl (hown2.alloc _) ⟨w2.heap.size, 0, none⟩ 1 1 [.slice (some ⟨w'.heap.size, 0, none⟩) ((k - 1) - F) ((k - 1) - F)] rfl rfl (cellv _ _ _) (one_val _ rfl) (by unfold maxLen; omega) (by omega) (by simp; omega) ?_; intro v' w3 hown3 hgrow3 _)
     go_roundw
     case rel =>
      have e3 : Value.slice (some ⟨w'.heap.size, 0, none⟩) ((k - 1) - F) ((k - 1) - F) = lineVal w'.heap.size (cut l F (k - 1)) := by unfold lineVal; rw [uh Hlen]
      rw [e3] at hown3
      have R := hat.snoc rfl (uh HB2) (uh HL2) hown3 hgrow3
      refine ⟨k + 1, gs ++ [w'.heap.size], by omega, by go_num, ?_, ?_, ?_⟩
      ·rw [linesTo_yes (uh HP)]; go_num
      ·rw [linesTo_yes (uh HP), ← uh HL, ← uh HF, ← uh HS]; exact R
      ·exact ((hbel.trans ((uh HB2).mono hbel.size)).alloc hsz2 _).grown hgrow3 (by simp; omega) (fun k hk => (uh HLT k hk).1)
     case measure => simp [intOf]; omega
  ·have hkn : k = n := by omega
   have HLL := Hi (show linesL l = L ++ [l.drop F] from by unfold linesL; rw [h.len, ← hkn, ← uh HF, ← uh HL])
   have Hdl := Hi (show (l.drop F).length = n - F from by simp [h.len])
   have hFn : F ≤ n := by omega
   have hnk : ¬ (k : Int) < (n : Int) := by omega
   have hle := h.le
   clear hft
   by_cases hpos : 0 < n
   ·rcases h.at_ with h0 | ⟨b, off, rfl, hbw, hcell⟩
    ·omega
    by_cases hcF : c = F
    ·have hz0' : n - F = 0 := by omega
     have hnil : l.drop F = [] := List.drop_eq_nil_of_le (by rw [h.len]; omega)
     have HN := Hi hnil
     have N := Hi (newLine_any (some ⟨b, off, none⟩) (n - F) 0 (l.drop F) wr (by rw [hnil]; exact rowZ hz0' (fun e => by cases e)) (by omega))
     have hfi : (F : Int) ≤ (n : Int) := by omega
     clear hcell hnil hz0'
     go_wp2_with fail
     refine (uh N).mono ?_
     rintro e w2 ⟨rfl, hln, hb2⟩
     have hown2 := own_below hat.own hb2
     have hl2 : w2.ownsRow w.heap.size 21 1 (lineVal wr.heap.size (l.drop F)) (l.drop F).length ((l.drop F).map (Value.int .i32)) := by
      unfold lineVal
      rw [uh Hdl]
      exact own_lo hln hbel.size
     have HL2 := Hi hl2
     have HB2 := Hi hb2
     have hsz2 := Nat.le_trans hbel.size hb2.size
     have hLk := hinv.2.2
     have HLT := Hi hown2.lt
     clear hln hl2 hb2 hinv
     go_wp2_with (at_builtin; refine wpList_append_own _ rfl (.tmp 34) (.tmp 39) 170 rfl w.heap.size 78 i0 (.slice none 0 0) 1 24 Tryz.underlying170 hi hz0 hz1 hz2 rfl (by decide) _ _ _ rfl (hown2.alloc _) ⟨w2.heap.size, 0, none⟩ 1 1 [.slice (some ⟨wr.heap.size, 0, none⟩) (n - F) (n - F)] rfl rfl (cellv _ _ _) (one_val _ rfl) (by unfold maxLen; omega) (by omega) (by simp; omega) ?_; intro v' w3 hown3 hgrow3 _)
     go_ret
     have e3 : Value.slice (some ⟨wr.heap.size, 0, none⟩) (n - F) (n - F) = lineVal wr.heap.size (l.drop F) := by unfold lineVal; rw [uh Hdl]
     rw [e3] at hown3
     have R := hat.snoc rfl (uh HB2) (uh HL2) hown3 hgrow3
     rw [uh HLL]
     exact ⟨v', _, rfl, R, ((hbel.trans ((uh HB2).mono hbel.size)).alloc hsz2 _).grown hgrow3 (by simp; omega) (fun k hk => (uh HLT k hk).1)⟩
    ·have ecut : cut l F n = l.drop F := by unfold cut; rw [List.take_of_length_le (by simp [h.len])]
     have hsub := Row.sub (k := .i32) (w := wr) (b := b) (off := off) (c := c) h.len hle hFn (Nat.le_refl n) (Nat.lt_of_lt_of_le hbw hbel.size) (fun i hi => (hbel.cell (p := ⟨b, off + i, none⟩) hbw).trans (hcell i hi))
     rw [ecut] at hsub
     have N := Hi (newLine_any _ _ _ _ wr hsub (by omega))
     have hfi : (F : Int) ≤ (n : Int) := by omega
     clear hcell hsub ecut
     go_wp2_with fail
     refine (uh N).mono ?_
     rintro e w2 ⟨rfl, hln, hb2⟩
     have hown2 := own_below hat.own hb2
     have hl2 : w2.ownsRow w.heap.size 21 1 (lineVal wr.heap.size (l.drop F)) (l.drop F).length ((l.drop F).map (Value.int .i32)) := by
      unfold lineVal
      rw [uh Hdl]
      exact own_lo hln hbel.size
     have HL2 := Hi hl2
     have HB2 := Hi hb2
     have hsz2 := Nat.le_trans hbel.size hb2.size
     have hLk := hinv.2.2
     have HLT := Hi hown2.lt
     clear hln hl2 hb2 hinv
     go_wp2_with (at_builtin; refine wpList_append_own _ rfl (.tmp 34) (.tmp 39) 170 rfl w.heap.size 78 i0 (.slice none 0 0) 1 24 Tryz.underlying170 hi hz0 hz1 hz2 rfl (by decide) _ _ _ rfl (hown2.alloc _) ⟨w2.heap.size, 0, none⟩ 1 1 [.slice (some ⟨wr.heap.size, 0, none⟩) (n - F) (n - F)] rfl rfl (cellv _ _ _) (one_val _ rfl) (by unfold maxLen; omega) (by omega) (by simp; omega) ?_; intro v' w3 hown3 hgrow3 _)
     go_ret
     have e3 : Value.slice (some ⟨wr.heap.size, 0, none⟩) (n - F) (n - F) = lineVal wr.heap.size (l.drop F) := by unfold lineVal; rw [uh Hdl]
     rw [e3] at hown3
     have R := hat.snoc rfl (uh HB2) (uh HL2) hown3 hgrow3
     rw [uh HLL]
     exact ⟨v', _, rfl, R, ((hbel.trans ((uh HB2).mono hbel.size)).alloc hsz2 _).grown hgrow3 (by simp; omega) (fun k hk => (uh HLT k hk).1)⟩
   ·have hn0 : n = 0 := by omega
    have hF0 : F = 0 := by omega
    have hl0 : l = [] := List.eq_nil_of_length_eq_zero (by rw [h.len]; exact hn0)
    have hnil' := h.nil
    subst hn0 hF0
    have Hdl0 := Hi (show (l.drop 0).length = 0 from by rw [hl0]; rfl)
    have Hl0 := Hi hl0
    clear hl0 Hdl
    have Hdl := Hdl0
    clear Hdl0
    cases a with
    | none =>
     have hc0 : c = 0 := hnil' rfl
     subst hc0
     have N := Hi (newLine_any none 0 0 (l.drop 0) wr (by rw [uh Hl0]; exact rowZ rfl (fun _ => rfl)) (by omega))
     clear hnil' h
     go_wp2_with fail
     refine (uh N).mono ?_
     rintro e w2 ⟨rfl, hln, hb2⟩
     have hown2 := own_below hat.own hb2
     have hl2 : w2.ownsRow w.heap.size 21 1 (lineVal wr.heap.size (l.drop 0)) (l.drop 0).length ((l.drop 0).map (Value.int .i32)) := by
      unfold lineVal
      rw [uh Hdl]
      exact own_lo hln hbel.size
     have HL2 := Hi hl2
     have HB2 := Hi hb2
     have hsz2 := Nat.le_trans hbel.size hb2.size
     have hLk := hinv.2.2
     have HLT := Hi hown2.lt
     clear hln hl2 hb2 hinv
     go_wp2_with (at_builtin; refine wpList_append_own _ rfl (.tmp 34) (.tmp 39) 170 rfl w.heap.size 78 i0 (.slice none 0 0) 1 24 Tryz.underlying170 hi hz0 hz1 hz2 rfl (by decide) _ _ _ rfl (hown2.alloc _) ⟨w2.heap.size, 0, none⟩ 1 1 [.slice (some ⟨wr.heap.size, 0, none⟩) 0 0] rfl rfl (cellv _ _ _) (one_val _ rfl) (by unfold maxLen; omega) (by omega) (by simp; omega) ?_; intro v' w3 hown3 hgrow3 _)
     go_ret
     have e3 : Value.slice (some ⟨wr.heap.size, 0, none⟩) 0 0 = lineVal wr.heap.size (l.drop 0) := by unfold lineVal; rw [uh Hdl]
     rw [e3] at hown3
     have R := hat.snoc rfl (uh HB2) (uh HL2) hown3 hgrow3
     rw [uh HLL]
     exact ⟨v', _, rfl, R, ((hbel.trans ((uh HB2).mono hbel.size)).alloc hsz2 _).grown hgrow3 (by simp; omega) (fun k hk => (uh HLT k hk).1)⟩
    | some ad =>
     have N := Hi (newLine_any (some ad) 0 c (l.drop 0) wr (by rw [uh Hl0]; exact rowZ rfl (fun e => by cases e)) (by omega))
     by_cases hc0 : c = 0
     ·subst hc0
      clear hnil' h
      go_wp2_with fail
      refine (uh N).mono ?_
      rintro e w2 ⟨rfl, hln, hb2⟩
      have hown2 := own_below hat.own hb2
      have hl2 : w2.ownsRow w.heap.size 21 1 (lineVal wr.heap.size (l.drop 0)) (l.drop 0).length ((l.drop 0).map (Value.int .i32)) := by
       unfold lineVal
       rw [uh Hdl]
       exact own_lo hln hbel.size
      have HL2 := Hi hl2
      have HB2 := Hi hb2
      have hsz2 := Nat.le_trans hbel.size hb2.size
      have hLk := hinv.2.2
      have HLT := Hi hown2.lt
      clear hln hl2 hb2 hinv
      go_wp2_with (at_builtin; refine wpList_append_own _ rfl (.tmp 34) (.tmp 39) 170 rfl w.heap.size 78 i0 (.slice none 0 0) 1 24 Tryz.underlying170 hi hz0 hz1 hz2 rfl (by decide) _ _ _ rfl (hown2.alloc _) ⟨w2.heap.size, 0, none⟩ 1 1 [.slice (some ⟨wr.heap.size, 0, none⟩) 0 0] rfl rfl (cellv _ _ _) (one_val _ rfl) (by unfold maxLen; omega) (by omega) (by simp; omega) ?_; intro v' w3 hown3 hgrow3 _)
      go_ret
      have e3 : Value.slice (some ⟨wr.heap.size, 0, none⟩) 0 0 = lineVal wr.heap.size (l.drop 0) := by unfold lineVal; rw [uh Hdl]
      rw [e3] at hown3
      have R := hat.snoc rfl (uh HB2) (uh HL2) hown3 hgrow3
      rw [uh HLL]
      exact ⟨v', _, rfl, R, ((hbel.trans ((uh HB2).mono hbel.size)).alloc hsz2 _).grown hgrow3 (by simp; omega) (fun k hk => (uh HLT k hk).1)⟩
     ·clear hnil' h
      go_wp2_with fail
      refine (uh N).mono ?_
      rintro e w2 ⟨rfl, hln, hb2⟩
      have hown2 := own_below hat.own hb2
      have hl2 : w2.ownsRow w.heap.size 21 1 (lineVal wr.heap.size (l.drop 0)) (l.drop 0).length ((l.drop 0).map (Value.int .i32)) := by
       unfold lineVal
       rw [uh Hdl]
       exact own_lo hln hbel.size
      have HL2 := Hi hl2
      have HB2 := Hi hb2
      have hsz2 := Nat.le_trans hbel.size hb2.size
      have hLk := hinv.2.2
      have HLT := Hi hown2.lt
      clear hln hl2 hb2 hinv
      go_wp2_with (at_builtin; refine wpList_append_own _ rfl (.tmp 34) (.tmp 39) 170 rfl w.heap.size 78 i0 (.slice none 0 0) 1 24 Tryz.underlying170 hi hz0 hz1 hz2 rfl (by decide) _ _ _ rfl (hown2.alloc _) ⟨w2.heap.size, 0, none⟩ 1 1 [.slice (some ⟨wr.heap.size, 0, none⟩) 0 0] rfl rfl (cellv _ _ _) (one_val _ rfl) (by unfold maxLen; omega) (by omega) (by simp; omega) ?_; intro v' w3 hown3 hgrow3 _)
      go_ret
      have e3 : Value.slice (some ⟨wr.heap.size, 0, none⟩) 0 0 = lineVal wr.heap.size (l.drop 0) := by unfold lineVal; rw [uh Hdl]
      rw [e3] at hown3
      have R := hat.snoc rfl (uh HB2) (uh HL2) hown3 hgrow3
      rw [uh HLL]
      exact ⟨v', _, rfl, R, ((hbel.trans ((uh HB2).mono hbel.size)).alloc hsz2 _).grown hgrow3 (by simp; omega) (fun k hk => (uh HLT k hk).1)⟩
end Go.Proofs.YtifbkdicglcogaaGreat.mem
namespace Go.Proofs.YtifbkdicglcogaaGreat.sv
def whB (c : Int) : Bool := c == 9 || c == 32
def soB (c : Int) : Bool := c == 9 || c == 10 || c == 13 || (decide (32 ≤ c) && decide (c ≤ 55295)) || (decide (57344 ≤ c) && decide (c ≤ 65535))
def ind (l : List Int) : Nat := (l.takeWhile whB).length
def blk (l : List Int) : Bool := l.all whB
def pre (c : Int) : List (List Int) → List (List Int)
 | [] => [[c]]
 | x :: xs => (c :: x) :: xs
def lns : List Int → List (List Int)
 | [] => [[]]
 | c :: r => if c = 10 then [] :: lns r else if c = 13 then (if r.head? = some 10 then lns r else [] :: lns r) else pre c (lns r)
def jn : List (List Int) → List Int
 | [] => []
 | [x] => x
 | x :: y :: r => x ++ 10 :: jn (y :: r)
def flat (x : List Int) : Prop := ∀ c ∈ x, c ≠ 10 ∧ c ≠ 13
theorem flat_tail {c : Int} {x : List Int} (h : flat (c :: x)) : flat x := fun d hd => h d (List.mem_cons_of_mem _ hd)
theorem pre_ne (c : Int) (L : List (List Int)) : pre c L ≠ [] := by cases L <;> simp [pre]
theorem lns_ne : ∀ l, lns l ≠ []
 | [] => by simp [lns]
 | c :: r => by
  rw [lns]
  split
  ·simp
  ·split
   ·split
    ·exact lns_ne r
    ·simp
   ·exact pre_ne _ _
theorem lns_cut : ∀ (x r : List Int), flat x → lns (x ++ 10 :: r) = x :: lns r
 | [], r, _ => by simp [lns]
 | c :: x, r, h => by
  have hc := h c (by simp)
  rw [List.cons_append, lns, if_neg hc.1, if_neg hc.2, lns_cut x r (flat_tail h)]
  rfl
theorem lns_one : ∀ (x : List Int), flat x → lns x = [x]
 | [], _ => rfl
 | c :: x, h => by
  have hc := h c (by simp)
  rw [lns, if_neg hc.1, if_neg hc.2, lns_one x (flat_tail h)]
  rfl
def esc4 (l : List Int) : Bool := l.take 4 == [92, 34, 34, 34]
def tri (l : List Int) : Bool := l.take 3 == [34, 34, 34]
def opn (l : List Int) : List Int :=
 match l with
 | [] => []
 | c :: r => if esc4 (c :: r) then 34 :: 34 :: 34 :: opn (r.drop 3) else c :: opn r
termination_by l.length
decreasing_by all_goals (simp; try omega)
def grd (l : List Int) : List Int :=
 match l with
 | [] => []
 | c :: r => if tri (c :: r) then 92 :: 34 :: 34 :: 34 :: grd (r.drop 2) else c :: grd r
termination_by l.length
decreasing_by all_goals (simp; try omega)
open mem
theorem lns_cr : ∀ (x r : List Int), flat x → r.head? ≠ some 10 → lns (x ++ 13 :: r) = x :: lns r
 | [], r, _, h => by simp [lns, h]
 | c :: x, r, h, hr => by
  have hc := h c (by simp)
  rw [List.cons_append, lns, if_neg hc.1, if_neg hc.2, lns_cr x r (flat_tail h) hr]
  rfl
theorem lns_crlf : ∀ (x r : List Int), flat x → lns (x ++ 13 :: 10 :: r) = x :: lns r
 | [], r, _ => by simp [lns]
 | c :: x, r, h => by
  have hc := h c (by simp)
  rw [List.cons_append, lns, if_neg hc.1, if_neg hc.2, lns_crlf x r (flat_tail h)]
  rfl
theorem noEnd (l : List Int) (k : Nat) : ∀ j, (linesTo l k).2 ≤ j → j < k → enB l j = false := by
 induction k with
 | zero => intro j _ h; omega
 | succ k ih =>
  intro j h1 h2
  rw [linesTo] at h1
  cases he : enB l k
  ·rw [he] at h1
   simp only [Bool.false_eq_true, if_false] at h1
   by_cases e : j = k
   ·rw [e]; exact he
   ·exact ih j h1 (by omega)
  ·rw [he] at h1
   simp only [if_true] at h1
   omega
theorem mem_cut {l : List Int} {a b : Nat} {c : Int} (h : c ∈ cut l a b) : ∃ j, a ≤ j ∧ j < b ∧ j < l.length ∧ l.getD j 0 = c := by
 obtain ⟨i, hi, e⟩ := List.mem_iff_getElem.1 h
 have hi2 : i < b - a ∧ a + i < l.length := by simp [cut] at hi; omega
 refine ⟨a + i, by omega, by omega, hi2.2, ?_⟩
 rw [← e]
 simp [cut, List.getD, hi2.2]
theorem cut_flat (l : List Int) (k : Nat) (hk : k ≤ l.length) : flat (cut l (linesTo l k).2 (toOf l k)) := by
 intro c hc
 obtain ⟨j, h1, h2, h3, h4⟩ := mem_cut hc
 have hft := from_to l k
 have hn := noEnd l k j h1 (by omega)
 unfold enB at hn
 rw [h4] at hn
 simp only [Bool.or_eq_false_iff, Bool.and_eq_false_iff, beq_eq_false_iff_ne, Bool.not_eq_false'] at hn
 refine ⟨hn.1, ?_⟩
 rcases hn.2 with h5 | h5
 ·exact h5
 ·exfalso
  have h6 := h5
  simp only [prB, Bool.and_eq_true, decide_eq_true_eq, beq_iff_eq] at h6
  by_cases e : j + 1 = k
  ·have : toOf l k = k - 1 := by
    unfold toOf
    have : k - 1 = j := by omega
    rw [this, if_pos ⟨by omega, h5⟩]
   omega
  ·have hn2 := noEnd l k (j + 1) (by omega) (by omega)
   unfold enB at hn2
   rw [h6.2] at hn2
   simp at hn2
theorem drop_cut (l : List Int) (a b : Nat) (h : a ≤ b) : l.drop a = cut l a b ++ l.drop b := by
 unfold cut
 conv => lhs; rw [← List.take_append_drop (b - a) (l.drop a)]
 rw [List.drop_drop]
 congr 2
 omega
theorem drop_at {l : List Int} {k : Nat} (h : k < l.length) : l.drop k = l.getD k 0 :: l.drop (k + 1) := by
 rw [List.drop_eq_getElem_cons h]
 simp [List.getD, h]
theorem lns_to (l : List Int) : ∀ k, k ≤ l.length → lns l = (linesTo l k).1 ++ lns (l.drop (linesTo l k).2)
 | 0, _ => by simp [linesTo]
 | k + 1, h => by
  have ih := lns_to l k (by omega)
  have hcf := cut_flat l k (by omega)
  have hft := from_to l k
  rw [linesTo]
  cases he : enB l k
  ·simpa using ih
  ·simp only [if_true]
   rw [ih, List.append_assoc, List.singleton_append]
   congr 1
   rw [drop_cut l _ _ hft.1]
   by_cases hp : 1 ≤ k ∧ prB l (k - 1) = true
   ·have ht : toOf l k = k - 1 := by unfold toOf; rw [if_pos hp]
    have hp2 := hp.2
    simp only [prB, Bool.and_eq_true, decide_eq_true_eq, beq_iff_eq] at hp2
    have hk1 : k - 1 + 1 = k := by omega
    rw [hk1] at hp2
    have e1 : l.drop (toOf l k) = 13 :: 10 :: l.drop (k + 1) := by rw [ht, drop_at (by omega), hk1, drop_at (by omega), hp2.1.2, hp2.2]
    rw [e1, lns_crlf _ _ hcf]
   ·have ht : toOf l k = k := by unfold toOf; rw [if_neg hp]
    have e1 : l.drop (toOf l k) = l.getD k 0 :: l.drop (k + 1) := by rw [ht, drop_at (by omega)]
    rw [e1]
    have he2 := he
    unfold enB at he2
    simp only [Bool.or_eq_true, Bool.and_eq_true, beq_iff_eq, Bool.not_eq_true'] at he2
    rcases he2 with h5 | ⟨h5, h6⟩
    ·rw [h5, lns_cut _ _ hcf]
    ·rw [h5, lns_cr _ _ hcf]
     intro h7
     rw [← Bool.not_eq_true] at h6
     apply h6
     have hlt : k + 1 < l.length := by
      by_cases h8 : k + 1 < l.length
      ·exact h8
      ·rw [List.drop_eq_nil_of_le (by omega)] at h7; cases h7
     simp only [prB, Bool.and_eq_true, decide_eq_true_eq, beq_iff_eq]
     refine ⟨⟨hlt, h5⟩, ?_⟩
     rw [drop_at hlt] at h7
     simpa using h7
theorem linesL_eq (l : List Int) : linesL l = lns l := by
 rw [lns_to l l.length (Nat.le_refl _)]
 unfold linesL
 congr 1
 have h := cut_flat l l.length (Nat.le_refl _)
 have hft := from_to l l.length
 have ht : toOf l l.length = l.length := by
  unfold toOf
  rw [if_neg]
  rintro ⟨h1, h2⟩
  simp only [prB, Bool.and_eq_true, decide_eq_true_eq] at h2
  omega
 rw [ht] at h
 have e : cut l (linesTo l l.length).2 l.length = l.drop (linesTo l l.length).2 := by
  unfold cut
  exact List.take_of_length_le (by simp)
 rw [e] at h
 rw [lns_one _ h]
end Go.Proofs.YtifbkdicglcogaaGreat.sv
