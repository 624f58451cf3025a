import Derived.Test.YtfegalieiiaopabDt
namespace Go.Proofs.Ytfegalieiiaopab.cu
open dt (Dt)
set_option linter.unusedVariables false
set_option linter.unusedSimpArgs false
/-- a token -/
structure Tk where
  k : Int
  ln : Int
  co : Int
  fr : Nat
  to : Nat
  tx : ByteArray
  va : ByteArray
def em : ByteArray := ⟨#[]⟩
def Tk.zero : Tk := ⟨0, 0, 0, 0, 0, em, em⟩
def Tk.cells (t : Tk) : List Value := [.int .i64 t.k, .int .i64 t.ln, .int .i64 t.co, .int .i64 t.fr, .int .i64 t.to, .string t.tx, .string t.va]
/-- a cursor -/
structure Cu where
  ts : List Tk
  ix : Nat
  op : Nat
  mo : Nat
  kd : Int
def Cu.tok (c : Cu) : Tk := c.ts.getD c.ix Tk.zero
structure Cu.Ok (c : Cu) : Prop where
  lt : c.ix < c.ts.length
  more : ∀ i t, c.ts[i]? = some t → t.k = 0 ∨ t.k = 1 ∨ i + 1 < c.ts.length
  op : c.op ≤ c.mo
  mo : c.mo ≤ 200
theorem Cu.get (c : Cu) (h : c.ix < c.ts.length) : c.ts[c.ix]? = some c.tok := by
  unfold Cu.tok
  rw [List.getElem?_eq_getElem h, List.getD_eq_getElem?_getD, List.getElem?_eq_getElem h]
  rfl
def Cu.isP (c : Cu) (p : ByteArray) : Bool := decide (c.kd = 0 ∧ c.tok.k = 2 ∧ c.tok.tx = p)
def Cu.isN (c : Cu) : Bool := decide (c.kd = 0 ∧ c.tok.k = 3)
def Cu.take (c : Cu) : Cu := ⟨c.ts, c.ix + 1, c.op, c.mo, c.kd⟩
def Cu.stop (c : Cu) (k : Int) : Cu := if c.kd = 0 then ⟨c.ts, c.ix, c.op, c.mo, k⟩ else c
def Cu.punct (c : Cu) (p : ByteArray) : Cu := if c.isP p then c.take else c
def Cu.want (c : Cu) (p : ByteArray) : Cu := if c.isP p then c.take else c.stop 70
def Cu.name (c : Cu) : Cu := if c.isN then c.take else c.stop 70
def Cu.nmT (c : Cu) : List Value := if c.isN then [.string c.tok.tx, .int .i64 c.tok.ln, .int .i64 c.tok.co] else [.string em, .int .i64 0, .int .i64 0]
def Cu.opB (c : Cu) (p : ByteArray) : Bool := c.isP p && decide (c.op < c.mo)
def Cu.opn (c : Cu) (p : ByteArray) : Cu := if c.isP p then (if c.op < c.mo then ⟨c.ts, c.ix + 1, c.op + 1, c.mo, c.kd⟩ else c.stop 71) else c.stop 70
def Cu.cls (c : Cu) (p : ByteArray) : Cu := if c.isP p then ⟨c.ts, c.ix + 1, c.op - 1, c.mo, c.kd⟩ else c.stop 70
def Cu.finB (c : Cu) : Bool := decide (c.kd = 0 ∧ c.tok.k = 0)
def Cu.fin (c : Cu) : Cu := if c.finB then c else c.stop 70
/-- what every step keeps -/
structure Stp (c c' : Cu) : Prop where
  ok : c'.Ok
  ts : c'.ts = c.ts
  mo : c'.mo = c.mo
  ix : c.ix ≤ c'.ix
theorem Stp.refl {c : Cu} (h : c.Ok) : Stp c c := ⟨h, rfl, rfl, Nat.le_refl _⟩
theorem Stp.trans {a b c : Cu} (h : Stp a b) (k : Stp b c) : Stp a c := ⟨k.ok, k.ts.trans h.ts, k.mo.trans h.mo, Nat.le_trans h.ix k.ix⟩
theorem stop_stp {c : Cu} (h : c.Ok) (k : Int) : Stp c (c.stop k) := by
  unfold Cu.stop
  split
  · exact ⟨⟨h.lt, h.more, h.op, h.mo⟩, rfl, rfl, Nat.le_refl _⟩
  · exact Stp.refl h
theorem more_of {c : Cu} (h : c.Ok) (h0 : c.tok.k ≠ 0) (h1 : c.tok.k ≠ 1) : c.ix + 1 < c.ts.length := by
  rcases h.more c.ix c.tok (c.get h.lt) with e | e | e
  · exact absurd e h0
  · exact absurd e h1
  · exact e
theorem isP_k {c : Cu} {p : ByteArray} (h : c.isP p = true) : c.kd = 0 ∧ c.tok.k = 2 ∧ c.tok.tx = p := of_decide_eq_true h
theorem isN_k {c : Cu} (h : c.isN = true) : c.kd = 0 ∧ c.tok.k = 3 := of_decide_eq_true h
theorem take_stp {c : Cu} (h : c.Ok) (h0 : c.tok.k ≠ 0) (h1 : c.tok.k ≠ 1) : Stp c c.take := ⟨⟨more_of h h0 h1, h.more, h.op, h.mo⟩, rfl, rfl, Nat.le_succ _⟩
theorem isP_more {c : Cu} {p : ByteArray} (h : c.Ok) (hp : c.isP p = true) : c.ix + 1 < c.ts.length := by
  have := (isP_k hp).2.1
  exact more_of h (by rw [this]; decide) (by rw [this]; decide)
theorem isN_more {c : Cu} (h : c.Ok) (hp : c.isN = true) : c.ix + 1 < c.ts.length := by
  have := (isN_k hp).2
  exact more_of h (by rw [this]; decide) (by rw [this]; decide)
theorem takeP {c : Cu} {p : ByteArray} (h : c.Ok) (hp : c.isP p = true) : Stp c c.take := ⟨⟨isP_more h hp, h.more, h.op, h.mo⟩, rfl, rfl, Nat.le_succ _⟩
theorem takeN {c : Cu} (h : c.Ok) (hp : c.isN = true) : Stp c c.take := ⟨⟨isN_more h hp, h.more, h.op, h.mo⟩, rfl, rfl, Nat.le_succ _⟩
theorem punct_stp {c : Cu} (h : c.Ok) (p : ByteArray) : Stp c (c.punct p) := by
  unfold Cu.punct
  split
  · exact takeP h ‹_›
  · exact Stp.refl h
theorem want_stp {c : Cu} (h : c.Ok) (p : ByteArray) : Stp c (c.want p) := by
  unfold Cu.want
  split
  · exact takeP h ‹_›
  · exact stop_stp h _
theorem name_stp {c : Cu} (h : c.Ok) : Stp c c.name := by
  unfold Cu.name
  split
  · exact takeN h ‹_›
  · exact stop_stp h _
theorem opn_stp {c : Cu} (h : c.Ok) (p : ByteArray) : Stp c (c.opn p) := by
  unfold Cu.opn
  split
  · split
    · exact ⟨⟨isP_more h ‹_›, h.more, by show c.op + 1 ≤ c.mo; omega, h.mo⟩, rfl, rfl, Nat.le_succ _⟩
    · exact stop_stp h _
  · exact stop_stp h _
theorem opn_ix {c : Cu} {p : ByteArray} (h : c.opB p = true) : (c.opn p).ix = c.ix + 1 := by
  unfold Cu.opB at h
  simp only [Bool.and_eq_true, decide_eq_true_eq] at h
  unfold Cu.opn
  rw [if_pos h.1, if_pos h.2]
theorem cls_stp {c : Cu} (h : c.Ok) (p : ByteArray) : Stp c (c.cls p) := by
  unfold Cu.cls
  split
  · exact ⟨⟨isP_more h ‹_›, h.more, by have := h.op; show c.op - 1 ≤ c.mo; omega, h.mo⟩, rfl, rfl, Nat.le_succ _⟩
  · exact stop_stp h _
theorem fin_stp {c : Cu} (h : c.Ok) : Stp c c.fin := by
  unfold Cu.fin
  split
  · exact Stp.refl h
  · exact stop_stp h _
def bLb : ByteArray := ⟨#[91]⟩
def bRb : ByteArray := ⟨#[93]⟩
def bLc : ByteArray := ⟨#[123]⟩
def bRc : ByteArray := ⟨#[125]⟩
def bBang : ByteArray := ⟨#[33]⟩
def bDol : ByteArray := ⟨#[36]⟩
def bCol : ByteArray := ⟨#[58]⟩
def bTrue : ByteArray := ⟨#[116, 114, 117, 101]⟩
def bFalse : ByteArray := ⟨#[102, 97, 108, 115, 101]⟩
def bNull : ByteArray := ⟨#[110, 117, 108, 108]⟩
/-- a type's reference, up to its own mark -/
def unm (T : Cu → Option (ByteArray × ByteArray) × Cu) (c : Cu) : Option (ByteArray × ByteArray) × Cu :=
  if c.isP bLb then
    (if c.opB bLb then
      (match (T (c.opn bLb)).1 with
      | none => (none, (T (c.opn bLb)).2)
      | some it => if (T (c.opn bLb)).2.isP bRb then (some (it.1, it.2 ++ bRb), (T (c.opn bLb)).2.cls bRb) else (none, (T (c.opn bLb)).2.cls bRb))
    else (none, c.opn bLb))
  else if c.isN then (some (c.tok.tx, em), c.name) else (none, c.name)
def typ (U : Cu → Option (ByteArray × ByteArray) × Cu) (c : Cu) : Option (ByteArray × ByteArray) × Cu :=
  match (U c).1 with
  | none => (none, (U c).2)
  | some r => if (U c).2.isP bBang then (some (r.1, r.2 ++ bBang), (U c).2.punct bBang) else (some r, (U c).2.punct bBang)
def typF : Nat → Cu → Option (ByteArray × ByteArray) × Cu
  | 0, c => (none, c)
  | f + 1, c => typ (unm (typF f)) c
/-- literals -/
def litD (k : Int) (tx : ByteArray) (bl : Bool) (its fls : Dt) (ln co : Int) : Dt := .val (.int .i64 k) (.val (.string tx) (.val (.bool bl) (.lst 7 its (.lst 10 fls (.val (.int .i64 ln) (.val (.int .i64 co) .nil))))))
def app : Dt → Dt → Dt
  | .nil, e => e
  | .val v r, e => .val v (app r e)
  | .lst k rs r, e => .lst k rs (app r e)
  | .row a b, e => .row a b
def fldD (nm : ByteArray) (v : Dt) (ln co : Int) : Dt := .val (.string nm) (app v (.val (.int .i64 ln) (.val (.int .i64 co) .nil)))
def brkF (E : Cu → Option Dt × Cu) (right : ByteArray) (least : Nat) : Nat → List Dt → Cu → Option (List Dt) × Cu
  | 0, l, c => (none, c)
  | g + 1, l, c => if l.length < least ∨ c.isP right = false then (match (E c).1 with | none => (none, (E c).2) | some d => brkF E right least g (l ++ [d]) (E c).2) else (some l, c.cls right)
def brk (E : Cu → Option Dt × Cu) (left right : ByteArray) (least : Nat) (c : Cu) : Option (List Dt) × Cu :=
  if c.opB left then brkF E right least c.ts.length [] (c.opn left) else (none, c.opn left)
def argS (L : Cu → Option Dt × Cu) (c : Cu) : Option Dt × Cu :=
  match (L (c.name.want bCol)).1 with
  | none => (none, (L (c.name.want bCol)).2)
  | some v => (some (fldD c.tok.tx v c.tok.ln c.tok.co), (L (c.name.want bCol)).2)
def wordD (t : Tk) : Dt := if t.tx = bTrue ∨ t.tx = bFalse then litD 5 t.tx false .nil .nil t.ln t.co else if t.tx = bNull then litD 6 em false .nil .nil t.ln t.co else litD 7 t.tx false .nil .nil t.ln t.co
def varS (c : Cu) : Option Dt × Cu := if c.take.isN then (some (litD 1 c.take.tok.tx false .nil .nil c.tok.ln c.tok.co), c.take.name) else (none, c.take.name)
def listS (L : Cu → Option Dt × Cu) (c : Cu) : Option Dt × Cu :=
  match (brk L bLb bRb 0 c).1 with
  | none => (none, (brk L bLb bRb 0 c).2)
  | some l => (some (litD 8 em false (Dt.of l) .nil c.tok.ln c.tok.co), (brk L bLb bRb 0 c).2)
def objS (L : Cu → Option Dt × Cu) (c : Cu) : Option Dt × Cu :=
  match (brk (argS L) bLc bRc 0 c).1 with
  | none => (none, (brk (argS L) bLc bRc 0 c).2)
  | some l => (some (litD 9 em false .nil (Dt.of l) c.tok.ln c.tok.co), (brk (argS L) bLc bRc 0 c).2)
def litS (L : Cu → Option Dt × Cu) (ct : Bool) (c : Cu) : Option Dt × Cu :=
  if c.kd ≠ 0 then (none, c)
  else if c.tok.k = 4 then (some (litD 2 c.tok.tx false .nil .nil c.tok.ln c.tok.co), c.take)
  else if c.tok.k = 5 then (some (litD 3 c.tok.tx false .nil .nil c.tok.ln c.tok.co), c.take)
  else if c.tok.k = 6 ∨ c.tok.k = 7 then (some (litD 4 c.tok.va (decide (c.tok.k = 7)) .nil .nil c.tok.ln c.tok.co), c.take)
  else if c.tok.k = 3 then (some (wordD c.tok), c.take)
  else if c.isP bDol ∧ ct = false then varS c
  else if c.isP bLb then listS L c
  else if c.isP bLc then objS L c
  else (none, c.stop 70)
def litF (ct : Bool) : Nat → Cu → Option Dt × Cu
  | 0, c => (none, c)
  | f + 1, c => litS (litF ct f) ct c
/-- a reading that goes on -/
def Goes {A : Type} (E : Cu → Option A × Cu) : Prop := ∀ c, c.Ok → Stp c (E c).2 ∧ ((E c).1.isSome = true → c.ix < (E c).2.ix)
theorem brkF_stp {E : Cu → Option Dt × Cu} (hE : Goes E) (right : ByteArray) (least : Nat) : ∀ (g : Nat) (l : List Dt) (c : Cu), c.Ok → Stp c (brkF E right least g l c).2
  | 0, l, c, h => Stp.refl h
  | g + 1, l, c, h => by
    simp only [brkF]
    split
    · cases hq : (E c).1 with
      | none => exact (hE c h).1
      | some d => exact (hE c h).1.trans (brkF_stp hE right least g _ _ (hE c h).1.ok)
    · exact cls_stp h _
theorem brk_goes {E : Cu → Option Dt × Cu} (hE : Goes E) (left right : ByteArray) (least : Nat) : Goes (brk E left right least) := by
  intro c h
  unfold brk
  have ho := opn_stp h left
  split
  · rename_i hb
    have h2 := brkF_stp hE right least c.ts.length [] _ ho.ok
    exact ⟨ho.trans h2, fun _ => by have := h2.ix; rw [opn_ix hb] at this; omega⟩
  · exact ⟨ho, fun h => by cases h⟩
theorem argS_goes {L : Cu → Option Dt × Cu} (hL : Goes L) : Goes (argS L) := by
  intro c h
  have h1 := name_stp h
  have h2 := want_stp h1.ok bCol
  have h3 := hL _ h2.ok
  have hs : Stp c (L (c.name.want bCol)).2 := (h1.trans h2).trans h3.1
  unfold argS
  cases hq : (L (c.name.want bCol)).1 with
  | none => exact ⟨hs, fun h => by cases h⟩
  | some d => exact ⟨hs, fun _ => Nat.lt_of_le_of_lt (h1.trans h2).ix (h3.2 (by rw [hq]; rfl))⟩
theorem litS_goes {L : Cu → Option Dt × Cu} (hL : Goes L) (ct : Bool) : Goes (litS L ct) := by
  intro c h
  have htk : ∀ k : Int, c.tok.k = k → k ≠ 0 → k ≠ 1 → Stp c c.take ∧ c.ix < c.take.ix := fun k e h0 h1 => ⟨take_stp h (e ▸ h0) (e ▸ h1), Nat.lt_succ_self _⟩
  unfold litS
  split
  · exact ⟨Stp.refl h, fun h => by cases h⟩
  split
  · have := htk _ ‹_› (by decide) (by decide); exact ⟨this.1, fun _ => this.2⟩
  split
  · have := htk _ ‹_› (by decide) (by decide); exact ⟨this.1, fun _ => this.2⟩
  split
  · rename_i h6
    rcases h6 with h6 | h6
    · have := htk _ h6 (by decide) (by decide); exact ⟨this.1, fun _ => this.2⟩
    · have := htk _ h6 (by decide) (by decide); exact ⟨this.1, fun _ => this.2⟩
  split
  · have := htk _ ‹_› (by decide) (by decide); exact ⟨this.1, fun _ => this.2⟩
  split
  · rename_i hd
    have h1 := takeP h hd.1
    have h2 := name_stp h1.ok
    unfold varS
    split
    · exact ⟨h1.trans h2, fun _ => by have := h2.ix; exact Nat.lt_of_lt_of_le (Nat.lt_succ_self _) this⟩
    · exact ⟨h1.trans h2, fun h => by cases h⟩
  split
  · have hb := brk_goes hL bLb bRb 0 c h
    unfold listS
    cases hq : (brk L bLb bRb 0 c).1 with
    | none => exact ⟨hb.1, fun h => by cases h⟩
    | some l => exact ⟨hb.1, fun _ => hb.2 (by rw [hq]; rfl)⟩
  split
  · have hb := brk_goes (argS_goes hL) bLc bRc 0 c h
    unfold objS
    cases hq : (brk (argS L) bLc bRc 0 c).1 with
    | none => exact ⟨hb.1, fun h => by cases h⟩
    | some l => exact ⟨hb.1, fun _ => hb.2 (by rw [hq]; rfl)⟩
  · exact ⟨stop_stp h _, fun h => by cases h⟩
theorem litF_goes (ct : Bool) : ∀ f, Goes (litF ct f)
  | 0 => fun c h => ⟨Stp.refl h, fun h => by cases h⟩
  | f + 1 => litS_goes (litF_goes ct f) ct
theorem size_app (a b : ByteArray) : (a ++ b).size = a.size + b.size := ByteArray.size_append
/-- a reference's marks are no more than the tokens taken -/
theorem typF_goes : ∀ (f : Nat) (c : Cu), c.Ok → Stp c (typF f c).2 ∧ ∀ r, (typF f c).1 = some r → r.2.size < (typF f c).2.ix - c.ix + 1
  | 0, c, h => ⟨Stp.refl h, fun r hr => by cases hr⟩
  | f + 1, c, h => by
    have hu : Stp c (unm (typF f) c).2 ∧ ∀ r, (unm (typF f) c).1 = some r → r.2.size < (unm (typF f) c).2.ix - c.ix + 1 := by
      unfold unm
      split
      · have ho := opn_stp h bLb
        split
        · rename_i hb
          have hi := opn_ix hb
          have h2 := typF_goes f _ ho.ok
          cases hq : (typF f (c.opn bLb)).1 with
          | none => exact ⟨ho.trans h2.1, fun r hr => by cases hr⟩
          | some it =>
            have h3 := cls_stp h2.1.ok bRb
            have h4 := h2.2 it hq
            have h5 := h2.1.ix
            have h6 := h3.ix
            dsimp only
            split
            · refine ⟨(ho.trans h2.1).trans h3, fun r hr => ?_⟩
              obtain rfl := Option.some.inj hr
              show (it.2 ++ bRb).size < _
              rw [size_app]
              show it.2.size + 1 < ((typF f (c.opn bLb)).2.cls bRb).ix - c.ix + 1
              omega
            · exact ⟨(ho.trans h2.1).trans h3, fun r hr => by cases hr⟩
        · exact ⟨ho, fun r hr => by cases hr⟩
      · have hn := name_stp h
        split
        · exact ⟨hn, fun r hr => by obtain rfl := Option.some.inj hr; show (0 : Nat) < _; omega⟩
        · exact ⟨hn, fun r hr => by cases hr⟩
    show Stp c (typ (unm (typF f)) c).2 ∧ ∀ r, (typ (unm (typF f)) c).1 = some r → r.2.size < (typ (unm (typF f)) c).2.ix - c.ix + 1
    unfold typ
    cases hq : (unm (typF f) c).1 with
    | none => exact ⟨hu.1, fun r hr => by cases hr⟩
    | some it =>
      have hp := punct_stp hu.1.ok bBang
      have h4 := hu.2 it hq
      have h5 := hu.1.ix
      dsimp only
      split
      · rename_i hb
        refine ⟨hu.1.trans hp, fun r hr => ?_⟩
        obtain rfl := Option.some.inj hr
        show (it.2 ++ bBang).size < _
        rw [size_app]
        have : ((unm (typF f) c).2.punct bBang).ix = (unm (typF f) c).2.ix + 1 := by unfold Cu.punct; rw [if_pos hb]; rfl
        rw [this]
        show it.2.size + 1 < _
        omega
      · refine ⟨hu.1.trans hp, fun r hr => ?_⟩
        obtain rfl := Option.some.inj hr
        have := hp.ix
        show it.2.size < ((unm (typF f) c).2.punct bBang).ix - c.ix + 1
        omega
end Go.Proofs.Ytfegalieiiaopab.cu
