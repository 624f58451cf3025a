import Derived.Test.YtdmfbahnhkdamaaGreatNes13
namespace Go.Proofs.YtdmfbahnhkdamaaGreat.cu
open dt (Dt Kp RowAt Ow Grow)
open mem (decF decZ putB scB Byt posT enB)
open lx (toks chs cln tksG tkG shT cAt ign rdG)
set_option linter.unusedVariables false
set_option linter.unusedSimpArgs false
section
variable {pl : Bool} {m s e : Nat}
/-- a literal that is read looks at no token behind itself -/
theorem litF_5 (ct : Bool) : ∀ (f f' : Nat) (c c' : Cu), c.Ok → c'.Ok → Sf pl m s e c c' → c.ts.length ≤ f + c.ix → c'.ts.length ≤ f' + c'.ix → Ps e c (litF ct f) → (litF ct f c).1.isSome = true → (litF ct f c).2.ix ≤ m + 1 → OD (EqL pl f) (litF ct f c).1 (litF ct f' c').1 ∧ Sf pl m s e (litF ct f c).2 (litF ct f' c').2
  | 0, f', c, c', hc, hc', hs, hb, hb', hP, hsm, hm => by have := hc.lt; omega
  | f + 1, 0, c, c', hc, hc', hs, hb, hb', hP, hsm, hm => by have := hc'.lt; omega
  | f + 1, f' + 1, c, c', hc, hc', hs, hb, hb', hP, hsm, hm => by
    have hgo := (litF_goes ct (f + 1) c hc).2 hsm
    have hi : c.ix ≤ m := by omega
    have ht := hs.tok hi
    have ih := litF_4 (pl := pl) (m := m) (s := s) (e := e) ct f f'
    change OD (EqL pl (f + 1)) (litS (litF ct f) ct c).1 (litS (litF ct f') ct c').1 ∧ Sf pl m s e (litS (litF ct f) ct c).2 (litS (litF ct f') ct c').2
    change (litS (litF ct f) ct c).1.isSome = true at hsm
    change (litS (litF ct f) ct c).2.ix ≤ m + 1 at hm
    have hP' : e = 0 ∨ (Inv c ∧ c.kd = 0 ∧ (litS (litF ct f) ct c).2.kd = 0) := hP
    clear hP hgo
    unfold litS at hsm hm hP' ⊢
    rw [hs.kd, ht.1, hs.isP hi, hs.isP hi, hs.isP hi]
    by_cases h0 : c.kd ≠ 0
    · rw [if_pos h0] at hsm; cases hsm
    rw [if_neg h0] at hsm hm hP'
    rw [if_neg h0, if_neg h0]
    by_cases h1 : c.tok.k = 4
    · rw [if_pos h1, if_pos h1, ht.2.1]; exact ⟨leaf_eq f ht.2.2.2, hs.take⟩
    rw [if_neg h1] at hsm hm hP'
    rw [if_neg h1, if_neg h1]
    by_cases h2 : c.tok.k = 5
    · rw [if_pos h2, if_pos h2, ht.2.1]; exact ⟨leaf_eq f ht.2.2.2, hs.take⟩
    rw [if_neg h2] at hsm hm hP'
    rw [if_neg h2, if_neg h2]
    by_cases h3 : c.tok.k = 6 ∨ c.tok.k = 7
    · rw [if_pos h3, if_pos h3, ht.2.2.1]; exact ⟨leaf_eq f ht.2.2.2, hs.take⟩
    rw [if_neg h3] at hsm hm hP'
    rw [if_neg h3, if_neg h3]
    by_cases h4 : c.tok.k = 3
    · rw [if_pos h4, if_pos h4]; exact ⟨word_eq f ht, hs.take⟩
    rw [if_neg h4] at hsm hm hP'
    rw [if_neg h4, if_neg h4]
    by_cases h5 : c.isP bDol = true ∧ ct = false
    · rw [if_pos h5] at hsm hm
      rw [if_pos h5, if_pos h5]
      unfold varS at hsm hm ⊢
      cases hn : c.take.isN with
      | false => rw [hn] at hsm; cases hsm
      | true =>
        rw [hn, if_pos rfl] at hm
        have hx : c.take.name.ix = c.ix + 2 := by unfold Cu.name; rw [hn, if_pos rfl]; rfl
        have hm' : c.take.name.ix ≤ m + 1 := hm
        have hi1 : c.take.ix ≤ m := by show c.ix + 1 ≤ m; omega
        have e1 := hs.take.isN hi1
        have t1 := hs.take.tok hi1
        rw [e1, hn, if_pos rfl, if_pos rfl, t1.2.1]
        exact ⟨leaf_eq f ht.2.2.2, hs.take.name hi1⟩
    rw [if_neg h5] at hsm hm hP'
    rw [if_neg h5, if_neg h5]
    by_cases h6 : c.isP bLb = true
    · rw [if_pos h6] at hsm hm hP'
      rw [if_pos h6, if_pos h6]
      have q2 : (listS (litF ct f) c).2 = (brk (litF ct f) bLb bRb 0 c).2 := by unfold listS; cases (brk (litF ct f) bLb bRb 0 c).1 <;> rfl
      have q1 : (brk (litF ct f) bLb bRb 0 c).1.isSome = true := by
        unfold listS at hsm
        cases hq : (brk (litF ct f) bLb bRb 0 c).1 with
        | none => rw [hq] at hsm; cases hsm
        | some l => rfl
      rw [q2] at hm hP'
      obtain ⟨w1, w2⟩ := brk_45 (litF_goes ct f) (litF_goes ct f') (litF_faults ct f) ih dl_lb dl_rb 0 c c' hc hc' hs (by omega) (by omega) hP' (.inr ⟨q1, hm⟩)
      unfold listS
      cases hq : (brk (litF ct f) bLb bRb 0 c).1 with
      | none => rw [hq] at q1; cases q1
      | some l =>
        rw [hq] at w1
        obtain ⟨l', e1, e2⟩ := w1.some
        rw [e1]
        exact ⟨⟨8, em, false, l, l', [], [], _, _, _, _, rfl, rfl, ht.2.2.2, e2.1, rfl, e2.2, fun i x y hx => by simp at hx⟩, w2⟩
    rw [if_neg h6] at hsm hm hP'
    rw [if_neg h6, if_neg h6]
    by_cases h7 : c.isP bLc = true
    · rw [if_pos h7] at hsm hm hP'
      rw [if_pos h7, if_pos h7]
      have q2 : (objS (litF ct f) c).2 = (brk (argS (litF ct f)) bLc bRc 0 c).2 := by unfold objS; cases (brk (argS (litF ct f)) bLc bRc 0 c).1 <;> rfl
      have q1 : (brk (argS (litF ct f)) bLc bRc 0 c).1.isSome = true := by
        unfold objS at hsm
        cases hq : (brk (argS (litF ct f)) bLc bRc 0 c).1 with
        | none => rw [hq] at hsm; cases hsm
        | some l => rfl
      rw [q2] at hm hP'
      obtain ⟨w1, w2⟩ := brk_45 (argS_goes (litF_goes ct f)) (argS_goes (litF_goes ct f')) (argS_faults f (litF_faults ct f)) (argS_4 ih) dl_lc dl_rc 0 c c' hc hc' hs (by omega) (by omega) hP' (.inr ⟨q1, hm⟩)
      unfold objS
      cases hq : (brk (argS (litF ct f)) bLc bRc 0 c).1 with
      | none => rw [hq] at q1; cases q1
      | some l =>
        rw [hq] at w1
        obtain ⟨l', e1, e2⟩ := w1.some
        rw [e1]
        exact ⟨⟨9, em, false, [], [], l, l', _, _, _, _, rfl, rfl, ht.2.2.2, rfl, e2.1, (fun i x y hx => by simp at hx), e2.2⟩, w2⟩
    · rw [if_neg h7] at hsm; cases hsm
end
/-- a literal begins with no closing bracket -/
theorem lit_first {ct : Bool} {f : Nat} {c : Cu} (h : (litF ct f c).1.isSome = true) {p : ByteArray} (h1 : p ≠ bDol) (h2 : p ≠ bLb) (h3 : p ≠ bLc) : c.isP p = false := by
  cases hp : c.isP p with
  | false => rfl
  | true =>
    exfalso
    obtain ⟨k0, k1, k2⟩ := isP_k hp
    have hn : ∀ q, q ≠ p → c.isP q = false := fun q hq => decide_eq_false fun x => hq (x.2.2.symm.trans k2)
    cases f with
    | zero => cases h
    | succ f =>
      change (litS (litF ct f) ct c).1.isSome = true at h
      unfold litS at h
      rw [if_neg (by rw [k0]; decide), k1, if_neg (by decide), if_neg (by decide), if_neg (by decide), if_neg (by decide), hn bDol (fun e => h1 e.symm), if_neg (by simp), hn bLb (fun e => h2 e.symm), if_neg (by decide), hn bLc (fun e => h3 e.symm), if_neg (by decide)] at h
      cases h
/-- of a text that ReadLit takes -/
theorem lit_end {z : List Int} {ct : Bool} {d : Int} {v : Dt} (h : (readLG z ct d).1 = some v) : (litF ct (toks z).length (newG z d)).1 = some v ∧ (litF ct (toks z).length (newG z d)).2.kd = 0 ∧ (∃ t, (toks z)[(litF ct (toks z).length (newG z d)).2.ix]? = some t ∧ t.k = 0) ∧ (toks z).length = (litF ct (toks z).length (newG z d)).2.ix + 1 ∧ 0 < (litF ct (toks z).length (newG z d)).2.ix := by
  unfold readLG at h
  have hg := litF_goes ct (toks z).length (newG z d) (newG_ok' z d)
  cases hv : (litF ct (toks z).length (newG z d)).1 with
  | none => rw [hv] at h; cases h
  | some v' =>
    rw [hv] at h hg
    rw [if_pos (show (some v').isSome = true from rfl)] at h
    cases hf : (litF ct (toks z).length (newG z d)).2.finB with
    | false => rw [hf] at h; cases h
    | true =>
      rw [hf, if_pos rfl] at h
      have hk : (litF ct (toks z).length (newG z d)).2.kd = 0 ∧ (litF ct (toks z).length (newG z d)).2.tok.k = 0 := of_decide_eq_true hf
      have hget := (litF ct (toks z).length (newG z d)).2.get hg.1.ok.lt
      rw [hg.1.ts] at hget
      have hget' : (toks z)[(litF ct (toks z).length (newG z d)).2.ix]? = some (litF ct (toks z).length (newG z d)).2.tok := hget
      have hl := tks_last3 (chs z) (cln z) _ 0 _ (Nat.zero_le _) hget' (.inl hk.2)
      exact ⟨h, hk.1, ⟨_, hget', hk.2⟩, hl, Nat.lt_of_le_of_lt (Nat.zero_le _) (hg.2 rfl)⟩
theorem Cu.mk_eq {c : Cu} {ts : List Tk} {i o q : Nat} (h1 : c.ts = ts) (h2 : c.ix = i) (h3 : c.op = o) (h4 : c.mo = q) (h5 : c.kd = 0) : c = ⟨ts, i, o, q, 0⟩ := by
  obtain ⟨a, b, x, y, z⟩ := c
  simp only at h1 h2 h3 h4 h5
  subst h1 h2 h3 h4 h5
  rfl
/-- the same literal within brackets -/
theorem lit_there {z : List Int} {ct : Bool} {d : Int} {v : Dt} (h : (readLG z ct d).1 = some v) {T : List Tk} {s N m : Nat} (hm : (toks z).length = m + 1) (hT : ∀ i, i < m → EqT false ((toks z).getD i Tk.zero) (T.getD (i + s) Tk.zero)) (hok : (⟨T, s, 1, mostS d + 1, 0⟩ : Cu).Ok) (hN : T.length ≤ N + s) :
    ∃ v', litF ct N ⟨T, s, 1, mostS d + 1, 0⟩ = (some v', ⟨T, s + m, 1, mostS d + 1, 0⟩) ∧ EqL false (toks z).length v' v ∧ ∀ {p : ByteArray}, p ≠ bDol → p ≠ bLb → p ≠ bLc → (⟨T, s, 1, mostS d + 1, 0⟩ : Cu).isP p = false := by
  obtain ⟨h1, h2, ⟨t, h3, h4⟩, h5, h6⟩ := lit_end h
  have hmx : (litF ct (toks z).length (newG z d)).2.ix = m := by omega
  rw [hmx] at h3 h6
  have hok1 := newG_ok' z d
  have hs : Sf false (m - 1) s 1 (newG z d) ⟨T, s, 1, mostS d + 1, 0⟩ := ⟨by show s = 0 + s; omega, rfl, rfl, rfl, fun i hi => hT i (by omega)⟩
  have hI : Inv (newG z d) := rfl
  have hP : Ps 1 (newG z d) (litF ct (toks z).length) := .inr ⟨hI, rfl, h2⟩
  obtain ⟨q1, q2⟩ := litF_5 ct (toks z).length N (newG z d) ⟨T, s, 1, mostS d + 1, 0⟩ hok1 hok hs (Nat.le_add_right _ _) hN hP (by rw [h1]; rfl) (by rw [hmx]; omega)
  rw [h1] at q1
  obtain ⟨v', e1, e2⟩ := q1.some
  have hst := (litF_goes ct N ⟨T, s, 1, mostS d + 1, 0⟩ hok).1
  have hbal := (litF_3 (M := 0) ct (toks z).length).bal (newG z d) hok1 (Nat.le_add_right _ _) hI rfl h2
  have hop : (litF ct (toks z).length (newG z d)).2.op = 0 := hbal.1
  refine ⟨v', ?_, e2.symm, fun {p} p1 p2 p3 => lit_first (ct := ct) (f := N) (by rw [e1]; rfl) p1 p2 p3⟩
  have e3 : (litF ct N ⟨T, s, 1, mostS d + 1, 0⟩).2 = ⟨T, s + m, 1, mostS d + 1, 0⟩ := Cu.mk_eq hst.ts (by rw [q2.ix, hmx]; omega) (by rw [q2.op, hop]) hst.mo (by rw [q2.kd, h2])
  rw [← e1, ← e3]
section
variable {ts : List Tk} {i op mo : Nat}
theorem nP_at {p : ByteArray} (hk : (ts.getD i Tk.zero).k = 2) (hx : (ts.getD i Tk.zero).tx = p) : (⟨ts, i, op, mo, 0⟩ : Cu).isP p = true := decide_eq_true ⟨rfl, hk, hx⟩
theorem nP_no {p : ByteArray} (hk : ¬ ((ts.getD i Tk.zero).k = 2 ∧ (ts.getD i Tk.zero).tx = p)) : (⟨ts, i, op, mo, 0⟩ : Cu).isP p = false := decide_eq_false fun x => hk x.2
theorem nN_at (hk : (ts.getD i Tk.zero).k = 3) : (⟨ts, i, op, mo, 0⟩ : Cu).name = ⟨ts, i + 1, op, mo, 0⟩ := by
  have hn : (⟨ts, i, op, mo, 0⟩ : Cu).isN = true := decide_eq_true ⟨rfl, hk⟩
  unfold Cu.name
  rw [hn]
  rfl
theorem nW_at {p : ByteArray} (hk : (ts.getD i Tk.zero).k = 2) (hx : (ts.getD i Tk.zero).tx = p) : (⟨ts, i, op, mo, 0⟩ : Cu).want p = ⟨ts, i + 1, op, mo, 0⟩ := by
  unfold Cu.want
  rw [nP_at hk hx]
  rfl
/-- a bracket with two things in it -/
theorem brk_two {E : LitR} {l r : ByteArray} {n j k : Nat} {x y : Dt} (hn : n ≤ 2) (hk : (ts.getD i Tk.zero).k = 2) (hx : (ts.getD i Tk.zero).tx = l) (hm : op < mo) (hl : 3 ≤ ts.length) (h1 : (⟨ts, i + 1, op + 1, mo, 0⟩ : Cu).isP r = false) (hE : E ⟨ts, i + 1, op + 1, mo, 0⟩ = (some x, ⟨ts, j, op + 1, mo, 0⟩)) (h2 : (⟨ts, j, op + 1, mo, 0⟩ : Cu).isP r = false) (hE2 : E ⟨ts, j, op + 1, mo, 0⟩ = (some y, ⟨ts, k, op + 1, mo, 0⟩)) (hk2 : (ts.getD k Tk.zero).k = 2) (hx2 : (ts.getD k Tk.zero).tx = r) : brk E l r n ⟨ts, i, op, mo, 0⟩ = (some [x, y], ⟨ts, k + 1, op, mo, 0⟩) := by
  have hp := nP_at (op := op) (mo := mo) hk hx
  have hB : (⟨ts, i, op, mo, 0⟩ : Cu).opB l = true := by unfold Cu.opB; rw [hp]; exact decide_eq_true hm
  have hO : (⟨ts, i, op, mo, 0⟩ : Cu).opn l = ⟨ts, i + 1, op + 1, mo, 0⟩ := by unfold Cu.opn; rw [if_pos hp, if_pos hm]
  unfold brk
  rw [if_pos hB, hO]
  show brkF E r n ts.length [] _ = _
  obtain ⟨g, hg⟩ : ∃ g, ts.length = g + 1 + 1 + 1 := ⟨ts.length - 3, by omega⟩
  rw [hg]
  simp only [brkF]
  rw [if_pos (.inr h1), hE]
  dsimp only
  rw [if_pos (.inr h2), hE2]
  dsimp only
  have hr := nP_at (op := op + 1) (mo := mo) hk2 hx2
  rw [if_neg (fun q => by rcases q with q | q; simp at q; omega; rw [hr] at q; cases q)]
  unfold Cu.cls
  rw [if_pos hr]
  rfl
/-- an argument -/
theorem arg_at {L : LitR} {j : Nat} {v : Dt} {w : ByteArray} (h1 : (ts.getD i Tk.zero).k = 3) (h1x : (ts.getD i Tk.zero).tx = w) (h2 : (ts.getD (i + 1) Tk.zero).k = 2) (h3 : (ts.getD (i + 1) Tk.zero).tx = bCol) (hL : L ⟨ts, i + 1 + 1, op, mo, 0⟩ = (some v, ⟨ts, j, op, mo, 0⟩)) : ∃ a b, argS L ⟨ts, i, op, mo, 0⟩ = (some (fldD w v a b), ⟨ts, j, op, mo, 0⟩) := by
  refine ⟨(ts.getD i Tk.zero).ln, (ts.getD i Tk.zero).co, ?_⟩
  unfold argS
  rw [nN_at h1, nW_at h2 h3, hL]
  show (some (fldD (ts.getD i Tk.zero).tx v _ _), _) = _
  rw [h1x]
  rfl
end
theorem map_at {T : List Tk} {K : List Ky} (h : T.map key = K) {i : Nat} {x : Ky} (hx : K[i]? = some x) : (T.getD i Tk.zero).k = x.1 ∧ (T.getD i Tk.zero).tx = x.2.1 ∧ (T.getD i Tk.zero).va = x.2.2 := by
  rw [← h, List.getElem?_map] at hx
  cases ht : T[i]? with
  | none => rw [ht] at hx; cases hx
  | some t =>
    rw [ht] at hx
    have e : key t = x := Option.some.inj hx
    rw [List.getD_eq_getElem?_getD, ht, ← e]
    exact ⟨rfl, rfl, rfl⟩
theorem map_run {T A : List Tk} {P R : List Ky} {m s : Nat} (h : T.map key = P ++ ((A.map key).take m ++ R)) (hP : P.length = s) (hm : A.length = m + 1) : ∀ i, i < m → EqT false (A.getD i Tk.zero) (T.getD (i + s) Tk.zero) := fun i hi => by
  have hx : (P ++ ((A.map key).take m ++ R))[i + s]? = some (key (A.getD i Tk.zero)) := by
    rw [List.getElem?_append_right (by omega), hP, show i + s - s = i by omega, List.getElem?_append_left (by simp; omega), List.getElem?_take, if_pos hi, List.getElem?_map, List.getElem?_eq_getElem (by omega), List.getD_eq_getElem?_getD, List.getElem?_eq_getElem (by omega)]
    rfl
  obtain ⟨e1, e2, e3⟩ := map_at h hx
  exact ⟨e1, e2, e3, fun x => by cases x⟩
theorem most_up {d : Int} (h : 0 ≤ d ∧ d < 200) : mostS (d + 1) = mostS d + 1 := by unfold mostS; omega
theorem ok_at {z : List Int} {d : Int} {i o : Nat} (hi : i < (toks z).length) (ho : o ≤ mostS d) : (⟨toks z, i, o, mostS d, 0⟩ : Cu).Ok := ⟨hi, (newG_ok' z d).more, ho, (newG_ok' z d).mo⟩
end Go.Proofs.YtdmfbahnhkdamaaGreat.cu
namespace Go.Proofs.YtdmfbahnhkdamaaGreat.cu
open dt (Dt Kp RowAt Ow Grow)
open mem (decF decZ putB scB Byt posT enB)
open lx (toks chs cln tksG tkG shT cAt ign rdG)
set_option linter.unusedVariables false
set_option linter.unusedSimpArgs false
def sL (z y : List Int) : List Int := [91] ++ z ++ [10] ++ y ++ [10, 93]
def sO (z y : List Int) : List Int := [123, 120, 58] ++ z ++ [10, 120, 58] ++ y ++ [10, 125]
def sD (z y : List Int) : List Int := [64, 100, 32, 64, 111, 110, 40, 110, 117, 108, 108, 58] ++ z ++ [10, 121, 58] ++ y ++ [10, 41]
def bx : ByteArray := ⟨#[120]⟩
def byy : ByteArray := ⟨#[121]⟩
def bdd : ByteArray := ⟨#[100]⟩
theorem k2_at {T : List Tk} {K : List Ky} (h : T.map key = K) {i : Nat} {b : Int} {p : ByteArray} (hx : K[i]? = some (k2 b)) (hp : mem.encS [b] = p) : (T.getD i Tk.zero).k = 2 ∧ (T.getD i Tk.zero).tx = p := by
  obtain ⟨e1, e2, _⟩ := map_at h hx
  exact ⟨e1, e2.trans hp⟩
theorem k3_at {T : List Tk} {K : List Ky} (h : T.map key = K) {i : Nat} {w : List Int} {p : ByteArray} (hx : K[i]? = some (k3 w)) (hp : mem.encS w = p) : (T.getD i Tk.zero).k = 3 ∧ (T.getD i Tk.zero).tx = p := by
  obtain ⟨e1, e2, _⟩ := map_at h hx
  exact ⟨e1, e2.trans hp⟩
theorem get_mid {A : Type} {P Q R : List A} {i j : Nat} (h : i = P.length + Q.length + j) : (P ++ (Q ++ R))[i]? = R[j]? := by
  subst h
  rw [List.getElem?_append_right (by omega), List.getElem?_append_right (by omega)]
  congr 1
  omega
/-- the two literals in a list, in an object, in a directive's arguments -/
theorem nests_pure {z y : List Int} (hz : Byt z) (hy : Byt y) {ct : Bool} {d : Int} (hd : 0 ≤ d ∧ d < 200) {v w : Dt} (h : (readLG z ct d).1 = some v) (g : (readLG y ct d).1 = some w) :
    (∃ v' w' a b f1 f2, (readLG (sL z y) ct (d + 1)).1 = some (litD 8 em false (Dt.of [v', w']) .nil a b) ∧ (readLG (sL z y) ct (d + 1)).2.kd = 0 ∧ EqL false f1 v' v ∧ EqL false f2 w' w) ∧
    (∃ v' w' a b a1 b1 a2 b2 f1 f2, (readLG (sO z y) ct (d + 1)).1 = some (litD 9 em false .nil (Dt.of [fldD bx v' a1 b1, fldD bx w' a2 b2]) a b) ∧ (readLG (sO z y) ct (d + 1)).2.kd = 0 ∧ EqL false f1 v' v ∧ EqL false f2 w' w) ∧
    (∃ v' w' a b a0 b0 a1 b1 a2 b2 f1 f2 C, dirs (litF ct (toks (sD z y)).length) (newG (sD z y) (d + 1)) = (some [dirD bdd [] a0 b0, dirD bOn [fldD bNull v' a1 b1, fldD byy w' a2 b2] a b], C) ∧ C.kd = 0 ∧ C.finB = true ∧ EqL false f1 v' v ∧ EqL false f2 w' w) := by
  obtain ⟨_, _, ⟨t, ht, hk⟩, hl1, hp1⟩ := lit_end h
  obtain ⟨_, _, ⟨u, hu, gk⟩, hl2, hp2⟩ := lit_end g
  obtain ⟨m, hm⟩ : ∃ m, m = (litF ct (toks z).length (newG z d)).2.ix := ⟨_, rfl⟩
  obtain ⟨n, hn⟩ : ∃ n, n = (litF ct (toks y).length (newG y d)).2.ix := ⟨_, rfl⟩
  rw [← hm] at ht hl1 hp1
  rw [← hn] at hu hl2 hp2
  obtain ⟨K1, K2, K3⟩ := three_ky hz hy ht hk hu gk
  have hmu := most_up hd
  have LA : (((toks z).map key).take m).length = m := by simp; omega
  have LB : (((toks y).map key).take n).length = n := by simp; omega
  refine ⟨?_, ?_, ?_⟩
  · have K : (toks (sL z y)).map key = _ := K1
    obtain ⟨T, hT⟩ : ∃ T, T = toks (sL z y) := ⟨_, rfl⟩
    have hlen : T.length = 1 + m + n + 2 := by
      have := congrArg List.length K
      rw [List.length_map, List.length_append, List.length_append, List.length_append, LA, LB] at this
      rw [hT, this]
      simp
      omega
    have hok : ∀ i o, i < T.length → o ≤ mostS d + 1 → (⟨T, i, o, mostS d + 1, 0⟩ : Cu).Ok := fun i o h1 h2 => by
      rw [← hmu] at h2 ⊢
      rw [hT] at h1 ⊢
      exact ok_at h1 h2
    rw [← hT] at K
    obtain ⟨v', e1, e2, e3⟩ := lit_there (N := T.length) (s := 1) h hl1 (map_run K rfl hl1) (hok 1 1 (by omega) (by omega)) (by omega)
    have K' : T.map key = ([k2 91] ++ ((toks z).map key).take m) ++ (((toks y).map key).take n ++ [k2 93, k0]) := by rw [K, List.append_assoc]
    obtain ⟨w', g1, g2, g3⟩ := lit_there (N := T.length) (s := 1 + m) g hl2 (map_run K' (by rw [List.length_append, LA]; rfl) hl2) (hok (1 + m) 1 (by omega) (by omega)) (by omega)
    obtain ⟨p1, p2⟩ := k2_at (p := bLb) K (i := 0) (b := 91) rfl rfl
    obtain ⟨r1, r2⟩ := k2_at (p := bRb) K' (i := 1 + m + n) (b := 93) (by rw [get_mid (j := 0) (by rw [List.length_append, LA, LB]; rfl)]; rfl) rfl
    obtain ⟨z1, _⟩ := map_at K' (i := 1 + m + n + 1) (x := k0) (by rw [get_mid (j := 1) (by rw [List.length_append, LA, LB]; rfl)]; rfl)
    -- the fuel of what is inside is one less
    obtain ⟨N, hN⟩ : ∃ N, T.length = N + 1 := ⟨T.length - 1, by omega⟩
    obtain ⟨v', e1, e2, e3⟩ := lit_there (N := N) (s := 1) h hl1 (map_run K rfl hl1) (hok 1 1 (by omega) (by omega)) (by omega)
    obtain ⟨w', g1, g2, g3⟩ := lit_there (N := N) (s := 1 + m) g hl2 (map_run K' (by rw [List.length_append, LA]; rfl) hl2) (hok (1 + m) 1 (by omega) (by omega)) (by omega)
    have hb := brk_two (E := litF ct N) (ts := T) (i := 0) (op := 0) (mo := mostS d + 1) (l := bLb) (r := bRb) (n := 0) (by omega) p1 p2 (by omega) (by omega) (e3 (by decide) (by decide) (by decide)) e1 (g3 (by decide) (by decide) (by decide)) g1 r1 r2
    have hc : newG (sL z y) (d + 1) = ⟨T, 0, 0, mostS d + 1, 0⟩ := by unfold newG; rw [hmu, hT]
    have hlit : litF ct T.length ⟨T, 0, 0, mostS d + 1, 0⟩ = (some (litD 8 em false (Dt.of [v', w']) .nil (T.getD 0 Tk.zero).ln (T.getD 0 Tk.zero).co), ⟨T, 1 + m + n + 1, 0, mostS d + 1, 0⟩) := by
      rw [hN]
      show litS (litF ct N) ct _ = _
      have q : ∀ q, q ≠ bLb → (⟨T, 0, 0, mostS d + 1, 0⟩ : Cu).isP q = false := fun q hq => nP_no fun x => hq (x.2.symm.trans p2)
      have kk : (⟨T, 0, 0, mostS d + 1, 0⟩ : Cu).tok.k = 2 := p1
      unfold litS
      rw [if_neg (by simp), kk, if_neg (by decide), if_neg (by decide), if_neg (by decide), if_neg (by decide), q bDol (by decide), if_neg (by simp), nP_at p1 p2, if_pos rfl]
      unfold listS
      rw [hb]
      rfl
    have hfin : (⟨T, 1 + m + n + 1, 0, mostS d + 1, 0⟩ : Cu).finB = true := decide_eq_true ⟨rfl, z1⟩
    have hr : readLG (sL z y) ct (d + 1) = (some (litD 8 em false (Dt.of [v', w']) .nil (T.getD 0 Tk.zero).ln (T.getD 0 Tk.zero).co), ⟨T, 1 + m + n + 1, 0, mostS d + 1, 0⟩) := by
      unfold readLG
      rw [hc, ← hT, hlit]
      show (if true = true then _ else _) = _
      rw [if_pos rfl, hfin, if_pos rfl]
      unfold Cu.fin
      rw [hfin, if_pos rfl]
    rw [hr]
    exact ⟨v', w', _, _, _, _, rfl, rfl, e2, g2⟩
  · have K : (toks (sO z y)).map key = _ := K2
    obtain ⟨T, hT⟩ : ∃ T, T = toks (sO z y) := ⟨_, rfl⟩
    have hlen : T.length = 3 + m + 2 + n + 2 := by
      have := congrArg List.length K
      rw [List.length_map, List.length_append, List.length_append, List.length_append, List.length_append, LA, LB] at this
      rw [hT, this]
      simp
      omega
    have hok : ∀ i o, i < T.length → o ≤ mostS d + 1 → (⟨T, i, o, mostS d + 1, 0⟩ : Cu).Ok := fun i o h1 h2 => by
      rw [← hmu] at h2 ⊢
      rw [hT] at h1 ⊢
      exact ok_at h1 h2
    rw [← hT] at K
    have K' : T.map key = ([k2 123, k3 [120], k2 58] ++ (((toks z).map key).take m ++ [k3 [120], k2 58])) ++ (((toks y).map key).take n ++ [k2 125, k0]) := by rw [K]; simp
    have hL5 : ([k2 123, k3 [120], k2 58] ++ (((toks z).map key).take m ++ [k3 [120], k2 58])).length = 3 + m + 2 := by rw [List.length_append, List.length_append, LA]; simp; omega
    obtain ⟨p1, p2⟩ := k2_at (p := bLc) K (i := 0) (b := 123) rfl rfl
    obtain ⟨a1, a2⟩ := k3_at (p := bx) K (i := 1) (w := [120]) rfl rfl
    obtain ⟨c1, c2⟩ := k2_at (p := bCol) K (i := 2) (b := 58) rfl rfl
    obtain ⟨a3, a4⟩ := k3_at (p := bx) K (i := 3 + m) (w := [120]) (by rw [get_mid (j := 0) (by rw [LA]; rfl)]; rfl) rfl
    obtain ⟨c3, c4⟩ := k2_at (p := bCol) K (i := 3 + m + 1) (b := 58) (by rw [get_mid (j := 1) (by rw [LA]; rfl)]; rfl) rfl
    obtain ⟨r1, r2⟩ := k2_at (p := bRc) K' (i := 3 + m + 2 + n) (b := 125) (by rw [get_mid (j := 0) (by rw [hL5, LB] <;> rfl)]; rfl) rfl
    obtain ⟨z1, _⟩ := map_at K' (i := 3 + m + 2 + n + 1) (x := k0) (by rw [get_mid (j := 1) (by rw [hL5, LB] <;> rfl)]; rfl)
    obtain ⟨N, hN⟩ : ∃ N, T.length = N + 1 := ⟨T.length - 1, by omega⟩
    obtain ⟨v', e1, e2, e3⟩ := lit_there (N := N) (s := 3) h hl1 (map_run K rfl hl1) (hok 3 1 (by omega) (by omega)) (by omega)
    obtain ⟨w', g1, g2, g3⟩ := lit_there (N := N) (s := 3 + m + 2) g hl2 (map_run K' hL5 hl2) (hok (3 + m + 2) 1 (by omega) (by omega)) (by omega)
    obtain ⟨x1, y1, f1⟩ := arg_at (L := litF ct N) (ts := T) (i := 1) (op := 1) (mo := mostS d + 1) a1 a2 c1 c2 e1
    obtain ⟨x2, y2, f2⟩ := arg_at (L := litF ct N) (ts := T) (i := 3 + m) (op := 1) (mo := mostS d + 1) a3 a4 c3 c4 g1
    have nb : ∀ i, (T.getD i Tk.zero).k = 3 → (⟨T, i, 1, mostS d + 1, 0⟩ : Cu).isP bRc = false := fun i hi => nP_no fun x => by rw [hi] at x; exact absurd x.1 (by decide)
    have hb := brk_two (E := argS (litF ct N)) (ts := T) (i := 0) (op := 0) (mo := mostS d + 1) (l := bLc) (r := bRc) (n := 0) (by omega) p1 p2 (by omega) (by omega) (nb 1 a1) f1 (nb _ a3) f2 r1 r2
    have hc : newG (sO z y) (d + 1) = ⟨T, 0, 0, mostS d + 1, 0⟩ := by unfold newG; rw [hmu, hT]
    have hlit : litF ct T.length ⟨T, 0, 0, mostS d + 1, 0⟩ = (some (litD 9 em false .nil (Dt.of [fldD bx v' x1 y1, fldD bx w' x2 y2]) (T.getD 0 Tk.zero).ln (T.getD 0 Tk.zero).co), ⟨T, 3 + m + 2 + n + 1, 0, mostS d + 1, 0⟩) := by
      rw [hN]
      show litS (litF ct N) ct _ = _
      have q : ∀ q, q ≠ bLc → (⟨T, 0, 0, mostS d + 1, 0⟩ : Cu).isP q = false := fun q hq => nP_no fun x => hq (x.2.symm.trans p2)
      have kk : (⟨T, 0, 0, mostS d + 1, 0⟩ : Cu).tok.k = 2 := p1
      unfold litS
      rw [if_neg (by simp), kk, if_neg (by decide), if_neg (by decide), if_neg (by decide), if_neg (by decide), q bDol (by decide), if_neg (by simp), q bLb (by decide), if_neg (by decide), nP_at p1 p2, if_pos rfl]
      unfold objS
      rw [hb]
      rfl
    have hfin : (⟨T, 3 + m + 2 + n + 1, 0, mostS d + 1, 0⟩ : Cu).finB = true := decide_eq_true ⟨rfl, z1⟩
    have hr : readLG (sO z y) ct (d + 1) = (some (litD 9 em false .nil (Dt.of [fldD bx v' x1 y1, fldD bx w' x2 y2]) (T.getD 0 Tk.zero).ln (T.getD 0 Tk.zero).co), ⟨T, 3 + m + 2 + n + 1, 0, mostS d + 1, 0⟩) := by
      unfold readLG
      rw [hc, ← hT, hlit]
      show (if true = true then _ else _) = _
      rw [if_pos rfl, hfin, if_pos rfl]
      unfold Cu.fin
      rw [hfin, if_pos rfl]
    rw [hr]
    exact ⟨v', w', _, _, _, _, _, _, _, _, rfl, rfl, e2, g2⟩
  · have K : (toks (sD z y)).map key = _ := K3
    obtain ⟨T, hT⟩ : ∃ T, T = toks (sD z y) := ⟨_, rfl⟩
    have hlen : T.length = 7 + m + 2 + n + 2 := by
      have := congrArg List.length K
      rw [List.length_map, List.length_append, List.length_append, List.length_append, List.length_append, LA, LB] at this
      rw [hT, this]
      simp
      omega
    have hok : ∀ i o, i < T.length → o ≤ mostS d + 1 → (⟨T, i, o, mostS d + 1, 0⟩ : Cu).Ok := fun i o h1 h2 => by
      rw [← hmu] at h2 ⊢
      rw [hT] at h1 ⊢
      exact ok_at h1 h2
    rw [← hT] at K
    have K' : T.map key = ([k2 64, k3 [100], k2 64, k3 [111, 110], k2 40, k3 [110, 117, 108, 108], k2 58] ++ (((toks z).map key).take m ++ [k3 [121], k2 58])) ++ (((toks y).map key).take n ++ [k2 41, k0]) := by rw [K]; simp
    have hL5 : ([k2 64, k3 [100], k2 64, k3 [111, 110], k2 40, k3 [110, 117, 108, 108], k2 58] ++ (((toks z).map key).take m ++ [k3 [121], k2 58])).length = 7 + m + 2 := by rw [List.length_append, List.length_append, LA]; simp; omega
    obtain ⟨p1, p2⟩ := k2_at (p := bAt) K (i := 0) (b := 64) rfl rfl
    obtain ⟨d1, d2⟩ := k3_at (p := bdd) K (i := 1) (w := [100]) rfl rfl
    obtain ⟨q1, q2⟩ := k2_at (p := bAt) K (i := 2) (b := 64) rfl rfl
    obtain ⟨o1, o2⟩ := k3_at (p := bOn) K (i := 3) (w := [111, 110]) rfl rfl
    obtain ⟨l1, l2⟩ := k2_at (p := bLp) K (i := 4) (b := 40) rfl rfl
    obtain ⟨a1, a2⟩ := k3_at (p := bNull) K (i := 5) (w := [110, 117, 108, 108]) rfl rfl
    obtain ⟨c1, c2⟩ := k2_at (p := bCol) K (i := 6) (b := 58) rfl rfl
    obtain ⟨a3, a4⟩ := k3_at (p := byy) K (i := 7 + m) (w := [121]) (by rw [get_mid (j := 0) (by rw [LA]; rfl)]; rfl) rfl
    obtain ⟨c3, c4⟩ := k2_at (p := bCol) K (i := 7 + m + 1) (b := 58) (by rw [get_mid (j := 1) (by rw [LA]; rfl)]; rfl) rfl
    obtain ⟨r1, r2⟩ := k2_at (p := bRp) K' (i := 7 + m + 2 + n) (b := 41) (by rw [get_mid (j := 0) (by rw [hL5, LB] <;> rfl)]; rfl) rfl
    obtain ⟨z1, _⟩ := map_at K' (i := 7 + m + 2 + n + 1) (x := k0) (by rw [get_mid (j := 1) (by rw [hL5, LB] <;> rfl)]; rfl)
    obtain ⟨v', e1, e2, e3⟩ := lit_there (N := T.length) (s := 7) h hl1 (map_run K rfl hl1) (hok 7 1 (by omega) (by omega)) (by omega)
    obtain ⟨w', g1, g2, g3⟩ := lit_there (N := T.length) (s := 7 + m + 2) g hl2 (map_run K' hL5 hl2) (hok (7 + m + 2) 1 (by omega) (by omega)) (by omega)
    obtain ⟨x1, y1, f1⟩ := arg_at (L := litF ct T.length) (ts := T) (i := 5) (op := 1) (mo := mostS d + 1) a1 a2 c1 c2 e1
    obtain ⟨x2, y2, f2⟩ := arg_at (L := litF ct T.length) (ts := T) (i := 7 + m) (op := 1) (mo := mostS d + 1) a3 a4 c3 c4 g1
    have nb : ∀ i, (T.getD i Tk.zero).k = 3 → (⟨T, i, 1, mostS d + 1, 0⟩ : Cu).isP bRp = false := fun i hi => nP_no fun x => by rw [hi] at x; exact absurd x.1 (by decide)
    have hb := brk_two (E := argS (litF ct T.length)) (ts := T) (i := 4) (op := 0) (mo := mostS d + 1) (l := bLp) (r := bRp) (n := 1) (by omega) l1 l2 (by omega) (by omega) (nb 5 a1) f1 (nb _ a3) f2 r1 r2
    have hc : newG (sD z y) (d + 1) = ⟨T, 0, 0, mostS d + 1, 0⟩ := by unfold newG; rw [hmu, hT]
    obtain ⟨L, hL⟩ : ∃ L, L = litF ct T.length := ⟨_, rfl⟩
    rw [← hL] at hb
    -- the first directive
    have s1 : dirS L ⟨T, 0, 0, mostS d + 1, 0⟩ = (some (dirD bdd [] (T.getD 0 Tk.zero).ln (T.getD 0 Tk.zero).co), ⟨T, 2, 0, mostS d + 1, 0⟩) := by
      rw [dirS_eq L _ (nP_at p1 p2)]
      have u1 : (⟨T, 0, 0, mostS d + 1, 0⟩ : Cu).punct bAt = ⟨T, 1, 0, mostS d + 1, 0⟩ := by unfold Cu.punct; rw [nP_at p1 p2]; rfl
      have u2 : (⟨T, 1, 0, mostS d + 1, 0⟩ : Cu).name = ⟨T, 2, 0, mostS d + 1, 0⟩ := nN_at d1
      have u3 : argsS L ⟨T, 2, 0, mostS d + 1, 0⟩ = (some [], ⟨T, 2, 0, mostS d + 1, 0⟩) := by
        unfold argsS
        rw [nP_no (fun x => by rw [q2] at x; exact absurd x.2 (by decide))]
        rfl
      simp only [bnd, tokR, punctR, nR, ret, u1, u2, u3]
      show (some (dirD (T.getD 1 Tk.zero).tx [] _ _), _) = _
      rw [d2]
      rfl
    have s2 : dirS L ⟨T, 2, 0, mostS d + 1, 0⟩ = (some (dirD bOn [fldD bNull v' x1 y1, fldD byy w' x2 y2] (T.getD 2 Tk.zero).ln (T.getD 2 Tk.zero).co), ⟨T, 7 + m + 2 + n + 1, 0, mostS d + 1, 0⟩) := by
      rw [dirS_eq L _ (nP_at q1 q2)]
      have u1 : (⟨T, 2, 0, mostS d + 1, 0⟩ : Cu).punct bAt = ⟨T, 3, 0, mostS d + 1, 0⟩ := by unfold Cu.punct; rw [nP_at q1 q2]; rfl
      have u2 : (⟨T, 3, 0, mostS d + 1, 0⟩ : Cu).name = ⟨T, 4, 0, mostS d + 1, 0⟩ := nN_at o1
      have u3 : argsS L ⟨T, 4, 0, mostS d + 1, 0⟩ = (some [fldD bNull v' x1 y1, fldD byy w' x2 y2], ⟨T, 7 + m + 2 + n + 1, 0, mostS d + 1, 0⟩) := by
        unfold argsS
        rw [nP_at l1 l2, if_pos rfl]
        exact hb
      simp only [bnd, tokR, punctR, nR, ret, u1, u2, u3]
      show (some (dirD (T.getD 3 Tk.zero).tx _ _ _), _) = _
      rw [o2]
      rfl
    have hfin : (⟨T, 7 + m + 2 + n + 1, 0, mostS d + 1, 0⟩ : Cu).finB = true := decide_eq_true ⟨rfl, z1⟩
    refine ⟨v', w', (T.getD 2 Tk.zero).ln, (T.getD 2 Tk.zero).co, (T.getD 0 Tk.zero).ln, (T.getD 0 Tk.zero).co, x1, y1, x2, y2, _, _, ⟨T, 7 + m + 2 + n + 1, 0, mostS d + 1, 0⟩, ?_, rfl, hfin, e2, g2⟩
    rw [hc, ← hT, ← hL]
    unfold dirs
    show dirsF L T.length [] _ = _
    obtain ⟨N, hN⟩ : ∃ N, T.length = N + 1 + 1 + 1 := ⟨T.length - 3, by omega⟩
    rw [hN]
    simp only [dirsF]
    rw [nP_at p1 p2, if_pos rfl, s1]
    dsimp only
    rw [nP_at q1 q2, if_pos rfl, s2]
    dsimp only
    rw [nP_no (fun x => by rw [z1] at x; exact absurd x.1 (by decide)), if_neg (by decide)]
    rfl
end Go.Proofs.YtdmfbahnhkdamaaGreat.cu
