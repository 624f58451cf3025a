import Derived.Test.YtcebeajjpcbgcaaGreatQne12
set_option linter.unusedVariables false
set_option linter.unusedSimpArgs false
namespace Go.Proofs.YtcebeajjpcbgcaaGreat.cu
open dt (Dt Kp RowAt Ow Grow)
def OD (R : Dt → Dt → Prop) : Option Dt → Option Dt → Prop
 | none, none => True
 | some x, some y => R x y
 | _, _ => False
def OL (R : Dt → Dt → Prop) : Option (List Dt) → Option (List Dt) → Prop
 | none, none => True
 | some x, some y => EqLs R x y
 | _, _ => False
theorem OD.map {R R' : Dt → Dt → Prop} {a b : Option Dt} {f f' : Dt → Dt} (h : OD R a b) (k : ∀ x y, R x y → R' (f x) (f' y)) : OD R' (a.map f) (b.map f') := by
 cases a <;> cases b
 ·trivial
 ·exact h.elim
 ·exact h.elim
 ·exact k _ _ h
theorem OL.map {R R' : Dt → Dt → Prop} {a b : Option (List Dt)} {f f' : List Dt → Dt} (h : OL R a b) (k : ∀ x y, EqLs R x y → R' (f x) (f' y)) : OD R' (a.map f) (b.map f') := by
 cases a <;> cases b
 ·trivial
 ·exact h.elim
 ·exact h.elim
 ·exact k _ _ h
theorem EqLs.nil {R : Dt → Dt → Prop} : EqLs R [] [] := ⟨rfl, fun i x y hx => by simp at hx⟩
theorem EqLs.snoc {R : Dt → Dt → Prop} {l l' : List Dt} {d d' : Dt} (h : EqLs R l l') (hd : R d d') : EqLs R (l ++ [d]) (l' ++ [d']) := by
 refine ⟨by simp [h.1], fun i x y hx hy => ?_⟩
 rcases Nat.lt_or_ge i l.length with g | g
 ·rw [List.getElem?_append_left g] at hx
  rw [List.getElem?_append_left (by rw [← h.1]; exact g)] at hy
  exact h.2 i x y hx hy
 ·rw [List.getElem?_append_right g] at hx
  rw [List.getElem?_append_right (by rw [← h.1]; exact g), ← h.1] at hy
  rcases Nat.eq_zero_or_pos (i - l.length) with k | k
  ·rw [k] at hx hy
   simp at hx hy
   subst hx; subst hy; exact hd
  ·rw [List.getElem?_eq_none (by simp; omega)] at hx
   cases hx
theorem OL.getD {R : Dt → Dt → Prop} {a b : Option (List Dt)} (h : OL R a b) : EqLs R (a.getD []) (b.getD []) := by
 cases a <;> cases b
 ·exact EqLs.nil
 ·exact h.elim
 ·exact h.elim
 ·exact h
theorem OL.some {R : Dt → Dt → Prop} {l : List Dt} {b : Option (List Dt)} (h : OL R (some l) b) : ∃ l', b = some l' ∧ EqLs R l l' := by
 cases b with
 | none => exact h.elim
 | some l' => exact ⟨l', rfl, h⟩
theorem OD.some {R : Dt → Dt → Prop} {d : Dt} {b : Option Dt} (h : OD R (some d) b) : ∃ d', b = some d' ∧ R d d' := by
 cases b with
 | none => exact h.elim
 | some d' => exact ⟨d', rfl, h⟩
theorem OD.none {R : Dt → Dt → Prop} {b : Option Dt} (h : OD R none b) : b = none := by
 cases b with
 | none => rfl
 | some d' => exact h.elim
theorem brkF_go (E : LitR) (r : ByteArray) (n : Nat) (hG : Goes E) : ∀ (g : Nat) (l : List Dt) (c : Cu), c.Ok → (brkF E r n g l c).1.isSome = true → c.ix < (brkF E r n g l c).2.ix
 | 0, l, c, h, hs => by cases hs
 | g + 1, l, c, h, hs => by
  simp only [brkF] at hs ⊢
  by_cases hq : l.length < n ∨ c.isP r = false
  ·rw [if_pos hq] at hs ⊢
   cases he : (E c).1 with
   | none => rw [he] at hs; cases hs
   | some d =>
    rw [he] at hs
    exact Nat.lt_of_le_of_lt (hG c h).1.ix (brkF_go E r n hG g _ _ (hG c h).1.ok hs)
  ·rw [if_neg hq]
   have hp : c.isP r = true := by
    cases hp : c.isP r with
    | true => rfl
    | false => exact absurd (.inr hp) hq
   dsimp only
   rw [cls_yes hp]
   exact Nat.lt_succ_self _
section
variable {pl : Bool} {m s e : Nat} {P : Prop} {b b' : Nat}
theorem Ok4.tb {Y Z : Type} {V' : Y → Z → Prop} {F : Tk → Cu → Y × Cu} {F' : Tk → Cu → Z × Cu} (k : ∀ a a', Ok4 pl m s e (P ∧ EqT pl a a') V' (F a) (F' a') b b') : Ok4 pl m s e P V' (cu.bnd tokR F) (cu.bnd tokR F') b b' := by
 haveI : Nonempty Tk := ⟨Tk.zero⟩
 exact tokR_4.bnd k
theorem brkF_4 {R : Dt → Dt → Prop} {E E' : LitR} (hG : Goes E) (hG' : Goes E') (hF : Faults E b) (h : Ok4 pl m s e True (OD R) E E' b b') {r : ByteArray} (hr : dlt (pk r) = -1) (n : Nat) : ∀ (g g' : Nat) (l l' : List Dt) (c c' : Cu), c.Ok → c'.Ok → Sf pl m s e c c' → c.ts.length ≤ b + c.ix → c'.ts.length ≤ b' + c'.ix → c.ts.length ≤ g + c.ix → c'.ts.length ≤ g' + c'.ix → EqLs R l l' → (e = 0 ∨ (Inv c ∧ c.kd = 0 ∧ 1 ≤ c.op ∧ (brkF E r n g l c).2.kd = 0)) → ((brkF E r n g l c).2.ix ≤ m ∨ ((brkF E r n g l c).1.isSome = true ∧ (brkF E r n g l c).2.ix ≤ m + 1)) → OL R (brkF E r n g l c).1 (brkF E' r n g' l' c').1 ∧ Sf pl m s e (brkF E r n g l c).2 (brkF E' r n g' l' c').2
 | 0, g', l, l', c, c', hc, hc', hs, hb, hb', hg, hg', hl, hP, hm => by have := hc.lt; omega
 | g + 1, 0, l, l', c, c', hc, hc', hs, hb, hb', hg, hg', hl, hP, hm => by have := hc'.lt; omega
 | g + 1, g' + 1, l, l', c, c', hc, hc', hs, hb, hb', hg, hg', hl, hP, hm => by
  have hi : c.ix ≤ m := by
   rcases hm with hm | ⟨h1, h2⟩
   ·exact Nat.le_trans (brkF_stp hG r n (g + 1) l c hc).ix hm
   ·have := brkF_go E r n hG (g + 1) l c hc h1
    omega
  simp only [brkF] at hP hm ⊢
  rw [hs.isP hi, ← hl.1]
  by_cases hq : l.length < n ∨ c.isP r = false
  ·rw [if_pos hq] at hP hm
   rw [if_pos hq, if_pos hq]
   have hgo := hG c hc
   have hgo' := hG' c' hc'
   cases he : (E c).1 with
   | none =>
    rw [he] at hP hm
    have hm1 : (E c).2.ix ≤ m := by
     rcases hm with hm | ⟨h1, h2⟩
     ·exact hm
     ·cases h1
    have hp1 : Ps e c E := by
     rcases hP with hP | ⟨h1, h2, h3, h4⟩
     ·exact .inl hP
     ·exact .inr ⟨h1, h2, h4⟩
    obtain ⟨e1, e2⟩ := h.near trivial c c' hc hc' hs hb hb' hp1 hm1
    rw [he] at e1
    rw [e1.none]
    exact ⟨trivial, e2⟩
   | some d =>
    rw [he] at hP hm
    dsimp only at hP hm
    have hm1 : (E c).2.ix ≤ m := by
     rcases hm with hm | ⟨h1, h2⟩
     ·exact Nat.le_trans (brkF_stp hG r n g _ _ hgo.1.ok).ix hm
     ·have := brkF_go E r n hG g _ _ hgo.1.ok h1
      omega
    have hk0 : e = 0 ∨ (E c).2.kd = 0 := by
     rcases hP with hP | ⟨h1, h2, h3, h4⟩
     ·exact .inl hP
     ·refine .inr (Classical.byContradiction fun x => ?_)
      rw [brkF_sti h.o.sti r n x] at h4
      exact x h4
    have hp1 : Ps e c E := by
     rcases hP with hP | ⟨h1, h2, h3, h4⟩
     ·exact .inl hP
     ·rcases hk0 with hk0 | hk0
      ·exact .inl hk0
      ·exact .inr ⟨h1, h2, hk0⟩
    obtain ⟨e1, e2⟩ := h.near trivial c c' hc hc' hs hb hb' hp1 hm1
    rw [he] at e1
    obtain ⟨d', he', hR⟩ := e1.some
    rw [he']
    have i1 := hgo.2 (by rw [he]; rfl)
    have i2 := hgo'.2 (by rw [he']; rfl)
    refine brkF_4 hG hG' hF h hr n g g' (l ++ [d]) (l' ++ [d']) _ _ hgo.1.ok hgo'.1.ok e2 (by rw [hgo.1.ts]; omega) (by rw [hgo'.1.ts]; omega) (by rw [hgo.1.ts]; omega) (by rw [hgo'.1.ts]; omega) (hl.snoc hR) ?_ hm
    rcases hP with hP | ⟨h1, h2, h3, h4⟩
    ·exact .inl hP
    ·rcases hk0 with hk0 | hk0
     ·exact .inl hk0
     ·obtain ⟨o1, i3⟩ := h.o.bal c hc hb h1 h2 hk0
      exact .inr ⟨i3, hk0, by omega, h4⟩
  ·rw [if_neg hq] at hP
   rw [if_neg hq, if_neg hq]
   refine ⟨hl, hs.cls hi r ?_⟩
   rcases hP with hP | ⟨h1, h2, h3, h4⟩
   ·exact .inl hP
   ·exact .inr h3
theorem brk_45 {R : Dt → Dt → Prop} {E E' : LitR} (hG : Goes E) (hG' : Goes E') (hF : Faults E b) (h : Ok4 pl m s e True (OD R) E E' b b') {l r : ByteArray} (hl : dlt (pk l) = 1) (hr : dlt (pk r) = -1) (n : Nat) (c c' : Cu) (hc : c.Ok) (hc' : c'.Ok) (hs : Sf pl m s e c c') (hb : c.ts.length ≤ b + 1 + c.ix) (hb' : c'.ts.length ≤ b' + 1 + c'.ix) (hP : Ps e c (brk E l r n)) (hm : (brk E l r n c).2.ix ≤ m ∨ ((brk E l r n c).1.isSome = true ∧ (brk E l r n c).2.ix ≤ m + 1)) : OL R (brk E l r n c).1 (brk E' l r n c').1 ∧ Sf pl m s e (brk E l r n c).2 (brk E' l r n c').2 := by
 have hgo := brk_goes hG l r n c hc
 have hi : c.ix ≤ m := by
  rcases hm with hm | ⟨h1, h2⟩
  ·exact Nat.le_trans hgo.1.ix hm
  ·have := hgo.2 h1
   omega
 have ho := opn_stp hc l
 have ho' := opn_stp hc' l
 have eB := hs.opB hi l
 have eS := hs.opn hi l
 unfold Ps at hP
 unfold brk at hP hm ⊢
 rw [eB]
 by_cases hB : c.opB l = true
 ·rw [if_pos hB] at hP hm
  rw [if_pos hB, if_pos hB]
  have x1 := opn_ix hB
  have x2 := opn_ix (show c'.opB l = true by rw [eB]; exact hB)
  refine brkF_4 hG hG' hF h hr n _ _ [] [] _ _ ho.ok ho'.ok eS (by rw [ho.ts, x1]; omega) (by rw [ho'.ts, x2]; omega) (by rw [ho.ts]; omega) (by rw [ho'.ts]; omega) EqLs.nil ?_ hm
  rcases hP with hP | ⟨h1, h2, h3⟩
  ·exact .inl hP
  ·obtain ⟨q1, q2, q3⟩ := opn_yes hB
   exact .inr ⟨opn_inv hl hB h1, by rw [q3]; exact h2, by rw [q3]; exact Nat.succ_le_succ (Nat.zero_le _), h3⟩
 ·rw [if_neg hB, if_neg hB]
  exact ⟨trivial, eS⟩
theorem brk_4 {R : Dt → Dt → Prop} {E E' : LitR} (hG : Goes E) (hG' : Goes E') (hF : Faults E b) (h : Ok4 pl m s e True (OD R) E E' b b') {l r : ByteArray} (hl : dlt (pk l) = 1) (hr : dlt (pk r) = -1) (n : Nat) : Ok4 pl m s e P (OL R) (brk E l r n) (brk E' l r n) (b + 1) (b' + 1) :=
 ⟨brk_3 hG hF h.o hl hr n, (brk_goes hG' l r n).st, fun hp c c' hc hc' hs hb hb' hP hm => brk_45 hG hG' hF h hl hr n c c' hc hc' hs hb hb' hP (.inl hm)⟩
theorem brk_5 {R : Dt → Dt → Prop} {E E' : LitR} (hG : Goes E) (hG' : Goes E') (hF : Faults E b) (h : Ok4 pl m s e True (OD R) E E' b b') {l r : ByteArray} (hl : dlt (pk l) = 1) (hr : dlt (pk r) = -1) (n : Nat) : Ok5 pl m s e P (OL R) (brk E l r n) (brk E' l r n) (b + 1) (b' + 1) :=
 ⟨brk_3 hG hF h.o hl hr n, (brk_goes hG' l r n).st, fun c hc => (brk_goes hG l r n c hc).2, fun hp c c' hc hc' hs hb hb' hP h1 hm => brk_45 hG hG' hF h hl hr n c c' hc hc' hs hb hb' hP (.inr ⟨h1, hm⟩)⟩
theorem leaf_eq (f : Nat) {k : Int} {tx : ByteArray} {bl : Bool} {a c a' c' : Int} (h : pl = true → a = a' ∧ c = c') : EqL pl (f + 1) (litD k tx bl .nil .nil a c) (litD k tx bl .nil .nil a' c') :=
 ⟨k, tx, bl, [], [], [], [], a, c, a', c', rfl, rfl, h, rfl, rfl, fun i x y hx => by simp at hx, fun i x y hx => by simp at hx⟩
theorem word_eq (f : Nat) {t t' : Tk} (h : EqT pl t t') : EqL pl (f + 1) (wordD t) (wordD t') := by
 unfold wordD
 rw [h.2.1]
 split
 ·exact leaf_eq f h.2.2.2
 ·split
  ·exact leaf_eq f h.2.2.2
  ·exact leaf_eq f h.2.2.2
theorem argS_4 {f : Nat} {L L' : LitR} (h : Ok4 pl m s e True (OD (EqL pl f)) L L' b b') : Ok4 pl m s e P (OD (EqA pl f)) (argS L) (argS L') b b' := by
 rw [argS_eq3, argS_eq3]
 exact Ok4.tb fun t t' => nR_4.bnd fun _ _ => (wantR_4 _ dl_col).bnd fun _ _ => h.wk.bnd fun r r' => ret_4 fun hp => hp.2.map fun x y hxy => by
  have ht := hp.1.1.1.2
  rw [ht.2.1]
  exact ⟨t.tx, x, y, _, _, _, _, rfl, rfl, ht.2.2.2, hxy⟩
theorem litS_4 {f : Nat} {L L' : LitR} (hG : Goes L) (hG' : Goes L') (hF : Faults L b) (h : Ok4 pl m s e True (OD (EqL pl f)) L L' b b') (ct : Bool) : Ok4 pl m s e P (OD (EqL pl (f + 1))) (litS L ct) (litS L' ct) (b + 1) (b' + 1) := by
 rw [litS_eq, litS_eq]
 refine aliveR_4.bnd fun al al' => cond_4 (fun hp => hp.2) (Ok4.tb fun t t' => ?_) (ret_4 fun _ => trivial)
 have hK : ∀ {P' : Prop} (k : Int) {v v' : Dt}, k ≠ 0 → k ≠ 1 → k ≠ 2 → (P' → EqL pl (f + 1) v v') → Ok4 pl m s e P' (OD (EqL pl (f + 1))) (bnd (takeK k) fun _ => ret (some v)) (bnd (takeK k) fun _ => ret (some v')) (b + 1) (b' + 1) := fun {P'} k {v v'} h0 h1 h2 hv => (takeK_4 k h0 h1 h2).bnd fun _ _ => ret_4 fun hp => hv hp.1
 have hk : ∀ {Q : Prop} (k : Int), ((Q ∧ EqT pl t t') → decide (t.k = k) = decide (t'.k = k)) := fun k hp => by rw [hp.2.1]
 unfold litT
 refine cond_4 (hk 4) (hK 4 (by decide) (by decide) (by decide) fun hp => ?_) (cond_4 (hk 5) (hK 5 (by decide) (by decide) (by decide) fun hp => ?_) (cond_4 (hk 6) (hK 6 (by decide) (by decide) (by decide) fun hp => ?_) (cond_4 (hk 7) (hK 7 (by decide) (by decide) (by decide) fun hp => ?_) (cond_4 (hk 3) (hK 3 (by decide) (by decide) (by decide) fun hp => word_eq f hp.2)
  ((isPR_4 _).bnd fun q q' => cond_4 (fun hp => by rw [hp.2]) ((punctR_4 _ dl_dol).bnd fun _ _ => nR_4.bnd fun n n' => ret_4 fun hp => ?_)
  ((isPR_4 _).bnd fun q q' => cond_4 (fun hp => hp.2) ((brk_4 hG hG' hF h dl_lb dl_rb 0).bnd fun r r' => ret_4 fun hp => hp.2.map fun x y hxy => ?_)
  ((isPR_4 _).bnd fun q q' => cond_4 (fun hp => hp.2) ((brk_4 (argS_goes hG) (argS_goes hG') (argS_faults b hF) (argS_4 h) dl_lc dl_rc 0).bnd fun r r' => ret_4 fun hp => hp.2.map fun x y hxy => ?_)
  (stopR_4 fun _ => trivial))))))))
 ·rw [hp.2.2.1]; exact leaf_eq f hp.2.2.2.2
 ·rw [hp.2.2.1]; exact leaf_eq f hp.2.2.2.2
 ·rw [hp.2.2.2.1]; exact leaf_eq f hp.2.2.2.2
 ·rw [hp.2.2.2.1]; exact leaf_eq f hp.2.2.2.2
 ·obtain ⟨⟨⟨⟨_, ht⟩, _⟩, _⟩, rfl⟩ := hp
  cases n.1
  ·trivial
  ·exact leaf_eq f ht.2.2.2
 ·have ht := hp.1.1.1.2
  exact ⟨8, em, false, x, y, [], [], _, _, _, _, rfl, rfl, ht.2.2.2, hxy.1, rfl, hxy.2, fun i x y hx => by simp at hx⟩
 ·have ht := hp.1.1.1.1.2
  exact ⟨9, em, false, [], [], x, y, _, _, _, _, rfl, rfl, ht.2.2.2, rfl, hxy.1, (fun i x y hx => by simp at hx), hxy.2⟩
theorem litF_4 (ct : Bool) : ∀ (f f' : Nat), Ok4 pl m s e True (OD (EqL pl f)) (litF ct f) (litF ct f') f f'
 | 0, f' => ⟨litF_3 ct 0, (litF_goes ct f').st, fun hp c c' hc hc' hs hb => by have := hc.lt; omega⟩
 | f + 1, 0 => ⟨litF_3 ct (f + 1), (litF_goes ct 0).st, fun hp c c' hc hc' hs hb hb' => by have := hc'.lt; omega⟩
 | f + 1, f' + 1 => litS_4 (litF_goes ct f) (litF_goes ct f') (litF_faults ct f) (litF_4 ct f f') ct
end
section
variable {pl : Bool} {m s e : Nat} {P : Prop} {b b' : Nat} {f : Nat} {L L' : LitR}
theorem argsS_4 (hG : Goes L) (hG' : Goes L') (hF : Faults L b) (h : Ok4 pl m s e True (OD (EqL pl f)) L L' b b') : Ok4 pl m s e P (OL (EqA pl f)) (argsS L) (argsS L') b b' := by
 rw [argsS_eq, argsS_eq]
 exact (isPR_4 _).bnd fun q q' => cond_4 (fun hp => hp.2) ((brk_4 (argS_goes hG) (argS_goes hG') (argS_faults b hF) (argS_4 h) dl_lp dl_rp 1).mono (Nat.le_succ _) (Nat.le_succ _)) (aliveR_4.bnd fun a a' => ret_4 fun hp => by
  obtain ⟨_, rfl⟩ := hp
  cases a
  ·trivial
  ·exact EqLs.nil)
theorem dirB_4 (hG : Goes L) (hG' : Goes L') (hF : Faults L b) (h : Ok4 pl m s e True (OD (EqL pl f)) L L' b b') : Ok4 pl m s e P (OD (EqR pl f)) (dirB L) (dirB L') b b' :=
 Ok4.tb fun t t' => (punctR_4 _ dl_at).bnd fun _ _ => nR_4.bnd fun n n' => (argsS_4 hG hG' hF h).bnd fun r r' => ret_4 fun hp => hp.2.map fun x y hxy => by
  obtain ⟨⟨⟨⟨_, ht⟩, _⟩, rfl⟩, _⟩ := hp
  exact ⟨n.2, x, y, _, _, _, _, rfl, rfl, ht.2.2.2, hxy⟩
theorem dirsF_4 (hG : Goes L) (hG' : Goes L') (hF : Faults L b) (o : Ok4 pl m s e True (OD (EqR pl f)) (dirB L) (dirB L') b b') : ∀ (g g' : Nat) (l l' : List Dt) (c c' : Cu), c.Ok → c'.Ok → Sf pl m s e c c' → c.ts.length ≤ b + c.ix → c'.ts.length ≤ b' + c'.ix → c.ts.length ≤ g + c.ix → c'.ts.length ≤ g' + c'.ix → EqLs (EqR pl f) l l' → Ps e c (dirsF L g l) → (dirsF L g l c).2.ix ≤ m → OL (EqR pl f) (dirsF L g l c).1 (dirsF L' g' l' c').1 ∧ Sf pl m s e (dirsF L g l c).2 (dirsF L' g' l' c').2
 | 0, g', l, l', c, c', hc, hc', hs, hb, hb', hg, hg', hl, hP, hm => by have := hc.lt; omega
 | g + 1, 0, l, l', c, c', hc, hc', hs, hb, hb', hg, hg', hl, hP, hm => by have := hc'.lt; omega
 | g + 1, g' + 1, l, l', c, c', hc, hc', hs, hb, hb', hg, hg', hl, hP, hm => by
  have hi : c.ix ≤ m := Nat.le_trans (dirsF_stp hG (g + 1) l c hc).ix hm
  unfold Ps at hP
  simp only [dirsF] at hP hm ⊢
  rw [hs.isP hi]
  by_cases hp : c.isP bAt = true
  ·rw [if_pos hp] at hP hm
   rw [if_pos hp, if_pos hp]
   have hp' : c'.isP bAt = true := by rw [hs.isP hi]; exact hp
   have hgo := dirS_stp hG hc hp
   have hgo' := dirS_stp hG' hc' hp'
   have eq1 : dirB L c = dirS L c := (dirS_eq L c hp).symm
   have eq2 : dirB L' c' = dirS L' c' := (dirS_eq L' c' hp').symm
   have hnear := o.near trivial c c' hc hc' hs hb hb'
   have hbal := o.o.bal c hc hb
   unfold Ps at hnear
   rw [eq1, eq2] at hnear
   rw [eq1] at hbal
   cases he : (dirS L c).1 with
   | none =>
    rw [he] at hP hm
    obtain ⟨e1, e2⟩ := hnear hP hm
    rw [he] at e1
    rw [e1.none]
    exact ⟨trivial, e2⟩
   | some d =>
    rw [he] at hP hm
    dsimp only at hP hm
    have hm1 : (dirS L c).2.ix ≤ m := Nat.le_trans (dirsF_stp hG g _ _ hgo.1.ok).ix hm
    have hk0 : e = 0 ∨ (dirS L c).2.kd = 0 := by
     rcases hP with hP | ⟨h1, h2, h4⟩
     ·exact .inl hP
     ·refine .inr (Classical.byContradiction fun x => ?_)
      rw [dirsF_still L x] at h4
      exact x h4
    have hp1 : e = 0 ∨ (Inv c ∧ c.kd = 0 ∧ (dirS L c).2.kd = 0) := by
     rcases hP with hP | ⟨h1, h2, h4⟩
     ·exact .inl hP
     ·rcases hk0 with hk0 | hk0
      ·exact .inl hk0
      ·exact .inr ⟨h1, h2, hk0⟩
    obtain ⟨e1, e2⟩ := hnear hp1 hm1
    rw [he] at e1
    obtain ⟨d', he', hR⟩ := e1.some
    rw [he']
    have i1 := hgo.2
    have i2 := hgo'.2
    refine dirsF_4 hG hG' hF o g g' (l ++ [d]) (l' ++ [d']) _ _ hgo.1.ok hgo'.1.ok e2 (by rw [hgo.1.ts]; omega) (by rw [hgo'.1.ts]; omega) (by rw [hgo.1.ts]; omega) (by rw [hgo'.1.ts]; omega) (hl.snoc hR) ?_ hm
    rcases hP with hP | ⟨h1, h2, h4⟩
    ·exact .inl hP
    ·rcases hk0 with hk0 | hk0
     ·exact .inl hk0
     ·exact .inr ⟨(hbal h1 h2 hk0).2, hk0, h4⟩
  ·rw [if_neg hp, if_neg hp]
   refine ⟨?_, hs⟩
   show OL _ (if c.kd = 0 then some l else none) (if c'.kd = 0 then some l' else none)
   rw [hs.kd]
   split
   ·exact hl
   ·trivial
theorem dirs_4 (hG : Goes L) (hG' : Goes L') (hF : Faults L b) (h : Ok4 pl m s e True (OD (EqL pl f)) L L' b b') : Ok4 pl m s e P (OL (EqR pl f)) (dirs L) (dirs L') b b' :=
 ⟨dirs_3 hG hF h.o, dirs_st hG', fun hp c c' hc hc' hs hb hb' hP hm => dirsF_4 hG hG' hF (dirB_4 hG hG' hF h) _ _ [] [] c c' hc hc' hs hb hb' (by omega) (by omega) EqLs.nil hP hm⟩
theorem spreadS_4 (g : Nat) (hG : Goes L) (hG' : Goes L') (hF : Faults L b) (h : Ok4 pl m s e True (OD (EqL pl f)) L L' b b') {t t' : Tk} (ht : P → EqT pl t t') : Ok4 pl m s e P (OD (EqS pl f (g + 1))) (spreadS L t) (spreadS L' t') b b' := by
 rw [spreadS_eq, spreadS_eq]
 exact (butR_4 _).bnd fun nm nm' => (dirs_4 hG hG' hF h).bnd fun r r' => ret_4 fun hp => hp.2.map fun x y hxy => by
  obtain ⟨⟨hp, rfl⟩, _⟩ := hp
  exact ⟨2, em, nm, em, [], [], x, y, [], [], _, _, _, _, rfl, rfl, (ht hp).2.2.2, EqLs.nil, hxy, EqLs.nil⟩
theorem inlineS_4 {g : Nat} {S S' : LstR} (hG : Goes L) (hG' : Goes L') (hF : Faults L b) (h : Ok4 pl m s e True (OD (EqL pl f)) L L' b b') (hS : Ok4 pl m s e True (OL (EqS pl f g)) S S' b b') {t t' : Tk} (ht : P → EqT pl t t') : Ok4 pl m s e P (OD (EqS pl f (g + 1))) (inlineS L S t) (inlineS L' S' t') b b' := by
 rw [inlineS_eq, inlineS_eq]
 exact (wordR_4 _).bnd fun q q' => (cond_4 (V := Eq) (fun hp => hp.2) nmR_4 (ret_4 fun _ => rfl)).bnd fun on on' => (dirs_4 hG hG' hF h).bnd fun d d' => hS.wk.bnd fun r r' => ret_4 fun hp => hp.2.map fun x y hxy => by
  obtain ⟨⟨⟨⟨hp, _⟩, rfl⟩, hd⟩, _⟩ := hp
  exact ⟨3, em, em, on, [], [], _, _, x, y, _, _, _, _, rfl, rfl, (ht hp).2.2.2, EqLs.nil, hd.getD, hxy⟩
theorem fieldS_4 {g : Nat} {S S' : LstR} (hG : Goes L) (hG' : Goes L') (hF : Faults L b) (h : Ok4 pl m s e True (OD (EqL pl f)) L L' b b') (hS : Ok4 pl m s e True (OL (EqS pl f g)) S S' b b') {t t' : Tk} (ht : P → EqT pl t t') : Ok4 pl m s e P (OD (EqS pl f (g + 1))) (fieldS L S t) (fieldS L' S' t') b b' := by
 rw [fieldS_eq, fieldS_eq]
 refine nmR_4.bnd fun n n' => (punctR_4 _ dl_col).bnd fun q q' => (cond_4 (V := Eq) (fun hp => hp.2) nmR_4 (ret_4 fun hp => hp.1.2)).bnd fun n2 n2' => (argsS_4 hG hG' hF h).bnd fun a a' => (dirs_4 hG hG' hF h).bnd fun d d' => (isPR_4 _).bnd fun q2 q2' => cond_4 (fun hp => hp.2) (hS.wk.bnd fun r r' => ret_4 fun hp => hp.2.map fun x y hxy => ?_) (ret_4 fun hp => hp.1.2.map fun x y hxy => ?_)
 ·obtain ⟨⟨⟨⟨⟨⟨⟨hp, rfl⟩, rfl⟩, rfl⟩, ha⟩, hd⟩, _⟩, _⟩ := hp
  exact ⟨1, _, n2, em, _, _, _, _, x, y, _, _, _, _, rfl, rfl, (ht hp).2.2.2, ha.getD, hd.getD, hxy⟩
 ·obtain ⟨⟨⟨⟨⟨⟨hp, rfl⟩, rfl⟩, rfl⟩, ha⟩, hd⟩, _⟩ := hp
  exact ⟨1, _, n2, em, _, _, x, y, [], [], _, _, _, _, rfl, rfl, (ht hp).2.2.2, ha.getD, hxy, EqLs.nil⟩
theorem selS_4 {g : Nat} {S S' : LstR} (hG : Goes L) (hG' : Goes L') (hF : Faults L b) (h : Ok4 pl m s e True (OD (EqL pl f)) L L' b b') (hS : Ok4 pl m s e True (OL (EqS pl f g)) S S' b b') : Ok4 pl m s e P (OD (EqS pl f (g + 1))) (selS L S) (selS L' S') b b' := by
 rw [selS_eq, selS_eq]
 exact Ok4.tb fun t t' => (punctR_4 _ dl_dots).bnd fun q q' => cond_4 (fun hp => hp.2) (sprR_4.bnd fun z z' => cond_4 (fun hp => hp.2) (spreadS_4 g hG hG' hF h fun hp => hp.1.1.2) (inlineS_4 hG hG' hF h hS fun hp => hp.1.1.2)) (fieldS_4 hG hG' hF h hS fun hp => hp.1.2)
theorem selsF_4 (hG : Goes L) (hG' : Goes L') {N N' : Nat} (hF : Faults L N) (h : Ok4 pl m s e True (OD (EqL pl f)) L L' N N') : ∀ (g g' : Nat), g ≤ N → g' ≤ N' → Ok4 pl m s e True (OL (EqS pl f g)) (selsF L g) (selsF L' g') g g'
 | 0, g', _, _ => ⟨selsF_3 hG hF h.o 0 (Nat.zero_le _), (selsF_goes hG' g').st, fun hp c c' hc hc' hs hb => by have := hc.lt; omega⟩
 | g + 1, 0, hg, _ => ⟨selsF_3 hG hF h.o (g + 1) hg, (selsF_goes hG' 0).st, fun hp c c' hc hc' hs hb hb' => by have := hc'.lt; omega⟩
 | g + 1, g' + 1, hg, hg' => brk_4 (selS_goes hG (selsF_goes hG g)) (selS_goes hG' (selsF_goes hG' g')) (selS_faults hG (hF.mono (by omega)) (selsF_faults hG hF g (by omega))) (selS_4 hG hG' (hF.mono (by omega)) (h.mono (by omega) (by omega)) (selsF_4 hG hG' hF h g g' (by omega) (by omega))) dl_lc dl_rc 1
theorem selsF_5 (hG : Goes L) (hG' : Goes L') {N N' : Nat} (hF : Faults L N) (h : Ok4 pl m s e True (OD (EqL pl f)) L L' N N') : ∀ (g g' : Nat), g ≤ N → g' ≤ N' → Ok5 pl m s e True (OL (EqS pl f g)) (selsF L g) (selsF L' g') g g'
 | 0, g', _, _ => ⟨selsF_3 hG hF h.o 0 (Nat.zero_le _), (selsF_goes hG' g').st, fun c hc hs => (by cases hs), fun hp c c' hc hc' hs hb => by have := hc.lt; omega⟩
 | g + 1, 0, hg, _ => ⟨selsF_3 hG hF h.o (g + 1) hg, (selsF_goes hG' 0).st, fun c hc => (selsF_goes hG (g + 1) c hc).2, fun hp c c' hc hc' hs hb hb' => by have := hc'.lt; omega⟩
 | g + 1, g' + 1, hg, hg' => brk_5 (selS_goes hG (selsF_goes hG g)) (selS_goes hG' (selsF_goes hG' g')) (selS_faults hG (hF.mono (by omega)) (selsF_faults hG hF g (by omega))) (selS_4 hG hG' (hF.mono (by omega)) (h.mono (by omega) (by omega)) (selsF_4 hG hG' hF h g g' (by omega) (by omega))) dl_lc dl_rc 1
end
open lx (toks chs cln tksG tkG)
section
variable {pl : Bool} {m s e : Nat} {P : Prop} {b b' : Nat} {f : Nat} {L L' K K' : LitR}
end
open mem (posT Byt)
theorem defsF_live3 (D : LitR) : ∀ (g : Nat) (l : List Dt) (c : Cu), (defsF D g l c).1.isSome = true → (defsF D g l c).2.kd = 0 ∧ (defsF D g l c).2.tok.k = 0
 | 0, l, c, h => by cases h
 | g + 1, l, c, h => by
  simp only [defsF] at h ⊢
  split at h
  ·rename_i hc
   rw [if_pos hc]
   cases hq : (D c).1 with
   | none => rw [hq] at h; cases h
   | some d => rw [hq] at h; exact defsF_live3 D g _ _ h
  ·rename_i hc
   rw [if_neg hc]
   show c.fin.kd = 0 ∧ c.fin.tok.k = 0
   cases hf : c.finB with
   | false => rw [hf] at h; cases h
   | true => unfold Cu.fin; rw [if_pos hf]; exact of_decide_eq_true hf
theorem tks_last3 (l : List Int) (cl : Bool) : ∀ (m i : Nat) (t : Tk), i ≤ l.length → (tksG l cl i)[m]? = some t → t.k = 0 ∨ t.k = 1 → (tksG l cl i).length = m + 1
 | 0, i, t, hi, h, hk => by
  by_cases he : (tkG l cl i).k = 0 ∨ (tkG l cl i).k = 1
  ·rw [lx.tksG_end he]; rfl
  ·rw [lx.tksG_go hi he] at h; simp at h; subst h; exact absurd hk he
 | m + 1, i, t, hi, h, hk => by
  have hle := lx.tkG_le l cl i hi
  by_cases he : (tkG l cl i).k = 0 ∨ (tkG l cl i).k = 1
  ·rw [lx.tksG_end he] at h; simp at h
  ·rw [lx.tksG_go hi he] at h ⊢
   have := tks_last3 l cl m _ t hle.2.1 (by simpa using h) hk
   simp; omega
end Go.Proofs.YtcebeajjpcbgcaaGreat.cu
namespace Go.Proofs.YtcebeajjpcbgcaaGreat.lx
open mem (pfx digB digs digAt isAt bWhole bPart bPoint bMark pfxFirst pfxR posT enB prB digsF)
open cu (Tk)
structure Shf (l l' : List Int) (n : Nat) : Prop where
 len : l'.length = n + l.length
 dr : l'.drop n = l
theorem Shf.of (p l : List Int) : Shf l (p ++ l) p.length := ⟨by simp, by simp⟩
section
variable {l l' : List Int} {n : Nat} (H : Shf l l' n)
include H
theorem Shf.at (i : Nat) : cAt l' (n + i) = cAt l i := by
 unfold cAt
 have h1 := H.len
 rcases Nat.lt_or_ge i l.length with g | g
 ·rw [if_pos g, if_pos (by omega), List.getD_eq_getElem?_getD, List.getD_eq_getElem?_getD, ← H.dr, List.getElem?_drop]
 ·rw [if_neg (by omega), if_neg (by omega)]
theorem Shf.at1 (i : Nat) : cAt l' (n + i + 1) = cAt l (i + 1) := H.at (i + 1)
theorem Shf.at2 (i : Nat) : cAt l' (n + i + 2) = cAt l (i + 2) := H.at (i + 2)
theorem ignF_shf : ∀ (f : Nat) (b : Bool) (i : Nat), ignF l' f b (n + i) = n + ignF l f b i
 | 0, b, i => rfl
 | f + 1, false, i => by
  simp only [ignF, H.at]
  split
  ·exact ignF_shf f false (i + 1)
  ·split
   ·exact ignF_shf f true (i + 1)
   ·rfl
 | f + 1, true, i => by
  simp only [ignF, H.at]
  split
  ·exact ignF_shf f false (i + 1)
  ·split
   ·exact ignF_shf f true (i + 1)
   ·rfl
theorem ign_shf (b : Bool) (i : Nat) : ign l' b (n + i) = n + ign l b i := by
 unfold ign
 rw [H.len, show n + l.length + 1 - (n + i) = l.length + 1 - i by omega]
 exact ignF_shf H _ b i
theorem namF_shf : ∀ (f : Nat) (i : Nat), namF l' f (n + i) = n + namF l f i
 | 0, i => rfl
 | f + 1, i => by
  simp only [namF, H.at]
  split
  ·exact namF_shf f (i + 1)
  ·rfl
theorem nam_shf (i : Nat) : nam l' (n + i) = n + nam l i := by
 unfold nam
 rw [H.len, show n + l.length + 1 - (n + i) = l.length + 1 - i by omega]
 exact namF_shf H _ i
theorem digAt_shf (i : Nat) : digAt l' (n + i) = digAt l i := by rw [digAt_c, digAt_c, H.at]
theorem isAt_shf (i : Nat) (c : Int) (hc : c ≠ -1) : isAt l' (n + i) c = isAt l i c := by rw [isAt_c _ _ _ hc, isAt_c _ _ _ hc, H.at]
theorem digsF_shf : ∀ (f : Nat) (i : Nat), digsF l' f (n + i) = n + digsF l f i
 | 0, i => rfl
 | f + 1, i => by
  simp only [digsF, digAt_shf H]
  split
  ·exact digsF_shf f (i + 1)
  ·rfl
theorem digs_shf (i : Nat) : digs l' (n + i) = n + digs l i := by
 unfold digs
 rw [H.len, show n + l.length - (n + i) = l.length - i by omega]
 exact digsF_shf H _ i
theorem bWhole_shf (i : Nat) : bWhole l' (n + i) = n + bWhole l i := by
 unfold bWhole
 rw [isAt_shf H i 48 (by decide), digs_shf H]
 split <;> rfl
theorem bPoint_shf (i : Nat) : bPoint l' (n + i) = n + bPoint l i := by
 unfold bPoint
 rw [isAt_shf H i 46 (by decide)]
 split <;> rfl
theorem pfxFirst_shf (i : Nat) : pfxFirst l' (n + i) = n + pfxFirst l i := by
 unfold pfxFirst
 rw [isAt_shf H i 45 (by decide)]
 split <;> rfl
theorem bMark_shf (i : Nat) : bMark l' (n + i) = n + bMark l i := by
 unfold bMark
 rw [isAt_shf H i 101 (by decide), isAt_shf H i 69 (by decide), show n + i + 1 = n + (i + 1) from rfl, isAt_shf H (i + 1) 43 (by decide), isAt_shf H (i + 1) 45 (by decide)]
 split
 ·rfl
 ·split <;> rfl
theorem bPart_shf (i q : Nat) : bPart l' (n + i) (n + q) = (n + (bPart l i q).1, n + (bPart l i q).2) := by
 unfold bPart
 rw [digs_shf H]
 by_cases h1 : q = i
 ·rw [if_pos h1, if_pos (by omega)]
 ·rw [if_neg h1, if_neg (by omega)]
  by_cases h2 : digs l q = q
  ·rw [if_pos h2, if_pos (by omega)]
  ·rw [if_neg h2, if_neg (by omega)]
theorem pfxR_shf (i : Nat) : pfxR l' (n + i) = (n + (pfxR l i).1, n + (pfxR l i).2) := by
 unfold pfxR
 rw [bPoint_shf H, bPart_shf H]
 dsimp only
 rw [bMark_shf H, bPart_shf H]
 by_cases h : (bPart l i (bPoint l i)).1 = (bPart l i (bPoint l i)).2
 ·rw [if_pos h, if_pos (by omega)]
 ·rw [if_neg h, if_neg (by omega)]
theorem pfx_shf (i : Nat) : pfx l' (n + i) = (n + (pfx l i).1, n + (pfx l i).2.1, (pfx l i).2.2) := by
 unfold pfx
 rw [pfxFirst_shf H, bWhole_shf H, pfxR_shf H]
 dsimp only
 by_cases h : bWhole l (pfxFirst l i) = pfxFirst l i
 ·rw [if_pos h, if_pos (by omega)]
 ·rw [if_neg h, if_neg (by omega)]
  dsimp only
  congr 2
  by_cases g : (pfxR l (bWhole l (pfxFirst l i))).1 > bWhole l (pfxFirst l i)
  ·rw [if_pos g, if_pos (by omega)]
  ·rw [if_neg g, if_neg (by omega)]
theorem num_shf (i : Nat) : num l' (n + i) = ((num l i).1, n + (num l i).2) := by
 unfold num
 rw [pfx_shf H]
 dsimp only
 rw [H.at]
 split
 ·rfl
 ·split
  ·rfl
  ·split <;> rfl
theorem tq_shf (i : Nat) : tq l' (n + i) = tq l i := by
 unfold tq
 rw [H.at, H.at1, H.at2]
theorem endB_shf : ∀ (k i : Nat), endB l' k (n + i) = (endB l k i).map (n + ·)
 | 0, i => rfl
 | k + 1, i => by
  simp only [endB]
  rw [tq_shf H, H.at, show n + i + 1 = n + (i + 1) from rfl, tq_shf H, show n + i + 4 = n + (i + 4) from rfl, endB_shf k (i + 4), endB_shf k (i + 1)]
  split
  ·rfl
  ·split
   ·rfl
   ·split <;> rfl
theorem endQ_shf : ∀ (k i : Nat), endQ l' k (n + i) = (endQ l k i).map (n + ·)
 | 0, i => rfl
 | k + 1, i => by
  simp only [endQ]
  rw [H.at, show n + i + 1 = n + (i + 1) from rfl, H.at, show n + i + 2 = n + (i + 2) from rfl, endQ_shf k (i + 2), endQ_shf k (i + 1)]
  split
  ·rfl
  ·split
   ·split <;> rfl
   ·split <;> rfl
theorem insZ_shf (p i : Nat) : insZ l' (n + p) (n + i) = insZ l p i := by
 unfold insZ
 rw [← List.drop_drop, H.dr, show n + i - (n + p) = i - p by omega]
omit H in
theorem endB_fuel (l : List Int) : ∀ (k k' i : Nat), l.length + 1 ≤ k + i → l.length + 1 ≤ k' + i → endB l k i = endB l k' i
 | 0, 0, i, h, h' => rfl
 | 0, k' + 1, i, h, h' => by
  have e : cAt l i = -1 := cAt_end (by omega)
  have t : tq l i = false := by unfold tq; rw [e]; rfl
  simp only [endB, e, t]
  rfl
 | k + 1, 0, i, h, h' => by
  have e : cAt l i = -1 := cAt_end (by omega)
  have t : tq l i = false := by unfold tq; rw [e]; rfl
  simp only [endB, e, t]
  rfl
 | k + 1, k' + 1, i, h, h' => by
  simp only [endB]
  rw [endB_fuel l k k' (i + 4) (by omega) (by omega), endB_fuel l k k' (i + 1) (by omega) (by omega)]
omit H in
theorem endQ_fuel (l : List Int) : ∀ (k k' i : Nat), l.length + 1 ≤ k + i → l.length + 1 ≤ k' + i → endQ l k i = endQ l k' i
 | 0, 0, i, h, h' => rfl
 | 0, k' + 1, i, h, h' => by
  have e : cAt l i = -1 := cAt_end (by omega)
  simp only [endQ, e]
  rfl
 | k + 1, 0, i, h, h' => by
  have e : cAt l i = -1 := cAt_end (by omega)
  simp only [endQ, e]
  rfl
 | k + 1, k' + 1, i, h, h' => by
  simp only [endQ]
  rw [endQ_fuel l k k' (i + 2) (by omega) (by omega), endQ_fuel l k k' (i + 1) (by omega) (by omega)]
theorem blc_shf (bS : List Int → ByteArray) (i : Nat) : blc bS l' (n + i) = ((blc bS l i).1, n + (blc bS l i).2.1, (blc bS l i).2.2) := by
 unfold blc
 rw [H.len, show n + i + 3 = n + (i + 3) from rfl, endB_shf H, endB_fuel l (n + l.length + 2) (l.length + 2) (i + 3) (by omega) (by omega)]
 cases endB l (l.length + 2) (i + 3) with
 | none => rfl
 | some j =>
  show (7, n + j + 3, bS (insZ l' (n + i + 3) (n + j))) = _
  rw [show n + i + 3 = n + (i + 3) from rfl, insZ_shf H]
  rfl
theorem qtd_shf (i : Nat) : qtd l' (n + i) = ((qtd l i).1, n + (qtd l i).2.1, (qtd l i).2.2) := by
 unfold qtd
 rw [H.len, show n + i + 1 = n + (i + 1) from rfl, endQ_shf H, endQ_fuel l (n + l.length + 2) (l.length + 2) (i + 1) (by omega) (by omega)]
 cases endQ l (l.length + 2) (i + 1) with
 | none => rfl
 | some j =>
  show qtdR l' (n + i) (some (n + j)) = _
  unfold qtdR
  dsimp only
  rw [show n + i + 1 = n + (i + 1) from rfl, insZ_shf H]
  cases quo (insZ l (i + 1) j) <;> rfl
theorem rdG_shf (cl : Bool) (i : Nat) : rdG l' cl (n + i) = ((rdG l cl i).1, n + (rdG l cl i).2.1, (rdG l cl i).2.2) := by
 unfold rdG
 rw [H.at, H.at1, H.at2, show n + i + 1 = n + (i + 1) from rfl, nam_shf H, num_shf H, tq_shf H, blc_shf H, qtd_shf H]
 have h1 : (n + i = l'.length ∧ cl = true) ↔ (i = l.length ∧ cl = true) := by rw [H.len]; constructor <;> (rintro ⟨a, b⟩; exact ⟨by omega, b⟩)
 by_cases h0 : i = l.length ∧ cl = true
 ·rw [if_pos h0, if_pos (h1.2 h0)]
 ·rw [if_neg h0, if_neg (fun x => h0 (h1.1 x))]
  split
  ·split <;> rfl
  ·split
   ·rfl
   ·split
    ·rfl
    ·split
     ·rfl
     ·split
      ·rfl
      ·split <;> rfl
def shT (l' : List Int) (n : Nat) (t : Tk) : Tk := ⟨t.k, (posT l' (n + t.fr)).1, (posT l' (n + t.fr)).2, n + t.fr, n + t.to, t.tx, t.va⟩
theorem tkG_shf (cl : Bool) (i : Nat) : tkG l' cl (n + i) = shT l' n (tkG l cl i) := by
 unfold tkG shT
 rw [ign_shf H, rdG_shf H]
 dsimp only
 congr 2
 obtain ⟨a, ha⟩ : ∃ a, a = (rdG l cl (ign l false i)).2.1 := ⟨_, rfl⟩
 obtain ⟨b, hb⟩ : ∃ b, b = ign l false i := ⟨_, rfl⟩
 rw [← ha, ← hb, List.drop_take, List.drop_take, ← List.drop_drop, H.dr, show n + a - (n + b) = a - b by omega]
theorem tksGF_shf (cl : Bool) : ∀ (f i : Nat), tksGF l' cl f (n + i) = (tksGF l cl f i).map (shT l' n)
 | 0, i => rfl
 | f + 1, i => by
  simp only [tksGF]
  rw [tkG_shf H]
  have e : (shT l' n (tkG l cl i)).k = (tkG l cl i).k := rfl
  have e2 : (shT l' n (tkG l cl i)).to = n + (tkG l cl i).to := rfl
  rw [e, e2]
  split
  ·rfl
  ·rw [tksGF_shf cl f _]
   rfl
theorem tksG_shf (cl : Bool) {i : Nat} (hi : i ≤ l.length) : tksG l' cl (n + i) = (tksG l cl i).map (shT l' n) := by
 unfold tksG
 rw [tksGF_more l' cl (l'.length + 1) (l.length + 1) (n + i) (by omega) (by rw [H.len]; omega) (by rw [H.len]; omega)]
 exact tksGF_shf H cl _ i
end
theorem rdG_zero {l : List Int} {cl : Bool} {i : Nat} (hi : i ≤ l.length) (h : (rdG l cl i).1 = 0) : i = l.length ∧ cl = true := by
 by_cases h0 : i = l.length ∧ cl = true
 ·exact h0
 ·exfalso
  unfold rdG at h
  rw [if_neg h0] at h
  split at h
  ·split at h <;> cases h
  ·split at h
   ·cases h
   ·split at h
    ·cases h
    ·split at h
     ·exact (num_le l i hi).2.2.2 h
     ·split at h
      ·exact (blc_le sv.bS l i hi).2.2.2 h
      ·split at h
       ·exact (qtd_le l i hi).2.2.2 h
       ·cases h
end Go.Proofs.YtcebeajjpcbgcaaGreat.lx
namespace Go.Proofs.YtcebeajjpcbgcaaGreat.cu
open dt (Dt Kp RowAt Ow Grow)
open mem (decF decZ putB scB Byt posT enB)
open lx (toks chs cln tksG tkG shT)
theorem EqLs.symm {R R' : Dt → Dt → Prop} {l l' : List Dt} (h : EqLs R l l') (k : ∀ x y, R x y → R' y x) : EqLs R' l' l := ⟨h.1.symm, fun i x y hx hy => k y x (h.2 i y x hy hx)⟩
theorem EqL.symm {pl : Bool} : ∀ {f : Nat} {d e : Dt}, EqL pl f d e → EqL pl f e d
 | 0, d, e, h => h.elim
 | f + 1, d, e, ⟨k, tx, bl, its, its', fls, fls', ln, co, ln', co', h1, h2, h3, h4, h5, h6, h7⟩ =>
  ⟨k, tx, bl, its', its, fls', fls, ln', co', ln, co, h2, h1, fun p => ⟨(h3 p).1.symm, (h3 p).2.symm⟩, h4.symm, h5.symm, fun i x y hx hy => (h6 i y x hy hx).symm, fun i x y hx hy => by
   obtain ⟨nm, v, v', a, b, a', b', e1, e2, e3, e4⟩ := h7 i y x hy hx
   exact ⟨nm, v', v, a', b', a, b, e2, e1, fun p => ⟨(e3 p).1.symm, (e3 p).2.symm⟩, e4.symm⟩⟩
theorem EqA.symm {pl : Bool} {f : Nat} {x y : Dt} (h : EqA pl f x y) : EqA pl f y x := by
 obtain ⟨nm, v, v', a, b, a', b', e1, e2, e3, e4⟩ := h
 exact ⟨nm, v', v, a', b', a, b, e2, e1, fun p => ⟨(e3 p).1.symm, (e3 p).2.symm⟩, e4.symm⟩
theorem EqR.symm {pl : Bool} {f : Nat} {x y : Dt} (h : EqR pl f x y) : EqR pl f y x := by
 obtain ⟨nm, v, v', a, b, a', b', e1, e2, e3, e4⟩ := h
 exact ⟨nm, v', v, a', b', a, b, e2, e1, fun p => ⟨(e3 p).1.symm, (e3 p).2.symm⟩, EqLs.symm e4 fun _ _ => EqA.symm⟩
theorem EqS.symm {pl : Bool} {f : Nat} : ∀ {g : Nat} {x y : Dt}, EqS pl f g x y → EqS pl f g y x
 | 0, x, y, h => h.elim
 | g + 1, x, y, ⟨k, al, nm, on, as1, as2, ds, ds', ss, ss', a, b, a', b', e1, e2, e3, e4, e5, e6⟩ =>
  ⟨k, al, nm, on, as2, as1, ds', ds, ss', ss, a', b', a, b, e2, e1, fun p => ⟨(e3 p).1.symm, (e3 p).2.symm⟩, EqLs.symm e4 fun _ _ => EqA.symm, EqLs.symm e5 fun _ _ => EqR.symm, EqLs.symm e6 fun _ _ h => EqS.symm h⟩
theorem dec_app {zs : List Int} (h : zs.all scB = true) (r : List Int) : decZ (zs.flatMap putB ++ r) = (zs ++ (decZ r).1, (zs.flatMap putB).length + (decZ r).2) := by
 have hlen : zs.length ≤ (zs.flatMap putB).length := mem.flat_ge _
 unfold decZ
 rw [decF_fuel _ (zs.length + (zs.flatMap putB ++ r).length) _ (Nat.le_refl _) (by omega), decF_app _ _ _ h]
 rw [decF_fuel _ r.length r (by rw [List.length_append]; omega) (Nat.le_refl _)]
theorem chs_app {zs : List Int} (h : zs.all scB = true) (r : List Int) : chs (zs.flatMap putB ++ r) = zs ++ chs r := by unfold chs; rw [dec_app h]
theorem cln_app {zs : List Int} (h : zs.all scB = true) (r : List Int) : cln (zs.flatMap putB ++ r) = cln r := by
 unfold cln
 rw [dec_app h, List.length_append]
 exact decide_eq_decide.2 (by dsimp only; omega)
theorem clean_flat {z : List Int} (hz : Byt z) (hc : cln z = true) : z = (chs z).flatMap putB ∧ (chs z).all scB = true := by
 have h := mem.decF_flat z.length z hz
 have h2 : (decZ z).2 = z.length := of_decide_eq_true hc
 unfold decZ at h2
 refine ⟨?_, h.2.2.1⟩
 have := h.1
 rw [h2, List.take_length] at this
 exact this.symm
theorem tks_zero (l : List Int) (cl : Bool) : ∀ (m i : Nat) (t : Tk), i ≤ l.length → (tksG l cl i)[m]? = some t → t.k = 0 → cl = true
 | 0, i, t, hi, h, hk => by
  have h0 : (tksG l cl i)[0]? = some (tkG l cl i) := by
   by_cases he : (tkG l cl i).k = 0 ∨ (tkG l cl i).k = 1
   ·rw [lx.tksG_end he]; rfl
   ·rw [lx.tksG_go hi he]; rfl
  rw [h0] at h
  obtain rfl := Option.some.inj h
  exact (lx.rdG_zero ((lx.ign_le l false i).2 hi) hk).2
 | m + 1, i, t, hi, h, hk => by
  have hle := lx.tkG_le l cl i hi
  by_cases he : (tkG l cl i).k = 0 ∨ (tkG l cl i).k = 1
  ·rw [lx.tksG_end he] at h; simp at h
  ·rw [lx.tksG_go hi he] at h
   exact tks_zero l cl m _ t hle.2.1 (by simpa using h) hk
theorem doc_end (z : List Int) (d : Int) {l : List Dt} (h : (docG z d).1 = some l) : (docG z d).2.kd = 0 ∧ cln z = true ∧ (toks z).length = (docG z d).2.ix + 1 ∧ 0 < (docG z d).2.ix ∧ (∃ t, (toks z)[(docG z d).2.ix]? = some t ∧ t.k = 0) := by
 have hok := newG_ok' z d
 obtain ⟨k0, kt⟩ := defsF_live3 _ _ _ _ (show (docS (newG z d)).1.isSome = true by unfold docG at h; rw [h]; rfl)
 have k0 : (docG z d).2.kd = 0 := k0
 have kt : (docG z d).2.tok.k = 0 := kt
 have hst : Stp (newG z d) (docG z d).2 := defsF_stp (defN_goes _) _ _ _ hok
 have hg := (docG z d).2.get hst.ok.lt
 rw [hst.ts] at hg
 have hg' : (toks z)[(docG z d).2.ix]? = some (docG z d).2.tok := hg
 have hl := tks_last3 (chs z) (cln z) _ 0 _ (Nat.zero_le _) hg' (.inl kt)
 refine ⟨k0, tks_zero _ _ _ _ _ (Nat.zero_le _) hg' kt, hl, ?_, _, hg', kt⟩
 have hlt := hok.lt
 have hgo : (newG z d).ix < (docG z d).2.ix := by
  unfold docG docS at h ⊢
  obtain ⟨g, hg⟩ : ∃ g, (newG z d).ts.length = g + 1 := ⟨(newG z d).ts.length - 1, by omega⟩
  obtain ⟨D, hD⟩ : ∃ D, D = defN (newG z d).ts.length := ⟨_, rfl⟩
  have hG : Goes D := by rw [hD]; exact defN_goes _
  rw [← hD] at h ⊢
  rw [hg] at h ⊢
  simp only [defsF] at h ⊢
  rw [if_pos (.inl rfl)] at h ⊢
  cases hq : (D (newG z d)).1 with
  | none => rw [hq] at h; cases h
  | some d' => exact Nat.lt_of_lt_of_le ((hG _ hok).2 (by rw [hq]; rfl)) (defsF_stp hG g _ _ (hG _ hok).1.ok).ix
 exact hgo
theorem defsF_len (D : LitR) : ∀ (g : Nat) (l : List Dt) (c : Cu) (r : List Dt), (defsF D g l c).1 = some r → 0 < r.length ∧ l.length ≤ r.length
 | 0, l, c, r, h => by cases h
 | g + 1, l, c, r, h => by
  simp only [defsF] at h
  split at h
  ·cases hq : (D c).1 with
   | none => rw [hq] at h; cases h
   | some d =>
    rw [hq] at h
    have := defsF_len D g _ _ r h
    simp at this
    exact ⟨this.1, by omega⟩
  ·rename_i hc
   dsimp only at h
   split at h
   ·obtain rfl := Option.some.inj h
    have : l.length ≠ 0 := fun e => hc (.inl e)
    exact ⟨by omega, Nat.le_refl _⟩
   ·cases h
end Go.Proofs.YtcebeajjpcbgcaaGreat.cu
namespace Go.Proofs.YtcebeajjpcbgcaaGreat.lx
open mem (pfx digB digs digAt isAt bWhole bPart bPoint bMark pfxFirst pfxR posT enB prB)
open cu (Tk)
structure Lox (l l' : List Int) (T : Nat) : Prop where
 tk : l'.take T = l.take T
 le : T ≤ l.length
 hl : T ≤ l'.length
 nl : cAt l' T = 10 ∨ cAt l' T = -1 ∨ cAt l' T = 123 ∨ cAt l' T = 125 ∨ cAt l' T = 32 ∨ cAt l' T = 9 ∨ cAt l' T = 13 ∨ cAt l' T = 44 ∨ cAt l' T = 65279
section
variable {l l' : List Int} {T : Nat} (H : Lox l l' T)
include H
theorem Lox.lt : T ≤ l'.length := H.hl
theorem Lox.get {i : Nat} (hi : i < T) : l'[i]? = l[i]? := by
 have h1 : (l'.take T)[i]? = (l.take T)[i]? := by rw [H.tk]
 rwa [List.getElem?_take, List.getElem?_take, if_pos hi, if_pos hi] at h1
theorem Lox.getD {i : Nat} (hi : i < T) : l'.getD i 0 = l.getD i 0 := by
 rw [List.getD_eq_getElem?_getD, List.getD_eq_getElem?_getD, H.get hi]
theorem Lox.at_ {i : Nat} (hi : i < T) : cAt l' i = cAt l i := by
 have := H.lt
 have := H.le
 rw [cAt_in (by omega), cAt_in (by omega), H.getD hi]
theorem ign_lox : ∀ (n : Nat) (b : Bool) (i : Nat), T ≤ i + n → ign l b i < T → ign l' b i = ign l b i
 | 0, b, i, h, h2 => by have := (ign_le l b i).1; omega
 | n + 1, b, i, h, h2 => by
  have hi : i < T := Nat.lt_of_le_of_lt (ign_le l b i).1 h2
  have hc := H.at_ hi
  cases b with
  | false =>
   rw [ign_f l i] at h2 ⊢
   rw [ign_f l' i, hc]
   split
   ·rename_i h3; rw [if_pos h3] at h2; exact ign_lox n false (i + 1) (by omega) h2
   ·rename_i h3; rw [if_neg h3] at h2
    split
    ·rename_i h4; rw [if_pos h4] at h2; exact ign_lox n true (i + 1) (by omega) h2
    ·rfl
  | true =>
   rw [ign_t l i] at h2 ⊢
   rw [ign_t l' i, hc]
   split
   ·rename_i h3; rw [if_pos h3] at h2; exact ign_lox n false (i + 1) (by omega) h2
   ·rename_i h3; rw [if_neg h3] at h2
    split
    ·rename_i h4; rw [if_pos h4] at h2; exact ign_lox n true (i + 1) (by omega) h2
    ·rfl
theorem nam_lox : ∀ (n : Nat) (i : Nat), T + 1 ≤ i + n → nam l i ≤ T → nam l' i = nam l i
 | 0, i, h, h2 => by have := (nam_le l i).1; omega
 | n + 1, i, h, h2 => by
  have hi : i ≤ T := Nat.le_trans (nam_le l i).1 h2
  by_cases e : i = T
  ·subst e
   have h3 : nam l i = i := Nat.le_antisymm h2 (nam_le l i).1
   rcases H.nl with hnl | hnl | hnl | hnl | hnl | hnl | hnl | hnl | hnl <;> (rw [h3, nam_eq l' i, hnl]; rfl)
  ·have hc := H.at_ (i := i) (by omega)
   rw [nam_eq l i] at h2 ⊢
   rw [nam_eq l' i, hc]
   split
   ·rename_i h3; rw [if_pos h3] at h2; exact nam_lox n (i + 1) (by omega) h2
   ·rfl
omit H in
theorem digAt_x (l : List Int) (p : Nat) : digAt l p = digB (cAt l p) := by
 unfold digAt cAt
 by_cases h : p < l.length
 ·simp [h]
 ·simp [h, digB]
omit H in
theorem isAt_x (l : List Int) (p : Nat) (c : Int) (hc : c ≠ -1) : isAt l p c = decide (cAt l p = c) := by
 unfold isAt cAt
 by_cases h : p < l.length
 ·simp [h, BEq.beq]
 ·simp [h]; exact fun e => hc e.symm
omit H in
theorem digs_eqx (l : List Int) (p : Nat) : digs l p = if digAt l p then digs l (p + 1) else p := by
 cases h : digAt l p
 ·rw [mem.digs_no h]; rfl
 ·rw [mem.digs_yes h]; rfl
theorem digs_lox : ∀ (n : Nat) (i : Nat), T + 1 ≤ i + n → digs l i ≤ T → digs l' i = digs l i
 | 0, i, h, h2 => by have := (mem.digs_le l i).1; omega
 | n + 1, i, h, h2 => by
  have hi : i ≤ T := Nat.le_trans (mem.digs_le l i).1 h2
  by_cases e : i = T
  ·subst e
   have h3 : digs l i = i := Nat.le_antisymm h2 (mem.digs_le l i).1
   rcases H.nl with hnl | hnl | hnl | hnl | hnl | hnl | hnl | hnl | hnl <;> (rw [h3, digs_eqx l' i, digAt_x, hnl]; rfl)
  ·have hc := H.at_ (i := i) (by omega)
   rw [digs_eqx l i] at h2 ⊢
   rw [digs_eqx l' i, digAt_x, digAt_x, hc]
   rw [digAt_x] at h2
   split
   ·rename_i h3; rw [if_pos h3] at h2; exact digs_lox n (i + 1) (by omega) h2
   ·rfl
theorem pfxR_lox {e : Nat} (he : (pfxR l e).1 ≤ T) (h46 : cAt l (pfxR l e).1 ≠ 46) (hnr : nrB (cAt l (pfxR l e).1) = false) : pfxR l' e = pfxR l e := by
 have hge : ∀ g, g ≤ (bPart l g (bMark l g)).1 := fun g => bPart_ge l g _ (by unfold bMark; split; omega; split <;> omega)
 have hpp : e ≤ bPoint l e := by unfold bPoint; split <;> omega
 have hb := bPart_ge l e (bPoint l e) hpp
 have hR : (bPart l e (bPoint l e)).1 ≤ (pfxR l e).1 := by
  unfold pfxR
  split
  ·exact hge _
  ·exact Nat.le_refl _
 have heT : e ≤ T := by omega
 have h46b : ∀ p, isAt l p 46 = decide (cAt l p = 46) := fun p => isAt_x l p 46 (by decide)
 have h46c : ∀ p, isAt l' p 46 = decide (cAt l' p = 46) := fun p => isAt_x l' p 46 (by decide)
 have hpt : bPoint l' e = bPoint l e := by
  unfold bPoint
  rw [h46b, h46c]
  by_cases h1 : e < T
  ·rw [H.at_ h1]
  ·have h2 : e = T := by omega
   have h3 : (pfxR l e).1 = e := by omega
   rw [h3] at h46
   rcases H.nl with hnl | hnl | hnl | hnl | hnl | hnl | hnl | hnl | hnl <;> (rw [h2, hnl, ← h2]; simp [h46])
 have hfr : bPart l' e (bPoint l e) = bPart l e (bPoint l e) ∧ (bPart l e (bPoint l e)).1 = (bPart l e (bPoint l e)).2 := by
  by_cases h1 : bPoint l e = e
  ·unfold bPart
   rw [if_pos h1, if_pos h1]
   exact ⟨rfl, rfl⟩
  ·by_cases h2 : digs l (bPoint l e) = bPoint l e
   ·exfalso
    have h3 : bPart l e (bPoint l e) = (e, digs l (bPoint l e)) := by unfold bPart; rw [if_neg h1, if_pos h2]
    have h4 : pfxR l e = (e, digs l (bPoint l e)) := by
     unfold pfxR
     rw [h3]
     simp only
     rw [if_neg (by rw [h2]; exact fun e' => h1 e'.symm)]
    rw [h4] at h46
    apply h46
    unfold bPoint at h1
    cases h5 : isAt l e 46
    ·rw [h5] at h1; exact absurd rfl h1
    ·rw [h46b] at h5; simpa using h5
   ·have h3 : bPart l e (bPoint l e) = (digs l (bPoint l e), digs l (bPoint l e)) := by unfold bPart; rw [if_neg h1, if_neg h2]
    rw [h3] at hR
    have h4 := digs_lox H (T + 1) (bPoint l e) (by omega) (by simp only at hR; omega)
    refine ⟨?_, by rw [h3]⟩
    rw [h3]
    unfold bPart
    rw [if_neg h1, h4, if_neg h2]
 obtain ⟨g, hg⟩ : ∃ g, g = (bPart l e (bPoint l e)).1 := ⟨_, rfl⟩
 have hRe : pfxR l e = bPart l g (bMark l g) := by unfold pfxR; rw [if_pos hfr.2, ← hg]
 have hRe' : pfxR l' e = bPart l' g (bMark l' g) := by unfold pfxR; rw [hpt, hfr.1, if_pos hfr.2, ← hg]
 rw [← hg] at hR
 have he1 : ∀ p, isAt l p 101 = decide (cAt l p = 101) := fun p => isAt_x l p 101 (by decide)
 have he2 : ∀ p, isAt l p 69 = decide (cAt l p = 69) := fun p => isAt_x l p 69 (by decide)
 have he1' : ∀ p, isAt l' p 101 = decide (cAt l' p = 101) := fun p => isAt_x l' p 101 (by decide)
 have he2' : ∀ p, isAt l' p 69 = decide (cAt l' p = 69) := fun p => isAt_x l' p 69 (by decide)
 rw [hRe', hRe]
 by_cases hm : isAt l g 101 = false ∧ isAt l g 69 = false
 ·have hm' : isAt l' g 101 = false ∧ isAt l' g 69 = false := by
   by_cases h1 : g < T
   ·rw [he1', he2', H.at_ h1, ← he1, ← he2]; exact hm
   ·have h2 : g = T := by omega
    rcases H.nl with hnl | hnl | hnl | hnl | hnl | hnl | hnl | hnl | hnl <;> (rw [he1', he2', h2, hnl]; decide)
  have e1 : bMark l g = g := by unfold bMark; rw [if_pos hm]
  have e2 : bMark l' g = g := by unfold bMark; rw [if_pos hm']
  rw [e1, e2]
  unfold bPart
  rw [if_pos rfl, if_pos rfl]
 ·have hc : cAt l g = 101 ∨ cAt l g = 69 := by
   rw [he1, he2] at hm
   simp only [decide_eq_false_iff_not] at hm
   by_cases h : cAt l g = 101
   ·exact .inl h
   ·exact .inr (Classical.not_not.1 (fun h' => hm ⟨h, h'⟩))
  have hgn : nrB (cAt l g) = true := by rcases hc with h | h <;> rw [h] <;> decide
  have hne : g ≠ (pfxR l e).1 := fun e' => by rw [← e', hgn] at hnr; cases hnr
  have hgT : g < T := by omega
  have hk : bMark l g = g + 1 ∨ bMark l g = g + 2 := by unfold bMark; rw [if_neg hm]; split; exact .inr rfl; exact .inl rfl
  have hkg : bMark l g ≠ g := by omega
  by_cases hd : digs l (bMark l g) = bMark l g
  ·exfalso
   have : bPart l g (bMark l g) = (g, digs l (bMark l g)) := by unfold bPart; rw [if_neg hkg, if_pos hd]
   rw [hRe, this] at hne
   exact hne rfl
  ·have h3 : bPart l g (bMark l g) = (digs l (bMark l g), digs l (bMark l g)) := by unfold bPart; rw [if_neg hkg, if_neg hd]
   rw [hRe, h3] at he
   simp only at he
   have h5 := (mem.digs_le l (bMark l g)).1
   have hg1 : g + 1 < T := by omega
   have hs1 : ∀ c : Int, c ≠ -1 → isAt l' (g + 1) c = isAt l (g + 1) c := fun c hc => by rw [isAt_x _ _ _ hc, isAt_x _ _ _ hc, H.at_ hg1]
   have hmk : bMark l' g = bMark l g := by
    unfold bMark
    rw [he1', he2', H.at_ hgT, ← he1, ← he2, hs1 43 (by decide), hs1 45 (by decide)]
   have h4 := digs_lox H (T + 1) (bMark l g) (by omega) he
   rw [hmk, h3]
   unfold bPart
   rw [if_neg hkg, h4, if_neg hd]
theorem pfx_lox {p : Nat} (hf : (pfx l p).2.2 ≠ 0) (ht : (pfx l p).1 ≤ T) (h46 : cAt l (pfx l p).1 ≠ 46) (hnr : nrB (cAt l (pfx l p).1) = false) : pfx l' p = pfx l p := by
 have hw : ¬ bWhole l (pfxFirst l p) = pfxFirst l p := fun e => hf (by unfold pfx; rw [if_pos e])
 have hpx : pfx l p = ((pfxR l (bWhole l (pfxFirst l p))).1, (pfxR l (bWhole l (pfxFirst l p))).2, if (pfxR l (bWhole l (pfxFirst l p))).1 > bWhole l (pfxFirst l p) then 2 else 1) := by unfold pfx; rw [if_neg hw]
 rw [hpx] at ht h46 hnr
 simp only at ht h46 hnr
 have hge : ∀ g, g ≤ (bPart l g (bMark l g)).1 := fun g => bPart_ge l g _ (by unfold bMark; split; omega; split <;> omega)
 have hR : bWhole l (pfxFirst l p) ≤ (pfxR l (bWhole l (pfxFirst l p))).1 := by
  have hpp : ∀ e, e ≤ bPoint l e := fun e => by unfold bPoint; split <;> omega
  have hb := fun e => bPart_ge l e (bPoint l e) (hpp e)
  unfold pfxR
  split
  ·exact Nat.le_trans (hb _) (hge _)
  ·exact hb _
 have hwl : pfxFirst l p ≤ bWhole l (pfxFirst l p) := by
  unfold bWhole
  split
  ·omega
  ·exact (mem.digs_le l _).1
 have hfp : p ≤ pfxFirst l p := by unfold pfxFirst; split <;> omega
 have hpT : p < T := by omega
 have hfT : pfxFirst l p < T := by omega
 have hfi : pfxFirst l' p = pfxFirst l p := by unfold pfxFirst; rw [isAt_x _ _ _ (by decide), isAt_x _ _ _ (by decide), H.at_ hpT]
 have hwe : bWhole l' (pfxFirst l p) = bWhole l (pfxFirst l p) := by
  unfold bWhole
  rw [isAt_x _ _ _ (by decide), isAt_x _ _ _ (by decide), H.at_ hfT]
  split
  ·rfl
  ·rename_i h0
   refine digs_lox H (T + 1) _ (by omega) ?_
   have : bWhole l (pfxFirst l p) = digs l (pfxFirst l p) := by unfold bWhole; rw [isAt_x _ _ _ (by decide), if_neg h0]
   omega
 have hre := pfxR_lox H ht h46 hnr
 rw [hpx]
 unfold pfx
 rw [hfi, hwe, if_neg hw, hre]
theorem num_lox {i : Nat} (hk : (num l i).1 ≠ 1) (ht : (num l i).2 ≤ T) : num l' i = num l i := by
 have hc : ¬ (cAt l (pfx l i).1 = 46 ∨ nrB (cAt l (pfx l i).1) = true) := fun e => hk (by unfold num; rw [if_pos e])
 have h46 : cAt l (pfx l i).1 ≠ 46 := fun e => hc (.inl e)
 have hnr : nrB (cAt l (pfx l i).1) = false := by
  cases h : nrB (cAt l (pfx l i).1)
  ·rfl
  ·exact absurd (.inr h) hc
 have hf : (pfx l i).2.2 = 1 ∨ (pfx l i).2.2 = 2 := by
  by_cases h1 : (pfx l i).2.2 = 1
  ·exact .inl h1
  ·by_cases h2 : (pfx l i).2.2 = 2
   ·exact .inr h2
   ·exact absurd (by unfold num; rw [if_neg hc, if_neg h1, if_neg h2]) hk
 have ht2 : (pfx l i).1 ≤ T := by
  unfold num at ht
  rw [if_neg hc] at ht
  rcases hf with h | h
  ·rw [if_pos h] at ht; exact ht
  ·rw [if_neg (by rw [h]; decide), if_pos h] at ht; exact ht
 have he := pfx_lox H (by rcases hf with h | h <;> rw [h] <;> decide) ht2 h46 hnr
 have hc' : ¬ (cAt l' (pfx l i).1 = 46 ∨ nrB (cAt l' (pfx l i).1) = true) := by
  by_cases h1 : (pfx l i).1 < T
  ·rw [H.at_ h1]; exact hc
  ·have h2 : (pfx l i).1 = T := by omega
   rcases H.nl with hnl | hnl | hnl | hnl | hnl | hnl | hnl | hnl | hnl <;> (rw [h2, hnl]; decide)
 unfold num
 rw [he, if_neg hc, if_neg hc']
theorem insZ_lox {p i : Nat} (hi : i ≤ T) : insZ l' p i = insZ l p i := by
 unfold insZ
 have e : ∀ m : List Int, (m.drop p).take (i - p) = ((m.take T).drop p).take (i - p) := fun m => by
  rw [List.drop_take, List.take_take, Nat.min_eq_left (by omega)]
 rw [e l', e l, H.tk]
theorem tq_lox {i : Nat} (hi : i + 2 < T) : tq l' i = tq l i := by
 unfold tq
 rw [H.at_ (by omega), H.at_ (by omega), H.at_ hi]
theorem endB_lox : ∀ (k j i : Nat), endB l k j = some i → i + 3 ≤ T → ∀ k', i < j + k' → endB l' k' j = some i
 | 0, j, i, h, _, _, _ => by cases h
 | k + 1, j, i, h, hT, k', hk' => by
  have hle := endB_le l _ _ _ h
  cases k' with
  | zero => omega
  | succ k' =>
   unfold endB at h ⊢
   rw [tq_lox H (by omega)]
   split at h
   ·rename_i ht; rw [if_pos ht]; exact h
   rename_i ht; rw [if_neg ht]
   have hji : j < i := by
    rcases Nat.lt_or_ge j i with h1 | h1
    ·exact h1
    ·exfalso
     have : j = i := by omega
     rw [this] at ht
     exact ht hle.2
   rw [H.at_ (by omega), tq_lox H (by omega)]
   split at h
   ·rename_i h2; rw [if_pos h2]; exact endB_lox k _ i h hT k' (by omega)
   rename_i h2; rw [if_neg h2]
   split at h
   ·cases h
   ·rename_i h3; rw [if_neg h3]; exact endB_lox k _ i h hT k' (by omega)
theorem endQ_lox : ∀ (k j i : Nat), endQ l k j = some i → i + 1 ≤ T → ∀ k', i < j + k' → endQ l' k' j = some i
 | 0, j, i, h, _, _, _ => by cases h
 | k + 1, j, i, h, hT, k', hk' => by
  have hle := endQ_le l _ _ _ h
  cases k' with
  | zero => omega
  | succ k' =>
   unfold endQ at h ⊢
   rw [H.at_ (by omega)]
   split at h
   ·rename_i ht; rw [if_pos ht]; exact h
   rename_i ht; rw [if_neg ht]
   have hji : j < i := by
    rcases Nat.lt_or_ge j i with h1 | h1
    ·exact h1
    ·exfalso
     have : j = i := by omega
     rw [this] at ht
     exact ht hle.2
   rw [H.at_ (i := j + 1) (by omega)]
   split at h
   ·rename_i h2
    rw [if_pos h2]
    split at h
    ·cases h
    ·rename_i h3; rw [if_neg h3]; exact endQ_lox k _ i h hT k' (by omega)
   rename_i h2; rw [if_neg h2]
   split at h
   ·cases h
   ·rename_i h3; rw [if_neg h3]; exact endQ_lox k _ i h hT k' (by omega)
theorem rdG_lox {cl cl' : Bool} {F : Nat} (hF : F ≤ l.length) (h0 : (rdG l cl F).1 ≠ 0) (h1 : (rdG l cl F).1 ≠ 1) (ht : (rdG l cl F).2.1 ≤ T) : rdG l' cl' F = rdG l cl F := by
 have hle := rdG_le l cl F hF
 have hFT : F < T := by rcases hle.2.2 with h | h | h; exact absurd h h0; exact absurd h h1; omega
 have hc := H.at_ hFT
 have hlt := H.lt
 have hn0 : ¬ (F = l.length ∧ cl = true) := fun e => h0 (by unfold rdG; rw [if_pos e])
 have hn0' : ¬ (F = l'.length ∧ cl' = true) := fun e => by omega
 unfold rdG at h0 h1 ht ⊢
 rw [if_neg hn0] at h0 h1 ht ⊢
 rw [if_neg hn0', hc]
 split
 ·rename_i h46
  rw [if_pos h46] at h0 h1 ht
  by_cases hd : cAt l (F + 1) = 46 ∧ cAt l (F + 2) = 46
  ·rw [if_pos hd] at ht
   simp only at ht
   rw [if_pos hd, H.at_ (by omega), H.at_ (by omega), if_pos hd]
  ·rw [if_neg hd] at h1; exact absurd rfl h1
 rename_i h46
 rw [if_neg h46] at h0 h1 ht
 split
 ·rfl
 rename_i hpu
 rw [if_neg hpu] at h0 h1 ht
 split
 ·rename_i hns
  rw [if_pos hns] at ht
  simp only at ht
  rw [nam_lox H (T + 1) (F + 1) (by omega) ht]
 rename_i hns
 rw [if_neg hns] at h0 h1 ht
 split
 ·rename_i hnu
  rw [if_pos hnu] at h1 ht
  simp only at h1 ht
  rw [num_lox H h1 ht]
 rename_i hnu
 rw [if_neg hnu] at h0 h1 ht
 by_cases htq : tq l F = true
 ·rw [if_pos htq] at h1 ht
  have h3 := tq_len l F htq
  have key : ∃ i, endB l (l.length + 2) (F + 3) = some i := by
   unfold blc at h1
   cases e : endB l (l.length + 2) (F + 3) with
   | none => rw [e] at h1; exact absurd rfl h1
   | some i => exact ⟨i, rfl⟩
  obtain ⟨i, hi⟩ := key
  have hib := endB_le l _ _ _ hi
  have hto : (blc sv.bS l F).2.1 = i + 3 := by unfold blc; rw [hi]; rfl
  rw [hto] at ht
  have htq' : tq l' F = true := by rw [tq_lox H (by omega)]; exact htq
  rw [if_pos htq', if_pos htq]
  have he := endB_lox H _ _ _ hi ht (l'.length + 2) (by omega)
  unfold blc
  rw [he, hi]
  simp only [blcR]
  rw [insZ_lox H (by omega)]
 ·rw [if_neg htq] at h0 h1 ht
  by_cases h34 : cAt l F = 34
  ·rw [if_pos h34] at h1 ht
   have key : ∃ i r, endQ l (l.length + 2) (F + 1) = some i ∧ quo (insZ l (F + 1) i) = some r := by
    unfold qtd at h1
    cases e : endQ l (l.length + 2) (F + 1) with
    | none => rw [e] at h1; exact absurd rfl h1
    | some i =>
     rw [e] at h1
     simp only [qtdR] at h1
     cases e2 : quo (insZ l (F + 1) i) with
     | none => rw [e2] at h1; exact absurd rfl h1
     | some r => exact ⟨i, r, rfl, e2⟩
   obtain ⟨i, r, hi, hr⟩ := key
   have hib := endQ_le l _ _ _ hi
   have hto : (qtd l F).2.1 = i + 1 := by unfold qtd; rw [hi]; simp only [qtdR, hr]
   rw [hto] at ht
   have htq' : ¬ tq l' F = true := by
    intro e
    unfold tq at e htq
    have e := of_decide_eq_true e
    have h1' : cAt l (F + 1) = 34 := by rw [← H.at_ (by omega)]; exact e.2.1
    have hiF : i = F + 1 := by
     unfold endQ at hi
     rw [if_pos h1'] at hi
     exact (Option.some.inj hi).symm
    have h2' : cAt l' (F + 2) = 34 := e.2.2
    by_cases hT2 : F + 2 < T
    ·rw [H.at_ hT2] at h2'
     exact htq (by simp [h34, h1', h2'])
    ·have : F + 2 = T := by omega
     rcases H.nl with hnl | hnl | hnl | hnl | hnl | hnl | hnl | hnl | hnl <;> (rw [this, hnl] at h2'; exact absurd h2' (by decide))
   rw [if_neg htq', if_neg htq, if_pos h34, if_pos h34]
   have he := endQ_lox H _ _ _ hi ht (l'.length + 2) (by omega)
   unfold qtd
   rw [he, hi]
   simp only [qtdR]
   rw [insZ_lox H (by omega)]
  ·rw [if_neg h34] at h1; exact absurd rfl h1
theorem posT_lox : ∀ (k : Nat), k < T → posT l' k = posT l k
 | 0, _ => rfl
 | k + 1, hk => by
  have ih := posT_lox k (by omega)
  have h1 := H.lt
  have h2 := H.le
  have he : enB l' k = enB l k := by
   unfold enB prB
   rw [H.getD (by omega), H.getD (by omega)]
   simp [show k + 1 < l.length by omega, show k + 1 < l'.length by omega]
  simp only [posT, he, ih]
theorem tkG_lox {cl cl' : Bool} {i : Nat} (hi : i ≤ l.length) (h0 : (tkG l cl i).k ≠ 0) (h1 : (tkG l cl i).k ≠ 1) (ht : (tkG l cl i).to ≤ T) : tkG l' cl' i = tkG l cl i := by
 have hF := (ign_le l false i).2 hi
 have hle := rdG_le l cl (ign l false i) hF
 have hFT : ign l false i < T := by
  rcases hle.2.2 with h | h | h
  ·exact absurd h h0
  ·exact absurd h h1
  ·exact Nat.lt_of_lt_of_le h ht
 have hg := ign_lox H T false i (by omega) hFT
 have hr := rdG_lox H (cl' := cl') hF h0 h1 ht
 unfold tkG
 rw [hg, hr, posT_lox H _ hFT]
 congr 1
 have e : ∀ m : List Int, m.take (rdG l cl (ign l false i)).2.1 = (m.take T).take (rdG l cl (ign l false i)).2.1 := fun m => by
  rw [List.take_take, Nat.min_eq_left (show (rdG l cl (ign l false i)).2.1 ≤ T from ht)]
 rw [e l', e l, H.tk]
theorem tks_lox {cl cl' : Bool} : ∀ (m i : Nat) (t : Tk), i ≤ l.length → i ≤ T → (tksG l cl i)[m]? = some t → t.k ≠ 0 → t.k ≠ 1 → t.to ≤ T → (∀ q, q ≤ m → (tksG l' cl' i)[q]? = (tksG l cl i)[q]?) ∧ i < t.to
 | m, i, t, hi, hiT, hm, h0, h1, ht => by
  have hlt := H.lt
  have hle := tkG_le l cl i hi
  by_cases he : (tkG l cl i).k = 0 ∨ (tkG l cl i).k = 1
  ·exfalso
   rw [tksG_end he] at hm
   cases m with
   | zero => simp at hm; subst hm; rcases he with e | e; exact h0 e; exact h1 e
   | succ m => simp at hm
  ·have e0 : (tkG l cl i).k ≠ 0 := fun e => he (.inl e)
   have e1 : (tkG l cl i).k ≠ 1 := fun e => he (.inr e)
   have hgo := tksG_go hi he
   have hit : i < (tkG l cl i).to := by rcases hle.2.2 with h | h | h; exact absurd h e0; exact absurd h e1; exact h
   cases m with
   | zero =>
    rw [hgo] at hm
    simp at hm
    subst hm
    have hk := tkG_lox H (cl' := cl') hi e0 e1 ht
    refine ⟨fun q hq => ?_, hit⟩
    obtain rfl : q = 0 := by omega
    rw [hgo, tksG_go (l := l') (cl := cl') (by omega) (by rw [hk]; exact he), hk]
    rfl
   | succ m =>
    rw [hgo] at hm
    simp at hm
    have hrec := fun hT2 => tks_lox (cl := cl) (cl' := cl') m (tkG l cl i).to t hle.2.1 hT2 hm h0 h1 ht
    have htoT : (tkG l cl i).to ≤ T := by
     have key : ∀ (m i : Nat) (t : Tk), i ≤ l.length → (tksG l cl i)[m]? = some t → t.k ≠ 0 → t.k ≠ 1 → i < t.to := by
      intro m
      induction m with
      | zero =>
       intro i t hi hm h0 h1
       have hle := tkG_le l cl i hi
       have h00 : (tksG l cl i)[0]? = some (tkG l cl i) := by
        by_cases he : (tkG l cl i).k = 0 ∨ (tkG l cl i).k = 1
        ·rw [tksG_end he]; rfl
        ·rw [tksG_go hi he]; rfl
       rw [h00] at hm
       obtain rfl := Option.some.inj hm
       rcases hle.2.2 with h | h | h
       ·exact absurd h h0
       ·exact absurd h h1
       ·exact h
      | succ m ih =>
       intro i t hi hm h0 h1
       have hle := tkG_le l cl i hi
       by_cases he : (tkG l cl i).k = 0 ∨ (tkG l cl i).k = 1
       ·rw [tksG_end he] at hm; simp at hm
       ·rw [tksG_go hi he] at hm
        have := ih _ t hle.2.1 (by simpa using hm) h0 h1
        rcases hle.2.2 with h | h | h
        ·exact absurd (.inl h) he
        ·exact absurd (.inr h) he
        ·omega
     have := key m (tkG l cl i).to t hle.2.1 hm h0 h1
     omega
    obtain ⟨hr1, hr2⟩ := hrec htoT
    have hk := tkG_lox H (cl' := cl') hi e0 e1 htoT
    refine ⟨fun q hq => ?_, by omega⟩
    rw [hgo, tksG_go (l := l') (cl := cl') (by omega) (by rw [hk]; exact he), hk]
    cases q with
    | zero => rfl
    | succ q =>
     simp only [List.getElem?_cons_succ]
     exact hr1 q (by omega)
end
end Go.Proofs.YtcebeajjpcbgcaaGreat.lx
namespace Go.Proofs.YtcebeajjpcbgcaaGreat.cu
open dt (Dt Kp RowAt Ow Grow)
open mem (decF decZ putB scB Byt posT enB)
open lx (toks chs cln tksG tkG shT cAt ign rdG)
theorem put_ascii {c b : Int} (hs : mem.scP c) (h1 : b < 128) (h : b ∈ putB c) : c = b ∧ putB c = [b] := by
 unfold putB at h ⊢
 have h0 : 0 ≤ c := by unfold mem.scP at hs; omega
 split
 ·rename_i hc
  rw [if_pos hc] at h
  simp at h
  exact ⟨h.symm, by rw [h]⟩
 ·rename_i hc
  rw [if_neg hc] at h
  exfalso
  split at h
  ·simp at h; omega
  ·split at h
   ·simp at h; omega
   ·simp at h; omega
theorem flat_split {b : Int} (h1 : b < 128) : ∀ (cs x y : List Int), cs.all scB = true → cs.flatMap putB = x ++ b :: y → ∃ c1 c2, cs = c1 ++ b :: c2 ∧ x = c1.flatMap putB ∧ y = c2.flatMap putB
 | [], x, y, _, h => by simp at h
 | c :: cs, x, y, hs, h => by
  rw [List.all_cons, Bool.and_eq_true] at hs
  have hc := (mem.scB_iff c).1 hs.1
  rw [List.flatMap_cons] at h
  rcases List.append_eq_append_iff.1 h with ⟨a', e1, e2⟩ | ⟨a', e1, e2⟩
  ·obtain ⟨c1, c2, q1, q2, q3⟩ := flat_split h1 cs a' y hs.2 e2
   exact ⟨c :: c1, c2, by rw [q1]; rfl, by rw [e1, q2]; rfl, q3⟩
  ·cases a' with
   | nil =>
    obtain ⟨c1, c2, q1, q2, q3⟩ := flat_split h1 cs [] y hs.2 (by simpa using e2.symm)
    refine ⟨c :: c1, c2, by rw [q1]; rfl, ?_, q3⟩
    rw [List.flatMap_cons, ← q2]
    simpa using e1.symm
   | cons d a' =>
    have hd : d = b := by simp at e2; exact e2.1.symm
    subst hd
    have hm : d ∈ putB c := by rw [e1]; simp
    obtain ⟨q1, q2⟩ := put_ascii hc h1 hm
    rw [q2] at e1
    have hx : x = [] := by
     cases x with
     | nil => rfl
     | cons a x => simp at e1
    subst hx
    have ha : a' = [] := by simpa using e1
    subst ha
    refine ⟨[], cs, by rw [q1]; rfl, rfl, ?_⟩
    simpa using e2
theorem flat_nil {cs : List Int} (h : cs.flatMap putB = []) : cs = [] := by
 cases cs with
 | nil => rfl
 | cons c cs =>
  have := (mem.putB_len c).1
  rw [List.flatMap_cons] at h
  have h2 := congrArg List.length h
  simp at h2
  rw [h2.1] at this
  simp at this
theorem chs_flat {cs : List Int} (h : cs.all scB = true) : chs (cs.flatMap putB) = cs ∧ cln (cs.flatMap putB) = true := by
 have h1 := chs_app h []
 have h2 := cln_app h []
 rw [List.append_nil] at h1 h2
 exact ⟨by rw [h1]; simp [chs, mem.decZ, mem.decF], by rw [h2]; rfl⟩
theorem body_chars {zb : List Int} (hz : Byt zb) (h : cln (123 :: zb ++ [10, 125]) = true) : ∃ C : List Int, C.all scB = true ∧ zb = C.flatMap putB := by
 have hB : Byt (123 :: zb ++ [10, 125]) := by
  intro x hx
  simp at hx
  rcases hx with rfl | hx | rfl | rfl
  ·decide
  ·exact hz x hx
  ·decide
  ·decide
 obtain ⟨h1, h2⟩ := clean_flat hB h
 obtain ⟨c1, c2, q1, q2, q3⟩ := flat_split (b := 10) (by decide) _ (123 :: zb) [125] h2 h1.symm
 have hs1 : c1.all scB = true := by rw [q1, List.all_append, Bool.and_eq_true] at h2; exact h2.1
 obtain ⟨c3, c4, r1, r2, r3⟩ := flat_split (b := 123) (by decide) c1 [] zb hs1 q2.symm
 have hc3 := flat_nil r2.symm
 subst hc3
 refine ⟨c4, ?_, r3⟩
 rw [r1, List.nil_append, List.all_cons, Bool.and_eq_true] at hs1
 exact hs1.2
theorem tks_next4 (l : List Int) (cl : Bool) : ∀ (m i : Nat) (t : Tk), i ≤ l.length → (tksG l cl i)[m]? = some t → t.k ≠ 0 → t.k ≠ 1 → ∀ q, (tksG l cl i)[m + 1 + q]? = (tksG l cl t.to)[q]?
 | 0, i, t, hi, h, h0, h1, q => by
  by_cases he : (tkG l cl i).k = 0 ∨ (tkG l cl i).k = 1
  ·rw [lx.tksG_end he] at h; simp at h; subst h; rcases he with e | e; exact absurd e h0; exact absurd e h1
  ·rw [lx.tksG_go hi he] at h
   simp at h
   subst h
   rw [lx.tksG_go hi he, show 0 + 1 + q = q + 1 by omega, List.getElem?_cons_succ]
 | m + 1, i, t, hi, h, h0, h1, q => by
  have hle := lx.tkG_le l cl i hi
  by_cases he : (tkG l cl i).k = 0 ∨ (tkG l cl i).k = 1
  ·rw [lx.tksG_end he] at h; simp at h
  ·rw [lx.tksG_go hi he] at h ⊢
   rw [show m + 1 + 1 + q = (m + 1 + q) + 1 by omega, List.getElem?_cons_succ]
   exact tks_next4 l cl m _ t hle.2.1 (by simpa using h) h0 h1 q
theorem tk_br {l : List Int} {cl : Bool} {i : Nat} {b : Int} (h : cAt l i = b) (hb : b = 123 ∨ b = 125) : (tkG l cl i).k = 2 ∧ (tkG l cl i).tx = mem.encS [b] ∧ (tkG l cl i).va = lx.E0 ∧ (tkG l cl i).to = i + 1 ∧ (tkG l cl i).fr = i := by
 have hi : i < l.length := lx.cAt_lt h (by rcases hb with rfl | rfl <;> decide)
 have hg : ign l false i = i := by
  rw [lx.ign_f, h]
  rcases hb with rfl | rfl <;> rfl
 have hr : rdG l cl i = (2, i + 1, lx.E0) := by
  unfold rdG
  rw [if_neg (fun x => by omega), h]
  rcases hb with rfl | rfl <;> rfl
 have hd : (l.take (i + 1)).drop i = [b] := by
  rw [List.drop_take, show i + 1 - i = 1 by omega]
  have : l.drop i = l[i] :: l.drop (i + 1) := (List.drop_eq_getElem_cons hi)
  rw [this]
  rw [lx.cAt_in hi, List.getD_eq_getElem?_getD, List.getElem?_eq_getElem hi] at h
  simp at h
  simp [h]
 unfold tkG
 rw [hg, hr]
 exact ⟨rfl, by show mem.encS ((l.take (i + 1)).drop i) = _; rw [hd], rfl, rfl, rfl⟩
theorem ign_stop {C : List Int} : ∀ (k : Nat) (b : Bool) (i : Nat), C.length ≤ i + k → i ≤ C.length → ign (C ++ [10, 125]) b i ≤ C.length + 1
 | 0, b, i, hk, hi => by
  obtain rfl : i = C.length := by omega
  have h1 : cAt (C ++ [10, 125]) C.length = 10 := by rw [lx.cAt_in (by simp), List.getD_eq_getElem?_getD, List.getElem?_append_right (Nat.le_refl _), Nat.sub_self]; rfl
  have h2 : cAt (C ++ [10, 125]) (C.length + 1) = 125 := by rw [lx.cAt_in (by simp), List.getD_eq_getElem?_getD, List.getElem?_append_right (by omega), show C.length + 1 - C.length = 1 by omega]; rfl
  have h3 : ign (C ++ [10, 125]) false (C.length + 1) = C.length + 1 := by rw [lx.ign_f, h2]; rfl
  cases b
  ·rw [lx.ign_f, h1]; show ign (C ++ [10, 125]) false (C.length + 1) ≤ _; omega
  ·rw [lx.ign_t, h1]; show ign (C ++ [10, 125]) false (C.length + 1) ≤ _; omega
 | k + 1, b, i, hk, hi => by
  rcases Nat.lt_or_ge i C.length with g | g
  ·cases b
   ·rw [lx.ign_f]
    split
    ·exact ign_stop k false (i + 1) (by omega) (by omega)
    ·split
     ·exact ign_stop k true (i + 1) (by omega) (by omega)
     ·omega
   ·rw [lx.ign_t]
    split
    ·exact ign_stop k false (i + 1) (by omega) (by omega)
    ·split
     ·exact ign_stop k true (i + 1) (by omega) (by omega)
     ·omega
  ·exact ign_stop 0 b i (by omega) hi
theorem ign_stop' {C : List Int} {i : Nat} (hi : i ≤ C.length + 2) (h : ign (C ++ [10, 125]) false i = C.length + 2) : i = C.length + 2 := by
 rcases Nat.lt_or_ge C.length i with g | g
 ·rcases Nat.lt_or_ge (C.length + 1) i with g2 | g2
  ·omega
  ·obtain rfl : i = C.length + 1 := by omega
   have h2 : cAt (C ++ [10, 125]) (C.length + 1) = 125 := by rw [lx.cAt_in (by simp), List.getD_eq_getElem?_getD, List.getElem?_append_right (by omega), show C.length + 1 - C.length = 1 by omega]; rfl
   rw [lx.ign_f, h2] at h
   exact absurd (show C.length + 1 = C.length + 2 from h) (by omega)
 ·have := ign_stop (C := C) C.length false i (by omega) g
  omega
theorem tks_brace {C : List Int} : ∀ (m i : Nat) (t : Tk), i ≤ C.length + 2 → (tksG (C ++ [10, 125]) true i)[m]? = some t → t.k = 0 → tksG (C ++ [10, 125, 125]) true i = (tksG (C ++ [10, 125]) true i).take m ++ tksG (C ++ [10, 125, 125]) true (C.length + 2)
 | m, i, t, hi, hm, h0 => by
  have hll : (C ++ [10, 125]).length = C.length + 2 := by simp
  have hlr : (C ++ [10, 125, 125]).length = C.length + 3 := by simp
  have H : lx.Lox (C ++ [10, 125]) (C ++ [10, 125, 125]) (C.length + 2) := by
   refine ⟨?_, by rw [hll]; exact Nat.le_refl _, by rw [hlr]; omega, .inr (.inr (.inr (.inl ?_)))⟩
   ·rw [show (C ++ [10, 125, 125] : List Int) = (C ++ [10, 125]) ++ [125] by simp, List.take_append_of_le_length (by rw [hll]; exact Nat.le_refl _)]
   ·rw [lx.cAt_in (by rw [hlr]; omega), List.getD_eq_getElem?_getD, List.getElem?_append_right (by omega), show C.length + 2 - C.length = 2 by omega]; rfl
  have hle := lx.tkG_le (C ++ [10, 125]) true i (by rw [hll]; exact hi)
  by_cases he : (tkG (C ++ [10, 125]) true i).k = 0 ∨ (tkG (C ++ [10, 125]) true i).k = 1
  ·rw [lx.tksG_end he] at hm
   cases m with
   | succ m => simp at hm
   | zero =>
    simp at hm
    subst hm
    have hz := lx.rdG_zero ((lx.ign_le (C ++ [10, 125]) false i).2 (by rw [hll]; exact hi)) h0
    rw [hll] at hz
    have := ign_stop' hi hz.1
    subst this
    rw [List.take_zero, List.nil_append]
  ·have e0 : (tkG (C ++ [10, 125]) true i).k ≠ 0 := fun e => he (.inl e)
   have e1 : (tkG (C ++ [10, 125]) true i).k ≠ 1 := fun e => he (.inr e)
   have hgo := lx.tksG_go (show i ≤ (C ++ [10, 125]).length by rw [hll]; exact hi) he
   have hk := lx.tkG_lox H (cl := true) (cl' := true) (i := i) (by rw [hll]; exact hi) e0 e1 (by rw [← hll]; exact hle.2.1)
   cases m with
   | zero => rw [hgo] at hm; simp at hm; subst hm; exact absurd h0 e0
   | succ m =>
    rw [hgo] at hm
    simp at hm
    have ih := tks_brace (C := C) m (tkG (C ++ [10, 125]) true i).to t (by rw [← hll]; exact hle.2.1) hm h0
    rw [hgo, lx.tksG_go (l := C ++ [10, 125, 125]) (cl := true) (by rw [hlr]; omega) (by rw [hk]; exact he), hk, ih]
    rfl
theorem at_mid (P0 : List Int) (b : Int) (R : List Int) : cAt (P0 ++ b :: R) P0.length = b := by
 rw [lx.cAt_in (by simp), List.getD_eq_getElem?_getD, List.getElem?_append_right (Nat.le_refl _), Nat.sub_self]
 rfl
theorem shf_mid (P0 : List Int) (b : Int) (R : List Int) : lx.Shf R (P0 ++ b :: R) (P0.length + 1) := by
 have := lx.Shf.of (P0 ++ [b]) R
 simpa using this
theorem src_toks (P0 R : List Int) {m : Nat} {t : Tk} (hP : (tksG (P0 ++ [123]) true 0)[m]? = some t) (h0 : t.k ≠ 0) (h1 : t.k ≠ 1) (ht : t.to = P0.length) :
  (∀ q, q ≤ m → (tksG (P0 ++ 123 :: R) true 0)[q]? = (tksG (P0 ++ [123]) true 0)[q]?) ∧ (tksG (P0 ++ 123 :: R) true 0)[m + 1]? = some (tkG (P0 ++ 123 :: R) true P0.length) ∧ ∀ q, (tksG (P0 ++ 123 :: R) true 0)[m + 2 + q]? = ((tksG R true 0).map (shT (P0 ++ 123 :: R) (P0.length + 1)))[q]? := by
 have H : lx.Lox (P0 ++ [123]) (P0 ++ 123 :: R) P0.length := ⟨by simp, by simp, by simp, .inr (.inr (.inl (at_mid P0 123 R)))⟩
 have hlx := (lx.tks_lox H (cl := true) (cl' := true) m 0 t (Nat.zero_le _) (Nat.zero_le _) hP h0 h1 (by rw [ht]; exact Nat.le_refl _)).1
 have hm : (tksG (P0 ++ 123 :: R) true 0)[m]? = some t := by rw [hlx m (Nat.le_refl _)]; exact hP
 have hnx := tks_next4 (P0 ++ 123 :: R) true m 0 t (Nat.zero_le _) hm h0 h1
 rw [ht] at hnx
 have hb := tk_br (cl := true) (at_mid P0 123 R) (.inl rfl)
 have hgo := lx.tksG_go (l := P0 ++ 123 :: R) (cl := true) (i := P0.length) (by simp) (by rw [hb.1]; decide)
 rw [hb.2.2.2.1] at hgo
 have hsh := lx.tksG_shf (shf_mid P0 123 R) true (i := 0) (Nat.zero_le _)
 rw [Nat.add_zero] at hsh
 rw [hsh] at hgo
 refine ⟨hlx, ?_, fun q => ?_⟩
 ·have := hnx 0
  rw [hgo] at this
  simpa using this
 ·have := hnx (1 + q)
  rw [hgo, show 1 + q = q + 1 by omega, List.getElem?_cons_succ] at this
  rw [← this]
  congr 1
  omega
def T1 (C : List Int) : List Tk := tksG (123 :: (C ++ [10, 125])) true 0
theorem T1_eq (C : List Int) : T1 C = tkG (123 :: (C ++ [10, 125])) true 0 :: (tksG (C ++ [10, 125]) true 0).map (shT (123 :: (C ++ [10, 125])) 1) := by
 have hb := tk_br (l := 123 :: (C ++ [10, 125])) (cl := true) (i := 0) (b := 123) (at_mid [] 123 (C ++ [10, 125])) (.inl rfl)
 have hgo := lx.tksG_go (l := 123 :: (C ++ [10, 125])) (cl := true) (i := 0) (Nat.zero_le _) (by rw [hb.1]; decide)
 rw [hb.2.2.2.1] at hgo
 have hsh := lx.tksG_shf (shf_mid [] 123 (C ++ [10, 125])) true (i := 0) (Nat.zero_le _)
 unfold T1
 rw [hgo]
 congr 1
theorem near_toks {C P0 R : List Int} {nY : Nat} {t : Tk} (hP : (tksG (P0 ++ [123]) true 0)[3]? = some t) (h0 : t.k ≠ 0) (h1 : t.k ≠ 1) (ht : t.to = P0.length) (hR : ∀ q, q < nY → (tksG R true 0)[q]? = (tksG (C ++ [10, 125]) true 0)[q]?) (hl : nY < (tksG (C ++ [10, 125]) true 0).length) : ∀ i, i ≤ nY → EqT false ((T1 C).getD i Tk.zero) ((tksG (P0 ++ 123 :: R) true 0).getD (i + 4) Tk.zero) := by
 obtain ⟨_, ha, hq⟩ := src_toks P0 R hP h0 h1 ht
 intro i hi
 rw [List.getD_eq_getElem?_getD, List.getD_eq_getElem?_getD, T1_eq]
 cases i with
 | zero =>
  have hb := tk_br (l := 123 :: (C ++ [10, 125])) (cl := true) (i := 0) (b := 123) (at_mid [] 123 (C ++ [10, 125])) (.inl rfl)
  have hb' := tk_br (cl := true) (at_mid P0 123 R) (.inl rfl)
  rw [show 0 + 4 = 3 + 1 from rfl, ha]
  exact ⟨hb'.1.trans hb.1.symm, hb'.2.1.trans hb.2.1.symm, hb'.2.2.1.trans hb.2.2.1.symm, fun e => by cases e⟩
 | succ q =>
  rw [show q + 1 + 4 = 3 + 2 + q by omega, hq q, List.getElem?_cons_succ, List.getElem?_map, List.getElem?_map, hR q (by omega), List.getElem?_eq_getElem (by omega)]
  exact ⟨rfl, rfl, rfl, fun e => by cases e⟩
theorem sels_near {nY e N2 g' : Nat} {c1 c2 cE : Cu} {ss : List Dt} (hc1 : c1.Ok) (hc2 : c2.Ok) (hs : Sf false nY 4 e c1 c2) (hi : Inv c1) (h0 : c1.kd = 0) (hix : c1.ix = 0) (hS : selsF (litF false c1.ts.length) c1.ts.length c1 = (some ss, cE)) (hE : cE.kd = 0) (hEx : cE.ix = nY + 1) (hg : g' ≤ N2) (hb : c2.ts.length ≤ g' + c2.ix) :
  ∃ ss', selsF (litF false N2) g' c2 = (some ss', ⟨c2.ts, nY + 5, c2.op, c2.mo, 0⟩) ∧ EqLs (EqS false c1.ts.length c1.ts.length) ss ss' := by
 have o5 := selsF_5 (pl := false) (m := nY) (s := 4) (e := e) (f := c1.ts.length) (litF_goes false c1.ts.length) (litF_goes false N2) (litF_faults false c1.ts.length) (litF_4 false c1.ts.length N2) c1.ts.length g' (Nat.le_refl _) hg
 obtain ⟨e1, e2⟩ := o5.near trivial c1 c2 hc1 hc2 hs (by omega) hb (.inr ⟨hi, h0, by rw [hS]; exact hE⟩) (by rw [hS]; rfl) (by rw [hS, hEx]; exact Nat.le_refl _)
 rw [hS] at e1 e2
 obtain ⟨ss', q1, q2⟩ := e1.some
 have hop : cE.op = c1.op := by
  have := (o5.o.bal c1 hc1 (by omega) hi h0 (by rw [hS]; exact hE)).1
  rw [hS] at this
  exact this
 have hst := (selsF_goes (litF_goes false N2) g' c2 hc2).1
 refine ⟨ss', ?_, q2⟩
 obtain ⟨z, hz⟩ : ∃ z, z = selsF (litF false N2) g' c2 := ⟨_, rfl⟩
 rw [← hz] at q1 e2 hst ⊢
 clear hz
 obtain ⟨r, cc⟩ := z
 dsimp only at q1 e2 hst
 subst q1
 obtain ⟨ts, ix, op, mo, kd⟩ := cc
 have x1 : ts = c2.ts := hst.ts
 have x2 : ix = nY + 5 := by have := e2.ix; rw [hEx] at this; exact this
 have x3 : op = c2.op := by have := e2.op; rw [hop, ← hs.op] at this; exact this
 have x4 : mo = c2.mo := hst.mo
 have x5 : kd = 0 := by have := e2.kd; rw [hE] at this; exact this
 rw [x1, x2, x3, x4, x5]
end Go.Proofs.YtcebeajjpcbgcaaGreat.cu
