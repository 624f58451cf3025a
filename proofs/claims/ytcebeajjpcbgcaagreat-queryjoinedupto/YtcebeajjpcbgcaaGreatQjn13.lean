import Derived.Test.YtcebeajjpcbgcaaGreatQjn12
import Derived.Lib.MinMax
set_option linter.unusedVariables false
set_option linter.unusedSimpArgs false
namespace Go.Proofs.YtcebeajjpcbgcaaGreat.cu
open dt (Dt Kp RowAt Ow Grow)
def OD (R : Dt → Dt → Prop) : Option Dt → Option Dt → Prop
 | none, none => True
 | some x, some y => R x y
 | _, _ => False
def OL (R : Dt → Dt → Prop) : Option (List Dt) → Option (List Dt) → Prop
 | none, none => True
 | some x, some y => EqLs R x y
 | _, _ => False
theorem OD.map {R R' : Dt → Dt → Prop} {a b : Option Dt} {f f' : Dt → Dt} (h : OD R a b) (k : ∀ x y, R x y → R' (f x) (f' y)) : OD R' (a.map f) (b.map f') := by
 cases a <;> cases b
 ·trivial
 ·exact h.elim
 ·exact h.elim
 ·exact k _ _ h
theorem OL.map {R R' : Dt → Dt → Prop} {a b : Option (List Dt)} {f f' : List Dt → Dt} (h : OL R a b) (k : ∀ x y, EqLs R x y → R' (f x) (f' y)) : OD R' (a.map f) (b.map f') := by
 cases a <;> cases b
 ·trivial
 ·exact h.elim
 ·exact h.elim
 ·exact k _ _ h
theorem EqLs.nil {R : Dt → Dt → Prop} : EqLs R [] [] := ⟨rfl, fun i x y hx => by simp at hx⟩
theorem EqLs.snoc {R : Dt → Dt → Prop} {l l' : List Dt} {d d' : Dt} (h : EqLs R l l') (hd : R d d') : EqLs R (l ++ [d]) (l' ++ [d']) := by
 refine ⟨by simp [h.1], fun i x y hx hy => ?_⟩
 rcases Nat.lt_or_ge i l.length with g | g
 ·rw [List.getElem?_append_left g] at hx
  rw [List.getElem?_append_left (by rw [← h.1]; exact g)] at hy
  exact h.2 i x y hx hy
 ·rw [List.getElem?_append_right g] at hx
  rw [List.getElem?_append_right (by rw [← h.1]; exact g), ← h.1] at hy
  rcases Nat.eq_zero_or_pos (i - l.length) with k | k
  ·rw [k] at hx hy
   simp at hx hy
   subst hx; subst hy; exact hd
  ·rw [List.getElem?_eq_none (by simp; omega)] at hx
   cases hx
theorem OL.getD {R : Dt → Dt → Prop} {a b : Option (List Dt)} (h : OL R a b) : EqLs R (a.getD []) (b.getD []) := by
 cases a <;> cases b
 ·exact EqLs.nil
 ·exact h.elim
 ·exact h.elim
 ·exact h
theorem OD.some {R : Dt → Dt → Prop} {d : Dt} {b : Option Dt} (h : OD R (some d) b) : ∃ d', b = some d' ∧ R d d' := by
 cases b with
 | none => exact h.elim
 | some d' => exact ⟨d', rfl, h⟩
theorem OD.none {R : Dt → Dt → Prop} {b : Option Dt} (h : OD R none b) : b = none := by
 cases b with
 | none => rfl
 | some d' => exact h.elim
theorem brkF_go (E : LitR) (r : ByteArray) (n : Nat) (hG : Goes E) : ∀ (g : Nat) (l : List Dt) (c : Cu), c.Ok → (brkF E r n g l c).1.isSome = true → c.ix < (brkF E r n g l c).2.ix
 | 0, l, c, h, hs => by cases hs
 | g + 1, l, c, h, hs => by
  simp only [brkF] at hs ⊢
  by_cases hq : l.length < n ∨ c.isP r = false
  ·rw [if_pos hq] at hs ⊢
   cases he : (E c).1 with
   | none => rw [he] at hs; cases hs
   | some d =>
    rw [he] at hs
    exact Nat.lt_of_le_of_lt (hG c h).1.ix (brkF_go E r n hG g _ _ (hG c h).1.ok hs)
  ·rw [if_neg hq]
   have hp : c.isP r = true := by
    cases hp : c.isP r with
    | true => rfl
    | false => exact absurd (.inr hp) hq
   dsimp only
   rw [cls_yes hp]
   exact Nat.lt_succ_self _
section
variable {pl : Bool} {m s e : Nat} {P : Prop} {b b' : Nat}
theorem Ok4.tb {Y Z : Type} {V' : Y → Z → Prop} {F : Tk → Cu → Y × Cu} {F' : Tk → Cu → Z × Cu} (k : ∀ a a', Ok4 pl m s e (P ∧ EqT pl a a') V' (F a) (F' a') b b') : Ok4 pl m s e P V' (cu.bnd tokR F) (cu.bnd tokR F') b b' := by
 haveI : Nonempty Tk := ⟨Tk.zero⟩
 exact tokR_4.bnd k
theorem Ok4.tb5 {Y Z : Type} {V' : Option Y → Option Z → Prop} {F : Tk → Cu → Option Y × Cu} {F' : Tk → Cu → Option Z × Cu} (k : ∀ a a', Ok5 pl m s e (P ∧ EqT pl a a') V' (F a) (F' a') b b') : Ok5 pl m s e P V' (cu.bnd tokR F) (cu.bnd tokR F') b b' := by
 haveI : Nonempty Tk := ⟨Tk.zero⟩
 exact tokR_4.bnd5 k
theorem brkF_4 {R : Dt → Dt → Prop} {E E' : LitR} (hG : Goes E) (hG' : Goes E') (hF : Faults E b) (h : Ok4 pl m s e True (OD R) E E' b b') {r : ByteArray} (hr : dlt (pk r) = -1) (n : Nat) : ∀ (g g' : Nat) (l l' : List Dt) (c c' : Cu), c.Ok → c'.Ok → Sf pl m s e c c' → c.ts.length ≤ b + c.ix → c'.ts.length ≤ b' + c'.ix → c.ts.length ≤ g + c.ix → c'.ts.length ≤ g' + c'.ix → EqLs R l l' → (e = 0 ∨ (Inv c ∧ c.kd = 0 ∧ 1 ≤ c.op ∧ (brkF E r n g l c).2.kd = 0)) → ((brkF E r n g l c).2.ix ≤ m ∨ ((brkF E r n g l c).1.isSome = true ∧ (brkF E r n g l c).2.ix ≤ m + 1)) → OL R (brkF E r n g l c).1 (brkF E' r n g' l' c').1 ∧ Sf pl m s e (brkF E r n g l c).2 (brkF E' r n g' l' c').2
 | 0, g', l, l', c, c', hc, hc', hs, hb, hb', hg, hg', hl, hP, hm => by have := hc.lt; omega
 | g + 1, 0, l, l', c, c', hc, hc', hs, hb, hb', hg, hg', hl, hP, hm => by have := hc'.lt; omega
 | g + 1, g' + 1, l, l', c, c', hc, hc', hs, hb, hb', hg, hg', hl, hP, hm => by
  have hi : c.ix ≤ m := by
   rcases hm with hm | ⟨h1, h2⟩
   ·exact Nat.le_trans (brkF_stp hG r n (g + 1) l c hc).ix hm
   ·have := brkF_go E r n hG (g + 1) l c hc h1
    omega
  simp only [brkF] at hP hm ⊢
  rw [hs.isP hi, ← hl.1]
  by_cases hq : l.length < n ∨ c.isP r = false
  ·rw [if_pos hq] at hP hm
   rw [if_pos hq, if_pos hq]
   have hgo := hG c hc
   have hgo' := hG' c' hc'
   cases he : (E c).1 with
   | none =>
    rw [he] at hP hm
    have hm1 : (E c).2.ix ≤ m := by
     rcases hm with hm | ⟨h1, h2⟩
     ·exact hm
     ·cases h1
    have hp1 : Ps e c E := by
     rcases hP with hP | ⟨h1, h2, h3, h4⟩
     ·exact .inl hP
     ·exact .inr ⟨h1, h2, h4⟩
    obtain ⟨e1, e2⟩ := h.near trivial c c' hc hc' hs hb hb' hp1 hm1
    rw [he] at e1
    rw [e1.none]
    exact ⟨trivial, e2⟩
   | some d =>
    rw [he] at hP hm
    dsimp only at hP hm
    have hm1 : (E c).2.ix ≤ m := by
     rcases hm with hm | ⟨h1, h2⟩
     ·exact Nat.le_trans (brkF_stp hG r n g _ _ hgo.1.ok).ix hm
     ·have := brkF_go E r n hG g _ _ hgo.1.ok h1
      omega
    have hk0 : e = 0 ∨ (E c).2.kd = 0 := by
     rcases hP with hP | ⟨h1, h2, h3, h4⟩
     ·exact .inl hP
     ·refine .inr (Classical.byContradiction fun x => ?_)
      rw [brkF_sti h.o.sti r n x] at h4
      exact x h4
    have hp1 : Ps e c E := by
     rcases hP with hP | ⟨h1, h2, h3, h4⟩
     ·exact .inl hP
     ·rcases hk0 with hk0 | hk0
      ·exact .inl hk0
      ·exact .inr ⟨h1, h2, hk0⟩
    obtain ⟨e1, e2⟩ := h.near trivial c c' hc hc' hs hb hb' hp1 hm1
    rw [he] at e1
    obtain ⟨d', he', hR⟩ := e1.some
    rw [he']
    have i1 := hgo.2 (by rw [he]; rfl)
    have i2 := hgo'.2 (by rw [he']; rfl)
    refine brkF_4 hG hG' hF h hr n g g' (l ++ [d]) (l' ++ [d']) _ _ hgo.1.ok hgo'.1.ok e2 (by rw [hgo.1.ts]; omega) (by rw [hgo'.1.ts]; omega) (by rw [hgo.1.ts]; omega) (by rw [hgo'.1.ts]; omega) (hl.snoc hR) ?_ hm
    rcases hP with hP | ⟨h1, h2, h3, h4⟩
    ·exact .inl hP
    ·rcases hk0 with hk0 | hk0
     ·exact .inl hk0
     ·obtain ⟨o1, i3⟩ := h.o.bal c hc hb h1 h2 hk0
      exact .inr ⟨i3, hk0, by omega, h4⟩
  ·rw [if_neg hq] at hP
   rw [if_neg hq, if_neg hq]
   refine ⟨hl, hs.cls hi r ?_⟩
   rcases hP with hP | ⟨h1, h2, h3, h4⟩
   ·exact .inl hP
   ·exact .inr h3
theorem brk_45 {R : Dt → Dt → Prop} {E E' : LitR} (hG : Goes E) (hG' : Goes E') (hF : Faults E b) (h : Ok4 pl m s e True (OD R) E E' b b') {l r : ByteArray} (hl : dlt (pk l) = 1) (hr : dlt (pk r) = -1) (n : Nat) (c c' : Cu) (hc : c.Ok) (hc' : c'.Ok) (hs : Sf pl m s e c c') (hb : c.ts.length ≤ b + 1 + c.ix) (hb' : c'.ts.length ≤ b' + 1 + c'.ix) (hP : Ps e c (brk E l r n)) (hm : (brk E l r n c).2.ix ≤ m ∨ ((brk E l r n c).1.isSome = true ∧ (brk E l r n c).2.ix ≤ m + 1)) : OL R (brk E l r n c).1 (brk E' l r n c').1 ∧ Sf pl m s e (brk E l r n c).2 (brk E' l r n c').2 := by
 have hgo := brk_goes hG l r n c hc
 have hi : c.ix ≤ m := by
  rcases hm with hm | ⟨h1, h2⟩
  ·exact Nat.le_trans hgo.1.ix hm
  ·have := hgo.2 h1
   omega
 have ho := opn_stp hc l
 have ho' := opn_stp hc' l
 have eB := hs.opB hi l
 have eS := hs.opn hi l
 unfold Ps at hP
 unfold brk at hP hm ⊢
 rw [eB]
 by_cases hB : c.opB l = true
 ·rw [if_pos hB] at hP hm
  rw [if_pos hB, if_pos hB]
  have x1 := opn_ix hB
  have x2 := opn_ix (show c'.opB l = true by rw [eB]; exact hB)
  refine brkF_4 hG hG' hF h hr n _ _ [] [] _ _ ho.ok ho'.ok eS (by rw [ho.ts, x1]; omega) (by rw [ho'.ts, x2]; omega) (by rw [ho.ts]; omega) (by rw [ho'.ts]; omega) EqLs.nil ?_ hm
  rcases hP with hP | ⟨h1, h2, h3⟩
  ·exact .inl hP
  ·obtain ⟨q1, q2, q3⟩ := opn_yes hB
   exact .inr ⟨opn_inv hl hB h1, by rw [q3]; exact h2, by rw [q3]; exact Nat.succ_le_succ (Nat.zero_le _), h3⟩
 ·rw [if_neg hB, if_neg hB]
  exact ⟨trivial, eS⟩
theorem brk_4 {R : Dt → Dt → Prop} {E E' : LitR} (hG : Goes E) (hG' : Goes E') (hF : Faults E b) (h : Ok4 pl m s e True (OD R) E E' b b') {l r : ByteArray} (hl : dlt (pk l) = 1) (hr : dlt (pk r) = -1) (n : Nat) : Ok4 pl m s e P (OL R) (brk E l r n) (brk E' l r n) (b + 1) (b' + 1) :=
 ⟨brk_3 hG hF h.o hl hr n, (brk_goes hG' l r n).st, fun hp c c' hc hc' hs hb hb' hP hm => brk_45 hG hG' hF h hl hr n c c' hc hc' hs hb hb' hP (.inl hm)⟩
theorem brk_5 {R : Dt → Dt → Prop} {E E' : LitR} (hG : Goes E) (hG' : Goes E') (hF : Faults E b) (h : Ok4 pl m s e True (OD R) E E' b b') {l r : ByteArray} (hl : dlt (pk l) = 1) (hr : dlt (pk r) = -1) (n : Nat) : Ok5 pl m s e P (OL R) (brk E l r n) (brk E' l r n) (b + 1) (b' + 1) :=
 ⟨brk_3 hG hF h.o hl hr n, (brk_goes hG' l r n).st, fun c hc => (brk_goes hG l r n c hc).2, fun hp c c' hc hc' hs hb hb' hP h1 hm => brk_45 hG hG' hF h hl hr n c c' hc hc' hs hb hb' hP (.inr ⟨h1, hm⟩)⟩
theorem leaf_eq (f : Nat) {k : Int} {tx : ByteArray} {bl : Bool} {a c a' c' : Int} (h : pl = true → a = a' ∧ c = c') : EqL pl (f + 1) (litD k tx bl .nil .nil a c) (litD k tx bl .nil .nil a' c') :=
 ⟨k, tx, bl, [], [], [], [], a, c, a', c', rfl, rfl, h, rfl, rfl, fun i x y hx => by simp at hx, fun i x y hx => by simp at hx⟩
theorem word_eq (f : Nat) {t t' : Tk} (h : EqT pl t t') : EqL pl (f + 1) (wordD t) (wordD t') := by
 unfold wordD
 rw [h.2.1]
 split
 ·exact leaf_eq f h.2.2.2
 ·split
  ·exact leaf_eq f h.2.2.2
  ·exact leaf_eq f h.2.2.2
theorem argS_4 {f : Nat} {L L' : LitR} (h : Ok4 pl m s e True (OD (EqL pl f)) L L' b b') : Ok4 pl m s e P (OD (EqA pl f)) (argS L) (argS L') b b' := by
 rw [argS_eq3, argS_eq3]
 exact Ok4.tb fun t t' => nR_4.bnd fun _ _ => (wantR_4 _ dl_col).bnd fun _ _ => h.wk.bnd fun r r' => ret_4 fun hp => hp.2.map fun x y hxy => by
  have ht := hp.1.1.1.2
  rw [ht.2.1]
  exact ⟨t.tx, x, y, _, _, _, _, rfl, rfl, ht.2.2.2, hxy⟩
theorem litS_4 {f : Nat} {L L' : LitR} (hG : Goes L) (hG' : Goes L') (hF : Faults L b) (h : Ok4 pl m s e True (OD (EqL pl f)) L L' b b') (ct : Bool) : Ok4 pl m s e P (OD (EqL pl (f + 1))) (litS L ct) (litS L' ct) (b + 1) (b' + 1) := by
 rw [litS_eq, litS_eq]
 refine aliveR_4.bnd fun al al' => cond_4 (fun hp => hp.2) (Ok4.tb fun t t' => ?_) (ret_4 fun _ => trivial)
 have hK : ∀ {P' : Prop} (k : Int) {v v' : Dt}, k ≠ 0 → k ≠ 1 → k ≠ 2 → (P' → EqL pl (f + 1) v v') → Ok4 pl m s e P' (OD (EqL pl (f + 1))) (bnd (takeK k) fun _ => ret (some v)) (bnd (takeK k) fun _ => ret (some v')) (b + 1) (b' + 1) := fun {P'} k {v v'} h0 h1 h2 hv => (takeK_4 k h0 h1 h2).bnd fun _ _ => ret_4 fun hp => hv hp.1
 have hk : ∀ {Q : Prop} (k : Int), ((Q ∧ EqT pl t t') → decide (t.k = k) = decide (t'.k = k)) := fun k hp => by rw [hp.2.1]
 unfold litT
 refine cond_4 (hk 4) (hK 4 (by decide) (by decide) (by decide) fun hp => ?_) (cond_4 (hk 5) (hK 5 (by decide) (by decide) (by decide) fun hp => ?_) (cond_4 (hk 6) (hK 6 (by decide) (by decide) (by decide) fun hp => ?_) (cond_4 (hk 7) (hK 7 (by decide) (by decide) (by decide) fun hp => ?_) (cond_4 (hk 3) (hK 3 (by decide) (by decide) (by decide) fun hp => word_eq f hp.2)
  ((isPR_4 _).bnd fun q q' => cond_4 (fun hp => by rw [hp.2]) ((punctR_4 _ dl_dol).bnd fun _ _ => nR_4.bnd fun n n' => ret_4 fun hp => ?_)
  ((isPR_4 _).bnd fun q q' => cond_4 (fun hp => hp.2) ((brk_4 hG hG' hF h dl_lb dl_rb 0).bnd fun r r' => ret_4 fun hp => hp.2.map fun x y hxy => ?_)
  ((isPR_4 _).bnd fun q q' => cond_4 (fun hp => hp.2) ((brk_4 (argS_goes hG) (argS_goes hG') (argS_faults b hF) (argS_4 h) dl_lc dl_rc 0).bnd fun r r' => ret_4 fun hp => hp.2.map fun x y hxy => ?_)
  (stopR_4 fun _ => trivial))))))))
 ·rw [hp.2.2.1]; exact leaf_eq f hp.2.2.2.2
 ·rw [hp.2.2.1]; exact leaf_eq f hp.2.2.2.2
 ·rw [hp.2.2.2.1]; exact leaf_eq f hp.2.2.2.2
 ·rw [hp.2.2.2.1]; exact leaf_eq f hp.2.2.2.2
 ·obtain ⟨⟨⟨⟨_, ht⟩, _⟩, _⟩, rfl⟩ := hp
  cases n.1
  ·trivial
  ·exact leaf_eq f ht.2.2.2
 ·have ht := hp.1.1.1.2
  exact ⟨8, em, false, x, y, [], [], _, _, _, _, rfl, rfl, ht.2.2.2, hxy.1, rfl, hxy.2, fun i x y hx => by simp at hx⟩
 ·have ht := hp.1.1.1.1.2
  exact ⟨9, em, false, [], [], x, y, _, _, _, _, rfl, rfl, ht.2.2.2, rfl, hxy.1, (fun i x y hx => by simp at hx), hxy.2⟩
theorem litF_4 (ct : Bool) : ∀ (f f' : Nat), Ok4 pl m s e True (OD (EqL pl f)) (litF ct f) (litF ct f') f f'
 | 0, f' => ⟨litF_3 ct 0, (litF_goes ct f').st, fun hp c c' hc hc' hs hb => by have := hc.lt; omega⟩
 | f + 1, 0 => ⟨litF_3 ct (f + 1), (litF_goes ct 0).st, fun hp c c' hc hc' hs hb hb' => by have := hc'.lt; omega⟩
 | f + 1, f' + 1 => litS_4 (litF_goes ct f) (litF_goes ct f') (litF_faults ct f) (litF_4 ct f f') ct
end
theorem isSome_map {A X : Type} {f : A → X} (r : Option A) (h : (r.map f).isSome = true) : r.isSome = true := by cases r; cases h; rfl
section
variable {pl : Bool} {m s e : Nat} {P : Prop} {b b' : Nat} {f : Nat} {L L' : LitR}
theorem argsS_4 (hG : Goes L) (hG' : Goes L') (hF : Faults L b) (h : Ok4 pl m s e True (OD (EqL pl f)) L L' b b') : Ok4 pl m s e P (OL (EqA pl f)) (argsS L) (argsS L') b b' := by
 rw [argsS_eq, argsS_eq]
 exact (isPR_4 _).bnd fun q q' => cond_4 (fun hp => hp.2) ((brk_4 (argS_goes hG) (argS_goes hG') (argS_faults b hF) (argS_4 h) dl_lp dl_rp 1).mono (Nat.le_succ _) (Nat.le_succ _)) (aliveR_4.bnd fun a a' => ret_4 fun hp => by
  obtain ⟨_, rfl⟩ := hp
  cases a
  ·trivial
  ·exact EqLs.nil)
theorem dirB_4 (hG : Goes L) (hG' : Goes L') (hF : Faults L b) (h : Ok4 pl m s e True (OD (EqL pl f)) L L' b b') : Ok4 pl m s e P (OD (EqR pl f)) (dirB L) (dirB L') b b' :=
 Ok4.tb fun t t' => (punctR_4 _ dl_at).bnd fun _ _ => nR_4.bnd fun n n' => (argsS_4 hG hG' hF h).bnd fun r r' => ret_4 fun hp => hp.2.map fun x y hxy => by
  obtain ⟨⟨⟨⟨_, ht⟩, _⟩, rfl⟩, _⟩ := hp
  exact ⟨n.2, x, y, _, _, _, _, rfl, rfl, ht.2.2.2, hxy⟩
theorem dirsF_4 (hG : Goes L) (hG' : Goes L') (hF : Faults L b) (o : Ok4 pl m s e True (OD (EqR pl f)) (dirB L) (dirB L') b b') : ∀ (g g' : Nat) (l l' : List Dt) (c c' : Cu), c.Ok → c'.Ok → Sf pl m s e c c' → c.ts.length ≤ b + c.ix → c'.ts.length ≤ b' + c'.ix → c.ts.length ≤ g + c.ix → c'.ts.length ≤ g' + c'.ix → EqLs (EqR pl f) l l' → Ps e c (dirsF L g l) → (dirsF L g l c).2.ix ≤ m → OL (EqR pl f) (dirsF L g l c).1 (dirsF L' g' l' c').1 ∧ Sf pl m s e (dirsF L g l c).2 (dirsF L' g' l' c').2
 | 0, g', l, l', c, c', hc, hc', hs, hb, hb', hg, hg', hl, hP, hm => by have := hc.lt; omega
 | g + 1, 0, l, l', c, c', hc, hc', hs, hb, hb', hg, hg', hl, hP, hm => by have := hc'.lt; omega
 | g + 1, g' + 1, l, l', c, c', hc, hc', hs, hb, hb', hg, hg', hl, hP, hm => by
  have hi : c.ix ≤ m := Nat.le_trans (dirsF_stp hG (g + 1) l c hc).ix hm
  unfold Ps at hP
  simp only [dirsF] at hP hm ⊢
  rw [hs.isP hi]
  by_cases hp : c.isP bAt = true
  ·rw [if_pos hp] at hP hm
   rw [if_pos hp, if_pos hp]
   have hp' : c'.isP bAt = true := by rw [hs.isP hi]; exact hp
   have hgo := dirS_stp hG hc hp
   have hgo' := dirS_stp hG' hc' hp'
   have eq1 : dirB L c = dirS L c := (dirS_eq L c hp).symm
   have eq2 : dirB L' c' = dirS L' c' := (dirS_eq L' c' hp').symm
   have hnear := o.near trivial c c' hc hc' hs hb hb'
   have hbal := o.o.bal c hc hb
   unfold Ps at hnear
   rw [eq1, eq2] at hnear
   rw [eq1] at hbal
   cases he : (dirS L c).1 with
   | none =>
    rw [he] at hP hm
    obtain ⟨e1, e2⟩ := hnear hP hm
    rw [he] at e1
    rw [e1.none]
    exact ⟨trivial, e2⟩
   | some d =>
    rw [he] at hP hm
    dsimp only at hP hm
    have hm1 : (dirS L c).2.ix ≤ m := Nat.le_trans (dirsF_stp hG g _ _ hgo.1.ok).ix hm
    have hk0 : e = 0 ∨ (dirS L c).2.kd = 0 := by
     rcases hP with hP | ⟨h1, h2, h4⟩
     ·exact .inl hP
     ·refine .inr (Classical.byContradiction fun x => ?_)
      rw [dirsF_still L x] at h4
      exact x h4
    have hp1 : e = 0 ∨ (Inv c ∧ c.kd = 0 ∧ (dirS L c).2.kd = 0) := by
     rcases hP with hP | ⟨h1, h2, h4⟩
     ·exact .inl hP
     ·rcases hk0 with hk0 | hk0
      ·exact .inl hk0
      ·exact .inr ⟨h1, h2, hk0⟩
    obtain ⟨e1, e2⟩ := hnear hp1 hm1
    rw [he] at e1
    obtain ⟨d', he', hR⟩ := e1.some
    rw [he']
    have i1 := hgo.2
    have i2 := hgo'.2
    refine dirsF_4 hG hG' hF o g g' (l ++ [d]) (l' ++ [d']) _ _ hgo.1.ok hgo'.1.ok e2 (by rw [hgo.1.ts]; omega) (by rw [hgo'.1.ts]; omega) (by rw [hgo.1.ts]; omega) (by rw [hgo'.1.ts]; omega) (hl.snoc hR) ?_ hm
    rcases hP with hP | ⟨h1, h2, h4⟩
    ·exact .inl hP
    ·rcases hk0 with hk0 | hk0
     ·exact .inl hk0
     ·exact .inr ⟨(hbal h1 h2 hk0).2, hk0, h4⟩
  ·rw [if_neg hp, if_neg hp]
   refine ⟨?_, hs⟩
   show OL _ (if c.kd = 0 then some l else none) (if c'.kd = 0 then some l' else none)
   rw [hs.kd]
   split
   ·exact hl
   ·trivial
theorem dirs_4 (hG : Goes L) (hG' : Goes L') (hF : Faults L b) (h : Ok4 pl m s e True (OD (EqL pl f)) L L' b b') : Ok4 pl m s e P (OL (EqR pl f)) (dirs L) (dirs L') b b' :=
 ⟨dirs_3 hG hF h.o, dirs_st hG', fun hp c c' hc hc' hs hb hb' hP hm => dirsF_4 hG hG' hF (dirB_4 hG hG' hF h) _ _ [] [] c c' hc hc' hs hb hb' (by omega) (by omega) EqLs.nil hP hm⟩
theorem spreadS_4 (g : Nat) (hG : Goes L) (hG' : Goes L') (hF : Faults L b) (h : Ok4 pl m s e True (OD (EqL pl f)) L L' b b') {t t' : Tk} (ht : P → EqT pl t t') : Ok4 pl m s e P (OD (EqS pl f (g + 1))) (spreadS L t) (spreadS L' t') b b' := by
 rw [spreadS_eq, spreadS_eq]
 exact (butR_4 _).bnd fun nm nm' => (dirs_4 hG hG' hF h).bnd fun r r' => ret_4 fun hp => hp.2.map fun x y hxy => by
  obtain ⟨⟨hp, rfl⟩, _⟩ := hp
  exact ⟨2, em, nm, em, [], [], x, y, [], [], _, _, _, _, rfl, rfl, (ht hp).2.2.2, EqLs.nil, hxy, EqLs.nil⟩
theorem inlineS_4 {g : Nat} {S S' : LstR} (hG : Goes L) (hG' : Goes L') (hF : Faults L b) (h : Ok4 pl m s e True (OD (EqL pl f)) L L' b b') (hS : Ok4 pl m s e True (OL (EqS pl f g)) S S' b b') {t t' : Tk} (ht : P → EqT pl t t') : Ok4 pl m s e P (OD (EqS pl f (g + 1))) (inlineS L S t) (inlineS L' S' t') b b' := by
 rw [inlineS_eq, inlineS_eq]
 exact (wordR_4 _).bnd fun q q' => (cond_4 (V := Eq) (fun hp => hp.2) nmR_4 (ret_4 fun _ => rfl)).bnd fun on on' => (dirs_4 hG hG' hF h).bnd fun d d' => hS.wk.bnd fun r r' => ret_4 fun hp => hp.2.map fun x y hxy => by
  obtain ⟨⟨⟨⟨hp, _⟩, rfl⟩, hd⟩, _⟩ := hp
  exact ⟨3, em, em, on, [], [], _, _, x, y, _, _, _, _, rfl, rfl, (ht hp).2.2.2, EqLs.nil, hd.getD, hxy⟩
theorem fieldS_4 {g : Nat} {S S' : LstR} (hG : Goes L) (hG' : Goes L') (hF : Faults L b) (h : Ok4 pl m s e True (OD (EqL pl f)) L L' b b') (hS : Ok4 pl m s e True (OL (EqS pl f g)) S S' b b') {t t' : Tk} (ht : P → EqT pl t t') : Ok4 pl m s e P (OD (EqS pl f (g + 1))) (fieldS L S t) (fieldS L' S' t') b b' := by
 rw [fieldS_eq, fieldS_eq]
 refine nmR_4.bnd fun n n' => (punctR_4 _ dl_col).bnd fun q q' => (cond_4 (V := Eq) (fun hp => hp.2) nmR_4 (ret_4 fun hp => hp.1.2)).bnd fun n2 n2' => (argsS_4 hG hG' hF h).bnd fun a a' => (dirs_4 hG hG' hF h).bnd fun d d' => (isPR_4 _).bnd fun q2 q2' => cond_4 (fun hp => hp.2) (hS.wk.bnd fun r r' => ret_4 fun hp => hp.2.map fun x y hxy => ?_) (ret_4 fun hp => hp.1.2.map fun x y hxy => ?_)
 ·obtain ⟨⟨⟨⟨⟨⟨⟨hp, rfl⟩, rfl⟩, rfl⟩, ha⟩, hd⟩, _⟩, _⟩ := hp
  exact ⟨1, _, n2, em, _, _, _, _, x, y, _, _, _, _, rfl, rfl, (ht hp).2.2.2, ha.getD, hd.getD, hxy⟩
 ·obtain ⟨⟨⟨⟨⟨⟨hp, rfl⟩, rfl⟩, rfl⟩, ha⟩, hd⟩, _⟩ := hp
  exact ⟨1, _, n2, em, _, _, x, y, [], [], _, _, _, _, rfl, rfl, (ht hp).2.2.2, ha.getD, hxy, EqLs.nil⟩
theorem selS_4 {g : Nat} {S S' : LstR} (hG : Goes L) (hG' : Goes L') (hF : Faults L b) (h : Ok4 pl m s e True (OD (EqL pl f)) L L' b b') (hS : Ok4 pl m s e True (OL (EqS pl f g)) S S' b b') : Ok4 pl m s e P (OD (EqS pl f (g + 1))) (selS L S) (selS L' S') b b' := by
 rw [selS_eq, selS_eq]
 exact Ok4.tb fun t t' => (punctR_4 _ dl_dots).bnd fun q q' => cond_4 (fun hp => hp.2) (sprR_4.bnd fun z z' => cond_4 (fun hp => hp.2) (spreadS_4 g hG hG' hF h fun hp => hp.1.1.2) (inlineS_4 hG hG' hF h hS fun hp => hp.1.1.2)) (fieldS_4 hG hG' hF h hS fun hp => hp.1.2)
theorem selsF_4 (hG : Goes L) (hG' : Goes L') {N N' : Nat} (hF : Faults L N) (h : Ok4 pl m s e True (OD (EqL pl f)) L L' N N') : ∀ (g g' : Nat), g ≤ N → g' ≤ N' → Ok4 pl m s e True (OL (EqS pl f g)) (selsF L g) (selsF L' g') g g'
 | 0, g', _, _ => ⟨selsF_3 hG hF h.o 0 (Nat.zero_le _), (selsF_goes hG' g').st, fun hp c c' hc hc' hs hb => by have := hc.lt; omega⟩
 | g + 1, 0, hg, _ => ⟨selsF_3 hG hF h.o (g + 1) hg, (selsF_goes hG' 0).st, fun hp c c' hc hc' hs hb hb' => by have := hc'.lt; omega⟩
 | g + 1, g' + 1, hg, hg' => brk_4 (selS_goes hG (selsF_goes hG g)) (selS_goes hG' (selsF_goes hG' g')) (selS_faults hG (hF.mono (by omega)) (selsF_faults hG hF g (by omega))) (selS_4 hG hG' (hF.mono (by omega)) (h.mono (by omega) (by omega)) (selsF_4 hG hG' hF h g g' (by omega) (by omega))) dl_lc dl_rc 1
theorem selsF_5 (hG : Goes L) (hG' : Goes L') {N N' : Nat} (hF : Faults L N) (h : Ok4 pl m s e True (OD (EqL pl f)) L L' N N') : ∀ (g g' : Nat), g ≤ N → g' ≤ N' → Ok5 pl m s e True (OL (EqS pl f g)) (selsF L g) (selsF L' g') g g'
 | 0, g', _, _ => ⟨selsF_3 hG hF h.o 0 (Nat.zero_le _), (selsF_goes hG' g').st, fun c hc hs => (by cases hs), fun hp c c' hc hc' hs hb => by have := hc.lt; omega⟩
 | g + 1, 0, hg, _ => ⟨selsF_3 hG hF h.o (g + 1) hg, (selsF_goes hG' 0).st, fun c hc => (selsF_goes hG (g + 1) c hc).2, fun hp c c' hc hc' hs hb hb' => by have := hc'.lt; omega⟩
 | g + 1, g' + 1, hg, hg' => brk_5 (selS_goes hG (selsF_goes hG g)) (selS_goes hG' (selsF_goes hG' g')) (selS_faults hG (hF.mono (by omega)) (selsF_faults hG hF g (by omega))) (selS_4 hG hG' (hF.mono (by omega)) (h.mono (by omega) (by omega)) (selsF_4 hG hG' hF h g g' (by omega) (by omega))) dl_lc dl_rc 1
theorem unmO_4 {T T' : TypR} (hF : Faults T b) (h : Ok4 pl m s e True Eq T T' b b') : Ok4 pl m s e P Eq (bnd (opnR bLb) fun o => cond o (unmI T) (ret none)) (bnd (opnR bLb) fun o => cond o (unmI T') (ret none)) (b + 1) (b' + 1) := by
 refine ⟨unmO_3 hF h.o, (opnR_st bLb).bnd fun o => ite_st (unmI_st h.st') (ret_st _), fun hp c c' hc hc' hs hb hb' hP hm => ?_⟩
 have eq : ∀ (T : TypR) (c : Cu), (bnd (opnR bLb) fun o => cond o (unmI T) (ret none)) c = cond (c.opB bLb) (unmI T) (ret none) (c.opn bLb) := fun T c => rfl
 have ho := opn_stp hc bLb
 have ho' := opn_stp hc' bLb
 have hst := (unmO_3 (M := 0) hF h.o).st c hc
 have hi : c.ix ≤ m := Nat.le_trans hst.ix hm
 unfold Ps at hP
 rw [eq] at hP hm
 rw [eq, eq, hs.opB hi]
 have eS := hs.opn hi bLb
 by_cases hB : c.opB bLb = true
 ·rw [hB] at hP hm ⊢
  simp only [cond_true] at hP hm ⊢
  rw [unmI_at] at hP hm
  rw [unmI_at, unmI_at]
  have x1 := opn_ix hB
  have x2 := opn_ix (show c'.opB bLb = true by rw [hs.opB hi]; exact hB)
  have hb1 : (c.opn bLb).ts.length ≤ b + (c.opn bLb).ix := by rw [ho.ts, x1]; omega
  have hb2 : (c'.opn bLb).ts.length ≤ b' + (c'.opn bLb).ix := by rw [ho'.ts, x2]; omega
  obtain ⟨q1, q2, q3⟩ := opn_yes hB
  have sT := h.o.st _ ho.ok
  cases hq : (T (c.opn bLb)).1 with
  | none =>
   rw [hq] at hP hm
   have hP1 : Ps e (c.opn bLb) T := by
    rcases hP with hP | ⟨h1, h2, h3⟩
    ·exact .inl hP
    ·exact absurd h3 (hF _ ho.ok hb1 hq)
   obtain ⟨e1, e2⟩ := h.near trivial _ _ ho.ok ho'.ok eS hb1 hb2 hP1 hm
   rw [← e1, hq]
   exact ⟨rfl, e2⟩
  | some it =>
   rw [hq] at hP hm
   dsimp only at hP hm
   have hm1 : (T (c.opn bLb)).2.ix ≤ m := Nat.le_trans (cls_stp sT.ok bRb).ix hm
   have hk0 : e = 0 ∨ (T (c.opn bLb)).2.kd = 0 := by
    rcases hP with hP | ⟨h1, h2, h3⟩
    ·exact .inl hP
    ·refine .inr (Classical.byContradiction fun x => ?_)
     have : (T (c.opn bLb)).2.cls bRb = (T (c.opn bLb)).2 := by unfold Cu.cls; rw [isP_dead x]; exact stop_dead _ _ x
     rw [this] at h3
     exact x h3
   have hP1 : Ps e (c.opn bLb) T := by
    rcases hP with hP | ⟨h1, h2, h3⟩
    ·exact .inl hP
    ·rcases hk0 with hk0 | hk0
     ·exact .inl hk0
     ·exact .inr ⟨opn_inv dl_lb hB h1, by rw [q3]; exact h2, hk0⟩
   obtain ⟨e1, e2⟩ := h.near trivial _ _ ho.ok ho'.ok eS hb1 hb2 hP1 hm1
   rw [← e1, hq]
   dsimp only
   rw [e2.isP hm1]
   refine ⟨rfl, e2.cls hm1 bRb ?_⟩
   rcases hP1 with hP1 | ⟨h1, h2, h3⟩
   ·exact .inl hP1
   ·obtain ⟨o1, i1⟩ := h.o.bal _ ho.ok hb1 h1 h2 h3
    right
    rw [o1, q3]
    exact Nat.succ_le_succ (Nat.zero_le _)
 ·have hB' : c.opB bLb = false := by simpa using hB
  rw [hB']
  exact ⟨rfl, eS⟩
theorem unm_4 {T T' : TypR} (hF : Faults T b) (h : Ok4 pl m s e True Eq T T' b b') : Ok4 pl m s e P Eq (unm T) (unm T') (b + 1) (b' + 1) := by
 rw [unm_eq, unm_eq]
 exact (isPR_4 _).bnd fun q q' => cond_4 (fun hp => hp.2) (unmO_4 hF h) (nR_4.bnd fun n n' => ret_4 fun hp => by rw [hp.2])
theorem typF_4 : ∀ (f f' : Nat), Ok4 pl m s e True Eq (typF f) (typF f') f f'
 | 0, f' => ⟨typF_3 0, typF_st f', fun hp c c' hc hc' hs hb => by have := hc.lt; omega⟩
 | f + 1, 0 => ⟨typF_3 (f + 1), typF_st 0, fun hp c c' hc hc' hs hb hb' => by have := hc'.lt; omega⟩
 | f + 1, f' + 1 => by
  show Ok4 pl m s e True Eq (typ (unm (typF f))) (typ (unm (typF f'))) (f + 1) (f' + 1)
  rw [typ_eq, typ_eq]
  refine (unm_4 (typF_faults f) (typF_4 f f')).bnd fun r r' => ?_
  have h1 : ∀ (P' : Prop) (r : ByteArray × ByteArray), Ok4 pl m s e P' Eq (bnd (punctR bBang) fun q => ret (some (cond q (r.1, r.2 ++ bBang) r))) (bnd (punctR bBang) fun q => ret (some (cond q (r.1, r.2 ++ bBang) r))) (f + 1) (f' + 1) := fun P' r => (punctR_4 _ dl_bang).bnd fun q q' => ret_4 fun hp => by rw [hp.2]
  cases r with
  | none =>
   cases r' with
   | none => exact ret_4 fun _ => rfl
   | some r' => exact ⟨ret_3 _, (h1 True r').st', fun hp => by cases hp.2⟩
  | some r =>
   cases r' with
   | none => exact ⟨(h1 True r).o, ret_st _, fun hp => by cases hp.2⟩
   | some r' =>
    refine ⟨(h1 True r).o, (h1 True r').st', fun hp => ?_⟩
    obtain rfl := Option.some.inj hp.2
    exact (h1 True r).near trivial
end
open lx (toks chs cln tksG tkG)
section
variable {pl : Bool} {m s e : Nat} {P : Prop} {b b' : Nat} {f : Nat} {L L' K K' : LitR}
theorem OD.getD {R : Dt → Dt → Prop} {a b : Option Dt} {z z' : Dt} (h : OD R a b) (hz : R z z') : R (a.getD z) (b.getD z') := by
 cases a <;> cases b
 ·exact hz
 ·exact h.elim
 ·exact h.elim
 ·exact h
theorem varQ_4 {T T' : TypR} (hf : 0 < f) (hT : Ok4 pl m s e True Eq T T' b b') (hG : Goes L) (hG' : Goes L') (hF : Faults L b) (h : Ok4 pl m s e True (OD (EqL pl f)) L L' b b') : Ok4 pl m s e P (OD (EqV pl f)) (varQ T L) (varQ T' L') b b' := by
 rw [varQ_eq, varQ_eq]
 have hz : EqL pl f zeroD zeroD := by
  obtain ⟨f', rfl⟩ : ∃ f', f = f' + 1 := ⟨f - 1, by omega⟩
  exact leaf_eq f' fun _ => ⟨rfl, rfl⟩
 exact Ok4.tb fun t t' => (wantR_4 _ dl_dol).bnd fun _ _ => nmR_4.bnd fun n n' => (wantR_4 _ dl_col).bnd fun _ _ => hT.wk.bnd fun ty ty' => (punctR_4 _ dl_eq).bnd fun q q' => (cond_4 (V := OD (EqL pl f)) (fun hp => hp.2) h.wk (ret_4 (a := none) (x := none) fun _ => trivial)).bnd fun v v' => (dirs_4 hG hG' hF h).bnd fun d d' => ret_4 fun hp => hp.2.map fun x y hxy => by
  obtain ⟨⟨⟨⟨⟨⟨⟨⟨_, ht⟩, _⟩, rfl⟩, _⟩, rfl⟩, rfl⟩, hv⟩, _⟩ := hp
  refine ⟨n, _, _, q, _, _, x, y, _, _, _, _, rfl, rfl, ht.2.2.2, ?_, hxy⟩
  cases q
  ·exact hz
  ·exact hv.getD hz
theorem varsS_4 {g g' : Nat} (hf : 0 < f) (hT : Ok4 pl m s e True Eq (typF g) (typF g') b b') (hG : Goes K) (hG' : Goes K') (hF : Faults K b) (h : Ok4 pl m s e True (OD (EqL pl f)) K K' b b') : Ok4 pl m s e P (OL (EqV pl f)) (varsS (typF g) K) (varsS (typF g') K') b b' := by
 rw [varsS_eq, varsS_eq]
 exact (isPR_4 _).bnd fun q q' => cond_4 (fun hp => hp.2) ((brk_4 (varQ_goes hG) (varQ_goes hG') (varQ_faults hG hF) (varQ_4 hf hT hG hG' hF h) dl_lp dl_rp 1).mono (Nat.le_succ _) (Nat.le_succ _)) (ret_4 fun _ => EqLs.nil)
theorem bodyS_4 {g : Nat} {S S' : LstR} (hG : Goes L) (hG' : Goes L') (hF : Faults L b) (h : Ok4 pl m s e True (OD (EqL pl f)) L L' b b') (hS : Ok4 pl m s e True (OL (EqS pl f g)) S S' b b') (k : Int) {nm nm' on on' : ByteArray} {vs vs' : List Dt} {t t' : Tk} (hn : P → nm = nm' ∧ on = on' ∧ EqLs (EqV pl f) vs vs' ∧ EqT pl t t') : Ok4 pl m s e P (OD (EqF pl f g)) (bodyS L S k nm on vs t) (bodyS L' S' k nm' on' vs' t') b b' := by
 rw [bodyS_eq, bodyS_eq]
 exact (dirs_4 hG hG' hF h).bnd fun d d' => hS.wk.bnd fun r r' => ret_4 fun hp => hp.2.map fun x y hxy => by
  obtain ⟨rfl, rfl, hv, ht⟩ := hn hp.1.1
  exact ⟨k, nm, on, false, vs, vs', _, _, x, y, _, _, _, _, rfl, rfl, ht.2.2.2, hv, hp.1.2.getD, hxy⟩
theorem bodyS_5 {g : Nat} {S S' : LstR} (hG : Goes L) (hG' : Goes L') (hF : Faults L b) (h : Ok4 pl m s e True (OD (EqL pl f)) L L' b b') (hS : Ok5 pl m s e True (OL (EqS pl f g)) S S' b b') (k : Int) {nm nm' on on' : ByteArray} {vs vs' : List Dt} {t t' : Tk} (hn : P → nm = nm' ∧ on = on' ∧ EqLs (EqV pl f) vs vs' ∧ EqT pl t t') : Ok5 pl m s e P (OD (EqF pl f g)) (bodyS L S k nm on vs t) (bodyS L' S' k nm' on' vs' t') b b' := by
 rw [bodyS_eq, bodyS_eq]
 exact (dirs_4 hG hG' hF h).bnd5 fun d d' => hS.wk.map (fun r hr => isSome_map r hr) fun r r' hp hr => hr.map fun x y hxy => by
  obtain ⟨rfl, rfl, hv, ht⟩ := hn hp.1
  exact ⟨k, nm, on, false, vs, vs', _, _, x, y, _, _, _, _, rfl, rfl, ht.2.2.2, hv, hp.2.getD, hxy⟩
theorem operS_4 {g g' j : Nat} {S S' : LstR} (hf : 0 < f) (hT : Ok4 pl m s e True Eq (typF g) (typF g') b b') (kG : Goes K) (kG' : Goes K') (kF : Faults K b) (hK : Ok4 pl m s e True (OD (EqL pl f)) K K' b b') (hG : Goes L) (hG' : Goes L') (hF : Faults L b) (h : Ok4 pl m s e True (OD (EqL pl f)) L L' b b') (hS : Ok4 pl m s e True (OL (EqS pl f j)) S S' b b') (k : Int) {t t' : Tk} (ht : P → EqT pl t t') : Ok4 pl m s e P (OD (EqF pl f j)) (operS (typF g) K L S k t) (operS (typF g') K' L' S' k t') b b' := by
 rw [operS_eq, operS_eq]
 exact Ok4.tb fun u u' => (cond_4 (V := Eq) (fun hp => by rw [hp.2.1]) nmR_4 (ret_4 fun _ => rfl)).bnd fun n n' => (varsS_4 hf hT kG kG' kF hK).bnd fun v v' => bodyS_4 hG hG' hF h hS k fun hp => ⟨hp.1.2, rfl, hp.2.getD, ht hp.1.1.1⟩
theorem operS_5 {g g' j : Nat} {S S' : LstR} (hf : 0 < f) (hT : Ok4 pl m s e True Eq (typF g) (typF g') b b') (kG : Goes K) (kG' : Goes K') (kF : Faults K b) (hK : Ok4 pl m s e True (OD (EqL pl f)) K K' b b') (hG : Goes L) (hG' : Goes L') (hF : Faults L b) (h : Ok4 pl m s e True (OD (EqL pl f)) L L' b b') (hS : Ok5 pl m s e True (OL (EqS pl f j)) S S' b b') (k : Int) {t t' : Tk} (ht : P → EqT pl t t') : Ok5 pl m s e P (OD (EqF pl f j)) (operS (typF g) K L S k t) (operS (typF g') K' L' S' k t') b b' := by
 rw [operS_eq, operS_eq]
 exact Ok4.tb5 fun u u' => (cond_4 (V := Eq) (fun hp => by rw [hp.2.1]) nmR_4 (ret_4 fun _ => rfl)).bnd5 fun n n' => (varsS_4 hf hT kG kG' kF hK).bnd5 fun v v' => bodyS_5 hG hG' hF h hS k fun hp => ⟨hp.1.2, rfl, hp.2.getD, ht hp.1.1.1⟩
theorem fragS_4 {j : Nat} {S S' : LstR} (hG : Goes L) (hG' : Goes L') (hF : Faults L b) (h : Ok4 pl m s e True (OD (EqL pl f)) L L' b b') (hS : Ok4 pl m s e True (OL (EqS pl f j)) S S' b b') {t t' : Tk} (ht : P → EqT pl t t') : Ok4 pl m s e P (OD (EqF pl f j)) (fragS L S t) (fragS L' S' t') b b' := by
 rw [fragS_eq, fragS_eq]
 exact (butR_4 _).bnd fun n n' => (wwR_4 _).bnd fun _ _ => nmR_4.bnd fun on on' => bodyS_4 hG hG' hF h hS 4 fun hp => ⟨hp.1.1.2, hp.2, EqLs.nil, ht hp.1.1.1⟩
theorem fragS_5 {j : Nat} {S S' : LstR} (hG : Goes L) (hG' : Goes L') (hF : Faults L b) (h : Ok4 pl m s e True (OD (EqL pl f)) L L' b b') (hS : Ok5 pl m s e True (OL (EqS pl f j)) S S' b b') {t t' : Tk} (ht : P → EqT pl t t') : Ok5 pl m s e P (OD (EqF pl f j)) (fragS L S t) (fragS L' S' t') b b' := by
 rw [fragS_eq, fragS_eq]
 exact (butR_4 _).bnd5 fun n n' => (wwR_4 _).bnd5 fun _ _ => nmR_4.bnd5 fun on on' => bodyS_5 hG hG' hF h hS 4 fun hp => ⟨hp.1.1.2, hp.2, EqLs.nil, ht hp.1.1.1⟩
theorem kind_4 {A X : Type} {V : Option A → Option X → Prop} {x x' : ByteArray} {E : Int → Cu → Option A × Cu} {F : Cu → Option A × Cu} {E' : Int → Cu → Option X × Cu} {F' : Cu → Option X × Cu} (hx : P → x = x') (h : ∀ k, Ok4 pl m s e P V (E k) (E' k) b b') (k : Ok4 pl m s e P V F F' b b') : Ok4 pl m s e P V (match kindS x with | some k => E k | none => F) (match kindS x' with | some k => E' k | none => F') b b' := by
 refine ⟨by cases kindS x; exact k.o; exact (h _).o, by cases kindS x'; exact k.st'; exact (h _).st', fun hp => ?_⟩
 obtain rfl := hx hp
 cases kindS x
 ·exact k.near hp
 ·exact (h _).near hp
theorem kind_5 {A X : Type} {V : Option A → Option X → Prop} {x x' : ByteArray} {E : Int → Cu → Option A × Cu} {F : Cu → Option A × Cu} {E' : Int → Cu → Option X × Cu} {F' : Cu → Option X × Cu} (hx : P → x = x') (h : ∀ k, Ok5 pl m s e P V (E k) (E' k) b b') (k : Ok5 pl m s e P V F F' b b') : Ok5 pl m s e P V (match kindS x with | some k => E k | none => F) (match kindS x' with | some k => E' k | none => F') b b' := by
 refine ⟨by cases kindS x; exact k.o; exact (h _).o, by cases kindS x'; exact k.st'; exact (h _).st', by cases kindS x; exact k.go; exact (h _).go, fun hp => ?_⟩
 obtain rfl := hx hp
 cases kindS x
 ·exact k.near hp
 ·exact (h _).near hp
theorem defS_4 {g g' j : Nat} {S S' : LstR} (hf : 0 < f) (hT : Ok4 pl m s e True Eq (typF g) (typF g') b b') (kG : Goes K) (kG' : Goes K') (kF : Faults K b) (hK : Ok4 pl m s e True (OD (EqL pl f)) K K' b b') (hG : Goes L) (hG' : Goes L') (hF : Faults L b) (h : Ok4 pl m s e True (OD (EqL pl f)) L L' b b') (hS : Ok4 pl m s e True (OL (EqS pl f j)) S S' b b') : Ok4 pl m s e P (OD (EqF pl f j)) (defS (typF g) K L S) (defS (typF g') K' L' S') b b' := by
 rw [defS_eq, defS_eq]
 refine Ok4.tb fun t t' => (isPR_4 _).bnd fun q q' => cond_4 (fun hp => hp.2) (hS.wk.bnd fun r r' => ret_4 fun hp => hp.2.map fun x y hxy => ?_) (wordsR_4.bnd fun u u' => cond_4 (fun hp => by rw [hp.2]) (kind_4 (fun hp => by rw [hp.2]) (fun k => operS_4 hf hT kG kG' kF hK hG hG' hF h hS k fun hp => hp.1.1.2) (fragS_4 hG hG' hF h hS fun hp => hp.1.1.2)) (ret_4 fun _ => trivial))
 exact ⟨1, em, em, true, [], [], [], [], x, y, _, _, _, _, rfl, rfl, hp.1.1.2.2.2.2, EqLs.nil, EqLs.nil, hxy⟩
theorem defS_5 {g g' j : Nat} {S S' : LstR} (hf : 0 < f) (hT : Ok4 pl m s e True Eq (typF g) (typF g') b b') (kG : Goes K) (kG' : Goes K') (kF : Faults K b) (hK : Ok4 pl m s e True (OD (EqL pl f)) K K' b b') (hG : Goes L) (hG' : Goes L') (hF : Faults L b) (h : Ok4 pl m s e True (OD (EqL pl f)) L L' b b') (hS : Ok5 pl m s e True (OL (EqS pl f j)) S S' b b') : Ok5 pl m s e P (OD (EqF pl f j)) (defS (typF g) K L S) (defS (typF g') K' L' S') b b' := by
 rw [defS_eq, defS_eq]
 refine Ok4.tb5 fun t t' => (isPR_4 _).bnd5 fun q q' => cond_5 (fun hp => hp.2) (hS.wk.map (fun r hr => isSome_map r hr) fun r r' hp hr => hr.map fun x y hxy => ?_) (wordsR_4.bnd5 fun u u' => cond_5 (fun hp => by rw [hp.2]) (kind_5 (fun hp => by rw [hp.2]) (fun k => operS_5 hf hT kG kG' kF hK hG hG' hF h hS k fun hp => hp.1.1.2) (fragS_5 hG hG' hF h hS fun hp => hp.1.1.2)) (no_5 (ret_3 _) (ret_st _) fun c => rfl))
 exact ⟨1, em, em, true, [], [], [], [], x, y, _, _, _, _, rfl, rfl, hp.1.2.2.2.2, EqLs.nil, EqLs.nil, hxy⟩
theorem defN_4 {N : Nat} (hN : 0 < N) (N' : Nat) : Ok4 pl m s e P (OD (EqF pl N N)) (defN N) (defN N') N N' :=
 defS_4 hN (typF_4 N N') (litF_goes true N) (litF_goes true N') (litF_faults true N) (litF_4 true N N') (litF_goes false N) (litF_goes false N') (litF_faults false N) (litF_4 false N N') (selsF_4 (litF_goes false N) (litF_goes false N') (litF_faults false N) (litF_4 false N N') N N' (Nat.le_refl _) (Nat.le_refl _))
theorem defN_5 {N : Nat} (hN : 0 < N) (N' : Nat) : Ok5 pl m s e P (OD (EqF pl N N)) (defN N) (defN N') N N' :=
 defS_5 hN (typF_4 N N') (litF_goes true N) (litF_goes true N') (litF_faults true N) (litF_4 true N N') (litF_goes false N) (litF_goes false N') (litF_faults false N) (litF_4 false N N') (selsF_5 (litF_goes false N) (litF_goes false N') (litF_faults false N) (litF_4 false N N') N N' (Nat.le_refl _) (Nat.le_refl _))
theorem defsF_4 {R : Dt → Dt → Prop} {D D' : LitR} (hG : Goes D) (hG' : Goes D') (h : Ok4 pl m s 0 True (OD R) D D' b b') (q : List Dt) : ∀ (g g' : Nat) (l l' : List Dt) (c c' : Cu), c.Ok → c'.Ok → Sf pl m s 0 c c' → c.ts.length ≤ b + c.ix → c'.ts.length ≤ b' + c'.ix → c.ts.length ≤ g + c.ix → c'.ts.length ≤ g' + c'.ix → EqLs R l l' → (q = [] ∨ l ≠ [] ∨ c.tok.k ≠ 0) → (defsF D g l c).2.ix ≤ m → ((∃ r r', (defsF D g l c).1 = some r ∧ (defsF D' g' (q ++ l') c').1 = some (q ++ r') ∧ EqLs R r r') ∨ ((defsF D g l c).1 = none ∧ (defsF D' g' (q ++ l') c').1 = none)) ∧ Sf pl m s 0 (defsF D g l c).2 (defsF D' g' (q ++ l') c').2
 | 0, g', l, l', c, c', hc, hc', hs, hb, hb', hg, hg', hl, hq, hm => by have := hc.lt; omega
 | g + 1, 0, l, l', c, c', hc, hc', hs, hb, hb', hg, hg', hl, hq, hm => by have := hc'.lt; omega
 | g + 1, g' + 1, l, l', c, c', hc, hc', hs, hb, hb', hg, hg', hl, hq, hm => by
  have hi : c.ix ≤ m := Nat.le_trans (defsF_stp hG (g + 1) l c hc).ix hm
  simp only [defsF] at hm ⊢
  have ht := hs.tok hi
  have hcond : (l.length = 0 ∨ c.tok.k ≠ 0) ↔ ((q ++ l').length = 0 ∨ c'.tok.k ≠ 0) := by
   rw [ht.1, List.length_append, ← hl.1]
   constructor
   ·rintro (x | x)
    ·rcases hq with hq | hq | hq
     ·left; rw [hq, x]; rfl
     ·exact absurd (List.length_eq_zero_iff.1 x) hq
     ·exact .inr hq
    ·exact .inr x
   ·rintro (x | x)
    ·left; omega
    ·exact .inr x
  by_cases hx : l.length = 0 ∨ c.tok.k ≠ 0
  ·rw [if_pos hx] at hm
   rw [if_pos hx, if_pos (hcond.1 hx)]
   have hgo := hG c hc
   have hgo' := hG' c' hc'
   have hm1 : (D c).2.ix ≤ m := by
    cases he : (D c).1 with
    | none => rw [he] at hm; exact hm
    | some d => rw [he] at hm; exact Nat.le_trans (defsF_stp hG g _ _ hgo.1.ok).ix hm
   obtain ⟨e1, e2⟩ := h.near trivial c c' hc hc' hs hb hb' (.inl rfl) hm1
   cases he : (D c).1 with
   | none =>
    rw [he] at e1
    rw [e1.none]
    exact ⟨.inr ⟨rfl, rfl⟩, e2⟩
   | some d =>
    rw [he] at e1 hm
    obtain ⟨d', he', hR⟩ := e1.some
    rw [he']
    have i1 := hgo.2 (by rw [he]; rfl)
    have i2 := hgo'.2 (by rw [he']; rfl)
    have ih := defsF_4 hG hG' h q g g' (l ++ [d]) (l' ++ [d']) _ _ hgo.1.ok hgo'.1.ok e2 (by rw [hgo.1.ts]; omega) (by rw [hgo'.1.ts]; omega) (by rw [hgo.1.ts]; omega) (by rw [hgo'.1.ts]; omega) (hl.snoc hR) (.inr (.inl (by simp))) hm
    dsimp only
    rw [List.append_assoc]
    exact ih
  ·rw [if_neg hx, if_neg (fun y => hx (hcond.2 y))]
   refine ⟨?_, hs.fin hi⟩
   dsimp only
   rw [hs.finB hi]
   cases c.finB
   ·exact .inr ⟨rfl, rfl⟩
   ·exact .inl ⟨l, l', rfl, rfl, hl⟩
end
open mem (posT Byt)
theorem defsF_live3 (D : LitR) : ∀ (g : Nat) (l : List Dt) (c : Cu), (defsF D g l c).1.isSome = true → (defsF D g l c).2.kd = 0 ∧ (defsF D g l c).2.tok.k = 0
 | 0, l, c, h => by cases h
 | g + 1, l, c, h => by
  simp only [defsF] at h ⊢
  split at h
  ·rename_i hc
   rw [if_pos hc]
   cases hq : (D c).1 with
   | none => rw [hq] at h; cases h
   | some d => rw [hq] at h; exact defsF_live3 D g _ _ h
  ·rename_i hc
   rw [if_neg hc]
   show c.fin.kd = 0 ∧ c.fin.tok.k = 0
   cases hf : c.finB with
   | false => rw [hf] at h; cases h
   | true => unfold Cu.fin; rw [if_pos hf]; exact of_decide_eq_true hf
theorem tks_last3 (l : List Int) (cl : Bool) : ∀ (m i : Nat) (t : Tk), i ≤ l.length → (tksG l cl i)[m]? = some t → t.k = 0 ∨ t.k = 1 → (tksG l cl i).length = m + 1
 | 0, i, t, hi, h, hk => by
  by_cases he : (tkG l cl i).k = 0 ∨ (tkG l cl i).k = 1
  ·rw [lx.tksG_end he]; rfl
  ·rw [lx.tksG_go hi he] at h; simp at h; subst h; exact absurd hk he
 | m + 1, i, t, hi, h, hk => by
  have hle := lx.tkG_le l cl i hi
  by_cases he : (tkG l cl i).k = 0 ∨ (tkG l cl i).k = 1
  ·rw [lx.tksG_end he] at h; simp at h
  ·rw [lx.tksG_go hi he] at h ⊢
   have := tks_last3 l cl m _ t hle.2.1 (by simpa using h) hk
   simp; omega
end Go.Proofs.YtcebeajjpcbgcaaGreat.cu
namespace Go.Proofs.YtcebeajjpcbgcaaGreat.lx
open mem (pfx digB digs digAt isAt bWhole bPart bPoint bMark pfxFirst pfxR posT enB prB digsF)
open cu (Tk)
structure Shf (l l' : List Int) (n : Nat) : Prop where
 len : l'.length = n + l.length
 dr : l'.drop n = l
theorem Shf.of (p l : List Int) : Shf l (p ++ l) p.length := ⟨by simp, by simp⟩
section
variable {l l' : List Int} {n : Nat} (H : Shf l l' n)
include H
theorem Shf.at (i : Nat) : cAt l' (n + i) = cAt l i := by
 unfold cAt
 have h1 := H.len
 rcases Nat.lt_or_ge i l.length with g | g
 ·rw [if_pos g, if_pos (by omega), List.getD_eq_getElem?_getD, List.getD_eq_getElem?_getD, ← H.dr, List.getElem?_drop]
 ·rw [if_neg (by omega), if_neg (by omega)]
theorem Shf.at1 (i : Nat) : cAt l' (n + i + 1) = cAt l (i + 1) := H.at (i + 1)
theorem Shf.at2 (i : Nat) : cAt l' (n + i + 2) = cAt l (i + 2) := H.at (i + 2)
theorem ignF_shf : ∀ (f : Nat) (b : Bool) (i : Nat), ignF l' f b (n + i) = n + ignF l f b i
 | 0, b, i => rfl
 | f + 1, false, i => by
  simp only [ignF, H.at]
  split
  ·exact ignF_shf f false (i + 1)
  ·split
   ·exact ignF_shf f true (i + 1)
   ·rfl
 | f + 1, true, i => by
  simp only [ignF, H.at]
  split
  ·exact ignF_shf f false (i + 1)
  ·split
   ·exact ignF_shf f true (i + 1)
   ·rfl
theorem ign_shf (b : Bool) (i : Nat) : ign l' b (n + i) = n + ign l b i := by
 unfold ign
 rw [H.len, show n + l.length + 1 - (n + i) = l.length + 1 - i by omega]
 exact ignF_shf H _ b i
theorem namF_shf : ∀ (f : Nat) (i : Nat), namF l' f (n + i) = n + namF l f i
 | 0, i => rfl
 | f + 1, i => by
  simp only [namF, H.at]
  split
  ·exact namF_shf f (i + 1)
  ·rfl
theorem nam_shf (i : Nat) : nam l' (n + i) = n + nam l i := by
 unfold nam
 rw [H.len, show n + l.length + 1 - (n + i) = l.length + 1 - i by omega]
 exact namF_shf H _ i
theorem digAt_shf (i : Nat) : digAt l' (n + i) = digAt l i := by rw [digAt_c, digAt_c, H.at]
theorem isAt_shf (i : Nat) (c : Int) (hc : c ≠ -1) : isAt l' (n + i) c = isAt l i c := by rw [isAt_c _ _ _ hc, isAt_c _ _ _ hc, H.at]
theorem digsF_shf : ∀ (f : Nat) (i : Nat), digsF l' f (n + i) = n + digsF l f i
 | 0, i => rfl
 | f + 1, i => by
  simp only [digsF, digAt_shf H]
  split
  ·exact digsF_shf f (i + 1)
  ·rfl
theorem digs_shf (i : Nat) : digs l' (n + i) = n + digs l i := by
 unfold digs
 rw [H.len, show n + l.length - (n + i) = l.length - i by omega]
 exact digsF_shf H _ i
theorem bWhole_shf (i : Nat) : bWhole l' (n + i) = n + bWhole l i := by
 unfold bWhole
 rw [isAt_shf H i 48 (by decide), digs_shf H]
 split <;> rfl
theorem bPoint_shf (i : Nat) : bPoint l' (n + i) = n + bPoint l i := by
 unfold bPoint
 rw [isAt_shf H i 46 (by decide)]
 split <;> rfl
theorem pfxFirst_shf (i : Nat) : pfxFirst l' (n + i) = n + pfxFirst l i := by
 unfold pfxFirst
 rw [isAt_shf H i 45 (by decide)]
 split <;> rfl
theorem bMark_shf (i : Nat) : bMark l' (n + i) = n + bMark l i := by
 unfold bMark
 rw [isAt_shf H i 101 (by decide), isAt_shf H i 69 (by decide), show n + i + 1 = n + (i + 1) from rfl, isAt_shf H (i + 1) 43 (by decide), isAt_shf H (i + 1) 45 (by decide)]
 split
 ·rfl
 ·split <;> rfl
theorem bPart_shf (i q : Nat) : bPart l' (n + i) (n + q) = (n + (bPart l i q).1, n + (bPart l i q).2) := by
 unfold bPart
 rw [digs_shf H]
 by_cases h1 : q = i
 ·rw [if_pos h1, if_pos (by omega)]
 ·rw [if_neg h1, if_neg (by omega)]
  by_cases h2 : digs l q = q
  ·rw [if_pos h2, if_pos (by omega)]
  ·rw [if_neg h2, if_neg (by omega)]
theorem pfxR_shf (i : Nat) : pfxR l' (n + i) = (n + (pfxR l i).1, n + (pfxR l i).2) := by
 unfold pfxR
 rw [bPoint_shf H, bPart_shf H]
 dsimp only
 rw [bMark_shf H, bPart_shf H]
 by_cases h : (bPart l i (bPoint l i)).1 = (bPart l i (bPoint l i)).2
 ·rw [if_pos h, if_pos (by omega)]
 ·rw [if_neg h, if_neg (by omega)]
theorem pfx_shf (i : Nat) : pfx l' (n + i) = (n + (pfx l i).1, n + (pfx l i).2.1, (pfx l i).2.2) := by
 unfold pfx
 rw [pfxFirst_shf H, bWhole_shf H, pfxR_shf H]
 dsimp only
 by_cases h : bWhole l (pfxFirst l i) = pfxFirst l i
 ·rw [if_pos h, if_pos (by omega)]
 ·rw [if_neg h, if_neg (by omega)]
  dsimp only
  congr 2
  by_cases g : (pfxR l (bWhole l (pfxFirst l i))).1 > bWhole l (pfxFirst l i)
  ·rw [if_pos g, if_pos (by omega)]
  ·rw [if_neg g, if_neg (by omega)]
theorem num_shf (i : Nat) : num l' (n + i) = ((num l i).1, n + (num l i).2) := by
 unfold num
 rw [pfx_shf H]
 dsimp only
 rw [H.at]
 split
 ·rfl
 ·split
  ·rfl
  ·split <;> rfl
theorem tq_shf (i : Nat) : tq l' (n + i) = tq l i := by
 unfold tq
 rw [H.at, H.at1, H.at2]
theorem endB_shf : ∀ (k i : Nat), endB l' k (n + i) = (endB l k i).map (n + ·)
 | 0, i => rfl
 | k + 1, i => by
  simp only [endB]
  rw [tq_shf H, H.at, show n + i + 1 = n + (i + 1) from rfl, tq_shf H, show n + i + 4 = n + (i + 4) from rfl, endB_shf k (i + 4), endB_shf k (i + 1)]
  split
  ·rfl
  ·split
   ·rfl
   ·split <;> rfl
theorem endQ_shf : ∀ (k i : Nat), endQ l' k (n + i) = (endQ l k i).map (n + ·)
 | 0, i => rfl
 | k + 1, i => by
  simp only [endQ]
  rw [H.at, show n + i + 1 = n + (i + 1) from rfl, H.at, show n + i + 2 = n + (i + 2) from rfl, endQ_shf k (i + 2), endQ_shf k (i + 1)]
  split
  ·rfl
  ·split
   ·split <;> rfl
   ·split <;> rfl
theorem insZ_shf (p i : Nat) : insZ l' (n + p) (n + i) = insZ l p i := by
 unfold insZ
 rw [← List.drop_drop, H.dr, show n + i - (n + p) = i - p by omega]
omit H in
theorem endB_fuel (l : List Int) : ∀ (k k' i : Nat), l.length + 1 ≤ k + i → l.length + 1 ≤ k' + i → endB l k i = endB l k' i
 | 0, 0, i, h, h' => rfl
 | 0, k' + 1, i, h, h' => by
  have e : cAt l i = -1 := cAt_end (by omega)
  have t : tq l i = false := by unfold tq; rw [e]; rfl
  simp only [endB, e, t]
  rfl
 | k + 1, 0, i, h, h' => by
  have e : cAt l i = -1 := cAt_end (by omega)
  have t : tq l i = false := by unfold tq; rw [e]; rfl
  simp only [endB, e, t]
  rfl
 | k + 1, k' + 1, i, h, h' => by
  simp only [endB]
  rw [endB_fuel l k k' (i + 4) (by omega) (by omega), endB_fuel l k k' (i + 1) (by omega) (by omega)]
omit H in
theorem endQ_fuel (l : List Int) : ∀ (k k' i : Nat), l.length + 1 ≤ k + i → l.length + 1 ≤ k' + i → endQ l k i = endQ l k' i
 | 0, 0, i, h, h' => rfl
 | 0, k' + 1, i, h, h' => by
  have e : cAt l i = -1 := cAt_end (by omega)
  simp only [endQ, e]
  rfl
 | k + 1, 0, i, h, h' => by
  have e : cAt l i = -1 := cAt_end (by omega)
  simp only [endQ, e]
  rfl
 | k + 1, k' + 1, i, h, h' => by
  simp only [endQ]
  rw [endQ_fuel l k k' (i + 2) (by omega) (by omega), endQ_fuel l k k' (i + 1) (by omega) (by omega)]
theorem blc_shf (bS : List Int → ByteArray) (i : Nat) : blc bS l' (n + i) = ((blc bS l i).1, n + (blc bS l i).2.1, (blc bS l i).2.2) := by
 unfold blc
 rw [H.len, show n + i + 3 = n + (i + 3) from rfl, endB_shf H, endB_fuel l (n + l.length + 2) (l.length + 2) (i + 3) (by omega) (by omega)]
 cases endB l (l.length + 2) (i + 3) with
 | none => rfl
 | some j =>
  show (7, n + j + 3, bS (insZ l' (n + i + 3) (n + j))) = _
  rw [show n + i + 3 = n + (i + 3) from rfl, insZ_shf H]
  rfl
theorem qtd_shf (i : Nat) : qtd l' (n + i) = ((qtd l i).1, n + (qtd l i).2.1, (qtd l i).2.2) := by
 unfold qtd
 rw [H.len, show n + i + 1 = n + (i + 1) from rfl, endQ_shf H, endQ_fuel l (n + l.length + 2) (l.length + 2) (i + 1) (by omega) (by omega)]
 cases endQ l (l.length + 2) (i + 1) with
 | none => rfl
 | some j =>
  show qtdR l' (n + i) (some (n + j)) = _
  unfold qtdR
  dsimp only
  rw [show n + i + 1 = n + (i + 1) from rfl, insZ_shf H]
  cases quo (insZ l (i + 1) j) <;> rfl
theorem rdG_shf (cl : Bool) (i : Nat) : rdG l' cl (n + i) = ((rdG l cl i).1, n + (rdG l cl i).2.1, (rdG l cl i).2.2) := by
 unfold rdG
 rw [H.at, H.at1, H.at2, show n + i + 1 = n + (i + 1) from rfl, nam_shf H, num_shf H, tq_shf H, blc_shf H, qtd_shf H]
 have h1 : (n + i = l'.length ∧ cl = true) ↔ (i = l.length ∧ cl = true) := by rw [H.len]; constructor <;> (rintro ⟨a, b⟩; exact ⟨by omega, b⟩)
 by_cases h0 : i = l.length ∧ cl = true
 ·rw [if_pos h0, if_pos (h1.2 h0)]
 ·rw [if_neg h0, if_neg (fun x => h0 (h1.1 x))]
  split
  ·split <;> rfl
  ·split
   ·rfl
   ·split
    ·rfl
    ·split
     ·rfl
     ·split
      ·rfl
      ·split <;> rfl
def shT (l' : List Int) (n : Nat) (t : Tk) : Tk := ⟨t.k, (posT l' (n + t.fr)).1, (posT l' (n + t.fr)).2, n + t.fr, n + t.to, t.tx, t.va⟩
theorem tkG_shf (cl : Bool) (i : Nat) : tkG l' cl (n + i) = shT l' n (tkG l cl i) := by
 unfold tkG shT
 rw [ign_shf H, rdG_shf H]
 dsimp only
 congr 2
 obtain ⟨a, ha⟩ : ∃ a, a = (rdG l cl (ign l false i)).2.1 := ⟨_, rfl⟩
 obtain ⟨b, hb⟩ : ∃ b, b = ign l false i := ⟨_, rfl⟩
 rw [← ha, ← hb, List.drop_take, List.drop_take, ← List.drop_drop, H.dr, show n + a - (n + b) = a - b by omega]
theorem tksGF_shf (cl : Bool) : ∀ (f i : Nat), tksGF l' cl f (n + i) = (tksGF l cl f i).map (shT l' n)
 | 0, i => rfl
 | f + 1, i => by
  simp only [tksGF]
  rw [tkG_shf H]
  have e : (shT l' n (tkG l cl i)).k = (tkG l cl i).k := rfl
  have e2 : (shT l' n (tkG l cl i)).to = n + (tkG l cl i).to := rfl
  rw [e, e2]
  split
  ·rfl
  ·rw [tksGF_shf cl f _]
   rfl
theorem tksG_shf (cl : Bool) {i : Nat} (hi : i ≤ l.length) : tksG l' cl (n + i) = (tksG l cl i).map (shT l' n) := by
 unfold tksG
 rw [tksGF_more l' cl (l'.length + 1) (l.length + 1) (n + i) (by omega) (by rw [H.len]; omega) (by rw [H.len]; omega)]
 exact tksGF_shf H cl _ i
end
theorem rdG_zero {l : List Int} {cl : Bool} {i : Nat} (hi : i ≤ l.length) (h : (rdG l cl i).1 = 0) : i = l.length ∧ cl = true := by
 by_cases h0 : i = l.length ∧ cl = true
 ·exact h0
 ·exfalso
  unfold rdG at h
  rw [if_neg h0] at h
  split at h
  ·split at h <;> cases h
  ·split at h
   ·cases h
   ·split at h
    ·cases h
    ·split at h
     ·exact (num_le l i hi).2.2.2 h
     ·split at h
      ·exact (blc_le sv.bS l i hi).2.2.2 h
      ·split at h
       ·exact (qtd_le l i hi).2.2.2 h
       ·cases h
theorem ign_over {l l' : List Int} (H : Loc l l' l.length) : ∀ (k : Nat) (b : Bool) (i : Nat), l.length ≤ i + k → i ≤ l.length → ign l b i = l.length → ign l' b i = ign l' false (l.length + 1)
 | 0, b, i, hk, hi, h => by
  obtain rfl : i = l.length := by omega
  cases b
  ·rw [ign_f l' l.length, H.nl]; rfl
  ·rw [ign_t l' l.length, H.nl]; rfl
 | k + 1, b, i, hk, hi, h => by
  rcases Nat.lt_or_ge i l.length with g | g
  ·have hc := H.at_ g
   cases b with
   | false =>
    rw [ign_f l i] at h
    rw [ign_f l' i, hc]
    split
    ·rename_i h3; rw [if_pos h3] at h; exact ign_over H k false (i + 1) (by omega) (by omega) h
    ·rename_i h3; rw [if_neg h3] at h
     split
     ·rename_i h4; rw [if_pos h4] at h; exact ign_over H k true (i + 1) (by omega) (by omega) h
     ·rename_i h4; rw [if_neg h4] at h; omega
   | true =>
    rw [ign_t l i] at h
    rw [ign_t l' i, hc]
    split
    ·rename_i h3; rw [if_pos h3] at h; exact ign_over H k false (i + 1) (by omega) (by omega) h
    ·rename_i h3; rw [if_neg h3] at h
     split
     ·rename_i h4; rw [if_pos h4] at h; exact ign_over H k true (i + 1) (by omega) (by omega) h
     ·rename_i h4; rw [if_neg h4] at h; omega
  ·exact ign_over H 0 b i (by omega) hi h
theorem tksG_same {l : List Int} {cl : Bool} {i j : Nat} (hi : i ≤ l.length) (hj : j ≤ l.length) (h : ign l false i = ign l false j) : tksG l cl i = tksG l cl j := by
 have e : tkG l cl i = tkG l cl j := by unfold tkG; rw [h]
 by_cases he : (tkG l cl i).k = 0 ∨ (tkG l cl i).k = 1
 ·rw [tksG_end he, tksG_end (by rw [← e]; exact he), e]
 ·rw [tksG_go hi he, tksG_go hj (by rw [← e]; exact he), e]
theorem tks_join {l l' : List Int} (H : Loc l l' l.length) {cl cl' : Bool} : ∀ (m i : Nat) (t : Tk), i ≤ l.length → (tksG l cl i)[m]? = some t → t.k = 0 → tksG l' cl' i = (tksG l cl i).take m ++ tksG l' cl' (l.length + 1)
 | m, i, t, hi, hm, h0 => by
  have hlt := H.lt
  have hle := tkG_le l cl i hi
  by_cases he : (tkG l cl i).k = 0 ∨ (tkG l cl i).k = 1
  ·rw [tksG_end he] at hm
   cases m with
   | succ m => simp at hm
   | zero =>
    simp at hm
    subst hm
    have hz := rdG_zero ((ign_le l false i).2 hi) h0
    rw [List.take_zero, List.nil_append]
    exact tksG_same (by omega) (by omega) (ign_over H l.length false i (by omega) hi hz.1)
  ·have e0 : (tkG l cl i).k ≠ 0 := fun e => he (.inl e)
   have e1 : (tkG l cl i).k ≠ 1 := fun e => he (.inr e)
   have hgo := tksG_go hi he
   have hk := tkG_loc H (cl' := cl') hi e0 e1 hle.2.1
   cases m with
   | zero => rw [hgo] at hm; simp at hm; subst hm; exact absurd h0 e0
   | succ m =>
    rw [hgo] at hm
    simp at hm
    have ih := tks_join H (cl := cl) (cl' := cl') m (tkG l cl i).to t hle.2.1 hm h0
    rw [hgo, tksG_go (l := l') (cl := cl') (by omega) (by rw [hk]; exact he), hk, ih]
    rfl
end Go.Proofs.YtcebeajjpcbgcaaGreat.lx
namespace Go.Proofs.YtcebeajjpcbgcaaGreat.cu
open dt (Dt Kp RowAt Ow Grow)
open mem (decF decZ putB scB Byt posT enB)
open lx (toks chs cln tksG tkG shT)
theorem EqLs.symm {R R' : Dt → Dt → Prop} {l l' : List Dt} (h : EqLs R l l') (k : ∀ x y, R x y → R' y x) : EqLs R' l' l := ⟨h.1.symm, fun i x y hx hy => k y x (h.2 i y x hy hx)⟩
theorem EqL.symm {pl : Bool} : ∀ {f : Nat} {d e : Dt}, EqL pl f d e → EqL pl f e d
 | 0, d, e, h => h.elim
 | f + 1, d, e, ⟨k, tx, bl, its, its', fls, fls', ln, co, ln', co', h1, h2, h3, h4, h5, h6, h7⟩ =>
  ⟨k, tx, bl, its', its, fls', fls, ln', co', ln, co, h2, h1, fun p => ⟨(h3 p).1.symm, (h3 p).2.symm⟩, h4.symm, h5.symm, fun i x y hx hy => (h6 i y x hy hx).symm, fun i x y hx hy => by
   obtain ⟨nm, v, v', a, b, a', b', e1, e2, e3, e4⟩ := h7 i y x hy hx
   exact ⟨nm, v', v, a', b', a, b, e2, e1, fun p => ⟨(e3 p).1.symm, (e3 p).2.symm⟩, e4.symm⟩⟩
theorem EqA.symm {pl : Bool} {f : Nat} {x y : Dt} (h : EqA pl f x y) : EqA pl f y x := by
 obtain ⟨nm, v, v', a, b, a', b', e1, e2, e3, e4⟩ := h
 exact ⟨nm, v', v, a', b', a, b, e2, e1, fun p => ⟨(e3 p).1.symm, (e3 p).2.symm⟩, e4.symm⟩
theorem EqR.symm {pl : Bool} {f : Nat} {x y : Dt} (h : EqR pl f x y) : EqR pl f y x := by
 obtain ⟨nm, v, v', a, b, a', b', e1, e2, e3, e4⟩ := h
 exact ⟨nm, v', v, a', b', a, b, e2, e1, fun p => ⟨(e3 p).1.symm, (e3 p).2.symm⟩, EqLs.symm e4 fun _ _ => EqA.symm⟩
theorem EqS.symm {pl : Bool} {f : Nat} : ∀ {g : Nat} {x y : Dt}, EqS pl f g x y → EqS pl f g y x
 | 0, x, y, h => h.elim
 | g + 1, x, y, ⟨k, al, nm, on, as1, as2, ds, ds', ss, ss', a, b, a', b', e1, e2, e3, e4, e5, e6⟩ =>
  ⟨k, al, nm, on, as2, as1, ds', ds, ss', ss, a', b', a, b, e2, e1, fun p => ⟨(e3 p).1.symm, (e3 p).2.symm⟩, EqLs.symm e4 fun _ _ => EqA.symm, EqLs.symm e5 fun _ _ => EqR.symm, EqLs.symm e6 fun _ _ h => EqS.symm h⟩
theorem EqV.symm {pl : Bool} {f : Nat} {x y : Dt} (h : EqV pl f x y) : EqV pl f y x := by
 obtain ⟨nm, tn, tw, hd, v, v', ds, ds', a, b, a', b', e1, e2, e3, e4, e5⟩ := h
 exact ⟨nm, tn, tw, hd, v', v, ds', ds, a', b', a, b, e2, e1, fun p => ⟨(e3 p).1.symm, (e3 p).2.symm⟩, e4.symm, EqLs.symm e5 fun _ _ => EqR.symm⟩
theorem EqF.symm {pl : Bool} {f g : Nat} {x y : Dt} (h : EqF pl f g x y) : EqF pl f g y x := by
 obtain ⟨k, nm, on, sh, vs, vs', ds, ds', ss, ss', a, b, a', b', e1, e2, e3, e4, e5, e6⟩ := h
 exact ⟨k, nm, on, sh, vs', vs, ds', ds, ss', ss, a', b', a, b, e2, e1, fun p => ⟨(e3 p).1.symm, (e3 p).2.symm⟩, EqLs.symm e4 fun _ _ => EqV.symm, EqLs.symm e5 fun _ _ => EqR.symm, EqLs.symm e6 fun _ _ => EqS.symm⟩
theorem dec_app {zs : List Int} (h : zs.all scB = true) (r : List Int) : decZ (zs.flatMap putB ++ r) = (zs ++ (decZ r).1, (zs.flatMap putB).length + (decZ r).2) := by
 have hlen : zs.length ≤ (zs.flatMap putB).length := mem.flat_ge _
 unfold decZ
 rw [decF_fuel _ (zs.length + (zs.flatMap putB ++ r).length) _ (Nat.le_refl _) (by omega), decF_app _ _ _ h]
 rw [decF_fuel _ r.length r (by rw [List.length_append]; omega) (Nat.le_refl _)]
theorem chs_app {zs : List Int} (h : zs.all scB = true) (r : List Int) : chs (zs.flatMap putB ++ r) = zs ++ chs r := by unfold chs; rw [dec_app h]
theorem cln_app {zs : List Int} (h : zs.all scB = true) (r : List Int) : cln (zs.flatMap putB ++ r) = cln r := by
 unfold cln
 rw [dec_app h, List.length_append]
 exact decide_eq_decide.2 (by dsimp only; omega)
theorem clean_flat {z : List Int} (hz : Byt z) (hc : cln z = true) : z = (chs z).flatMap putB ∧ (chs z).all scB = true := by
 have h := mem.decF_flat z.length z hz
 have h2 : (decZ z).2 = z.length := of_decide_eq_true hc
 unfold decZ at h2
 refine ⟨?_, h.2.2.1⟩
 have := h.1
 rw [h2, List.take_length] at this
 exact this.symm
theorem tks_zero (l : List Int) (cl : Bool) : ∀ (m i : Nat) (t : Tk), i ≤ l.length → (tksG l cl i)[m]? = some t → t.k = 0 → cl = true
 | 0, i, t, hi, h, hk => by
  have h0 : (tksG l cl i)[0]? = some (tkG l cl i) := by
   by_cases he : (tkG l cl i).k = 0 ∨ (tkG l cl i).k = 1
   ·rw [lx.tksG_end he]; rfl
   ·rw [lx.tksG_go hi he]; rfl
  rw [h0] at h
  obtain rfl := Option.some.inj h
  exact (lx.rdG_zero ((lx.ign_le l false i).2 hi) hk).2
 | m + 1, i, t, hi, h, hk => by
  have hle := lx.tkG_le l cl i hi
  by_cases he : (tkG l cl i).k = 0 ∨ (tkG l cl i).k = 1
  ·rw [lx.tksG_end he] at h; simp at h
  ·rw [lx.tksG_go hi he] at h
   exact tks_zero l cl m _ t hle.2.1 (by simpa using h) hk
theorem doc_end (z : List Int) (d : Int) {l : List Dt} (h : (docG z d).1 = some l) : (docG z d).2.kd = 0 ∧ cln z = true ∧ (toks z).length = (docG z d).2.ix + 1 ∧ 0 < (docG z d).2.ix ∧ (∃ t, (toks z)[(docG z d).2.ix]? = some t ∧ t.k = 0) := by
 have hok := newG_ok' z d
 obtain ⟨k0, kt⟩ := defsF_live3 _ _ _ _ (show (docS (newG z d)).1.isSome = true by unfold docG at h; rw [h]; rfl)
 have k0 : (docG z d).2.kd = 0 := k0
 have kt : (docG z d).2.tok.k = 0 := kt
 have hst : Stp (newG z d) (docG z d).2 := defsF_stp (defN_goes _) _ _ _ hok
 have hg := (docG z d).2.get hst.ok.lt
 rw [hst.ts] at hg
 have hg' : (toks z)[(docG z d).2.ix]? = some (docG z d).2.tok := hg
 have hl := tks_last3 (chs z) (cln z) _ 0 _ (Nat.zero_le _) hg' (.inl kt)
 refine ⟨k0, tks_zero _ _ _ _ _ (Nat.zero_le _) hg' kt, hl, ?_, _, hg', kt⟩
 have hlt := hok.lt
 have hgo : (newG z d).ix < (docG z d).2.ix := by
  unfold docG docS at h ⊢
  obtain ⟨g, hg⟩ : ∃ g, (newG z d).ts.length = g + 1 := ⟨(newG z d).ts.length - 1, by omega⟩
  obtain ⟨D, hD⟩ : ∃ D, D = defN (newG z d).ts.length := ⟨_, rfl⟩
  have hG : Goes D := by rw [hD]; exact defN_goes _
  rw [← hD] at h ⊢
  rw [hg] at h ⊢
  simp only [defsF] at h ⊢
  rw [if_pos (.inl rfl)] at h ⊢
  cases hq : (D (newG z d)).1 with
  | none => rw [hq] at h; cases h
  | some d' => exact Nat.lt_of_lt_of_le ((hG _ hok).2 (by rw [hq]; rfl)) (defsF_stp hG g _ _ (hG _ hok).1.ok).ix
 exact hgo
theorem defsF_len (D : LitR) : ∀ (g : Nat) (l : List Dt) (c : Cu) (r : List Dt), (defsF D g l c).1 = some r → 0 < r.length ∧ l.length ≤ r.length
 | 0, l, c, r, h => by cases h
 | g + 1, l, c, r, h => by
  simp only [defsF] at h
  split at h
  ·cases hq : (D c).1 with
   | none => rw [hq] at h; cases h
   | some d =>
    rw [hq] at h
    have := defsF_len D g _ _ r h
    simp at this
    exact ⟨this.1, by omega⟩
  ·rename_i hc
   dsimp only at h
   split at h
   ·obtain rfl := Option.some.inj h
    have : l.length ≠ 0 := fun e => hc (.inl e)
    exact ⟨by omega, Nat.le_refl _⟩
   ·cases h
theorem defsF_pre {pl : Bool} {m b b' : Nat} {R : Dt → Dt → Prop} {D D' : LitR} (hG : Goes D) (hG' : Goes D') (h : Ok5 pl m 0 0 True (OD R) D D' b b') : ∀ (g g' : Nat) (l l' : List Dt) (c c' : Cu), c.Ok → c'.Ok → Sf pl m 0 0 c c' → c.ts.length ≤ b + c.ix → c'.ts.length ≤ b' + c'.ix → c.ts.length ≤ g + c.ix → c'.ts.length ≤ g' + c'.ix → EqLs R l l' → Inv c → c.kd = 0 → c.ts.length = m + 2 → (∀ i, i ≤ m → (c.ts.getD i Tk.zero).k ≠ 0) → ∀ r, (defsF D g l c).1 = some r → ∃ r' g2 c2, EqLs R r r' ∧ defsF D' g' l' c' = defsF D' g2 r' c2 ∧ Stp c' c2 ∧ c2.ix = m + 1 ∧ c2.op = c.op ∧ c2.kd = 0 ∧ c2.ts.length ≤ g2 + c2.ix
 | 0, g', l, l', c, c', hc, hc', hs, hb, hb', hg, hg', hl, hi, h0, hn, hk, r, hr => by have := hc.lt; omega
 | g + 1, 0, l, l', c, c', hc, hc', hs, hb, hb', hg, hg', hl, hi, h0, hn, hk, r, hr => by have := hc'.lt; omega
 | g + 1, g' + 1, l, l', c, c', hc, hc', hs, hb, hb', hg, hg', hl, hi, h0, hn, hk, r, hr => by
  have hfin := (defsF_live3 D (g + 1) l c (by rw [hr]; rfl)).1
  simp only [defsF] at hr hfin
  by_cases hx : l.length = 0 ∨ c.tok.k ≠ 0
  ·rw [if_pos hx] at hr hfin
   have hgo := hG c hc
   have hgo' := hG' c' hc'
   cases he : (D c).1 with
   | none => rw [he] at hr; cases hr
   | some d =>
    rw [he] at hr hfin
    dsimp only at hr hfin
    have i1 := hgo.2 (by rw [he]; rfl)
    have hlt := hgo.1.ok.lt
    rw [hgo.1.ts, hn] at hlt
    have hi1 : c.ix ≤ m := by omega
    obtain ⟨e1, e2⟩ := h.near trivial c c' hc hc' hs hb hb' (.inl rfl) (by rw [he]; rfl) (by omega)
    rw [he] at e1
    obtain ⟨d', he', hR⟩ := e1.some
    have i2 := hgo'.2 (by rw [he']; rfl)
    have k0 : (D c).2.kd = 0 := Classical.byContradiction fun x => by
     rw [defsF_sti h.o.sti g _ _ x] at hfin
     exact x hfin
    obtain ⟨o1, j1⟩ := h.o.bal c hc hb hi h0 k0
    obtain ⟨r', g2, c2, q1, q2, q3, q4, q5, q6, q7⟩ := defsF_pre hG hG' h g g' (l ++ [d]) (l' ++ [d']) _ _ hgo.1.ok hgo'.1.ok e2 (by rw [hgo.1.ts]; omega) (by rw [hgo'.1.ts]; omega) (by rw [hgo.1.ts]; omega) (by rw [hgo'.1.ts]; omega) (hl.snoc hR) j1 k0 (by rw [hgo.1.ts]; exact hn) (by rw [hgo.1.ts]; exact hk) r hr
    refine ⟨r', g2, c2, q1, ?_, hgo'.1.trans q3, q4, by rw [q5, o1], q6, q7⟩
    rw [← q2]
    have ht := (hs.tok hi1).1
    simp only [defsF]
    rw [if_pos (by rw [← hl.1, ht]; exact hx), he']
  ·rw [if_neg hx] at hr
   have hr' : l = r := by
    dsimp only at hr
    split at hr
    ·exact Option.some.inj hr
    ·cases hr
   subst hr'
   have ht : c.tok.k = 0 := Classical.byContradiction fun x => hx (.inr x)
   have hix : c.ix = m + 1 := by
    have hlt := hc.lt
    rcases Nat.lt_or_ge m c.ix with g | g
    ·omega
    ·exact absurd ht (hk c.ix g)
   exact ⟨l', g' + 1, c', hl, rfl, Stp.refl hc', by rw [hs.ix, hix], by rw [hs.op]; rfl, by rw [hs.kd, h0], hg'⟩
theorem doc_joined (z1 z2 : List Int) (hz1 : Byt z1) (d : Int) {l1 l2 : List Dt} (h1 : (docG z1 d).1 = some l1) (h2 : (docG z2 d).1 = some l2) :
  ∃ f1 f2 r1 r2, (docG (z1 ++ 10 :: z2) d).1 = some (r1 ++ r2) ∧ EqLs (EqF true f1 f1) l1 r1 ∧ EqLs (EqF false f2 f2) l2 r2 := by
 obtain ⟨k1, cl1, len1, pos1, t1, ht1, hk1⟩ := doc_end z1 d h1
 obtain ⟨k2, cl2, len2, pos2, t2, ht2, hk2⟩ := doc_end z2 d h2
 obtain ⟨n1, hn1⟩ : ∃ n, n = (docG z1 d).2.ix := ⟨_, rfl⟩
 rw [← hn1] at len1 pos1 ht1
 obtain ⟨hfl, hsc⟩ := clean_flat hz1 cl1
 have hsc' : (chs z1 ++ [10]).all scB = true := by
  rw [List.all_append, hsc]
  rfl
 have hp : putB 10 = [10] := mem.putB_1 (by omega)
 have hzz : z1 ++ 10 :: z2 = (chs z1 ++ [10]).flatMap putB ++ z2 := by
  rw [List.flatMap_append, ← hfl]
  simp [hp]
 have hch : chs (z1 ++ 10 :: z2) = chs z1 ++ 10 :: chs z2 := by
  rw [hzz, chs_app hsc']
  simp
 have hcl : cln (z1 ++ 10 :: z2) = cln z2 := by rw [hzz, cln_app hsc']
 have hloc : lx.Loc (chs z1) (chs z1 ++ 10 :: chs z2) (chs z1).length := by
  refine ⟨by simp, Nat.le_refl _, ?_⟩
  rw [lx.cAt_in (by simp), List.getD_eq_getElem?_getD, List.getElem?_append_right (Nat.le_refl _), Nat.sub_self]
  rfl
 have hshf : lx.Shf (chs z2) (chs z1 ++ 10 :: chs z2) ((chs z1).length + 1) := by
  have := lx.Shf.of (chs z1 ++ [10]) (chs z2)
  simpa using this
 have htk : toks (z1 ++ 10 :: z2) = (toks z1).take n1 ++ (toks z2).map (shT (chs z1 ++ 10 :: chs z2) ((chs z1).length + 1)) := by
  unfold toks
  rw [hch, hcl, lx.tks_join hloc n1 0 t1 (Nat.zero_le _) ht1 hk1, ← lx.tksG_shf hshf (cln z2) (Nat.zero_le _)]
 obtain ⟨z, hz⟩ : ∃ z, z = z1 ++ 10 :: z2 := ⟨_, rfl⟩
 rw [← hz] at htk ⊢
 have hok1 := newG_ok' z1 d
 have hok2 := newG_ok' z2 d
 have hok := newG_ok' z d
 obtain ⟨c1, hc1⟩ : ∃ c, c = newG z1 d := ⟨_, rfl⟩
 obtain ⟨c, hc⟩ : ∃ c, c = newG z d := ⟨_, rfl⟩
 obtain ⟨cb, hcb⟩ : ∃ c, c = newG z2 d := ⟨_, rfl⟩
 unfold docG at h1 h2 ⊢
 rw [← hc1] at h1 hok1
 rw [← hc] at hok ⊢
 have hts1 : c1.ts = toks z1 := by rw [hc1]; rfl
 have hts : c.ts = toks z := by rw [hc]; rfl
 have htsb : cb.ts = toks z2 := by rw [hcb]; rfl
 have hlen0 : (toks z1).take n1 = (toks z1).take n1 := rfl
 have hlt : ((toks z1).take n1).length = n1 := by simp; omega
 have hg1 : ∀ i, i < n1 → (toks z).getD i Tk.zero = (toks z1).getD i Tk.zero := fun i hi => by
  rw [htk, List.getD_eq_getElem?_getD, List.getD_eq_getElem?_getD, List.getElem?_append_left (by omega), List.getElem?_take, if_pos hi]
 have hg2 : ∀ i, i < (toks z2).length → EqT false ((toks z2).getD i Tk.zero) ((toks z).getD (i + n1) Tk.zero) := fun i hi => by
  rw [htk, List.getD_eq_getElem?_getD, List.getD_eq_getElem?_getD, List.getElem?_append_right (by omega), hlt, show i + n1 - n1 = i by omega, List.getElem?_map, List.getElem?_eq_getElem hi]
  exact ⟨rfl, rfl, rfl, fun e => by cases e⟩
 obtain ⟨m, hm⟩ : ∃ m, n1 = m + 1 := ⟨n1 - 1, by omega⟩
 have hs : Sf true m 0 0 c1 c := ⟨by rw [hc, hc1]; rfl, by rw [hc, hc1]; rfl, by rw [hc, hc1]; rfl, by rw [hc, hc1]; rfl, fun i hi => by
  rw [hts, hts1, Nat.add_zero, hg1 i (by omega)]
  exact EqT.refl _ _⟩
 have hnz : ∀ i, i ≤ m → (c1.ts.getD i Tk.zero).k ≠ 0 := fun i hi e => by
  rw [hts1] at e
  have hil : i < (toks z1).length := by omega
  have hgi : (toks z1)[i]? = some ((toks z1).getD i Tk.zero) := by rw [List.getD_eq_getElem?_getD, List.getElem?_eq_getElem hil]; rfl
  have := tks_last3 (chs z1) (cln z1) i 0 _ (Nat.zero_le _) hgi (.inl e)
  have h9 : (toks z1).length = i + 1 := this
  omega
 have hN1 : 0 < c1.ts.length := Nat.lt_of_le_of_lt (Nat.zero_le _) hok1.lt
 obtain ⟨r1, g2, c2, q1, q2, q3, q4, q5, q6, q7⟩ := defsF_pre (pl := true) (m := m) (defN_goes _) (defN_goes _) (defN_5 hN1 c.ts.length) c1.ts.length c.ts.length [] [] c1 c hok1 hok hs (by omega) (by omega) (by omega) (by omega) EqLs.nil (by rw [hc1]; rfl) (by rw [hc1]; rfl) (by rw [hts1]; omega) hnz l1 h1
 have hsb : Sf false (docS cb).2.ix n1 0 cb c2 := by
  refine ⟨?_, ?_, ?_, ?_, fun i hi => ?_⟩
  ·rw [q4, hcb]; show m + 1 = 0 + n1; omega
  ·rw [q5, hc1, hcb]; rfl
  ·rw [q3.mo, hc, hcb]; rfl
  ·rw [q6, hcb]; rfl
  ·rw [htsb, q3.ts, hts]
   exact hg2 i (by
    have : (docS cb).2.ix = (docG z2 d).2.ix := by rw [hcb]; rfl
    omega)
 have hokb : cb.Ok := by rw [hcb]; exact hok2
 have hNb : 0 < cb.ts.length := Nat.lt_of_le_of_lt (Nat.zero_le _) hokb.lt
 have hb0 : cb.ix = 0 := by rw [hcb]; rfl
 have hne : cb.tok.k ≠ 0 := fun e => by
  have hgi := cb.get hokb.lt
  rw [htsb, hb0] at hgi
  have := tks_last3 (chs z2) (cln z2) 0 0 _ (Nat.zero_le _) hgi (.inl e)
  have h9 : (toks z2).length = 0 + 1 := this
  omega
 have hx := defsF_4 (pl := false) (m := (docS cb).2.ix) (s := n1) (defN_goes cb.ts.length) (defN_goes c.ts.length) (defN_4 hNb c.ts.length) r1 cb.ts.length g2 [] [] cb c2 hokb q3.ok hsb (by omega) (by rw [q3.ts]; omega) (by omega) q7 EqLs.nil (.inr (.inr hne)) (Nat.le_refl _)
 rcases hx.1 with ⟨r, r', y1, y2, y3⟩ | ⟨y1, y2⟩
 ·have y4 : (docS cb).1 = some r := y1
  rw [hcb] at y4
  obtain rfl := Option.some.inj (h2.symm.trans y4)
  rw [List.append_nil] at y2
  refine ⟨_, _, r1, r', ?_, q1, y3⟩
  show (defsF (defN c.ts.length) c.ts.length [] c).1 = _
  rw [q2]
  exact y2
 ·have y4 : (docS cb).1 = none := y1
  rw [hcb] at y4
  exact absurd (h2.symm.trans y4) (by intro e; cases e)
open Go.ChangeShapes Go.WideShapes Go.ChangeAt Go.RowKit
theorem two_alloc (w : World) (o o' : Obj) : Below w.heap.size w ((w.alloc o).alloc o') := ((Below.refl _ _).alloc (Nat.le_refl _) o).alloc (by simp) o'
theorem two_at (w : World) (cs ds : Array Value) (t u : TypeId) : ((w.alloc (.cells cs t)).alloc (.cells ds u)).heap[w.heap.size]? = some (.cells cs t (0, 0)) ∧ ((w.alloc (.cells cs t)).alloc (.cells ds u)).heap[w.heap.size + 1]? = some (.cells ds u (0, 0)) := by
 refine ⟨(Below.heap_alloc _ _ w.heap.size (by simp)).trans (heap_alloc_new w _), ?_⟩
 have := heap_alloc_new (w.alloc (.cells cs t)) (.cells ds u)
 simpa using this
open ints (hide unhide)
open dt (Dt Kp RowAt Ow Grow OwIn)
open mem (Row)
open lx (toks chs cln)
structure DpI (w wr : World) (a b : Int) : Prop where
 bel : Below w.heap.size w wr
 r : wr.heap[w.heap.size]? = some (.cells #[.int .i64 0, .int .i64 0] 28 (0, 0))
 q : wr.heap[w.heap.size + 1]? = some (.cells #[.int .i64 a, .int .i64 b] 28 (0, 0))
def SmLs (fn : Nat) (pl : Bool) (k : Nat) (l l' : List Dt) : Prop := ∀ (w : World) (a a' : Option Addr) (c c' : Nat) (F G : List Nat), Ls w k l a F → Ls w k l' a' G → (∀ b ∈ F, b < w.heap.size) → (∀ b ∈ G, b < w.heap.size) → l.length ≤ c → l'.length ≤ c' → c ≤ maxLen → c' ≤ maxLen →
 Calls Tryz.prog fn #[.slice a l.length c, .slice a' l'.length c', .bool pl] w fun e w' => e = .returned (.bool true) ∧ Below w.heap.size w w'
set_option maxHeartbeats 8000000 in
set_option maxRecDepth 4000 in
theorem args_t (f : Nat) (l l' : List Dt) (h : EqLs (EqA true f) l l') : SmLs 24 true 10 l l' := by
 intro w a a' c c' F G hl hl' hF hG hc hc' hm hm'
 obtain ⟨hlen, hel⟩ := h
 have HEL := hide hel
 have HL := hide hl
 have HL' := hide hl'
 have HF := hide hF
 have HG := hide hG
 obtain ⟨n, hn⟩ : ∃ n, n = l.length := ⟨_, rfl⟩
 have hn' : n = l'.length := hn.trans hlen
 rw [← hn] at hc ⊢
 rw [← hn'] at hc' ⊢
 have Hn := hide (And.intro hn hn')
 clear hel hl hl' hF hG hn hn' hlen
 unfold maxLen at hm hm'
 go_enter Tryz.func24, Tryz.ntmps24
 go_wp2_with fail
 go_loopw [7] (fun i wr => ∃ j : Nat, j ≤ n ∧ i = .int .i64 j ∧ Below w.heap.size w wr) (fun i _ => n - (intOf i).toNat)
 case atStart => exact ⟨0, Nat.zero_le _, rfl, Below.refl _ _⟩
 case round =>
  obtain ⟨j, hj, rfl, hI⟩ := hrel
  by_cases hlt : j < n
  ·have ji : (j : Int) < (n : Int) := by omega
   have hlt1 : j < l.length := by have := unhide Hn; omega
   have hlt2 : j < l'.length := by have := unhide Hn; omega
   obtain ⟨p, off, rfl, hpF, hget⟩ := (unhide HL).resolve_left (fun h0 => by rw [h0] at hlt1; exact absurd hlt1 (Nat.not_lt_zero _))
   obtain ⟨p', off', rfl, hpG, hget'⟩ := (unhide HL').resolve_left (fun h0 => by rw [h0] at hlt2; exact absurd hlt2 (Nat.not_lt_zero _))
   obtain ⟨ds, G1, hrow, hdl, hod, hGF⟩ := hget j _ (List.getElem?_eq_getElem hlt1)
   obtain ⟨ds', G2, hrow', hdl', hod', hGG⟩ := hget' j _ (List.getElem?_eq_getElem hlt2)
   obtain ⟨nm, e1, e2, x1, y1, x2, y2, hx, hy, hxy, heq⟩ := (unhide HEL) j _ _ (List.getElem?_eq_getElem hlt1) (List.getElem?_eq_getElem hlt2)
   rw [hx] at hod
   rw [hy] at hod'
   have hshp : ∃ k1 tx1 bl1 ai1 ni1 ci1 af1 nf1 cf1 ln1 co1 k2 tx2 bl2 ai2 ni2 ci2 af2 nf2 cf2 ln2 co2, ds = [.string nm, .int .i64 k1, .string tx1, .bool bl1, .slice ai1 ni1 ci1, .slice af1 nf1 cf1, .int .i64 ln1, .int .i64 co1, .int .i64 x1, .int .i64 y1] ∧ ds' = [.string nm, .int .i64 k2, .string tx2, .bool bl2, .slice ai2 ni2 ci2, .slice af2 nf2 cf2, .int .i64 ln2, .int .i64 co2, .int .i64 x2, .int .i64 y2] ∧ Ow w e1 [.int .i64 k1, .string tx1, .bool bl1, .slice ai1 ni1 ci1, .slice af1 nf1 cf1, .int .i64 ln1, .int .i64 co1] G1 ∧ Ow w e2 [.int .i64 k2, .string tx2, .bool bl2, .slice ai2 ni2 ci2, .slice af2 nf2 cf2, .int .i64 ln2, .int .i64 co2] G2 := by
    obtain ⟨k1, tx1, bl1, i1, f1, ln1, co1, h1⟩ := heq.left
    obtain ⟨k2, tx2, bl2, i2, f2, ln2, co2, h2⟩ := heq.right
    rw [h1] at hod
    rw [h2] at hod'
    obtain ⟨a1, a2, a3, a4, a5, a6, q1, q2⟩ := fld_cells hod
    obtain ⟨b1, b2, b3, b4, b5, b6, r1, r2⟩ := fld_cells hod'
    rw [← h1] at q2
    rw [← h2] at r2
    exact ⟨k1, tx1, bl1, a1, a2, a3, a4, a5, a6, ln1, co1, k2, tx2, bl2, b1, b2, b3, b4, b5, b6, ln2, co2, q1, r1, q2, r2⟩
   obtain ⟨k1, tx1, bl1, ai1, ni1, ci1, af1, nf1, cf1, ln1, co1, k2, tx2, bl2, ai2, ni2, ci2, af2, nf2, cf2, ln2, co2, rfl, rfl, hov, hov'⟩ := hshp
   obtain ⟨rfl, rfl⟩ := hxy rfl
   clear hod hod' hx hy
   have hplt := (unhide HF) p hpF
   have hplt' := (unhide HG) p' hpG
   have hr := fun (q : Nat) (u : Value) hu => (hI.cell (p := ⟨p, off + j * 10 + q, none⟩) hplt).trans (hrow q u hu)
   have hr' := fun (q : Nat) (u : Value) hu => (hI.cell (p := ⟨p', off' + j * 10 + q, none⟩) hplt').trans (hrow' q u hu)
   have m0 : wr.cell? ⟨p, off + j * 10, none⟩ = some (.string nm) := hr 0 _ rfl
   have m1 : wr.cell? ⟨p, off + j * 10 + 1, none⟩ = some (.int .i64 k1) := hr 1 _ rfl
   have m2 : wr.cell? ⟨p, off + j * 10 + 2, none⟩ = some (.string tx1) := hr 2 _ rfl
   have m3 : wr.cell? ⟨p, off + j * 10 + 3, none⟩ = some (.bool bl1) := hr 3 _ rfl
   have m4 : wr.cell? ⟨p, off + j * 10 + 4, none⟩ = some (.slice ai1 ni1 ci1) := hr 4 _ rfl
   have m5 : wr.cell? ⟨p, off + j * 10 + 5, none⟩ = some (.slice af1 nf1 cf1) := hr 5 _ rfl
   have m6 : wr.cell? ⟨p, off + j * 10 + 6, none⟩ = some (.int .i64 ln1) := hr 6 _ rfl
   have m7 : wr.cell? ⟨p, off + j * 10 + 7, none⟩ = some (.int .i64 co1) := hr 7 _ rfl
   have m8 : wr.cell? ⟨p, off + j * 10 + 8, none⟩ = some (.int .i64 x1) := hr 8 _ rfl
   have m9 : wr.cell? ⟨p, off + j * 10 + 9, none⟩ = some (.int .i64 y1) := hr 9 _ rfl
   have n0 : wr.cell? ⟨p', off' + j * 10, none⟩ = some (.string nm) := hr' 0 _ rfl
   have n1 : wr.cell? ⟨p', off' + j * 10 + 1, none⟩ = some (.int .i64 k2) := hr' 1 _ rfl
   have n2 : wr.cell? ⟨p', off' + j * 10 + 2, none⟩ = some (.string tx2) := hr' 2 _ rfl
   have n3 : wr.cell? ⟨p', off' + j * 10 + 3, none⟩ = some (.bool bl2) := hr' 3 _ rfl
   have n4 : wr.cell? ⟨p', off' + j * 10 + 4, none⟩ = some (.slice ai2 ni2 ci2) := hr' 4 _ rfl
   have n5 : wr.cell? ⟨p', off' + j * 10 + 5, none⟩ = some (.slice af2 nf2 cf2) := hr' 5 _ rfl
   have n6 : wr.cell? ⟨p', off' + j * 10 + 6, none⟩ = some (.int .i64 ln2) := hr' 6 _ rfl
   have n7 : wr.cell? ⟨p', off' + j * 10 + 7, none⟩ = some (.int .i64 co2) := hr' 7 _ rfl
   have n8 : wr.cell? ⟨p', off' + j * 10 + 8, none⟩ = some (.int .i64 x1) := hr' 8 _ rfl
   have n9 : wr.cell? ⟨p', off' + j * 10 + 9, none⟩ = some (.int .i64 y1) := hr' 9 _ rfl
   have hC := hide (fun W (hb : Below w.heap.size w W) => same_t f e1 e2 heq W [Value.int .i64 k1, .string tx1, .bool bl1, .slice ai1 ni1 ci1, .slice af1 nf1 cf1, .int .i64 ln1, .int .i64 co1] [Value.int .i64 k2, .string tx2, .bool bl2, .slice ai2 ni2 ci2, .slice af2 nf2 cf2, .int .i64 ln2, .int .i64 co2] G1 G2 (dt.Ow.agree e1 _ G1 (fun b hb' o => hb.cell (p := ⟨b, o, none⟩) ((unhide HF) b (hGF b hb'))) hov) (dt.Ow.agree e2 _ G2 (fun b hb' o => hb.cell (p := ⟨b, o, none⟩) ((unhide HG) b (hGG b hb'))) hov') (fun b hb' => Nat.lt_of_lt_of_le ((unhide HF) b (hGF b hb')) hb.size) (fun b hb' => Nat.lt_of_lt_of_le ((unhide HG) b (hGG b hb')) hb.size))
   have hq1 : p < wr.heap.size := Nat.lt_of_lt_of_le hplt hI.size
   have hq2 : p' < wr.heap.size := Nat.lt_of_lt_of_le hplt' hI.size
   clear hr hr' hrow hrow' hov hov' heq hdl hdl' hget hget'
   go_wp2_with fail
   have hS0 : Below wr.heap.size wr { wr with drawn := wr.drawn + 1 } := (Below.refl _ _).drew
   have bD := hI.trans (hS0.mono hI.size)
   refine wp_region_noPanic ?_
   refine wp_region_held (S := fun w' => Below wr.heap.size wr w') mixed ?_
   refine rgn.tl (i := 0) (v := ?v1) rfl (by kernel_rfl) (fun _ _ _ h => h) (by rfl) ?hy1 hS0 ?_
   case hy1 => (intro w' hw'; go_simp; try with_reducible rfl)
   simp only [rgn.l1, rgn.l2, rgn.l3, Act.put, rgn.l4, rgn.l5, rgn.l6]
   refine rgn.tl (i := 1) (v := ?v2) rfl (by kernel_rfl) (fun _ _ _ h => h) (by rfl) ?hy2 hS0 ?_
   case hy2 => (intro w' hw'; go_simp; try with_reducible rfl)
   simp only [rgn.l1, rgn.l2, rgn.l3, Act.put, rgn.l4, rgn.l5, rgn.l6]
   refine rgn.tl (i := 2) (v := ?v3) rfl (by kernel_rfl) (fun _ _ _ h => h) (by rfl) ?hy3 hS0 ?_
   case hy3 => (intro w' hw'; go_simp; try with_reducible rfl)
   simp only [rgn.l1, rgn.l2, rgn.l3, Act.put, rgn.l4, rgn.l5, rgn.l6]
   refine rgn.tl (i := 3) (v := ?v4) rfl (by kernel_rfl) (fun _ _ _ h => h) (by rfl) ?hy4 hS0 ?_
   case hy4 => (intro w' hw'; go_simp; try with_reducible rfl)
   simp only [rgn.l1, rgn.l2, rgn.l3, Act.put, rgn.l4, rgn.l5, rgn.l6]
   refine rgn.tl (i := 4) (v := ?v5) rfl (by kernel_rfl) (fun _ _ _ h => h) (by rfl) ?hy5 hS0 ?_
   case hy5 => (intro w' hw'; have m1' := (hw'.cell (p := ⟨p, off + j * 10 + 1, none⟩) hq1).trans m1; have m2' := (hw'.cell (p := ⟨p, off + j * 10 + 2, none⟩) hq1).trans m2; have m3' := (hw'.cell (p := ⟨p, off + j * 10 + 3, none⟩) hq1).trans m3; have m4' := (hw'.cell (p := ⟨p, off + j * 10 + 4, none⟩) hq1).trans m4; have m5' := (hw'.cell (p := ⟨p, off + j * 10 + 5, none⟩) hq1).trans m5; have m6' := (hw'.cell (p := ⟨p, off + j * 10 + 6, none⟩) hq1).trans m6; have m7' := (hw'.cell (p := ⟨p, off + j * 10 + 7, none⟩) hq1).trans m7; go_simp; try with_reducible rfl)
   simp only [rgn.l1, rgn.l2, rgn.l3, Act.put, rgn.l4, rgn.l5, rgn.l6]
   refine rgn.tl (i := 5) (v := ?v6) rfl (by kernel_rfl) (fun _ _ _ h => h) (by rfl) ?hy6 hS0 ?_
   case hy6 => (intro w' hw'; go_simp; try with_reducible rfl)
   simp only [rgn.l1, rgn.l2, rgn.l3, Act.put, rgn.l4, rgn.l5, rgn.l6]
   refine rgn.tl (i := 6) (v := ?v7) rfl (by kernel_rfl) (fun _ _ _ h => h) (by rfl) ?hy7 hS0 ?_
   case hy7 => (intro w' hw'; go_simp; try with_reducible rfl)
   simp only [rgn.l1, rgn.l2, rgn.l3, Act.put, rgn.l4, rgn.l5, rgn.l6]
   refine rgn.tl (i := 7) (v := ?v8) rfl (by kernel_rfl) (fun _ _ _ h => h) (by rfl) ?hy8 hS0 ?_
   case hy8 => (intro w' hw'; go_simp; try with_reducible rfl)
   simp only [rgn.l1, rgn.l2, rgn.l3, Act.put, rgn.l4, rgn.l5, rgn.l6]
   refine rgn.tl (i := 8) (v := ?v9) rfl (by kernel_rfl) (fun _ _ _ h => h) (by rfl) ?hy9 hS0 ?_
   case hy9 => (intro w' hw'; go_simp; try with_reducible rfl)
   simp only [rgn.l1, rgn.l2, rgn.l3, Act.put, rgn.l4, rgn.l5, rgn.l6]
   refine rgn.tl (i := 9) (v := ?v10) rfl (by kernel_rfl) (fun _ _ _ h => h) (by rfl) ?hy10 hS0 ?_
   case hy10 => (intro w' hw'; have n1' := (hw'.cell (p := ⟨p', off' + j * 10 + 1, none⟩) hq2).trans n1; have n2' := (hw'.cell (p := ⟨p', off' + j * 10 + 2, none⟩) hq2).trans n2; have n3' := (hw'.cell (p := ⟨p', off' + j * 10 + 3, none⟩) hq2).trans n3; have n4' := (hw'.cell (p := ⟨p', off' + j * 10 + 4, none⟩) hq2).trans n4; have n5' := (hw'.cell (p := ⟨p', off' + j * 10 + 5, none⟩) hq2).trans n5; have n6' := (hw'.cell (p := ⟨p', off' + j * 10 + 6, none⟩) hq2).trans n6; have n7' := (hw'.cell (p := ⟨p', off' + j * 10 + 7, none⟩) hq2).trans n7; go_simp; try with_reducible rfl)
   simp only [rgn.l1, rgn.l2, rgn.l3, Act.put, rgn.l4, rgn.l5, rgn.l6]
   refine rgn.tl (i := 10) (v := ?v11) rfl (by kernel_rfl) (fun _ _ _ h => h) (by rfl) ?hy11 hS0 ?_
   case hy11 => (intro w' hw'; go_simp; try with_reducible rfl)
   simp only [rgn.l1, rgn.l2, rgn.l3, Act.put, rgn.l4, rgn.l5, rgn.l6]
   refine rgn.one (i := 11) _ rfl (by kernel_rfl) (by rfl) ?_
   simp only [rgn.l1, rgn.l2, rgn.l3, Act.put, rgn.l4, rgn.l5, rgn.l6]
   go_wp2_with fail
   refine ((unhide hC) _ bD).mono ?_
   rintro e' w2 ⟨rfl, b2⟩
   have b02 : Below wr.heap.size wr w2 := hS0.trans b2
   refine ⟨b02, ?_⟩
   clear hS0 b2 bD
   have hS0 := b02
   try simp only [rgn.l1, rgn.l2, rgn.l3, Act.put, rgn.l4, rgn.l5, rgn.l6]
   refine rgn.take (i := 12) _ (.bool true) rfl (by kernel_rfl) (by kernel_rfl) (by kernel_rfl) (fun _ _ _ h => h) (by rfl) hS0 (fun w' hw' => by go_simp) ?_
   simp only [rgn.l1, rgn.l2, rgn.l3, Act.put, rgn.l4, rgn.l5, rgn.l6]
   refine wpAnyH_done (by kernel_rfl) ?_ _; refine NoPanic.normal ?_
   have mNx := (b02.cell (p := ⟨p, off + j * 10, none⟩) hq1).trans m0
   have nNx := (b02.cell (p := ⟨p', off' + j * 10, none⟩) hq2).trans n0
   have m8x := (b02.cell (p := ⟨p, off + j * 10 + 8, none⟩) hq1).trans m8
   have n8x := (b02.cell (p := ⟨p', off' + j * 10 + 8, none⟩) hq2).trans n8
   have m9x := (b02.cell (p := ⟨p, off + j * 10 + 9, none⟩) hq1).trans m9
   have n9x := (b02.cell (p := ⟨p', off' + j * 10 + 9, none⟩) hq2).trans n9
   have hI2 := hI.trans (b02.mono hI.size)
   have g2 : p < w2.heap.size := Nat.lt_of_lt_of_le hq1 b02.size
   have g3 : p' < w2.heap.size := Nat.lt_of_lt_of_le hq2 b02.size
   clear m0 n0 m1 n1 m2 n2 m3 n3 m4 n4 m5 n5 m6 n6 m7 n7 m8 n8 m9 n9 hC hS0
   go_wp2_with fail
   have hS0 : Below w2.heap.size w2 { w2 with drawn := w2.drawn + 1 } := (Below.refl _ _).drew
   refine wp_region_noPanic ?_
   refine wp_region_held (S := fun w' => Below w2.heap.size w2 w') mixed ?_
   refine rgn.tl (i := 0) (v := ?v12) rfl (by kernel_rfl) (fun _ _ _ h => h) (by rfl) ?hy12 hS0 ?_
   case hy12 => (intro w' hw'; go_simp; try with_reducible rfl)
   simp only [rgn.l1, rgn.l2, rgn.l3, Act.put, rgn.l4, rgn.l5, rgn.l6]
   refine rgn.tl (i := 1) (v := ?v13) rfl (by kernel_rfl) (fun _ _ _ h => h) (by rfl) ?hy13 hS0 ?_
   case hy13 => (intro w' hw'; go_simp; try with_reducible rfl)
   simp only [rgn.l1, rgn.l2, rgn.l3, Act.put, rgn.l4, rgn.l5, rgn.l6]
   refine rgn.tl (i := 2) (v := ?v14) rfl (by kernel_rfl) (fun _ _ _ h => h) (by rfl) ?hy14 hS0 ?_
   case hy14 => (intro w' hw'; go_simp; try with_reducible rfl)
   simp only [rgn.l1, rgn.l2, rgn.l3, Act.put, rgn.l4, rgn.l5, rgn.l6]
   refine rgn.tl (i := 3) (v := ?v15) rfl (by kernel_rfl) (fun _ _ _ h => h) (by rfl) ?hy15 hS0 ?_
   case hy15 => (intro w' hw'; go_simp; try with_reducible rfl)
   simp only [rgn.l1, rgn.l2, rgn.l3, Act.put, rgn.l4, rgn.l5, rgn.l6]
   refine rgn.tl (i := 4) (v := ?v16) rfl (by kernel_rfl) (fun _ _ _ h => h) (by rfl) ?hy16 hS0 ?_
   case hy16 => (intro w' hw'; go_simp; try with_reducible rfl)
   simp only [rgn.l1, rgn.l2, rgn.l3, Act.put, rgn.l4, rgn.l5, rgn.l6]
   refine rgn.tl (i := 5) (v := ?v17) rfl (by kernel_rfl) (fun _ _ _ h => h) (by rfl) ?hy17 hS0 ?_
   case hy17 => (intro w' hw'; go_simp; try with_reducible rfl)
   simp only [rgn.l1, rgn.l2, rgn.l3, Act.put, rgn.l4, rgn.l5, rgn.l6]
   refine rgn.tl (i := 6) (v := ?v18) rfl (by kernel_rfl) (fun _ _ _ h => h) (by rfl) ?hy18 hS0 ?_
   case hy18 => (intro w' hw'; go_simp; try with_reducible rfl)
   simp only [rgn.l1, rgn.l2, rgn.l3, Act.put, rgn.l4, rgn.l5, rgn.l6]
   refine rgn.tl (i := 7) (v := ?v19) rfl (by kernel_rfl) (fun _ _ _ h => h) (by rfl) ?hy19 hS0 ?_
   case hy19 => (intro w' hw'; have mN' := (hw'.cell (p := ⟨p, off + j * 10, none⟩) g2).trans mNx; go_simp; try with_reducible rfl)
   simp only [rgn.l1, rgn.l2, rgn.l3, Act.put, rgn.l4, rgn.l5, rgn.l6]
   refine rgn.tl (i := 8) (v := ?v20) rfl (by kernel_rfl) (fun _ _ _ h => h) (by rfl) ?hy20 hS0 ?_
   case hy20 => (intro w' hw'; go_simp; try with_reducible rfl)
   simp only [rgn.l1, rgn.l2, rgn.l3, Act.put, rgn.l4, rgn.l5, rgn.l6]
   refine rgn.tl (i := 9) (v := ?v21) rfl (by kernel_rfl) (fun _ _ _ h => h) (by rfl) ?hy21 hS0 ?_
   case hy21 => (intro w' hw'; go_simp; try with_reducible rfl)
   simp only [rgn.l1, rgn.l2, rgn.l3, Act.put, rgn.l4, rgn.l5, rgn.l6]
   refine rgn.tl (i := 10) (v := ?v22) rfl (by kernel_rfl) (fun _ _ _ h => h) (by rfl) ?hy22 hS0 ?_
   case hy22 => (intro w' hw'; go_simp; try with_reducible rfl)
   simp only [rgn.l1, rgn.l2, rgn.l3, Act.put, rgn.l4, rgn.l5, rgn.l6]
   refine rgn.tl (i := 11) (v := ?v23) rfl (by kernel_rfl) (fun _ _ _ h => h) (by rfl) ?hy23 hS0 ?_
   case hy23 => (intro w' hw'; go_simp; try with_reducible rfl)
   simp only [rgn.l1, rgn.l2, rgn.l3, Act.put, rgn.l4, rgn.l5, rgn.l6]
   refine rgn.tl (i := 12) (v := ?v24) rfl (by kernel_rfl) (fun _ _ _ h => h) (by rfl) ?hy24 hS0 ?_
   case hy24 => (intro w' hw'; have nN' := (hw'.cell (p := ⟨p', off' + j * 10, none⟩) g3).trans nNx; go_simp; try with_reducible rfl)
   simp only [rgn.l1, rgn.l2, rgn.l3, Act.put, rgn.l4, rgn.l5, rgn.l6]
   refine rgn.tl (i := 13) (v := ?v25) rfl (by kernel_rfl) (fun _ _ _ h => h) (by rfl) ?hy25 hS0 ?_
   case hy25 => (intro w' hw'; go_simp; try with_reducible rfl)
   simp only [rgn.l1, rgn.l2, rgn.l3, Act.put, rgn.l4, rgn.l5, rgn.l6]
   refine rgn.tl (i := 14) (v := ?v26) rfl (by kernel_rfl) (fun _ _ _ h => h) (by rfl) ?hy26 hS0 ?_
   case hy26 => (intro w' hw'; go_simp; try with_reducible rfl)
   simp only [rgn.l1, rgn.l2, rgn.l3, Act.put, rgn.l4, rgn.l5, rgn.l6]
   refine rgn.tl (i := 15) (v := ?v27) rfl (by kernel_rfl) (fun _ _ _ h => h) (by rfl) ?hy27 hS0 ?_
   case hy27 => (intro w' hw'; go_simp; try with_reducible rfl)
   simp only [rgn.l1, rgn.l2, rgn.l3, Act.put, rgn.l4, rgn.l5, rgn.l6]
   refine rgn.tl (i := 16) (v := ?v28) rfl (by kernel_rfl) (fun _ _ _ h => h) (by rfl) ?hy28 hS0 ?_
   case hy28 => (intro w' hw'; go_simp; try with_reducible rfl)
   simp only [rgn.l1, rgn.l2, rgn.l3, Act.put, rgn.l4, rgn.l5, rgn.l6]
   refine rgn.tl (i := 17) (v := ?v29) rfl (by kernel_rfl) (fun _ _ _ h => h) (by rfl) ?hy29 hS0 ?_
   case hy29 => (intro w' hw'; go_simp; try with_reducible rfl)
   simp only [rgn.l1, rgn.l2, rgn.l3, Act.put, rgn.l4, rgn.l5, rgn.l6]
   refine rgn.tl (i := 18) (v := ?v30) rfl (by kernel_rfl) (fun _ _ _ h => h) (by rfl) ?hy30 hS0 ?_
   case hy30 => (intro w' hw'; go_simp; try with_reducible rfl)
   simp only [rgn.l1, rgn.l2, rgn.l3, Act.put, rgn.l4, rgn.l5, rgn.l6]
   refine rgn.tl (i := 19) (v := ?v31) rfl (by kernel_rfl) (fun _ _ _ h => h) (by rfl) ?hy31 hS0 ?_
   case hy31 => (intro w' hw'; go_simp; try with_reducible rfl)
   simp only [rgn.l1, rgn.l2, rgn.l3, Act.put, rgn.l4, rgn.l5, rgn.l6]
   refine rgn.tl (i := 20) (v := ?v32) rfl (by kernel_rfl) (fun _ _ _ h => h) (by rfl) ?hy32 hS0 ?_
   case hy32 => (intro w' hw'; go_simp; try with_reducible rfl)
   simp only [rgn.l1, rgn.l2, rgn.l3, Act.put, rgn.l4, rgn.l5, rgn.l6]
   refine rgn.tl (i := 21) (v := ?v33) rfl (by kernel_rfl) (fun _ _ _ h => h) (by rfl) ?hy33 hS0 ?_
   case hy33 => (intro w' hw'; go_simp; try with_reducible rfl)
   simp only [rgn.l1, rgn.l2, rgn.l3, Act.put, rgn.l4, rgn.l5, rgn.l6]
   refine rgn.tl (i := 22) (v := ?v34) rfl (by kernel_rfl) (fun _ _ _ h => h) (by rfl) ?hy34 hS0 ?_
   case hy34 => (intro w' hw'; have m8' := (hw'.cell (p := ⟨p, off + j * 10 + 8, none⟩) g2).trans m8x; have m9' := (hw'.cell (p := ⟨p, off + j * 10 + 9, none⟩) g2).trans m9x; go_simp; try with_reducible rfl)
   simp only [rgn.l1, rgn.l2, rgn.l3, Act.put, rgn.l4, rgn.l5, rgn.l6]
   refine rgn.tl (i := 23) (v := ?v35) rfl (by kernel_rfl) (fun _ _ _ h => h) (by rfl) ?hy35 hS0 ?_
   case hy35 => (intro w' hw'; go_simp; try with_reducible rfl)
   simp only [rgn.l1, rgn.l2, rgn.l3, Act.put, rgn.l4, rgn.l5, rgn.l6]
   refine rgn.tl (i := 24) (v := ?v36) rfl (by kernel_rfl) (fun _ _ _ h => h) (by rfl) ?hy36 hS0 ?_
   case hy36 => (intro w' hw'; go_simp; try with_reducible rfl)
   simp only [rgn.l1, rgn.l2, rgn.l3, Act.put, rgn.l4, rgn.l5, rgn.l6]
   refine rgn.tl (i := 25) (v := ?v37) rfl (by kernel_rfl) (fun _ _ _ h => h) (by rfl) ?hy37 hS0 ?_
   case hy37 => (intro w' hw'; go_simp; try with_reducible rfl)
   simp only [rgn.l1, rgn.l2, rgn.l3, Act.put, rgn.l4, rgn.l5, rgn.l6]
   refine rgn.tl (i := 26) (v := ?v38) rfl (by kernel_rfl) (fun _ _ _ h => h) (by rfl) ?hy38 hS0 ?_
   case hy38 => (intro w' hw'; go_simp; try with_reducible rfl)
   simp only [rgn.l1, rgn.l2, rgn.l3, Act.put, rgn.l4, rgn.l5, rgn.l6]
   refine rgn.tl (i := 27) (v := ?v39) rfl (by kernel_rfl) (fun _ _ _ h => h) (by rfl) ?hy39 hS0 ?_
   case hy39 => (intro w' hw'; have n8' := (hw'.cell (p := ⟨p', off' + j * 10 + 8, none⟩) g3).trans n8x; have n9' := (hw'.cell (p := ⟨p', off' + j * 10 + 9, none⟩) g3).trans n9x; go_simp; try with_reducible rfl)
   simp only [rgn.l1, rgn.l2, rgn.l3, Act.put, rgn.l4, rgn.l5, rgn.l6]
   refine rgn.tl (i := 28) (v := ?v40) rfl (by kernel_rfl) (fun _ _ _ h => h) (by rfl) ?hy40 hS0 ?_
   case hy40 => (intro w' hw'; go_simp; try with_reducible rfl)
   simp only [rgn.l1, rgn.l2, rgn.l3, Act.put, rgn.l4, rgn.l5, rgn.l6]
   refine rgn.tl (i := 29) (v := ?v41) rfl (by kernel_rfl) (fun _ _ _ h => h) (by rfl) ?hy41 hS0 ?_
   case hy41 => (intro w' hw'; go_simp; try with_reducible rfl)
   simp only [rgn.l1, rgn.l2, rgn.l3, Act.put, rgn.l4, rgn.l5, rgn.l6]
   refine rgn.tl (i := 30) (v := ?v42) rfl (by kernel_rfl) (fun _ _ _ h => h) (by rfl) ?hy42 hS0 ?_
   case hy42 => (intro w' hw'; go_simp; try with_reducible rfl)
   simp only [rgn.l1, rgn.l2, rgn.l3, Act.put, rgn.l4, rgn.l5, rgn.l6]
   refine wpAnyH_done (by kernel_rfl) ?_ _; refine NoPanic.normal ?_
   go_wp2_with fail
   go_roundw
   case rel => exact ⟨j + 1, by omega, by go_num, hI2.trans (hS0.mono hI2.size)⟩
   case measure => first | (simp [intOf]; omega) | simp [intOf]
  ·have ji : ¬ (j : Int) < (n : Int) := by omega
   have hI9 := hide hI
   clear hlt
   go_wp2_with fail
   go_ret
   exact ⟨rfl, unhide hI9⟩
end Go.Proofs.YtcebeajjpcbgcaaGreat.cu
