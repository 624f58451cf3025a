import Derived.Test.YtnkaoapnooanlaaGreatSdd19
set_option linter.unusedVariables false
set_option linter.unusedSimpArgs false
namespace Go.Proofs.YtnkaoapnooanlaaGreat.cu
open dt (Dt Kp RowAt Ow Grow)
theorem dl_lp : dlt (pk bLp) = 1 := by decide
theorem dl_lb : dlt (pk bLb) = 1 := by decide
theorem dl_lc : dlt (pk bLc) = 1 := by decide
theorem dl_rp : dlt (pk bRp) = -1 := by decide
theorem dl_rb : dlt (pk bRb) = -1 := by decide
theorem dl_rc : dlt (pk bRc) = -1 := by decide
theorem dl_at : dlt (pk bAt) = 0 := by decide
theorem dl_col : dlt (pk bCol) = 0 := by decide
theorem dl_dol : dlt (pk bDol) = 0 := by decide
theorem dl_eq : dlt (pk bEq) = 0 := by decide
theorem dl_bang : dlt (pk bBang) = 0 := by decide
theorem argS_eq3 (L : LitR) : argS L = bnd tokR fun t => bnd nR fun _ => bnd (wantR bCol) fun _ => bnd L fun r => ret (r.map fun v => fldD t.tx v t.ln t.co) := by
 funext c
 simp only [argS, bnd, tokR, nR, wantR, ret]
 cases (L (c.name.want bCol)).1 <;> rfl
def litT (L : LitR) (ct : Bool) (t : Tk) : LitR :=
 cond (decide (t.k = 4)) (bnd (takeK 4) fun _ => ret (some (litD 2 t.tx false .nil .nil t.ln t.co)))
 (cond (decide (t.k = 5)) (bnd (takeK 5) fun _ => ret (some (litD 3 t.tx false .nil .nil t.ln t.co)))
 (cond (decide (t.k = 6)) (bnd (takeK 6) fun _ => ret (some (litD 4 t.va false .nil .nil t.ln t.co)))
 (cond (decide (t.k = 7)) (bnd (takeK 7) fun _ => ret (some (litD 4 t.va true .nil .nil t.ln t.co)))
 (cond (decide (t.k = 3)) (bnd (takeK 3) fun _ => ret (some (wordD t)))
 (bnd (isPR bDol) fun q => cond (q && !ct) (bnd (punctR bDol) fun _ => bnd nR fun n => ret (cond n.1 (some (litD 1 n.2 false .nil .nil t.ln t.co)) none))
 (bnd (isPR bLb) fun q => cond q (bnd (brk L bLb bRb 0) fun r => ret (r.map fun l => litD 8 em false (Dt.of l) .nil t.ln t.co))
 (bnd (isPR bLc) fun q => cond q (bnd (brk (argS L) bLc bRc 0) fun r => ret (r.map fun l => litD 9 em false .nil (Dt.of l) t.ln t.co))
 (stopR none))))))))
theorem takeK_eq {c : Cu} {k : Int} (h0 : c.kd = 0) (h : c.tok.k = k) : takeK k c = ((), c.take) := by unfold takeK; rw [if_pos ⟨h0, h⟩]
theorem litS_eq (L : LitR) (ct : Bool) : litS L ct = bnd aliveR fun al => cond al (bnd tokR fun t => litT L ct t) (ret none) := by
 funext c
 by_cases h0 : c.kd = 0
 ·have e0 : (bnd aliveR fun al => cond al (bnd tokR fun t => litT L ct t) (ret none)) c = litT L ct c.tok c := by
   show cond (decide (c.kd = 0)) (bnd tokR fun t => litT L ct t) (ret none) c = _
   rw [decide_eq_true h0]
   rfl
  rw [e0]
  unfold litS litT
  rw [if_neg (by simpa using h0)]
  by_cases h4 : c.tok.k = 4
  ·rw [if_pos h4, decide_eq_true h4]
   simp only [cond_true, bnd, ret, takeK_eq h0 h4]
  rw [if_neg h4, decide_eq_false h4]
  simp only [cond_false]
  by_cases h5 : c.tok.k = 5
  ·rw [if_pos h5, decide_eq_true h5]
   simp only [cond_true, bnd, ret, takeK_eq h0 h5]
  rw [if_neg h5, decide_eq_false h5]
  simp only [cond_false]
  by_cases h6 : c.tok.k = 6
  ·rw [if_pos (.inl h6), decide_eq_true h6]
   have h7 : ¬ c.tok.k = 7 := by omega
   simp only [cond_true, bnd, ret, takeK_eq h0 h6, decide_eq_false h7]
  rw [decide_eq_false h6]
  simp only [cond_false]
  by_cases h7 : c.tok.k = 7
  ·rw [if_pos (.inr h7), decide_eq_true h7]
   simp only [cond_true, bnd, ret, takeK_eq h0 h7]
  rw [if_neg (by omega), decide_eq_false h7]
  simp only [cond_false]
  by_cases h3 : c.tok.k = 3
  ·rw [if_pos h3, decide_eq_true h3]
   simp only [cond_true, bnd, ret, takeK_eq h0 h3]
  rw [if_neg h3, decide_eq_false h3]
  simp only [cond_false]
  show _ = (cond (c.isP bDol && !ct) _ _ : Cu → Option Dt × Cu) c
  by_cases hd : c.isP bDol = true ∧ ct = false
  ·rw [if_pos hd, hd.1, hd.2]
   simp only [Bool.not_false, Bool.and_self, cond_true, bnd, punctR, nR, ret, Cu.punct, hd.1, if_true, varS]
   rcases bb c.take.isN with g | g <;> simp [g]
  rw [if_neg hd]
  have hd' : (c.isP bDol && !ct) = false := by
   cases h1 : c.isP bDol
   ·rfl
   ·cases ct
    ·exact absurd ⟨h1, rfl⟩ hd
    ·rfl
  rw [hd']
  simp only [cond_false]
  show _ = (cond (c.isP bLb) _ _ : Cu → Option Dt × Cu) c
  rcases bb (c.isP bLb) with g | g
  ·rw [g, if_neg (by decide)]
   simp only [cond_false]
   show _ = (cond (c.isP bLc) _ _ : Cu → Option Dt × Cu) c
   rcases bb (c.isP bLc) with k | k
   ·rw [k, if_neg (by decide)]
    rfl
   ·rw [k, if_pos rfl]
    simp only [cond_true, bnd, ret, objS]
    cases (brk (argS L) bLc bRc 0 c).1 <;> rfl
  ·rw [g, if_pos rfl]
   simp only [cond_true, bnd, ret, listS]
   cases (brk L bLb bRb 0 c).1 <;> rfl
 ·show litS L ct c = cond (decide (c.kd = 0)) (bnd tokR fun t => litT L ct t) (ret none) c
  rw [decide_eq_false h0]
  unfold litS
  rw [if_pos h0]
  rfl
section
variable {M b : Nat}
theorem argS_3 {L : LitR} (h : Ok3 M L b) : Ok3 M (argS L) b := by
 rw [argS_eq3]
 exact tokR_3.bnd fun _ => nR_3.bnd fun _ => (wantR_3 _ dl_col).bnd fun _ => h.bnd fun _ => ret_3 _
theorem litS_3 {L : LitR} (hG : Goes L) (hF : Faults L b) (h : Ok3 M L b) (ct : Bool) : Ok3 M (litS L ct) (b + 1) := by
 rw [litS_eq]
 have hK : ∀ (k : Int) (v : Option Dt), k ≠ 0 → k ≠ 1 → k ≠ 2 → Ok3 M (bnd (takeK k) fun _ => ret v) (b + 1) := fun k v h0 h1 h2 => (takeK_3 k h0 h1 h2).bnd fun _ => ret_3 _
 exact aliveR_3.bnd fun al => cond_3 (tokR_3.bnd fun t => cond_3 (hK _ _ (by decide) (by decide) (by decide)) (cond_3 (hK _ _ (by decide) (by decide) (by decide)) (cond_3 (hK _ _ (by decide) (by decide) (by decide)) (cond_3 (hK _ _ (by decide) (by decide) (by decide)) (cond_3 (hK _ _ (by decide) (by decide) (by decide))
  ((isPR_3 _).bnd fun q => cond_3 ((punctR_3 _ dl_dol).bnd fun _ => nR_3.bnd fun _ => ret_3 _) ((isPR_3 _).bnd fun q => cond_3 ((brk_3 hG hF h dl_lb dl_rb 0).bnd fun _ => ret_3 _) ((isPR_3 _).bnd fun q => cond_3 ((brk_3 (argS_goes hG) (argS_faults b hF) (argS_3 h) dl_lc dl_rc 0).bnd fun _ => ret_3 _) (stopR_3 _))))))))) (ret_3 _)
theorem litF_sti (ct : Bool) (f : Nat) : Sti (litF ct f) := fun c h => by
 cases f with
 | zero => rfl
 | succ f => show (litS _ ct c).2 = c; unfold litS; rw [if_pos h]
theorem litF_3 (ct : Bool) : ∀ f, Ok3 M (litF ct f) f
 | 0 => ⟨(litF_goes ct 0).st, litF_sti ct 0, fun c hc hb => by have := hc.lt; omega, fun c hc hb => by have := hc.lt; omega⟩
 | f + 1 => litS_3 (litF_goes ct f) (litF_faults ct f) (litF_3 ct f) ct
theorem argsS_3 {L : LitR} (hG : Goes L) (hF : Faults L b) (h : Ok3 M L b) : Ok3 M (argsS L) b := by
 rw [argsS_eq]
 exact (isPR_3 _).bnd fun q => cond_3 ((brk_3 (argS_goes hG) (argS_faults b hF) (argS_3 h) dl_lp dl_rp 1).mono (Nat.le_succ _)) (aliveR_3.bnd fun a => ret_3 _)
theorem dirB_3 {L : LitR} (hG : Goes L) (hF : Faults L b) (h : Ok3 M L b) : Ok3 M (dirB L) b :=
 tokR_3.bnd fun t => (punctR_3 _ dl_at).bnd fun _ => nR_3.bnd fun n => (argsS_3 hG hF h).bnd fun r => ret_3 _
theorem dirsF_bal {L : LitR} (hG : Goes L) (hF : Faults L b) (o : Ok3 M (dirB L) b) : ∀ (g : Nat) (l : List Dt) (c : Cu), c.Ok → c.ts.length ≤ b + c.ix → c.ts.length ≤ g + c.ix → Inv c → c.kd = 0 → (dirsF L g l c).2.kd = 0 → (dirsF L g l c).2.op = c.op ∧ Inv (dirsF L g l c).2
 | 0, l, c, hc, hb, hg, hi, h0, hk => by have := hc.lt; omega
 | g + 1, l, c, hc, hb, hg, hi, h0, hk => by
  simp only [dirsF] at hk ⊢
  by_cases hp : c.isP bAt = true
  ·rw [if_pos hp] at hk ⊢
   have hgo := dirS_stp hG hc hp
   have eq1 : dirB L c = dirS L c := (dirS_eq L c hp).symm
   have hbal := o.bal c hc hb hi h0
   rw [eq1] at hbal
   cases hq : (dirS L c).1 with
   | none => rw [hq] at hk; exact absurd hk (dirS_faults hG hF hc hp hb hq)
   | some d =>
    rw [hq] at hk
    have k0 : (dirS L c).2.kd = 0 := Classical.byContradiction fun x => by
     dsimp only at hk
     rw [dirsF_still L x] at hk
     exact x hk
    obtain ⟨o1, i1⟩ := hbal k0
    have ih := dirsF_bal hG hF o g (l ++ [d]) (dirS L c).2 hgo.1.ok (by rw [hgo.1.ts]; have := hgo.2; omega) (by rw [hgo.1.ts]; have := hgo.2; omega) i1 k0 hk
    rw [o1] at ih
    exact ih
  ·rw [if_neg hp]
   exact ⟨rfl, hi⟩
theorem dirsF_dep {L : LitR} (hG : Goes L) (hF : Faults L b) (o : Ok3 M (dirB L) b) : ∀ (g : Nat) (l : List Dt) (c : Cu), c.Ok → c.ts.length ≤ b + c.ix → c.ts.length ≤ g + c.ix → Inv c → c.kd = 0 → (dirsF L g l c).2.kd = 0 → Low M c.ts c.ix → (Low M c.ts (dirsF L g l c).2.ix ∧ dirsF L g l (c.at M) = ((dirsF L g l c).1, (dirsF L g l c).2.at M)) ∨ Dd M c (dirsF L g l c).2.ix (dirsF L g l (c.at M)).2
 | 0, l, c, hc, hb, hg, hi, h0, hk, hl => by have := hc.lt; omega
 | g + 1, l, c, hc, hb, hg, hi, h0, hk, hl => by
  have eP : (c.at M).isP bAt = c.isP bAt := rfl
  simp only [dirsF] at hk ⊢
  rw [eP]
  by_cases hp : c.isP bAt = true
  ·rw [if_pos hp] at hk
   rw [if_pos hp, if_pos hp]
   have hgo := dirS_stp hG hc hp
   have eq1 : dirB L c = dirS L c := (dirS_eq L c hp).symm
   have eq2 : dirB L (c.at M) = dirS L (c.at M) := (dirS_eq L (c.at M) hp).symm
   have hbal := o.bal c hc hb hi h0
   have hdep := o.dep c hc hb hi h0
   rw [eq1] at hbal
   rw [eq1, eq2] at hdep
   cases hq : (dirS L c).1 with
   | none => rw [hq] at hk; exact absurd hk (dirS_faults hG hF hc hp hb hq)
   | some d =>
    rw [hq] at hk
    have k0 : (dirS L c).2.kd = 0 := Classical.byContradiction fun x => by
     dsimp only at hk
     rw [dirsF_still L x] at hk
     exact x hk
    obtain ⟨o1, i1⟩ := hbal k0
    have s2 := dirsF_stp hG g (l ++ [d]) _ hgo.1.ok
    rcases hdep k0 hl with ⟨l1, e1⟩ | d1
    ·rw [e1, hq]
     have ih := dirsF_dep hG hF o g (l ++ [d]) (dirS L c).2 hgo.1.ok (by rw [hgo.1.ts]; have := hgo.2; omega) (by rw [hgo.1.ts]; have := hgo.2; omega) i1 k0 hk (by rw [hgo.1.ts]; exact l1)
     rcases ih with ⟨l2, e2⟩ | d2
     ·rw [hgo.1.ts] at l2
      exact .inl ⟨l2, e2⟩
     ·exact .inr (d2.of hgo.1)
    ·right
     dsimp only
     cases hx : (dirS L (c.at M)).1 with
     | none => exact d1.to s2.ix
     | some d' => dsimp only; rw [dirsF_still L d1.dead]; exact d1.to s2.ix
  ·rw [if_neg hp, if_neg hp]
   exact .inl ⟨hl, rfl⟩
theorem dirs_3 {L : LitR} (hG : Goes L) (hF : Faults L b) (h : Ok3 M L b) : Ok3 M (dirs L) b :=
 ⟨dirs_st hG, fun c hc => by rw [dirs_still L hc], fun c hc hb hi h0 hk => dirsF_bal hG hF (dirB_3 hG hF h) _ [] c hc hb (by omega) hi h0 hk, fun c hc hb hi h0 hk hl => dirsF_dep hG hF (dirB_3 hG hF h) _ [] c hc hb (by omega) hi h0 hk hl⟩
end
open mem (decF decZ putB scB Byt posT enB)
open lx (toks chs cln tksG tkG)
theorem unm_faults {T : TypR} {b : Nat} (hF : Faults T b) : Faults (unm T) (b + 1) := by
 intro c hc hb hn
 unfold unm at hn ⊢
 by_cases hp : c.isP bLb = true
 ·rw [if_pos hp] at hn ⊢
  by_cases hB : c.opB bLb = true
  ·rw [if_pos hB] at hn ⊢
   have ho := opn_stp hc bLb
   have hx := opn_ix hB
   cases hq : (T (c.opn bLb)).1 with
   | none => exact hF _ ho.ok (by rw [ho.ts, hx]; omega) hq
   | some it =>
    rw [hq] at hn
    dsimp only at hn ⊢
    by_cases hr : (T (c.opn bLb)).2.isP bRb = true
    ·rw [if_pos hr] at hn; cases hn
    ·rw [if_neg hr]
     show ((T (c.opn bLb)).2.cls bRb).kd ≠ 0
     unfold Cu.cls
     rw [if_neg hr]
     exact stop_kd _ _ (by decide)
  ·rw [if_neg hB]
   exact opn_kd (by simpa using hB)
 ·rw [if_neg hp] at hn ⊢
  by_cases hN : c.isN = true
  ·rw [if_pos hN] at hn; cases hn
  ·rw [if_neg hN]
   exact name_kd (by simpa using hN)
theorem typF_faults : ∀ f, Faults (typF f) f
 | 0 => fun c hc hb hn => by have := hc.lt; omega
 | f + 1 => fun c hc hb hn => by
  have hu := unm_faults (typF_faults f) c hc hb
  change (typ (unm (typF f)) c).1 = none at hn
  show (typ (unm (typF f)) c).2.kd ≠ 0
  unfold typ at hn ⊢
  cases hq : (unm (typF f) c).1 with
  | none => exact hu hq
  | some r =>
   rw [hq] at hn
   dsimp only at hn
   split at hn <;> cases hn
section
variable {M b : Nat}
theorem unmI_at {T : TypR} {u : Cu} : unmI T u = (match (T u).1 with | none => (none, (T u).2) | some it => (cond ((T u).2.isP bRb) (some (it.1, it.2 ++ bRb)) none, (T u).2.cls bRb)) := by
 unfold unmI
 show (match (T u).1 with | none => ret none | some it => bnd (clsR bRb) fun cl => ret (cond cl (some (it.1, it.2 ++ bRb)) none)) (T u).2 = _
 cases (T u).1 <;> rfl
theorem cls_no {c : Cu} {p : ByteArray} (h : ¬ c.isP p = true) : (c.cls p).kd ≠ 0 := by
 unfold Cu.cls
 rw [if_neg h]
 exact stop_kd _ _ (by decide)
theorem unmO_3 {T : TypR} (hF : Faults T b) (h : Ok3 M T b) : Ok3 M (bnd (opnR bLb) fun o => cond o (unmI T) (ret none)) (b + 1) := by
 have eq : ∀ c : Cu, (bnd (opnR bLb) fun o => cond o (unmI T) (ret none)) c = cond (c.opB bLb) (unmI T) (ret none) (c.opn bLb) := fun c => rfl
 have sU : St (unmI T) := unmI_st h.st
 refine ⟨(opnR_st bLb).bnd fun o => ite_st sU (ret_st _), fun c hc => ?_, fun c hc hb hi h0 hk => ?_, fun c hc hb hi h0 hk hw => ?_⟩
 ·rw [eq]
  have hB : c.opB bLb = false := by unfold Cu.opB; rw [isP_dead hc]; rfl
  rw [hB]
  show c.opn bLb = c
  unfold Cu.opn
  rw [isP_dead hc]
  exact stop_dead _ _ hc
 ·rw [eq] at hk ⊢
  have ho := opn_stp hc bLb
  by_cases hB : c.opB bLb = true
  ·rw [hB] at hk ⊢
   simp only [cond_true] at hk ⊢
   rw [unmI_at] at hk ⊢
   obtain ⟨h1, h2, h3⟩ := opn_yes hB
   have hI := opn_inv dl_lb hB hi
   have hkd : (c.opn bLb).kd = 0 := by rw [h3]; exact h0
   have hop : (c.opn bLb).op = c.op + 1 := by rw [h3]
   have hix := opn_ix hB
   have hb' : (c.opn bLb).ts.length ≤ b + (c.opn bLb).ix := by rw [ho.ts, hix]; omega
   cases hq : (T (c.opn bLb)).1 with
   | none => rw [hq] at hk; exact absurd hk (hF _ ho.ok hb' hq)
   | some it =>
    rw [hq] at hk
    dsimp only at hk ⊢
    by_cases hr : (T (c.opn bLb)).2.isP bRb = true
    ·rw [cls_yes hr] at hk ⊢
     obtain ⟨o1, i1⟩ := h.bal _ ho.ok hb' hI hkd hk
     refine ⟨by show (T (c.opn bLb)).2.op - 1 = c.op; omega, ?_⟩
     show (((T (c.opn bLb)).2.op - 1 : Nat) : Int) = dpt (T (c.opn bLb)).2.ts ((T (c.opn bLb)).2.ix + 1)
     rw [dpt_tok, dlt_isP hr, dl_rb]
     have hi' : ((T (c.opn bLb)).2.op : Int) = dpt (T (c.opn bLb)).2.ts (T (c.opn bLb)).2.ix := i1
     omega
    ·exact absurd hk (cls_no hr)
  ·have hB' : c.opB bLb = false := by simpa using hB
   rw [hB'] at hk
   exact absurd hk (opn_kd hB')
 ·rw [eq] at hk
  rw [eq, eq]
  have ho := opn_stp hc bLb
  by_cases hB : c.opB bLb = true
  ·rw [hB] at hk ⊢
   simp only [cond_true] at hk ⊢
   have sF := sU _ ho.ok
   rw [unmI_at] at hk
   obtain ⟨h1, h2, h3⟩ := opn_yes hB
   have hI := opn_inv dl_lb hB hi
   have hkd : (c.opn bLb).kd = 0 := by rw [h3]; exact h0
   have hop : (c.opn bLb).op = c.op + 1 := by rw [h3]
   have hix := opn_ix hB
   have hb' : (c.opn bLb).ts.length ≤ b + (c.opn bLb).ix := by rw [ho.ts, hix]; omega
   rcases opn_dep dl_lb hB h0 hi hw with ⟨l1, b1, e1⟩ | ⟨b1, d1⟩
   ·rw [b1, e1]
    simp only [cond_true]
    rw [unmI_at, unmI_at] at *
    cases hq : (T (c.opn bLb)).1 with
    | none => rw [hq] at hk; exact absurd hk (hF _ ho.ok hb' hq)
    | some it =>
     rw [hq] at hk sF
     dsimp only at hk sF ⊢
     by_cases hr : (T (c.opn bLb)).2.isP bRb = true
     ·have hk2 : (T (c.opn bLb)).2.kd = 0 := by rw [cls_yes hr] at hk; exact hk
      have sT := h.st _ ho.ok
      rcases h.dep _ ho.ok hb' hI hkd hk2 (by rw [ho.ts, hix]; exact l1) with ⟨l2, e2⟩ | d2
      ·rw [e2, hq]
       dsimp only
       have hr' : ((T (c.opn bLb)).2.at M).isP bRb = true := hr
       rw [cls_yes hr, cls_yes hr', hr, hr']
       left
       rw [ho.ts] at l2
       refine ⟨l2.succ ?_, rfl⟩
       have : dpt c.ts ((T (c.opn bLb)).2.ix + 1) = dpt c.ts (T (c.opn bLb)).2.ix + -1 := by
        have e := dpt_tok (T (c.opn bLb)).2
        rw [dlt_isP hr, dl_rb, sT.ts, ho.ts] at e
        exact e
       rw [this]
       have := l2.top
       omega
      ·right
       have hdd := d2.dead
       have := sF.ix
       have s3 := cls_stp sT.ok bRb
       cases hx : (T ((c.opn bLb).at M)).1 with
       | none => exact (d2.to s3.ix).of ho
       | some it' =>
        dsimp only
        have : (T ((c.opn bLb).at M)).2.cls bRb = (T ((c.opn bLb).at M)).2 := by unfold Cu.cls; rw [isP_dead hdd]; exact stop_dead _ _ hdd
        rw [this]
        exact (d2.to s3.ix).of ho
     ·exact absurd hk (cls_no hr)
   ·rw [b1]
    simp only [cond_false]
    exact .inr (d1 _ (by have := sF.ix; omega))
  ·have hB' : c.opB bLb = false := by simpa using hB
   rw [hB'] at hk
   exact absurd hk (opn_kd hB')
theorem unm_3 {T : TypR} (hF : Faults T b) (h : Ok3 M T b) : Ok3 M (unm T) (b + 1) := by
 rw [unm_eq]
 exact (isPR_3 _).bnd fun q => cond_3 (unmO_3 hF h) (nR_3.bnd fun n => ret_3 _)
theorem typF_3 : ∀ f, Ok3 M (typF f) f
 | 0 => ⟨typF_st 0, fun c hc => rfl, fun c hc hb => by have := hc.lt; omega, fun c hc hb => by have := hc.lt; omega⟩
 | f + 1 => by
  show Ok3 M (typ (unm (typF f))) (f + 1)
  rw [typ_eq]
  exact (unm_3 (typF_faults f) (typF_3 f)).bnd fun r => by
   cases r with
   | none => exact ret_3 _
   | some r => exact (punctR_3 _ dl_bang).bnd fun q => ret_3 _
theorem defsF_sti {D : LitR} (hD : Sti D) : ∀ (g : Nat) (l : List Dt) (c : Cu), c.kd ≠ 0 → (defsF D g l c).2 = c
 | 0, l, c, h => rfl
 | g + 1, l, c, h => by
  simp only [defsF]
  split
  ·have h1 := hD c h
   cases hq : (D c).1 with
   | none => exact h1
   | some d => dsimp only; rw [h1]; exact defsF_sti hD g _ c h
  ·show c.fin = c
   unfold Cu.fin
   split
   ·rfl
   ·exact stop_dead _ _ h
theorem defsF_dep {D : LitR} (hG : Goes D) (hF : Faults D b) (o : Ok3 M D b) : ∀ (g : Nat) (l : List Dt) (c : Cu), c.Ok → c.ts.length ≤ b + c.ix → c.ts.length ≤ g + c.ix → Inv c → c.kd = 0 → (defsF D g l c).2.kd = 0 → Low M c.ts c.ix → (Low M c.ts (defsF D g l c).2.ix ∧ defsF D g l (c.at M) = ((defsF D g l c).1, (defsF D g l c).2.at M)) ∨ Dd M c (defsF D g l c).2.ix (defsF D g l (c.at M)).2
 | 0, l, c, hc, hb, hg, hi, h0, hk, hl => by have := hc.lt; omega
 | g + 1, l, c, hc, hb, hg, hi, h0, hk, hl => by
  have eT : (c.at M).tok = c.tok := rfl
  simp only [defsF] at hk ⊢
  rw [eT]
  by_cases hq : l.length = 0 ∨ c.tok.k ≠ 0
  ·rw [if_pos hq] at hk
   rw [if_pos hq, if_pos hq]
   have hgo := hG c hc
   cases he : (D c).1 with
   | none => rw [he] at hk; exact absurd hk (hF c hc hb he)
   | some d =>
    rw [he] at hk
    have k0 : (D c).2.kd = 0 := Classical.byContradiction fun x => by
     dsimp only at hk
     rw [defsF_sti o.sti g _ _ x] at hk
     exact x hk
    obtain ⟨o1, i1⟩ := o.bal c hc hb hi h0 k0
    have i2 := hgo.2 (by rw [he]; rfl)
    have s2 := defsF_stp hG g (l ++ [d]) _ hgo.1.ok
    rcases o.dep c hc hb hi h0 k0 hl with ⟨l1, e1⟩ | d1
    ·rw [e1, he]
     have ih := defsF_dep hG hF o g (l ++ [d]) (D c).2 hgo.1.ok (by rw [hgo.1.ts]; omega) (by rw [hgo.1.ts]; omega) i1 k0 hk (by rw [hgo.1.ts]; exact l1)
     rcases ih with ⟨l2, e2⟩ | d2
     ·rw [hgo.1.ts] at l2
      exact .inl ⟨l2, e2⟩
     ·exact .inr (d2.of hgo.1)
    ·right
     dsimp only
     have hdd := d1.dead
     cases hx : (D (c.at M)).1 with
     | none => exact d1.to s2.ix
     | some d' => dsimp only; rw [defsF_sti o.sti g _ _ hdd]; exact d1.to s2.ix
  ·rw [if_neg hq] at hk
   rw [if_neg hq, if_neg hq]
   left
   have hf : c.finB = true := by
    cases hf : c.finB with
    | true => rfl
    | false =>
     have : c.fin.kd = 0 := hk
     unfold Cu.fin at this
     rw [hf] at this
     exact absurd this (stop_kd _ _ (by decide))
   have hf' : (c.at M).finB = true := hf
   have e1 : c.fin = c := if_pos hf
   have e2 : (c.at M).fin = c.at M := if_pos hf'
   rw [e1, e2, hf, hf']
   exact ⟨hl, rfl⟩
end
open mem (posT Byt)
theorem defsF_live3 (D : LitR) : ∀ (g : Nat) (l : List Dt) (c : Cu), (defsF D g l c).1.isSome = true → (defsF D g l c).2.kd = 0 ∧ (defsF D g l c).2.tok.k = 0
 | 0, l, c, h => by cases h
 | g + 1, l, c, h => by
  simp only [defsF] at h ⊢
  split at h
  ·rename_i hc
   rw [if_pos hc]
   cases hq : (D c).1 with
   | none => rw [hq] at h; cases h
   | some d => rw [hq] at h; exact defsF_live3 D g _ _ h
  ·rename_i hc
   rw [if_neg hc]
   show c.fin.kd = 0 ∧ c.fin.tok.k = 0
   cases hf : c.finB with
   | false => rw [hf] at h; cases h
   | true => unfold Cu.fin; rw [if_pos hf]; exact of_decide_eq_true hf
theorem tks_last3 (l : List Int) (cl : Bool) : ∀ (m i : Nat) (t : Tk), i ≤ l.length → (tksG l cl i)[m]? = some t → t.k = 0 ∨ t.k = 1 → (tksG l cl i).length = m + 1
 | 0, i, t, hi, h, hk => by
  by_cases he : (tkG l cl i).k = 0 ∨ (tkG l cl i).k = 1
  ·rw [lx.tksG_end he]; rfl
  ·rw [lx.tksG_go hi he] at h; simp at h; subst h; exact absurd hk he
 | m + 1, i, t, hi, h, hk => by
  have hle := lx.tkG_le l cl i hi
  by_cases he : (tkG l cl i).k = 0 ∨ (tkG l cl i).k = 1
  ·rw [lx.tksG_end he] at h; simp at h
  ·rw [lx.tksG_go hi he] at h ⊢
   have := tks_last3 l cl m _ t hle.2.1 (by simpa using h) hk
   simp; omega
theorem dlt_le (t : Tk) : dlt t ≤ 1 ∧ -1 ≤ dlt t := by
 unfold dlt
 split
 ·split
  ·omega
  ·split <;> omega
 ·omega
theorem dl_amp : dlt (pk bAmp) = 0 := by decide
theorem dl_pipe : dlt (pk bPipe) = 0 := by decide
section
variable {M b : Nat}
theorem namR_3 : Ok3 M namR b := prim3 namR_st (fun c h => name_still h) (fun c h0 hk => nmC_1 (fun e => e) hk) (fun c => by
 show (nm3 c.tok c.isN, (c.at M).nmC c.isN) = (nm3 c.tok c.isN, (c.nmC c.isN).at M)
 rw [nmC_at])
theorem butN_3 (ws : List ByteArray) : Ok3 M (butN ws) b := prim3 (butN_st ws) (fun c h => nmC_sti h (fun e => by simp at e; exact e.1)) (fun c h0 hk => nmC_1 (fun e => by simp at e; exact e.1) hk) (fun c => by
 show (nm3 c.tok _, (c.at M).nmC _) = (nm3 c.tok _, (c.nmC _).at M)
 rw [nmC_at]; rfl)
theorem wwN_3 (ws : List ByteArray) : Ok3 M (wwN ws) b := prim3 (wwN_st ws) (fun c h => nmC_sti h (fun e => isW_N e)) (fun c h0 hk => nmC_1 (fun e => isW_N e) hk) (fun c => by
 show (nm3 c.tok (c.isW ws), (c.at M).nmC _) = (nm3 c.tok (c.isW ws), (c.nmC _).at M)
 rw [nmC_at]; rfl)
theorem noteR_3 : Ok3 M noteR b := prim3 noteR_st noteR_m (fun c h0 hk => by
 unfold noteR
 split
 ·rename_i hs
  exact .inr ⟨rfl, dlt_k (by have := (isS_k hs).2; omega)⟩
 ·exact .inl rfl) (fun c => by
 show (if c.isS then ((true, decide (c.tok.k = 7), c.tok.va), (c.at M).take) else ((false, false, em), c.at M)) = ((noteR c).1, (noteR c).2.at M)
 unfold noteR
 split <;> rfl)
theorem optR_3 {E : Cu → Dt × Cu} (h : Ok3 M E b) : Ok3 M (optR E) b := h.bnd fun d => aliveR_3.bnd fun a => ret_3 _
theorem brkT_3 {E : Cu → Dt × Cu} (hG : Goes (optR E)) (h : Ok3 M E b) {l r : ByteArray} (hl : dlt (pk l) = 1) (hr : dlt (pk r) = -1) : Ok3 M (brkT E l r) b :=
 ((brk_3 hG (optR_faults b) (optR_3 h) hl hr 1).mono (Nat.le_succ _)).bnd fun _ => ret_3 _
theorem optT_3 {E : Cu → Dt × Cu} (hG : Goes (optR E)) (h : Ok3 M E b) {l r : ByteArray} (hl : dlt (pk l) = 1) (hr : dlt (pk r) = -1) : Ok3 M (optT E l r) b :=
 (isPR_3 l).bnd fun q => cond_3 (brkT_3 hG h hl hr) (ret_3 _)
theorem parF_3 {E : Cu → Nm × Cu} {k : ByteArray} (hk : dlt (pk k) = 0) (h : Ok3 M E b) : ∀ (g : Nat) (l : List Dt), Ok3 M (parF E k g l) b
 | 0, l => ret_3 l
 | g + 1, l => (punctR_3 k hk).bnd fun q => cond_3 (h.bnd fun d => parF_3 hk h g _) (ret_3 l)
theorem parT_3 {E : Cu → Nm × Cu} {k : ByteArray} (hk : dlt (pk k) = 0) (h : Ok3 M E b) (N : Nat) : Ok3 M (parT N E k) b := (punctR_3 k hk).bnd fun _ => h.bnd fun d => parF_3 hk h N _
end
section
variable {M : Nat} (N : Nat)
theorem dirsL_3 : Ok3 M (dirs (litF true N)) N := dirs_3 (litF_goes true N) (litF_faults true N) (litF_3 true N)
theorem inp_3 : Ok3 M (inpT (typF N) (litF true N)) N := noteR_3.bnd fun _ => namR_3.bnd fun _ => (wantR_3 _ dl_col).bnd fun _ => (typF_3 N).bnd fun _ => (punctR_3 _ dl_eq).bnd fun q => (cond_3 (litF_3 true N) (ret_3 _)).bnd fun _ => (dirsL_3 N).bnd fun _ => ret_3 _
theorem fd_3 : Ok3 M (fdT (typF N) (litF true N)) N := noteR_3.bnd fun _ => namR_3.bnd fun _ => (optT_3 (inp_go N) (inp_3 N) dl_lp dl_rp).bnd fun _ => (wantR_3 _ dl_col).bnd fun _ => (typF_3 N).bnd fun _ => (dirsL_3 N).bnd fun _ => ret_3 _
theorem cho_3 : Ok3 M (choT (litF true N)) N := noteR_3.bnd fun _ => (butN_3 _).bnd fun _ => (dirsL_3 N).bnd fun _ => ret_3 _
theorem roo_3 {b : Nat} : Ok3 M rooT b := (wwN_3 _).bnd fun _ => (wantR_3 _ dl_col).bnd fun _ => namR_3.bnd fun _ => ret_3 _
theorem nmd_3 {b : Nat} (s : Sy) : Ok3 M (nmdT s) b := namR_3.bnd fun _ => ret_3 _
theorem sch_3 (s : Sy) : Ok3 M (schT (litF true N) s) N := (dirsL_3 N).bnd fun _ => (isPR_3 _).bnd fun q => (cond_3 (brkT_3 roo_go roo_3 dl_lc dl_rc) (ret_3 _)).bnd fun _ => ret_3 _
theorem sca_3 (s : Sy) : Ok3 M (scaT (litF true N) s) N := (nmd_3 s).bnd fun _ => (dirsL_3 N).bnd fun _ => ret_3 _
theorem obj_3 (s : Sy) : Ok3 M (objT (typF N) (litF true N) N s) N := (nmd_3 s).bnd fun _ => (wordR_3 _).bnd fun q => (cond_3 (parT_3 dl_amp namR_3 N) (ret_3 _)).bnd fun _ => (dirsL_3 N).bnd fun _ => (optT_3 (fd_go N) (fd_3 N) dl_lc dl_rc).bnd fun _ => ret_3 _
theorem uni_3 (s : Sy) : Ok3 M (uniT (litF true N) N s) N := (nmd_3 s).bnd fun _ => (dirsL_3 N).bnd fun _ => (punctR_3 _ dl_eq).bnd fun q => (cond_3 (parT_3 dl_pipe namR_3 N) (ret_3 _)).bnd fun _ => ret_3 _
theorem enu_3 (s : Sy) : Ok3 M (enuT (litF true N) s) N := (nmd_3 s).bnd fun _ => (dirsL_3 N).bnd fun _ => (optT_3 (cho_go N) (cho_3 N) dl_lc dl_rc).bnd fun _ => ret_3 _
theorem inu_3 (s : Sy) : Ok3 M (inuT (typF N) (litF true N) s) N := (nmd_3 s).bnd fun _ => (dirsL_3 N).bnd fun _ => (optT_3 (inp_go N) (inp_3 N) dl_lc dl_rc).bnd fun _ => ret_3 _
theorem dird_3 (s : Sy) : Ok3 M (dirT (typF N) (litF true N) N s) N := (wantR_3 _ dl_at).bnd fun _ => (nmd_3 s).bnd fun _ => (optT_3 (inp_go N) (inp_3 N) dl_lp dl_rp).bnd fun _ => (wordR_3 _).bnd fun _ => (wwR_3 _).bnd fun _ => (parT_3 dl_pipe (wwN_3 _) N).bnd fun _ => ret_3 _
theorem kw_3 {b : Nat} (q : ByteArray) {E F : Cu → Sy × Cu} (h : Ok3 M E b) (k : Ok3 M F b) : Ok3 M (kwT q E F) b := (wordR_3 q).bnd fun _ => cond_3 h k
theorem key_3 (s : Sy) : Ok3 M (keyT (typF N) (litF true N) N s) N := tokR_3.bnd fun t =>
 kw_3 _ (sch_3 N _) (kw_3 _ (sca_3 N _) (kw_3 _ (obj_3 N _) (kw_3 _ (obj_3 N _) (kw_3 _ (uni_3 N _) (kw_3 _ (enu_3 N _) (kw_3 _ (inu_3 N _) (cond_3 (stopR_3 _) (kw_3 _ (dird_3 N _) (stopR_3 _)))))))))
theorem def_3 : Ok3 M (defT (typF N) (litF true N) N) N := noteR_3.bnd fun n => (cond_3 (ret_3 _) (wordR_3 _)).bnd fun x => (key_3 N _).bnd fun s => cond_3 (stopR_3 _) (ret_3 _)
theorem sd_3 : Ok3 M (sdN N) N := optR_3 (def_3 N)
theorem sdoc_dep (c : Cu) (hc : c.Ok) (hi : Inv c) (h0 : c.kd = 0) (hk : (sdocS c).2.kd = 0) (hl : Low M c.ts c.ix) : (Low M c.ts (sdocS c).2.ix ∧ sdocS (c.at M) = ((sdocS c).1, (sdocS c).2.at M)) ∨ Dd M c (sdocS c).2.ix (sdocS (c.at M)).2 :=
 defsF_dep (sd_go _) (sd_faults _ _) (sd_3 _) _ [] c hc (by omega) (by omega) hi h0 hk hl
end
def opS (L : Int) (i : Nat) (s : Int × Int × Int) (t : Tk) : Int × Int × Int :=
 if t.k = 2 then (s.1 + dlt t, if s.2.1 < s.1 + dlt t then s.1 + dlt t else s.2.1, if L < s.1 + dlt t ∧ s.2.2 < 0 then (i : Int) else s.2.2) else s
def ops (L : Int) (ts : List Tk) : Nat → Int × Int × Int
 | 0 => (0, 0, -1)
 | i + 1 => opS L i (ops L ts i) (ts.getD i Tk.zero)
theorem ops_fst (L : Int) (ts : List Tk) : ∀ i, (ops L ts i).1 = dpt ts i
 | 0 => rfl
 | i + 1 => by
  have ih := ops_fst L ts i
  simp only [ops, dpt, opS]
  generalize ts.getD i Tk.zero = t
  split
  ·show (ops L ts i).1 + dlt t = _
   omega
  ·rename_i h
   rw [dlt_k h]
   omega
theorem ops_bd (L : Int) (ts : List Tk) : ∀ i : Nat, -(i : Int) ≤ (ops L ts i).1 ∧ (ops L ts i).1 ≤ i ∧ 0 ≤ (ops L ts i).2.1 ∧ (ops L ts i).2.1 ≤ i ∧ -1 ≤ (ops L ts i).2.2 ∧ (ops L ts i).2.2 ≤ i
 | 0 => by simp [ops]
 | i + 1 => by
  have ih := ops_bd L ts i
  simp only [ops, opS]
  generalize ts.getD i Tk.zero = t
  have hd := dlt_le t
  split
  ·refine ⟨?_, ?_, ?_, ?_, ?_, ?_⟩
   ·show -((i + 1 : Nat) : Int) ≤ (ops L ts i).1 + dlt t
    omega
   ·show (ops L ts i).1 + dlt t ≤ ((i + 1 : Nat) : Int)
    omega
   ·show 0 ≤ (if (ops L ts i).2.1 < (ops L ts i).1 + dlt t then (ops L ts i).1 + dlt t else (ops L ts i).2.1)
    split <;> omega
   ·show (if (ops L ts i).2.1 < (ops L ts i).1 + dlt t then (ops L ts i).1 + dlt t else (ops L ts i).2.1) ≤ ((i + 1 : Nat) : Int)
    split <;> omega
   ·show -1 ≤ (if L < (ops L ts i).1 + dlt t ∧ (ops L ts i).2.2 < 0 then (i : Int) else (ops L ts i).2.2)
    split <;> omega
   ·show (if L < (ops L ts i).1 + dlt t ∧ (ops L ts i).2.2 < 0 then (i : Int) else (ops L ts i).2.2) ≤ ((i + 1 : Nat) : Int)
    split <;> omega
  ·omega
theorem ops_most (L : Int) (ts : List Tk) : ∀ i, (∀ j, j ≤ i → dpt ts j ≤ (ops L ts i).2.1) ∧ ∃ j, j ≤ i ∧ (ops L ts i).2.1 = dpt ts j
 | 0 => ⟨fun j hj => by (obtain rfl : j = 0 := (by omega)); exact Int.le_refl _, 0, Nat.le_refl _, rfl⟩
 | i + 1 => by
  obtain ⟨h1, j0, hj0, h2⟩ := ops_most L ts i
  have e1 := ops_fst L ts i
  have e2 := ops_fst L ts (i + 1)
  have hi := h1 i (Nat.le_refl _)
  have key : (ops L ts (i + 1)).2.1 = max (ops L ts i).2.1 (dpt ts (i + 1)) := by
   rw [← e2]
   simp only [ops, opS]
   generalize ts.getD i Tk.zero = t
   split
   ·show (if (ops L ts i).2.1 < (ops L ts i).1 + dlt t then (ops L ts i).1 + dlt t else (ops L ts i).2.1) = max (ops L ts i).2.1 ((ops L ts i).1 + dlt t)
    split <;> omega
   ·omega
  rw [key]
  refine ⟨fun j hj => ?_, ?_⟩
  ·rcases Nat.lt_or_ge i j with g | g
   ·obtain rfl : j = i + 1 := by omega
    omega
   ·have := h1 j g; omega
  ·by_cases hm : dpt ts (i + 1) ≤ (ops L ts i).2.1
   ·exact ⟨j0, by omega, by omega⟩
   ·exact ⟨i + 1, Nat.le_refl _, by omega⟩
theorem ops_none (M : Nat) (ts : List Tk) : ∀ i, Low M ts i → (ops M ts i).2.2 = -1
 | 0, _ => rfl
 | i + 1, h => by
  have ih := ops_none M ts i (fun j hj => h j (by omega))
  have e1 := ops_fst M ts (i + 1)
  have h1 := h i (Nat.lt_succ_self _)
  rw [← e1] at h1
  simp only [ops, opS] at h1 ⊢
  generalize ts.getD i Tk.zero = t at h1 ⊢
  split at h1
  ·rename_i hk
   rw [if_pos hk]
   have h1' : (ops M ts i).1 + dlt t ≤ (M : Int) := h1
   show (if (M : Int) < (ops M ts i).1 + dlt t ∧ (ops M ts i).2.2 < 0 then (i : Int) else (ops M ts i).2.2) = -1
   rw [if_neg (fun x => by omega)]
   exact ih
  ·rename_i hk
   rw [if_neg hk]
   exact ih
theorem ops_some (M : Nat) (ts : List Tk) (j : Nat) (hl : Low M ts j) (hj : (M : Int) < dpt ts (j + 1)) : ∀ i, j < i → (ops M ts i).2.2 = (j : Int)
 | 0, h => by omega
 | i + 1, h => by
  rcases Nat.lt_or_ge j i with g | g
  ·have ih := ops_some M ts j hl hj i g
   simp only [ops, opS]
   generalize ts.getD i Tk.zero = t
   split
   ·show (if (M : Int) < (ops M ts i).1 + dlt t ∧ (ops M ts i).2.2 < 0 then (i : Int) else (ops M ts i).2.2) = (j : Int)
    rw [if_neg (fun x => by omega)]
    exact ih
   ·exact ih
  ·obtain rfl : i = j := by omega
   have ih := ops_none M ts i hl
   have e0 := ops_fst M ts i
   have ht := hl.top
   have hd : dpt ts (i + 1) = dpt ts i + dlt (ts.getD i Tk.zero) := rfl
   rw [hd] at hj
   simp only [ops, opS]
   generalize ts.getD i Tk.zero = t at hj ⊢
   have hk : t.k = 2 := Classical.byContradiction fun x => by rw [dlt_k x] at hj; omega
   rw [if_pos hk]
   show (if (M : Int) < (ops M ts i).1 + dlt t ∧ (ops M ts i).2.2 < 0 then (i : Int) else (ops M ts i).2.2) = (i : Int)
   rw [if_pos ⟨by omega, by omega⟩]
theorem sdoc_depth (z : List Int) (d : Int) (l : List Dt) (hd : (sdocG z 200).1 = some l) :
  ((ops (mostS d) (toks z) (toks z).length).2.1 ≤ mostS d ∧ (sdocG z d).1 = some l ∧ (sdocG z d).2.kd = 0) ∨
  ((mostS d : Int) < (ops (mostS d) (toks z) (toks z).length).2.1 ∧ (sdocG z d).1 = none ∧ (sdocG z d).2.kd = 71 ∧ (ops (mostS d) (toks z) (toks z).length).2.2 = ((sdocG z d).2.ix : Int)) := by
 have hok := newG_ok' z 200
 obtain ⟨c, hc⟩ : ∃ c, c = newG z 200 := ⟨_, rfl⟩
 have hts : c.ts = toks z := by rw [hc]; rfl
 have hix : c.ix = 0 := by rw [hc]; rfl
 have hkd : c.kd = 0 := by rw [hc]; rfl
 have hinv : Inv c := by rw [hc]; rfl
 have hlow : ∀ M, Low M c.ts c.ix := fun M j hj => by omega
 have hat : ∀ d, newG z d = c.at (mostS d) := fun d => by rw [hc]; rfl
 have hkk := sdocG_alive z d
 unfold sdocG at hd hkk ⊢
 rw [← hc] at hd hok
 rw [hat] at hkk ⊢
 obtain ⟨k0, kt⟩ := defsF_live3 _ _ _ _ (show (sdocS c).1.isSome = true by rw [hd]; rfl)
 have hst : Stp c (sdocS c).2 := sdoc_stp _ hok
 have hlast : (toks z).length = (sdocS c).2.ix + 1 := by
  have hg := (sdocS c).2.get hst.ok.lt
  rw [hst.ts, hts] at hg
  exact tks_last3 (chs z) (cln z) _ 0 _ (Nat.zero_le _) hg (.inl kt)
 have hdlt : dpt (toks z) ((sdocS c).2.ix + 1) = dpt (toks z) (sdocS c).2.ix := by
  have e := dpt_tok (sdocS c).2
  rw [hst.ts, hts, dlt_k (by show (sdocS c).2.tok.k ≠ 2; rw [show (sdocS c).2.tok.k = 0 from kt]; decide)] at e
  omega
 have hall : ∀ M, Low M (toks z) (sdocS c).2.ix → Low M (toks z) (toks z).length := fun M h => by
  rw [hlast]
  exact h.succ (by rw [hdlt]; exact h.top)
 obtain ⟨hm1, jm, hjm, hm2⟩ := ops_most (mostS d) (toks z) (toks z).length
 rcases sdoc_dep (M := mostS d) c hok hinv hkd k0 (hlow _) with ⟨l1, e1⟩ | ⟨j, o, h1, h2, h3, h4, h5⟩
 ·left
  rw [hts] at l1
  have hL := hall _ l1
  have hsm : (sdocS (c.at (mostS d))).1 = some l := by rw [e1]; exact hd
  refine ⟨?_, hsm, (hkk l hsm).1⟩
  rw [hm2]
  cases jm with
  | zero => exact Int.natCast_nonneg _
  | succ j => exact hL j (by omega)
 ·right
  rw [hts] at h3 h4 h5
  have := hm1 (j + 1) (by omega)
  have hjl : j < (toks z).length := by omega
  refine ⟨by omega, ?_, by rw [h5], ?_⟩
  ·cases hq : (sdocS (c.at (mostS d))).1 with
   | none => rfl
   | some l' =>
    exfalso
    have h6 := (hkk l' hq).1
    rw [h5] at h6
    exact absurd (show (71 : Int) = 0 from h6) (by decide)
  ·rw [ops_some (mostS d) (toks z) j h3 h4 _ hjl, h5]
open Go.ChangeShapes Go.WideShapes Go.ChangeAt Go.RowKit
open ints (Hi uh)
open dt (Dt Kp RowAt Ow Grow OwIn)
open mem (Row)
open lx (toks chs cln)
theorem dlt_no {t : Tk} (h0 : t.tx ≠ bLp) (h1 : t.tx ≠ bLb) (h2 : t.tx ≠ bLc) (h3 : t.tx ≠ bRp) (h4 : t.tx ≠ bRb) (h5 : t.tx ≠ bRc) : dlt t = 0 := by
 unfold dlt
 split
 ·rw [if_neg (fun x => by rcases x with x | x | x; exact h0 x; exact h1 x; exact h2 x), if_neg (fun x => by rcases x with x | x | x; exact h3 x; exact h4 x; exact h5 x)]
 ·rfl
theorem opS_at {L : Int} {i : Nat} {o m f o' m' f' : Int} {t : Tk} (hk : t.k = 2) (ho : o + dlt t = o') (hm : (m < o' ∧ m' = o') ∨ (¬ m < o' ∧ m' = m)) (hf : (L < o' ∧ f < 0 ∧ f' = (i : Int)) ∨ (¬ (L < o' ∧ f < 0) ∧ f' = f)) : opS L i (o, m, f) t = (o', m', f') := by
 unfold opS
 rw [if_pos hk]
 show (o + dlt t, if m < o + dlt t then o + dlt t else m, if L < o + dlt t ∧ f < 0 then (i : Int) else f) = _
 rw [ho]
 rcases hm with ⟨h1, rfl⟩ | ⟨h1, rfl⟩
 ·rw [if_pos h1]
  rcases hf with ⟨h2, h3, rfl⟩ | ⟨h2, rfl⟩
  ·rw [if_pos ⟨h2, h3⟩]
  ·rw [if_neg h2]
 ·rw [if_neg h1]
  rcases hf with ⟨h2, h3, rfl⟩ | ⟨h2, rfl⟩
  ·rw [if_pos ⟨h2, h3⟩]
  ·rw [if_neg h2]
theorem opS_rel {w wr : World} {n k : Nat} {ts : List Tk} {i : Value} {L : Int} {o m f o' m' f' : Int} {t : Tk} (hst : ops L ts (k + 1) = opS L k (o, m, f) t) (hk : t.k = 2) (ho : o + dlt t = o') (hm : (m < o' ∧ m' = o') ∨ (¬ m < o' ∧ m' = m)) (hf : (L < o' ∧ f < 0 ∧ f' = (k : Int)) ∨ (¬ (L < o' ∧ f < 0) ∧ f' = f)) (hn : k + 1 ≤ n) (hi : i = .int .i64 (k + 1 : Nat)) (hb : Below w.heap.size w wr) :
  ∃ k : Nat, k ≤ n ∧ i = .int .i64 k ∧ .int .i64 o' = Value.int .i64 (ops L ts k).1 ∧ .int .i64 m' = Value.int .i64 (ops L ts k).2.1 ∧ .int .i64 f' = Value.int .i64 (ops L ts k).2.2 ∧ Below w.heap.size w wr := by
 have e := hst.trans (opS_at hk ho hm hf)
 exact ⟨k + 1, hn, hi, by rw [e], by rw [e], by rw [e], hb⟩
set_option maxHeartbeats 8000000 in
set_option maxRecDepth 4000 in
theorem opens_ok (p n cap : Nat) (ts : List Tk) (L : Int) (w : World) (hn : ts.length = n) (hn2 : n ≤ 4294967296) (hL : 0 ≤ L ∧ L ≤ 200) (hp : p < w.heap.size) (hrows : ∀ i u, ts[i]? = some u → RowAt w p (i * 7) u.cells) :
  Calls Tryz.prog 15 #[.slice (some ⟨p, 0, none⟩) n cap, .int .i64 L] w fun e w' => e = .returned (.tuple #[.int .i64 (ops L ts n).2.1, .int .i64 (ops L ts n).2.2]) ∧ Below w.heap.size w w' := by
 have hR0 := Hi hrows
 have HN := Hi hn
 clear hrows hn
 go_enter Tryz.func15, Tryz.ntmps15
 go_wp2_with fail
 go_loopw [6, 7, 8, 9] (fun mv ov fv i wr => ∃ k : Nat, k ≤ n ∧ i = .int .i64 k ∧ ov = .int .i64 (ops L ts k).1 ∧ mv = .int .i64 (ops L ts k).2.1 ∧ fv = .int .i64 (ops L ts k).2.2 ∧ Below w.heap.size w wr) (fun _ _ _ i _ => n - (intOf i).toNat)
 case atStart => exact ⟨0, Nat.zero_le _, rfl, rfl, rfl, rfl, Below.refl _ _⟩
 case round =>
  obtain ⟨k, hk, rfl, rfl, rfl, rfl, hI⟩ := hrel
  have hbd := ops_bd L ts k
  by_cases hkn : k < n
  ·have ki : (k : Int) < (n : Int) := by omega
   have hkl : k < ts.length := by rw [uh HN]; exact hkn
   have hget := List.getElem?_eq_getElem hkl
   have hgd : ts.getD k Tk.zero = ts[k] := by rw [List.getD_eq_getElem?_getD, hget]; rfl
   obtain ⟨u, hu⟩ : ∃ u, u = ts[k] := ⟨_, rfl⟩
   rw [← hu] at hget hgd
   clear hu
   have hst : ops L ts (k + 1) = opS L k (ops L ts k) u := by rw [← hgd]; rfl
   have hrow7 := (uh hR0) k u hget
   unfold Tk.cells at hrow7
   have hc := fun (q : Nat) (v : Value) hv => (hI.cell (p := ⟨p, k * 7 + q, none⟩) hp).trans (hrow7 q v hv)
   have m0 : wr.cell? ⟨p, k * 7, none⟩ = some (.int .i64 u.k) := hc 0 _ rfl
   have m5 : wr.cell? ⟨p, k * 7 + 5, none⟩ = some (.string u.tx) := hc 5 _ rfl
   obtain ⟨s, hs⟩ : ∃ s, s = ops L ts k := ⟨_, rfl⟩
   rw [← hs] at hst hbd ⊢
   have HST := Hi hst
   obtain ⟨o, m, f⟩ := s
   obtain ⟨uk, ul, uo, uf, ug, ux, uv⟩ := u
   simp only at m0 m5 hbd
   clear hc hrow7 hs hst hget hgd hkl
   simp only
   by_cases h2 : uk = 2
   ·subst h2
    by_cases q0 : ux = ⟨#[40]⟩
    ·skip
     subst q0
     have w1 : IntKind.i64.wrap (o + 1) = o + 1 := by rw [IntKind.wrap_i64]; omega
     have hde := Hi (show o + dlt ⟨2, ul, uo, uf, ug, ⟨#[40]⟩, uv⟩ = (o + 1) from by have := (dlt_pk (t := ⟨2, ul, uo, uf, ug, ⟨#[40]⟩, uv⟩) (p := bLp) rfl rfl).trans dl_lp; omega)
     by_cases hm : m < (o + 1) <;> by_cases hL1 : L < (o + 1) <;> by_cases hf : f < 0 <;> (
      go_wp2_with fail
      go_roundw
      case rel => exact opS_rel (uh HST) rfl (uh hde) (by first | exact .inl ⟨hm, rfl⟩ | exact .inr ⟨hm, rfl⟩) (by first | exact .inl ⟨hL1, hf, rfl⟩ | exact .inr ⟨fun x => hL1 x.1, rfl⟩ | exact .inr ⟨fun x => hf x.2, rfl⟩) (by omega) (by go_num) hI
      case measure => first | (simp [intOf]; omega) | simp [intOf])
    ·skip
     by_cases q1 : ux = ⟨#[91]⟩
     ·skip
      subst q1
      have w1 : IntKind.i64.wrap (o + 1) = o + 1 := by rw [IntKind.wrap_i64]; omega
      have hde := Hi (show o + dlt ⟨2, ul, uo, uf, ug, ⟨#[91]⟩, uv⟩ = (o + 1) from by have := (dlt_pk (t := ⟨2, ul, uo, uf, ug, ⟨#[91]⟩, uv⟩) (p := bLb) rfl rfl).trans dl_lb; omega)
      by_cases hm : m < (o + 1) <;> by_cases hL1 : L < (o + 1) <;> by_cases hf : f < 0 <;> (
       go_wp2_with fail
       go_roundw
       case rel => exact opS_rel (uh HST) rfl (uh hde) (by first | exact .inl ⟨hm, rfl⟩ | exact .inr ⟨hm, rfl⟩) (by first | exact .inl ⟨hL1, hf, rfl⟩ | exact .inr ⟨fun x => hL1 x.1, rfl⟩ | exact .inr ⟨fun x => hf x.2, rfl⟩) (by omega) (by go_num) hI
       case measure => first | (simp [intOf]; omega) | simp [intOf])
     ·skip
      by_cases q2 : ux = ⟨#[123]⟩
      ·skip
       subst q2
       have w1 : IntKind.i64.wrap (o + 1) = o + 1 := by rw [IntKind.wrap_i64]; omega
       have hde := Hi (show o + dlt ⟨2, ul, uo, uf, ug, ⟨#[123]⟩, uv⟩ = (o + 1) from by have := (dlt_pk (t := ⟨2, ul, uo, uf, ug, ⟨#[123]⟩, uv⟩) (p := bLc) rfl rfl).trans dl_lc; omega)
       by_cases hm : m < (o + 1) <;> by_cases hL1 : L < (o + 1) <;> by_cases hf : f < 0 <;> (
        go_wp2_with fail
        go_roundw
        case rel => exact opS_rel (uh HST) rfl (uh hde) (by first | exact .inl ⟨hm, rfl⟩ | exact .inr ⟨hm, rfl⟩) (by first | exact .inl ⟨hL1, hf, rfl⟩ | exact .inr ⟨fun x => hL1 x.1, rfl⟩ | exact .inr ⟨fun x => hf x.2, rfl⟩) (by omega) (by go_num) hI
        case measure => first | (simp [intOf]; omega) | simp [intOf])
      ·skip
       by_cases q3 : ux = ⟨#[41]⟩
       ·skip
        subst q3
        have w1 : IntKind.i64.wrap (o - 1) = o - 1 := by rw [IntKind.wrap_i64]; omega
        have hde := Hi (show o + dlt ⟨2, ul, uo, uf, ug, ⟨#[41]⟩, uv⟩ = (o - 1) from by have := (dlt_pk (t := ⟨2, ul, uo, uf, ug, ⟨#[41]⟩, uv⟩) (p := bRp) rfl rfl).trans dl_rp; omega)
        by_cases hm : m < (o - 1) <;> by_cases hL1 : L < (o - 1) <;> by_cases hf : f < 0 <;> (
         go_wp2_with fail
         go_roundw
         case rel => exact opS_rel (uh HST) rfl (uh hde) (by first | exact .inl ⟨hm, rfl⟩ | exact .inr ⟨hm, rfl⟩) (by first | exact .inl ⟨hL1, hf, rfl⟩ | exact .inr ⟨fun x => hL1 x.1, rfl⟩ | exact .inr ⟨fun x => hf x.2, rfl⟩) (by omega) (by go_num) hI
         case measure => first | (simp [intOf]; omega) | simp [intOf])
       ·skip
        by_cases q4 : ux = ⟨#[93]⟩
        ·skip
         subst q4
         have w1 : IntKind.i64.wrap (o - 1) = o - 1 := by rw [IntKind.wrap_i64]; omega
         have hde := Hi (show o + dlt ⟨2, ul, uo, uf, ug, ⟨#[93]⟩, uv⟩ = (o - 1) from by have := (dlt_pk (t := ⟨2, ul, uo, uf, ug, ⟨#[93]⟩, uv⟩) (p := bRb) rfl rfl).trans dl_rb; omega)
         by_cases hm : m < (o - 1) <;> by_cases hL1 : L < (o - 1) <;> by_cases hf : f < 0 <;> (
          go_wp2_with fail
          go_roundw
          case rel => exact opS_rel (uh HST) rfl (uh hde) (by first | exact .inl ⟨hm, rfl⟩ | exact .inr ⟨hm, rfl⟩) (by first | exact .inl ⟨hL1, hf, rfl⟩ | exact .inr ⟨fun x => hL1 x.1, rfl⟩ | exact .inr ⟨fun x => hf x.2, rfl⟩) (by omega) (by go_num) hI
          case measure => first | (simp [intOf]; omega) | simp [intOf])
        ·skip
         by_cases q5 : ux = ⟨#[125]⟩
         ·skip
          subst q5
          have w1 : IntKind.i64.wrap (o - 1) = o - 1 := by rw [IntKind.wrap_i64]; omega
          have hde := Hi (show o + dlt ⟨2, ul, uo, uf, ug, ⟨#[125]⟩, uv⟩ = (o - 1) from by have := (dlt_pk (t := ⟨2, ul, uo, uf, ug, ⟨#[125]⟩, uv⟩) (p := bRc) rfl rfl).trans dl_rc; omega)
          by_cases hm : m < (o - 1) <;> by_cases hL1 : L < (o - 1) <;> by_cases hf : f < 0 <;> (
           go_wp2_with fail
           go_roundw
           case rel => exact opS_rel (uh HST) rfl (uh hde) (by first | exact .inl ⟨hm, rfl⟩ | exact .inr ⟨hm, rfl⟩) (by first | exact .inl ⟨hL1, hf, rfl⟩ | exact .inr ⟨fun x => hL1 x.1, rfl⟩ | exact .inr ⟨fun x => hf x.2, rfl⟩) (by omega) (by go_num) hI
           case measure => first | (simp [intOf]; omega) | simp [intOf])
         ·skip
          have z0 : (ux.toList == [40]) = false := by rw [str_lit (by rw [ByteArray.toList_eq])]; exact decide_eq_false q0
          have z1 : (ux.toList == [91]) = false := by rw [str_lit (by rw [ByteArray.toList_eq])]; exact decide_eq_false q1
          have z2 : (ux.toList == [123]) = false := by rw [str_lit (by rw [ByteArray.toList_eq])]; exact decide_eq_false q2
          have z3 : (ux.toList == [41]) = false := by rw [str_lit (by rw [ByteArray.toList_eq])]; exact decide_eq_false q3
          have z4 : (ux.toList == [93]) = false := by rw [str_lit (by rw [ByteArray.toList_eq])]; exact decide_eq_false q4
          have z5 : (ux.toList == [125]) = false := by rw [str_lit (by rw [ByteArray.toList_eq])]; exact decide_eq_false q5
          have hde := Hi (show o + dlt ⟨2, ul, uo, uf, ug, ux, uv⟩ = o from by have := dlt_no (t := ⟨2, ul, uo, uf, ug, ux, uv⟩) q0 q1 q2 q3 q4 q5; omega)
          by_cases hm : m < o <;> by_cases hL1 : L < o <;> by_cases hf : f < 0 <;> (
           go_wp2_with fail
           go_roundw
           case rel => exact opS_rel (uh HST) rfl (uh hde) (by first | exact .inl ⟨hm, rfl⟩ | exact .inr ⟨hm, rfl⟩) (by first | exact .inl ⟨hL1, hf, rfl⟩ | exact .inr ⟨fun x => hL1 x.1, rfl⟩ | exact .inr ⟨fun x => hf x.2, rfl⟩) (by omega) (by go_num) hI
           case measure => first | (simp [intOf]; omega) | simp [intOf])
   ·have hk2 : ¬ uk = 2 := h2
    go_wp2_with fail
    go_roundw
    case rel => (
     have e := uh HST
     unfold opS at e
     rw [if_neg h2] at e
     exact ⟨k + 1, by omega, by go_num, by rw [e], by rw [e], by rw [e], hI⟩)
    case measure => first | (simp [intOf]; omega) | simp [intOf]
  ·have ki : ¬ (k : Int) < (n : Int) := by omega
   have hkn' : k = n := by omega
   subst hkn'
   have hI9 := Hi hI
   clear hkn hR0 HN
   go_wp2_with fail
   go_ret2
   exact ⟨rfl, uh hI9⟩
theorem lit_cells {w : World} {k : Int} {tx : ByteArray} {bl : Bool} {its fls : List Dt} {ln co : Int} {cs : List Value} {F : List Nat} (h : Ow w (litD k tx bl (Dt.of its) (Dt.of fls) ln co) cs F) :
  ∃ ai ni ci af nf cf, cs = [.int .i64 k, .string tx, .bool bl, .slice ai ni ci, .slice af nf cf, .int .i64 ln, .int .i64 co] ∧ ni = its.length ∧ nf = fls.length ∧ ni ≤ ci ∧ nf ≤ cf ∧ ci ≤ maxLen ∧ cf ≤ maxLen ∧
   (∀ i e, its[i]? = some e → ∃ p ds G, ai = some ⟨p, 0, none⟩ ∧ p ∈ F ∧ RowAt w p (i * 7) ds ∧ ds.length = 7 ∧ Ow w e ds G ∧ ∀ b ∈ G, b ∈ F) ∧
   (∀ i e, fls[i]? = some e → ∃ p ds G, af = some ⟨p, 0, none⟩ ∧ p ∈ F ∧ RowAt w p (i * 10) ds ∧ ds.length = 10 ∧ Ow w e ds G ∧ ∀ b ∈ G, b ∈ F) := by
 unfold litD at h
 unfold Ow at h
 obtain ⟨d1, rfl, _, h⟩ := h
 unfold Ow at h
 obtain ⟨d2, rfl, _, h⟩ := h
 unfold Ow at h
 obtain ⟨d3, rfl, _, h⟩ := h
 unfold Ow at h
 obtain ⟨ai, ni, ci, d4, F1, F2, rfl, i1, i2, i3, i4, h, rfl⟩ := h
 unfold Ow at h
 obtain ⟨af, nf, cf, d5, F3, F4, rfl, j1, j2, j3, j4, h, rfl⟩ := h
 unfold Ow at h
 obtain ⟨d6, rfl, _, h⟩ := h
 unfold Ow at h
 obtain ⟨d7, rfl, _, h⟩ := h
 unfold Ow at h
 obtain ⟨rfl, rfl⟩ := h
 have key : ∀ (l : List Dt) (k : Nat) (a : Option Addr) (n : Nat) (G0 : List Nat), ((a = none ∧ Dt.of l = .nil ∧ n = 0 ∧ G0 = []) ∨ ∃ p G, a = some ⟨p, 0, none⟩ ∧ G0 = p :: G ∧ OwIn w (Dt.of l) k p 0 n G) → n = l.length ∧ ∀ i e, l[i]? = some e → ∃ p ds G, a = some ⟨p, 0, none⟩ ∧ p ∈ G0 ∧ RowAt w p (i * k) ds ∧ ds.length = k ∧ Ow w e ds G ∧ ∀ b ∈ G, b ∈ G0 := by
  intro l k a n G0 h
  rcases h with ⟨_, h2, h3, _⟩ | ⟨p, G, rfl, rfl, h⟩
  ·cases l with
   | nil => exact ⟨h3, fun i e he => by simp at he⟩
   | cons d l => unfold Dt.of at h2; cases h2
  ·obtain ⟨h1, h2⟩ := OwIn.get l k p 0 n G h
   refine ⟨h1.symm, fun i e he => ?_⟩
   obtain ⟨ds, Gi, g1, g2, g3, g4⟩ := h2 i e he
   exact ⟨p, ds, Gi, rfl, by simp, by simpa using g1, g2, g3, fun b hb => by simp [g4 b hb]⟩
 obtain ⟨e1, e2⟩ := key its 7 ai ni F1 i4
 obtain ⟨e3, e4⟩ := key fls 10 af nf F3 j4
 refine ⟨ai, ni, ci, af, nf, cf, rfl, e1, e3, i1, j1, i2, j2, fun i e he => ?_, fun i e he => ?_⟩
 ·obtain ⟨p, ds, G, g1, g2, g3, g4, g5, g6⟩ := e2 i e he
  exact ⟨p, ds, G, g1, by simp [g2], g3, g4, g5, fun b hb => by simp [g6 b hb]⟩
 ·obtain ⟨p, ds, G, g1, g2, g3, g4, g5, g6⟩ := e4 i e he
  exact ⟨p, ds, G, g1, by simp [g2], g3, g4, g5, fun b hb => by simp [g6 b hb]⟩
theorem fld_cells {w : World} {nm : ByteArray} {k : Int} {tx : ByteArray} {bl : Bool} {its fls : Dt} {ln co x y : Int} {cs : List Value} {F : List Nat} (h : Ow w (fldD nm (litD k tx bl its fls ln co) x y) cs F) :
  ∃ ai ni ci af nf cf, cs = [.string nm, .int .i64 k, .string tx, .bool bl, .slice ai ni ci, .slice af nf cf, .int .i64 ln, .int .i64 co, .int .i64 x, .int .i64 y] ∧ Ow w (litD k tx bl its fls ln co) [.int .i64 k, .string tx, .bool bl, .slice ai ni ci, .slice af nf cf, .int .i64 ln, .int .i64 co] F := by
 unfold fldD litD at h
 simp only [app] at h
 unfold Ow at h
 obtain ⟨d0, rfl, _, h⟩ := h
 unfold Ow at h
 obtain ⟨d1, rfl, a1, h⟩ := h
 unfold Ow at h
 obtain ⟨d2, rfl, a2, h⟩ := h
 unfold Ow at h
 obtain ⟨d3, rfl, a3, h⟩ := h
 unfold Ow at h
 obtain ⟨ai, ni, ci, d4, F1, F2, rfl, i1, i2, i3, i4, h, rfl⟩ := h
 unfold Ow at h
 obtain ⟨af, nf, cf, d5, F3, F4, rfl, j1, j2, j3, j4, h, rfl⟩ := h
 unfold Ow at h
 obtain ⟨d6, rfl, a6, h⟩ := h
 unfold Ow at h
 obtain ⟨d7, rfl, a7, h⟩ := h
 unfold Ow at h
 obtain ⟨d8, rfl, a8, h⟩ := h
 unfold Ow at h
 obtain ⟨d9, rfl, a9, h⟩ := h
 unfold Ow at h
 obtain ⟨rfl, rfl⟩ := h
 refine ⟨ai, ni, ci, af, nf, cf, rfl, ?_⟩
 unfold litD Ow
 refine ⟨_, rfl, a1, ?_⟩
 unfold Ow
 refine ⟨_, rfl, a2, ?_⟩
 unfold Ow
 refine ⟨_, rfl, a3, ?_⟩
 unfold Ow
 refine ⟨ai, ni, ci, _, F1, F3 ++ [], rfl, i1, i2, i3, i4, ?_, rfl⟩
 unfold Ow
 refine ⟨af, nf, cf, _, F3, [], rfl, j1, j2, j3, j4, ?_, rfl⟩
 unfold Ow
 refine ⟨_, rfl, a6, ?_⟩
 unfold Ow
 refine ⟨_, rfl, a7, ?_⟩
 unfold Ow
 exact ⟨rfl, rfl⟩
structure FvI (w wr : World) (vc : Array Value) : Prop where
 bel : Below w.heap.size w wr
 v : wr.heap[w.heap.size]? = some (.cells vc 99 (0, 0))
 r : wr.heap[w.heap.size + 1]? = some (.cells #[.int .i64 0, .int .i64 0] 37 (0, 0))
def EqL (pl : Bool) : Nat → Dt → Dt → Prop
 | 0, _, _ => False
 | f + 1, d, e => ∃ k tx bl its its' fls fls' ln co ln' co', d = litD k tx bl (Dt.of its) (Dt.of fls) ln co ∧ e = litD k tx bl (Dt.of its') (Dt.of fls') ln' co' ∧ (pl = true → ln = ln' ∧ co = co') ∧
   its.length = its'.length ∧ fls.length = fls'.length ∧ (∀ (i : Nat) x y, its[i]? = some x → its'[i]? = some y → EqL pl f x y) ∧
   (∀ (i : Nat) x y, fls[i]? = some x → fls'[i]? = some y → ∃ nm v v' a b a' b', x = fldD nm v a b ∧ y = fldD nm v' a' b' ∧ (pl = true → a = a' ∧ b = b') ∧ EqL pl f v v')
theorem EqL.left {pl : Bool} : ∀ {f : Nat} {d e : Dt}, EqL pl f d e → ∃ k tx bl its fls ln co, d = litD k tx bl its fls ln co
 | 0, d, e, h => h.elim
 | f + 1, d, e, ⟨k, tx, bl, its, its', fls, fls', ln, co, ln', co', h, _⟩ => ⟨k, tx, bl, _, _, ln, co, h⟩
theorem EqL.right {pl : Bool} : ∀ {f : Nat} {d e : Dt}, EqL pl f d e → ∃ k tx bl its fls ln co, e = litD k tx bl its fls ln co
 | 0, d, e, h => h.elim
 | f + 1, d, e, ⟨k, tx, bl, its, its', fls, fls', ln, co, ln', co', _, h, _⟩ => ⟨k, tx, bl, _, _, ln', co', h⟩
theorem lit_shape {w : World} {k : Int} {tx : ByteArray} {bl : Bool} {its fls : Dt} {ln co : Int} {cs : List Value} {F : List Nat} (h : Ow w (litD k tx bl its fls ln co) cs F) : LShape cs := by
 unfold litD at h
 unfold Ow at h
 obtain ⟨d1, rfl, _, h⟩ := h
 unfold Ow at h
 obtain ⟨d2, rfl, _, h⟩ := h
 unfold Ow at h
 obtain ⟨d3, rfl, _, h⟩ := h
 unfold Ow at h
 obtain ⟨ai, ni, ci, d4, F1, F2, rfl, i1, i2, i3, i4, h, rfl⟩ := h
 unfold Ow at h
 obtain ⟨af, nf, cf, d5, F3, F4, rfl, j1, j2, j3, j4, h, rfl⟩ := h
 unfold Ow at h
 obtain ⟨d6, rfl, _, h⟩ := h
 unfold Ow at h
 obtain ⟨d7, rfl, _, h⟩ := h
 unfold Ow at h
 obtain ⟨rfl, rfl⟩ := h
 exact ⟨_, _, _, _, _, _, _, _, _, _, _, rfl⟩
def SmAt (pl : Bool) (d e : Dt) : Prop := ∀ (w : World) (cs ds : List Value) (F G : List Nat), Ow w d cs F → Ow w e ds G → (∀ b ∈ F, b < w.heap.size) → (∀ b ∈ G, b < w.heap.size) → Calls Tryz.prog 67 #[.agg cs.toArray, .agg ds.toArray, .bool pl] w fun e w' => e = .returned (.bool true) ∧ Below w.heap.size w w'
structure SmI (w wr : World) (vc uc : Array Value) : Prop where
 bel : Below w.heap.size w wr
 v : wr.heap[w.heap.size]? = some (.cells vc 99 (0, 0))
 u : wr.heap[w.heap.size + 1]? = some (.cells uc 99 (0, 0))
theorem SmI.more {w wr wn : World} {vc uc : Array Value} (h : SmI w wr vc uc) (hb : Below wr.heap.size wr wn) : SmI w wn vc uc := by
 have h1 : w.heap.size < wr.heap.size := by
  rcases Nat.lt_or_ge w.heap.size wr.heap.size with g | g
  ·exact g
  ·have := h.v; rw [Array.getElem?_eq_none g] at this; cases this
 have h2 : w.heap.size + 1 < wr.heap.size := by
  rcases Nat.lt_or_ge (w.heap.size + 1) wr.heap.size with g | g
  ·exact g
  ·have := h.u; rw [Array.getElem?_eq_none g] at this; cases this
 exact ⟨h.bel.trans (hb.mono h.bel.size), (hb.block _ h1).trans h.v, (hb.block _ h2).trans h.u⟩
end Go.Proofs.YtnkaoapnooanlaaGreat.cu
