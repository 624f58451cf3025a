import Derived.Test.YtmhelpocddndjaaGreatQbg7
import Derived.Test.YtmhelpocddndjaaGreatQbg2
import Derived.Laws.CopyOwn
namespace Go.Proofs.YtmhelpocddndjaaGreat.cu
open dt (Dt Kp RowAt Ow Grow)
set_option linter.unusedVariables false
set_option linter.unusedSimpArgs false
theorem bb (x : Bool) : x = false ∨ x = true := by cases x; exact .inl rfl; exact .inr rfl
theorem argsS_eq (L : LitR) : argsS L = bnd (isPR bLp) fun q => cond q (brk (argS L) bLp bRp 1) (bnd aliveR fun a => ret (cond a (some []) none)) := by
  funext c
  simp only [argsS, bnd, isPR, aliveR, ret]
  rcases bb (c.isP bLp) with h | h
  · simp only [h, Bool.false_eq_true, if_false, cond_false, bnd, aliveR, ret]
    by_cases k : c.kd = 0 <;> simp [k]
  · simp only [h, if_true, cond_true]
theorem dirS_eq (L : LitR) : ∀ c : Cu, c.isP bAt = true → dirS L c = (bnd tokR fun t => bnd (punctR bAt) fun _ => bnd nR fun n => bnd (argsS L) fun r => ret (r.map fun l => dirD n.2 l t.ln t.co)) c := by
  intro c h
  simp only [dirS, bnd, tokR, punctR, nR, ret, Cu.punct, h, if_true, cond_true]
  cases (argsS L c.take.name).1 <;> rfl
theorem spreadS_eq (L : LitR) (t : Tk) : spreadS L t = bnd (butR [bOn]) fun nm => bnd (dirs L) fun r => ret (r.map fun l => selD 2 em nm em [] l [] t.ln t.co) := by
  funext c
  simp only [spreadS, bnd, butR, ret]
  cases (dirs L (c.nmC (c.isN && !inW [bOn] c.tok.tx))).1 <;> rfl
theorem inlineS_eq (L : LitR) (S : LstR) (t : Tk) : inlineS L S t = bnd (wordR bOn) fun q => bnd (cond q nmR (ret em)) fun on => bnd (dirs L) fun ds => bnd S fun r => ret (r.map fun ss => selD 3 em em on [] (ds.getD []) ss t.ln t.co) := by
  funext c
  have e1 : (bnd (wordR bOn) fun q => cond q nmR (ret em)) c = (onT c, onC c) := by
    simp only [bnd, wordR, onT, onC, Cu.word]
    rcases bb (c.isW [bOn]) with h | h
    · simp only [h, Bool.false_eq_true, if_false, cond_false, ret]
    · simp only [h, if_true, cond_true, nmR]
  have e2 : (bnd (wordR bOn) fun q => bnd (cond q nmR (ret em)) fun on => bnd (dirs L) fun ds => bnd S fun r => ret (r.map fun ss => selD 3 em em on [] (ds.getD []) ss t.ln t.co)) c = (bnd (bnd (wordR bOn) fun q => cond q nmR (ret em)) fun on => bnd (dirs L) fun ds => bnd S fun r => ret (r.map fun ss => selD 3 em em on [] (ds.getD []) ss t.ln t.co)) c := rfl
  rw [e2]
  rw [bnd, e1]
  simp only [inlineS, bnd, ret]
  cases (S (dirs L (onC c)).2).1 <;> rfl
theorem fieldS_eq (L : LitR) (S : LstR) (t : Tk) : fieldS L S t = bnd nmR fun n => bnd (punctR bCol) fun q => bnd (cond q nmR (ret n)) fun n2 => bnd (argsS L) fun a => bnd (dirs L) fun d => bnd (isPR bLc) fun q2 => cond q2 (bnd S fun r => ret (r.map fun ss => selD 1 (cond q n em) n2 em (a.getD []) (d.getD []) ss t.ln t.co)) (ret (d.map fun ds => selD 1 (cond q n em) n2 em (a.getD []) ds [] t.ln t.co)) := by
  funext c
  simp only [fieldS, bnd, nmR, punctR, isPR, Cu.punct, fldC, fldN, fldA]
  rcases bb (c.name.isP bCol) with h | h
  · simp only [h, Bool.false_eq_true, if_false, cond_false, ret]
    rcases bb ((dirs L (argsS L c.name).2).2.isP bLc) with g | g
    · simp only [g, Bool.false_eq_true, if_false, cond_false, ret]
      cases (dirs L (argsS L c.name).2).1 <;> rfl
    · simp only [g, if_true, cond_true, bnd]
      cases (S (dirs L (argsS L c.name).2).2).1 <;> rfl
  · simp only [h, if_true, cond_true, ret]
    rcases bb ((dirs L (argsS L c.name.take.name).2).2.isP bLc) with g | g
    · simp only [g, Bool.false_eq_true, if_false, cond_false, nmR, ret]
      cases (dirs L (argsS L c.name.take.name).2).1 <;> rfl
    · simp only [g, if_true, cond_true, nmR, bnd]
      cases (S (dirs L (argsS L c.name.take.name).2).2).1 <;> rfl
def sprR : Cu → Bool × Cu := fun c => (c.isN && !inW [bOn] c.tok.tx, c)
theorem sprR_st : St sprR := fun c h => Stp.refl h
theorem sprR_kd : KdP sprR := fun c h => h
theorem sprR_near {m b b' : Nat} : NearA m sprR sprR b b' := fun c c' hc hc' hs hb hb' hm => ⟨by show (c'.isN && _) = (c.isN && _); rw [hs.isN hm, hs.tok hm], hs⟩
theorem selS_eq (L : LitR) (S : LstR) : selS L S = bnd tokR fun t => bnd (punctR bDots) fun q => cond q (bnd sprR fun s => cond s (spreadS L t) (inlineS L S t)) (fieldS L S t) := by
  funext c
  simp only [selS, bnd, tokR, punctR, sprR, Cu.punct]
  rcases bb (c.isP bDots) with h | h
  · simp only [h, Bool.false_eq_true, if_false, cond_false]
  · simp only [h, if_true, cond_true, bnd, sprR]
    rcases bb (c.take.isN && !inW [bOn] c.take.tok.tx) with g | g
    · simp only [g, Bool.false_eq_true, if_false, cond_false]
    · simp only [g, if_true, cond_true]
theorem varQ_eq (T : TypR) (L : LitR) : varQ T L = bnd tokR fun t => bnd (wantR bDol) fun _ => bnd nmR fun n => bnd (wantR bCol) fun _ => bnd T fun ty => bnd (punctR bEq) fun q => bnd (cond q L (ret none)) fun v => bnd (dirs L) fun d => ret (d.map fun ds => varD n ((ty.map (·.1)).getD em) ((ty.map (·.2)).getD em) q (cond q (v.getD zeroD) zeroD) ds t.ln t.co) := by
  funext c
  simp only [varQ, bnd, tokR, wantR, nmR, punctR, Cu.punct, varC3, varU, varV]
  rcases bb ((T (((c.want bDol).name).want bCol)).2.isP bEq) with h | h
  · simp only [h, Bool.false_eq_true, if_false, cond_false, ret]
    cases (dirs L (T (((c.want bDol).name).want bCol)).2).1 <;> rfl
  · simp only [h, if_true, cond_true, ret]
    cases (dirs L (L (T (((c.want bDol).name).want bCol)).2.take).2).1 <;> rfl
theorem bodyS_eq (L : LitR) (S : LstR) (k : Int) (nm on : ByteArray) (vs : List Dt) (t : Tk) : bodyS L S k nm on vs t = bnd (dirs L) fun d => bnd S fun r => ret (r.map fun ss => defD k nm on false vs (d.getD []) ss t.ln t.co) := by
  funext c
  simp only [bodyS, bnd, ret]
  cases (S (dirs L c).2).1 <;> rfl
theorem varsS_eq (T : TypR) (K : LitR) : varsS T K = bnd (isPR bLp) fun q => cond q (brk (varQ T K) bLp bRp 1) (ret (some [])) := by
  funext c
  simp only [varsS, bnd, isPR, ret]
  rcases bb (c.isP bLp) with h | h
  · simp only [h, Bool.false_eq_true, if_false, cond_false, ret]
  · simp only [h, if_true, cond_true]
theorem operS_eq (T : TypR) (K L : LitR) (S : LstR) (k : Int) (t : Tk) : operS T K L S k t = bnd tokR fun u => bnd (cond (decide (u.k = 3)) nmR (ret em)) fun n => bnd (varsS T K) fun v => bodyS L S k n em (v.getD []) t := by
  funext c
  simp only [operS, bnd, tokR, opC]
  by_cases h : c.tok.k = 3
  · simp only [h, if_true, decide_true, cond_true, nmR]
  · have : c.nmS = em := by unfold Cu.nmS Cu.isN; simp [h]
    simp only [h, if_false, decide_false, Bool.false_eq_true, cond_false, ret, this]
theorem fragS_eq (L : LitR) (S : LstR) (t : Tk) : fragS L S t = bnd (butR [bOn]) fun n => bnd (wwR [bOn]) fun _ => bnd nmR fun on => bodyS L S 4 n on [] t := rfl
def wordsR : Cu → (Bool × ByteArray) × Cu := fun c => ((c.isW [bQuery, bMut, bSub, bFrag], c.tok.tx), c.nmC (c.isW [bQuery, bMut, bSub, bFrag]))
theorem wordsR_st : St wordsR := fun c h => nmC_stp h (fun e => isW_N e)
theorem wordsR_kd : KdP wordsR := fun c h => nmC_kd h (fun e => isW_N e)
theorem wordsR_near {m b b' : Nat} : NearA m wordsR wordsR b b' := fun c c' hc hc' hs hb hb' hm => by
  have hi : c.ix ≤ m := Nat.le_trans (wordsR_st c hc).ix hm
  refine ⟨by show (c'.isW _, c'.tok.tx) = (c.isW _, c.tok.tx); rw [hs.isW hi, hs.tok hi], ?_⟩
  show Sim m (c.nmC _) (c'.nmC _)
  rw [hs.isW hi]
  exact hs.nmC _
def kindS (x : ByteArray) : Option Int := if x = bQuery then some 1 else if x = bMut then some 2 else if x = bSub then some 3 else none
theorem defS_eq (T : TypR) (K L : LitR) (S : LstR) : defS T K L S = bnd tokR fun t => bnd (isPR bLc) fun q => cond q (bnd S fun r => ret (r.map fun ss => defD 1 em em true [] [] ss t.ln t.co)) (bnd wordsR fun u => cond u.1 (match kindS u.2 with | some k => operS T K L S k t | none => fragS L S t) (ret none)) := by
  funext c
  simp only [defS, bnd, tokR, isPR, wordsR, Cu.nmC]
  rcases bb (c.isP bLc) with h | h
  · simp only [h, Bool.false_eq_true, if_false, cond_false, bnd, wordsR, Cu.nmC]
    rcases bb (c.isW [bQuery, bMut, bSub, bFrag]) with g | g
    · simp only [g, Bool.false_eq_true, if_false, cond_false, ret]
    · simp only [g, if_true, cond_true, kindS]
      by_cases h1 : c.tok.tx = bQuery
      · simp only [h1, if_true, cond_true]
      · simp only [h1, if_false]
        by_cases h2 : c.tok.tx = bMut
        · simp only [h2, if_true, cond_true]
        · simp only [h2, if_false]
          by_cases h3 : c.tok.tx = bSub
          · simp only [h3, if_true, cond_true]
          · simp only [h3, if_false]
  · simp only [h, if_true, cond_true, bnd]
    cases (S c).1 <;> rfl
end Go.Proofs.YtmhelpocddndjaaGreat.cu
namespace Go.Proofs.YtmhelpocddndjaaGreat.cu
open dt (Dt Kp RowAt Ow Grow)
set_option linter.unusedVariables false
set_option linter.unusedSimpArgs false
theorem argsS_st {L : LitR} (hG : Goes L) : St (argsS L) := fun c h => argsS_stp hG h
theorem dirs_st {L : LitR} (hG : Goes L) : St (dirs L) := fun c h => dirs_stp hG h
theorem typF_st (f : Nat) : St (typF f) := fun c h => (typF_goes f c h).1
/- the faults -/
theorem argsS_kd {L : LitR} (hL : KdP L) : KdP (argsS L) := by
  rw [argsS_eq]
  exact (isPR_kd _).bnd fun q => ite_kd (fun c h => brk_kd (fun c h => argS_kd (fun c h => hL c h) c h) _ _ _ c h) (aliveR_kd.bnd fun a => ret_kd _)
theorem dirS_kd {L : LitR} (hL : KdP L) (c : Cu) (hp : c.isP bAt = true) (h : Kd c) : Kd (dirS L c).2 := by
  rw [dirS_eq L c hp]
  exact (tokR_kd.bnd fun t => (punctR_kd _).bnd fun _ => nR_kd.bnd fun n => (argsS_kd hL).bnd fun r => ret_kd _) c h
theorem dirsF_kd {L : LitR} (hL : KdP L) : ∀ (g : Nat) (l : List Dt), KdP (dirsF L g l)
  | 0, l => fun c h => h
  | g + 1, l => fun c h => by
    simp only [dirsF]
    split
    · rename_i hp
      have h1 := dirS_kd hL c hp h
      cases hq : (dirS L c).1 with
      | none => exact h1
      | some d => exact dirsF_kd hL g _ _ h1
    · exact h
theorem dirs_kd {L : LitR} (hL : KdP L) : KdP (dirs L) := fun c h => dirsF_kd hL _ _ c h
theorem spreadS_kd {L : LitR} (hL : KdP L) (t : Tk) : KdP (spreadS L t) := by
  rw [spreadS_eq]
  exact (butR_kd _).bnd fun _ => (dirs_kd hL).bnd fun _ => ret_kd _
theorem inlineS_kd {L : LitR} {S : LstR} (hL : KdP L) (hS : KdP S) (t : Tk) : KdP (inlineS L S t) := by
  rw [inlineS_eq]
  exact (wordR_kd _).bnd fun q => (ite_kd nmR_kd (ret_kd _)).bnd fun _ => (dirs_kd hL).bnd fun _ => hS.bnd fun _ => ret_kd _
theorem fieldS_kd {L : LitR} {S : LstR} (hL : KdP L) (hS : KdP S) (t : Tk) : KdP (fieldS L S t) := by
  rw [fieldS_eq]
  exact nmR_kd.bnd fun _ => (punctR_kd _).bnd fun q => (ite_kd nmR_kd (ret_kd _)).bnd fun _ => (argsS_kd hL).bnd fun _ => (dirs_kd hL).bnd fun _ => (isPR_kd _).bnd fun q => ite_kd (hS.bnd fun _ => ret_kd _) (ret_kd _)
theorem selS_kd {L : LitR} {S : LstR} (hL : KdP L) (hS : KdP S) : KdP (selS L S) := by
  rw [selS_eq]
  exact tokR_kd.bnd fun t => (punctR_kd _).bnd fun q => ite_kd (sprR_kd.bnd fun s => ite_kd (spreadS_kd hL t) (inlineS_kd hL hS t)) (fieldS_kd hL hS t)
theorem selsF_kd {L : LitR} (hL : KdP L) : ∀ g, KdP (selsF L g)
  | 0 => fun c h => h
  | g + 1 => fun c h => brk_kd (fun c h => selS_kd hL (selsF_kd hL g) c h) _ _ _ c h
theorem typF_kd : ∀ f, KdP (typF f)
  | 0 => fun c h => h
  | f + 1 => by
    intro c h
    show Kd (typ (unm (typF f)) c).2
    have hu : Kd (unm (typF f) c).2 := by
      unfold unm
      split
      · have ho := opn_kd' h bLb
        split
        · have h2 := typF_kd f _ ho
          cases hq : (typF f (c.opn bLb)).1 with
          | none => exact h2
          | some it =>
            dsimp only
            split
            · exact cls_kd h2 _
            · exact cls_kd h2 _
        · exact ho
      · split
        · exact name_kd' h
        · exact name_kd' h
    unfold typ
    cases hq : (unm (typF f) c).1 with
    | none => exact hu
    | some it =>
      dsimp only
      split
      · exact punct_kd hu _
      · exact punct_kd hu _
theorem varQ_kd {T : TypR} {L : LitR} (hT : KdP T) (hL : KdP L) : KdP (varQ T L) := by
  rw [varQ_eq]
  exact tokR_kd.bnd fun _ => (wantR_kd _).bnd fun _ => nmR_kd.bnd fun _ => (wantR_kd _).bnd fun _ => hT.bnd fun _ => (punctR_kd _).bnd fun q => (ite_kd hL (ret_kd _)).bnd fun _ => (dirs_kd hL).bnd fun _ => ret_kd _
theorem bodyS_kd {L : LitR} {S : LstR} (hL : KdP L) (hS : KdP S) (k : Int) (nm on : ByteArray) (vs : List Dt) (t : Tk) : KdP (bodyS L S k nm on vs t) := by
  rw [bodyS_eq]
  exact (dirs_kd hL).bnd fun _ => hS.bnd fun _ => ret_kd _
theorem varsS_kd {T : TypR} {K : LitR} (hT : KdP T) (hK : KdP K) : KdP (varsS T K) := by
  rw [varsS_eq]
  exact (isPR_kd _).bnd fun q => ite_kd (fun c h => brk_kd (fun c h => varQ_kd hT hK c h) _ _ _ c h) (ret_kd _)
theorem operS_kd {T : TypR} {K L : LitR} {S : LstR} (hT : KdP T) (hK : KdP K) (hL : KdP L) (hS : KdP S) (k : Int) (t : Tk) : KdP (operS T K L S k t) := by
  rw [operS_eq]
  exact tokR_kd.bnd fun u => (ite_kd nmR_kd (ret_kd _)).bnd fun _ => (varsS_kd hT hK).bnd fun _ => bodyS_kd hL hS _ _ _ _ _
theorem fragS_kd {L : LitR} {S : LstR} (hL : KdP L) (hS : KdP S) (t : Tk) : KdP (fragS L S t) := by
  rw [fragS_eq]
  exact (butR_kd _).bnd fun _ => (wwR_kd _).bnd fun _ => nmR_kd.bnd fun _ => bodyS_kd hL hS _ _ _ _ _
theorem defS_kd {T : TypR} {K L : LitR} {S : LstR} (hT : KdP T) (hK : KdP K) (hL : KdP L) (hS : KdP S) : KdP (defS T K L S) := by
  rw [defS_eq]
  exact tokR_kd.bnd fun t => (isPR_kd _).bnd fun q => ite_kd (hS.bnd fun _ => ret_kd _) (wordsR_kd.bnd fun u => ite_kd (by cases kindS u.2; exact fragS_kd hL hS t; exact operS_kd hT hK hL hS _ t) (ret_kd _))
theorem defN_kd (N : Nat) : KdP (defN N) := defS_kd (typF_kd N) (litF_kd true N) (litF_kd false N) (selsF_kd (litF_kd false N) N)
theorem defsF_kd {D : LitR} (hD : KdP D) : ∀ (g : Nat) (l : List Dt), KdP (defsF D g l)
  | 0, l => fun c h => h
  | g + 1, l => fun c h => by
    simp only [defsF]
    split
    · have h1 := hD c h
      cases hq : (D c).1 with
      | none => exact h1
      | some d => exact defsF_kd hD g _ _ h1
    · exact fin_kd h
theorem docS_kd : KdP docS := fun c h => defsF_kd (defN_kd _) _ _ c h
/- what lies behind makes no difference -/
section
variable {m b b' : Nat}
theorem argsS_near {L L' : LitR} (hG : Goes L) (hG' : Goes L') (hL : Near m L L' b b') : NearA m (argsS L) (argsS L') b b' := by
  rw [argsS_eq, argsS_eq]
  have s1 := (brk_goes (argS_goes hG) bLp bRp 1).st
  have n1 : NearA m (brk (argS L) bLp bRp 1) (brk (argS L') bLp bRp 1) b b' := (brk_near (argS_goes hG) (argS_goes hG') (argS_near hG hL) bLp bRp 1).a.mono (Nat.le_succ _) (Nat.le_succ _)
  exact (isPR_near _).bnd (isPR_st _) (isPR_st _) (fun q => ite_near n1 (aliveR_near.bnd aliveR_st aliveR_st (fun a => ret_near _) (fun a => ret_st _))) (fun q => ite_st s1 (aliveR_st.bnd fun a => ret_st _))
def dirB (L : LitR) : Cu → Option Dt × Cu := bnd tokR fun t => bnd (punctR bAt) fun _ => bnd nR fun n => bnd (argsS L) fun r => ret (r.map fun l => dirD n.2 l t.ln t.co)
theorem dirB_near {L L' : LitR} (hG : Goes L) (hG' : Goes L') (hL : Near m L L' b b') : NearA m (dirB L) (dirB L') b b' := by
  have sA := argsS_st hG
  have sA' := argsS_st hG'
  exact tokR_near.bnd tokR_st tokR_st (fun t => (punctR_near _).bnd (punctR_st _) (punctR_st _) (fun _ => nR_near.bnd nR_st nR_st (fun n => (argsS_near hG hG' hL).bnd sA sA' (fun r => ret_near _) (fun r => ret_st _)) (fun n => sA.bnd fun r => ret_st _)) (fun _ => nR_st.bnd fun n => sA.bnd fun r => ret_st _)) (fun t => (punctR_st _).bnd fun _ => nR_st.bnd fun n => sA.bnd fun r => ret_st _)
theorem dirsF_near {L L' : LitR} (hG : Goes L) (hG' : Goes L') (hL : Near m L L' b b') : ∀ (g g' : Nat) (l : List Dt) (c c' : Cu), c.Ok → c'.Ok → Sim m c c' → c.ts.length ≤ b + c.ix → c'.ts.length ≤ b' + c'.ix → c.ts.length ≤ g + c.ix → c'.ts.length ≤ g' + c'.ix → (dirsF L g l c).2.ix ≤ m → (dirsF L' g' l c').1 = (dirsF L g l c).1 ∧ Sim m (dirsF L g l c).2 (dirsF L' g' l c').2
  | 0, g', l, c, c', h, h', hs, hb, hb', hg, hg', hm => by have := h.lt; omega
  | g + 1, 0, l, c, c', h, h', hs, hb, hb', hg, hg', hm => by have := h'.lt; omega
  | g + 1, g' + 1, l, c, c', h, h', hs, hb, hb', hg, hg', hm => by
    have hix : c.ix ≤ m := Nat.le_trans (dirsF_stp hG (g + 1) l c h).ix hm
    simp only [dirsF] at hm ⊢
    rw [hs.isP hix]
    by_cases hp : c.isP bAt = true
    · rw [if_pos hp] at hm
      rw [if_pos hp, if_pos hp]
      have hp' : c'.isP bAt = true := by rw [hs.isP hix]; exact hp
      have hgo := dirS_stp hG h hp
      have hgo' := dirS_stp hG' h' hp'
      have hEm : (dirS L c).2.ix ≤ m := by
        cases hq : (dirS L c).1 with
        | none => rw [hq] at hm; exact hm
        | some d => rw [hq] at hm; exact Nat.le_trans (dirsF_stp hG g _ _ hgo.1.ok).ix hm
      have hnr := dirB_near hG hG' hL c c' h h' hs hb hb' (by unfold dirB; rw [← dirS_eq L c hp]; exact hEm)
      unfold dirB at hnr
      rw [← dirS_eq L c hp, ← dirS_eq L' c' hp'] at hnr
      obtain ⟨e1, e2⟩ := hnr
      cases hq : (dirS L c).1 with
      | none =>
        rw [hq] at e1
        rw [e1]
        exact ⟨rfl, e2⟩
      | some d =>
        rw [hq] at e1 hm
        rw [e1]
        have i1 := hgo.2
        have i2 := hgo'.2
        exact dirsF_near hG hG' hL g g' (l ++ [d]) _ _ hgo.1.ok hgo'.1.ok e2 (by rw [hgo.1.ts]; omega) (by rw [hgo'.1.ts]; omega) (by rw [hgo.1.ts]; omega) (by rw [hgo'.1.ts]; omega) hm
    · rw [if_neg hp, if_neg hp]
      exact ⟨by simp only [hs.kd], hs⟩
theorem dirs_near {L L' : LitR} (hG : Goes L) (hG' : Goes L') (hL : Near m L L' b b') : NearA m (dirs L) (dirs L') b b' := fun c c' h h' hs hb hb' hm => dirsF_near hG hG' hL _ _ [] c c' h h' hs hb hb' (by omega) (by omega) hm
theorem map_near {A X : Type} {E E' : Cu → A × Cu} (h : NearA m E E' b b') (s : St E) (s' : St E') (f : A → X) : NearA m (bnd E fun r => ret (f r)) (bnd E' fun r => ret (f r)) b b' := h.bnd s s' (fun _ => ret_near _) (fun _ => ret_st _)
theorem map_st {A X : Type} {E : Cu → A × Cu} (s : St E) (f : A → X) : St (bnd E fun r => ret (f r)) := s.bnd fun _ => ret_st _
theorem spreadS_near {L L' : LitR} (hG : Goes L) (hG' : Goes L') (hL : Near m L L' b b') (t : Tk) : NearA m (spreadS L t) (spreadS L' t) b b' := by
  rw [spreadS_eq, spreadS_eq]
  have sD := dirs_st hG
  have sD' := dirs_st hG'
  exact (butR_near _).bnd (butR_st _) (butR_st _) (fun _ => map_near (dirs_near hG hG' hL) sD sD' _) (fun _ => map_st sD _)
theorem inlineS_near {L L' : LitR} {S S' : LstR} (hG : Goes L) (hG' : Goes L') (hL : Near m L L' b b') (gS : Goes S) (gS' : Goes S') (hS : Near m S S' b b') (t : Tk) : NearA m (inlineS L S t) (inlineS L' S' t) b b' := by
  rw [inlineS_eq, inlineS_eq]
  have sD := dirs_st hG
  have sD' := dirs_st hG'
  have sI : ∀ q : Bool, St (cond q nmR (ret em)) := fun q => ite_st nmR_st (ret_st _)
  exact (wordR_near _).bnd (wordR_st _) (wordR_st _) (fun q => (ite_near nmR_near (ret_near _)).bnd (sI q) (sI q) (fun on => (dirs_near hG hG' hL).bnd sD sD' (fun ds => map_near hS.a gS.st gS'.st _) (fun ds => map_st gS.st _)) (fun on => sD.bnd fun ds => map_st gS.st _)) (fun q => (sI q).bnd fun on => sD.bnd fun ds => map_st gS.st _)
theorem fieldS_near {L L' : LitR} {S S' : LstR} (hG : Goes L) (hG' : Goes L') (hL : Near m L L' b b') (gS : Goes S) (gS' : Goes S') (hS : Near m S S' b b') (t : Tk) : NearA m (fieldS L S t) (fieldS L' S' t) b b' := by
  rw [fieldS_eq, fieldS_eq]
  have sD := dirs_st hG
  have sD' := dirs_st hG'
  have sA := argsS_st hG
  have sA' := argsS_st hG'
  have sI : ∀ (q : Bool) (n : ByteArray), St (cond q nmR (ret n)) := fun q n => ite_st nmR_st (ret_st _)
  have x6 : ∀ (q : Bool) (n n2 : ByteArray) (a d : Option (List Dt)) (q2 : Bool), St (cond q2 (bnd S fun r => ret (r.map fun ss => selD 1 (cond q n em) n2 em (a.getD []) (d.getD []) ss t.ln t.co)) (ret (d.map fun ds => selD 1 (cond q n em) n2 em (a.getD []) ds [] t.ln t.co))) := fun q n n2 a d q2 => ite_st (map_st gS.st _) (ret_st _)
  have x5 := fun q n n2 a d => (isPR_st bLc).bnd (x6 q n n2 a d)
  have x4 := fun q n n2 a => sD.bnd (x5 q n n2 a)
  have x3 := fun q n n2 => sA.bnd (x4 q n n2)
  have x2 := fun q n => (sI q n).bnd (x3 q n)
  have x1 := fun n => (punctR_st bCol).bnd (fun q => x2 q n)
  exact nmR_near.bnd nmR_st nmR_st (fun n => (punctR_near _).bnd (punctR_st _) (punctR_st _) (fun q => (ite_near nmR_near (ret_near _)).bnd (sI q n) (sI q n) (fun n2 => (argsS_near hG hG' hL).bnd sA sA' (fun a => (dirs_near hG hG' hL).bnd sD sD' (fun d => (isPR_near _).bnd (isPR_st _) (isPR_st _) (fun q2 => ite_near (map_near hS.a gS.st gS'.st _) (ret_near _)) (x6 q n n2 a d)) (x5 q n n2 a)) (x4 q n n2)) (x3 q n)) (fun q => x2 q n)) x1
theorem selS_near {L L' : LitR} {S S' : LstR} (hG : Goes L) (hG' : Goes L') (hL : Near m L L' b b') (gS : Goes S) (gS' : Goes S') (hS : Near m S S' b b') : NearA m (selS L S) (selS L' S') b b' := by
  rw [selS_eq, selS_eq]
  have s1 : ∀ t, St (spreadS L t) := fun t c h => spread_stp hG t h
  have s2 : ∀ t, St (inlineS L S t) := fun t c h => inline_stp hG gS t h
  have s3 : ∀ t, St (fieldS L S t) := fun t c h => field_stp hG gS t h
  have y1 := fun t => sprR_st.bnd fun s => ite_st (b := s) (s1 t) (s2 t)
  have y2 := fun t => (punctR_st bDots).bnd fun q => ite_st (b := q) (y1 t) (s3 t)
  exact tokR_near.bnd tokR_st tokR_st (fun t => (punctR_near _).bnd (punctR_st _) (punctR_st _) (fun q => ite_near (sprR_near.bnd sprR_st sprR_st (fun s => ite_near (spreadS_near hG hG' hL t) (inlineS_near hG hG' hL gS gS' hS t)) (fun s => ite_st (s1 t) (s2 t))) (fieldS_near hG hG' hL gS gS' hS t)) (fun q => ite_st (y1 t) (s3 t))) y2
theorem selsF_near {L L' : LitR} (hG : Goes L) (hG' : Goes L') {N N' : Nat} (hL : Near m L L' N N') : ∀ (g g' : Nat), g ≤ N → g' ≤ N' → Near m (selsF L g) (selsF L' g') g g'
  | 0, g', _, _ => fun c c' h h' hs hb hb' hm => by have := h.lt; omega
  | g + 1, 0, _, _ => fun c c' h h' hs hb hb' hm => by have := h'.lt; omega
  | g + 1, g' + 1, h1, h2 => by
    have ih := selsF_near hG hG' hL g g' (by omega) (by omega)
    exact brk_near (selS_goes hG (selsF_goes hG g)) (selS_goes hG' (selsF_goes hG' g')) (selS_near hG hG' (hL.a.mono (by omega) (by omega)) (selsF_goes hG g) (selsF_goes hG' g') ih) bLc bRc 1
end
end Go.Proofs.YtmhelpocddndjaaGreat.cu
namespace Go.Proofs.YtmhelpocddndjaaGreat.cu
open dt (Dt Kp RowAt Ow Grow)
set_option linter.unusedVariables false
set_option linter.unusedSimpArgs false
def unmI (T : TypR) : Cu → Option (ByteArray × ByteArray) × Cu := bnd T fun r => match r with | none => ret none | some it => bnd (clsR bRb) fun cl => ret (cond cl (some (it.1, it.2 ++ bRb)) none)
theorem unm_eq (T : TypR) : unm T = bnd (isPR bLb) fun q => cond q (bnd (opnR bLb) (fun o => cond o (unmI T) (ret none))) (bnd nR fun n => ret (cond n.1 (some (n.2, em)) none)) := by
  funext c
  simp only [unm, bnd, isPR, opnR, nR, unmI]
  rcases bb (c.isP bLb) with h | h
  · simp only [h, Bool.false_eq_true, if_false, cond_false, ret, bnd, nR]
    rcases bb c.isN with g | g
    · simp only [g, Bool.false_eq_true, if_false, cond_false]
    · simp only [g, if_true, cond_true]
  · simp only [h, if_true, cond_true, bnd, opnR]
    rcases bb (c.opB bLb) with g | g
    · simp only [g, Bool.false_eq_true, if_false, cond_false, ret]
    · simp only [g, if_true, cond_true, unmI, bnd]
      cases hq : (T (c.opn bLb)).1 with
      | none => rfl
      | some it =>
        simp only [bnd, clsR, ret]
        rcases bb ((T (c.opn bLb)).2.isP bRb) with k | k
        · simp only [k, Bool.false_eq_true, if_false, cond_false]
        · simp only [k, if_true, cond_true]
theorem typ_eq (U : TypR) : typ U = bnd U fun r => match r with | none => ret none | some r => bnd (punctR bBang) fun q => ret (some (cond q (r.1, r.2 ++ bBang) r)) := by
  funext c
  simp only [typ, bnd]
  cases hq : (U c).1 with
  | none => rfl
  | some it =>
    simp only [bnd, punctR, ret]
    rcases bb ((U c).2.isP bBang) with k | k
    · simp only [k, Bool.false_eq_true, if_false, cond_false]
    · simp only [k, if_true, cond_true]
section
variable {m b b' : Nat}
theorem unmI_st {T : TypR} (h : St T) : St (unmI T) := h.bnd fun r => by
  cases r with
  | none => exact ret_st _
  | some it => exact map_st (clsR_st _) _
theorem unmI_near {T T' : TypR} (h : NearA m T T' b b') (s : St T) (s' : St T') : NearA m (unmI T) (unmI T') b b' := h.bnd s s' (fun r => by
  cases r with
  | none => exact ret_near _
  | some it => exact map_near (clsR_near _) (clsR_st _) (clsR_st _) _) (fun r => by
  cases r with
  | none => exact ret_st _
  | some it => exact map_st (clsR_st _) _)
theorem unm_st {T : TypR} (h : St T) : St (unm T) := by
  rw [unm_eq]
  exact (isPR_st _).bnd fun q => ite_st ((opnR_st _).bnd fun o => ite_st (unmI_st h) (ret_st _)) (map_st nR_st _)
theorem unm_near {T T' : TypR} (h : NearA m T T' b b') (s : St T) (s' : St T') : NearA m (unm T) (unm T') (b + 1) (b' + 1) := by
  rw [unm_eq, unm_eq]
  exact (isPR_near _).bnd (isPR_st _) (isPR_st _) (fun q => ite_near (opn_near bLb (F := fun o => cond o (unmI T) (ret none)) (F' := fun o => cond o (unmI T') (ret none)) (unmI_near h s s') (unmI_st s) (ret_near _) (ret_st _)) (map_near nR_near nR_st nR_st _)) (fun q => ite_st ((opnR_st _).bnd fun o => ite_st (unmI_st s) (ret_st _)) (map_st nR_st _))
theorem typ_near {U U' : TypR} (h : NearA m U U' b b') (s : St U) (s' : St U') : NearA m (typ U) (typ U') b b' := by
  rw [typ_eq, typ_eq]
  exact h.bnd s s' (fun r => by
    cases r with
    | none => exact ret_near _
    | some r => exact map_near (punctR_near _) (punctR_st _) (punctR_st _) _) (fun r => by
    cases r with
    | none => exact ret_st _
    | some r => exact map_st (punctR_st _) _)
theorem typF_near : ∀ (f f' : Nat), NearA m (typF f) (typF f') f f'
  | 0, f' => fun c c' h h' hs hb hb' hm => by have := h.lt; omega
  | f + 1, 0 => fun c c' h h' hs hb hb' hm => by have := h'.lt; omega
  | f + 1, f' + 1 => typ_near (unm_near (typF_near f f') (typF_st f) (typF_st f')) (unm_st (typF_st f)) (unm_st (typF_st f'))
theorem varQ_near {T T' : TypR} {L L' : LitR} (hT : NearA m T T' b b') (sT : St T) (sT' : St T') (hG : Goes L) (hG' : Goes L') (hL : Near m L L' b b') : NearA m (varQ T L) (varQ T' L') b b' := by
  rw [varQ_eq, varQ_eq]
  have sD := dirs_st hG
  have sD' := dirs_st hG'
  have sI : ∀ q : Bool, St (cond q L (ret none)) := fun q => ite_st hG.st (ret_st _)
  have sI' : ∀ q : Bool, St (cond q L' (ret none)) := fun q => ite_st hG'.st (ret_st _)
  have x7 := fun (t : Tk) (n : ByteArray) (ty : Option (ByteArray × ByteArray)) (q : Bool) (v : Option Dt) => map_st sD (fun d : Option (List Dt) => d.map fun ds => varD n ((ty.map (·.1)).getD em) ((ty.map (·.2)).getD em) q (cond q (v.getD zeroD) zeroD) ds t.ln t.co)
  have x6 := fun t n ty q => (sI q).bnd (x7 t n ty q)
  have x5 := fun t n ty => (punctR_st bEq).bnd (x6 t n ty)
  have x4 := fun t n => sT.bnd (x5 t n)
  have x3 := fun t n => (wantR_st bCol).bnd (fun _ => x4 t n)
  have x2 := fun t => nmR_st.bnd (x3 t)
  have x1 := fun t => (wantR_st bDol).bnd (fun _ => x2 t)
  exact tokR_near.bnd tokR_st tokR_st (fun t => (wantR_near _).bnd (wantR_st _) (wantR_st _) (fun _ => nmR_near.bnd nmR_st nmR_st (fun n => (wantR_near _).bnd (wantR_st _) (wantR_st _) (fun _ => hT.bnd sT sT' (fun ty => (punctR_near _).bnd (punctR_st _) (punctR_st _) (fun q => (ite_near hL.a (ret_near _)).bnd (sI q) (sI' q) (fun v => map_near (dirs_near hG hG' hL) sD sD' _) (x7 t n ty q)) (x6 t n ty)) (x5 t n)) (fun _ => x4 t n)) (x3 t)) (fun _ => x2 t)) x1
theorem bodyS_st {L : LitR} {S : LstR} (hG : Goes L) (gS : Goes S) (k : Int) (nm on : ByteArray) (vs : List Dt) (t : Tk) : St (bodyS L S k nm on vs t) := fun c h => bodyS_stp hG gS _ _ _ _ _ h
theorem bodyS_near {L L' : LitR} {S S' : LstR} (hG : Goes L) (hG' : Goes L') (hL : Near m L L' b b') (gS : Goes S) (gS' : Goes S') (hS : Near m S S' b b') (k : Int) (nm on : ByteArray) (vs : List Dt) (t : Tk) : NearA m (bodyS L S k nm on vs t) (bodyS L' S' k nm on vs t) b b' := by
  rw [bodyS_eq, bodyS_eq]
  exact (dirs_near hG hG' hL).bnd (dirs_st hG) (dirs_st hG') (fun d => map_near hS.a gS.st gS'.st _) (fun d => map_st gS.st _)
theorem varsS_near {f f' : Nat} {L L' : LitR} (hT : NearA m (typF f) (typF f') b b') (hG : Goes L) (hG' : Goes L') (hL : Near m L L' b b') : NearA m (varsS (typF f) L) (varsS (typF f') L') b b' := by
  rw [varsS_eq, varsS_eq]
  have g := varQ_goes (f := f) hG
  have g' := varQ_goes (f := f') hG'
  have n1 : NearA m (brk (varQ (typF f) L) bLp bRp 1) (brk (varQ (typF f') L') bLp bRp 1) b b' := (brk_near g g' (varQ_near hT (typF_st f) (typF_st f') hG hG' hL) bLp bRp 1).a.mono (Nat.le_succ _) (Nat.le_succ _)
  exact (isPR_near _).bnd (isPR_st _) (isPR_st _) (fun q => ite_near n1 (ret_near _)) (fun q => ite_st (brk_goes g bLp bRp 1).st (ret_st _))
theorem varsS_st {f : Nat} {L : LitR} (hG : Goes L) : St (varsS (typF f) L) := fun c h => varsS_stp hG h
theorem operS_near {f f' : Nat} {K K' L L' : LitR} {S S' : LstR} (hT : NearA m (typF f) (typF f') b b') (kG : Goes K) (kG' : Goes K') (hK : Near m K K' b b') (hG : Goes L) (hG' : Goes L') (hL : Near m L L' b b') (gS : Goes S) (gS' : Goes S') (hS : Near m S S' b b') (k : Int) (t : Tk) : NearA m (operS (typF f) K L S k t) (operS (typF f') K' L' S' k t) b b' := by
  rw [operS_eq, operS_eq]
  have sI : ∀ u : Tk, St (cond (decide (u.k = 3)) nmR (ret em)) := fun u => ite_st nmR_st (ret_st _)
  have y2 := fun n => (varsS_st (f := f) kG).bnd fun v => bodyS_st hG gS k n em (v.getD []) t
  exact tokR_near.bnd tokR_st tokR_st (fun u => (ite_near nmR_near (ret_near _)).bnd (sI u) (sI u) (fun n => (varsS_near hT kG kG' hK).bnd (varsS_st kG) (varsS_st kG') (fun v => bodyS_near hG hG' hL gS gS' hS _ _ _ _ _) (fun v => bodyS_st hG gS _ _ _ _ _)) y2) (fun u => (sI u).bnd y2)
theorem fragS_near {L L' : LitR} {S S' : LstR} (hG : Goes L) (hG' : Goes L') (hL : Near m L L' b b') (gS : Goes S) (gS' : Goes S') (hS : Near m S S' b b') (t : Tk) : NearA m (fragS L S t) (fragS L' S' t) b b' := by
  rw [fragS_eq, fragS_eq]
  have y3 := fun n on => bodyS_st hG gS 4 n on [] t
  have y2 := fun n => nmR_st.bnd (y3 n)
  have y1 := fun n => (wwR_st [bOn]).bnd fun _ => y2 n
  exact (butR_near _).bnd (butR_st _) (butR_st _) (fun n => (wwR_near _).bnd (wwR_st _) (wwR_st _) (fun _ => nmR_near.bnd nmR_st nmR_st (fun on => bodyS_near hG hG' hL gS gS' hS _ _ _ _ _) (y3 n)) (fun _ => y2 n)) y1
theorem defS_near {f f' : Nat} {K K' L L' : LitR} {S S' : LstR} (hT : NearA m (typF f) (typF f') b b') (kG : Goes K) (kG' : Goes K') (hK : Near m K K' b b') (hG : Goes L) (hG' : Goes L') (hL : Near m L L' b b') (gS : Goes S) (gS' : Goes S') (hS : Near m S S' b b') : NearA m (defS (typF f) K L S) (defS (typF f') K' L' S') b b' := by
  rw [defS_eq, defS_eq]
  have z1 : ∀ (t : Tk) (x : ByteArray), St (match kindS x with | some k => operS (typF f) K L S k t | none => fragS L S t) := fun t x => by
    cases kindS x with
    | none => exact fun c h => fragS_stp hG gS t h
    | some k => exact fun c h => operS_stp kG hG gS k t h
  have z2 := fun t => wordsR_st.bnd fun u => ite_st (b := u.1) (z1 t u.2) (ret_st none)
  have z3 := fun (t : Tk) => (isPR_st bLc).bnd fun q => ite_st (b := q) (map_st gS.st (fun r : Option (List Dt) => r.map fun ss => defD 1 em em true [] [] ss t.ln t.co)) (z2 t)
  refine tokR_near.bnd tokR_st tokR_st (fun t => (isPR_near _).bnd (isPR_st _) (isPR_st _) (fun q => ite_near (map_near hS.a gS.st gS'.st _) (wordsR_near.bnd wordsR_st wordsR_st (fun u => ite_near ?_ (ret_near _)) (fun u => ite_st (z1 t u.2) (ret_st none)))) (fun q => ite_st (map_st gS.st _) (z2 t))) z3
  cases kindS u.2 with
  | none => exact fragS_near hG hG' hL gS gS' hS t
  | some k => exact operS_near hT kG kG' hK hG hG' hL gS gS' hS k t
theorem defN_near (N N' : Nat) : Near m (defN N) (defN N') N N' :=
  defS_near (typF_near N N') (litF_goes true N) (litF_goes true N') (litF_near true N N') (litF_goes false N) (litF_goes false N') (litF_near false N N') (selsF_goes (litF_goes false N) N) (selsF_goes (litF_goes false N') N') (selsF_near (litF_goes false N) (litF_goes false N') (litF_near false N N') N N' (Nat.le_refl _) (Nat.le_refl _))
theorem defsF_near {D D' : LitR} (hG : Goes D) (hG' : Goes D') (hD : Near m D D' b b') : ∀ (g g' : Nat) (l : List Dt) (c c' : Cu), c.Ok → c'.Ok → Sim m c c' → c.ts.length ≤ b + c.ix → c'.ts.length ≤ b' + c'.ix → c.ts.length ≤ g + c.ix → c'.ts.length ≤ g' + c'.ix → (defsF D g l c).2.ix ≤ m → (defsF D' g' l c').1 = (defsF D g l c).1 ∧ Sim m (defsF D g l c).2 (defsF D' g' l c').2
  | 0, g', l, c, c', h, h', hs, hb, hb', hg, hg', hm => by have := h.lt; omega
  | g + 1, 0, l, c, c', h, h', hs, hb, hb', hg, hg', hm => by have := h'.lt; omega
  | g + 1, g' + 1, l, c, c', h, h', hs, hb, hb', hg, hg', hm => by
    have hst := defsF_stp hG (g + 1) l c h
    have hix : c.ix ≤ m := Nat.le_trans hst.ix hm
    simp only [defsF] at hm ⊢
    rw [hs.tok hix]
    by_cases hc : l.length = 0 ∨ c.tok.k ≠ 0
    · rw [if_pos hc] at hm
      rw [if_pos hc, if_pos hc]
      have hgo := hG c h
      have hEm : (D c).2.ix ≤ m := by
        cases hq : (D c).1 with
        | none => rw [hq] at hm; exact hm
        | some d =>
          rw [hq] at hm
          exact Nat.le_trans (defsF_stp hG g _ _ hgo.1.ok).ix hm
      obtain ⟨e1, e2⟩ := hD c c' h h' hs hb hb' hEm
      cases hq : (D c).1 with
      | none =>
        rw [hq] at e1
        rw [e1]
        exact ⟨rfl, e2⟩
      | some d =>
        rw [hq] at e1 hm
        rw [e1]
        have hgo' := hG' c' h'
        have i1 := hgo.2 (by rw [hq]; rfl)
        have i2 := hgo'.2 (by rw [e1]; rfl)
        exact defsF_near hG hG' hD g g' (l ++ [d]) _ _ hgo.1.ok hgo'.1.ok e2 (by rw [hgo.1.ts]; omega) (by rw [hgo'.1.ts]; omega) (by rw [hgo.1.ts]; omega) (by rw [hgo'.1.ts]; omega) hm
    · rw [if_neg hc, if_neg hc]
      exact ⟨by simp only [hs.finB hix], hs.fin hix⟩
theorem docS_near (c c' : Cu) (h : c.Ok) (h' : c'.Ok) (hs : Sim m c c') (hm : (docS c).2.ix ≤ m) : (docS c').1 = (docS c).1 ∧ Sim m (docS c).2 (docS c').2 :=
  defsF_near (defN_goes _) (defN_goes _) (defN_near _ _) _ _ [] c c' h h' hs (by omega) (by omega) (by omega) (by omega) hm
end
end Go.Proofs.YtmhelpocddndjaaGreat.cu
namespace Go.Proofs.YtmhelpocddndjaaGreat.cu
open dt (Dt Kp RowAt Ow Grow)
set_option linter.unusedVariables false
set_option linter.unusedSimpArgs false
/-- a cursor at the end of its tokens, alive or with a fault there -/
structure AtE (c : Cu) : Prop where
  k : c.tok.k = 0
  kd : c.kd = 0 ∨ c.kd = 70
/-- at the end nothing is taken -/
def EndP {A : Type} (E : Cu → A × Cu) : Prop := ∀ c, AtE c → AtE (E c).2 ∧ (E c).2.ix = c.ix ∧ (E c).2.ts = c.ts
theorem EndP.bnd {A X : Type} {E : Cu → A × Cu} {F : A → Cu → X × Cu} (h : EndP E) (k : ∀ a, EndP (F a)) : EndP (bnd E F) := fun c hc => by
  obtain ⟨h1, h2, h3⟩ := h c hc
  obtain ⟨k1, k2, k3⟩ := k (E c).1 _ h1
  exact ⟨k1, k2.trans h2, k3.trans h3⟩
theorem AtE.isP {c : Cu} (h : AtE c) (p : ByteArray) : c.isP p = false := by unfold Cu.isP; simp [h.k]
theorem AtE.isN {c : Cu} (h : AtE c) : c.isN = false := by unfold Cu.isN; simp [h.k]
theorem AtE.isW {c : Cu} (h : AtE c) (ws : List ByteArray) : c.isW ws = false := by unfold Cu.isW; rw [h.isN]; rfl
theorem AtE.stop {c : Cu} (h : AtE c) : AtE (c.stop 70) ∧ (c.stop 70).ix = c.ix ∧ (c.stop 70).ts = c.ts := by
  unfold Cu.stop
  split
  · exact ⟨⟨h.k, .inr rfl⟩, rfl, rfl⟩
  · exact ⟨h, rfl, rfl⟩
theorem idE {A : Type} {E : Cu → A × Cu} (h : ∀ c, (E c).2 = c) : EndP E := fun c hc => by rw [h c]; exact ⟨hc, rfl, rfl⟩
theorem ret_e {A : Type} (a : A) : EndP (ret a) := idE fun _ => rfl
theorem tokR_e : EndP tokR := idE fun _ => rfl
theorem isPR_e (p : ByteArray) : EndP (isPR p) := idE fun _ => rfl
theorem aliveR_e : EndP aliveR := idE fun _ => rfl
theorem sprR_e : EndP sprR := idE fun _ => rfl
theorem fin_e {c : Cu} (h : AtE c) : AtE c.fin ∧ c.fin.ix = c.ix ∧ c.fin.ts = c.ts := by
  unfold Cu.fin
  split
  · exact ⟨h, rfl, rfl⟩
  · exact h.stop
theorem name_e {c : Cu} (h : AtE c) : AtE c.name ∧ c.name.ix = c.ix ∧ c.name.ts = c.ts := by unfold Cu.name; rw [h.isN]; exact h.stop
theorem want_e {c : Cu} (h : AtE c) (p : ByteArray) : AtE (c.want p) ∧ (c.want p).ix = c.ix ∧ (c.want p).ts = c.ts := by unfold Cu.want; rw [h.isP]; exact h.stop
theorem cls_e {c : Cu} (h : AtE c) (p : ByteArray) : AtE (c.cls p) ∧ (c.cls p).ix = c.ix ∧ (c.cls p).ts = c.ts := by unfold Cu.cls; rw [h.isP]; exact h.stop
theorem opn_e {c : Cu} (h : AtE c) (p : ByteArray) : AtE (c.opn p) ∧ (c.opn p).ix = c.ix ∧ (c.opn p).ts = c.ts := by unfold Cu.opn; rw [h.isP]; exact h.stop
theorem nmR_e : EndP nmR := fun c h => name_e h
theorem nR_e : EndP nR := fun c h => name_e h
theorem wantR_e (p : ByteArray) : EndP (wantR p) := fun c h => want_e h p
theorem clsR_e (p : ByteArray) : EndP (clsR p) := fun c h => cls_e h p
theorem opnR_e (p : ByteArray) : EndP (opnR p) := fun c h => opn_e h p
theorem punctR_e (p : ByteArray) : EndP (punctR p) := fun c h => by
  show AtE (c.punct p) ∧ (c.punct p).ix = c.ix ∧ (c.punct p).ts = c.ts
  unfold Cu.punct; rw [h.isP]; exact ⟨h, rfl, rfl⟩
theorem wordR_e (q : ByteArray) : EndP (wordR q) := fun c h => by
  show AtE (c.word q) ∧ (c.word q).ix = c.ix ∧ (c.word q).ts = c.ts
  unfold Cu.word; rw [h.isW]; exact ⟨h, rfl, rfl⟩
theorem butR_e (ws : List ByteArray) : EndP (butR ws) := fun c h => by
  show AtE (c.nmC _) ∧ (c.nmC _).ix = c.ix ∧ (c.nmC _).ts = c.ts
  rw [h.isN]; exact h.stop
theorem wwR_e (ws : List ByteArray) : EndP (wwR ws) := fun c h => by
  show AtE (c.nmC _) ∧ (c.nmC _).ix = c.ix ∧ (c.nmC _).ts = c.ts
  rw [h.isW]; exact h.stop
theorem wordsR_e : EndP wordsR := fun c h => by
  show AtE (c.nmC _) ∧ (c.nmC _).ix = c.ix ∧ (c.nmC _).ts = c.ts
  rw [h.isW]; exact h.stop
theorem cond_e {A : Type} {b : Bool} {E F : Cu → A × Cu} (h : EndP E) (k : EndP F) : EndP (cond b E F) := by cases b; exact k; exact h
theorem brk_e (E : Cu → Option Dt × Cu) (l r : ByteArray) (n : Nat) : EndP (brk E l r n) := fun c h => by
  unfold brk
  rw [show c.opB l = false by unfold Cu.opB; rw [h.isP]; rfl]
  exact opn_e h l
theorem litF_e (ct : Bool) : ∀ f, EndP (litF ct f)
  | 0 => fun c h => ⟨h, rfl, rfl⟩
  | f + 1 => fun c h => by
    show AtE (litS (litF ct f) ct c).2 ∧ (litS (litF ct f) ct c).2.ix = c.ix ∧ (litS (litF ct f) ct c).2.ts = c.ts
    unfold litS
    rw [h.isP, h.isP, h.isP, h.k]
    split
    · exact ⟨h, rfl, rfl⟩
    · simp only [show ¬ ((0 : Int) = 4) by decide, show ¬ ((0 : Int) = 5) by decide, show ¬ ((0 : Int) = 6 ∨ (0 : Int) = 7) by decide, show ¬ ((0 : Int) = 3) by decide, if_false, Bool.false_eq_true, false_and]
      exact h.stop
theorem argsS_e (L : LitR) : EndP (argsS L) := by
  rw [argsS_eq]
  exact (isPR_e _).bnd fun q => cond_e (brk_e _ _ _ _) (aliveR_e.bnd fun a => ret_e _)
theorem dirs_e (L : LitR) : EndP (dirs L) := fun c h => by
  have : ∀ g l, (dirsF L g l c).2 = c := by
    intro g l
    cases g with
    | zero => rfl
    | succ g => simp only [dirsF]; rw [h.isP, if_neg (by decide)]
  show AtE (dirsF L c.ts.length [] c).2 ∧ _
  rw [this]
  exact ⟨h, by show (dirsF L c.ts.length [] c).2.ix = c.ix; rw [this], by show (dirsF L c.ts.length [] c).2.ts = c.ts; rw [this]⟩
theorem selsF_e (L : LitR) : ∀ g, EndP (selsF L g)
  | 0 => fun c h => ⟨h, rfl, rfl⟩
  | g + 1 => brk_e _ _ _ _
theorem typF_e : ∀ f, EndP (typF f)
  | 0 => fun c h => ⟨h, rfl, rfl⟩
  | f + 1 => by
    show EndP (typ (unm (typF f)))
    rw [typ_eq, unm_eq]
    refine EndP.bnd ((isPR_e _).bnd fun q => cond_e ((opnR_e _).bnd fun o => cond_e ?_ (ret_e _)) (nR_e.bnd fun n => ret_e _)) (fun r => ?_)
    · exact (typF_e f).bnd fun r => by
        cases r with
        | none => exact ret_e _
        | some it => exact (clsR_e _).bnd fun cl => ret_e _
    · cases r with
      | none => exact ret_e _
      | some r => exact (punctR_e _).bnd fun q => ret_e _
theorem spreadS_e (L : LitR) (t : Tk) : EndP (spreadS L t) := by
  rw [spreadS_eq]
  exact (butR_e _).bnd fun _ => (dirs_e L).bnd fun _ => ret_e _
theorem inlineS_e (L : LitR) {S : LstR} (hS : EndP S) (t : Tk) : EndP (inlineS L S t) := by
  rw [inlineS_eq]
  exact (wordR_e _).bnd fun q => (cond_e nmR_e (ret_e _)).bnd fun _ => (dirs_e L).bnd fun _ => hS.bnd fun _ => ret_e _
theorem fieldS_e (L : LitR) {S : LstR} (hS : EndP S) (t : Tk) : EndP (fieldS L S t) := by
  rw [fieldS_eq]
  exact nmR_e.bnd fun _ => (punctR_e _).bnd fun q => (cond_e nmR_e (ret_e _)).bnd fun _ => (argsS_e L).bnd fun _ => (dirs_e L).bnd fun _ => (isPR_e _).bnd fun q => cond_e (hS.bnd fun _ => ret_e _) (ret_e _)
theorem varQ_e (T : TypR) (L : LitR) (hT : EndP T) (hL : EndP L) : EndP (varQ T L) := by
  rw [varQ_eq]
  exact tokR_e.bnd fun _ => (wantR_e _).bnd fun _ => nmR_e.bnd fun _ => (wantR_e _).bnd fun _ => hT.bnd fun _ => (punctR_e _).bnd fun q => (cond_e hL (ret_e _)).bnd fun _ => (dirs_e L).bnd fun _ => ret_e _
theorem bodyS_e (L : LitR) {S : LstR} (hS : EndP S) (k : Int) (nm on : ByteArray) (vs : List Dt) (t : Tk) : EndP (bodyS L S k nm on vs t) := by
  rw [bodyS_eq]
  exact (dirs_e L).bnd fun _ => hS.bnd fun _ => ret_e _
theorem varsS_e (T : TypR) (K : LitR) : EndP (varsS T K) := by
  rw [varsS_eq]
  exact (isPR_e _).bnd fun q => cond_e (brk_e _ _ _ _) (ret_e _)
theorem operS_e (T : TypR) (K L : LitR) {S : LstR} (hS : EndP S) (k : Int) (t : Tk) : EndP (operS T K L S k t) := by
  rw [operS_eq]
  exact tokR_e.bnd fun u => (cond_e nmR_e (ret_e _)).bnd fun _ => (varsS_e T K).bnd fun _ => bodyS_e L hS _ _ _ _ _
theorem fragS_e (L : LitR) {S : LstR} (hS : EndP S) (t : Tk) : EndP (fragS L S t) := by
  rw [fragS_eq]
  exact (butR_e _).bnd fun _ => (wwR_e _).bnd fun _ => nmR_e.bnd fun _ => bodyS_e L hS _ _ _ _ _
theorem defS_e (T : TypR) (K L : LitR) {S : LstR} (hS : EndP S) : EndP (defS T K L S) := by
  rw [defS_eq]
  exact tokR_e.bnd fun t => (isPR_e _).bnd fun q => cond_e (hS.bnd fun _ => ret_e _) (wordsR_e.bnd fun u => cond_e (by cases kindS u.2; exact fragS_e L hS t; exact operS_e T K L hS _ t) (ret_e _))
theorem defsF_e {D : LitR} (hD : EndP D) : ∀ (g : Nat) (l : List Dt), EndP (defsF D g l)
  | 0, l => fun c h => ⟨h, rfl, rfl⟩
  | g + 1, l => fun c h => by
    simp only [defsF]
    split
    · obtain ⟨h1, h2, h3⟩ := hD c h
      cases hq : (D c).1 with
      | none => exact ⟨h1, h2, h3⟩
      | some d =>
        obtain ⟨k1, k2, k3⟩ := defsF_e hD g (l ++ [d]) _ h1
        exact ⟨k1, k2.trans h2, k3.trans h3⟩
    · exact fin_e h
end Go.Proofs.YtmhelpocddndjaaGreat.cu
namespace Go.Proofs.YtmhelpocddndjaaGreat.cu
open dt (Dt Kp RowAt Ow Grow)
set_option linter.unusedVariables false
set_option linter.unusedSimpArgs false
/-- a fault stays one -/
def Dm {A : Type} (E : Cu → A × Cu) : Prop := ∀ c, c.kd ≠ 0 → (E c).2.kd ≠ 0
theorem Dm.bnd {A X : Type} {E : Cu → A × Cu} {F : A → Cu → X × Cu} (h : Dm E) (k : ∀ a, Dm (F a)) : Dm (bnd E F) := fun c hc => k _ _ (h c hc)
theorem idD {A : Type} {E : Cu → A × Cu} (h : ∀ c, c.kd ≠ 0 → (E c).2 = c) : Dm E := fun c hc => by rw [h c hc]; exact hc
theorem ret_d {A : Type} (a : A) : Dm (ret a) := idD fun _ _ => rfl
theorem tokR_d : Dm tokR := idD fun _ _ => rfl
theorem isPR_d (p : ByteArray) : Dm (isPR p) := idD fun _ _ => rfl
theorem aliveR_d : Dm aliveR := idD fun _ _ => rfl
theorem sprR_d : Dm sprR := idD fun _ _ => rfl
theorem nmR_d : Dm nmR := idD fun c h => name_still h
theorem nR_d : Dm nR := idD fun c h => name_still h
theorem wantR_d (p : ByteArray) : Dm (wantR p) := idD fun c h => want_dead h p
theorem cls_still {c : Cu} (h : c.kd ≠ 0) (p : ByteArray) : c.cls p = c := by unfold Cu.cls; rw [isP_dead h]; exact stop_dead _ _ h
theorem opn_still {c : Cu} (h : c.kd ≠ 0) (p : ByteArray) : c.opn p = c := by unfold Cu.opn; rw [isP_dead h]; exact stop_dead _ _ h
theorem fin_still {c : Cu} (h : c.kd ≠ 0) : c.fin = c := by unfold Cu.fin; split; rfl; exact stop_dead _ _ h
theorem clsR_d (p : ByteArray) : Dm (clsR p) := idD fun c h => cls_still h p
theorem opnR_d (p : ByteArray) : Dm (opnR p) := idD fun c h => opn_still h p
theorem punctR_d (p : ByteArray) : Dm (punctR p) := idD fun c h => by show c.punct p = c; unfold Cu.punct; rw [isP_dead h]; rfl
theorem isW_dead {c : Cu} (h : c.kd ≠ 0) (ws : List ByteArray) : c.isW ws = false := by unfold Cu.isW; rw [isN_dead h]; rfl
theorem wordR_d (q : ByteArray) : Dm (wordR q) := idD fun c h => by show c.word q = c; unfold Cu.word; rw [isW_dead h]; rfl
theorem butR_d (ws : List ByteArray) : Dm (butR ws) := idD fun c h => by show c.nmC _ = c; rw [isN_dead h]; exact stop_dead _ _ h
theorem wwR_d (ws : List ByteArray) : Dm (wwR ws) := idD fun c h => by show c.nmC _ = c; rw [isW_dead h]; exact stop_dead _ _ h
theorem wordsR_d : Dm wordsR := idD fun c h => by show c.nmC _ = c; rw [isW_dead h]; exact stop_dead _ _ h
theorem cond_d {A : Type} {b : Bool} {E F : Cu → A × Cu} (h : Dm E) (k : Dm F) : Dm (cond b E F) := by cases b; exact k; exact h
theorem brk_d (E : Cu → Option Dt × Cu) (l r : ByteArray) (n : Nat) : Dm (brk E l r n) := idD fun c h => by rw [brk_dead E l r n h]
theorem litF_d (ct : Bool) : ∀ f, Dm (litF ct f)
  | 0 => fun c h => h
  | f + 1 => fun c h => by show (litS (litF ct f) ct c).2.kd ≠ 0; unfold litS; rw [if_pos h]; exact h
theorem argsS_d (L : LitR) : Dm (argsS L) := idD fun c h => by rw [argsS_still L h]
theorem dirs_d (L : LitR) : Dm (dirs L) := idD fun c h => by rw [dirs_still L h]
theorem selsF_d (L : LitR) (g : Nat) : Dm (selsF L g) := idD fun c h => by rw [selsF_still L h]
theorem typF_d (f : Nat) : Dm (typF f) := idD fun c h => by rw [typF_still f h]
theorem map_d {A X : Type} {E : Cu → A × Cu} (s : Dm E) (f : A → X) : Dm (bnd E fun r => ret (f r)) := s.bnd fun _ => ret_d _
theorem map_e {A X : Type} {E : Cu → A × Cu} (s : EndP E) (f : A → X) : EndP (bnd E fun r => ret (f r)) := s.bnd fun _ => ret_e _
/-- the second cursor's tokens end behind number m -/
def Ed (m : Nat) (c : Cu) : Prop := ∃ e, c.ts[m + 1]? = some e ∧ e.k = 0
/-- a reading that goes beyond m: the second cursor is at its end -/
def Beg {A : Type} (m : Nat) (E E' : Cu → A × Cu) (b b' : Nat) : Prop := ∀ c c', c.Ok → c'.Ok → Sim m c c' → Ed m c' → c.kd = 0 → c.ix ≤ m → c.ts.length ≤ b + c.ix → c'.ts.length ≤ b' + c'.ix → (E c).2.kd = 0 → m < (E c).2.ix → AtE (E' c').2 ∧ (E' c').2.ix = m + 1
section
variable {m b b' : Nat}
theorem Sim.atE {c c' : Cu} (h : Sim m c c') (he : Ed m c') (h0 : c.kd = 0) (hi : c.ix = m + 1) : AtE c' ∧ c'.ix = m + 1 := by
  obtain ⟨e, h1, h2⟩ := he
  refine ⟨⟨?_, .inl (h.kd.trans h0)⟩, h.ix.trans hi⟩
  unfold Cu.tok
  rw [h.ix, hi, List.getD_eq_getElem?_getD, h1]
  exact h2
theorem Beg.bnd {A X : Type} {E E' : Cu → A × Cu} {F F' : A → Cu → X × Cu} (h : Beg m E E' b b') (n : NearA m E E' b b') (s : St E) (s' : St E') (k : ∀ a, Beg m (F a) (F' a) b b') (t : ∀ a, St (F a)) (dF : ∀ a, Dm (F a)) (eF : ∀ a, EndP (F' a)) : Beg m (bnd E F) (bnd E' F') b b' := by
  intro c c' hc hc' hs he h0 hi hb hb' hk hm
  have s1 := s c hc
  have s2 := s' c' hc'
  have k0 : (E c).2.kd = 0 := Classical.byContradiction fun x => dF (E c).1 _ x hk
  by_cases hx : (E c).2.ix ≤ m
  · obtain ⟨e1, e2⟩ := n c c' hc hc' hs hb hb' hx
    show AtE (F' (E' c').1 (E' c').2).2 ∧ (F' (E' c').1 (E' c').2).2.ix = m + 1
    rw [e1]
    exact k (E c).1 _ _ s1.ok s2.ok e2 (by unfold Ed; rw [s2.ts]; exact he) k0 hx (by rw [s1.ts]; have := s1.ix; omega) (by rw [s2.ts]; have := s2.ix; omega) hk hm
  · obtain ⟨a1, a2⟩ := h c c' hc hc' hs he h0 hi hb hb' k0 (by omega)
    obtain ⟨q1, q2, q3⟩ := eF (E' c').1 _ a1
    exact ⟨q1, q2.trans a2⟩
theorem Beg.mono {A : Type} {E E' : Cu → A × Cu} {d d' : Nat} (h : Beg m E E' b b') (h1 : d ≤ b) (h2 : d' ≤ b') : Beg m E E' d d' := fun c c' hc hc' hs he h0 hi hb hb' hk hm => h c c' hc hc' hs he h0 hi (by omega) (by omega) hk hm
/-- one that takes a token at most, the same in both -/
theorem prim_b {A : Type} {E E' : Cu → A × Cu} (s' : St E') (hS : ∀ c c', Sim m c c' → c.ix ≤ m → Sim m (E c).2 (E' c').2) (h1 : ∀ c, (E c).2.ix ≤ c.ix + 1) : Beg m E E' b b' := by
  intro c c' hc hc' hs he h0 hi hb hb' hk hm
  have := h1 c
  exact (hS c c' hs hi).atE (by unfold Ed; rw [(s' c' hc').ts]; exact he) hk (by omega)
theorem id_b {A : Type} {E E' : Cu → A × Cu} (h : ∀ c, (E c).2 = c) : Beg m E E' b b' := fun c c' hc hc' hs he h0 hi hb hb' hk hm => by rw [h c] at hm; omega
theorem stop_ix (c : Cu) (k : Int) : (c.stop k).ix = c.ix := by unfold Cu.stop; split <;> rfl
theorem nmC_ix (c : Cu) (so : Bool) : (c.nmC so).ix ≤ c.ix + 1 := by
  unfold Cu.nmC
  cases so
  · have := stop_ix c 70; show (c.stop 70).ix ≤ _; omega
  · exact Nat.le_refl _
theorem name_ix (c : Cu) : c.name.ix ≤ c.ix + 1 := by
  unfold Cu.name
  split
  · exact Nat.le_refl _
  · rw [stop_ix]; omega
theorem want_ix (c : Cu) (p : ByteArray) : (c.want p).ix ≤ c.ix + 1 := by
  unfold Cu.want
  split
  · exact Nat.le_refl _
  · rw [stop_ix]; omega
theorem cls_ix (c : Cu) (p : ByteArray) : (c.cls p).ix ≤ c.ix + 1 := by
  unfold Cu.cls
  split
  · exact Nat.le_refl _
  · rw [stop_ix]; omega
theorem opn_ix' (c : Cu) (p : ByteArray) : (c.opn p).ix ≤ c.ix + 1 := by
  unfold Cu.opn
  split
  · split
    · exact Nat.le_refl _
    · rw [stop_ix]; omega
  · rw [stop_ix]; omega
theorem punct_ix (c : Cu) (p : ByteArray) : (c.punct p).ix ≤ c.ix + 1 := by
  unfold Cu.punct
  split
  · exact Nat.le_refl _
  · omega
theorem word_ix (c : Cu) (q : ByteArray) : (c.word q).ix ≤ c.ix + 1 := by
  unfold Cu.word
  split
  · exact Nat.le_refl _
  · omega
theorem ret_b {A : Type} (a : A) : Beg m (ret a) (ret a) b b' := id_b fun _ => rfl
theorem tokR_b : Beg m tokR tokR b b' := id_b fun _ => rfl
theorem isPR_b (p : ByteArray) : Beg m (isPR p) (isPR p) b b' := id_b fun _ => rfl
theorem aliveR_b : Beg m aliveR aliveR b b' := id_b fun _ => rfl
theorem sprR_b : Beg m sprR sprR b b' := id_b fun _ => rfl
theorem nmR_b : Beg m nmR nmR b b' := prim_b nmR_st (fun c c' hs hi => hs.name hi) name_ix
theorem nR_b : Beg m nR nR b b' := prim_b nR_st (fun c c' hs hi => hs.name hi) name_ix
theorem wantR_b (p : ByteArray) : Beg m (wantR p) (wantR p) b b' := prim_b (wantR_st p) (fun c c' hs hi => hs.want hi p) (fun c => want_ix c p)
theorem clsR_b (p : ByteArray) : Beg m (clsR p) (clsR p) b b' := prim_b (clsR_st p) (fun c c' hs hi => hs.cls hi p) (fun c => cls_ix c p)
theorem opnR_b (p : ByteArray) : Beg m (opnR p) (opnR p) b b' := prim_b (opnR_st p) (fun c c' hs hi => hs.opn hi p) (fun c => opn_ix' c p)
theorem punctR_b (p : ByteArray) : Beg m (punctR p) (punctR p) b b' := prim_b (punctR_st p) (fun c c' hs hi => by
  show Sim m (c.punct p) (c'.punct p)
  unfold Cu.punct
  rw [hs.isP hi p]
  split
  · exact hs.take
  · exact hs) (fun c => punct_ix c p)
theorem wordR_b (q : ByteArray) : Beg m (wordR q) (wordR q) b b' := prim_b (wordR_st q) (fun c c' hs hi => by
  show Sim m (c.word q) (c'.word q)
  unfold Cu.word
  rw [hs.isW hi [q]]
  split
  · exact hs.take
  · exact hs) (fun c => word_ix c q)
theorem butR_b (ws : List ByteArray) : Beg m (butR ws) (butR ws) b b' := prim_b (butR_st ws) (fun c c' hs hi => by
  show Sim m (c.nmC _) (c'.nmC _)
  rw [hs.isN hi, hs.tok hi]
  exact hs.nmC _) (fun c => nmC_ix c _)
theorem wwR_b (ws : List ByteArray) : Beg m (wwR ws) (wwR ws) b b' := prim_b (wwR_st ws) (fun c c' hs hi => by
  show Sim m (c.nmC _) (c'.nmC _)
  rw [hs.isW hi]
  exact hs.nmC _) (fun c => nmC_ix c _)
theorem wordsR_b : Beg m wordsR wordsR b b' := prim_b wordsR_st (fun c c' hs hi => by
  show Sim m (c.nmC _) (c'.nmC _)
  rw [hs.isW hi]
  exact hs.nmC _) (fun c => nmC_ix c _)
theorem cond_b {A : Type} {q : Bool} {E E' F F' : Cu → A × Cu} (h : Beg m E E' b b') (k : Beg m F F' b b') : Beg m (cond q E F) (cond q E' F') b b' := by cases q; exact k; exact h
theorem map_b {A X : Type} {E E' : Cu → A × Cu} (h : Beg m E E' b b') (n : NearA m E E' b b') (s : St E) (s' : St E') (f : A → X) : Beg m (bnd E fun r => ret (f r)) (bnd E' fun r => ret (f r)) b b' := h.bnd n s s' (fun _ => ret_b _) (fun _ => ret_st _) (fun _ => ret_d _) (fun _ => ret_e _)
end
end Go.Proofs.YtmhelpocddndjaaGreat.cu
namespace Go.Proofs.YtmhelpocddndjaaGreat.cu
open dt (Dt Kp RowAt Ow Grow)
set_option linter.unusedVariables false
set_option linter.unusedSimpArgs false
theorem argS_eq (L : LitR) : argS L = bnd tokR fun t => bnd nR fun _ => bnd (wantR bCol) fun _ => bnd L fun r => ret (r.map fun v => fldD t.tx v t.ln t.co) := by
  funext c
  simp only [argS, bnd, tokR, nR, wantR, ret]
  cases (L (c.name.want bCol)).1 <;> rfl
theorem argS_e {L : LitR} (h : EndP L) : EndP (argS L) := by
  rw [argS_eq]
  exact tokR_e.bnd fun _ => nR_e.bnd fun _ => (wantR_e _).bnd fun _ => map_e h _
theorem argS_d {L : LitR} (h : Dm L) : Dm (argS L) := by
  rw [argS_eq]
  exact tokR_d.bnd fun _ => nR_d.bnd fun _ => (wantR_d _).bnd fun _ => map_d h _
theorem brkF_e {E : Cu → Option Dt × Cu} (hE : EndP E) (r : ByteArray) (n : Nat) : ∀ (g : Nat) (l : List Dt), EndP (brkF E r n g l)
  | 0, l => fun c h => ⟨h, rfl, rfl⟩
  | g + 1, l => fun c h => by
    simp only [brkF]
    split
    · obtain ⟨h1, h2, h3⟩ := hE c h
      cases hq : (E c).1 with
      | none => exact ⟨h1, h2, h3⟩
      | some d =>
        obtain ⟨k1, k2, k3⟩ := brkF_e hE r n g (l ++ [d]) _ h1
        exact ⟨k1, k2.trans h2, k3.trans h3⟩
    · exact cls_e h r
theorem brkF_d {E : Cu → Option Dt × Cu} (hE : Dm E) (r : ByteArray) (n : Nat) : ∀ (g : Nat) (l : List Dt), Dm (brkF E r n g l)
  | 0, l => fun c h => h
  | g + 1, l => fun c h => by
    simp only [brkF]
    split
    · have h1 := hE c h
      cases hq : (E c).1 with
      | none => exact h1
      | some d => exact brkF_d hE r n g _ _ h1
    · rw [cls_still h]; exact h
section
variable {m b b' : Nat}
theorem brkF_b {E E' : Cu → Option Dt × Cu} (hG : Goes E) (hG' : Goes E') (hN : Near m E E' b b') (hB : Beg m E E' b b') (hD : Dm E) (hE : EndP E') (right : ByteArray) (least : Nat) : ∀ (g g' : Nat) (l : List Dt) (c c' : Cu), c.Ok → c'.Ok → Sim m c c' → Ed m c' → c.kd = 0 → c.ix ≤ m → c.ts.length ≤ b + c.ix → c'.ts.length ≤ b' + c'.ix → c.ts.length ≤ g + c.ix → c'.ts.length ≤ g' + c'.ix → (brkF E right least g l c).2.kd = 0 → m < (brkF E right least g l c).2.ix → AtE (brkF E' right least g' l c').2 ∧ (brkF E' right least g' l c').2.ix = m + 1
  | 0, g', l, c, c', h, h', hs, he, h0, hi, hb, hb', hg, hg', hk, hm => by have := h.lt; omega
  | g + 1, 0, l, c, c', h, h', hs, he, h0, hi, hb, hb', hg, hg', hk, hm => by have := h'.lt; omega
  | g + 1, g' + 1, l, c, c', h, h', hs, he, h0, hi, hb, hb', hg, hg', hk, hm => by
    simp only [brkF] at hk hm ⊢
    rw [hs.isP hi]
    by_cases hc : l.length < least ∨ c.isP right = false
    · rw [if_pos hc] at hk hm
      rw [if_pos hc]
      have hgo := hG c h
      have hgo' := hG' c' h'
      have ed' : Ed m (E' c').2 := by unfold Ed; rw [hgo'.1.ts]; exact he
      cases hq : (E c).1 with
      | none =>
        rw [hq] at hk hm
        obtain ⟨a1, a2⟩ := hB c c' h h' hs he h0 hi hb hb' hk hm
        cases hq' : (E' c').1 with
        | none => exact ⟨a1, a2⟩
        | some d =>
          obtain ⟨q1, q2, q3⟩ := brkF_e hE right least g' (l ++ [d]) _ a1
          exact ⟨q1, q2.trans a2⟩
      | some d =>
        rw [hq] at hk hm
        have k0 : (E c).2.kd = 0 := Classical.byContradiction fun x => brkF_d hD right least g (l ++ [d]) _ x hk
        by_cases hx : (E c).2.ix ≤ m
        · obtain ⟨e1, e2⟩ := hN c c' h h' hs hb hb' hx
          rw [hq] at e1
          rw [e1]
          have i1 := hgo.2 (by rw [hq]; rfl)
          have i2 := hgo'.2 (by rw [e1]; rfl)
          exact brkF_b hG hG' hN hB hD hE right least g g' (l ++ [d]) _ _ hgo.1.ok hgo'.1.ok e2 ed' k0 hx (by rw [hgo.1.ts]; omega) (by rw [hgo'.1.ts]; omega) (by rw [hgo.1.ts]; omega) (by rw [hgo'.1.ts]; omega) hk hm
        · obtain ⟨a1, a2⟩ := hB c c' h h' hs he h0 hi hb hb' k0 (by omega)
          cases hq' : (E' c').1 with
          | none => exact ⟨a1, a2⟩
          | some d' =>
            obtain ⟨q1, q2, q3⟩ := brkF_e hE right least g' (l ++ [d']) _ a1
            exact ⟨q1, q2.trans a2⟩
    · rw [if_neg hc] at hk hm
      rw [if_neg hc]
      have hx : (c.cls right).ix ≤ c.ix + 1 := cls_ix c right
      have hm' : m < (c.cls right).ix := hm
      exact (hs.cls hi right).atE (by unfold Ed; rw [(cls_stp h' right).ts]; exact he) hk (by omega)
theorem brk_b {E E' : Cu → Option Dt × Cu} (hG : Goes E) (hG' : Goes E') (hN : Near m E E' b b') (hB : Beg m E E' b b') (hD : Dm E) (hE : EndP E') (left right : ByteArray) (least : Nat) : Beg m (brk E left right least) (brk E' left right least) (b + 1) (b' + 1) := by
  intro c c' h h' hs he h0 hi hb hb' hk hm
  unfold brk at hk hm ⊢
  rw [hs.opB hi]
  have ho := opn_stp h left
  have ho' := opn_stp h' left
  have ed' : Ed m (c'.opn left) := by unfold Ed; rw [ho'.ts]; exact he
  by_cases hO : c.opB left = true
  · rw [if_pos hO] at hk hm
    rw [if_pos hO]
    have x1 := opn_ix hO
    have x2 := opn_ix (show c'.opB left = true by rw [hs.opB hi]; exact hO)
    have k0 : (c.opn left).kd = 0 := Classical.byContradiction fun x => brkF_d hD right least _ [] _ x hk
    by_cases hx : (c.opn left).ix ≤ m
    · exact brkF_b hG hG' hN hB hD hE right least _ _ [] _ _ ho.ok ho'.ok (hs.opn hi left) ed' k0 hx (by rw [ho.ts, x1]; omega) (by rw [ho'.ts, x2]; omega) (by rw [ho.ts]; omega) (by rw [ho'.ts]; omega) hk hm
    · obtain ⟨a1, a2⟩ := (hs.opn hi left).atE ed' k0 (by omega)
      obtain ⟨q1, q2, q3⟩ := brkF_e hE right least c'.ts.length [] _ a1
      exact ⟨q1, q2.trans a2⟩
  · rw [if_neg hO] at hk
    exact absurd hk (opn_kd (by simpa using hO))
theorem argS_b {L L' : LitR} (hG : Goes L) (hG' : Goes L') (hN : Near m L L' b b') (hB : Beg m L L' b b') (hD : Dm L) (hE : EndP L') : Beg m (argS L) (argS L') b b' := by
  rw [argS_eq, argS_eq]
  have s3 := fun (t : Tk) => map_st hG.st (fun r : Option Dt => r.map fun v => fldD t.tx v t.ln t.co)
  have s2 := fun t => (wantR_st bCol).bnd fun _ => s3 t
  have s1 := fun t => nR_st.bnd fun _ => s2 t
  have d3 := fun (t : Tk) => map_d hD (fun r : Option Dt => r.map fun v => fldD t.tx v t.ln t.co)
  have d2 := fun t => (wantR_d bCol).bnd fun _ => d3 t
  have d1 := fun t => nR_d.bnd fun _ => d2 t
  have e3 := fun (t : Tk) => map_e hE (fun r : Option Dt => r.map fun v => fldD t.tx v t.ln t.co)
  have e2 := fun t => (wantR_e bCol).bnd fun _ => e3 t
  have e1 := fun t => nR_e.bnd fun _ => e2 t
  exact tokR_b.bnd tokR_near tokR_st tokR_st (fun t => nR_b.bnd nR_near nR_st nR_st (fun _ => (wantR_b _).bnd (wantR_near _) (wantR_st _) (wantR_st _) (fun _ => map_b hB hN.a hG.st hG'.st _) (fun _ => s3 t) (fun _ => d3 t) (fun _ => e3 t)) (fun _ => s2 t) (fun _ => d2 t) (fun _ => e2 t)) s1 d1 e1
theorem litF_b (ct : Bool) : ∀ (f f' : Nat), Beg m (litF ct f) (litF ct f') f f'
  | 0, f' => fun c c' h h' hs he h0 hi hb hb' hk hm => by have := h.lt; omega
  | f + 1, 0 => fun c c' h h' hs he h0 hi hb hb' hk hm => by have := h'.lt; omega
  | f + 1, f' + 1 => by
    intro c c' h h' hs he h0 hi hb hb' hk hm
    have ih := litF_b ct f f'
    have nr := litF_near (m := m) ct f f'
    have ht := hs.tok hi
    have htake : (m < c.take.ix) → AtE c'.take ∧ c'.take.ix = m + 1 := fun hx => hs.take.atE (by exact he) h0 (by have : c.take.ix = c.ix + 1 := rfl; omega)
    change (litS (litF ct f) ct c).2.kd = 0 at hk
    change m < (litS (litF ct f) ct c).2.ix at hm
    show AtE (litS (litF ct f') ct c').2 ∧ (litS (litF ct f') ct c').2.ix = m + 1
    unfold litS at hk hm ⊢
    rw [hs.kd, ht, hs.isP hi, hs.isP hi, hs.isP hi]
    have n0 : ¬ c.kd ≠ 0 := fun x => x h0
    rw [if_neg n0] at hk hm
    rw [if_neg n0]
    by_cases h1 : c.tok.k = 4
    · rw [if_pos h1] at hm ⊢; exact htake hm
    rw [if_neg h1] at hk hm ⊢
    by_cases h2 : c.tok.k = 5
    · rw [if_pos h2] at hm ⊢; exact htake hm
    rw [if_neg h2] at hk hm ⊢
    by_cases h3 : c.tok.k = 6 ∨ c.tok.k = 7
    · rw [if_pos h3] at hm ⊢; exact htake hm
    rw [if_neg h3] at hk hm ⊢
    by_cases h4 : c.tok.k = 3
    · rw [if_pos h4] at hm ⊢; exact htake hm
    rw [if_neg h4] at hk hm ⊢
    by_cases h5 : c.isP bDol = true ∧ ct = false
    · rw [if_pos h5] at hk hm ⊢
      have hv : ∀ u : Cu, (varS u).2 = u.take.name := fun u => by unfold varS; split <;> rfl
      rw [hv] at hk hm ⊢
      by_cases hx : c.take.ix ≤ m
      · exact nmR_b (b := c.ts.length) (b' := c'.ts.length) c.take c'.take (takeP h h5.1).ok (takeP h' (by rw [hs.isP hi]; exact h5.1)).ok hs.take he h0 hx (Nat.le_add_right _ _) (Nat.le_add_right _ _) hk hm
      · obtain ⟨a1, a2⟩ := htake (by omega)
        obtain ⟨q1, q2, q3⟩ := name_e a1
        exact ⟨q1, q2.trans a2⟩
    rw [if_neg h5] at hk hm ⊢
    by_cases h6 : c.isP bLb = true
    · rw [if_pos h6] at hk hm ⊢
      have hv : ∀ (L : LitR) (u : Cu), (listS L u).2 = (brk L bLb bRb 0 u).2 := fun L u => by unfold listS; cases (brk L bLb bRb 0 u).1 <;> rfl
      rw [hv] at hk hm ⊢
      exact brk_b (litF_goes ct f) (litF_goes ct f') nr ih (litF_d ct f) (litF_e ct f') bLb bRb 0 c c' h h' hs he h0 hi (by omega) (by omega) hk hm
    rw [if_neg h6] at hk hm ⊢
    by_cases h7 : c.isP bLc = true
    · rw [if_pos h7] at hk hm ⊢
      have hv : ∀ (L : LitR) (u : Cu), (objS L u).2 = (brk (argS L) bLc bRc 0 u).2 := fun L u => by unfold objS; cases (brk (argS L) bLc bRc 0 u).1 <;> rfl
      rw [hv] at hk hm ⊢
      exact brk_b (argS_goes (litF_goes ct f)) (argS_goes (litF_goes ct f')) (argS_near (litF_goes ct f) nr) (argS_b (litF_goes ct f) (litF_goes ct f') nr ih (litF_d ct f) (litF_e ct f')) (argS_d (litF_d ct f)) (argS_e (litF_e ct f')) bLc bRc 0 c c' h h' hs he h0 hi (by omega) (by omega) hk hm
    · rw [if_neg h7] at hk
      exact absurd hk (stop_kd _ _ (by decide))
end
end Go.Proofs.YtmhelpocddndjaaGreat.cu
namespace Go.Proofs.YtmhelpocddndjaaGreat.cu
open dt (Dt Kp RowAt Ow Grow)
set_option linter.unusedVariables false
set_option linter.unusedSimpArgs false
/-- all that is asked of a reading -/
structure Ok2 {A : Type} (m : Nat) (E E' : Cu → A × Cu) (b b' : Nat) : Prop where
  near : NearA m E E' b b'
  beg : Beg m E E' b b'
  st : St E
  st' : St E'
  d : Dm E
  e : EndP E'
section
variable {m b b' : Nat}
theorem Ok2.bnd {A X : Type} {E E' : Cu → A × Cu} {F F' : A → Cu → X × Cu} (h : Ok2 m E E' b b') (k : ∀ a, Ok2 m (F a) (F' a) b b') : Ok2 m (bnd E F) (bnd E' F') b b' :=
  ⟨h.near.bnd h.st h.st' (fun a => (k a).near) (fun a => (k a).st), h.beg.bnd h.near h.st h.st' (fun a => (k a).beg) (fun a => (k a).st) (fun a => (k a).d) (fun a => (k a).e), h.st.bnd (fun a => (k a).st), h.st'.bnd (fun a => (k a).st'), h.d.bnd (fun a => (k a).d), h.e.bnd (fun a => (k a).e)⟩
theorem Ok2.mono {A : Type} {E E' : Cu → A × Cu} {d d' : Nat} (h : Ok2 m E E' b b') (h1 : d ≤ b) (h2 : d' ≤ b') : Ok2 m E E' d d' := ⟨h.near.mono h1 h2, h.beg.mono h1 h2, h.st, h.st', h.d, h.e⟩
theorem ret_o {A : Type} (a : A) : Ok2 m (ret a) (ret a) b b' := ⟨ret_near _, ret_b _, ret_st _, ret_st _, ret_d _, ret_e _⟩
theorem tokR_o : Ok2 m tokR tokR b b' := ⟨tokR_near, tokR_b, tokR_st, tokR_st, tokR_d, tokR_e⟩
theorem isPR_o (p : ByteArray) : Ok2 m (isPR p) (isPR p) b b' := ⟨isPR_near _, isPR_b _, isPR_st _, isPR_st _, isPR_d _, isPR_e _⟩
theorem aliveR_o : Ok2 m aliveR aliveR b b' := ⟨aliveR_near, aliveR_b, aliveR_st, aliveR_st, aliveR_d, aliveR_e⟩
theorem sprR_o : Ok2 m sprR sprR b b' := ⟨sprR_near, sprR_b, sprR_st, sprR_st, sprR_d, sprR_e⟩
theorem nmR_o : Ok2 m nmR nmR b b' := ⟨nmR_near, nmR_b, nmR_st, nmR_st, nmR_d, nmR_e⟩
theorem nR_o : Ok2 m nR nR b b' := ⟨nR_near, nR_b, nR_st, nR_st, nR_d, nR_e⟩
theorem wantR_o (p : ByteArray) : Ok2 m (wantR p) (wantR p) b b' := ⟨wantR_near _, wantR_b _, wantR_st _, wantR_st _, wantR_d _, wantR_e _⟩
theorem clsR_o (p : ByteArray) : Ok2 m (clsR p) (clsR p) b b' := ⟨clsR_near _, clsR_b _, clsR_st _, clsR_st _, clsR_d _, clsR_e _⟩
theorem punctR_o (p : ByteArray) : Ok2 m (punctR p) (punctR p) b b' := ⟨punctR_near _, punctR_b _, punctR_st _, punctR_st _, punctR_d _, punctR_e _⟩
theorem wordR_o (p : ByteArray) : Ok2 m (wordR p) (wordR p) b b' := ⟨wordR_near _, wordR_b _, wordR_st _, wordR_st _, wordR_d _, wordR_e _⟩
theorem butR_o (ws : List ByteArray) : Ok2 m (butR ws) (butR ws) b b' := ⟨butR_near _, butR_b _, butR_st _, butR_st _, butR_d _, butR_e _⟩
theorem wwR_o (ws : List ByteArray) : Ok2 m (wwR ws) (wwR ws) b b' := ⟨wwR_near _, wwR_b _, wwR_st _, wwR_st _, wwR_d _, wwR_e _⟩
theorem wordsR_o : Ok2 m wordsR wordsR b b' := ⟨wordsR_near, wordsR_b, wordsR_st, wordsR_st, wordsR_d, wordsR_e⟩
theorem cond_o {A : Type} {q : Bool} {E E' F F' : Cu → A × Cu} (h : Ok2 m E E' b b') (k : Ok2 m F F' b b') : Ok2 m (cond q E F) (cond q E' F') b b' := by cases q; exact k; exact h
theorem brk_o {E E' : Cu → Option Dt × Cu} (hG : Goes E) (hG' : Goes E') (h : Ok2 m E E' b b') (left right : ByteArray) (least : Nat) : Ok2 m (brk E left right least) (brk E' left right least) (b + 1) (b' + 1) :=
  ⟨(brk_near hG hG' h.near left right least).a, brk_b hG hG' h.near h.beg h.d h.e left right least, (brk_goes hG left right least).st, (brk_goes hG' left right least).st, brk_d _ _ _ _, brk_e _ _ _ _⟩
theorem litF_o (ct : Bool) (f f' : Nat) : Ok2 m (litF ct f) (litF ct f') f f' := ⟨(litF_near ct f f').a, litF_b ct f f', (litF_goes ct f).st, (litF_goes ct f').st, litF_d ct f, litF_e ct f'⟩
theorem argS_o {L L' : LitR} (hG : Goes L) (hG' : Goes L') (h : Ok2 m L L' b b') : Ok2 m (argS L) (argS L') b b' :=
  ⟨(argS_near hG h.near).a, argS_b hG hG' h.near h.beg h.d h.e, (argS_goes hG).st, (argS_goes hG').st, argS_d h.d, argS_e h.e⟩
theorem argsS_o {L L' : LitR} (hG : Goes L) (hG' : Goes L') (h : Ok2 m L L' b b') : Ok2 m (argsS L) (argsS L') b b' := by
  rw [argsS_eq, argsS_eq]
  exact (isPR_o _).bnd fun q => cond_o ((brk_o (argS_goes hG) (argS_goes hG') (argS_o hG hG' h) bLp bRp 1).mono (Nat.le_succ _) (Nat.le_succ _)) (aliveR_o.bnd fun a => ret_o _)
theorem dirB_o {L L' : LitR} (hG : Goes L) (hG' : Goes L') (h : Ok2 m L L' b b') : Ok2 m (dirB L) (dirB L') b b' :=
  tokR_o.bnd fun t => (punctR_o _).bnd fun _ => nR_o.bnd fun n => (argsS_o hG hG' h).bnd fun r => ret_o _
theorem dirsF_dd (L : LitR) (g : Nat) (l : List Dt) : Dm (dirsF L g l) := fun c h => by rw [dirsF_still L h]; exact h
theorem dirsF_ee (L : LitR) (g : Nat) (l : List Dt) : EndP (dirsF L g l) := fun c h => by
  have : (dirsF L g l c).2 = c := by
    cases g with
    | zero => rfl
    | succ g => simp only [dirsF]; rw [h.isP, if_neg (by decide)]
  rw [this]
  exact ⟨h, rfl, rfl⟩
theorem dirsF_b {L L' : LitR} (hG : Goes L) (hG' : Goes L') (hL : Ok2 m L L' b b') : ∀ (g g' : Nat) (l : List Dt) (c c' : Cu), c.Ok → c'.Ok → Sim m c c' → Ed m c' → c.kd = 0 → c.ix ≤ m → c.ts.length ≤ b + c.ix → c'.ts.length ≤ b' + c'.ix → c.ts.length ≤ g + c.ix → c'.ts.length ≤ g' + c'.ix → (dirsF L g l c).2.kd = 0 → m < (dirsF L g l c).2.ix → AtE (dirsF L' g' l c').2 ∧ (dirsF L' g' l c').2.ix = m + 1
  | 0, g', l, c, c', h, h', hs, he, h0, hi, hb, hb', hg, hg', hk, hm => by have := h.lt; omega
  | g + 1, 0, l, c, c', h, h', hs, he, h0, hi, hb, hb', hg, hg', hk, hm => by have := h'.lt; omega
  | g + 1, g' + 1, l, c, c', h, h', hs, he, h0, hi, hb, hb', hg, hg', hk, hm => by
    simp only [dirsF] at hk hm ⊢
    rw [hs.isP hi]
    by_cases hp : c.isP bAt = true
    · rw [if_pos hp] at hk hm
      rw [if_pos hp]
      have hp' : c'.isP bAt = true := by rw [hs.isP hi]; exact hp
      have hgo := dirS_stp hG h hp
      have hgo' := dirS_stp hG' h' hp'
      have ed' : Ed m (dirS L' c').2 := by unfold Ed; rw [hgo'.1.ts]; exact he
      have o := dirB_o hG hG' hL
      have eq1 : dirB L c = dirS L c := (dirS_eq L c hp).symm
      have eq2 : dirB L' c' = dirS L' c' := (dirS_eq L' c' hp').symm
      have hbeg := o.beg c c' h h' hs he h0 hi hb hb'
      have hnear := o.near c c' h h' hs hb hb'
      rw [eq1, eq2] at hbeg hnear
      cases hq : (dirS L c).1 with
      | none =>
        rw [hq] at hk hm
        obtain ⟨a1, a2⟩ := hbeg hk hm
        cases hq' : (dirS L' c').1 with
        | none => exact ⟨a1, a2⟩
        | some d =>
          obtain ⟨q1, q2, q3⟩ := dirsF_ee L' g' (l ++ [d]) _ a1
          exact ⟨q1, q2.trans a2⟩
      | some d =>
        rw [hq] at hk hm
        have k0 : (dirS L c).2.kd = 0 := Classical.byContradiction fun x => dirsF_dd L g (l ++ [d]) _ x hk
        by_cases hx : (dirS L c).2.ix ≤ m
        · obtain ⟨e1, e2⟩ := hnear hx
          rw [hq] at e1
          rw [e1]
          have i1 := hgo.2
          have i2 := hgo'.2
          exact dirsF_b hG hG' hL g g' (l ++ [d]) _ _ hgo.1.ok hgo'.1.ok e2 ed' k0 hx (by rw [hgo.1.ts]; omega) (by rw [hgo'.1.ts]; omega) (by rw [hgo.1.ts]; omega) (by rw [hgo'.1.ts]; omega) hk hm
        · obtain ⟨a1, a2⟩ := hbeg k0 (by omega)
          cases hq' : (dirS L' c').1 with
          | none => exact ⟨a1, a2⟩
          | some d' =>
            obtain ⟨q1, q2, q3⟩ := dirsF_ee L' g' (l ++ [d']) _ a1
            exact ⟨q1, q2.trans a2⟩
    · rw [if_neg hp] at hm
      have hm' : m < c.ix := hm
      omega
theorem dirs_o {L L' : LitR} (hG : Goes L) (hG' : Goes L') (h : Ok2 m L L' b b') : Ok2 m (dirs L) (dirs L') b b' :=
  ⟨dirs_near hG hG' h.near, fun c c' k k' hs he h0 hi hb hb' hk hm => dirsF_b hG hG' h _ _ [] c c' k k' hs he h0 hi hb hb' (by omega) (by omega) hk hm, dirs_st hG, dirs_st hG', dirs_d L, dirs_e L'⟩
theorem spreadS_o {L L' : LitR} (hG : Goes L) (hG' : Goes L') (h : Ok2 m L L' b b') (t : Tk) : Ok2 m (spreadS L t) (spreadS L' t) b b' := by
  rw [spreadS_eq, spreadS_eq]
  exact (butR_o _).bnd fun _ => (dirs_o hG hG' h).bnd fun _ => ret_o _
theorem inlineS_o {L L' : LitR} {S S' : LstR} (hG : Goes L) (hG' : Goes L') (h : Ok2 m L L' b b') (hS : Ok2 m S S' b b') (t : Tk) : Ok2 m (inlineS L S t) (inlineS L' S' t) b b' := by
  rw [inlineS_eq, inlineS_eq]
  exact (wordR_o _).bnd fun q => (cond_o nmR_o (ret_o _)).bnd fun _ => (dirs_o hG hG' h).bnd fun _ => hS.bnd fun _ => ret_o _
theorem fieldS_o {L L' : LitR} {S S' : LstR} (hG : Goes L) (hG' : Goes L') (h : Ok2 m L L' b b') (hS : Ok2 m S S' b b') (t : Tk) : Ok2 m (fieldS L S t) (fieldS L' S' t) b b' := by
  rw [fieldS_eq, fieldS_eq]
  exact nmR_o.bnd fun _ => (punctR_o _).bnd fun q => (cond_o nmR_o (ret_o _)).bnd fun _ => (argsS_o hG hG' h).bnd fun _ => (dirs_o hG hG' h).bnd fun _ => (isPR_o _).bnd fun q => cond_o (hS.bnd fun _ => ret_o _) (ret_o _)
theorem selS_o {L L' : LitR} {S S' : LstR} (hG : Goes L) (hG' : Goes L') (h : Ok2 m L L' b b') (hS : Ok2 m S S' b b') : Ok2 m (selS L S) (selS L' S') b b' := by
  rw [selS_eq, selS_eq]
  exact tokR_o.bnd fun t => (punctR_o _).bnd fun q => cond_o (sprR_o.bnd fun s => cond_o (spreadS_o hG hG' h t) (inlineS_o hG hG' h hS t)) (fieldS_o hG hG' h hS t)
theorem selsF_o {L L' : LitR} (hG : Goes L) (hG' : Goes L') {N N' : Nat} (h : Ok2 m L L' N N') : ∀ (g g' : Nat), g ≤ N → g' ≤ N' → Ok2 m (selsF L g) (selsF L' g') g g'
  | 0, g', _, _ => ⟨fun c c' k k' hs hb hb' hm => by have := k.lt; omega, fun c c' k k' hs he h0 hi hb hb' hk hm => by have := k.lt; omega, (selsF_goes hG 0).st, (selsF_goes hG' g').st, selsF_d L 0, selsF_e L' g'⟩
  | g + 1, 0, _, _ => ⟨fun c c' k k' hs hb hb' hm => by have := k'.lt; omega, fun c c' k k' hs he h0 hi hb hb' hk hm => by have := k'.lt; omega, (selsF_goes hG (g + 1)).st, (selsF_goes hG' 0).st, selsF_d L (g + 1), selsF_e L' 0⟩
  | g + 1, g' + 1, h1, h2 => brk_o (selS_goes hG (selsF_goes hG g)) (selS_goes hG' (selsF_goes hG' g')) (selS_o hG hG' (h.mono (by omega) (by omega)) (selsF_o hG hG' h g g' (by omega) (by omega))) bLc bRc 1
end
end Go.Proofs.YtmhelpocddndjaaGreat.cu
namespace Go.Proofs.YtmhelpocddndjaaGreat.cu
open dt (Dt Kp RowAt Ow Grow)
set_option linter.unusedVariables false
set_option linter.unusedSimpArgs false
section
variable {m b b' : Nat}
theorem opn_o {X : Type} (p : ByteArray) {F F' : Bool → Cu → X × Cu} (k : Ok2 m (F true) (F' true) b b') (k0 : Ok2 m (F false) (F' false) (b + 1) (b' + 1)) : Ok2 m (bnd (opnR p) F) (bnd (opnR p) F') (b + 1) (b' + 1) := by
  have sF : ∀ q, St (F q) := fun q => by cases q; exact k0.st; exact k.st
  have sF' : ∀ q, St (F' q) := fun q => by cases q; exact k0.st'; exact k.st'
  have dF : ∀ q, Dm (F q) := fun q => by cases q; exact k0.d; exact k.d
  have eF : ∀ q, EndP (F' q) := fun q => by cases q; exact k0.e; exact k.e
  refine ⟨opn_near p k.near k.st k0.near k0.st, ?_, (opnR_st p).bnd sF, (opnR_st p).bnd sF', (opnR_d p).bnd dF, (opnR_e p).bnd eF⟩
  intro c c' hc hc' hs he h0 hi hb hb' hk hm
  have s1 := opn_stp hc p
  have s2 := opn_stp hc' p
  have ed' : Ed m (c'.opn p) := by unfold Ed; rw [s2.ts]; exact he
  have hk' : (F (c.opB p) (c.opn p)).2.kd = 0 := hk
  have hm' : m < (F (c.opB p) (c.opn p)).2.ix := hm
  have kk : (c.opn p).kd = 0 := Classical.byContradiction fun x => dF _ _ x hk'
  show AtE (F' (c'.opB p) (c'.opn p)).2 ∧ (F' (c'.opB p) (c'.opn p)).2.ix = m + 1
  rw [hs.opB hi]
  cases hq : c.opB p with
  | false => exact absurd kk (opn_kd hq)
  | true =>
    rw [hq] at hk' hm'
    have x1 := opn_ix hq
    have x2 := opn_ix (show c'.opB p = true by rw [hs.opB hi]; exact hq)
    by_cases hx : (c.opn p).ix ≤ m
    · exact k.beg _ _ s1.ok s2.ok (hs.opn hi p) ed' kk hx (by rw [s1.ts, x1]; omega) (by rw [s2.ts, x2]; omega) hk' hm'
    · obtain ⟨a1, a2⟩ := (hs.opn hi p).atE ed' kk (by omega)
      obtain ⟨q1, q2, q3⟩ := k.e _ a1
      exact ⟨q1, q2.trans a2⟩
theorem unmI_o {T T' : TypR} (h : Ok2 m T T' b b') : Ok2 m (unmI T) (unmI T') b b' := h.bnd fun r => by
  cases r with
  | none => exact ret_o _
  | some it => exact (clsR_o _).bnd fun cl => ret_o _
theorem unm_o {T T' : TypR} (h : Ok2 m T T' b b') : Ok2 m (unm T) (unm T') (b + 1) (b' + 1) := by
  rw [unm_eq, unm_eq]
  exact (isPR_o _).bnd fun q => cond_o (opn_o bLb (F := fun o => cond o (unmI T) (ret none)) (F' := fun o => cond o (unmI T') (ret none)) (unmI_o h) (ret_o _)) (nR_o.bnd fun n => ret_o _)
theorem typF_o : ∀ (f f' : Nat), Ok2 m (typF f) (typF f') f f'
  | 0, f' => ⟨typF_near 0 f', fun c c' k k' hs he h0 hi hb hb' hk hm => by have := k.lt; omega, typF_st 0, typF_st f', typF_d 0, typF_e f'⟩
  | f + 1, 0 => ⟨typF_near (f + 1) 0, fun c c' k k' hs he h0 hi hb hb' hk hm => by have := k'.lt; omega, typF_st (f + 1), typF_st 0, typF_d (f + 1), typF_e 0⟩
  | f + 1, f' + 1 => by
    show Ok2 m (typ (unm (typF f))) (typ (unm (typF f'))) (f + 1) (f' + 1)
    rw [typ_eq, typ_eq]
    exact (unm_o (typF_o f f')).bnd fun r => by
      cases r with
      | none => exact ret_o _
      | some r => exact (punctR_o _).bnd fun q => ret_o _
theorem varQ_o {T T' : TypR} {L L' : LitR} (hT : Ok2 m T T' b b') (hG : Goes L) (hG' : Goes L') (h : Ok2 m L L' b b') : Ok2 m (varQ T L) (varQ T' L') b b' := by
  rw [varQ_eq, varQ_eq]
  exact tokR_o.bnd fun _ => (wantR_o _).bnd fun _ => nmR_o.bnd fun _ => (wantR_o _).bnd fun _ => hT.bnd fun _ => (punctR_o _).bnd fun q => (cond_o h (ret_o _)).bnd fun _ => (dirs_o hG hG' h).bnd fun _ => ret_o _
theorem bodyS_o {L L' : LitR} {S S' : LstR} (hG : Goes L) (hG' : Goes L') (h : Ok2 m L L' b b') (hS : Ok2 m S S' b b') (k : Int) (nm on : ByteArray) (vs : List Dt) (t : Tk) : Ok2 m (bodyS L S k nm on vs t) (bodyS L' S' k nm on vs t) b b' := by
  rw [bodyS_eq, bodyS_eq]
  exact (dirs_o hG hG' h).bnd fun _ => hS.bnd fun _ => ret_o _
theorem varsS_o {f f' : Nat} {K K' : LitR} (hT : Ok2 m (typF f) (typF f') b b') (hG : Goes K) (hG' : Goes K') (h : Ok2 m K K' b b') : Ok2 m (varsS (typF f) K) (varsS (typF f') K') b b' := by
  rw [varsS_eq, varsS_eq]
  exact (isPR_o _).bnd fun q => cond_o ((brk_o (varQ_goes hG) (varQ_goes hG') (varQ_o hT hG hG' h) bLp bRp 1).mono (Nat.le_succ _) (Nat.le_succ _)) (ret_o _)
theorem operS_o {f f' : Nat} {K K' L L' : LitR} {S S' : LstR} (hT : Ok2 m (typF f) (typF f') b b') (kG : Goes K) (kG' : Goes K') (hK : Ok2 m K K' b b') (hG : Goes L) (hG' : Goes L') (h : Ok2 m L L' b b') (hS : Ok2 m S S' b b') (k : Int) (t : Tk) : Ok2 m (operS (typF f) K L S k t) (operS (typF f') K' L' S' k t) b b' := by
  rw [operS_eq, operS_eq]
  exact tokR_o.bnd fun u => (cond_o nmR_o (ret_o _)).bnd fun _ => (varsS_o hT kG kG' hK).bnd fun _ => bodyS_o hG hG' h hS _ _ _ _ _
theorem fragS_o {L L' : LitR} {S S' : LstR} (hG : Goes L) (hG' : Goes L') (h : Ok2 m L L' b b') (hS : Ok2 m S S' b b') (t : Tk) : Ok2 m (fragS L S t) (fragS L' S' t) b b' := by
  rw [fragS_eq, fragS_eq]
  exact (butR_o _).bnd fun _ => (wwR_o _).bnd fun _ => nmR_o.bnd fun _ => bodyS_o hG hG' h hS _ _ _ _ _
theorem defS_o {f f' : Nat} {K K' L L' : LitR} {S S' : LstR} (hT : Ok2 m (typF f) (typF f') b b') (kG : Goes K) (kG' : Goes K') (hK : Ok2 m K K' b b') (hG : Goes L) (hG' : Goes L') (h : Ok2 m L L' b b') (hS : Ok2 m S S' b b') : Ok2 m (defS (typF f) K L S) (defS (typF f') K' L' S') b b' := by
  rw [defS_eq, defS_eq]
  exact tokR_o.bnd fun t => (isPR_o _).bnd fun q => cond_o (hS.bnd fun _ => ret_o _) (wordsR_o.bnd fun u => cond_o (by cases kindS u.2; exact fragS_o hG hG' h hS t; exact operS_o hT kG kG' hK hG hG' h hS _ t) (ret_o _))
theorem defN_o (N N' : Nat) : Ok2 m (defN N) (defN N') N N' :=
  defS_o (typF_o N N') (litF_goes true N) (litF_goes true N') (litF_o true N N') (litF_goes false N) (litF_goes false N') (litF_o false N N') (selsF_o (litF_goes false N) (litF_goes false N') (litF_o false N N') N N' (Nat.le_refl _) (Nat.le_refl _))
theorem defsF_d {D : LitR} (hD : Dm D) : ∀ (g : Nat) (l : List Dt), Dm (defsF D g l)
  | 0, l => fun c h => h
  | g + 1, l => fun c h => by
    simp only [defsF]
    split
    · have h1 := hD c h
      cases hq : (D c).1 with
      | none => exact h1
      | some d => exact defsF_d hD g _ _ h1
    · rw [fin_still h]; exact h
theorem fin_ix9 (c : Cu) : c.fin.ix = c.ix := by
  unfold Cu.fin
  split
  · rfl
  · exact stop_ix c 70
theorem defsF_b {D D' : LitR} (hG : Goes D) (hG' : Goes D') (o : Ok2 m D D' b b') : ∀ (g g' : Nat) (l : List Dt) (c c' : Cu), c.Ok → c'.Ok → Sim m c c' → Ed m c' → c.kd = 0 → c.ix ≤ m → c.ts.length ≤ b + c.ix → c'.ts.length ≤ b' + c'.ix → c.ts.length ≤ g + c.ix → c'.ts.length ≤ g' + c'.ix → (defsF D g l c).2.kd = 0 → m < (defsF D g l c).2.ix → AtE (defsF D' g' l c').2 ∧ (defsF D' g' l c').2.ix = m + 1
  | 0, g', l, c, c', h, h', hs, he, h0, hi, hb, hb', hg, hg', hk, hm => by have := h.lt; omega
  | g + 1, 0, l, c, c', h, h', hs, he, h0, hi, hb, hb', hg, hg', hk, hm => by have := h'.lt; omega
  | g + 1, g' + 1, l, c, c', h, h', hs, he, h0, hi, hb, hb', hg, hg', hk, hm => by
    simp only [defsF] at hk hm ⊢
    rw [hs.tok hi]
    by_cases hc : l.length = 0 ∨ c.tok.k ≠ 0
    · rw [if_pos hc] at hk hm
      rw [if_pos hc]
      have hgo := hG c h
      have hgo' := hG' c' h'
      have ed' : Ed m (D' c').2 := by unfold Ed; rw [hgo'.1.ts]; exact he
      have hbeg := o.beg c c' h h' hs he h0 hi hb hb'
      cases hq : (D c).1 with
      | none =>
        rw [hq] at hk hm
        obtain ⟨a1, a2⟩ := hbeg hk hm
        cases hq' : (D' c').1 with
        | none => exact ⟨a1, a2⟩
        | some d =>
          obtain ⟨q1, q2, q3⟩ := defsF_e o.e g' (l ++ [d]) _ a1
          exact ⟨q1, q2.trans a2⟩
      | some d =>
        rw [hq] at hk hm
        have k0 : (D c).2.kd = 0 := Classical.byContradiction fun x => defsF_d o.d g (l ++ [d]) _ x hk
        by_cases hx : (D c).2.ix ≤ m
        · obtain ⟨e1, e2⟩ := o.near c c' h h' hs hb hb' hx
          rw [hq] at e1
          rw [e1]
          have i1 := hgo.2 (by rw [hq]; rfl)
          have i2 := hgo'.2 (by rw [e1]; rfl)
          exact defsF_b hG hG' o g g' (l ++ [d]) _ _ hgo.1.ok hgo'.1.ok e2 ed' k0 hx (by rw [hgo.1.ts]; omega) (by rw [hgo'.1.ts]; omega) (by rw [hgo.1.ts]; omega) (by rw [hgo'.1.ts]; omega) hk hm
        · obtain ⟨a1, a2⟩ := hbeg k0 (by omega)
          cases hq' : (D' c').1 with
          | none => exact ⟨a1, a2⟩
          | some d' =>
            obtain ⟨q1, q2, q3⟩ := defsF_e o.e g' (l ++ [d']) _ a1
            exact ⟨q1, q2.trans a2⟩
    · rw [if_neg hc] at hm
      have hm' : m < c.fin.ix := hm
      rw [fin_ix9] at hm'
      omega
/-- a document's beginning -/
theorem docS_beg (c c' : Cu) (h : c.Ok) (h' : c'.Ok) (hs : Sim m c c') (he : Ed m c') (h0 : c.kd = 0) (hi : c.ix ≤ m) (hk : (docS c).2.kd = 0) (hm : m < (docS c).2.ix) : AtE (docS c').2 ∧ (docS c').2.ix = m + 1 :=
  defsF_b (defN_goes _) (defN_goes _) (defN_o _ _) _ _ [] c c' h h' hs he h0 hi (by omega) (by omega) (by omega) (by omega) hk hm
end
end Go.Proofs.YtmhelpocddndjaaGreat.cu
namespace Go.Proofs.YtmhelpocddndjaaGreat.mem
open Go.ChangeShapes Go.WideShapes Go.ChangeAt Go.RowKit
open ints (hide unhide)
set_option linter.unusedVariables false

theorem size32 : (Tryz.prog.info? 21).map (·.size) = some 1 := by kernel_rfl
theorem splice_all {α : Type} (L cs : List α) (h : L.length = cs.length) : splice L 0 cs = cs := by
  unfold splice
  rw [Nat.zero_add, List.drop_eq_nil_of_le (by omega)]
  simp
theorem own_block {w : World} {base g n cap : Nat} {e : TypeId} {xs : List Value} (h : w.ownsRow base e 1 (.slice (some ⟨g, 0, none⟩) n cap) n xs) : ∃ cur : Array Value, w.heap[g]? = some (.cells cur.toList.toArray e (0, 0)) ∧ cur.size = cap := by
  rcases h.2 with ⟨h2, _⟩ | ⟨g', cap', cur, hv, hg, hh, hnc, hcm, hcs, hx⟩
  · cases h2
  · simp only [Value.slice.injEq, Option.some.injEq, Addr.mk.injEq] at hv
    obtain ⟨⟨rfl, _, _⟩, _, rfl⟩ := hv
    exact ⟨cur, by simpa using hh, by simpa using hcs⟩
theorem row_some {k : IntKind} {w : World} {a : Option Addr} {n cap : Nat} {zs : List Int} (h : Row k w a n cap zs) (hn : 0 < n) : ∃ ad, a = some ad ∧ ∀ j u, (zs.map (Value.int k))[j]? = some u → w.cell? (ad.add j) = some u := by
  rcases h.at_ with h0 | ⟨b, off, rfl, _, _⟩
  · omega
  · exact ⟨_, rfl, h.cells _ rfl⟩
theorem own_lo {w : World} {base base' : Nat} {e : TypeId} {size : Nat} {v : Value} {n : Nat} {xs : List Value} (h : w.ownsRow base e size v n xs) (hb : base' ≤ base) : w.ownsRow base' e size v n xs :=
  ⟨h.1, h.2.imp id (fun ⟨g', r1, r2, r3, r4, r5⟩ => ⟨g', r1, r2, r3, Nat.le_trans hb r4, r5⟩)⟩
theorem newLine_any (a : Option Addr) (n c : Nat) (l : List Int) (w : World) (h : Row .i32 w a n c l) (hn : 4 * n ≤ 281474976710656) :
    Calls Tryz.prog 113 #[.slice a n c] w fun e w' => e = .returned (.slice (some ⟨w.heap.size, 0, none⟩) n n) ∧
      w'.ownsRow w.heap.size 21 1 (.slice (some ⟨w.heap.size, 0, none⟩) n n) n (l.map (Value.int .i32)) ∧ Below w.heap.size w w' := by
  obtain ⟨i0, hi, hz0, hz1, hz2⟩ := info_parts info32
  have hl : (l.map (Value.int .i32)).length = n := by simp [h.len]
  go_enter Tryz.func113, Tryz.ntmps113
  go_wp2_with (first
    | (refine wpList_make_full _ rfl _ _ 75 rfl w.heap.size 21 i0 (.int .i32 0) 1 Tryz.underlying75 hi hz0 hz1 .i64 .i64 _ _ n rfl rfl rfl rfl (by rw [hz2]; omega) (by unfold maxLen; omega) (Nat.le_refl _) ?_; intro w1 hown hgrow; have hg1 := belowNone hgrow; have hr1 := h.below hg1; obtain ⟨cur, hcur, hcs⟩ := own_block hown)
    | (refine wpList_copy_splice rfl (.tmp 7) (.tmp 8) 75 75 rfl 21 Tryz.underlying75 size32 _ _ n n n c rfl rfl w.heap.size 0 cur.toList 21 hcur (l.map (Value.int .i32)) (by rw [hl]; exact (Nat.min_self n).symm) (fun hp => ⟨rfl, row_some hr1 (by rw [hl] at hp; exact hp)⟩) (by rw [hl]; simp; omega) (ints_oneCell _ _) w.heap.size w hg1 (Nat.le_refl _) ?_; intro w2 hrow2 hb2))
  go_ret
  refine ⟨rfl, ?_, hb2⟩
  have := hrow2.out
  rw [splice_all _ _ (by rw [hl]; simpa using hcs)] at this
  exact ⟨by simp [h.len], .inr ⟨w.heap.size, n, _, rfl, Nat.le_refl _, this, Nat.le_refl _, by unfold maxLen; omega, by simp [h.len], by rw [Nat.mul_one]; exact List.take_of_length_le (by simp [h.len])⟩⟩

def toOf (l : List Int) (k : Nat) : Nat := if 1 ≤ k ∧ prB l (k - 1) = true then k - 1 else k
def cut (l : List Int) (a b : Nat) : List Int := (l.drop a).take (b - a)
def linesTo (l : List Int) : Nat → List (List Int) × Nat
  | 0 => ([], 0)
  | k + 1 => if enB l k then ((linesTo l k).1 ++ [cut l (linesTo l k).2 (toOf l k)], k + 1) else linesTo l k
def linesL (l : List Int) : List (List Int) := (linesTo l l.length).1 ++ [l.drop (linesTo l l.length).2]
theorem en_pr (l : List Int) (k : Nat) (h : prB l k = true) : enB l k = false := by
  have h2 := h
  simp only [prB, Bool.and_eq_true, beq_iff_eq] at h2
  unfold enB
  rw [h, h2.1.2]
  rfl
theorem linesTo_inv (l : List Int) (k : Nat) : (linesTo l k).2 ≤ k ∧ ((linesTo l k).2 = 0 ∨ enB l ((linesTo l k).2 - 1) = true) ∧ (linesTo l k).1.length ≤ k := by
  induction k with
  | zero => simp [linesTo]
  | succ k ih =>
    simp only [linesTo]
    split
    · rename_i h
      refine ⟨Nat.le_refl _, .inr (by simpa using h), by simp; omega⟩
    · exact ⟨by omega, ih.2.1, by omega⟩
theorem from_to (l : List Int) (k : Nat) : (linesTo l k).2 ≤ toOf l k ∧ toOf l k ≤ k := by
  have h := linesTo_inv l k
  unfold toOf
  split
  · rename_i hp
    refine ⟨?_, by omega⟩
    rcases Nat.lt_or_ge (linesTo l k).2 k with h1 | h1
    · omega
    · exfalso
      have e : (linesTo l k).2 = k := by omega
      rcases h.2.1 with h2 | h2
      · omega
      · rw [e, en_pr l (k - 1) hp.2] at h2
        cases h2
  · omega
def lineVal (g : Nat) (ln : List Int) : Value := .slice (some ⟨g, 0, none⟩) ln.length ln.length
structure LinesAt (w : World) (base : Nat) (v : Value) (gs : List Nat) (lns : List (List Int)) : Prop where
  len : gs.length = lns.length
  own : w.ownsRow base 75 1 v lns.length (List.zipWith lineVal gs lns)
  each : ∀ i, i < lns.length → w.ownsRow base 21 1 (lineVal (gs.getD i 0) (lns.getD i [])) (lns.getD i []).length ((lns.getD i []).map (Value.int .i32))
  nodup : gs.Nodup
theorem LinesAt.below {w w' : World} {base : Nat} {v : Value} {gs : List Nat} {lns : List (List Int)} (h : LinesAt w base v gs lns) (hb : Below w.heap.size w w') : LinesAt w' base v gs lns :=
  ⟨h.len, own_below h.own hb, fun i hi => own_below (h.each i hi) hb, h.nodup⟩
theorem LinesAt.low {w : World} {base base' : Nat} {v : Value} {gs : List Nat} {lns : List (List Int)} (h : LinesAt w base v gs lns) (hb : base' ≤ base) : LinesAt w base' v gs lns :=
  ⟨h.len, own_lo h.own hb, fun i hi => own_lo (h.each i hi) hb, h.nodup⟩
theorem line_block {w : World} {base g : Nat} {ln : List Int} (h : w.ownsRow base 21 1 (lineVal g ln) ln.length (ln.map (Value.int .i32))) : base ≤ g ∧ ∃ cur, w.heap[g]? = some (.cells cur 21 (0, 0)) := by
  rcases h.2 with ⟨h2, _⟩ | ⟨g', cap', cur, hv, hg, hh, _⟩
  · cases h2
  · simp only [lineVal, Value.slice.injEq, Option.some.injEq, Addr.mk.injEq] at hv
    obtain ⟨⟨rfl, _, _⟩, _, _⟩ := hv
    exact ⟨hg, cur, hh⟩
theorem outer_block {w : World} {base : Nat} {v : Value} {n : Nat} {xs : List Value} (h : w.ownsRow base 75 1 v n xs) : ∀ G, v.ownBlock = some G → ∃ cur, w.heap[G]? = some (.cells cur 75 (0, 0)) := by
  intro G hG
  rcases h.2 with ⟨rfl, _⟩ | ⟨g', cap', cur, rfl, hg, hh, _⟩
  · cases hG
  · obtain rfl := Option.some.inj hG
    exact ⟨cur, hh⟩
/-- One line more: the new line's row lies in 'w1', the outer row has been appended to. -/
theorem LinesAt.snoc {w w1 w2 : World} {base : Nat} {v v' : Value} {gs : List Nat} {lns : List (List Int)} {o : Obj} {g : Nat} {ln : List Int}
    (h : LinesAt w base v gs lns) (hg : g = w.heap.size) (hb : Below w.heap.size w w1) (hln : w1.ownsRow base 21 1 (lineVal g ln) ln.length (ln.map (Value.int .i32)))
    (hown : w2.ownsRow base 75 1 v' (lns.length + 1) (List.zipWith lineVal gs lns ++ [lineVal g ln])) (hgrow : (w1.alloc o).grownBy w2 v.ownBlock) :
    LinesAt w2 base v' (gs ++ [g]) (lns ++ [ln]) := by
  have hne : ∀ (g' : Nat) (ln' : List Int), w1.ownsRow base 21 1 (lineVal g' ln') ln'.length (ln'.map (Value.int .i32)) → w2.ownsRow base 21 1 (lineVal g' ln') ln'.length (ln'.map (Value.int .i32)) := by
    intro g' ln' h'
    refine (h'.alloc o).kept hgrow (.inr ?_)
    intro e
    obtain ⟨cur, hcur⟩ := outer_block (own_below h.own hb) g' (by rw [← e]; rfl)
    obtain ⟨_, cur', hcur'⟩ := line_block h'
    rw [hcur'] at hcur
    simp at hcur
  refine ⟨by simp [h.len], ?_, fun i hi => ?_, ?_⟩
  · rw [List.zipWith_append (by exact h.len)]
    simpa using hown
  · by_cases hi' : i < lns.length
    · have e1 : (gs ++ [g]).getD i 0 = gs.getD i 0 := by simp [List.getD, List.getElem?_append_left (show i < gs.length by rw [h.len]; exact hi')]
      have e2 : (lns ++ [ln]).getD i [] = lns.getD i [] := by simp [List.getD, List.getElem?_append_left hi']
      rw [e1, e2]
      exact hne _ _ (own_below (h.each i hi') hb)
    · have e : i = lns.length := by simp at hi; omega
      have e1 : (gs ++ [g]).getD i 0 = g := by rw [e, ← h.len]; simp [List.getD]
      have e2 : (lns ++ [ln]).getD i [] = ln := by rw [e]; simp [List.getD]
      rw [e1, e2]
      exact hne _ _ hln
  · rw [List.nodup_append]
    refine ⟨h.nodup, by simp, ?_⟩
    intro x hx y hy e
    simp at hy
    subst hy
    subst e
    obtain ⟨i, hi, rfl⟩ := List.mem_iff_getElem.1 hx
    obtain ⟨_, cur, hcur⟩ := line_block (h.each i (by rw [← h.len]; exact hi))
    have e1 : gs.getD i 0 = gs[i] := by simp [List.getD, hi]
    rw [e1, hg, Array.getElem?_eq_none (Nat.le_refl _)] at hcur
    cases hcur
end Go.Proofs.YtmhelpocddndjaaGreat.mem
