import Derived.Test.YtmhelpocddndjaaGreatQfs7
import Derived.Test.YtmhelpocddndjaaGreatQfs2
import Derived.Laws.CopyOwn
import Derived.Test.YtmhelpocddndjaaGreatRows
import Derived.Test.YtmhelpocddndjaaGreatQfs1
namespace Go.Proofs.YtmhelpocddndjaaGreat.cu
open dt (Dt Kp RowAt Ow Grow)
set_option linter.unusedVariables false
set_option linter.unusedSimpArgs false
theorem bb (x : Bool) : x = false ∨ x = true := by cases x; exact .inl rfl; exact .inr rfl
theorem argsS_eq (L : LitR) : argsS L = bnd (isPR bLp) fun q => cond q (brk (argS L) bLp bRp 1) (bnd aliveR fun a => ret (cond a (some []) none)) := by
  funext c
  simp only [argsS, bnd, isPR, aliveR, ret]
  rcases bb (c.isP bLp) with h | h
  · simp only [h, Bool.false_eq_true, if_false, cond_false, bnd, aliveR, ret]
    by_cases k : c.kd = 0 <;> simp [k]
  · simp only [h, if_true, cond_true]
theorem dirS_eq (L : LitR) : ∀ c : Cu, c.isP bAt = true → dirS L c = (bnd tokR fun t => bnd (punctR bAt) fun _ => bnd nR fun n => bnd (argsS L) fun r => ret (r.map fun l => dirD n.2 l t.ln t.co)) c := by
  intro c h
  simp only [dirS, bnd, tokR, punctR, nR, ret, Cu.punct, h, if_true, cond_true]
  cases (argsS L c.take.name).1 <;> rfl
theorem spreadS_eq (L : LitR) (t : Tk) : spreadS L t = bnd (butR [bOn]) fun nm => bnd (dirs L) fun r => ret (r.map fun l => selD 2 em nm em [] l [] t.ln t.co) := by
  funext c
  simp only [spreadS, bnd, butR, ret]
  cases (dirs L (c.nmC (c.isN && !inW [bOn] c.tok.tx))).1 <;> rfl
theorem inlineS_eq (L : LitR) (S : LstR) (t : Tk) : inlineS L S t = bnd (wordR bOn) fun q => bnd (cond q nmR (ret em)) fun on => bnd (dirs L) fun ds => bnd S fun r => ret (r.map fun ss => selD 3 em em on [] (ds.getD []) ss t.ln t.co) := by
  funext c
  have e1 : (bnd (wordR bOn) fun q => cond q nmR (ret em)) c = (onT c, onC c) := by
    simp only [bnd, wordR, onT, onC, Cu.word]
    rcases bb (c.isW [bOn]) with h | h
    · simp only [h, Bool.false_eq_true, if_false, cond_false, ret]
    · simp only [h, if_true, cond_true, nmR]
  have e2 : (bnd (wordR bOn) fun q => bnd (cond q nmR (ret em)) fun on => bnd (dirs L) fun ds => bnd S fun r => ret (r.map fun ss => selD 3 em em on [] (ds.getD []) ss t.ln t.co)) c = (bnd (bnd (wordR bOn) fun q => cond q nmR (ret em)) fun on => bnd (dirs L) fun ds => bnd S fun r => ret (r.map fun ss => selD 3 em em on [] (ds.getD []) ss t.ln t.co)) c := rfl
  rw [e2]
  rw [bnd, e1]
  simp only [inlineS, bnd, ret]
  cases (S (dirs L (onC c)).2).1 <;> rfl
theorem fieldS_eq (L : LitR) (S : LstR) (t : Tk) : fieldS L S t = bnd nmR fun n => bnd (punctR bCol) fun q => bnd (cond q nmR (ret n)) fun n2 => bnd (argsS L) fun a => bnd (dirs L) fun d => bnd (isPR bLc) fun q2 => cond q2 (bnd S fun r => ret (r.map fun ss => selD 1 (cond q n em) n2 em (a.getD []) (d.getD []) ss t.ln t.co)) (ret (d.map fun ds => selD 1 (cond q n em) n2 em (a.getD []) ds [] t.ln t.co)) := by
  funext c
  simp only [fieldS, bnd, nmR, punctR, isPR, Cu.punct, fldC, fldN, fldA]
  rcases bb (c.name.isP bCol) with h | h
  · simp only [h, Bool.false_eq_true, if_false, cond_false, ret]
    rcases bb ((dirs L (argsS L c.name).2).2.isP bLc) with g | g
    · simp only [g, Bool.false_eq_true, if_false, cond_false, ret]
      cases (dirs L (argsS L c.name).2).1 <;> rfl
    · simp only [g, if_true, cond_true, bnd]
      cases (S (dirs L (argsS L c.name).2).2).1 <;> rfl
  · simp only [h, if_true, cond_true, ret]
    rcases bb ((dirs L (argsS L c.name.take.name).2).2.isP bLc) with g | g
    · simp only [g, Bool.false_eq_true, if_false, cond_false, nmR, ret]
      cases (dirs L (argsS L c.name.take.name).2).1 <;> rfl
    · simp only [g, if_true, cond_true, nmR, bnd]
      cases (S (dirs L (argsS L c.name.take.name).2).2).1 <;> rfl
def sprR : Cu → Bool × Cu := fun c => (c.isN && !inW [bOn] c.tok.tx, c)
theorem sprR_st : St sprR := fun c h => Stp.refl h
theorem sprR_kd : KdP sprR := fun c h => h
theorem sprR_near {m b b' : Nat} : NearA m sprR sprR b b' := fun c c' hc hc' hs hb hb' hm => ⟨by show (c'.isN && _) = (c.isN && _); rw [hs.isN hm, hs.tok hm], hs⟩
theorem selS_eq (L : LitR) (S : LstR) : selS L S = bnd tokR fun t => bnd (punctR bDots) fun q => cond q (bnd sprR fun s => cond s (spreadS L t) (inlineS L S t)) (fieldS L S t) := by
  funext c
  simp only [selS, bnd, tokR, punctR, sprR, Cu.punct]
  rcases bb (c.isP bDots) with h | h
  · simp only [h, Bool.false_eq_true, if_false, cond_false]
  · simp only [h, if_true, cond_true, bnd, sprR]
    rcases bb (c.take.isN && !inW [bOn] c.take.tok.tx) with g | g
    · simp only [g, Bool.false_eq_true, if_false, cond_false]
    · simp only [g, if_true, cond_true]
theorem varQ_eq (T : TypR) (L : LitR) : varQ T L = bnd tokR fun t => bnd (wantR bDol) fun _ => bnd nmR fun n => bnd (wantR bCol) fun _ => bnd T fun ty => bnd (punctR bEq) fun q => bnd (cond q L (ret none)) fun v => bnd (dirs L) fun d => ret (d.map fun ds => varD n ((ty.map (·.1)).getD em) ((ty.map (·.2)).getD em) q (cond q (v.getD zeroD) zeroD) ds t.ln t.co) := by
  funext c
  simp only [varQ, bnd, tokR, wantR, nmR, punctR, Cu.punct, varC3, varU, varV]
  rcases bb ((T (((c.want bDol).name).want bCol)).2.isP bEq) with h | h
  · simp only [h, Bool.false_eq_true, if_false, cond_false, ret]
    cases (dirs L (T (((c.want bDol).name).want bCol)).2).1 <;> rfl
  · simp only [h, if_true, cond_true, ret]
    cases (dirs L (L (T (((c.want bDol).name).want bCol)).2.take).2).1 <;> rfl
theorem bodyS_eq (L : LitR) (S : LstR) (k : Int) (nm on : ByteArray) (vs : List Dt) (t : Tk) : bodyS L S k nm on vs t = bnd (dirs L) fun d => bnd S fun r => ret (r.map fun ss => defD k nm on false vs (d.getD []) ss t.ln t.co) := by
  funext c
  simp only [bodyS, bnd, ret]
  cases (S (dirs L c).2).1 <;> rfl
theorem varsS_eq (T : TypR) (K : LitR) : varsS T K = bnd (isPR bLp) fun q => cond q (brk (varQ T K) bLp bRp 1) (ret (some [])) := by
  funext c
  simp only [varsS, bnd, isPR, ret]
  rcases bb (c.isP bLp) with h | h
  · simp only [h, Bool.false_eq_true, if_false, cond_false, ret]
  · simp only [h, if_true, cond_true]
theorem operS_eq (T : TypR) (K L : LitR) (S : LstR) (k : Int) (t : Tk) : operS T K L S k t = bnd tokR fun u => bnd (cond (decide (u.k = 3)) nmR (ret em)) fun n => bnd (varsS T K) fun v => bodyS L S k n em (v.getD []) t := by
  funext c
  simp only [operS, bnd, tokR, opC]
  by_cases h : c.tok.k = 3
  · simp only [h, if_true, decide_true, cond_true, nmR]
  · have : c.nmS = em := by unfold Cu.nmS Cu.isN; simp [h]
    simp only [h, if_false, decide_false, Bool.false_eq_true, cond_false, ret, this]
theorem fragS_eq (L : LitR) (S : LstR) (t : Tk) : fragS L S t = bnd (butR [bOn]) fun n => bnd (wwR [bOn]) fun _ => bnd nmR fun on => bodyS L S 4 n on [] t := rfl
def wordsR : Cu → (Bool × ByteArray) × Cu := fun c => ((c.isW [bQuery, bMut, bSub, bFrag], c.tok.tx), c.nmC (c.isW [bQuery, bMut, bSub, bFrag]))
theorem wordsR_st : St wordsR := fun c h => nmC_stp h (fun e => isW_N e)
theorem wordsR_kd : KdP wordsR := fun c h => nmC_kd h (fun e => isW_N e)
theorem wordsR_near {m b b' : Nat} : NearA m wordsR wordsR b b' := fun c c' hc hc' hs hb hb' hm => by
  have hi : c.ix ≤ m := Nat.le_trans (wordsR_st c hc).ix hm
  refine ⟨by show (c'.isW _, c'.tok.tx) = (c.isW _, c.tok.tx); rw [hs.isW hi, hs.tok hi], ?_⟩
  show Sim m (c.nmC _) (c'.nmC _)
  rw [hs.isW hi]
  exact hs.nmC _
def kindS (x : ByteArray) : Option Int := if x = bQuery then some 1 else if x = bMut then some 2 else if x = bSub then some 3 else none
theorem defS_eq (T : TypR) (K L : LitR) (S : LstR) : defS T K L S = bnd tokR fun t => bnd (isPR bLc) fun q => cond q (bnd S fun r => ret (r.map fun ss => defD 1 em em true [] [] ss t.ln t.co)) (bnd wordsR fun u => cond u.1 (match kindS u.2 with | some k => operS T K L S k t | none => fragS L S t) (ret none)) := by
  funext c
  simp only [defS, bnd, tokR, isPR, wordsR, Cu.nmC]
  rcases bb (c.isP bLc) with h | h
  · simp only [h, Bool.false_eq_true, if_false, cond_false, bnd, wordsR, Cu.nmC]
    rcases bb (c.isW [bQuery, bMut, bSub, bFrag]) with g | g
    · simp only [g, Bool.false_eq_true, if_false, cond_false, ret]
    · simp only [g, if_true, cond_true, kindS]
      by_cases h1 : c.tok.tx = bQuery
      · simp only [h1, if_true, cond_true]
      · simp only [h1, if_false]
        by_cases h2 : c.tok.tx = bMut
        · simp only [h2, if_true, cond_true]
        · simp only [h2, if_false]
          by_cases h3 : c.tok.tx = bSub
          · simp only [h3, if_true, cond_true]
          · simp only [h3, if_false]
  · simp only [h, if_true, cond_true, bnd]
    cases (S c).1 <;> rfl
end Go.Proofs.YtmhelpocddndjaaGreat.cu
namespace Go.Proofs.YtmhelpocddndjaaGreat.cu
open dt (Dt Kp RowAt Ow Grow)
set_option linter.unusedVariables false
set_option linter.unusedSimpArgs false
theorem argsS_st {L : LitR} (hG : Goes L) : St (argsS L) := fun c h => argsS_stp hG h
theorem dirs_st {L : LitR} (hG : Goes L) : St (dirs L) := fun c h => dirs_stp hG h
theorem typF_st (f : Nat) : St (typF f) := fun c h => (typF_goes f c h).1
/- the faults -/
theorem argsS_kd {L : LitR} (hL : KdP L) : KdP (argsS L) := by
  rw [argsS_eq]
  exact (isPR_kd _).bnd fun q => ite_kd (fun c h => brk_kd (fun c h => argS_kd (fun c h => hL c h) c h) _ _ _ c h) (aliveR_kd.bnd fun a => ret_kd _)
theorem dirS_kd {L : LitR} (hL : KdP L) (c : Cu) (hp : c.isP bAt = true) (h : Kd c) : Kd (dirS L c).2 := by
  rw [dirS_eq L c hp]
  exact (tokR_kd.bnd fun t => (punctR_kd _).bnd fun _ => nR_kd.bnd fun n => (argsS_kd hL).bnd fun r => ret_kd _) c h
theorem dirsF_kd {L : LitR} (hL : KdP L) : ∀ (g : Nat) (l : List Dt), KdP (dirsF L g l)
  | 0, l => fun c h => h
  | g + 1, l => fun c h => by
    simp only [dirsF]
    split
    · rename_i hp
      have h1 := dirS_kd hL c hp h
      cases hq : (dirS L c).1 with
      | none => exact h1
      | some d => exact dirsF_kd hL g _ _ h1
    · exact h
theorem dirs_kd {L : LitR} (hL : KdP L) : KdP (dirs L) := fun c h => dirsF_kd hL _ _ c h
theorem spreadS_kd {L : LitR} (hL : KdP L) (t : Tk) : KdP (spreadS L t) := by
  rw [spreadS_eq]
  exact (butR_kd _).bnd fun _ => (dirs_kd hL).bnd fun _ => ret_kd _
theorem inlineS_kd {L : LitR} {S : LstR} (hL : KdP L) (hS : KdP S) (t : Tk) : KdP (inlineS L S t) := by
  rw [inlineS_eq]
  exact (wordR_kd _).bnd fun q => (ite_kd nmR_kd (ret_kd _)).bnd fun _ => (dirs_kd hL).bnd fun _ => hS.bnd fun _ => ret_kd _
theorem fieldS_kd {L : LitR} {S : LstR} (hL : KdP L) (hS : KdP S) (t : Tk) : KdP (fieldS L S t) := by
  rw [fieldS_eq]
  exact nmR_kd.bnd fun _ => (punctR_kd _).bnd fun q => (ite_kd nmR_kd (ret_kd _)).bnd fun _ => (argsS_kd hL).bnd fun _ => (dirs_kd hL).bnd fun _ => (isPR_kd _).bnd fun q => ite_kd (hS.bnd fun _ => ret_kd _) (ret_kd _)
theorem selS_kd {L : LitR} {S : LstR} (hL : KdP L) (hS : KdP S) : KdP (selS L S) := by
  rw [selS_eq]
  exact tokR_kd.bnd fun t => (punctR_kd _).bnd fun q => ite_kd (sprR_kd.bnd fun s => ite_kd (spreadS_kd hL t) (inlineS_kd hL hS t)) (fieldS_kd hL hS t)
theorem selsF_kd {L : LitR} (hL : KdP L) : ∀ g, KdP (selsF L g)
  | 0 => fun c h => h
  | g + 1 => fun c h => brk_kd (fun c h => selS_kd hL (selsF_kd hL g) c h) _ _ _ c h
theorem typF_kd : ∀ f, KdP (typF f)
  | 0 => fun c h => h
  | f + 1 => by
    intro c h
    show Kd (typ (unm (typF f)) c).2
    have hu : Kd (unm (typF f) c).2 := by
      unfold unm
      split
      · have ho := opn_kd' h bLb
        split
        · have h2 := typF_kd f _ ho
          cases hq : (typF f (c.opn bLb)).1 with
          | none => exact h2
          | some it =>
            dsimp only
            split
            · exact cls_kd h2 _
            · exact cls_kd h2 _
        · exact ho
      · split
        · exact name_kd' h
        · exact name_kd' h
    unfold typ
    cases hq : (unm (typF f) c).1 with
    | none => exact hu
    | some it =>
      dsimp only
      split
      · exact punct_kd hu _
      · exact punct_kd hu _
theorem varQ_kd {T : TypR} {L : LitR} (hT : KdP T) (hL : KdP L) : KdP (varQ T L) := by
  rw [varQ_eq]
  exact tokR_kd.bnd fun _ => (wantR_kd _).bnd fun _ => nmR_kd.bnd fun _ => (wantR_kd _).bnd fun _ => hT.bnd fun _ => (punctR_kd _).bnd fun q => (ite_kd hL (ret_kd _)).bnd fun _ => (dirs_kd hL).bnd fun _ => ret_kd _
theorem bodyS_kd {L : LitR} {S : LstR} (hL : KdP L) (hS : KdP S) (k : Int) (nm on : ByteArray) (vs : List Dt) (t : Tk) : KdP (bodyS L S k nm on vs t) := by
  rw [bodyS_eq]
  exact (dirs_kd hL).bnd fun _ => hS.bnd fun _ => ret_kd _
theorem varsS_kd {T : TypR} {K : LitR} (hT : KdP T) (hK : KdP K) : KdP (varsS T K) := by
  rw [varsS_eq]
  exact (isPR_kd _).bnd fun q => ite_kd (fun c h => brk_kd (fun c h => varQ_kd hT hK c h) _ _ _ c h) (ret_kd _)
theorem operS_kd {T : TypR} {K L : LitR} {S : LstR} (hT : KdP T) (hK : KdP K) (hL : KdP L) (hS : KdP S) (k : Int) (t : Tk) : KdP (operS T K L S k t) := by
  rw [operS_eq]
  exact tokR_kd.bnd fun u => (ite_kd nmR_kd (ret_kd _)).bnd fun _ => (varsS_kd hT hK).bnd fun _ => bodyS_kd hL hS _ _ _ _ _
theorem fragS_kd {L : LitR} {S : LstR} (hL : KdP L) (hS : KdP S) (t : Tk) : KdP (fragS L S t) := by
  rw [fragS_eq]
  exact (butR_kd _).bnd fun _ => (wwR_kd _).bnd fun _ => nmR_kd.bnd fun _ => bodyS_kd hL hS _ _ _ _ _
theorem defS_kd {T : TypR} {K L : LitR} {S : LstR} (hT : KdP T) (hK : KdP K) (hL : KdP L) (hS : KdP S) : KdP (defS T K L S) := by
  rw [defS_eq]
  exact tokR_kd.bnd fun t => (isPR_kd _).bnd fun q => ite_kd (hS.bnd fun _ => ret_kd _) (wordsR_kd.bnd fun u => ite_kd (by cases kindS u.2; exact fragS_kd hL hS t; exact operS_kd hT hK hL hS _ t) (ret_kd _))
theorem defN_kd (N : Nat) : KdP (defN N) := defS_kd (typF_kd N) (litF_kd true N) (litF_kd false N) (selsF_kd (litF_kd false N) N)
theorem defsF_kd {D : LitR} (hD : KdP D) : ∀ (g : Nat) (l : List Dt), KdP (defsF D g l)
  | 0, l => fun c h => h
  | g + 1, l => fun c h => by
    simp only [defsF]
    split
    · have h1 := hD c h
      cases hq : (D c).1 with
      | none => exact h1
      | some d => exact defsF_kd hD g _ _ h1
    · exact fin_kd h
theorem docS_kd : KdP docS := fun c h => defsF_kd (defN_kd _) _ _ c h
/- what lies behind makes no difference -/
section
variable {m b b' : Nat}
theorem argsS_near {L L' : LitR} (hG : Goes L) (hG' : Goes L') (hL : Near m L L' b b') : NearA m (argsS L) (argsS L') b b' := by
  rw [argsS_eq, argsS_eq]
  have s1 := (brk_goes (argS_goes hG) bLp bRp 1).st
  have n1 : NearA m (brk (argS L) bLp bRp 1) (brk (argS L') bLp bRp 1) b b' := (brk_near (argS_goes hG) (argS_goes hG') (argS_near hG hL) bLp bRp 1).a.mono (Nat.le_succ _) (Nat.le_succ _)
  exact (isPR_near _).bnd (isPR_st _) (isPR_st _) (fun q => ite_near n1 (aliveR_near.bnd aliveR_st aliveR_st (fun a => ret_near _) (fun a => ret_st _))) (fun q => ite_st s1 (aliveR_st.bnd fun a => ret_st _))
def dirB (L : LitR) : Cu → Option Dt × Cu := bnd tokR fun t => bnd (punctR bAt) fun _ => bnd nR fun n => bnd (argsS L) fun r => ret (r.map fun l => dirD n.2 l t.ln t.co)
theorem dirB_near {L L' : LitR} (hG : Goes L) (hG' : Goes L') (hL : Near m L L' b b') : NearA m (dirB L) (dirB L') b b' := by
  have sA := argsS_st hG
  have sA' := argsS_st hG'
  exact tokR_near.bnd tokR_st tokR_st (fun t => (punctR_near _).bnd (punctR_st _) (punctR_st _) (fun _ => nR_near.bnd nR_st nR_st (fun n => (argsS_near hG hG' hL).bnd sA sA' (fun r => ret_near _) (fun r => ret_st _)) (fun n => sA.bnd fun r => ret_st _)) (fun _ => nR_st.bnd fun n => sA.bnd fun r => ret_st _)) (fun t => (punctR_st _).bnd fun _ => nR_st.bnd fun n => sA.bnd fun r => ret_st _)
theorem dirsF_near {L L' : LitR} (hG : Goes L) (hG' : Goes L') (hL : Near m L L' b b') : ∀ (g g' : Nat) (l : List Dt) (c c' : Cu), c.Ok → c'.Ok → Sim m c c' → c.ts.length ≤ b + c.ix → c'.ts.length ≤ b' + c'.ix → c.ts.length ≤ g + c.ix → c'.ts.length ≤ g' + c'.ix → (dirsF L g l c).2.ix ≤ m → (dirsF L' g' l c').1 = (dirsF L g l c).1 ∧ Sim m (dirsF L g l c).2 (dirsF L' g' l c').2
  | 0, g', l, c, c', h, h', hs, hb, hb', hg, hg', hm => by have := h.lt; omega
  | g + 1, 0, l, c, c', h, h', hs, hb, hb', hg, hg', hm => by have := h'.lt; omega
  | g + 1, g' + 1, l, c, c', h, h', hs, hb, hb', hg, hg', hm => by
    have hix : c.ix ≤ m := Nat.le_trans (dirsF_stp hG (g + 1) l c h).ix hm
    simp only [dirsF] at hm ⊢
    rw [hs.isP hix]
    by_cases hp : c.isP bAt = true
    · rw [if_pos hp] at hm
      rw [if_pos hp, if_pos hp]
      have hp' : c'.isP bAt = true := by rw [hs.isP hix]; exact hp
      have hgo := dirS_stp hG h hp
      have hgo' := dirS_stp hG' h' hp'
      have hEm : (dirS L c).2.ix ≤ m := by
        cases hq : (dirS L c).1 with
        | none => rw [hq] at hm; exact hm
        | some d => rw [hq] at hm; exact Nat.le_trans (dirsF_stp hG g _ _ hgo.1.ok).ix hm
      have hnr := dirB_near hG hG' hL c c' h h' hs hb hb' (by unfold dirB; rw [← dirS_eq L c hp]; exact hEm)
      unfold dirB at hnr
      rw [← dirS_eq L c hp, ← dirS_eq L' c' hp'] at hnr
      obtain ⟨e1, e2⟩ := hnr
      cases hq : (dirS L c).1 with
      | none =>
        rw [hq] at e1
        rw [e1]
        exact ⟨rfl, e2⟩
      | some d =>
        rw [hq] at e1 hm
        rw [e1]
        have i1 := hgo.2
        have i2 := hgo'.2
        exact dirsF_near hG hG' hL g g' (l ++ [d]) _ _ hgo.1.ok hgo'.1.ok e2 (by rw [hgo.1.ts]; omega) (by rw [hgo'.1.ts]; omega) (by rw [hgo.1.ts]; omega) (by rw [hgo'.1.ts]; omega) hm
    · rw [if_neg hp, if_neg hp]
      exact ⟨by simp only [hs.kd], hs⟩
theorem dirs_near {L L' : LitR} (hG : Goes L) (hG' : Goes L') (hL : Near m L L' b b') : NearA m (dirs L) (dirs L') b b' := fun c c' h h' hs hb hb' hm => dirsF_near hG hG' hL _ _ [] c c' h h' hs hb hb' (by omega) (by omega) hm
theorem map_near {A X : Type} {E E' : Cu → A × Cu} (h : NearA m E E' b b') (s : St E) (s' : St E') (f : A → X) : NearA m (bnd E fun r => ret (f r)) (bnd E' fun r => ret (f r)) b b' := h.bnd s s' (fun _ => ret_near _) (fun _ => ret_st _)
theorem map_st {A X : Type} {E : Cu → A × Cu} (s : St E) (f : A → X) : St (bnd E fun r => ret (f r)) := s.bnd fun _ => ret_st _
theorem spreadS_near {L L' : LitR} (hG : Goes L) (hG' : Goes L') (hL : Near m L L' b b') (t : Tk) : NearA m (spreadS L t) (spreadS L' t) b b' := by
  rw [spreadS_eq, spreadS_eq]
  have sD := dirs_st hG
  have sD' := dirs_st hG'
  exact (butR_near _).bnd (butR_st _) (butR_st _) (fun _ => map_near (dirs_near hG hG' hL) sD sD' _) (fun _ => map_st sD _)
theorem inlineS_near {L L' : LitR} {S S' : LstR} (hG : Goes L) (hG' : Goes L') (hL : Near m L L' b b') (gS : Goes S) (gS' : Goes S') (hS : Near m S S' b b') (t : Tk) : NearA m (inlineS L S t) (inlineS L' S' t) b b' := by
  rw [inlineS_eq, inlineS_eq]
  have sD := dirs_st hG
  have sD' := dirs_st hG'
  have sI : ∀ q : Bool, St (cond q nmR (ret em)) := fun q => ite_st nmR_st (ret_st _)
  exact (wordR_near _).bnd (wordR_st _) (wordR_st _) (fun q => (ite_near nmR_near (ret_near _)).bnd (sI q) (sI q) (fun on => (dirs_near hG hG' hL).bnd sD sD' (fun ds => map_near hS.a gS.st gS'.st _) (fun ds => map_st gS.st _)) (fun on => sD.bnd fun ds => map_st gS.st _)) (fun q => (sI q).bnd fun on => sD.bnd fun ds => map_st gS.st _)
theorem fieldS_near {L L' : LitR} {S S' : LstR} (hG : Goes L) (hG' : Goes L') (hL : Near m L L' b b') (gS : Goes S) (gS' : Goes S') (hS : Near m S S' b b') (t : Tk) : NearA m (fieldS L S t) (fieldS L' S' t) b b' := by
  rw [fieldS_eq, fieldS_eq]
  have sD := dirs_st hG
  have sD' := dirs_st hG'
  have sA := argsS_st hG
  have sA' := argsS_st hG'
  have sI : ∀ (q : Bool) (n : ByteArray), St (cond q nmR (ret n)) := fun q n => ite_st nmR_st (ret_st _)
  have x6 : ∀ (q : Bool) (n n2 : ByteArray) (a d : Option (List Dt)) (q2 : Bool), St (cond q2 (bnd S fun r => ret (r.map fun ss => selD 1 (cond q n em) n2 em (a.getD []) (d.getD []) ss t.ln t.co)) (ret (d.map fun ds => selD 1 (cond q n em) n2 em (a.getD []) ds [] t.ln t.co))) := fun q n n2 a d q2 => ite_st (map_st gS.st _) (ret_st _)
  have x5 := fun q n n2 a d => (isPR_st bLc).bnd (x6 q n n2 a d)
  have x4 := fun q n n2 a => sD.bnd (x5 q n n2 a)
  have x3 := fun q n n2 => sA.bnd (x4 q n n2)
  have x2 := fun q n => (sI q n).bnd (x3 q n)
  have x1 := fun n => (punctR_st bCol).bnd (fun q => x2 q n)
  exact nmR_near.bnd nmR_st nmR_st (fun n => (punctR_near _).bnd (punctR_st _) (punctR_st _) (fun q => (ite_near nmR_near (ret_near _)).bnd (sI q n) (sI q n) (fun n2 => (argsS_near hG hG' hL).bnd sA sA' (fun a => (dirs_near hG hG' hL).bnd sD sD' (fun d => (isPR_near _).bnd (isPR_st _) (isPR_st _) (fun q2 => ite_near (map_near hS.a gS.st gS'.st _) (ret_near _)) (x6 q n n2 a d)) (x5 q n n2 a)) (x4 q n n2)) (x3 q n)) (fun q => x2 q n)) x1
theorem selS_near {L L' : LitR} {S S' : LstR} (hG : Goes L) (hG' : Goes L') (hL : Near m L L' b b') (gS : Goes S) (gS' : Goes S') (hS : Near m S S' b b') : NearA m (selS L S) (selS L' S') b b' := by
  rw [selS_eq, selS_eq]
  have s1 : ∀ t, St (spreadS L t) := fun t c h => spread_stp hG t h
  have s2 : ∀ t, St (inlineS L S t) := fun t c h => inline_stp hG gS t h
  have s3 : ∀ t, St (fieldS L S t) := fun t c h => field_stp hG gS t h
  have y1 := fun t => sprR_st.bnd fun s => ite_st (b := s) (s1 t) (s2 t)
  have y2 := fun t => (punctR_st bDots).bnd fun q => ite_st (b := q) (y1 t) (s3 t)
  exact tokR_near.bnd tokR_st tokR_st (fun t => (punctR_near _).bnd (punctR_st _) (punctR_st _) (fun q => ite_near (sprR_near.bnd sprR_st sprR_st (fun s => ite_near (spreadS_near hG hG' hL t) (inlineS_near hG hG' hL gS gS' hS t)) (fun s => ite_st (s1 t) (s2 t))) (fieldS_near hG hG' hL gS gS' hS t)) (fun q => ite_st (y1 t) (s3 t))) y2
theorem selsF_near {L L' : LitR} (hG : Goes L) (hG' : Goes L') {N N' : Nat} (hL : Near m L L' N N') : ∀ (g g' : Nat), g ≤ N → g' ≤ N' → Near m (selsF L g) (selsF L' g') g g'
  | 0, g', _, _ => fun c c' h h' hs hb hb' hm => by have := h.lt; omega
  | g + 1, 0, _, _ => fun c c' h h' hs hb hb' hm => by have := h'.lt; omega
  | g + 1, g' + 1, h1, h2 => by
    have ih := selsF_near hG hG' hL g g' (by omega) (by omega)
    exact brk_near (selS_goes hG (selsF_goes hG g)) (selS_goes hG' (selsF_goes hG' g')) (selS_near hG hG' (hL.a.mono (by omega) (by omega)) (selsF_goes hG g) (selsF_goes hG' g') ih) bLc bRc 1
end
end Go.Proofs.YtmhelpocddndjaaGreat.cu
namespace Go.Proofs.YtmhelpocddndjaaGreat.cu
open dt (Dt Kp RowAt Ow Grow)
set_option linter.unusedVariables false
set_option linter.unusedSimpArgs false
def unmI (T : TypR) : Cu → Option (ByteArray × ByteArray) × Cu := bnd T fun r => match r with | none => ret none | some it => bnd (clsR bRb) fun cl => ret (cond cl (some (it.1, it.2 ++ bRb)) none)
theorem unm_eq (T : TypR) : unm T = bnd (isPR bLb) fun q => cond q (bnd (opnR bLb) (fun o => cond o (unmI T) (ret none))) (bnd nR fun n => ret (cond n.1 (some (n.2, em)) none)) := by
  funext c
  simp only [unm, bnd, isPR, opnR, nR, unmI]
  rcases bb (c.isP bLb) with h | h
  · simp only [h, Bool.false_eq_true, if_false, cond_false, ret, bnd, nR]
    rcases bb c.isN with g | g
    · simp only [g, Bool.false_eq_true, if_false, cond_false]
    · simp only [g, if_true, cond_true]
  · simp only [h, if_true, cond_true, bnd, opnR]
    rcases bb (c.opB bLb) with g | g
    · simp only [g, Bool.false_eq_true, if_false, cond_false, ret]
    · simp only [g, if_true, cond_true, unmI, bnd]
      cases hq : (T (c.opn bLb)).1 with
      | none => rfl
      | some it =>
        simp only [bnd, clsR, ret]
        rcases bb ((T (c.opn bLb)).2.isP bRb) with k | k
        · simp only [k, Bool.false_eq_true, if_false, cond_false]
        · simp only [k, if_true, cond_true]
theorem typ_eq (U : TypR) : typ U = bnd U fun r => match r with | none => ret none | some r => bnd (punctR bBang) fun q => ret (some (cond q (r.1, r.2 ++ bBang) r)) := by
  funext c
  simp only [typ, bnd]
  cases hq : (U c).1 with
  | none => rfl
  | some it =>
    simp only [bnd, punctR, ret]
    rcases bb ((U c).2.isP bBang) with k | k
    · simp only [k, Bool.false_eq_true, if_false, cond_false]
    · simp only [k, if_true, cond_true]
section
variable {m b b' : Nat}
theorem unmI_st {T : TypR} (h : St T) : St (unmI T) := h.bnd fun r => by
  cases r with
  | none => exact ret_st _
  | some it => exact map_st (clsR_st _) _
theorem unmI_near {T T' : TypR} (h : NearA m T T' b b') (s : St T) (s' : St T') : NearA m (unmI T) (unmI T') b b' := h.bnd s s' (fun r => by
  cases r with
  | none => exact ret_near _
  | some it => exact map_near (clsR_near _) (clsR_st _) (clsR_st _) _) (fun r => by
  cases r with
  | none => exact ret_st _
  | some it => exact map_st (clsR_st _) _)
theorem unm_st {T : TypR} (h : St T) : St (unm T) := by
  rw [unm_eq]
  exact (isPR_st _).bnd fun q => ite_st ((opnR_st _).bnd fun o => ite_st (unmI_st h) (ret_st _)) (map_st nR_st _)
theorem unm_near {T T' : TypR} (h : NearA m T T' b b') (s : St T) (s' : St T') : NearA m (unm T) (unm T') (b + 1) (b' + 1) := by
  rw [unm_eq, unm_eq]
  exact (isPR_near _).bnd (isPR_st _) (isPR_st _) (fun q => ite_near (opn_near bLb (F := fun o => cond o (unmI T) (ret none)) (F' := fun o => cond o (unmI T') (ret none)) (unmI_near h s s') (unmI_st s) (ret_near _) (ret_st _)) (map_near nR_near nR_st nR_st _)) (fun q => ite_st ((opnR_st _).bnd fun o => ite_st (unmI_st s) (ret_st _)) (map_st nR_st _))
theorem typ_near {U U' : TypR} (h : NearA m U U' b b') (s : St U) (s' : St U') : NearA m (typ U) (typ U') b b' := by
  rw [typ_eq, typ_eq]
  exact h.bnd s s' (fun r => by
    cases r with
    | none => exact ret_near _
    | some r => exact map_near (punctR_near _) (punctR_st _) (punctR_st _) _) (fun r => by
    cases r with
    | none => exact ret_st _
    | some r => exact map_st (punctR_st _) _)
theorem typF_near : ∀ (f f' : Nat), NearA m (typF f) (typF f') f f'
  | 0, f' => fun c c' h h' hs hb hb' hm => by have := h.lt; omega
  | f + 1, 0 => fun c c' h h' hs hb hb' hm => by have := h'.lt; omega
  | f + 1, f' + 1 => typ_near (unm_near (typF_near f f') (typF_st f) (typF_st f')) (unm_st (typF_st f)) (unm_st (typF_st f'))
theorem varQ_near {T T' : TypR} {L L' : LitR} (hT : NearA m T T' b b') (sT : St T) (sT' : St T') (hG : Goes L) (hG' : Goes L') (hL : Near m L L' b b') : NearA m (varQ T L) (varQ T' L') b b' := by
  rw [varQ_eq, varQ_eq]
  have sD := dirs_st hG
  have sD' := dirs_st hG'
  have sI : ∀ q : Bool, St (cond q L (ret none)) := fun q => ite_st hG.st (ret_st _)
  have sI' : ∀ q : Bool, St (cond q L' (ret none)) := fun q => ite_st hG'.st (ret_st _)
  have x7 := fun (t : Tk) (n : ByteArray) (ty : Option (ByteArray × ByteArray)) (q : Bool) (v : Option Dt) => map_st sD (fun d : Option (List Dt) => d.map fun ds => varD n ((ty.map (·.1)).getD em) ((ty.map (·.2)).getD em) q (cond q (v.getD zeroD) zeroD) ds t.ln t.co)
  have x6 := fun t n ty q => (sI q).bnd (x7 t n ty q)
  have x5 := fun t n ty => (punctR_st bEq).bnd (x6 t n ty)
  have x4 := fun t n => sT.bnd (x5 t n)
  have x3 := fun t n => (wantR_st bCol).bnd (fun _ => x4 t n)
  have x2 := fun t => nmR_st.bnd (x3 t)
  have x1 := fun t => (wantR_st bDol).bnd (fun _ => x2 t)
  exact tokR_near.bnd tokR_st tokR_st (fun t => (wantR_near _).bnd (wantR_st _) (wantR_st _) (fun _ => nmR_near.bnd nmR_st nmR_st (fun n => (wantR_near _).bnd (wantR_st _) (wantR_st _) (fun _ => hT.bnd sT sT' (fun ty => (punctR_near _).bnd (punctR_st _) (punctR_st _) (fun q => (ite_near hL.a (ret_near _)).bnd (sI q) (sI' q) (fun v => map_near (dirs_near hG hG' hL) sD sD' _) (x7 t n ty q)) (x6 t n ty)) (x5 t n)) (fun _ => x4 t n)) (x3 t)) (fun _ => x2 t)) x1
theorem bodyS_st {L : LitR} {S : LstR} (hG : Goes L) (gS : Goes S) (k : Int) (nm on : ByteArray) (vs : List Dt) (t : Tk) : St (bodyS L S k nm on vs t) := fun c h => bodyS_stp hG gS _ _ _ _ _ h
theorem bodyS_near {L L' : LitR} {S S' : LstR} (hG : Goes L) (hG' : Goes L') (hL : Near m L L' b b') (gS : Goes S) (gS' : Goes S') (hS : Near m S S' b b') (k : Int) (nm on : ByteArray) (vs : List Dt) (t : Tk) : NearA m (bodyS L S k nm on vs t) (bodyS L' S' k nm on vs t) b b' := by
  rw [bodyS_eq, bodyS_eq]
  exact (dirs_near hG hG' hL).bnd (dirs_st hG) (dirs_st hG') (fun d => map_near hS.a gS.st gS'.st _) (fun d => map_st gS.st _)
theorem varsS_near {f f' : Nat} {L L' : LitR} (hT : NearA m (typF f) (typF f') b b') (hG : Goes L) (hG' : Goes L') (hL : Near m L L' b b') : NearA m (varsS (typF f) L) (varsS (typF f') L') b b' := by
  rw [varsS_eq, varsS_eq]
  have g := varQ_goes (f := f) hG
  have g' := varQ_goes (f := f') hG'
  have n1 : NearA m (brk (varQ (typF f) L) bLp bRp 1) (brk (varQ (typF f') L') bLp bRp 1) b b' := (brk_near g g' (varQ_near hT (typF_st f) (typF_st f') hG hG' hL) bLp bRp 1).a.mono (Nat.le_succ _) (Nat.le_succ _)
  exact (isPR_near _).bnd (isPR_st _) (isPR_st _) (fun q => ite_near n1 (ret_near _)) (fun q => ite_st (brk_goes g bLp bRp 1).st (ret_st _))
theorem varsS_st {f : Nat} {L : LitR} (hG : Goes L) : St (varsS (typF f) L) := fun c h => varsS_stp hG h
theorem operS_near {f f' : Nat} {K K' L L' : LitR} {S S' : LstR} (hT : NearA m (typF f) (typF f') b b') (kG : Goes K) (kG' : Goes K') (hK : Near m K K' b b') (hG : Goes L) (hG' : Goes L') (hL : Near m L L' b b') (gS : Goes S) (gS' : Goes S') (hS : Near m S S' b b') (k : Int) (t : Tk) : NearA m (operS (typF f) K L S k t) (operS (typF f') K' L' S' k t) b b' := by
  rw [operS_eq, operS_eq]
  have sI : ∀ u : Tk, St (cond (decide (u.k = 3)) nmR (ret em)) := fun u => ite_st nmR_st (ret_st _)
  have y2 := fun n => (varsS_st (f := f) kG).bnd fun v => bodyS_st hG gS k n em (v.getD []) t
  exact tokR_near.bnd tokR_st tokR_st (fun u => (ite_near nmR_near (ret_near _)).bnd (sI u) (sI u) (fun n => (varsS_near hT kG kG' hK).bnd (varsS_st kG) (varsS_st kG') (fun v => bodyS_near hG hG' hL gS gS' hS _ _ _ _ _) (fun v => bodyS_st hG gS _ _ _ _ _)) y2) (fun u => (sI u).bnd y2)
theorem fragS_near {L L' : LitR} {S S' : LstR} (hG : Goes L) (hG' : Goes L') (hL : Near m L L' b b') (gS : Goes S) (gS' : Goes S') (hS : Near m S S' b b') (t : Tk) : NearA m (fragS L S t) (fragS L' S' t) b b' := by
  rw [fragS_eq, fragS_eq]
  have y3 := fun n on => bodyS_st hG gS 4 n on [] t
  have y2 := fun n => nmR_st.bnd (y3 n)
  have y1 := fun n => (wwR_st [bOn]).bnd fun _ => y2 n
  exact (butR_near _).bnd (butR_st _) (butR_st _) (fun n => (wwR_near _).bnd (wwR_st _) (wwR_st _) (fun _ => nmR_near.bnd nmR_st nmR_st (fun on => bodyS_near hG hG' hL gS gS' hS _ _ _ _ _) (y3 n)) (fun _ => y2 n)) y1
theorem defS_near {f f' : Nat} {K K' L L' : LitR} {S S' : LstR} (hT : NearA m (typF f) (typF f') b b') (kG : Goes K) (kG' : Goes K') (hK : Near m K K' b b') (hG : Goes L) (hG' : Goes L') (hL : Near m L L' b b') (gS : Goes S) (gS' : Goes S') (hS : Near m S S' b b') : NearA m (defS (typF f) K L S) (defS (typF f') K' L' S') b b' := by
  rw [defS_eq, defS_eq]
  have z1 : ∀ (t : Tk) (x : ByteArray), St (match kindS x with | some k => operS (typF f) K L S k t | none => fragS L S t) := fun t x => by
    cases kindS x with
    | none => exact fun c h => fragS_stp hG gS t h
    | some k => exact fun c h => operS_stp kG hG gS k t h
  have z2 := fun t => wordsR_st.bnd fun u => ite_st (b := u.1) (z1 t u.2) (ret_st none)
  have z3 := fun (t : Tk) => (isPR_st bLc).bnd fun q => ite_st (b := q) (map_st gS.st (fun r : Option (List Dt) => r.map fun ss => defD 1 em em true [] [] ss t.ln t.co)) (z2 t)
  refine tokR_near.bnd tokR_st tokR_st (fun t => (isPR_near _).bnd (isPR_st _) (isPR_st _) (fun q => ite_near (map_near hS.a gS.st gS'.st _) (wordsR_near.bnd wordsR_st wordsR_st (fun u => ite_near ?_ (ret_near _)) (fun u => ite_st (z1 t u.2) (ret_st none)))) (fun q => ite_st (map_st gS.st _) (z2 t))) z3
  cases kindS u.2 with
  | none => exact fragS_near hG hG' hL gS gS' hS t
  | some k => exact operS_near hT kG kG' hK hG hG' hL gS gS' hS k t
theorem defN_near (N N' : Nat) : Near m (defN N) (defN N') N N' :=
  defS_near (typF_near N N') (litF_goes true N) (litF_goes true N') (litF_near true N N') (litF_goes false N) (litF_goes false N') (litF_near false N N') (selsF_goes (litF_goes false N) N) (selsF_goes (litF_goes false N') N') (selsF_near (litF_goes false N) (litF_goes false N') (litF_near false N N') N N' (Nat.le_refl _) (Nat.le_refl _))
theorem defsF_near {D D' : LitR} (hG : Goes D) (hG' : Goes D') (hD : Near m D D' b b') : ∀ (g g' : Nat) (l : List Dt) (c c' : Cu), c.Ok → c'.Ok → Sim m c c' → c.ts.length ≤ b + c.ix → c'.ts.length ≤ b' + c'.ix → c.ts.length ≤ g + c.ix → c'.ts.length ≤ g' + c'.ix → (defsF D g l c).2.ix ≤ m → (defsF D' g' l c').1 = (defsF D g l c).1 ∧ Sim m (defsF D g l c).2 (defsF D' g' l c').2
  | 0, g', l, c, c', h, h', hs, hb, hb', hg, hg', hm => by have := h.lt; omega
  | g + 1, 0, l, c, c', h, h', hs, hb, hb', hg, hg', hm => by have := h'.lt; omega
  | g + 1, g' + 1, l, c, c', h, h', hs, hb, hb', hg, hg', hm => by
    have hst := defsF_stp hG (g + 1) l c h
    have hix : c.ix ≤ m := Nat.le_trans hst.ix hm
    simp only [defsF] at hm ⊢
    rw [hs.tok hix]
    by_cases hc : l.length = 0 ∨ c.tok.k ≠ 0
    · rw [if_pos hc] at hm
      rw [if_pos hc, if_pos hc]
      have hgo := hG c h
      have hEm : (D c).2.ix ≤ m := by
        cases hq : (D c).1 with
        | none => rw [hq] at hm; exact hm
        | some d =>
          rw [hq] at hm
          exact Nat.le_trans (defsF_stp hG g _ _ hgo.1.ok).ix hm
      obtain ⟨e1, e2⟩ := hD c c' h h' hs hb hb' hEm
      cases hq : (D c).1 with
      | none =>
        rw [hq] at e1
        rw [e1]
        exact ⟨rfl, e2⟩
      | some d =>
        rw [hq] at e1 hm
        rw [e1]
        have hgo' := hG' c' h'
        have i1 := hgo.2 (by rw [hq]; rfl)
        have i2 := hgo'.2 (by rw [e1]; rfl)
        exact defsF_near hG hG' hD g g' (l ++ [d]) _ _ hgo.1.ok hgo'.1.ok e2 (by rw [hgo.1.ts]; omega) (by rw [hgo'.1.ts]; omega) (by rw [hgo.1.ts]; omega) (by rw [hgo'.1.ts]; omega) hm
    · rw [if_neg hc, if_neg hc]
      exact ⟨by simp only [hs.finB hix], hs.fin hix⟩
theorem docS_near (c c' : Cu) (h : c.Ok) (h' : c'.Ok) (hs : Sim m c c') (hm : (docS c).2.ix ≤ m) : (docS c').1 = (docS c).1 ∧ Sim m (docS c).2 (docS c').2 :=
  defsF_near (defN_goes _) (defN_goes _) (defN_near _ _) _ _ [] c c' h h' hs (by omega) (by omega) (by omega) (by omega) hm
end
end Go.Proofs.YtmhelpocddndjaaGreat.cu
namespace Go.Proofs.YtmhelpocddndjaaGreat.mem
open Go.ChangeShapes Go.WideShapes Go.ChangeAt Go.RowKit
open ints (hide unhide)
set_option linter.unusedVariables false

theorem size32 : (Tryz.prog.info? 21).map (·.size) = some 1 := by kernel_rfl
theorem splice_all {α : Type} (L cs : List α) (h : L.length = cs.length) : splice L 0 cs = cs := by
  unfold splice
  rw [Nat.zero_add, List.drop_eq_nil_of_le (by omega)]
  simp
theorem own_block {w : World} {base g n cap : Nat} {e : TypeId} {xs : List Value} (h : w.ownsRow base e 1 (.slice (some ⟨g, 0, none⟩) n cap) n xs) : ∃ cur : Array Value, w.heap[g]? = some (.cells cur.toList.toArray e (0, 0)) ∧ cur.size = cap := by
  rcases h.2 with ⟨h2, _⟩ | ⟨g', cap', cur, hv, hg, hh, hnc, hcm, hcs, hx⟩
  · cases h2
  · simp only [Value.slice.injEq, Option.some.injEq, Addr.mk.injEq] at hv
    obtain ⟨⟨rfl, _, _⟩, _, rfl⟩ := hv
    exact ⟨cur, by simpa using hh, by simpa using hcs⟩
theorem row_some {k : IntKind} {w : World} {a : Option Addr} {n cap : Nat} {zs : List Int} (h : Row k w a n cap zs) (hn : 0 < n) : ∃ ad, a = some ad ∧ ∀ j u, (zs.map (Value.int k))[j]? = some u → w.cell? (ad.add j) = some u := by
  rcases h.at_ with h0 | ⟨b, off, rfl, _, _⟩
  · omega
  · exact ⟨_, rfl, h.cells _ rfl⟩
theorem own_lo {w : World} {base base' : Nat} {e : TypeId} {size : Nat} {v : Value} {n : Nat} {xs : List Value} (h : w.ownsRow base e size v n xs) (hb : base' ≤ base) : w.ownsRow base' e size v n xs :=
  ⟨h.1, h.2.imp id (fun ⟨g', r1, r2, r3, r4, r5⟩ => ⟨g', r1, r2, r3, Nat.le_trans hb r4, r5⟩)⟩
theorem newLine_any (a : Option Addr) (n c : Nat) (l : List Int) (w : World) (h : Row .i32 w a n c l) (hn : 4 * n ≤ 281474976710656) :
    Calls Tryz.prog 113 #[.slice a n c] w fun e w' => e = .returned (.slice (some ⟨w.heap.size, 0, none⟩) n n) ∧
      w'.ownsRow w.heap.size 21 1 (.slice (some ⟨w.heap.size, 0, none⟩) n n) n (l.map (Value.int .i32)) ∧ Below w.heap.size w w' := by
  obtain ⟨i0, hi, hz0, hz1, hz2⟩ := info_parts info32
  have hl : (l.map (Value.int .i32)).length = n := by simp [h.len]
  go_enter Tryz.func113, Tryz.ntmps113
  go_wp2_with (first
    | (refine wpList_make_full _ rfl _ _ 75 rfl w.heap.size 21 i0 (.int .i32 0) 1 Tryz.underlying75 hi hz0 hz1 .i64 .i64 _ _ n rfl rfl rfl rfl (by rw [hz2]; omega) (by unfold maxLen; omega) (Nat.le_refl _) ?_; intro w1 hown hgrow; have hg1 := belowNone hgrow; have hr1 := h.below hg1; obtain ⟨cur, hcur, hcs⟩ := own_block hown)
    | (refine wpList_copy_splice rfl (.tmp 7) (.tmp 8) 75 75 rfl 21 Tryz.underlying75 size32 _ _ n n n c rfl rfl w.heap.size 0 cur.toList 21 hcur (l.map (Value.int .i32)) (by rw [hl]; exact (Nat.min_self n).symm) (fun hp => ⟨rfl, row_some hr1 (by rw [hl] at hp; exact hp)⟩) (by rw [hl]; simp; omega) (ints_oneCell _ _) w.heap.size w hg1 (Nat.le_refl _) ?_; intro w2 hrow2 hb2))
  go_ret
  refine ⟨rfl, ?_, hb2⟩
  have := hrow2.out
  rw [splice_all _ _ (by rw [hl]; simpa using hcs)] at this
  exact ⟨by simp [h.len], .inr ⟨w.heap.size, n, _, rfl, Nat.le_refl _, this, Nat.le_refl _, by unfold maxLen; omega, by simp [h.len], by rw [Nat.mul_one]; exact List.take_of_length_le (by simp [h.len])⟩⟩

def toOf (l : List Int) (k : Nat) : Nat := if 1 ≤ k ∧ prB l (k - 1) = true then k - 1 else k
def cut (l : List Int) (a b : Nat) : List Int := (l.drop a).take (b - a)
def linesTo (l : List Int) : Nat → List (List Int) × Nat
  | 0 => ([], 0)
  | k + 1 => if enB l k then ((linesTo l k).1 ++ [cut l (linesTo l k).2 (toOf l k)], k + 1) else linesTo l k
def linesL (l : List Int) : List (List Int) := (linesTo l l.length).1 ++ [l.drop (linesTo l l.length).2]
theorem en_pr (l : List Int) (k : Nat) (h : prB l k = true) : enB l k = false := by
  have h2 := h
  simp only [prB, Bool.and_eq_true, beq_iff_eq] at h2
  unfold enB
  rw [h, h2.1.2]
  rfl
theorem linesTo_inv (l : List Int) (k : Nat) : (linesTo l k).2 ≤ k ∧ ((linesTo l k).2 = 0 ∨ enB l ((linesTo l k).2 - 1) = true) ∧ (linesTo l k).1.length ≤ k := by
  induction k with
  | zero => simp [linesTo]
  | succ k ih =>
    simp only [linesTo]
    split
    · rename_i h
      refine ⟨Nat.le_refl _, .inr (by simpa using h), by simp; omega⟩
    · exact ⟨by omega, ih.2.1, by omega⟩
theorem from_to (l : List Int) (k : Nat) : (linesTo l k).2 ≤ toOf l k ∧ toOf l k ≤ k := by
  have h := linesTo_inv l k
  unfold toOf
  split
  · rename_i hp
    refine ⟨?_, by omega⟩
    rcases Nat.lt_or_ge (linesTo l k).2 k with h1 | h1
    · omega
    · exfalso
      have e : (linesTo l k).2 = k := by omega
      rcases h.2.1 with h2 | h2
      · omega
      · rw [e, en_pr l (k - 1) hp.2] at h2
        cases h2
  · omega
def lineVal (g : Nat) (ln : List Int) : Value := .slice (some ⟨g, 0, none⟩) ln.length ln.length
structure LinesAt (w : World) (base : Nat) (v : Value) (gs : List Nat) (lns : List (List Int)) : Prop where
  len : gs.length = lns.length
  own : w.ownsRow base 75 1 v lns.length (List.zipWith lineVal gs lns)
  each : ∀ i, i < lns.length → w.ownsRow base 21 1 (lineVal (gs.getD i 0) (lns.getD i [])) (lns.getD i []).length ((lns.getD i []).map (Value.int .i32))
  nodup : gs.Nodup
theorem LinesAt.below {w w' : World} {base : Nat} {v : Value} {gs : List Nat} {lns : List (List Int)} (h : LinesAt w base v gs lns) (hb : Below w.heap.size w w') : LinesAt w' base v gs lns :=
  ⟨h.len, own_below h.own hb, fun i hi => own_below (h.each i hi) hb, h.nodup⟩
theorem LinesAt.low {w : World} {base base' : Nat} {v : Value} {gs : List Nat} {lns : List (List Int)} (h : LinesAt w base v gs lns) (hb : base' ≤ base) : LinesAt w base' v gs lns :=
  ⟨h.len, own_lo h.own hb, fun i hi => own_lo (h.each i hi) hb, h.nodup⟩
theorem line_block {w : World} {base g : Nat} {ln : List Int} (h : w.ownsRow base 21 1 (lineVal g ln) ln.length (ln.map (Value.int .i32))) : base ≤ g ∧ ∃ cur, w.heap[g]? = some (.cells cur 21 (0, 0)) := by
  rcases h.2 with ⟨h2, _⟩ | ⟨g', cap', cur, hv, hg, hh, _⟩
  · cases h2
  · simp only [lineVal, Value.slice.injEq, Option.some.injEq, Addr.mk.injEq] at hv
    obtain ⟨⟨rfl, _, _⟩, _, _⟩ := hv
    exact ⟨hg, cur, hh⟩
theorem outer_block {w : World} {base : Nat} {v : Value} {n : Nat} {xs : List Value} (h : w.ownsRow base 75 1 v n xs) : ∀ G, v.ownBlock = some G → ∃ cur, w.heap[G]? = some (.cells cur 75 (0, 0)) := by
  intro G hG
  rcases h.2 with ⟨rfl, _⟩ | ⟨g', cap', cur, rfl, hg, hh, _⟩
  · cases hG
  · obtain rfl := Option.some.inj hG
    exact ⟨cur, hh⟩
/-- One line more: the new line's row lies in 'w1', the outer row has been appended to. -/
theorem LinesAt.snoc {w w1 w2 : World} {base : Nat} {v v' : Value} {gs : List Nat} {lns : List (List Int)} {o : Obj} {g : Nat} {ln : List Int}
    (h : LinesAt w base v gs lns) (hg : g = w.heap.size) (hb : Below w.heap.size w w1) (hln : w1.ownsRow base 21 1 (lineVal g ln) ln.length (ln.map (Value.int .i32)))
    (hown : w2.ownsRow base 75 1 v' (lns.length + 1) (List.zipWith lineVal gs lns ++ [lineVal g ln])) (hgrow : (w1.alloc o).grownBy w2 v.ownBlock) :
    LinesAt w2 base v' (gs ++ [g]) (lns ++ [ln]) := by
  have hne : ∀ (g' : Nat) (ln' : List Int), w1.ownsRow base 21 1 (lineVal g' ln') ln'.length (ln'.map (Value.int .i32)) → w2.ownsRow base 21 1 (lineVal g' ln') ln'.length (ln'.map (Value.int .i32)) := by
    intro g' ln' h'
    refine (h'.alloc o).kept hgrow (.inr ?_)
    intro e
    obtain ⟨cur, hcur⟩ := outer_block (own_below h.own hb) g' (by rw [← e]; rfl)
    obtain ⟨_, cur', hcur'⟩ := line_block h'
    rw [hcur'] at hcur
    simp at hcur
  refine ⟨by simp [h.len], ?_, fun i hi => ?_, ?_⟩
  · rw [List.zipWith_append (by exact h.len)]
    simpa using hown
  · by_cases hi' : i < lns.length
    · have e1 : (gs ++ [g]).getD i 0 = gs.getD i 0 := by simp [List.getD, List.getElem?_append_left (show i < gs.length by rw [h.len]; exact hi')]
      have e2 : (lns ++ [ln]).getD i [] = lns.getD i [] := by simp [List.getD, List.getElem?_append_left hi']
      rw [e1, e2]
      exact hne _ _ (own_below (h.each i hi') hb)
    · have e : i = lns.length := by simp at hi; omega
      have e1 : (gs ++ [g]).getD i 0 = g := by rw [e, ← h.len]; simp [List.getD]
      have e2 : (lns ++ [ln]).getD i [] = ln := by rw [e]; simp [List.getD]
      rw [e1, e2]
      exact hne _ _ hln
  · rw [List.nodup_append]
    refine ⟨h.nodup, by simp, ?_⟩
    intro x hx y hy e
    simp at hy
    subst hy
    subst e
    obtain ⟨i, hi, rfl⟩ := List.mem_iff_getElem.1 hx
    obtain ⟨_, cur, hcur⟩ := line_block (h.each i (by rw [← h.len]; exact hi))
    have e1 : gs.getD i 0 = gs[i] := by simp [List.getD, hi]
    rw [e1, hg, Array.getElem?_eq_none (Nat.le_refl _)] at hcur
    cases hcur
end Go.Proofs.YtmhelpocddndjaaGreat.mem
namespace Go.Proofs.YtmhelpocddndjaaGreat.mem
open Go.ChangeShapes Go.WideShapes Go.ChangeAt Go.RowKit
open ints (hide unhide)
set_option linter.unusedVariables false

theorem infoSl : (Tryz.prog.info? 75).map (fun i => (i.zero, i.size, i.bytes)) = some (some (.slice none 0 0), 1, 24) := by kernel_rfl
theorem cut_len (l : List Int) (a b : Nat) (h : b ≤ l.length) : (cut l a b).length = b - a := by simp [cut]; omega
theorem Row.sub {k : IntKind} {w : World} {b off n c : Nat} {l : List Int} (hl : l.length = n) (hc : n ≤ c) {f t : Nat} (hft : f ≤ t) (ht : t ≤ n) (hbw : b < w.heap.size) (hcell : ∀ i, i < n → w.cell? ⟨b, off + i, none⟩ = some (.int k (l.getD i 0))) :
    Row k w (some ⟨b, off + f, none⟩) (t - f) (c - f) (cut l f t) := by
  refine ⟨cut_len l f t (by omega), by omega, (fun e => by cases e), .inr ⟨b, off + f, rfl, hbw, fun i hi => ?_⟩⟩
  rw [Nat.add_assoc, hcell (f + i) (by omega)]
  simp [cut, List.getD, hi]
theorem one_val (v : Value) (h : v.oneCell' = true) : ∀ u ∈ [v], u.oneCell' = true := by intro u hu; simp at hu; subst hu; exact h
theorem cellv (w : World) (x : Value) (t : TypeId) : ∀ j u, [x][j]? = some u → (w.alloc (.cells #[x] t)).cell? ((⟨w.heap.size, 0, none⟩ : Addr).add j) = some u := by
  intro j u hj
  match j, hj with
  | 0, hj => simp at hj; subst hj; simp [Addr.add]
  | (j + 1), hj => simp at hj
theorem rowZ {k : IntKind} {w : World} {a : Option Addr} {n c : Nat} (h : n = 0) (hn : a = none → c = 0) : Row k w a n c [] := ⟨by simp [h], by omega, hn, .inl h⟩
theorem linesNil (w : World) (base : Nat) : LinesAt w base (.slice none 0 0) [] [] := ⟨rfl, World.ownsRow_nil _ _ _ _, fun i hi => by simp at hi, List.nodup_nil⟩
theorem linesTo_yes {l : List Int} {k : Nat} (h : enB l k = true) : linesTo l (k + 1) = ((linesTo l k).1 ++ [cut l (linesTo l k).2 (toOf l k)], k + 1) := by simp [linesTo, h]
theorem linesTo_no {l : List Int} {k : Nat} (h : enB l k = false) : linesTo l (k + 1) = linesTo l k := by simp [linesTo, h]
/-- pairedAt(chars, k - 1), k from 0 on. -/
theorem paired_pred (a : Option Addr) (n c : Nat) (l : List Int) (k : Nat) (w : World) (h : Row .i32 w a n c l) (hn : n ≤ 9223372036854775806) (hk : k ≤ n) :
    Calls Tryz.prog 62 #[.slice a n c, .int .i64 ((k : Int) - 1)] w fun e w' => e = .returned (.bool (decide (1 ≤ k) && prB l (k - 1))) ∧ w' = w := by
  cases k with
  | zero => exact paired_neg a n c w
  | succ k =>
    have e : (((k + 1 : Nat) : Int) - 1) = (k : Int) := by omega
    rw [e]
    have := paired_nat a n c l k w h hn (by omega)
    simpa using this
set_option maxHeartbeats 2000000 in
theorem lines_any (a : Option Addr) (n c : Nat) (l : List Int) (w : World) (h : Row .i32 w a n c l) (hn : n ≤ 1099511627776) :
    Calls Tryz.prog 94 #[.slice a n c] w fun e w' => ∃ v gs, e = .returned v ∧ LinesAt w' w.heap.size v gs (linesL l) ∧ Below w.heap.size w w' := by
  obtain ⟨i0, hi, hz0, hz1, hz2⟩ := info_parts infoSl
  go_enter Tryz.func94, Tryz.ntmps94
  go_wp2
  go_loopw [3, 4, 9] (fun v f i wr => ∃ (k : Nat) (gs : List Nat), k ≤ n ∧ i = .int .i64 k ∧ f = .int .i64 ((linesTo l k).2 : Nat) ∧ LinesAt wr w.heap.size v gs (linesTo l k).1 ∧ Below w.heap.size w wr) (fun _ _ i _ => n - (intOf i).toNat)
  case atStart => exact ⟨0, [], Nat.zero_le _, rfl, rfl, linesNil _ _, Below.refl _ _⟩
  case round =>
    obtain ⟨k, gs, hk, rfl, rfl, hat, hbel⟩ := hrel
    have hinv := linesTo_inv l k
    have hft := from_to l k
    obtain ⟨F, hF⟩ : ∃ F, F = (linesTo l k).2 := ⟨_, rfl⟩
    obtain ⟨L, hL⟩ : ∃ L, L = (linesTo l k).1 := ⟨_, rfl⟩
    rw [← hF] at hinv hft ⊢
    rw [← hL] at hat hinv
    have HF := hide hF
    have HL := hide hL
    clear hF hL
    by_cases hlt : k < n
    · have hr := h.below hbel
      have P := hide (ends_any a n c l k wr hr (by omega) hlt)
      have hki : (k : Int) < (n : Int) := by omega
      cases hp : enB l k
      · rw [hp] at P
        have HP := hide hp
        clear hp
        go_wp2_with fail
        refine (unhide P).mono ?_
        rintro e w' ⟨rfl, rfl⟩
        clear P
        go_wp2
        go_roundw
        case rel => exact ⟨k + 1, gs, by omega, by go_num, by rw [linesTo_no (unhide HP), ← unhide HF], by rw [linesTo_no (unhide HP), ← unhide HL]; exact hat, hbel⟩
        case measure => simp [intOf]; omega
      · rw [hp] at P
        have HP := hide hp
        have Q := hide (paired_pred a n c l k wr hr (by omega) (by omega))
        obtain ⟨T, hT⟩ : ∃ T, T = toOf l k := ⟨_, rfl⟩
        rw [← hT] at hft
        have HT := hide hT
        rcases h.at_ with h0 | ⟨b, off, rfl, hbw, hcell⟩
        · omega
        have hle := h.le
        have hsub := Row.sub (k := .i32) (w := wr) (b := b) (off := off) (c := c) h.len hle hft.1 (show T ≤ n by omega) (Nat.lt_of_lt_of_le hbw hbel.size) (fun i hi => (hbel.cell (p := ⟨b, off + i, none⟩) hbw).trans (hcell i hi))
        have N := hide (newLine_any _ _ _ _ wr hsub (by omega))
        have hlen := cut_len l F T (by rw [h.len]; omega)
        have f1 := hft.1
        have f2 := hft.2
        have hcF : ¬ c = F := by omega
        clear hp hT hcell hsub hr
        cases hpp : (decide (1 ≤ k) && prB l (k - 1))
        · have eT : T = k := by rw [unhide HT]; unfold toOf; rw [if_neg (fun hh => by rw [decide_eq_true hh.1, hh.2] at hpp; cases hpp)]
          rw [hpp] at Q
          have HS := hide (show cut l F k = cut l F (toOf l k) from by rw [← unhide HT, eT])
          rw [eT] at N hlen f1 f2
          clear HT hpp eT hft
          go_wp2_with fail
          refine (unhide P).mono ?_
          rintro e w' ⟨rfl, rfl⟩
          clear P
          go_wp2_with fail
          refine (unhide Q).mono ?_
          rintro e w' ⟨rfl, rfl⟩
          clear Q
          go_wp2_with fail
          have hkF : 0 ≤ (k : Int) := by omega
          refine (unhide N).mono ?_
          rintro e w2 ⟨rfl, hln, hb2⟩
          have Hlen := hide hlen
          have hown2 := own_below hat.own hb2
          have hl2 : w2.ownsRow w.heap.size 21 1 (lineVal w'.heap.size (cut l F k)) (cut l F k).length ((cut l F k).map (Value.int .i32)) := by
            unfold lineVal
            rw [unhide Hlen]
            exact own_lo hln hbel.size
          have HL2 := hide hl2
          have HB2 := hide hb2
          have hsz2 := Nat.le_trans hbel.size hb2.size
          have hLk := hinv.2.2
          have HLT := hide hown2.lt
          clear N hln hlen hl2 hb2 hinv
          go_wp2_with (at_builtin; refine wpList_append_own _ rfl (.tmp 23) (.tmp 29) 151 rfl w.heap.size 75 i0 (.slice none 0 0) 1 24 Tryz.underlying151 hi hz0 hz1 hz2 rfl (by decide) _ _ _ rfl (hown2.alloc _) ⟨w2.heap.size, 0, none⟩ 1 1 [.slice (some ⟨w'.heap.size, 0, none⟩) (k - F) (k - F)] rfl rfl (cellv _ _ _) (one_val _ rfl) (by unfold maxLen; omega) (by omega) (by simp; omega) ?_; intro v' w3 hown3 hgrow3 _)
          go_roundw
          case rel =>
            have e3 : Value.slice (some ⟨w'.heap.size, 0, none⟩) (k - F) (k - F) = lineVal w'.heap.size (cut l F k) := by unfold lineVal; rw [unhide Hlen]
            rw [e3] at hown3
            have R := hat.snoc rfl (unhide HB2) (unhide HL2) hown3 hgrow3
            refine ⟨k + 1, gs ++ [w'.heap.size], by omega, by go_num, ?_, ?_, ?_⟩
            · rw [linesTo_yes (unhide HP)]; go_num
            · rw [linesTo_yes (unhide HP), ← unhide HL, ← unhide HF, ← unhide HS]; exact R
            · exact ((hbel.trans ((unhide HB2).mono hbel.size)).alloc hsz2 _).grown hgrow3 (by simp; omega) (fun k hk => (unhide HLT k hk).1)
          case measure => simp [intOf]; omega
        · have hk1 : 1 ≤ k := by simp at hpp; exact hpp.1
          have eT : T = k - 1 := by rw [unhide HT]; unfold toOf; rw [if_pos (by simpa using hpp)]
          rw [hpp] at Q
          have HS := hide (show cut l F (k - 1) = cut l F (toOf l k) from by rw [← unhide HT, eT])
          rw [eT] at N hlen f1 f2
          clear HT hpp eT hft
          go_wp2_with fail
          refine (unhide P).mono ?_
          rintro e w' ⟨rfl, rfl⟩
          clear P
          go_wp2_with fail
          refine (unhide Q).mono ?_
          rintro e w' ⟨rfl, rfl⟩
          clear Q
          go_wp2_with fail
          have hkF : 0 ≤ (k : Int) := by omega
          refine (unhide N).mono ?_
          rintro e w2 ⟨rfl, hln, hb2⟩
          have Hlen := hide hlen
          have hown2 := own_below hat.own hb2
          have hl2 : w2.ownsRow w.heap.size 21 1 (lineVal w'.heap.size (cut l F (k - 1))) (cut l F (k - 1)).length ((cut l F (k - 1)).map (Value.int .i32)) := by
            unfold lineVal
            rw [unhide Hlen]
            exact own_lo hln hbel.size
          have HL2 := hide hl2
          have HB2 := hide hb2
          have hsz2 := Nat.le_trans hbel.size hb2.size
          have hLk := hinv.2.2
          have HLT := hide hown2.lt
          clear N hln hlen hl2 hb2 hinv
          go_wp2_with (at_builtin; refine wpList_append_own _ rfl (.tmp 23) (.tmp 29) 151 rfl w.heap.size 75 i0 (.slice none 0 0) 1 24 Tryz.underlying151 hi hz0 hz1 hz2 rfl (by decide) _ _ _ rfl (hown2.alloc _) ⟨w2.heap.size, 0, none⟩ 1 1 [.slice (some ⟨w'.heap.size, 0, none⟩) ((k - 1) - F) ((k - 1) - F)] rfl rfl (cellv _ _ _) (one_val _ rfl) (by unfold maxLen; omega) (by omega) (by simp; omega) ?_; intro v' w3 hown3 hgrow3 _)
          go_roundw
          case rel =>
            have e3 : Value.slice (some ⟨w'.heap.size, 0, none⟩) ((k - 1) - F) ((k - 1) - F) = lineVal w'.heap.size (cut l F (k - 1)) := by unfold lineVal; rw [unhide Hlen]
            rw [e3] at hown3
            have R := hat.snoc rfl (unhide HB2) (unhide HL2) hown3 hgrow3
            refine ⟨k + 1, gs ++ [w'.heap.size], by omega, by go_num, ?_, ?_, ?_⟩
            · rw [linesTo_yes (unhide HP)]; go_num
            · rw [linesTo_yes (unhide HP), ← unhide HL, ← unhide HF, ← unhide HS]; exact R
            · exact ((hbel.trans ((unhide HB2).mono hbel.size)).alloc hsz2 _).grown hgrow3 (by simp; omega) (fun k hk => (unhide HLT k hk).1)
          case measure => simp [intOf]; omega
    · have hkn : k = n := by omega
      have HLL := hide (show linesL l = L ++ [l.drop F] from by unfold linesL; rw [h.len, ← hkn, ← unhide HF, ← unhide HL])
      have Hdl := hide (show (l.drop F).length = n - F from by simp [h.len])
      have hFn : F ≤ n := by omega
      have hnk : ¬ (k : Int) < (n : Int) := by omega
      have hle := h.le
      clear hft
      by_cases hpos : 0 < n
      · rcases h.at_ with h0 | ⟨b, off, rfl, hbw, hcell⟩
        · omega
        by_cases hcF : c = F
        · have hz0' : n - F = 0 := by omega
          have hnil : l.drop F = [] := List.drop_eq_nil_of_le (by rw [h.len]; omega)
          have HN := hide hnil
          have N := hide (newLine_any (some ⟨b, off, none⟩) (n - F) 0 (l.drop F) wr (by rw [hnil]; exact rowZ hz0' (fun e => by cases e)) (by omega))
          have hfi : (F : Int) ≤ (n : Int) := by omega
          clear hcell hnil hz0'
          go_wp2_with fail
          refine (unhide N).mono ?_
          rintro e w2 ⟨rfl, hln, hb2⟩
          have hown2 := own_below hat.own hb2
          have hl2 : w2.ownsRow w.heap.size 21 1 (lineVal wr.heap.size (l.drop F)) (l.drop F).length ((l.drop F).map (Value.int .i32)) := by
            unfold lineVal
            rw [unhide Hdl]
            exact own_lo hln hbel.size
          have HL2 := hide hl2
          have HB2 := hide hb2
          have hsz2 := Nat.le_trans hbel.size hb2.size
          have hLk := hinv.2.2
          have HLT := hide hown2.lt
          clear hln hl2 hb2 hinv
          go_wp2_with (at_builtin; refine wpList_append_own _ rfl (.tmp 34) (.tmp 39) 151 rfl w.heap.size 75 i0 (.slice none 0 0) 1 24 Tryz.underlying151 hi hz0 hz1 hz2 rfl (by decide) _ _ _ rfl (hown2.alloc _) ⟨w2.heap.size, 0, none⟩ 1 1 [.slice (some ⟨wr.heap.size, 0, none⟩) (n - F) (n - F)] rfl rfl (cellv _ _ _) (one_val _ rfl) (by unfold maxLen; omega) (by omega) (by simp; omega) ?_; intro v' w3 hown3 hgrow3 _)
          go_ret
          have e3 : Value.slice (some ⟨wr.heap.size, 0, none⟩) (n - F) (n - F) = lineVal wr.heap.size (l.drop F) := by unfold lineVal; rw [unhide Hdl]
          rw [e3] at hown3
          have R := hat.snoc rfl (unhide HB2) (unhide HL2) hown3 hgrow3
          rw [unhide HLL]
          exact ⟨v', _, rfl, R, ((hbel.trans ((unhide HB2).mono hbel.size)).alloc hsz2 _).grown hgrow3 (by simp; omega) (fun k hk => (unhide HLT k hk).1)⟩
        · have ecut : cut l F n = l.drop F := by unfold cut; rw [List.take_of_length_le (by simp [h.len])]
          have hsub := Row.sub (k := .i32) (w := wr) (b := b) (off := off) (c := c) h.len hle hFn (Nat.le_refl n) (Nat.lt_of_lt_of_le hbw hbel.size) (fun i hi => (hbel.cell (p := ⟨b, off + i, none⟩) hbw).trans (hcell i hi))
          rw [ecut] at hsub
          have N := hide (newLine_any _ _ _ _ wr hsub (by omega))
          have hfi : (F : Int) ≤ (n : Int) := by omega
          clear hcell hsub ecut
          go_wp2_with fail
          refine (unhide N).mono ?_
          rintro e w2 ⟨rfl, hln, hb2⟩
          have hown2 := own_below hat.own hb2
          have hl2 : w2.ownsRow w.heap.size 21 1 (lineVal wr.heap.size (l.drop F)) (l.drop F).length ((l.drop F).map (Value.int .i32)) := by
            unfold lineVal
            rw [unhide Hdl]
            exact own_lo hln hbel.size
          have HL2 := hide hl2
          have HB2 := hide hb2
          have hsz2 := Nat.le_trans hbel.size hb2.size
          have hLk := hinv.2.2
          have HLT := hide hown2.lt
          clear hln hl2 hb2 hinv
          go_wp2_with (at_builtin; refine wpList_append_own _ rfl (.tmp 34) (.tmp 39) 151 rfl w.heap.size 75 i0 (.slice none 0 0) 1 24 Tryz.underlying151 hi hz0 hz1 hz2 rfl (by decide) _ _ _ rfl (hown2.alloc _) ⟨w2.heap.size, 0, none⟩ 1 1 [.slice (some ⟨wr.heap.size, 0, none⟩) (n - F) (n - F)] rfl rfl (cellv _ _ _) (one_val _ rfl) (by unfold maxLen; omega) (by omega) (by simp; omega) ?_; intro v' w3 hown3 hgrow3 _)
          go_ret
          have e3 : Value.slice (some ⟨wr.heap.size, 0, none⟩) (n - F) (n - F) = lineVal wr.heap.size (l.drop F) := by unfold lineVal; rw [unhide Hdl]
          rw [e3] at hown3
          have R := hat.snoc rfl (unhide HB2) (unhide HL2) hown3 hgrow3
          rw [unhide HLL]
          exact ⟨v', _, rfl, R, ((hbel.trans ((unhide HB2).mono hbel.size)).alloc hsz2 _).grown hgrow3 (by simp; omega) (fun k hk => (unhide HLT k hk).1)⟩
      · have hn0 : n = 0 := by omega
        have hF0 : F = 0 := by omega
        have hl0 : l = [] := List.eq_nil_of_length_eq_zero (by rw [h.len]; exact hn0)
        have hnil' := h.nil
        subst hn0 hF0
        have Hdl0 := hide (show (l.drop 0).length = 0 from by rw [hl0]; rfl)
        have Hl0 := hide hl0
        clear hl0 Hdl
        have Hdl := Hdl0
        clear Hdl0
        cases a with
        | none =>
          have hc0 : c = 0 := hnil' rfl
          subst hc0
          have N := hide (newLine_any none 0 0 (l.drop 0) wr (by rw [unhide Hl0]; exact rowZ rfl (fun _ => rfl)) (by omega))
          clear hnil' h
          go_wp2_with fail
          refine (unhide N).mono ?_
          rintro e w2 ⟨rfl, hln, hb2⟩
          have hown2 := own_below hat.own hb2
          have hl2 : w2.ownsRow w.heap.size 21 1 (lineVal wr.heap.size (l.drop 0)) (l.drop 0).length ((l.drop 0).map (Value.int .i32)) := by
            unfold lineVal
            rw [unhide Hdl]
            exact own_lo hln hbel.size
          have HL2 := hide hl2
          have HB2 := hide hb2
          have hsz2 := Nat.le_trans hbel.size hb2.size
          have hLk := hinv.2.2
          have HLT := hide hown2.lt
          clear hln hl2 hb2 hinv
          go_wp2_with (at_builtin; refine wpList_append_own _ rfl (.tmp 34) (.tmp 39) 151 rfl w.heap.size 75 i0 (.slice none 0 0) 1 24 Tryz.underlying151 hi hz0 hz1 hz2 rfl (by decide) _ _ _ rfl (hown2.alloc _) ⟨w2.heap.size, 0, none⟩ 1 1 [.slice (some ⟨wr.heap.size, 0, none⟩) 0 0] rfl rfl (cellv _ _ _) (one_val _ rfl) (by unfold maxLen; omega) (by omega) (by simp; omega) ?_; intro v' w3 hown3 hgrow3 _)
          go_ret
          have e3 : Value.slice (some ⟨wr.heap.size, 0, none⟩) 0 0 = lineVal wr.heap.size (l.drop 0) := by unfold lineVal; rw [unhide Hdl]
          rw [e3] at hown3
          have R := hat.snoc rfl (unhide HB2) (unhide HL2) hown3 hgrow3
          rw [unhide HLL]
          exact ⟨v', _, rfl, R, ((hbel.trans ((unhide HB2).mono hbel.size)).alloc hsz2 _).grown hgrow3 (by simp; omega) (fun k hk => (unhide HLT k hk).1)⟩
        | some ad =>
          have N := hide (newLine_any (some ad) 0 c (l.drop 0) wr (by rw [unhide Hl0]; exact rowZ rfl (fun e => by cases e)) (by omega))
          by_cases hc0 : c = 0
          · subst hc0
            clear hnil' h
            go_wp2_with fail
            refine (unhide N).mono ?_
            rintro e w2 ⟨rfl, hln, hb2⟩
            have hown2 := own_below hat.own hb2
            have hl2 : w2.ownsRow w.heap.size 21 1 (lineVal wr.heap.size (l.drop 0)) (l.drop 0).length ((l.drop 0).map (Value.int .i32)) := by
              unfold lineVal
              rw [unhide Hdl]
              exact own_lo hln hbel.size
            have HL2 := hide hl2
            have HB2 := hide hb2
            have hsz2 := Nat.le_trans hbel.size hb2.size
            have hLk := hinv.2.2
            have HLT := hide hown2.lt
            clear hln hl2 hb2 hinv
            go_wp2_with (at_builtin; refine wpList_append_own _ rfl (.tmp 34) (.tmp 39) 151 rfl w.heap.size 75 i0 (.slice none 0 0) 1 24 Tryz.underlying151 hi hz0 hz1 hz2 rfl (by decide) _ _ _ rfl (hown2.alloc _) ⟨w2.heap.size, 0, none⟩ 1 1 [.slice (some ⟨wr.heap.size, 0, none⟩) 0 0] rfl rfl (cellv _ _ _) (one_val _ rfl) (by unfold maxLen; omega) (by omega) (by simp; omega) ?_; intro v' w3 hown3 hgrow3 _)
            go_ret
            have e3 : Value.slice (some ⟨wr.heap.size, 0, none⟩) 0 0 = lineVal wr.heap.size (l.drop 0) := by unfold lineVal; rw [unhide Hdl]
            rw [e3] at hown3
            have R := hat.snoc rfl (unhide HB2) (unhide HL2) hown3 hgrow3
            rw [unhide HLL]
            exact ⟨v', _, rfl, R, ((hbel.trans ((unhide HB2).mono hbel.size)).alloc hsz2 _).grown hgrow3 (by simp; omega) (fun k hk => (unhide HLT k hk).1)⟩
          · clear hnil' h
            go_wp2_with fail
            refine (unhide N).mono ?_
            rintro e w2 ⟨rfl, hln, hb2⟩
            have hown2 := own_below hat.own hb2
            have hl2 : w2.ownsRow w.heap.size 21 1 (lineVal wr.heap.size (l.drop 0)) (l.drop 0).length ((l.drop 0).map (Value.int .i32)) := by
              unfold lineVal
              rw [unhide Hdl]
              exact own_lo hln hbel.size
            have HL2 := hide hl2
            have HB2 := hide hb2
            have hsz2 := Nat.le_trans hbel.size hb2.size
            have hLk := hinv.2.2
            have HLT := hide hown2.lt
            clear hln hl2 hb2 hinv
            go_wp2_with (at_builtin; refine wpList_append_own _ rfl (.tmp 34) (.tmp 39) 151 rfl w.heap.size 75 i0 (.slice none 0 0) 1 24 Tryz.underlying151 hi hz0 hz1 hz2 rfl (by decide) _ _ _ rfl (hown2.alloc _) ⟨w2.heap.size, 0, none⟩ 1 1 [.slice (some ⟨wr.heap.size, 0, none⟩) 0 0] rfl rfl (cellv _ _ _) (one_val _ rfl) (by unfold maxLen; omega) (by omega) (by simp; omega) ?_; intro v' w3 hown3 hgrow3 _)
            go_ret
            have e3 : Value.slice (some ⟨wr.heap.size, 0, none⟩) 0 0 = lineVal wr.heap.size (l.drop 0) := by unfold lineVal; rw [unhide Hdl]
            rw [e3] at hown3
            have R := hat.snoc rfl (unhide HB2) (unhide HL2) hown3 hgrow3
            rw [unhide HLL]
            exact ⟨v', _, rfl, R, ((hbel.trans ((unhide HB2).mono hbel.size)).alloc hsz2 _).grown hgrow3 (by simp; omega) (fun k hk => (unhide HLT k hk).1)⟩
end Go.Proofs.YtmhelpocddndjaaGreat.mem
namespace Go.Proofs.YtmhelpocddndjaaGreat.sv
set_option linter.unusedVariables false

def whB (c : Int) : Bool := c == 9 || c == 32
def soB (c : Int) : Bool := c == 9 || c == 10 || c == 13 || (decide (32 ≤ c) && decide (c ≤ 55295)) || (decide (57344 ≤ c) && decide (c ≤ 65535))
def ind (l : List Int) : Nat := (l.takeWhile whB).length
def blk (l : List Int) : Bool := l.all whB
/-- The lines: a line feed, a carriage return, or both together end one. -/
def pre (c : Int) : List (List Int) → List (List Int)
  | [] => [[c]]
  | x :: xs => (c :: x) :: xs
def lns : List Int → List (List Int)
  | [] => [[]]
  | c :: r => if c = 10 then [] :: lns r else if c = 13 then (if r.head? = some 10 then lns r else [] :: lns r) else pre c (lns r)
def jn : List (List Int) → List Int
  | [] => []
  | [x] => x
  | x :: y :: r => x ++ 10 :: jn (y :: r)
/-- A line that no line end stands in. -/
def flat (x : List Int) : Prop := ∀ c ∈ x, c ≠ 10 ∧ c ≠ 13
theorem flat_nil : flat [] := fun _ h => by cases h
theorem flat_cons {c : Int} {x : List Int} (h : c ≠ 10 ∧ c ≠ 13) (hx : flat x) : flat (c :: x) := fun d hd => by
  rcases List.mem_cons.1 hd with rfl | h2
  · exact h
  · exact hx d h2
theorem flat_tail {c : Int} {x : List Int} (h : flat (c :: x)) : flat x := fun d hd => h d (List.mem_cons_of_mem _ hd)
theorem pre_ne (c : Int) (L : List (List Int)) : pre c L ≠ [] := by cases L <;> simp [pre]
theorem lns_ne : ∀ l, lns l ≠ []
  | [] => by simp [lns]
  | c :: r => by
    rw [lns]
    split
    · simp
    · split
      · split
        · exact lns_ne r
        · simp
      · exact pre_ne _ _
theorem lns_flat : ∀ l, ∀ x ∈ lns l, flat x
  | [], x, h => by simp [lns] at h; subst h; exact flat_nil
  | c :: r, x, h => by
    rw [lns] at h
    split at h
    · rcases List.mem_cons.1 h with rfl | h2
      · exact flat_nil
      · exact lns_flat r x h2
    · split at h
      · split at h
        · exact lns_flat r x h
        · rcases List.mem_cons.1 h with rfl | h2
          · exact flat_nil
          · exact lns_flat r x h2
      · rename_i h1 h2
        have ih := lns_flat r
        have hne := lns_ne r
        revert h ih hne
        cases lns r with
        | nil => intro h ih hne; exact absurd rfl hne
        | cons y ys =>
          intro h ih hne
          rcases List.mem_cons.1 h with rfl | h3
          · exact flat_cons ⟨h1, h2⟩ (ih y (by simp))
          · exact ih x (by simp [h3])
theorem lns_mem : ∀ l, ∀ x ∈ lns l, ∀ c ∈ x, c ∈ l
  | [], x, h, c, hc => by simp [lns] at h; subst h; cases hc
  | d :: r, x, h, c, hc => by
    rw [lns] at h
    split at h
    · rcases List.mem_cons.1 h with rfl | h2
      · cases hc
      · exact List.mem_cons_of_mem _ (lns_mem r x h2 c hc)
    · split at h
      · split at h
        · exact List.mem_cons_of_mem _ (lns_mem r x h c hc)
        · rcases List.mem_cons.1 h with rfl | h2
          · cases hc
          · exact List.mem_cons_of_mem _ (lns_mem r x h2 c hc)
      · have ih := lns_mem r
        have hne := lns_ne r
        revert h ih hne
        cases lns r with
        | nil => intro h ih hne; exact absurd rfl hne
        | cons y ys =>
          intro h ih hne
          rcases List.mem_cons.1 h with rfl | h3
          · rcases List.mem_cons.1 hc with rfl | h4
            · simp
            · exact List.mem_cons_of_mem _ (ih y (by simp) c h4)
          · exact List.mem_cons_of_mem _ (ih x (by simp [h3]) c hc)
/-- A line and its end. -/
theorem lns_cut : ∀ (x r : List Int), flat x → lns (x ++ 10 :: r) = x :: lns r
  | [], r, _ => by simp [lns]
  | c :: x, r, h => by
    have hc := h c (by simp)
    rw [List.cons_append, lns, if_neg hc.1, if_neg hc.2, lns_cut x r (flat_tail h)]
    rfl
theorem lns_one : ∀ (x : List Int), flat x → lns x = [x]
  | [], _ => rfl
  | c :: x, h => by
    have hc := h c (by simp)
    rw [lns, if_neg hc.1, if_neg hc.2, lns_one x (flat_tail h)]
    rfl
theorem lns_jn : ∀ (L : List (List Int)), L ≠ [] → (∀ x ∈ L, flat x) → lns (jn L) = L
  | [], h, _ => absurd rfl h
  | [x], _, h => by rw [jn]; exact lns_one x (h x (by simp))
  | x :: y :: r, _, h => by
    rw [jn, lns_cut x _ (h x (by simp)), lns_jn (y :: r) (by simp) (fun z hz => h z (by simp [List.mem_cons.1 hz]))]
theorem jn_pre (c : Int) : ∀ (L : List (List Int)), L ≠ [] → jn (pre c L) = c :: jn L
  | [], h => absurd rfl h
  | [x], _ => rfl
  | x :: y :: r, _ => rfl
theorem jn_cons (x : List Int) (L : List (List Int)) (h : L ≠ []) : jn (x :: L) = x ++ 10 :: jn L := by
  cases L with
  | nil => exact absurd rfl h
  | cons y r => rfl
theorem jn_lns : ∀ (l : List Int), (∀ c ∈ l, c ≠ 13) → jn (lns l) = l
  | [], _ => rfl
  | c :: r, h => by
    have hc := h c (by simp)
    have ih := jn_lns r (fun d hd => h d (by simp [hd]))
    rw [lns]
    split
    · rename_i h1
      rw [jn_cons _ _ (lns_ne r), ih, h1]
      rfl
    · rw [jn_pre c _ (lns_ne r), ih]
/-- Lines with an end each, and what comes behind. -/
theorem lns_ends : ∀ (L : List (List Int)) (r : List Int), (∀ x ∈ L, flat x) → lns (L.flatMap (fun x => x ++ [10]) ++ r) = L ++ lns r
  | [], r, _ => by simp
  | x :: L, r, h => by
    rw [List.flatMap_cons, List.append_assoc, List.append_assoc, List.singleton_append, lns_cut x _ (h x (by simp)), lns_ends L r (fun z hz => h z (by simp [hz])), List.cons_append]
theorem jn_mem : ∀ (L : List (List Int)) (c : Int), c ∈ jn L → c = 10 ∨ ∃ x ∈ L, c ∈ x
  | [], c, h => by simp [jn] at h
  | [x], c, h => by rw [jn] at h; exact .inr ⟨x, by simp, h⟩
  | x :: y :: r, c, h => by
    rw [jn, List.mem_append, List.mem_cons] at h
    rcases h with h | h | h
    · exact .inr ⟨x, by simp, h⟩
    · exact .inl h
    · rcases jn_mem (y :: r) c h with h2 | ⟨z, hz, h2⟩
      · exact .inl h2
      · exact .inr ⟨z, by simp [List.mem_cons.1 hz], h2⟩

/-- Quotes: the escape, three of them, reading and guarding. -/
def esc4 (l : List Int) : Bool := l.take 4 == [92, 34, 34, 34]
def tri (l : List Int) : Bool := l.take 3 == [34, 34, 34]
def opn (l : List Int) : List Int :=
  match l with
  | [] => []
  | c :: r => if esc4 (c :: r) then 34 :: 34 :: 34 :: opn (r.drop 3) else c :: opn r
termination_by l.length
decreasing_by all_goals (simp; try omega)
def grd (l : List Int) : List Int :=
  match l with
  | [] => []
  | c :: r => if tri (c :: r) then 92 :: 34 :: 34 :: 34 :: grd (r.drop 2) else c :: grd r
termination_by l.length
decreasing_by all_goals (simp; try omega)
theorem opn_nil : opn [] = [] := by rw [opn]
theorem opn_yes {c : Int} {r : List Int} (h : esc4 (c :: r) = true) : opn (c :: r) = 34 :: 34 :: 34 :: opn (r.drop 3) := by rw [opn, if_pos h]
theorem opn_no {c : Int} {r : List Int} (h : esc4 (c :: r) = false) : opn (c :: r) = c :: opn r := by rw [opn, if_neg (by simp [h])]
theorem grd_nil : grd [] = [] := by rw [grd]
theorem grd_yes {c : Int} {r : List Int} (h : tri (c :: r) = true) : grd (c :: r) = 92 :: 34 :: 34 :: 34 :: grd (r.drop 2) := by rw [grd, if_pos h]
theorem grd_no {c : Int} {r : List Int} (h : tri (c :: r) = false) : grd (c :: r) = c :: grd r := by rw [grd, if_neg (by simp [h])]
theorem tri_form {l : List Int} (h : tri l = true) : ∃ r, l = 34 :: 34 :: 34 :: r := by
  match l, h with
  | a :: b :: c :: r, h =>
    simp [tri] at h
    obtain ⟨rfl, rfl, rfl⟩ := h
    exact ⟨r, rfl⟩
  | [], h => simp [tri] at h
  | [_], h => simp [tri] at h
  | [_, _], h => simp [tri] at h
theorem esc4_form {l : List Int} (h : esc4 l = true) : ∃ r, l = 92 :: 34 :: 34 :: 34 :: r := by
  match l, h with
  | a :: b :: c :: d :: r, h =>
    simp [esc4] at h
    obtain ⟨rfl, rfl, rfl, rfl⟩ := h
    exact ⟨r, rfl⟩
  | [], h => simp [esc4] at h
  | [_], h => simp [esc4] at h
  | [_, _], h => simp [esc4] at h
  | [_, _, _], h => simp [esc4] at h
theorem esc4_tri (c : Int) (l : List Int) : esc4 (c :: l) = (c == 92 && tri l) := by
  unfold esc4 tri
  rw [List.take_succ_cons]
  cases h : (c == 92) <;> simp_all
/-- What is guarded begins with a quote only where it did. -/
theorem grd_quote {l x : List Int} (h : grd l = 34 :: x) : ∃ r, l = 34 :: r ∧ tri l = false ∧ x = grd r := by
  cases l with
  | nil => rw [grd_nil] at h; cases h
  | cons c r =>
    cases ht : tri (c :: r)
    · rw [grd_no ht] at h
      injection h with h1 h2
      exact ⟨r, by rw [h1], rfl, h2.symm⟩
    · rw [grd_yes ht] at h
      injection h with h1 h2
      exact absurd h1 (by decide)
theorem grd_tri (l : List Int) : tri (grd l) = false := by
  cases h : tri (grd l)
  · rfl
  · exfalso
    obtain ⟨x, hx⟩ := tri_form h
    obtain ⟨r, h1, h2, h3⟩ := grd_quote hx
    obtain ⟨r2, h4, h5, h6⟩ := grd_quote h3.symm
    obtain ⟨r3, h7, h8, h9⟩ := grd_quote h6.symm
    rw [h1, h4, h7] at h2
    simp [tri] at h2
theorem opn_grd : ∀ (n : Nat) (l : List Int), l.length ≤ n → opn (grd l) = l
  | _, [], _ => by rw [grd_nil, opn_nil]
  | 0, c :: r, h => by simp at h
  | n + 1, c :: r, h => by
    cases ht : tri (c :: r)
    · rw [grd_no ht, opn_no, opn_grd n r (by simp at h; omega)]
      rw [esc4_tri, grd_tri]
      simp
    · rw [grd_yes ht, opn_yes (by simp [esc4])]
      obtain ⟨x, hx⟩ := tri_form ht
      injection hx with h1 h2
      have := opn_grd n (r.drop 2) (by simp at h ⊢; omega)
      simp only [List.drop_succ_cons, List.drop_zero]
      rw [this, h1, h2]
      rfl
theorem opn_grd' (l : List Int) : opn (grd l) = l := opn_grd l.length l (Nat.le_refl _)
theorem opn_mem : ∀ (n : Nat) (l : List Int), l.length ≤ n → ∀ c ∈ opn l, c ∈ l
  | _, [], _, c, h => by rw [opn_nil] at h; exact h
  | 0, d :: r, hl, _, _ => by simp at hl
  | n + 1, d :: r, hl, c, h => by
    cases he : esc4 (d :: r)
    · rw [opn_no he] at h
      rcases List.mem_cons.1 h with rfl | h2
      · simp
      · exact List.mem_cons_of_mem _ (opn_mem n r (by simp at hl; omega) c h2)
    · rw [opn_yes he] at h
      obtain ⟨x, hx⟩ := esc4_form he
      injection hx with h1 h2
      have ih := opn_mem n (r.drop 3) (by simp at hl ⊢; omega)
      simp only [List.mem_cons] at h
      rcases h with rfl | rfl | rfl | h
      · rw [h2]; simp
      · rw [h2]; simp
      · rw [h2]; simp
      · exact List.mem_cons_of_mem _ (List.mem_of_mem_drop (ih c h))
theorem grd_mem : ∀ (n : Nat) (l : List Int), l.length ≤ n → ∀ c ∈ grd l, c = 92 ∨ c ∈ l
  | _, [], _, c, h => by rw [grd_nil] at h; exact .inr h
  | 0, d :: r, hl, _, _ => by simp at hl
  | n + 1, d :: r, hl, c, h => by
    cases he : tri (d :: r)
    · rw [grd_no he] at h
      rcases List.mem_cons.1 h with rfl | h2
      · simp
      · rcases grd_mem n r (by simp at hl; omega) c h2 with h3 | h3
        · exact .inl h3
        · exact .inr (List.mem_cons_of_mem _ h3)
    · rw [grd_yes he] at h
      obtain ⟨x, hx⟩ := tri_form he
      injection hx with h1 h2
      have ih := grd_mem n (r.drop 2) (by simp at hl ⊢; omega)
      simp only [List.mem_cons] at h
      rcases h with rfl | rfl | rfl | rfl | h
      · exact .inl rfl
      · rw [h1]; simp
      · rw [h1]; simp
      · rw [h1]; simp
      · rcases ih c h with h3 | h3
        · exact .inl h3
        · exact .inr (List.mem_cons_of_mem _ (List.mem_of_mem_drop h3))
theorem grd_flat {l : List Int} (h : flat l) : flat (grd l) := fun c hc => by
  rcases grd_mem l.length l (Nat.le_refl _) c hc with rfl | h2
  · decide
  · exact h c h2
theorem opn_flat {l : List Int} (h : flat l) : flat (opn l) := fun c hc => h c (opn_mem l.length l (Nat.le_refl _) c hc)
/-- Which insides may stand. -/
def std (l : List Int) (q : Nat) (last : Int) : Bool :=
  match l with
  | [] => !(last == 34) && !(last == 92)
  | c :: r => soB c && if esc4 (c :: r) then std (r.drop 3) 0 0 else if (if c = 34 then q + 1 else 0) = 3 then false else std r (if c = 34 then q + 1 else 0) c
termination_by l.length
decreasing_by all_goals (simp; try omega)
theorem std_nil (q : Nat) (last : Int) : std [] q last = (!(last == 34) && !(last == 92)) := by rw [std]
theorem std_yes {c : Int} {r : List Int} (q : Nat) (last : Int) (h : esc4 (c :: r) = true) : std (c :: r) q last = std (r.drop 3) 0 0 := by
  rw [std, if_pos h]
  obtain ⟨x, hx⟩ := esc4_form h
  injection hx with h1 h2
  rw [h1]
  rfl
theorem std_no {c : Int} {r : List Int} (q : Nat) (last : Int) (h : esc4 (c :: r) = false) (hc : c ≠ 34) : std (c :: r) q last = (soB c && std r 0 c) := by
  rw [std, if_neg (by simp [h]), if_neg hc, if_neg (by decide)]
theorem std_quote {r : List Int} (q : Nat) (last : Int) : std (34 :: r) q last = (if q = 2 then false else std r (q + 1) 34) := by
  rw [std, if_neg (by rw [esc4_tri]; simp), if_pos rfl]
  have : soB 34 = true := by decide
  rw [this, Bool.true_and]
  by_cases h : q = 2
  · rw [if_pos h, if_pos (by omega)]
  · rw [if_neg h, if_neg (by omega)]
theorem std_grd : ∀ (n : Nat) (l t : List Int) (q : Nat) (last : Int), l.length ≤ n → q ≤ 2 → (q = 0 ∨ tri (List.replicate q 34 ++ l) = false) → (∀ c ∈ l, soB c = true) → std (grd l ++ 10 :: t) q last = std t 0 10
  | _, [], t, q, last, _, _, _, _ => by
    rw [grd_nil, List.nil_append, std_no q last (by rw [esc4_tri]; simp) (by decide)]
    rfl
  | 0, c :: r, _, _, _, h, _, _, _ => by simp at h
  | n + 1, c :: r, t, q, last, h, hq, hi, hs => by
    have hr : r.length ≤ n := by simp at h; omega
    cases ht : tri (c :: r)
    · rw [grd_no ht, List.cons_append]
      have he : esc4 (c :: (grd r ++ 10 :: t)) = false := by
        rw [esc4_tri]
        cases h3 : tri (grd r ++ 10 :: t)
        · simp
        · exfalso
          obtain ⟨x, hx⟩ := tri_form h3
          have hg := grd_tri r
          revert hx hg
          cases grd r with
          | nil => intro hx; simp at hx
          | cons a y =>
            cases y with
            | nil => intro hx; simp at hx
            | cons b z =>
              cases z with
              | nil => intro hx; simp at hx
              | cons d u =>
                intro hx hg
                simp at hx
                obtain ⟨rfl, rfl, rfl, _⟩ := hx
                simp [tri] at hg
      by_cases hc : c = 34
      · subst hc
        rw [std_quote]
        have hq2 : q ≠ 2 := by
          rintro rfl
          rcases hi with h0 | h0
          · cases h0
          · simp [tri] at h0
        rw [if_neg hq2]
        refine std_grd n r t (q + 1) 34 hr (by omega) (.inr ?_) (fun d hd => hs d (by simp [hd]))
        by_cases q0 : q = 0
        · subst q0
          exact ht
        · have q1 : q = 1 := by omega
          subst q1
          rcases hi with h0 | h0
          · cases h0
          · exact h0
      · rw [std_no q last he hc, hs c (by simp), Bool.true_and]
        exact std_grd n r t 0 c hr (by omega) (.inl rfl) (fun d hd => hs d (by simp [hd]))
    · rw [grd_yes ht, List.cons_append, std_yes q last (by simp [esc4])]
      simp only [List.cons_append, List.drop_succ_cons, List.drop_zero]
      exact std_grd n (r.drop 2) t 0 0 (by simp; omega) (by omega) (.inl rfl) (fun d hd => hs d (List.mem_cons_of_mem _ (List.mem_of_mem_drop hd)))
theorem std_ends : ∀ (L : List (List Int)) (q : Nat) (last : Int), q = 0 → last ≠ 34 → last ≠ 92 → (∀ x ∈ L, ∀ c ∈ x, soB c = true) → std (L.flatMap (fun x => grd x ++ [10])) q last = true
  | [], q, last, _, h1, h2, _ => by
    rw [List.flatMap_nil, std_nil]
    simp [h1, h2]
  | x :: L, q, last, hq, h1, h2, hs => by
    rw [List.flatMap_cons, List.append_assoc, List.singleton_append, std_grd x.length x _ q last (Nat.le_refl _) (by omega) (.inl hq) (hs x (by simp))]
    exact std_ends L 0 10 rfl (by decide) (by decide) (fun z hz => hs z (by simp [hz]))
theorem std_so : ∀ (n : Nat) (l : List Int) (q : Nat) (last : Int), l.length ≤ n → std l q last = true → ∀ c ∈ l, soB c = true
  | _, [], _, _, _, _, c, hc => by cases hc
  | 0, d :: r, _, _, h, _, _, _ => by simp at h
  | n + 1, d :: r, q, last, h, hs, c, hc => by
    cases he : esc4 (d :: r)
    · by_cases h34 : d = 34
      · subst h34
        rw [std_quote] at hs
        split at hs
        · cases hs
        · rcases List.mem_cons.1 hc with rfl | h2
          · decide
          · exact std_so n r _ _ (by simp at h; omega) hs c h2
      · rw [std_no q last he h34, Bool.and_eq_true] at hs
        rcases List.mem_cons.1 hc with rfl | h2
        · exact hs.1
        · exact std_so n r _ _ (by simp at h; omega) hs.2 c h2
    · rw [std_yes q last he] at hs
      obtain ⟨x, hx⟩ := esc4_form he
      rw [hx] at hc
      injection hx with h1 h2
      rw [h2] at hs h
      have ih := std_so n x 0 0 (by simp at h; omega) hs
      simp only [List.mem_cons] at hc
      rcases hc with rfl | rfl | rfl | rfl | hc
      · decide
      · decide
      · decide
      · decide
      · exact ih c hc
end Go.Proofs.YtmhelpocddndjaaGreat.sv
namespace Go.Proofs.YtmhelpocddndjaaGreat.sv
open mem
set_option linter.unusedVariables false

/-- Stage 1's lines are these lines. -/
theorem lns_cr : ∀ (x r : List Int), flat x → r.head? ≠ some 10 → lns (x ++ 13 :: r) = x :: lns r
  | [], r, _, h => by simp [lns, h]
  | c :: x, r, h, hr => by
    have hc := h c (by simp)
    rw [List.cons_append, lns, if_neg hc.1, if_neg hc.2, lns_cr x r (flat_tail h) hr]
    rfl
theorem lns_crlf : ∀ (x r : List Int), flat x → lns (x ++ 13 :: 10 :: r) = x :: lns r
  | [], r, _ => by simp [lns]
  | c :: x, r, h => by
    have hc := h c (by simp)
    rw [List.cons_append, lns, if_neg hc.1, if_neg hc.2, lns_crlf x r (flat_tail h)]
    rfl
theorem noEnd (l : List Int) (k : Nat) : ∀ j, (linesTo l k).2 ≤ j → j < k → enB l j = false := by
  induction k with
  | zero => intro j _ h; omega
  | succ k ih =>
    intro j h1 h2
    rw [linesTo] at h1
    cases he : enB l k
    · rw [he] at h1
      simp only [Bool.false_eq_true, if_false] at h1
      by_cases e : j = k
      · rw [e]; exact he
      · exact ih j h1 (by omega)
    · rw [he] at h1
      simp only [if_true] at h1
      omega
theorem getD_drop (l : List Int) (a i : Nat) : (l.drop a).getD i 0 = l.getD (a + i) 0 := by simp [List.getD]
theorem mem_cut {l : List Int} {a b : Nat} {c : Int} (h : c ∈ cut l a b) : ∃ j, a ≤ j ∧ j < b ∧ j < l.length ∧ l.getD j 0 = c := by
  obtain ⟨i, hi, e⟩ := List.mem_iff_getElem.1 h
  have hi2 : i < b - a ∧ a + i < l.length := by simp [cut] at hi; omega
  refine ⟨a + i, by omega, by omega, hi2.2, ?_⟩
  rw [← e]
  simp [cut, List.getD, hi2.2]
theorem cut_flat (l : List Int) (k : Nat) (hk : k ≤ l.length) : flat (cut l (linesTo l k).2 (toOf l k)) := by
  intro c hc
  obtain ⟨j, h1, h2, h3, h4⟩ := mem_cut hc
  have hft := from_to l k
  have hn := noEnd l k j h1 (by omega)
  unfold enB at hn
  rw [h4] at hn
  simp only [Bool.or_eq_false_iff, Bool.and_eq_false_iff, beq_eq_false_iff_ne, Bool.not_eq_false'] at hn
  refine ⟨hn.1, ?_⟩
  rcases hn.2 with h5 | h5
  · exact h5
  · exfalso
    have h6 := h5
    simp only [prB, Bool.and_eq_true, decide_eq_true_eq, beq_iff_eq] at h6
    by_cases e : j + 1 = k
    · have : toOf l k = k - 1 := by
        unfold toOf
        have : k - 1 = j := by omega
        rw [this, if_pos ⟨by omega, h5⟩]
      omega
    · have hn2 := noEnd l k (j + 1) (by omega) (by omega)
      unfold enB at hn2
      rw [h6.2] at hn2
      simp at hn2
theorem drop_cut (l : List Int) (a b : Nat) (h : a ≤ b) : l.drop a = cut l a b ++ l.drop b := by
  unfold cut
  conv => lhs; rw [← List.take_append_drop (b - a) (l.drop a)]
  rw [List.drop_drop]
  congr 2
  omega
theorem drop_at {l : List Int} {k : Nat} (h : k < l.length) : l.drop k = l.getD k 0 :: l.drop (k + 1) := by
  rw [List.drop_eq_getElem_cons h]
  simp [List.getD, h]
theorem lns_to (l : List Int) : ∀ k, k ≤ l.length → lns l = (linesTo l k).1 ++ lns (l.drop (linesTo l k).2)
  | 0, _ => by simp [linesTo]
  | k + 1, h => by
    have ih := lns_to l k (by omega)
    have hcf := cut_flat l k (by omega)
    have hft := from_to l k
    rw [linesTo]
    cases he : enB l k
    · simpa using ih
    · simp only [if_true]
      rw [ih, List.append_assoc, List.singleton_append]
      congr 1
      rw [drop_cut l _ _ hft.1]
      by_cases hp : 1 ≤ k ∧ prB l (k - 1) = true
      · have ht : toOf l k = k - 1 := by unfold toOf; rw [if_pos hp]
        have hp2 := hp.2
        simp only [prB, Bool.and_eq_true, decide_eq_true_eq, beq_iff_eq] at hp2
        have hk1 : k - 1 + 1 = k := by omega
        rw [hk1] at hp2
        have e1 : l.drop (toOf l k) = 13 :: 10 :: l.drop (k + 1) := by rw [ht, drop_at (by omega), hk1, drop_at (by omega), hp2.1.2, hp2.2]
        rw [e1, lns_crlf _ _ hcf]
      · have ht : toOf l k = k := by unfold toOf; rw [if_neg hp]
        have e1 : l.drop (toOf l k) = l.getD k 0 :: l.drop (k + 1) := by rw [ht, drop_at (by omega)]
        rw [e1]
        have he2 := he
        unfold enB at he2
        simp only [Bool.or_eq_true, Bool.and_eq_true, beq_iff_eq, Bool.not_eq_true'] at he2
        rcases he2 with h5 | ⟨h5, h6⟩
        · rw [h5, lns_cut _ _ hcf]
        · rw [h5, lns_cr _ _ hcf]
          intro h7
          rw [← Bool.not_eq_true] at h6
          apply h6
          have hlt : k + 1 < l.length := by
            by_cases h8 : k + 1 < l.length
            · exact h8
            · rw [List.drop_eq_nil_of_le (by omega)] at h7; cases h7
          simp only [prB, Bool.and_eq_true, decide_eq_true_eq, beq_iff_eq]
          refine ⟨⟨hlt, h5⟩, ?_⟩
          rw [drop_at hlt] at h7
          simpa using h7
theorem linesL_eq (l : List Int) : linesL l = lns l := by
  rw [lns_to l l.length (Nat.le_refl _)]
  unfold linesL
  congr 1
  have h := cut_flat l l.length (Nat.le_refl _)
  have hft := from_to l l.length
  have ht : toOf l l.length = l.length := by
    unfold toOf
    rw [if_neg]
    rintro ⟨h1, h2⟩
    simp only [prB, Bool.and_eq_true, decide_eq_true_eq] at h2
    omega
  rw [ht] at h
  have e : cut l (linesTo l l.length).2 l.length = l.drop (linesTo l l.length).2 := by
    unfold cut
    exact List.take_of_length_le (by simp)
  rw [e] at h
  rw [lns_one _ h]
end Go.Proofs.YtmhelpocddndjaaGreat.sv
namespace Go.Proofs.YtmhelpocddndjaaGreat.sv
set_option linter.unusedVariables false

/-- The least of the indents of the lines that aren't blank; none: 0. -/
def lst : List (List Int) → Option Nat
  | [] => none
  | x :: L => if blk x then lst L else some (match lst L with | none => ind x | some m => min (ind x) m)
def cmn (L : List (List Int)) : Nat := (lst (L.drop 1)).getD 0
def cutL (n : Nat) : List (List Int) → List (List Int)
  | [] => []
  | x :: L => x :: L.map (List.drop n)
def trm (L : List (List Int)) : List (List Int) := ((L.dropWhile blk).reverse.dropWhile blk).reverse
def ddt (L : List (List Int)) : List (List Int) := trm (cutL (cmn L) L)
def blo (l : List Int) : Option (List Int) := if std l 0 0 then some (jn (ddt ((lns l).map opn))) else none
/-- Has a block string the value of these lines? -/
def pos (L : List (List Int)) : Bool := match L with
  | [] => false
  | x :: r => !blk x && !blk ((x :: r).getLastD []) && ((x :: r).any (fun l => ind l == 0 && !blk l) || r.isEmpty)
def ins (L : List (List Int)) : List Int :=
  if (L.length == 1 && whB ((L.headD []).headD 0)) = true then L.flatMap (fun x => grd x ++ [10]) else 10 :: L.flatMap (fun x => grd x ++ [10])
/-- The inside of a value's block string. -/
def btx (v : List Int) : Option (List Int) :=
  if (v.all soB && !v.contains 13) = false then none else if v = [] then some [] else if pos (lns v) then some (ins (lns v)) else none

theorem ind_le (l : List Int) : ind l ≤ l.length := by
  unfold ind
  exact (List.takeWhile_prefix whB).length_le
theorem blk_ind (l : List Int) : blk l = (ind l == l.length) := by
  induction l with
  | nil => rfl
  | cons c r ih =>
    unfold blk ind at ih ⊢
    rw [List.all_cons, List.takeWhile_cons]
    cases h : whB c
    · simp
    · simp [ih]
theorem blk_nil : blk [] = true := rfl
theorem ind0 {c : Int} {r : List Int} (h : whB c = false) : ind (c :: r) = 0 := by unfold ind; rw [List.takeWhile_cons, h]; rfl
/-- What is left of a line behind its own indent. -/
theorem ind_drop : ∀ (l : List Int) (n : Nat), n ≤ ind l → ind (l.drop n) = ind l - n
  | l, 0, _ => by simp
  | [], n + 1, h => by simp [ind] at h
  | c :: r, n + 1, h => by
    cases hc : whB c
    · rw [ind0 hc] at h; omega
    · have e : ind (c :: r) = ind r + 1 := by unfold ind; rw [List.takeWhile_cons, hc]; simp
      rw [e] at h ⊢
      rw [List.drop_succ_cons, ind_drop r n (by omega)]
      omega
theorem blk_drop (l : List Int) (n : Nat) (h : n ≤ ind l) : blk (l.drop n) = blk l := by
  rw [blk_ind, blk_ind, ind_drop l n h, List.length_drop]
  have := ind_le l
  rw [Bool.eq_iff_iff, beq_iff_eq, beq_iff_eq]
  omega
theorem blk_drop_yes (l : List Int) (n : Nat) (h : blk l = true) : blk (l.drop n) = true := by
  unfold blk at h ⊢
  rw [List.all_eq_true] at h ⊢
  exact fun c hc => h c (List.mem_of_mem_drop hc)
/-- The least: it is one of them, and none is less. -/
theorem lst_none {L : List (List Int)} (h : lst L = none) : ∀ x ∈ L, blk x = true := by
  induction L with
  | nil => intro x hx; cases hx
  | cons y L ih =>
    rw [lst] at h
    cases hb : blk y
    · rw [hb] at h; simp at h
    · rw [hb, if_pos rfl] at h
      intro x hx
      rcases List.mem_cons.1 hx with rfl | h2
      · exact hb
      · exact ih h x h2
theorem lst_some {L : List (List Int)} {m : Nat} (h : lst L = some m) : (∃ x ∈ L, blk x = false ∧ ind x = m) ∧ ∀ x ∈ L, blk x = false → m ≤ ind x := by
  induction L generalizing m with
  | nil => cases h
  | cons y L ih =>
    rw [lst] at h
    cases hb : blk y
    · rw [hb] at h
      simp only [Bool.false_eq_true, if_false, Option.some.injEq] at h
      cases hL : lst L with
      | none =>
        rw [hL] at h
        simp only at h
        refine ⟨⟨y, by simp, hb, h⟩, fun x hx hx2 => ?_⟩
        rcases List.mem_cons.1 hx with rfl | h2
        · omega
        · rw [lst_none hL x h2] at hx2; cases hx2
      | some k =>
        rw [hL] at h
        simp only at h
        obtain ⟨⟨z, hz, hz2, hz3⟩, h4⟩ := ih hL
        refine ⟨?_, fun x hx hx2 => ?_⟩
        · by_cases hle : ind y ≤ k
          · exact ⟨y, by simp, hb, by omega⟩
          · exact ⟨z, by simp [hz], hz2, by omega⟩
        · rcases List.mem_cons.1 hx with rfl | h2
          · omega
          · have := h4 x h2 hx2; omega
    · rw [hb, if_pos rfl] at h
      obtain ⟨⟨z, hz, hz2, hz3⟩, h4⟩ := ih h
      refine ⟨⟨z, by simp [hz], hz2, hz3⟩, fun x hx hx2 => ?_⟩
      rcases List.mem_cons.1 hx with rfl | h2
      · rw [hb] at hx2; cases hx2
      · exact h4 x h2 hx2
theorem lst_zero {L : List (List Int)} (h : ∃ x ∈ L, blk x = false ∧ ind x = 0) : lst L = some 0 := by
  cases hL : lst L with
  | none =>
    obtain ⟨x, hx, hx2, _⟩ := h
    rw [lst_none hL x hx] at hx2; cases hx2
  | some m =>
    obtain ⟨x, hx, hx2, hx3⟩ := h
    have := (lst_some hL).2 x hx hx2
    have : m = 0 := by omega
    rw [this]
/-- Trimming. -/
theorem dropWhile_all {α : Type} {p : α → Bool} : ∀ {l : List α}, (∀ x ∈ l, p x = true) → l.dropWhile p = []
  | [], _ => rfl
  | x :: l, h => by rw [List.dropWhile_cons, h x (by simp), if_pos rfl]; exact dropWhile_all (fun y hy => h y (by simp [hy]))
theorem dropWhile_app {α : Type} {p : α → Bool} : ∀ {a b : List α}, (∀ x ∈ a, p x = true) → (a ++ b).dropWhile p = b.dropWhile p
  | [], b, _ => rfl
  | x :: a, b, h => by rw [List.cons_append, List.dropWhile_cons, h x (by simp), if_pos rfl]; exact dropWhile_app (fun y hy => h y (by simp [hy]))
theorem dropWhile_no {α : Type} {p : α → Bool} {x : α} {l : List α} (h : p x = false) : (x :: l).dropWhile p = x :: l := by rw [List.dropWhile_cons, h]; rfl
theorem dropWhile_app_no {α : Type} {p : α → Bool} : ∀ {a b : List α}, (∃ x ∈ a, p x = false) → (a ++ b).dropWhile p = a.dropWhile p ++ b
  | [], b, h => by obtain ⟨x, hx, _⟩ := h; cases hx
  | y :: a, b, h => by
    rw [List.cons_append, List.dropWhile_cons, List.dropWhile_cons]
    cases hy : p y
    · simp
    · simp only [if_true]
      obtain ⟨x, hx, hx2⟩ := h
      rcases List.mem_cons.1 hx with rfl | h2
      · rw [hy] at hx2; cases hx2
      · exact dropWhile_app_no ⟨x, h2, hx2⟩
theorem dropWhile_head {α : Type} {p : α → Bool} : ∀ {l : List α} {x : α} {r : List α}, l.dropWhile p = x :: r → p x = false
  | [], x, r, h => by cases h
  | y :: l, x, r, h => by
    rw [List.dropWhile_cons] at h
    cases hy : p y
    · rw [hy] at h
      simp only [Bool.false_eq_true, if_false, List.cons.injEq] at h
      rw [← h.1]; exact hy
    · rw [hy, if_pos rfl] at h
      exact dropWhile_head h
theorem dropWhile_mem {α : Type} {p : α → Bool} {x : α} : ∀ {l : List α}, x ∈ l → p x = false → x ∈ l.dropWhile p
  | [], h, _ => by cases h
  | y :: l, h, hp => by
    rw [List.dropWhile_cons]
    cases hy : p y
    · simpa using h
    · rw [if_pos rfl]
      rcases List.mem_cons.1 h with rfl | h2
      · rw [hy] at hp; cases hp
      · exact dropWhile_mem h2 hp
theorem mem_dropWhile {α : Type} {p : α → Bool} {x : α} : ∀ {l : List α}, x ∈ l.dropWhile p → x ∈ l
  | [], h => h
  | y :: l, h => by
    rw [List.dropWhile_cons] at h
    cases hy : p y
    · rw [hy] at h; simpa using h
    · rw [hy, if_pos rfl] at h
      exact List.mem_cons_of_mem _ (mem_dropWhile h)
theorem trm_mem {L : List (List Int)} {x : List Int} (h : x ∈ L) (hb : blk x = false) : x ∈ trm L := by
  unfold trm
  rw [List.mem_reverse]
  exact dropWhile_mem (by rw [List.mem_reverse]; exact dropWhile_mem h hb) hb
theorem mem_trm {L : List (List Int)} {x : List Int} (h : x ∈ trm L) : x ∈ L := by
  unfold trm at h
  rw [List.mem_reverse] at h
  have := mem_dropWhile h
  rw [List.mem_reverse] at this
  exact mem_dropWhile this
/-- Blank lines at both ends, and lines between that are not blank at their ends. -/
theorem trm_mid {A B M : List (List Int)} (hA : ∀ x ∈ A, blk x = true) (hB : ∀ x ∈ B, blk x = true) (h1 : ∃ x r, M = x :: r ∧ blk x = false) (h2 : ∃ x r, M = r ++ [x] ∧ blk x = false) : trm (A ++ M ++ B) = M := by
  unfold trm
  rw [List.append_assoc, dropWhile_app hA]
  obtain ⟨x, r, e, hx⟩ := h1
  have e1 : (M ++ B).dropWhile blk = M ++ B := by rw [e, List.cons_append, dropWhile_no hx]
  rw [e1, List.reverse_append, dropWhile_app (fun y hy => hB y (by simpa using hy))]
  obtain ⟨y, s, e2, hy⟩ := h2
  rw [e2, List.reverse_append, List.reverse_singleton, List.singleton_append, dropWhile_no hy]
  simp
/-- Any lines: what is trimmed away, and what is left. -/
theorem trm_form (L : List (List Int)) : (trm L = [] ∧ ∀ x ∈ L, blk x = true) ∨ ∃ A B, L = A ++ trm L ++ B ∧ (∀ x ∈ A, blk x = true) ∧ (∀ x ∈ B, blk x = true) ∧ (∃ x r, trm L = x :: r ∧ blk x = false) ∧ (∃ x r, trm L = r ++ [x] ∧ blk x = false) := by
  by_cases h : ∃ x ∈ L, blk x = false
  · right
    have hA : ∀ (K : List (List Int)), ∃ A, K = A ++ K.dropWhile blk ∧ ∀ x ∈ A, blk x = true := fun K => ⟨K.takeWhile blk, (List.takeWhile_append_dropWhile).symm, fun x hx => by
      have := List.all_takeWhile (l := K) (p := blk)
      rw [List.all_eq_true] at this
      exact this x hx⟩
    obtain ⟨A, hA1, hA2⟩ := hA L
    obtain ⟨B, hB1, hB2⟩ := hA (L.dropWhile blk).reverse
    have hm : L.dropWhile blk = trm L ++ B.reverse := by
      have := congrArg List.reverse hB1
      rw [List.reverse_reverse, List.reverse_append] at this
      exact this
    obtain ⟨x, hx, hx2⟩ := h
    have hx3 := trm_mem hx hx2
    refine ⟨A, B.reverse, ?_, hA2, fun y hy => hB2 y (by simpa using hy), ?_, ?_⟩
    · rw [List.append_assoc, ← hm]; exact hA1
    · cases ht : trm L with
      | nil => rw [ht] at hx3; cases hx3
      | cons y r =>
        rw [ht, List.cons_append] at hm
        exact ⟨y, r, rfl, dropWhile_head hm⟩
    · unfold trm at hx3 ⊢
      cases ht : (L.dropWhile blk).reverse.dropWhile blk with
      | nil => rw [ht] at hx3; cases hx3
      | cons y r => exact ⟨y, r.reverse, by simp, dropWhile_head ht⟩
  · left
    have h2 : ∀ x ∈ L, blk x = true := fun x hx => by
      cases hb : blk x
      · exact absurd ⟨x, hx, hb⟩ h
      · rfl
    refine ⟨?_, h2⟩
    unfold trm
    rw [dropWhile_all h2]
    rfl
end Go.Proofs.YtmhelpocddndjaaGreat.sv
namespace Go.Proofs.YtmhelpocddndjaaGreat.sv
open Go.ChangeShapes Go.WideShapes Go.ChangeAt Go.RowKit
open mem
open ints (hide unhide soP)
set_option linter.unusedVariables false
theorem whB_eq (c : Int) : whB c = (decide (c = 9) || decide (c = 32)) := by unfold whB; simp [BEq.beq]
/-- how far the white characters go -/
theorem ind_all (l : List Int) (h : ∀ j, j < l.length → whB (l.getD j 0) = true) : ind l = l.length := by
  have hb : blk l = true := by
    unfold blk
    rw [List.all_eq_true]
    intro x hx
    obtain ⟨i, hi, rfl⟩ := List.mem_iff_getElem.1 hx
    have := h i hi
    simpa [List.getD, hi] using this
  rw [blk_ind] at hb
  exact beq_iff_eq.1 hb
theorem ind_stop : ∀ (l : List Int) (k : Nat), k < l.length → (∀ j, j < k → whB (l.getD j 0) = true) → whB (l.getD k 0) = false → ind l = k
  | [], k, h, _, _ => by simp at h
  | c :: r, 0, _, _, h => ind0 (by simpa using h)
  | c :: r, k + 1, h, h1, h2 => by
    have hc : whB c = true := by simpa using h1 0 (by omega)
    have e : ind (c :: r) = ind r + 1 := by unfold ind; rw [List.takeWhile_cons, hc]; simp
    rw [e, ind_stop r k (by simp at h; omega) (fun j hj => by simpa using h1 (j + 1) (by omega)) (by simpa using h2)]
set_option maxHeartbeats 1000000 in
theorem indent_ok (a : Option Addr) (n c : Nat) (l : List Int) (w : World) (h : Row .i32 w a n c l) (hn : n ≤ 9223372036854775806) :
    Calls Tryz.prog 121 #[.slice a n c] w fun e w' => e = .returned (.int .i64 (ind l : Nat)) ∧ w' = w := by
  have HL := hide h.len
  go_enter Tryz.func121, Tryz.ntmps121
  go_wp2
  go_loopw [7] (fun i wr => ∃ k : Nat, k ≤ n ∧ i = .int .i64 k ∧ wr = w ∧ Hid (∀ j, j < k → whB (l.getD j 0) = true)) (fun i _ => n - (intOf i).toNat)
  case atStart => exact ⟨0, Nat.zero_le _, rfl, rfl, hide (fun j hj => by omega)⟩
  case round =>
    obtain ⟨k, hk, rfl, rfl, hw⟩ := hrel
    by_cases hlt : k < n
    · rcases h.at_ with h0 | ⟨b, off, rfl, hbw, hcell⟩
      · omega
      have c1 := hcell k hlt
      obtain ⟨x, hx⟩ : ∃ x, x = l.getD k 0 := ⟨_, rfl⟩
      rw [← hx] at c1
      have Hx := hide hx
      clear hx hcell
      by_cases h9 : x = 9
      · subst h9
        go_wp2
        refine ⟨⟨k + 1, by omega, rfl, trivial, hide (fun j hj => ?_)⟩, by simp only [intOf]; omega⟩
        by_cases e : j = k
        · subst e; rw [← unhide Hx]; rfl
        · exact unhide hw j (by omega)
      · by_cases h32 : x = 32
        · subst h32
          go_wp2
          refine ⟨⟨k + 1, by omega, rfl, trivial, hide (fun j hj => ?_)⟩, by simp only [intOf]; omega⟩
          by_cases e : j = k
          · subst e; rw [← unhide Hx]; rfl
          · exact unhide hw j (by omega)
        · have b9 : (x != 9) = true := by simp [h9]
          have b32 : (x != 32) = true := by simp [h32]
          go_wp2
          go_ret
          have e : ind l = k := ind_stop l k (by rw [unhide HL]; exact hlt) (unhide hw) (by rw [← unhide Hx]; simp [whB, h9, h32])
          rw [e]
          exact ⟨rfl, rfl⟩
    · obtain rfl : k = n := by omega
      go_wp2
      go_ret
      have e : ind l = k := by rw [ind_all l (fun j hj => unhide hw j (by rw [← unhide HL]; exact hj)), unhide HL]
      rw [e]
      exact ⟨rfl, rfl⟩
theorem blank_ok (a : Option Addr) (n c : Nat) (l : List Int) (w : World) (h : Row .i32 w a n c l) (hn : n ≤ 9223372036854775806) :
    Calls Tryz.prog 110 #[.slice a n c] w fun e w' => e = .returned (.bool (blk l)) ∧ w' = w := by
  have I := hide (fun W (hW : Row .i32 W a n c l) => indent_ok a n c l W hW hn)
  have e : blk l = (((ind l : Nat) : Int) == (n : Int)) := by
    rw [blk_ind, h.len, Bool.eq_iff_iff, beq_iff_eq, beq_iff_eq]
    omega
  rw [e]
  obtain ⟨m, hm⟩ : ∃ m, m = ind l := ⟨_, rfl⟩
  rw [← hm] at I ⊢
  clear e hm
  go_enter Tryz.func110, Tryz.ntmps110
  go_wp2_with fail
  refine (unhide I _ h).mono ?_
  rintro e w1 ⟨rfl, rfl⟩
  clear I
  go_wp2
  go_ret
  exact ⟨rfl, rfl⟩
/-- lines that are read -/
structure Lns (w : World) (b off n c : Nat) (L : List (List Int)) : Prop where
  len : L.length = n
  le : n ≤ c
  lt : b < w.heap.size
  at_ : ∀ i, i < n → ∃ ai ci, w.cell? ⟨b, off + i, none⟩ = some (.slice ai (L.getD i []).length ci) ∧ Row .i32 w ai (L.getD i []).length ci (L.getD i []) ∧ ∃ bi oi, ai = some ⟨bi, oi, none⟩
theorem Lns.below {w w' : World} {b off n c : Nat} {L : List (List Int)} (h : Lns w b off n c L) (hb : Below w.heap.size w w') : Lns w' b off n c L :=
  ⟨h.len, h.le, Nat.lt_of_lt_of_le h.lt hb.size, fun i hi => by
    obtain ⟨ai, ci, h1, h2, h3⟩ := h.at_ i hi
    exact ⟨ai, ci, (hb.cell (p := ⟨b, off + i, none⟩) h.lt).trans h1, h2.below hb, h3⟩⟩
theorem lns_of {w : World} {base : Nat} {v : Value} {gs : List Nat} {L : List (List Int)} (h : LinesAt w base v gs L) (hn : 0 < L.length) : ∃ b c, v = .slice (some ⟨b, 0, none⟩) L.length c ∧ Lns w b 0 L.length c L := by
  obtain ⟨h1, h2⟩ := h.own
  rcases h2 with ⟨_, h0⟩ | ⟨g, cap, cur, rfl, hg, hh, hnc, hcm, hcs, hx⟩
  · omega
  refine ⟨g, cap, rfl, rfl, hnc, (by rcases Nat.lt_or_ge g w.heap.size with h | h; exact h; rw [Array.getElem?_eq_none h] at hh; cases hh), fun i hi => ?_⟩
  have hr := own_row (h.each i hi)
  obtain ⟨a, cp, e, hrow⟩ := hr
  refine ⟨a, cp, ?_, hrow, ⟨_, _, by simp only [lineVal, Value.slice.injEq] at e; exact e.1.symm⟩⟩
  rw [Nat.zero_add]
  rw [World.ownsRow.cellAt (base := base) (e := 75) (size := 1) (n := L.length) (cap := cap) (xs := List.zipWith lineVal gs L) ⟨h1, .inr ⟨g, cap, cur, rfl, hg, hh, hnc, hcm, hcs, hx⟩⟩ _ (by omega)]
  rw [← e]
  have hl : i < gs.length := by rw [h.len]; exact hi
  rw [List.getElem?_zipWith]
  simp [List.getD, hi, hl]
theorem lst_snoc (L : List (List Int)) (x : List Int) : lst (L ++ [x]) = if blk x then lst L else some (match lst L with | none => ind x | some m => min (ind x) m) := by
  induction L with
  | nil => simp [lst]
  | cons y L ih =>
    rw [List.cons_append, lst, ih]
    cases hx : blk x
    · cases hy : blk y
      · simp only [Bool.false_eq_true, if_false]
        rw [lst, hy]
        cases lst L with
        | none => simp [Nat.min_comm]
        | some m => simp; omega
      · simp only [Bool.false_eq_true, if_false, if_true]
        rw [lst, hy, if_pos rfl]
    · cases hy : blk y
      · simp only [Bool.false_eq_true, if_false, if_true]
        rw [lst, hy]
        simp
      · simp only [if_true]
        rw [lst, hy, if_pos rfl]
/-- the least indent as the program holds it: -1 is none -/
def lsI (L : List (List Int)) : Int := match lst L with | none => -1 | some m => m
theorem lsI_snoc (L : List (List Int)) (x : List Int) : lsI (L ++ [x]) = if (ind x : Int) < (x.length : Int) ∧ (lsI L < 0 ∨ (ind x : Int) < lsI L) then (ind x : Int) else lsI L := by
  have hb := blk_ind x
  have hle := ind_le x
  unfold lsI
  rw [lst_snoc]
  cases hx : blk x
  · rw [hx] at hb
    have hlt : ind x < x.length := by
      have : ¬ ind x = x.length := fun e => by rw [e] at hb; simp at hb
      omega
    cases lst L with
    | none => simp only [Bool.false_eq_true, if_false]; rw [if_pos (by omega)]
    | some m =>
      simp only [Bool.false_eq_true, if_false]
      by_cases h : ind x < m
      · rw [if_pos (by omega)]; omega
      · rw [if_neg (by omega)]; omega
  · rw [hx] at hb
    have e : ind x = x.length := beq_iff_eq.1 hb.symm
    simp only [if_true]
    rw [if_neg (by omega)]
theorem take_snoc' (L : List (List Int)) (k : Nat) (h : k < L.length) : L.take (k + 1) = L.take k ++ [L.getD k []] := by
  rw [List.take_add_one]
  simp [List.getD, h]
theorem lsI_next (L : List (List Int)) (k : Nat) (h : k < L.length) : lsI (L.take (k + 1)) = if (ind (L.getD k []) : Int) < ((L.getD k []).length : Int) ∧ (lsI (L.take k) < 0 ∨ (ind (L.getD k []) : Int) < lsI (L.take k)) then (ind (L.getD k []) : Int) else lsI (L.take k) := by
  rw [take_snoc' L k h]
  exact lsI_snoc _ _
theorem lsI_ge (L : List (List Int)) : -1 ≤ lsI L := by
  unfold lsI
  cases lst L <;> simp only <;> omega
set_option maxHeartbeats 4000000 in
theorem least_ok (b off n c : Nat) (L : List (List Int)) (w : World) (h : Lns w b off n c L) (hn : n ≤ 9223372036854775806) (hm : ∀ i, (L.getD i []).length ≤ 1099511627776) :
    Calls Tryz.prog 122 #[.slice (some ⟨b, off, none⟩) n c] w fun e w' => e = .returned (.int .i64 (max (lsI L) 0)) ∧ Below w.heap.size w w' := by
  have HL := hide h.len
  go_enter Tryz.func122, Tryz.ntmps122
  go_wp2
  go_loopw [3, 9] (fun t i wr => ∃ k : Nat, k ≤ n ∧ i = .int .i64 k ∧ t = .int .i64 (lsI (L.take k)) ∧ Below w.heap.size w wr) (fun _ i _ => n - (intOf i).toNat)
  case atStart => exact ⟨0, Nat.zero_le _, rfl, rfl, Below.refl _ _⟩
  case round =>
    obtain ⟨k, hk, rfl, rfl, hb⟩ := hrel
    by_cases hlt : k < n
    · obtain ⟨ai, ci, h1, h2, _⟩ := (h.below hb).at_ k hlt
      have I := hide (fun W (hW : Row .i32 W ai (L.getD k []).length ci (L.getD k [])) => indent_ok ai _ ci _ W hW (by have := hm k; omega))
      have hsn := hide (lsI_next L k (by rw [unhide HL]; exact hlt))
      have hge := lsI_ge (L.take k)
      have hmk := hm k
      have H2 := hide h2
      obtain ⟨x, hx⟩ : ∃ x, x = L.getD k [] := ⟨_, rfl⟩
      rw [← hx] at h1 I hsn hmk H2
      obtain ⟨T, hT⟩ : ∃ T, T = lsI (L.take k) := ⟨_, rfl⟩
      rw [← hT] at hsn hge ⊢
      have hil := ind_le x
      obtain ⟨m, hm2⟩ : ∃ m, m = ind x := ⟨_, rfl⟩
      rw [← hm2] at I hsn hil
      obtain ⟨q, hq⟩ : ∃ q, q = x.length := ⟨_, rfl⟩
      rw [← hq] at h1 I hsn hmk hil H2
      clear hx hT hm2 hq h2 hm
      have hle := h.le
      have HB := hide hb
      by_cases c1 : (m : Int) < (q : Int)
      · by_cases c2 : T < 0
        · have e := hide (show lsI (L.take (k + 1)) = (m : Int) by rw [unhide hsn, if_pos ⟨c1, .inl c2⟩])
          go_wp2_with fail
          refine (unhide I _ (unhide H2)).mono ?_
          rintro e w1 ⟨rfl, rfl⟩
          go_wp2
          refine ⟨⟨k + 1, by omega, rfl, by rw [unhide e], unhide HB⟩, by simp only [intOf]; omega⟩
        · by_cases c3 : (m : Int) < T
          · have e := hide (show lsI (L.take (k + 1)) = (m : Int) by rw [unhide hsn, if_pos ⟨c1, .inr c3⟩])
            go_wp2_with fail
            refine (unhide I _ (unhide H2)).mono ?_
            rintro e w1 ⟨rfl, rfl⟩
            go_wp2
            refine ⟨⟨k + 1, by omega, rfl, by rw [unhide e], unhide HB⟩, by simp only [intOf]; omega⟩
          · have e := hide (show lsI (L.take (k + 1)) = T by rw [unhide hsn, if_neg (by omega)])
            go_wp2_with fail
            refine (unhide I _ (unhide H2)).mono ?_
            rintro e w1 ⟨rfl, rfl⟩
            go_wp2
            refine ⟨⟨k + 1, by omega, rfl, by rw [unhide e], unhide HB⟩, by simp only [intOf]; omega⟩
      · have e := hide (show lsI (L.take (k + 1)) = T by rw [unhide hsn, if_neg (by omega)])
        go_wp2_with fail
        refine (unhide I _ (unhide H2)).mono ?_
        rintro e w1 ⟨rfl, rfl⟩
        go_wp2
        refine ⟨⟨k + 1, by omega, rfl, by rw [unhide e], unhide HB⟩, by simp only [intOf]; omega⟩
    · obtain rfl : k = n := by omega
      have e : L.take k = L := List.take_of_length_le (by rw [unhide HL]; omega)
      rw [e]
      have hge := lsI_ge L
      obtain ⟨T, hT⟩ : ∃ T, T = lsI L := ⟨_, rfl⟩
      rw [← hT] at hge ⊢
      have HT := hide hT
      clear hT
      have HB := hide hb
      by_cases c0 : T < 0
      · have e2 := hide (show max T 0 = 0 by omega)
        go_wp2
        go_ret
        rw [← unhide HT, unhide e2]
        exact ⟨rfl, unhide HB⟩
      · have e2 := hide (show max T 0 = T by omega)
        go_wp2
        go_ret
        rw [← unhide HT, unhide e2]
        exact ⟨rfl, unhide HB⟩
end Go.Proofs.YtmhelpocddndjaaGreat.sv
